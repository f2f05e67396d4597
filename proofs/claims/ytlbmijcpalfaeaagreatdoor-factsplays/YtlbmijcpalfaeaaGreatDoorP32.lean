/-
  DcB, DcC, DcD.
-/
import Derived.Test.YtlbmijcpalfaeaaGreatDoorP31
set_option linter.unusedSimpArgs false
set_option linter.unusedVariables false
namespace Go.Proofs.YtlbmijcpalfaeaaGreatDoor
open Go.RowKit Go.Lib Go.Sort

/-- The least nodes in a list. -/
def lsLs (ll : List Nd) (q : Int) : Nd := ndA ll q.toNat
/-- A Shape, read. -/
structure ShR (w : World) (sh : Nat) (za : Option Addr) (zc : Nat) (la : Option Addr) (lc : Nat) (zs : List Int) (ll : List Nd) : Prop where
  z : w.cell? ⟨sh, 1, none⟩ = some (.slice za zs.length zc)
  l : w.cell? ⟨sh, 2, none⟩ = some (.slice la ll.length lc)
  zi : Ints w w.heap.size (.slice za zs.length zc) zs
  li : Nodes w w.heap.size (.slice la ll.length lc) ll
  len : ll.length = zs.length
theorem ShR.lt {w : World} {sh : Nat} {za : Option Addr} {zc : Nat} {la : Option Addr} {lc : Nat} {zs : List Int} {ll : List Nd} (h : ShR w sh za zc la lc zs ll) : sh < w.heap.size := World.block_lt_of_cell? w _ h.z
theorem ShR.below {w w' : World} {sh : Nat} {za : Option Addr} {zc : Nat} {la : Option Addr} {lc : Nat} {zs : List Int} {ll : List Nd} (h : ShR w sh za zc la lc zs ll) (hb : Below w.heap.size w w') : ShR w' sh za zc la lc zs ll :=
  ⟨(hb.cell (p := ⟨sh, 1, none⟩) h.lt).trans h.z, (hb.cell (p := ⟨sh, 2, none⟩) h.lt).trans h.l, h.zi.below hb hb.size, h.li.below hb hb.size, h.len⟩
theorem Nodes.cellN {w : World} {B : Nat} {ao : Option Addr} {n cap : Nat} {l : List Nd} (h : Nodes w B (.slice ao n cap) l) {i : Nat} (hi : i < l.length) : ∃ b o ka kc, ao = some ⟨b, o, none⟩ ∧ b < B ∧ NodeAt w B b (o + i * 4) (ndA l i) (.slice ka (ndA l i).kids.length kc) := by
  obtain ⟨ao', cap', h1, _, _, h2⟩ := h
  injection h1 with h1 _ _
  rcases h2 with h2 | ⟨b, o, h2, h3, h4⟩
  · subst h2; simp at hi
  · obtain ⟨kv, h5⟩ := h4 i hi
    obtain ⟨ka, kc, e, _⟩ := id h5.kids
    refine ⟨b, o, ka, kc, h1.trans h2, h3, ?_⟩
    rw [e] at h5
    exact h5
theorem Nodes.bnd {w : World} {B : Nat} {ao : Option Addr} {n cap : Nat} {l : List Nd} (h : Nodes w B (.slice ao n cap) l) : n = l.length ∧ l.length ≤ cap ∧ cap ≤ 9223372036854775807 := by
  obtain ⟨ao', cap', h1, h2, h3, _⟩ := h
  injection h1 with h1 h4 h5
  unfold maxLen at h3
  subst h5
  exact ⟨h4, h2, by omega⟩
/-- What Order answers, up to a size. -/
def OrdC (n : Nat) (sh : Nat) (za : Option Addr) (zc : Nat) (la : Option Addr) (lc : Nat) (zs : List Int) (ll : List Nd) (s : Int) (f : Nat) : Prop :=
  ∀ (p q : Int) (W : World), ShR W sh za zc la lc zs ll → InS n (szLs zs) s p → InS n (szLs zs) s q → szLs zs p < (f : Int) → szLs zs q < (f : Int) →
    Calls Tryz.prog 69 #[.pointer (some ⟨sh, 0, none⟩), .int .i64 p, .int .i64 q] W fun e w' => e = .returned (.int .i64 (ordO (szLs zs) (lsLs ll) f p q)) ∧ Below W.heap.size W w'

set_option maxRecDepth 20000 in
set_option maxHeartbeats 4000000 in
theorem nodes_any {n sh : Nat} {za : Option Addr} {zc : Nat} {la : Option Addr} {lc : Nat} {zs : List Int} {ll : List Nd} {s : Int} {f : Nat} (hO : OrdC n sh za zc la lc zs ll s f) (x y : Nd) (xa ya : Option Addr) (xc yc : Nat) (W : World) (hS : ShR W sh za zc la lc zs ll)
    (hx : Ints W W.heap.size (.slice xa x.kids.length xc) x.kids) (hy : Ints W W.heap.size (.slice ya y.kids.length yc) y.kids) (fx : formB x = true) (fy : formB y = true) (kx : ∀ k ∈ x.kids, InS n (szLs zs) s k ∧ szLs zs k < (f : Int)) (ky : ∀ k ∈ y.kids, InS n (szLs zs) s k ∧ szLs zs k < (f : Int)) :
    Calls Tryz.prog 68 #[.pointer (some ⟨sh, 0, none⟩), .agg #[.int .i64 x.op, .int .i64 x.n, .string x.name, .slice xa x.kids.length xc], .agg #[.int .i64 y.op, .int .i64 y.n, .string y.name, .slice ya y.kids.length yc]] W fun e w' => e = .returned (.int .i64 (nodC (ordO (szLs zs) (lsLs ll) f) x y)) ∧ Below W.heap.size W w' := by
  have HSX := form_name fx
  have HSY := form_name fy
  have hlx := formB_kids fx
  have hly := formB_kids fy
  have HHD : Sld (∀ W, Calls Tryz.prog 95 #[.agg #[.int .i64 x.op, .int .i64 x.n, .string x.name, .slice xa x.kids.length xc], .agg #[.int .i64 y.op, .int .i64 y.n, .string y.name, .slice ya y.kids.length yc]] W fun e w' => e = .returned (.int .i64 (heads x y)) ∧ Below W.heap.size W w') := ⟨fun W => heads_any x y _ _ _ _ _ _ _ _ rfl rfl W HSX.2 HSY.2⟩
  have HOP : Sld (heads x y = 0 → x.kids.length = y.kids.length) := ⟨fun h => formL fx fy (heads_zero h).1⟩
  have HR : Sld (nodC (ordO (szLs zs) (lsLs ll) f) x y = ordK (ordO (szLs zs) (lsLs ll) f) (heads x y) x.kids y.kids) := ⟨rfl⟩
  obtain ⟨W1, hW1⟩ : ∃ W1, (W.alloc (.cells #[.int .i64 x.op, .int .i64 x.n, .string x.name, .slice xa x.kids.length xc] 41)).alloc (.cells #[.int .i64 y.op, .int .i64 y.n, .string y.name, .slice ya y.kids.length yc] 41) = W1 := ⟨_, rfl⟩
  have hb : Below W.heap.size W W1 := by rw [← hW1]; exact ((Below.refl _ _).alloc (Nat.le_refl _) _).alloc (by simp) _
  have bx : W1.heap[W.heap.size]? = some (.cells #[.int .i64 x.op, .int .i64 x.n, .string x.name, .slice xa x.kids.length xc] 41 (0, 0)) := by
    rw [← hW1, Deep.blk_alloc_lt _ _ _ (by simp), Deep.blk_alloc_new]
  have by_ : W1.heap[W.heap.size + 1]? = some (.cells #[.int .i64 y.op, .int .i64 y.n, .string y.name, .slice ya y.kids.length yc] 41 (0, 0)) := by
    have := Deep.blk_alloc_new (W.alloc (.cells #[.int .i64 x.op, .int .i64 x.n, .string x.name, .slice xa x.kids.length xc] 41)) (.cells #[.int .i64 y.op, .int .i64 y.n, .string y.name, .slice ya y.kids.length yc] 41)
    rw [World.size_alloc] at this
    rw [← hW1]; exact this
  obtain ⟨x0, x1, x2, x3⟩ := blk4N bx
  obtain ⟨y0, y1, y2, y3⟩ := blk4N by_
  have HC : Sld (∀ V, Below W1.heap.size W1 V → V.cell? ⟨W.heap.size, 3, none⟩ = some (.slice xa x.kids.length xc) ∧ V.cell? ⟨W.heap.size + 1, 3, none⟩ = some (.slice ya y.kids.length yc)) := ⟨fun V hV => ⟨(hV.cell (p := ⟨W.heap.size, 3, none⟩) (lt_of_block bx)).trans x3, (hV.cell (p := ⟨W.heap.size + 1, 3, none⟩) (lt_of_block by_)).trans y3⟩⟩
  have HW1 := Sld.mk hW1
  have HB1 := Sld.mk hb
  have HS := Sld.mk (hS.below hb)
  have HX := Sld.mk (hx.below hb hb.size)
  have HY := Sld.mk (hy.below hb hb.size)
  have HKX := Sld.mk kx
  have HKY := Sld.mk ky
  have HOC := Sld.mk hO
  clear hO hS hx hy fx fy kx ky HSX HSY bx by_ hb hW1
  generalize nodC (ordO (szLs zs) (lsLs ll) f) x y = R at *
  generalize heads x y = h0 at *
  go_enter Tryz.func68, Tryz.ntmps68
  go_wp2_with fail
  rw [HW1.out]
  go_wp2_with (go_at_call 95; refine (HHD.out _).mono ?_; rintro e w2 ⟨rfl, hb2⟩)
  have HB2 := Sld.mk hb2
  clear hb2 HHD x0 x1 x2 x3 y0 y1 y2 y3
  go_loopw [7, 8] (fun c q wr => ∃ (k : Nat) (cc : Int), k ≤ x.kids.length ∧ q = .int .i64 k ∧ c = .int .i64 cc ∧ Sld (R = ordK (ordO (szLs zs) (lsLs ll) f) cc (x.kids.drop k) (y.kids.drop k)) ∧ Sld (cc = 0 → x.kids.length = y.kids.length) ∧ Sld (Below W1.heap.size W1 wr)) (fun _ q _ => x.kids.length - (RowKit.intOf q).toNat)
  case atStart => exact ⟨0, _, by omega, rfl, rfl, HR, HOP, HB2⟩
  case round =>
    obtain ⟨k, cc, hk, rfl, rfl, HO, HL, HB⟩ := hrel
    clear HR HOP HB2
    obtain ⟨c3, d3⟩ := HC.out wr HB.out
    by_cases hcc : cc = 0
    · subst hcc
      by_cases hkl : k < x.kids.length
      · have hll := HL.out rfl
        have hkm : k < y.kids.length := by omega
        obtain ⟨kb, ko, rfl, hkb, hkc⟩ := (HX.out.below HB.out HB.out.size).cellK hkl
        obtain ⟨lb, lo, rfl, hlb, hlc⟩ := (HY.out.below HB.out HB.out.size).cellK hkm
        have hxm : x.kids.getD k 0 ∈ x.kids := by simp [hkl]
        have hym : y.kids.getD k 0 ∈ y.kids := by simp [hkm]
        have HO' : Sld (R = ordK (ordO (szLs zs) (lsLs ll) f) (ordO (szLs zs) (lsLs ll) f (x.kids.getD k 0) (y.kids.getD k 0)) (x.kids.drop (k + 1)) (y.kids.drop (k + 1))) := ⟨by
          have h := HO.out
          rw [List.drop_eq_getElem_cons hkl, List.drop_eq_getElem_cons hkm, ordK_zero] at h
          have e1 : x.kids[k] = x.kids.getD k 0 := by simp [hkl]
          have e2 : y.kids[k] = y.kids.getD k 0 := by simp [hkm]
          rw [e1, e2] at h
          exact h⟩
        have cR : Sld (∀ d os, Calls Tryz.prog 69 #[.pointer (some ⟨sh, 0, none⟩), .int .i64 (x.kids.getD k 0), .int .i64 (y.kids.getD k 0)] (grow (redrawn wr d) os) fun e w'' => e = .returned (.int .i64 (ordO (szLs zs) (lsLs ll) f (x.kids.getD k 0) (y.kids.getD k 0))) ∧ ∃ p : Regrown, w'' = grow (redrawn wr p.d) p.os) := ⟨fun d os =>
          Calls.regrown_of (HOC.out _ _ _ ((HS.out.below HB.out).below (below_regrown wr d os)) (HKX.out _ hxm).1 (HKY.out _ hym).1 (HKX.out _ hxm).2 (HKY.out _ hym).2)⟩
        clear HO HL
        generalize x.kids.getD k 0 = kx at *
        generalize y.kids.getD k 0 = ky at *
        generalize ordO (szLs zs) (lsLs ll) f kx ky = rr at *
        have g0 := cell_regrown c3
        have g1 := cell_regrown d3
        have g2 := cell_regrown hkc
        have g3 := cell_regrown hlc
        clear hxm hym
        generalize x.kids.length = lx at *
        generalize y.kids.length = ly at *
        go_wp2_with fail
        refine wp_region_quiet_below (by kernel_rfl) (by kernel_rfl) ?_
        iterate 13 (go_big_quiet_step ((go_at_call 69; exact cR.out _ _)))
        refine wpQuiet_nil ?_
        intro _ hw'
        obtain ⟨⟨ds, oss⟩, hw''⟩ := hw'
        subst hw''
        have HBX : Sld (Below W1.heap.size W1 (grow (redrawn wr ds) oss)) := ⟨HB.out.trans ((below_regrown wr ds oss).mono HB.out.size)⟩
        go_wp2_with fail
        exact ⟨⟨k + 1, _, by omega, by go_num, rfl, HO', ⟨fun _ => hll⟩, HBX⟩, by simp [RowKit.intOf]; omega⟩
      · have hke : k = x.kids.length := by omega
        subst hke
        have HE : Sld (R = 0) := ⟨by
          have h := HO.out
          rw [List.drop_length, ordK_nil] at h
          exact h⟩
        go_wp2_with fail
        go_ret
        exact ⟨by rw [HE.out]; rfl, HB1.out.trans (HB.out.mono HB1.out.size)⟩
    · have hne : (cc == 0) = false := by simpa using hcc
      have HE : Sld (R = cc) := ⟨by
        have h := HO.out
        rw [ordK_nz _ hcc] at h
        exact h⟩
      clear hcc
      go_wp2_with fail
      go_ret
      exact ⟨by rw [HE.out]; rfl, HB1.out.trans (HB.out.mono HB1.out.size)⟩

set_option maxRecDepth 20000 in
set_option maxHeartbeats 4000000 in
theorem dorder_any {n sh : Nat} {za : Option Addr} {zc : Nat} {la : Option Addr} {lc : Nat} {zs : List Int} {ll : List Nd} {s : Int} (hn : n = zs.length) (hL : LayO n (szLs zs) (lsLs ll) s) : ∀ f, OrdC n sh za zc la lc zs ll s f := by
  intro f
  induction f with
  | zero => intro p q W _ hp _ h1 _; have := hL.pos p hp.1 hp.2.1; omega
  | succ f IH =>
    intro p q W hS hp hq h1 h2
    have HN : Sld (∀ (x y : Nd) (xa ya : Option Addr) (xc yc : Nat) (V : World), ShR V sh za zc la lc zs ll → Ints V V.heap.size (.slice xa x.kids.length xc) x.kids → Ints V V.heap.size (.slice ya y.kids.length yc) y.kids → formB x = true → formB y = true → (∀ k ∈ x.kids, InS n (szLs zs) s k ∧ szLs zs k < (f : Int)) → (∀ k ∈ y.kids, InS n (szLs zs) s k ∧ szLs zs k < (f : Int)) →
      Calls Tryz.prog 68 #[.pointer (some ⟨sh, 0, none⟩), .agg #[.int .i64 x.op, .int .i64 x.n, .string x.name, .slice xa x.kids.length xc], .agg #[.int .i64 y.op, .int .i64 y.n, .string y.name, .slice ya y.kids.length yc]] V fun e w' => e = .returned (.int .i64 (nodC (ordO (szLs zs) (lsLs ll) f) x y)) ∧ Below V.heap.size V w') := ⟨fun x y xa ya xc yc V h1 h2 h3 h4 h5 h6 h7 => nodes_any IH x y xa ya xc yc V h1 h2 h3 h4 h5 h6 h7⟩
    have HF : Sld (∀ r, InS n (szLs zs) s r → szLs zs r < ((f + 1 : Nat) : Int) → formB (lsLs ll r) = true ∧ ∀ k ∈ (lsLs ll r).kids, InS n (szLs zs) s k ∧ szLs zs k < (f : Int)) := ⟨fun r hr hf => ⟨hL.form r hr, fun k hk => by
      obtain ⟨a1, a2, a3⟩ := hL.kids r hr k hk
      have := hr.2.2
      exact ⟨⟨a1, a2, by omega⟩, by omega⟩⟩⟩
    have HP := Sld.mk hp
    have HQ := Sld.mk hq
    have HS := Sld.mk hS
    have HR : Sld (ordO (szLs zs) (lsLs ll) (f + 1) p q = if p = q then 0 else if szLs zs p < szLs zs q then -1 else if szLs zs q < szLs zs p then 1 else nodC (ordO (szLs zs) (lsLs ll) f) (lsLs ll p) (lsLs ll q)) := ⟨rfl⟩
    obtain ⟨i, rfl⟩ : ∃ i : Nat, p = (i : Int) := ⟨p.toNat, by have := hp.1; omega⟩
    obtain ⟨j, rfl⟩ : ∃ j : Nat, q = (j : Int) := ⟨q.toNat, by have := hq.1; omega⟩
    have hi : i < zs.length := by have := hp.2.1; omega
    have hj : j < zs.length := by have := hq.2.1; omega
    have s1 := hS.z
    have s2 := hS.l
    have hlen := hS.len
    have hsl := hS.lt
    obtain ⟨zb, zo, rfl, hzb, ci⟩ := hS.zi.cellK hi
    obtain ⟨zb', zo', e, _, cj⟩ := hS.zi.cellK hj
    injection e with e
    injection e with e1 e2 _
    subst e1
    subst e2
    obtain ⟨_, b1, b2⟩ := hS.zi.bnd
    obtain ⟨_, b3, b4⟩ := hS.li.bnd
    have ezi : szLs zs (i : Int) = zs.getD i 0 := by unfold szLs; rw [Int.toNat_natCast]
    have ezj : szLs zs (j : Int) = zs.getD j 0 := by unfold szLs; rw [Int.toNat_natCast]
    rw [ezi, ezj] at HR
    have HH1 := Sld.mk h1
    have HH2 := Sld.mk h2
    clear hp hq hS h1 h2 IH hL ezi ezj
    generalize ordO (szLs zs) (lsLs ll) (f + 1) (i : Int) (j : Int) = R at *
    by_cases hpq : (i : Int) = (j : Int)
    · have HE : Sld (R = 0) := ⟨by rw [HR.out, if_pos hpq]⟩
      have hb : ((i : Int) == (j : Int)) = true := by simpa using hpq
      clear HR hpq
      go_enter Tryz.func69, Tryz.ntmps69
      go_wp2_with fail
      go_ret
      exact ⟨by rw [HE.out]; rfl, Below.refl _ _⟩
    · have hb : ((i : Int) == (j : Int)) = false := by simpa using hpq
      generalize zs.getD i 0 = zi at *
      generalize zs.getD j 0 = zj at *
      by_cases hz1 : zi < zj
      · have HE : Sld (R = -1) := ⟨by rw [HR.out, if_neg hpq, if_pos hz1]⟩
        clear HR hpq
        go_enter Tryz.func69, Tryz.ntmps69
        go_wp2_with fail
        go_region
        go_wp2_with fail
        go_ret
        exact ⟨by rw [HE.out]; rfl, (Below.refl _ _).drew⟩
      · by_cases hz2 : zj < zi
        · have HE : Sld (R = 1) := ⟨by rw [HR.out, if_neg hpq, if_neg hz1, if_pos hz2]⟩
          clear HR hpq
          go_enter Tryz.func69, Tryz.ntmps69
          go_wp2_with fail
          go_region
          go_wp2_with fail
          go_region
          go_wp2_with fail
          go_ret
          exact ⟨by rw [HE.out]; rfl, ((Below.refl _ _).drew).drew⟩
        · have HE : Sld (R = nodC (ordO (szLs zs) (lsLs ll) f) (lsLs ll (i : Int)) (lsLs ll (j : Int))) := ⟨by rw [HR.out, if_neg hpq, if_neg hz1, if_neg hz2]⟩
          obtain ⟨lb, lo, xa, xc, rfl, hlb, NX⟩ := HS.out.li.cellN (i := i) (by omega)
          obtain ⟨lb', lo', ya, yc, e, _, NY⟩ := HS.out.li.cellN (i := j) (by omega)
          injection e with e
          injection e with e1 e2 _
          subst e1
          subst e2
          have ei : lsLs ll (i : Int) = ndA ll i := by unfold lsLs; rw [Int.toNat_natCast]
          have ej : lsLs ll (j : Int) = ndA ll j := by unfold lsLs; rw [Int.toNat_natCast]
          have cN : Sld (∀ d os, Calls Tryz.prog 68 #[.pointer (some ⟨sh, 0, none⟩), .agg #[.int .i64 (ndA ll i).op, .int .i64 (ndA ll i).n, .string (ndA ll i).name, .slice xa (ndA ll i).kids.length xc], .agg #[.int .i64 (ndA ll j).op, .int .i64 (ndA ll j).n, .string (ndA ll j).name, .slice ya (ndA ll j).kids.length yc]] (grow (redrawn W.drew.drew d) os) fun e w'' => e = .returned (.int .i64 R) ∧ ∃ p : Regrown, w'' = grow (redrawn W.drew.drew p.d) p.os) := ⟨fun d os => by
            have hf1 := HF.out _ HP.out HH1.out
            have hf2 := HF.out _ HQ.out HH2.out
            rw [ei] at hf1
            rw [ej] at hf2
            have hb : Below W.heap.size W (grow (redrawn W.drew.drew d) os) := (((Below.refl _ _).drew).drew).trans (below_regrown W.drew.drew d os)
            have := HN.out (ndA ll i) (ndA ll j) xa ya xc yc _ (HS.out.below hb) (NX.kids.below hb hb.size) (NY.kids.below hb hb.size) hf1.1 hf2.1 hf1.2 hf2.2
            rw [← ei, ← ej, ← HE.out, ei, ej] at this
            exact Calls.regrown_of this⟩
          have g1 := cell_regrown (w := W.drew.drew) s1
          have g2 := cell_regrown (w := W.drew.drew) s2
          have g3 := cell_regrown (w := W.drew.drew) ci
          have g4 := cell_regrown (w := W.drew.drew) cj
          have n0 := cell_regrown (w := W.drew.drew) NX.c0
          have n1 := cell_regrown (w := W.drew.drew) NX.c1
          have n2 := cell_regrown (w := W.drew.drew) NX.c2
          have n3 := cell_regrown (w := W.drew.drew) NX.c3
          have m0 := cell_regrown (w := W.drew.drew) NY.c0
          have m1 := cell_regrown (w := W.drew.drew) NY.c1
          have m2 := cell_regrown (w := W.drew.drew) NY.c2
          have m3 := cell_regrown (w := W.drew.drew) NY.c3
          clear HN HF HE HR HP HQ HH1 HH2 NX NY ei ej
          generalize ndA ll i = x at *
          generalize ndA ll j = y at *
          obtain ⟨xo, xn, xm, xk⟩ := x
          obtain ⟨yo, yn, ym, yk⟩ := y
          simp only at cN n0 n1 n2 n3 m0 m1 m2 m3
          generalize xk.length = kx at *
          generalize yk.length = ky at *
          clear hpq
          go_enter Tryz.func69, Tryz.ntmps69
          go_wp2_with fail
          go_region
          go_wp2_with fail
          go_region
          go_wp2_with fail
          refine wp_region_quiet_below (by kernel_rfl) (by kernel_rfl) ?_
          iterate 17 (go_big_quiet_step ((go_at_call 68; exact cN.out _ _)))
          refine wpQuiet_nil ?_
          intro _ hw'
          obtain ⟨⟨ds, oss⟩, hw''⟩ := hw'
          subst hw''
          go_wp2_with fail
          go_ret
          exact ⟨rfl, (((Below.refl _ _).drew).drew).trans (below_regrown W.drew.drew ds oss)⟩
end Go.Proofs.YtlbmijcpalfaeaaGreatDoor

set_option linter.unusedSimpArgs false
set_option linter.unusedVariables false
namespace Go.Proofs.YtlbmijcpalfaeaaGreatDoor
open Go.RowKit Go.Lib Go.Sort

set_option maxRecDepth 20000 in
set_option maxHeartbeats 4000000 in
theorem dcompare_any (x y : Nd) (xa ya : Option Addr) (xc yc : Nat) (W : World)
    (hx : Ints W W.heap.size (.slice xa x.kids.length xc) x.kids) (hy : Ints W W.heap.size (.slice ya y.kids.length yc) y.kids) (fx : formB x = true) (fy : formB y = true) :
    Calls Tryz.prog 70 #[.agg #[.int .i64 x.op, .int .i64 x.n, .string x.name, .slice xa x.kids.length xc], .agg #[.int .i64 y.op, .int .i64 y.n, .string y.name, .slice ya y.kids.length yc]] W fun e w' => e = .returned (.int .i64 (nodC cmp3 x y)) ∧ Below W.heap.size W w' := by
  have HSX := form_name fx
  have HSY := form_name fy
  have hlx := formB_kids fx
  have hly := formB_kids fy
  have HHD : Sld (∀ W, Calls Tryz.prog 95 #[.agg #[.int .i64 x.op, .int .i64 x.n, .string x.name, .slice xa x.kids.length xc], .agg #[.int .i64 y.op, .int .i64 y.n, .string y.name, .slice ya y.kids.length yc]] W fun e w' => e = .returned (.int .i64 (heads x y)) ∧ Below W.heap.size W w') := ⟨fun W => heads_any x y _ _ _ _ _ _ _ _ rfl rfl W HSX.2 HSY.2⟩
  have HOP : Sld (heads x y = 0 → x.kids.length = y.kids.length) := ⟨fun h => formL fx fy (heads_zero h).1⟩
  have HR : Sld (nodC cmp3 x y = ordK cmp3 (heads x y) x.kids y.kids) := ⟨rfl⟩
  obtain ⟨W1, hW1⟩ : ∃ W1, (W.alloc (.cells #[.int .i64 x.op, .int .i64 x.n, .string x.name, .slice xa x.kids.length xc] 41)).alloc (.cells #[.int .i64 y.op, .int .i64 y.n, .string y.name, .slice ya y.kids.length yc] 41) = W1 := ⟨_, rfl⟩
  have hb : Below W.heap.size W W1 := by rw [← hW1]; exact ((Below.refl _ _).alloc (Nat.le_refl _) _).alloc (by simp) _
  have bx : W1.heap[W.heap.size]? = some (.cells #[.int .i64 x.op, .int .i64 x.n, .string x.name, .slice xa x.kids.length xc] 41 (0, 0)) := by
    rw [← hW1, Deep.blk_alloc_lt _ _ _ (by simp), Deep.blk_alloc_new]
  have by_ : W1.heap[W.heap.size + 1]? = some (.cells #[.int .i64 y.op, .int .i64 y.n, .string y.name, .slice ya y.kids.length yc] 41 (0, 0)) := by
    have := Deep.blk_alloc_new (W.alloc (.cells #[.int .i64 x.op, .int .i64 x.n, .string x.name, .slice xa x.kids.length xc] 41)) (.cells #[.int .i64 y.op, .int .i64 y.n, .string y.name, .slice ya y.kids.length yc] 41)
    rw [World.size_alloc] at this
    rw [← hW1]; exact this
  obtain ⟨x0, x1, x2, x3⟩ := blk4N bx
  obtain ⟨y0, y1, y2, y3⟩ := blk4N by_
  have HC : Sld (∀ V, Below W1.heap.size W1 V → V.cell? ⟨W.heap.size, 3, none⟩ = some (.slice xa x.kids.length xc) ∧ V.cell? ⟨W.heap.size + 1, 3, none⟩ = some (.slice ya y.kids.length yc)) := ⟨fun V hV => ⟨(hV.cell (p := ⟨W.heap.size, 3, none⟩) (lt_of_block bx)).trans x3, (hV.cell (p := ⟨W.heap.size + 1, 3, none⟩) (lt_of_block by_)).trans y3⟩⟩
  have HW1 := Sld.mk hW1
  have HB1 := Sld.mk hb
  have HX := Sld.mk (hx.below hb hb.size)
  have HY := Sld.mk (hy.below hb hb.size)
  clear hx hy fx fy HSX HSY bx by_ hb hW1
  generalize nodC cmp3 x y = R at *
  generalize heads x y = h0 at *
  go_enter Tryz.func70, Tryz.ntmps70
  go_wp2_with fail
  rw [HW1.out]
  go_wp2_with (go_at_call 95; refine (HHD.out _).mono ?_; rintro e w2 ⟨rfl, hb2⟩)
  have HB2 := Sld.mk hb2
  clear hb2 HHD x0 x1 x2 x3 y0 y1 y2 y3
  go_loopw [6] (fun q wr => ∃ (k : Nat), k ≤ x.kids.length ∧ q = .int .i64 k ∧ Sld (R = ordK cmp3 h0 (x.kids.drop k) (y.kids.drop k)) ∧ Sld (Below W1.heap.size W1 wr)) (fun q _ => x.kids.length - (RowKit.intOf q).toNat)
  case atStart => exact ⟨0, by omega, rfl, HR, HB2⟩
  case round =>
    obtain ⟨k, hk, rfl, HO, HB⟩ := hrel
    clear HR HB2
    obtain ⟨c3, d3⟩ := HC.out wr HB.out
    by_cases hcc : h0 = 0
    · by_cases hkl : k < x.kids.length
      · have hll := HOP.out hcc
        have hkm : k < y.kids.length := by omega
        have hee : (h0 == 0) = true := by simpa using hcc
        obtain ⟨kb, ko, rfl, hkb, hkc⟩ := (HX.out.below HB.out HB.out.size).cellK hkl
        obtain ⟨lb, lo, rfl, hlb, hlc⟩ := (HY.out.below HB.out HB.out.size).cellK hkm
        have HO' : Sld (R = ordK cmp3 (cmp3 (x.kids.getD k 0) (y.kids.getD k 0)) (x.kids.drop (k + 1)) (y.kids.drop (k + 1))) := ⟨by
          have h := HO.out
          rw [hcc, List.drop_eq_getElem_cons hkl, List.drop_eq_getElem_cons hkm, ordK_zero] at h
          have e1 : x.kids[k] = x.kids.getD k 0 := by simp [hkl]
          have e2 : y.kids[k] = y.kids.getD k 0 := by simp [hkm]
          rw [e1, e2] at h
          exact h⟩
        have HCC := Sld.mk hcc
        clear HO hcc hll
        generalize x.kids.getD k 0 = kx at *
        generalize y.kids.getD k 0 = ky at *
        have HBX : Sld (Below W.heap.size W wr.drew) := ⟨HB1.out.trans ((HB.out.mono HB1.out.size).drew)⟩
        have HBY : Sld (Below W1.heap.size W1 wr.drew.drew) := ⟨(HB.out.drew).drew⟩
        by_cases h1 : kx < ky
        · have HE : Sld (R = -1) := ⟨by have := HO'.out; rw [cmp3_lt h1, ordK_nz _ (by omega)] at this; exact this⟩
          clear HO'
          go_wp2_with fail
          go_region
          go_wp2_with fail
          go_ret
          exact ⟨by rw [HE.out]; rfl, HBX.out⟩
        · by_cases h2 : ky < kx
          · have HE : Sld (R = 1) := ⟨by have := HO'.out; rw [cmp3_gt h2, ordK_nz _ (by omega)] at this; exact this⟩
            clear HO'
            go_wp2_with fail
            go_region
            go_wp2_with fail
            go_region
            go_wp2_with fail
            go_ret
            exact ⟨by rw [HE.out]; rfl, HBX.out.drew⟩
          · have HO2 : Sld (R = ordK cmp3 h0 (x.kids.drop (k + 1)) (y.kids.drop (k + 1))) := ⟨by have := HO'.out; rw [(cmp3_zero kx ky).2 (by omega)] at this; rw [HCC.out]; exact this⟩
            clear HO'
            go_wp2_with fail
            go_region
            go_wp2_with fail
            go_region
            go_wp2_with fail
            exact ⟨⟨k + 1, by omega, by go_num, HO2, HBY⟩, by simp [RowKit.intOf]; omega⟩
      · have hke : k = x.kids.length := by omega
        subst hke
        have HE : Sld (R = h0) := ⟨by
          have h := HO.out
          rw [List.drop_length, ordK_nil] at h
          exact h⟩
        have hee : (h0 == 0) = true := by simpa using hcc
        clear hcc
        go_wp2_with fail
        go_ret
        exact ⟨by rw [HE.out]; rfl, HB1.out.trans (HB.out.mono HB1.out.size)⟩
    · have hne : (h0 == 0) = false := by simpa using hcc
      have HE : Sld (R = h0) := ⟨by
        have h := HO.out
        rw [ordK_nz _ hcc] at h
        exact h⟩
      clear hcc
      go_wp2_with fail
      go_ret
      exact ⟨by rw [HE.out]; rfl, HB1.out.trans (HB.out.mono HB1.out.size)⟩
end Go.Proofs.YtlbmijcpalfaeaaGreatDoor

set_option linter.unusedSimpArgs false
set_option linter.unusedVariables false
namespace Go.Proofs.YtlbmijcpalfaeaaGreatDoor
open Go.RowKit Go.Lib Go.Sort

theorem rowN_at {w : World} {base g n cap : Nat} {p : List (Nd × Value)} (h : w.ownsRow base 41 4 (.slice (some ⟨g, 0, none⟩) n cap) n (ndCells p)) {i : Nat} {x : Nd} {kv : Value} (hi : p[i]? = some (x, kv)) :
    w.cell? ⟨g, i * 4, none⟩ = some (.int .i64 x.op) ∧ w.cell? ⟨g, i * 4 + 1, none⟩ = some (.int .i64 x.n) ∧ w.cell? ⟨g, i * 4 + 2, none⟩ = some (.string x.name) ∧ w.cell? ⟨g, i * 4 + 3, none⟩ = some kv ∧ ∀ j, w.frozen? ⟨g, j, none⟩ = false := by
  obtain ⟨a0, a1, a2, a3⟩ := ndCells_at p i x kv hi
  have hr := rdr_own h
  exact ⟨hr.cell (b := g) rfl a0, hr.cell (b := g) rfl a1, hr.cell (b := g) rfl a2, hr.cell (b := g) rfl a3, fun j => rw_fro h j⟩
theorem ndCells_set4 : ∀ (p : List (Nd × Value)) (i : Nat) (x : Nd) (kv : Value), i < p.length → ((((ndCells p).set (i * 4) (.int .i64 x.op)).set (i * 4 + 1) (.int .i64 x.n)).set (i * 4 + 2) (.string x.name)).set (i * 4 + 3) kv = ndCells (p.set i (x, kv)) := by
  intro p
  induction p with
  | nil => intro i x kv h; simp at h
  | cons a p ih =>
    obtain ⟨y, kw⟩ := a
    intro i x kv h
    cases i with
    | zero => simp [ndCells]
    | succ i =>
      have := ih i x kv (by simpa using h)
      have e : (i + 1) * 4 = i * 4 + 4 := by omega
      rw [e]
      simp only [ndCells, List.set_cons_succ]
      rw [this]
theorem rowN_put {w : World} {base g n cap : Nat} {p : List (Nd × Value)} (h : w.ownsRow base 41 4 (.slice (some ⟨g, 0, none⟩) n cap) n (ndCells p)) {i : Nat} (hi : i < p.length) (x : Nd) (kv : Value) :
    ((((w.setCell ⟨g, i * 4, none⟩ (.int .i64 x.op)).setCell ⟨g, i * 4 + 1, none⟩ (.int .i64 x.n)).setCell ⟨g, i * 4 + 2, none⟩ (.string x.name)).setCell ⟨g, i * 4 + 3, none⟩ kv).ownsRow base 41 4 (.slice (some ⟨g, 0, none⟩) n cap) n (ndCells (p.set i (x, kv))) := by
  have hl := ndCells_length p
  rw [← ndCells_set4 p i x kv hi]
  exact rw_put (rw_put (rw_put (rw_put h (i * 4) _) (i * 4 + 1) _) (i * 4 + 2) _) (i * 4 + 3) _
theorem grown_set4 {w0 w : World} {row : Option Nat} {g i : Nat} {a b c d : Value} (h : w0.grownBy w row) (hg : row = some g ∨ w0.heap.size ≤ g) : w0.grownBy ((((w.setCell ⟨g, i * 4, none⟩ a).setCell ⟨g, i * 4 + 1, none⟩ b).setCell ⟨g, i * 4 + 2, none⟩ c).setCell ⟨g, i * 4 + 3, none⟩ d) row := by
  have hb : Below g w ((((w.setCell ⟨g, i * 4, none⟩ a).setCell ⟨g, i * 4 + 1, none⟩ b).setCell ⟨g, i * 4 + 2, none⟩ c).setCell ⟨g, i * 4 + 3, none⟩ d) :=
    ((((Below.refl _ _).setCell (p := ⟨g, i * 4, none⟩) (Nat.le_refl _) _).setCell (p := ⟨g, i * 4 + 1, none⟩) (Nat.le_refl _) _).setCell (p := ⟨g, i * 4 + 2, none⟩) (Nat.le_refl _) _).setCell (p := ⟨g, i * 4 + 3, none⟩) (Nat.le_refl _) _
  obtain ⟨h1, h2, h3, h4, h5⟩ := h
  refine ⟨hb.os.trans h1, hb.tape.trans h2, hb.output.trans h3, Nat.le_trans h4 hb.size, fun k hk hne => ?_⟩
  have hkg : k ≠ g := by
    rintro rfl
    rcases hg with hg | hg
    · exact hne hg.symm
    · omega
  rw [Deep.blk_setCell_other _ _ _ _ (by exact hkg), Deep.blk_setCell_other _ _ _ _ (by exact hkg), Deep.blk_setCell_other _ _ _ _ (by exact hkg), Deep.blk_setCell_other _ _ _ _ (by exact hkg)]
  exact h5 k hk hne
/-- The row while what stands from a place on is moved up by one. -/
def moA {α : Type} (d : α) (l : List α) (j : Nat) : List α := (l ++ [d]).take (j + 1) ++ l.drop j
theorem moA_start {α : Type} (d : α) (l : List α) : moA d l l.length = l ++ [d] := by
  unfold moA
  rw [List.drop_length, List.append_nil, List.take_of_length_le (by simp)]
theorem moA_len {α : Type} (d : α) (l : List α) (j : Nat) (h : j ≤ l.length) : (moA d l j).length = l.length + 1 := by simp [moA]; omega
theorem moA_at {α : Type} (d : α) (l : List α) (j : Nat) (h : j < l.length) : (moA d l (j + 1))[j]? = l[j]? := by
  unfold moA
  rw [List.getElem?_append_left (by simp; omega), List.getElem?_take, if_pos (by omega), List.getElem?_append_left h]
theorem moA_set {α : Type} (d : α) (l : List α) (j : Nat) (x : α) (h : l[j]? = some x) : (moA d l (j + 1)).set (j + 1) x = moA d l j := by
  obtain ⟨h, hx⟩ := List.getElem?_eq_some_iff.1 h
  unfold moA
  have e1 : ((l ++ [d]).take (j + 1)).length = j + 1 := by simp; omega
  have hlt : j + 1 < (l ++ [d]).length := by simp; omega
  rw [List.take_succ_eq_append_getElem hlt, List.append_assoc, List.set_append_right _ _ (by omega), e1, Nat.sub_self]
  rw [List.drop_eq_getElem_cons h]
  simp [hx]
theorem moA_end {α : Type} (d : α) (l : List α) (x : α) (k : Nat) (h : k ≤ l.length) : (moA d l k).set k x = l.take k ++ x :: l.drop k := by
  unfold moA
  have hlt : k < (l ++ [d]).length := by simp; omega
  have e1 : ((l ++ [d]).take k).length = k := by simp; omega
  rw [List.take_succ_eq_append_getElem hlt, List.append_assoc, List.set_append_right _ _ (by omega), e1, Nat.sub_self]
  rw [List.take_append_of_le_length h]
  simp
end Go.Proofs.YtlbmijcpalfaeaaGreatDoor
