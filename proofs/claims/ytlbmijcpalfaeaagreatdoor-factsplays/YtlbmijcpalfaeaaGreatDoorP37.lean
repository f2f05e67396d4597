/-
  DcJ.
-/
import Derived.Test.YtlbmijcpalfaeaaGreatDoorP36
set_option linter.unusedSimpArgs false
set_option linter.unusedVariables false
namespace Go.Proofs.YtlbmijcpalfaeaaGreatDoor
open Go.RowKit Go.Lib Go.Sort

theorem Tryz.infoBool : (Tryz.prog.info? 4).map (fun i => (i.zero, i.size, i.bytes)) = some (some (.bool false), 1, 1) := by kernel_rfl
/-- The least nodes and which are found, as functions. -/
def lsP' (p : List (Nd × Value)) : Int → Nd := lsLs (p.map (·.1))
def fdF (fd : List Bool) (q : Int) : Bool := fd.getD q.toNat false
theorem lsP_set {p : List (Nd × Value)} {i : Nat} {x : Nd} {kv : Value} {q : Int} (h0 : 0 ≤ q) (hi : i < p.length) : lsP' (p.set i (x, kv)) q = if q = (i : Int) then x else lsP' p q := by
  unfold lsP' lsLs ndA
  rw [List.map_set]
  by_cases e : q = (i : Int)
  · subst e; rw [if_pos rfl, Int.toNat_natCast]; simp [hi]
  · rw [if_neg e]; simp only [List.getD_eq_getElem?_getD]; rw [List.getElem?_set_ne (by omega)]
theorem fdF_set {fd : List Bool} {i : Nat} {q : Int} (h0 : 0 ≤ q) (hi : i < fd.length) : fdF (fd.set i true) q = if q = (i : Int) then true else fdF fd q := by
  unfold fdF
  by_cases e : q = (i : Int)
  · subst e; rw [if_pos rfl, Int.toNat_natCast]; simp [hi]
  · rw [if_neg e]; simp only [List.getD_eq_getElem?_getD]; rw [List.getElem?_set_ne (by omega)]
theorem blk5N {w : World} {b : Nat} {a0 a1 a2 a3 a4 : Value} {t : TypeId} (h : w.heap[b]? = some (.cells #[a0, a1, a2, a3, a4] t (0, 0))) : w.cell? ⟨b, 0, none⟩ = some a0 ∧ w.cell? ⟨b, 1, none⟩ = some a1 ∧ w.cell? ⟨b, 2, none⟩ = some a2 ∧ w.cell? ⟨b, 3, none⟩ = some a3 ∧ w.cell? ⟨b, 4, none⟩ = some a4 := by
  simp [World.cell?, h]
/-- Which round it is: the classes of size ys[i], k cells having been looked at; behind the last all is done. -/
def LayS (n : Nat) (cells : List (Nd × Int)) (sz : Int → Int) (F : Nat) (ls : Int → Nd) (fd : Int → Bool) (ys : List Int) (i : Nat) : Prop :=
  (i < ys.length → LayI n cells sz F ls fd (ys.getD i 0) 0) ∧ (i = ys.length → LstO n cells sz ls F)
theorem LayS.start {n : Nat} {cells : List (Nd × Int)} {sz : Int → Int} {F : Nat} {ls : Int → Nd} {fd : Int → Bool} {ys zs : List Int} (hr : RkOk zs ys) (hl : zs.length = n) (hsz : sz = szLs zs) (hz : SzOk n cells sz F) (hf : ∀ q, fd q = false) : LayS n cells sz F ls fd ys 0 := by
  have hmem : ∀ q : Int, 0 ≤ q → q < (n : Int) → sz q ∈ ys := fun q a b => by
    rw [hr.mem, hsz]; unfold szLs; rw [List.getD_eq_getElem?_getD, List.getElem?_eq_getElem (by omega)]; exact List.getElem_mem _
  refine ⟨fun h0 => LayI.start (fun q a b => ?_) hf, fun h0 => ?_⟩
  · obtain ⟨j, hj, e⟩ := List.getElem_of_mem (hmem q a b)
    rw [List.getD_eq_getElem?_getD, List.getElem?_eq_getElem h0, ← e]
    simp only [Option.getD_some]
    by_cases e0 : j = 0
    · subst e0; exact Int.le_refl _
    · have := List.pairwise_iff_getElem.1 hr.up 0 j h0 hj (by omega); omega
  · have hys : ys = [] := List.length_eq_zero_iff.1 h0.symm
    have hno : ∀ q : Int, 0 ≤ q → q < (n : Int) → False := fun q a b => by have := hmem q a b; rw [hys] at this; cases this
    exact ⟨fun q a b => (hno q a b).elim, fun c hc _ => (hno _ (hz.inc.cl c hc).1 (hz.inc.cl c hc).2).elim⟩
theorem LayS.step {n : Nat} {cells : List (Nd × Int)} {sz : Int → Int} {F : Nat} {ls : Int → Nd} {fd : Int → Bool} {ys zs : List Int} {i : Nat} (hr : RkOk zs ys) (hl : zs.length = n) (hsz : sz = szLs zs) (hz : SzOk n cells sz F) (hi : i < ys.length) (h : LayI n cells sz F ls fd (ys.getD i 0) cells.length) : LayS n cells sz F ls fd ys (i + 1) := by
  have hmem : ∀ q : Int, 0 ≤ q → q < (n : Int) → sz q ∈ ys := fun q a b => by
    rw [hr.mem, hsz]; unfold szLs; rw [List.getD_eq_getElem?_getD, List.getElem?_eq_getElem (by omega)]; exact List.getElem_mem _
  have hp := List.pairwise_iff_getElem.1 hr.up
  have ei : ys.getD i 0 = ys[i] := by rw [List.getD_eq_getElem?_getD, List.getElem?_eq_getElem hi]; rfl
  rw [ei] at h
  refine ⟨fun h1 => ?_, fun h1 => h.done hz fun q a b => ?_⟩
  · have ei2 : ys.getD (i + 1) 0 = ys[i + 1] := by rw [List.getD_eq_getElem?_getD, List.getElem?_eq_getElem h1]; rfl
    rw [ei2]
    refine h.next hz (hp i (i + 1) hi h1 (by omega)) fun q a b => ?_
    obtain ⟨j, hj, e⟩ := List.getElem_of_mem (hmem q a b)
    rw [← e]
    by_cases hji : j ≤ i
    · left
      by_cases e2 : j = i
      · subst e2; exact Int.le_refl _
      · have := hp j i hj hi (by omega); omega
    · right
      by_cases e2 : j = i + 1
      · subst e2; exact Int.le_refl _
      · have := hp (i + 1) j h1 hj (by omega); omega
  · obtain ⟨j, hj, e⟩ := List.getElem_of_mem (hmem q a b)
    rw [← e]
    by_cases e2 : j = i
    · subst e2; exact Int.le_refl _
    · have := hp j i hj hi (by omega); omega

set_option maxRecDepth 20000 in
set_option maxHeartbeats 16000000 in
theorem lay_any (W : World) (sh n : Nat) (ca : Option Addr) (cc : Nat) (l : List (Nd × Int)) (za : Option Addr) (zc : Nat) (zs : List Int) (lv : Value) (F : Nat) (hb : W.heap[sh]? = some (.cells #[.slice ca l.length cc, .slice za n zc, lv] 96 (0, 0))) (hC : Cels W sh (.slice ca l.length cc) l) (hZ : Ints W sh (.slice za n zc) zs) (hzl : zs.length = n) (hn : n ≤ 4096) (hl : l.length ≤ 8192) (hz : SzOk n l (szLs zs) F) (hzr : ∀ z ∈ zs, 0 ≤ z ∧ z ≤ 1073741824) :
    Calls Tryz.prog 46 #[.pointer (some ⟨sh, 0, none⟩)] W fun e w' => e = .returned (.tuple #[]) ∧ ∃ p, w'.heap[sh]? = some (.cells #[.slice ca l.length cc, .slice za n zc, .slice (some ⟨W.heap.size, 0, none⟩) n n] 96 (0, 0)) ∧ Nodes w' w'.heap.size (.slice (some ⟨W.heap.size, 0, none⟩) n n) (p.map (·.1)) ∧ p.length = n ∧ LstO n l (szLs zs) (lsP' p) F ∧ W.grownBy w' (some sh) := by
  have hsl := lt_of_block hb
  obtain ⟨iN, hiN, hn0, hn1, hn2⟩ := info_parts Tryz.infoNode
  obtain ⟨iB, hiB, hb0, hb1, hb2⟩ := info_parts Tryz.infoBool
  obtain ⟨w1, hmk1, hown1, hg1⟩ := run_make_full (P := Tryz.prog) W W.heap.size 22 41 iN (.agg #[.int .i64 0, .int .i64 0, .string ⟨#[]⟩, .slice none 0 0]) 4 Tryz.underlying22 hiN hn0 hn1 .i64 .i64 n (by rw [hn2]; omega) (by unfold maxLen; omega) (Nat.le_refl _)
  rw [made_nodes] at hown1
  have hbk1 : w1.heap[sh]? = _ := (hg1.block sh hsl (by simp)).trans hb
  obtain ⟨s0, s1, s2⟩ : w1.cell? ⟨sh, 0, none⟩ = some (.slice ca l.length cc) ∧ w1.cell? ⟨sh, 1, none⟩ = some (.slice za n zc) ∧ w1.cell? ⟨sh, 2, none⟩ = some lv := by simp [World.cell?, hbk1]
  have t1 : W.cell? ⟨sh, 1, none⟩ = some (.slice za n zc) := by simp [World.cell?, hb]
  have sf : w1.frozen? ⟨sh, 2, none⟩ = false := frozen_of_heap hbk1 _
  obtain ⟨w2, hw2⟩ : ∃ w2, w1.setCell ⟨sh, 2, none⟩ (.slice (some ⟨W.heap.size, 0, none⟩) n n) = w2 := ⟨_, rfl⟩
  have hbk2 : w2.heap[sh]? = some (.cells #[.slice ca l.length cc, .slice za n zc, .slice (some ⟨W.heap.size, 0, none⟩) n n] 96 (0, 0)) := by
    have := heap_setCell_same w1 sh 2 _ _ (.slice (some ⟨W.heap.size, 0, none⟩) n n) hbk1
    rw [hw2] at this; exact this
  have hg2 : W.grownBy w2 (some sh) := by
    rw [← hw2]
    have hg1' : W.grownBy w1 (some sh) := by
      obtain ⟨h1, h2, h3, h4, h5⟩ := hg1
      exact ⟨h1, h2, h3, h4, fun k hk _ => h5 k hk (by simp)⟩
    refine grown_trans' (r' := some sh) hg1' ?_ (fun b hb => .inl hb)
    have hB : Below sh w1 (w1.setCell ⟨sh, 2, none⟩ (.slice (some ⟨W.heap.size, 0, none⟩) n n)) := (Below.refl _ _).setCell (p := ⟨sh, 2, none⟩) (Nat.le_refl _) _
    exact ⟨hB.os, hB.tape, hB.output, hB.size, fun k hk hne => Deep.blk_setCell_other _ _ _ _ (by show k ≠ sh; intro e; exact hne (by rw [e]))⟩
  have hown2 : w2.ownsRow W.heap.size 41 4 (.slice (some ⟨W.heap.size, 0, none⟩) n n) n (ndCells (List.replicate n nz)) := by rw [← hw2]; exact ownSetO hown1 (by simp [Value.ownBlock]; omega)
  have hs2 : W.heap.size ≤ w2.heap.size := by obtain ⟨_, _, _, h4, _⟩ := hg2; exact h4
  have s21 : w2.cell? ⟨sh, 1, none⟩ = some (.slice za n zc) := by simp [World.cell?, hbk2]
  obtain ⟨w3, hmk3, hown3, hg3⟩ := run_make_full (P := Tryz.prog) w2 W.heap.size 123 4 iB (.bool false) 1 Tryz.underlying123 hiB hb0 hb1 .i64 .i64 n (by rw [hb2]; omega) (by unfold maxLen; omega) hs2
  rw [made_bools] at hown3
  obtain ⟨FB, hFB⟩ : ∃ FB, w2.heap.size = FB := ⟨_, rfl⟩
  obtain ⟨LB, hLB⟩ : ∃ LB, W.heap.size = LB := ⟨_, rfl⟩
  have hB23 : Below w2.heap.size w2 w3 := by
    obtain ⟨h1, h2, h3, h4, h5⟩ := hg3
    exact ⟨h1, h2, h3, h4, fun k hk => h5 k hk (by simp)⟩
  have hbk3 : w3.heap[sh]? = _ := (hB23.block sh (lt_of_block hbk2)).trans hbk2
  have hM3 : LyM W sh n LB FB (.slice ca l.length cc) (.slice za n zc) (List.replicate n nz) (List.replicate n false) w3 := by
    rw [← hFB, ← hLB]
    refine ⟨ownsRow_below hown2 hB23, hown3, by simp, by simp, fun q hq => ?_, hbk3, grownBelow hg2 hB23, hsl⟩
    rw [List.mem_replicate] at hq
    rw [hq.2]
    exact ⟨none, 0, rfl, by simp [nz, nd0], ⟨by simp, by simp⟩, .inl rfl⟩
  have hRK := ranked_any w3 za zc zs (by rw [hzl]; exact hZ.below hM3.blw (by have := hM3.shl; have := hM3.blw.size; omega)) (by omega)
  rw [hzl] at hRK
  have HRK := Sld.mk hRK
  have HM3 := Sld.mk hM3
  have HC := Sld.mk hC
  have HZ := Sld.mk hZ
  have HSZ := Sld.mk hz
  have HZR := Sld.mk hzr
  have HZL := Sld.mk hzl
  have HSL := Sld.mk hsl
  have s3 := hM3.c1
  rw [hFB] at hmk3
  rw [hLB] at hmk1 hw2
  clear hb hown1 hg1 hbk1 hbk2 hg2 hown2 hs2 hown3 hg3 hB23 hbk3 hM3 hRK hC hZ hz hzr hzl hFB s0 hiN hn0 hn1 hn2 hiB hb0 hb1 hb2
  have HW2 : Sld (_) := ⟨hw2⟩
  clear hw2
  go_enter Tryz.func46, Tryz.ntmps46
  go_wp2_with (rw [HW2.out])
  refine HRK.out.mono ?_
  rintro e w4 ⟨v, ys, rfl, hoy, hrk, hb4⟩
  obtain ⟨va, vc, hv, hv1, hv2, hv3⟩ := ownI_slice hoy
  subst hv
  have HY4 := Sld.mk hoy
  have HRO := Sld.mk hrk
  have HM4 : Sld (LyM W sh n LB FB (.slice ca l.length cc) (.slice za n zc) (List.replicate n nz) (List.replicate n false) w4) := ⟨HM3.out.below hb4⟩
  have HLS : Sld (LayS n l (szLs zs) F (lsP' (List.replicate n nz)) (fdF (List.replicate n false)) ys 0) := ⟨LayS.start HRO.out HZL.out rfl HSZ.out (fun q => by
    unfold fdF
    simp only [List.getD_eq_getElem?_getD]
    rcases Nat.lt_or_ge q.toNat n with h | h
    · simp [h]
    · rw [List.getElem?_eq_none (by simpa using h)]; rfl)⟩
  have hv3' : Sld (0 < ys.length → ∃ g, va = some ⟨g, 0, none⟩) := ⟨fun h => by obtain ⟨g, e, _⟩ := hv3 h; exact ⟨g, e⟩⟩
  obtain ⟨B4, hB4⟩ : ∃ B4, w3.heap.size = B4 := ⟨_, rfl⟩
  rw [hB4] at HY4
  clear hoy hrk hb4 HM3 HRK s1 s2 s3 s21 t1 sf hmk1 hmk3 HW2 hB4 hv3
  go_wp2_with fail
  go_loopw [4] (fun q wr => ∃ (i : Nat) (p : List (Nd × Value)) (fd : List Bool), i ≤ ys.length ∧ q = .int .i64 i ∧ Sld (LyM W sh n LB FB (.slice ca l.length cc) (.slice za n zc) p fd wr) ∧ Sld (LayS n l (szLs zs) F (lsP' p) (fdF fd) ys i) ∧ Sld (OwnI wr B4 (.slice va ys.length vc) ys)) (fun q _ => ys.length - (RowKit.intOf q).toNat)
  case atStart => exact ⟨0, _, _, by omega, rfl, HM4, HLS, HY4⟩
  case round =>
    obtain ⟨i, p, fd, hi, rfl, HM, HS, HY⟩ := hrel
    clear HM4 HLS HY4
    by_cases hlt : i < ys.length
    · obtain ⟨yg, rfl⟩ := hv3'.out (by omega)
      have HI0 : Sld (LayI n l (szLs zs) F (lsP' p) (fdF fd) (ys.getD i 0) 0) := ⟨HS.out.1 hlt⟩
      have HYC : Sld (∀ V, OwnI V B4 (.slice (some ⟨yg, 0, none⟩) ys.length vc) ys → V.cell? ⟨yg, i, none⟩ = some (.int .i64 (ys.getD i 0))) := ⟨fun V hV => (ownI_cell hV hlt).1⟩
      have HSTEP : Sld (∀ p fd, LayI n l (szLs zs) F (lsP' p) (fdF fd) (ys.getD i 0) l.length → LayS n l (szLs zs) F (lsP' p) (fdF fd) ys (i + 1)) := ⟨fun p fd h => LayS.step HRO.out HZL.out rfl HSZ.out hlt h⟩
      generalize ys.getD i 0 = s at *
      obtain ⟨wo, hwo⟩ : ∃ wo, wo = wr := ⟨_, rfl⟩
      subst hwo
      clear HS
      go_wp2_with fail
      go_loopw [5] (fun q wr => ∃ (k : Nat) (p : List (Nd × Value)) (fd : List Bool), k ≤ l.length ∧ q = .int .i64 k ∧ Sld (LyM W sh n LB FB (.slice ca l.length cc) (.slice za n zc) p fd wr) ∧ Sld (LayI n l (szLs zs) F (lsP' p) (fdF fd) s k) ∧ Sld (OwnI wr B4 (.slice (some ⟨yg, 0, none⟩) ys.length vc) ys)) (fun q _ => l.length - (RowKit.intOf q).toNat)
      case atStart => exact ⟨0, p, fd, by omega, rfl, HM, HI0, HY⟩
      case round =>
        clear HM HI0 HY
        obtain ⟨k, p, fd, hk, rfl, HM, HI, HY⟩ := hrel
        have c0 := HM.out.c0
        by_cases hlt2 : k < l.length
        · have hshr : sh ≤ wr.heap.size := by have := HM.out.shl; have := HM.out.blw.size; omega
          obtain ⟨cb, co, ka, kc, rfl, hcb, hNA, hcl⟩ := (HC.out.below HM.out.blw (Nat.le_refl _)).cell hlt2
          have hm : l.getD k ce0 ∈ l := by simp [hlt2]
          have hcr := HSZ.out.inc.cl _ hm
          have hkr := HSZ.out.inc.kids _ hm
          have hfx := HSZ.out.inc.form _ hm
          have hgk : l[k]? = some (l.getD k ce0) := by simp [hlt2]
          have HKW : Sld (Ints W sh (.slice ka (l.getD k ce0).1.kids.length kc) (l.getD k ce0).1.kids) := ⟨by
            obtain ⟨b', o', ka', kc', e, _, hN', _⟩ := HC.out.cell hlt2
            injection e with e; injection e with e1 e2 _; subst e1; subst e2
            have e3 := (HM.out.blw.cell (p := ⟨cb, co + k * 5 + 3, none⟩) hcb).trans hN'.c3
            have e4 := hNA.c3
            rw [e3] at e4
            injection e4 with e4
            rw [← e4]
            exact hN'.kids⟩
          obtain ⟨q, hq⟩ : ∃ q : Nat, (l.getD k ce0).2 = (q : Int) := ⟨(l.getD k ce0).2.toNat, by omega⟩
          have hqn : q < n := by rw [hq] at hcr; omega
          have hqI : (q : Int) < (n : Int) := by omega
          have HQ := Sld.mk hq
          have HGK := Sld.mk hgk
          have HSK : Sld (¬ (szLs zs (q : Int) = s ∧ sizeD (szLs zs) (l.getD k ce0).1.kids = s) → LayI n l (szLs zs) F (lsP' p) (fdF fd) s (k + 1)) := ⟨fun h => HI.out.skip HGK.out (by rw [hq]; exact h)⟩
          obtain ⟨zb, zo, e, hzb, cz⟩ := (HZ.out.below HM.out.blw (Nat.le_refl _)).cellK (i := q) (by rw [HZL.out]; exact hqn)
          subst e
          have hzq : szLs zs (q : Int) = zs.getD q 0 := by unfold szLs; rw [Int.toNat_natCast]
          -- the call of size
          have HSIZE : Sld (∀ V, Below wr.heap.size wr V → Calls Tryz.prog 66 #[.agg #[.int .i64 (l.getD k ce0).1.op, .int .i64 (l.getD k ce0).1.n, .string (l.getD k ce0).1.name, .slice ka (l.getD k ce0).1.kids.length kc], .slice (some ⟨zb, zo, none⟩) n zc] V fun e w' => e = .returned (.int .i64 (sizeD (szLs zs) (l.getD k ce0).1.kids)) ∧ Below V.heap.size V w') := ⟨fun V hV => by
            have hVW : Below sh W V := HM.out.blw.trans (hV.mono hshr)
            have hs : sh ≤ V.heap.size := Nat.le_trans hshr hV.size
            have := dsize_any (l.getD k ce0).1 ka kc (some ⟨zb, zo, none⟩) zc zs V (HKW.out.below hVW hs) (by rw [HZL.out]; exact HZ.out.below hVW hs) (fun r hr => by rw [HZL.out]; exact HSZ.out.inc.kids _ (List.mem_of_getElem? HGK.out) r hr) HZR.out
            rwa [HZL.out] at this⟩
          -- what stands at the class so far
          obtain ⟨⟨y, kw⟩, hpq⟩ : ∃ yk, p[q]? = some yk := ⟨p[q]'(by rw [HM.out.len]; exact hqn), List.getElem?_eq_getElem _⟩
          have hpm : (y, kw) ∈ p := List.mem_of_getElem? hpq
          obtain ⟨ya, yc, hkw, _⟩ : ∃ ya yc, kw = .slice ya y.kids.length yc ∧ True := by
            obtain ⟨a, c, e, _⟩ := HM.out.kids _ hpm
            exact ⟨a, c, e, trivial⟩
          subst hkw
          have hly : lsP' p (q : Int) = y := by unfold lsP' lsLs ndA; rw [Int.toNat_natCast, List.getD_eq_getElem?_getD, List.getElem?_map, hpq]; rfl
          have HNODES : Sld (fdF fd (q : Int) = true → szLs zs (q : Int) = s → sizeD (szLs zs) (l.getD k ce0).1.kids = s → ∀ V, Below wr.heap.size wr V → Calls Tryz.prog 68 #[.pointer (some ⟨sh, 0, none⟩), .agg #[.int .i64 (l.getD k ce0).1.op, .int .i64 (l.getD k ce0).1.n, .string (l.getD k ce0).1.name, .slice ka (l.getD k ce0).1.kids.length kc], .agg #[.int .i64 y.op, .int .i64 y.n, .string y.name, .slice ya y.kids.length yc]] V fun e w' => e = .returned (.int .i64 (nodC (ordO (szLs zs) (lsP' p) F) (l.getD k ce0).1 y)) ∧ Below V.heap.size V w') := ⟨fun hf h1 h2 V hV => by
            have hVW : Below sh W V := HM.out.blw.trans (hV.mono hshr)
            have hs : sh ≤ V.heap.size := Nat.le_trans hshr hV.size
            have hL := HI.out.lay HSZ.out
            obtain ⟨g1, g2⟩ := (HI.out.now (q : Int) (by omega) (by omega) h1).1 hf
            rw [hly] at g1 g2
            have hsM : s < 1073741824 := by rw [← h1]; exact HSZ.out.lt _ (by omega) (by omega)
            have hbig := HSZ.out.big
            have hkk : ∀ x : Nd × Int, x ∈ l → sizeD (szLs zs) x.1.kids = s → ∀ r ∈ x.1.kids, InS n (szLs zs) s r ∧ szLs zs r < (F : Int) := fun x hx hxs r hr => by
              obtain ⟨a, b, c⟩ := HSZ.out.kid hx hxs hsM r hr
              exact ⟨⟨a, b, c⟩, by omega⟩
            have hmV := HM.out.below hV
            exact nodes_any (dorder_any HZL.out.symm hL F) (l.getD k ce0).1 y ka ya kc yc V (hmV.shr hn HZ.out HZL.out) (HKW.out.below hVW hs) ((HM.out.kids _ hpm).below hVW hs) (HSZ.out.inc.form _ (List.mem_of_getElem? HGK.out)) (HSZ.out.inc.form _ g1) (hkk _ (List.mem_of_getElem? HGK.out) h2) (hkk _ g1 (by rw [g2]; exact h1))⟩
          have HSTAY : Sld (fdF fd (q : Int) = true → ¬ nodC (ordO (szLs zs) (lsP' p) F) (l.getD k ce0).1 y < 0 → LayI n l (szLs zs) F (lsP' p) (fdF fd) s (k + 1)) := ⟨fun h1 h2 => HI.out.stay HGK.out (by rw [hq]; exact h1) (by rw [hq, hly]; exact h2)⟩
          have HTAKE : Sld (szLs zs (q : Int) = s → sizeD (szLs zs) (l.getD k ce0).1.kids = s → (fdF fd (q : Int) = false ∨ nodC (ordO (szLs zs) (lsP' p) F) (l.getD k ce0).1 y < 0) → LayI n l (szLs zs) F (lsP' (p.set q ((l.getD k ce0).1, .slice ka (l.getD k ce0).1.kids.length kc))) (fdF (fd.set q true)) s (k + 1)) := ⟨fun h1 h2 h3 => by
            refine HI.out.take HSZ.out HGK.out (by rw [hq]; exact h1) h2 (by rw [hq, hly]; exact h3) (fun r a b => ?_) (fun r a b => ?_)
            · rw [lsP_set a (by rw [HM.out.len]; exact hqn), hq]
            · rw [fdF_set a (by rw [HM.out.flen]; exact hqn), hq]⟩
          -- behind the copy of the cell
          obtain ⟨w5, hw5⟩ : ∃ w5, wr.alloc (.cells #[.int .i64 (l.getD k ce0).1.op, .int .i64 (l.getD k ce0).1.n, .string (l.getD k ce0).1.name, .slice ka (l.getD k ce0).1.kids.length kc, .int .i64 (q : Int)] 66) = w5 := ⟨_, rfl⟩
          have hb5 : Below wr.heap.size wr w5 := by rw [← hw5]; exact (Below.refl _ _).alloc (Nat.le_refl _) _
          have k5 : w5.heap[wr.heap.size]? = some (.cells #[.int .i64 (l.getD k ce0).1.op, .int .i64 (l.getD k ce0).1.n, .string (l.getD k ce0).1.name, .slice ka (l.getD k ce0).1.kids.length kc, .int .i64 (q : Int)] 66 (0, 0)) := by rw [← hw5, Deep.blk_alloc_new]
          have HALL : Sld (∀ V, Below w5.heap.size w5 V → (V.cell? ⟨wr.heap.size, 0, none⟩ = some (.int .i64 (l.getD k ce0).1.op) ∧ V.cell? ⟨wr.heap.size, 1, none⟩ = some (.int .i64 (l.getD k ce0).1.n) ∧ V.cell? ⟨wr.heap.size, 2, none⟩ = some (.string (l.getD k ce0).1.name) ∧ V.cell? ⟨wr.heap.size, 3, none⟩ = some (.slice ka (l.getD k ce0).1.kids.length kc) ∧ V.cell? ⟨wr.heap.size, 4, none⟩ = some (.int .i64 (q : Int))) ∧ V.cell? ⟨sh, 1, none⟩ = some (.slice (some ⟨zb, zo, none⟩) n zc) ∧ V.cell? ⟨sh, 2, none⟩ = some (.slice (some ⟨LB, 0, none⟩) n n) ∧ V.cell? ⟨zb, zo + q, none⟩ = some (.int .i64 (szLs zs (q : Int))) ∧ V.cell? ⟨yg, i, none⟩ = some (.int .i64 s) ∧ (V.cell? ⟨FB, q, none⟩ = some (.bool (fdF fd (q : Int))) ∧ V.frozen? ⟨FB, q, none⟩ = false) ∧ (V.cell? ⟨LB, q * 4, none⟩ = some (.int .i64 y.op) ∧ V.cell? ⟨LB, q * 4 + 1, none⟩ = some (.int .i64 y.n) ∧ V.cell? ⟨LB, q * 4 + 2, none⟩ = some (.string y.name) ∧ V.cell? ⟨LB, q * 4 + 3, none⟩ = some (.slice ya y.kids.length yc) ∧ ∀ j, V.frozen? ⟨LB, j, none⟩ = false) ∧ Below wr.heap.size wr V) := ⟨fun V hV => by
            have hV2 : Below wr.heap.size wr V := hb5.trans (hV.mono hb5.size)
            have hmV := HM.out.below hV2
            have hk5 := (hV.block _ (lt_of_block k5)).trans k5
            refine ⟨blk5N hk5, hmV.c1, hmV.c2, ?_, HYC.out V (HY.out.below hV2), ?_, rowN_at hmV.row hpq, hV2⟩
            · rw [hzq]; exact (hV2.cell (p := ⟨zb, zo + q, none⟩) (by have := hshr; show zb < wr.heap.size; omega)).trans cz
            · unfold fdF; rw [Int.toNat_natCast]; exact hmV.cellF hqn⟩
          have HW5 := Sld.mk hw5
          have HB5 := Sld.mk hb5
          have d0 := hNA.c0
          have d1 := hNA.c1
          have d2 := hNA.c2
          have d3 := hNA.c3
          rw [hq] at hcl
          clear hw5 hb5 k5 hNA hgk hm hcr hkr hfx hq HQ HGK cz hzq hpq hpm hly hshr
          generalize (l.getD k ce0).1 = x at *
          generalize sizeD (szLs zs) x.kids = sd at *
          generalize szLs zs (q : Int) = zq at *
          generalize nodC (ordO (szLs zs) (lsP' p) F) x y = R at *
          generalize fdF fd (q : Int) = fq at *
          obtain ⟨⟨x0, x1, x2, x3, x4⟩, t1, t2, tz, ty, ⟨f0, f1⟩, ⟨y0, y1, y2, y3, yf⟩, hV2⟩ := HALL.out w5 (Below.refl _ _)
          have g0 := cell_regrown x0
          have g1 := cell_regrown x1
          have g2 := cell_regrown x2
          have g3 := cell_regrown x3
          have g4 := cell_regrown x4
          have g5 := cell_regrown t1
          have g6 := cell_regrown t2
          have g7 := cell_regrown tz
          have g8 := cell_regrown ty
          have g9 := cell_regrown f0
          have g10 := cell_regrown y0
          have g11 := cell_regrown y1
          have g12 := cell_regrown y2
          have g13 := cell_regrown y3
          clear x0 x1 x2 x3 x4 t1 t2 tz ty f0 f1 y0 y1 y2 y3 yf
          by_cases hzs : zq = s
          · have hze : (zq != s) = false := by simp [hzs]
            have HZS := Sld.mk hzs
            clear hzs
            have cS : Sld (∀ d os, Calls Tryz.prog 66 #[.agg #[.int .i64 x.op, .int .i64 x.n, .string x.name, .slice ka x.kids.length kc], .slice (some ⟨zb, zo, none⟩) n zc] (grow (redrawn w5 d) os) fun e w'' => e = .returned (.int .i64 sd) ∧ ∃ p : Regrown, w'' = grow (redrawn w5 p.d) p.os) := ⟨fun d os => Calls.regrown_of (HSIZE.out _ (HB5.out.trans ((below_regrown w5 d os).mono HB5.out.size)))⟩
            by_cases hsd : sd = s
            · have hse : (sd != s) = false := by simp [hsd]
              have HSD := Sld.mk hsd
              clear hsd
              go_wp2_with fail
              rw [HW5.out]
              clear d0 d1 d2 d3 hcl c0
              refine wp_region_quiet_below (by kernel_rfl) (by kernel_rfl) ?_
              iterate 27 (go_big_quiet_step ((go_at_call 66; exact cS.out _ _)))
              refine wpQuiet_nil ?_
              intro _ hw'
              obtain ⟨⟨ds, oss⟩, hw''⟩ := hw'
              subst hw''
              have HBX : Sld (Below w5.heap.size w5 (grow (redrawn w5 ds) oss)) := ⟨below_regrown w5 ds oss⟩
              clear g0 g1 g2 g3 g4 g5 g6 g7 g8 g9 g10 g11 g12 g13
              clear cS
              generalize grow (redrawn w5 ds) oss = wX at *
              obtain ⟨⟨x0, x1, x2, x3, x4⟩, t1, t2, tz, ty, ⟨f0, f1⟩, ⟨y0, y1, y2, y3, yf⟩, hV2⟩ := HALL.out wX (HBX.out)
              have g0 := cell_regrown x0
              have g1 := cell_regrown x1
              have g2 := cell_regrown x2
              have g3 := cell_regrown x3
              have g4 := cell_regrown x4
              have g5 := cell_regrown t1
              have g6 := cell_regrown t2
              have g7 := cell_regrown tz
              have g8 := cell_regrown ty
              have g9 := cell_regrown f0
              have g10 := cell_regrown y0
              have g11 := cell_regrown y1
              have g12 := cell_regrown y2
              have g13 := cell_regrown y3
              clear x0 x1 x2 x3 x4 t1 t2 tz ty f0 f1 y0 y1 y2 y3 yf
              cases fq with
              | false =>
                go_wp2_with fail
                refine wp_region_quiet_below (by kernel_rfl) (by kernel_rfl) ?_
                iterate 21 (go_big_quiet_step (fail))
                refine wpQuiet_nil ?_
                intro _ hw'
                obtain ⟨⟨ds, oss⟩, hw''⟩ := hw'
                subst hw''
                have HBY : Sld (Below w5.heap.size w5 (grow (redrawn wX ds) oss)) := ⟨HBX.out.trans ((below_regrown wX ds oss).mono HBX.out.size)⟩
                clear g0 g1 g2 g3 g4 g5 g6 g7 g8 g9 g10 g11 g12 g13
                generalize grow (redrawn wX ds) oss = wY at *
                obtain ⟨⟨x0, x1, x2, x3, x4⟩, t1, t2, tz, ty, ⟨f0, f1⟩, ⟨y0, y1, y2, y3, yf⟩, hV2⟩ := HALL.out wY HBY.out
                have HMY := Sld.mk (HM.out.below hV2)
                have HMF := Sld.mk (HMY.out.putF q)
                have hne := HMY.out.ne
                have hFl : FB < wr.heap.size := (rw_block HM.out.frow (b := FB) rfl).2.1
                have HYF : Sld (OwnI (wY.setCell ⟨FB, q, none⟩ (.bool true)) B4 (.slice (some ⟨yg, 0, none⟩) ys.length vc) ys) := ⟨ownSetO (HY.out.below hV2) (fun e => by
                  rcases ownBlock_ne (HY.out.below hV2) HMY.out.frow (by decide) with n1 | n1
                  · rw [n1] at e; cases e
                  · exact n1 (by rw [e]; rfl))⟩
                have hfr : ∀ j, (wY.setCell ⟨FB, q, none⟩ (.bool true)).cell? ⟨wr.heap.size, j, none⟩ = wY.cell? ⟨wr.heap.size, j, none⟩ := fun j => by
                  simp only [World.cell?]; rw [Deep.blk_setCell_other _ _ _ _ (by show wr.heap.size ≠ FB; omega)]
                have x0' := (hfr 0).trans x0
                have x1' := (hfr 1).trans x1
                have x2' := (hfr 2).trans x2
                have x3' := (hfr 3).trans x3
                have x4' := (hfr 4).trans x4
                have t2' := HMF.out.c2
                have hk5 : wr.heap.size < (wY.setCell ⟨FB, q, none⟩ (.bool true)).heap.size := World.block_lt_of_cell? _ _ x0'
                clear hfr hne y0 y1 y2 y3 yf t1 tz ty x0 x1 x2 x3 hV2
                generalize hwF : wY.setCell ⟨FB, q, none⟩ (.bool true) = wF at *
                have HWF := Sld.mk hwF
                clear hwF
                have u0 := cell_regrown x0'
                have u1 := cell_regrown x1'
                have u2 := cell_regrown x2'
                have u3 := cell_regrown x3'
                have u4 := cell_regrown x4'
                have u5 := cell_regrown t2'
                clear x0' x1' x2' x3' x4' t2'
                go_wp2_with (rw [HWF.out])
                refine wp_region_quiet_then 9 (by kernel_rfl) (by kernel_rfl) ?_
                simp only [List.take_succ_cons, List.take_zero]
                iterate 9 (go_big_quiet_step (fail))
                refine wpQuiet_nil ?_
                intro _ hw'
                obtain ⟨⟨dt, ost⟩, hw''⟩ := hw'
                subst hw''
                simp only [List.drop_succ_cons, List.drop_zero]
                have hbG := below_regrown wF dt ost
                have HMG := Sld.mk (HMF.out.below hbG)
                have HYG := Sld.mk (HYF.out.below hbG)
                clear u0 u1 u2 u3 u4 u5 HWF hbG
                generalize grow (redrawn wF dt) ost = wG at *
                obtain ⟨⟨zy, zk⟩, hzp⟩ : ∃ yk, p[q]? = some yk := ⟨p[q]'(by rw [HM.out.len]; exact hqn), List.getElem?_eq_getElem _⟩
                obtain ⟨z0, z1, z2, z3, zf⟩ := rowN_at HMG.out.row hzp
                have zf0 := zf (q * 4)
                have zf1 := zf (q * 4 + 1)
                have zf2 := zf (q * 4 + 2)
                have zf3 := zf (q * 4 + 3)
                have HMZ := Sld.mk (HMG.out.putL hqn x (.slice ka x.kids.length kc) HKW.out)
                have hnL : (Value.slice (some ⟨yg, 0, none⟩) ys.length vc).ownBlock ≠ some LB := fun e => by
                  rcases ownBlock_ne HYG.out HMG.out.row (by decide) with n1 | n1
                  · rw [n1] at e; cases e
                  · exact n1 (by rw [e]; rfl)
                have HYZ : Sld (OwnI ((((wG.setCell ⟨LB, q * 4, none⟩ (.int .i64 x.op)).setCell ⟨LB, q * 4 + 1, none⟩ (.int .i64 x.n)).setCell ⟨LB, q * 4 + 2, none⟩ (.string x.name)).setCell ⟨LB, q * 4 + 3, none⟩ (.slice ka x.kids.length kc)) B4 (.slice (some ⟨yg, 0, none⟩) ys.length vc) ys) := ⟨ownSetO (ownSetO (ownSetO (ownSetO HYG.out hnL) hnL) hnL) hnL⟩
                have HTK := Sld.mk (HTAKE.out HZS.out HSD.out (.inl trivial))
                clear zf hzp hnL HNODES HSTAY HTAKE HALL HSIZE HSK
                go_wp2_with fail
                exact ⟨⟨k + 1, _, _, by omega, by go_num, HMZ, HTK, HYZ⟩, by simp [RowKit.intOf]; omega⟩
              | true =>
                have cN : Sld (∀ d os, Calls Tryz.prog 68 #[.pointer (some ⟨sh, 0, none⟩), .agg #[.int .i64 x.op, .int .i64 x.n, .string x.name, .slice ka x.kids.length kc], .agg #[.int .i64 y.op, .int .i64 y.n, .string y.name, .slice ya y.kids.length yc]] (grow (redrawn wX d) os) fun e w'' => e = .returned (.int .i64 R) ∧ ∃ p : Regrown, w'' = grow (redrawn wX p.d) p.os) := ⟨fun d os => Calls.regrown_of (HNODES.out rfl HZS.out HSD.out _ ((HB5.out.trans (HBX.out.mono HB5.out.size)).trans ((below_regrown wX d os).mono (Nat.le_trans HB5.out.size HBX.out.size))))⟩
                by_cases hR : R < 0
                · have hRI : ¬ ((0 : Int) ≤ R) := by omega
                  have HRL := Sld.mk hR
                  go_wp2_with fail
                  refine wp_region_quiet_below (by kernel_rfl) (by kernel_rfl) ?_
                  iterate 21 (go_big_quiet_step ((go_at_call 68; exact cN.out _ _)))
                  refine wpQuiet_nil ?_
                  intro _ hw'
                  obtain ⟨⟨ds, oss⟩, hw''⟩ := hw'
                  subst hw''
                  have HBY : Sld (Below w5.heap.size w5 (grow (redrawn wX ds) oss)) := ⟨HBX.out.trans ((below_regrown wX ds oss).mono HBX.out.size)⟩
                  clear g0 g1 g2 g3 g4 g5 g6 g7 g8 g9 g10 g11 g12 g13
                  clear cN hR hRI
                  generalize grow (redrawn wX ds) oss = wY at *
                  obtain ⟨⟨x0, x1, x2, x3, x4⟩, t1, t2, tz, ty, ⟨f0, f1⟩, ⟨y0, y1, y2, y3, yf⟩, hV2⟩ := HALL.out wY HBY.out
                  have HMY := Sld.mk (HM.out.below hV2)
                  have HMF := Sld.mk (HMY.out.putF q)
                  have hne := HMY.out.ne
                  have hFl : FB < wr.heap.size := (rw_block HM.out.frow (b := FB) rfl).2.1
                  have HYF : Sld (OwnI (wY.setCell ⟨FB, q, none⟩ (.bool true)) B4 (.slice (some ⟨yg, 0, none⟩) ys.length vc) ys) := ⟨ownSetO (HY.out.below hV2) (fun e => by
                    rcases ownBlock_ne (HY.out.below hV2) HMY.out.frow (by decide) with n1 | n1
                    · rw [n1] at e; cases e
                    · exact n1 (by rw [e]; rfl))⟩
                  have hfr : ∀ j, (wY.setCell ⟨FB, q, none⟩ (.bool true)).cell? ⟨wr.heap.size, j, none⟩ = wY.cell? ⟨wr.heap.size, j, none⟩ := fun j => by
                    simp only [World.cell?]; rw [Deep.blk_setCell_other _ _ _ _ (by show wr.heap.size ≠ FB; omega)]
                  have x0' := (hfr 0).trans x0
                  have x1' := (hfr 1).trans x1
                  have x2' := (hfr 2).trans x2
                  have x3' := (hfr 3).trans x3
                  have x4' := (hfr 4).trans x4
                  have t2' := HMF.out.c2
                  have hk5 : wr.heap.size < (wY.setCell ⟨FB, q, none⟩ (.bool true)).heap.size := World.block_lt_of_cell? _ _ x0'
                  clear hfr hne y0 y1 y2 y3 yf t1 tz ty x0 x1 x2 x3 hV2
                  generalize hwF : wY.setCell ⟨FB, q, none⟩ (.bool true) = wF at *
                  have HWF := Sld.mk hwF
                  clear hwF
                  have u0 := cell_regrown x0'
                  have u1 := cell_regrown x1'
                  have u2 := cell_regrown x2'
                  have u3 := cell_regrown x3'
                  have u4 := cell_regrown x4'
                  have u5 := cell_regrown t2'
                  clear x0' x1' x2' x3' x4' t2'
                  go_wp2_with (rw [HWF.out])
                  refine wp_region_quiet_then 9 (by kernel_rfl) (by kernel_rfl) ?_
                  simp only [List.take_succ_cons, List.take_zero]
                  iterate 9 (go_big_quiet_step (fail))
                  refine wpQuiet_nil ?_
                  intro _ hw'
                  obtain ⟨⟨dt, ost⟩, hw''⟩ := hw'
                  subst hw''
                  simp only [List.drop_succ_cons, List.drop_zero]
                  have hbG := below_regrown wF dt ost
                  have HMG := Sld.mk (HMF.out.below hbG)
                  have HYG := Sld.mk (HYF.out.below hbG)
                  clear u0 u1 u2 u3 u4 u5 HWF hbG
                  generalize grow (redrawn wF dt) ost = wG at *
                  obtain ⟨⟨zy, zk⟩, hzp⟩ : ∃ yk, p[q]? = some yk := ⟨p[q]'(by rw [HM.out.len]; exact hqn), List.getElem?_eq_getElem _⟩
                  obtain ⟨z0, z1, z2, z3, zf⟩ := rowN_at HMG.out.row hzp
                  have zf0 := zf (q * 4)
                  have zf1 := zf (q * 4 + 1)
                  have zf2 := zf (q * 4 + 2)
                  have zf3 := zf (q * 4 + 3)
                  have HMZ := Sld.mk (HMG.out.putL hqn x (.slice ka x.kids.length kc) HKW.out)
                  have hnL : (Value.slice (some ⟨yg, 0, none⟩) ys.length vc).ownBlock ≠ some LB := fun e => by
                    rcases ownBlock_ne HYG.out HMG.out.row (by decide) with n1 | n1
                    · rw [n1] at e; cases e
                    · exact n1 (by rw [e]; rfl)
                  have HYZ : Sld (OwnI ((((wG.setCell ⟨LB, q * 4, none⟩ (.int .i64 x.op)).setCell ⟨LB, q * 4 + 1, none⟩ (.int .i64 x.n)).setCell ⟨LB, q * 4 + 2, none⟩ (.string x.name)).setCell ⟨LB, q * 4 + 3, none⟩ (.slice ka x.kids.length kc)) B4 (.slice (some ⟨yg, 0, none⟩) ys.length vc) ys) := ⟨ownSetO (ownSetO (ownSetO (ownSetO HYG.out hnL) hnL) hnL) hnL⟩
                  have HTK := Sld.mk (HTAKE.out HZS.out HSD.out (.inr HRL.out))
                  clear zf hzp hnL HNODES HSTAY HTAKE HALL HSIZE HSK
                  go_wp2_with fail
                  exact ⟨⟨k + 1, _, _, by omega, by go_num, HMZ, HTK, HYZ⟩, by simp [RowKit.intOf]; omega⟩
                · have hdR : decide (R < 0) = false := by simp [hR]
                  have HN := Sld.mk (HSTAY.out rfl (by omega))
                  go_wp2_with fail
                  refine wp_region_quiet_below (by kernel_rfl) (by kernel_rfl) ?_
                  iterate 21 (go_big_quiet_step ((go_at_call 68; exact cN.out _ _)))
                  refine wpQuiet_nil ?_
                  intro _ hw'
                  obtain ⟨⟨ds, oss⟩, hw''⟩ := hw'
                  subst hw''
                  have hbZ : Below wr.heap.size wr (grow (redrawn wX ds) oss) := (HB5.out.trans (HBX.out.mono HB5.out.size)).trans ((below_regrown wX ds oss).mono (Nat.le_trans HB5.out.size HBX.out.size))
                  have HMZ := Sld.mk (HM.out.below hbZ)
                  have HYZ : Sld (OwnI _ B4 (.slice (some ⟨yg, 0, none⟩) ys.length vc) ys) := ⟨HY.out.below hbZ⟩
                  clear hbZ
                  go_wp2_with fail
                  exact ⟨⟨k + 1, p, fd, by omega, by go_num, HMZ, HN, HYZ⟩, by simp [RowKit.intOf]; omega⟩
            · have hse : (sd != s) = true := by simp [hsd]
              have HN := Sld.mk (HSK.out (fun h => hsd h.2))
              go_wp2_with fail
              rw [HW5.out]
              clear d0 d1 d2 d3 hcl c0
              refine wp_region_quiet_below (by kernel_rfl) (by kernel_rfl) ?_
              iterate 27 (go_big_quiet_step ((go_at_call 66; exact cS.out _ _)))
              refine wpQuiet_nil ?_
              intro _ hw'
              obtain ⟨⟨ds, oss⟩, hw''⟩ := hw'
              subst hw''
              have hbZ : Below wr.heap.size wr (grow (redrawn w5 ds) oss) := HB5.out.trans ((below_regrown w5 ds oss).mono HB5.out.size)
              have HMZ := Sld.mk (HM.out.below hbZ)
              have HYZ : Sld (OwnI _ B4 (.slice (some ⟨yg, 0, none⟩) ys.length vc) ys) := ⟨HY.out.below hbZ⟩
              clear hbZ
              go_wp2_with fail
              exact ⟨⟨k + 1, p, fd, by omega, by go_num, HMZ, HN, HYZ⟩, by simp [RowKit.intOf]; omega⟩
          · have hze : (zq != s) = true := by simp [hzs]
            have HN := Sld.mk (HSK.out (fun h => hzs h.1))
            go_wp2_with fail
            rw [HW5.out]
            clear d0 d1 d2 d3 hcl c0
            refine wp_region_quiet_below (by kernel_rfl) (by kernel_rfl) ?_
            iterate 27 (go_big_quiet_step (fail))
            refine wpQuiet_nil ?_
            intro _ hw'
            obtain ⟨⟨ds, oss⟩, hw''⟩ := hw'
            subst hw''
            have hbZ : Below wr.heap.size wr (grow (redrawn w5 ds) oss) := HB5.out.trans ((below_regrown w5 ds oss).mono HB5.out.size)
            have HMZ := Sld.mk (HM.out.below hbZ)
            have HYZ : Sld (OwnI _ B4 (.slice (some ⟨yg, 0, none⟩) ys.length vc) ys) := ⟨HY.out.below hbZ⟩
            clear hbZ
            go_wp2_with fail
            exact ⟨⟨k + 1, p, fd, by omega, by go_num, HMZ, HN, HYZ⟩, by simp [RowKit.intOf]; omega⟩
        · have hke : k = l.length := by omega
          subst hke
          have HN := Sld.mk (HSTEP.out p fd HI.out)
          clear HSTEP HI
          go_wp2_with fail
          exact ⟨⟨i + 1, p, fd, by omega, by go_num, HM, HN, HY⟩, by simp [RowKit.intOf]; omega⟩
    · have hie : i = ys.length := by omega
      have HE := Sld.mk (HS.out.2 hie)
      have HP := Sld.mk HM.out.len
      have HND := Sld.mk (HM.out.nodes hn)
      have HBK := Sld.mk HM.out.blk
      have HGR := Sld.mk HM.out.gr
      clear hie HS HM HY
      go_wp2_with fail
      go_end0
      exact ⟨rfl, p, by rw [hLB]; exact HBK.out, by rw [hLB]; exact HND.out, HP.out, HE.out, HGR.out⟩
end Go.Proofs.YtlbmijcpalfaeaaGreatDoor
