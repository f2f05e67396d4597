/-
  DcG, DcH.
-/
import Derived.Test.YtlbmijcpalfaeaaGreatDoorP34
set_option linter.unusedSimpArgs false
set_option linter.unusedVariables false
namespace Go.Proofs.YtlbmijcpalfaeaaGreatDoor
open Go.RowKit Go.Lib Go.Sort

/-- The numbers of a row, added up. -/
def sW (w : World) (g n : Nat) : Nat := ((List.range n).map fun j => ((w.cell? ⟨g, j, none⟩).map fun v => (RowKit.intOf v).toNat).getD 0).sum
theorem sW_eq {w : World} {base g n cap : Nat} {l : List Int} (hO : OwnI w base (.slice (some ⟨g, 0, none⟩) n cap) l) (hl : l.length = n) : sW w g n = (l.map Int.toNat).sum := by
  unfold sW
  congr 1
  apply List.ext_getElem
  · simp [hl]
  · intro i h1 h2
    simp only [List.length_map, List.length_range] at h1
    simp only [List.getElem_map, List.getElem_range]
    rw [(ownI_cell hO (i := i) (by omega)).1]
    simp [RowKit.intOf, show i < l.length by omega]
theorem sum_set {l : List Int} {i : Nat} {z : Int} (hi : i < l.length) (h0 : 0 ≤ z) (h : z < l.getD i 0) : ((l.set i z).map Int.toNat).sum < (l.map Int.toNat).sum := by
  induction l generalizing i with
  | nil => simp at hi
  | cons a l ih =>
    cases i with
    | zero => simp only [List.getD_cons_zero] at h; simp only [List.set_cons_zero, List.map_cons, List.sum_cons]; omega
    | succ i =>
      simp only [List.getD_cons_succ] at h
      have := ih (by simpa using hi) h
      simp only [List.set_cons_succ, List.map_cons, List.sum_cons]
      omega
/-- Sizes in the making. -/
structure FixP (n : Nat) (cells : List (Nd × Int)) (zs : List Int) : Prop where
  len : zs.length = n
  hit : ∀ q : Int, 0 ≤ q → q < (n : Int) → szLs zs q = 1073741824 ∨ ∃ c ∈ cells, c.2 = q ∧ sizeD (szLs zs) c.1.kids ≤ szLs zs q
  rng : ∀ z ∈ zs, 1 ≤ z ∧ z ≤ 1073741824
theorem FixP.at_ {n : Nat} {cells : List (Nd × Int)} {zs : List Int} (h : FixP n cells zs) {q : Int} (h0 : 0 ≤ q) (h1 : q < (n : Int)) : 1 ≤ szLs zs q ∧ szLs zs q ≤ 1073741824 := by
  have := h.len
  unfold szLs
  rw [List.getD_eq_getElem?_getD, List.getElem?_eq_getElem (by omega)]
  exact h.rng _ (List.getElem_mem _)
theorem FixP.start (n : Nat) (cells : List (Nd × Int)) : FixP n cells (List.replicate n 1073741824) :=
  ⟨by simp, fun q h0 h1 => .inl (by unfold szLs; rw [List.getD_eq_getElem?_getD, List.getElem?_eq_getElem (by simp; omega)]; simp), fun z hz => by rw [List.mem_replicate] at hz; omega⟩
theorem szLs_set {zs : List Int} {i : Nat} {z : Int} {q : Int} (h0 : 0 ≤ q) (hi : i < zs.length) : szLs (zs.set i z) q = if q = (i : Int) then z else szLs zs q := by
  unfold szLs
  by_cases e : q = (i : Int)
  · subst e; rw [if_pos rfl, Int.toNat_natCast]; simp [hi]
  · rw [if_neg e]; simp only [List.getD_eq_getElem?_getD]; rw [List.getElem?_set_ne (by omega)]
theorem sizeD_mono {sz sz' : Int → Int} {ks : List Int} (h : ∀ k ∈ ks, 0 ≤ sz k ∧ sz k ≤ sz' k) : sizeD sz ks ≤ sizeD sz' ks := by
  rw [sizeD_eq (fun k hk => (h k hk).1), sizeD_eq (fun k hk => by have := h k hk; omega)]
  have : sumK sz ks ≤ sumK sz' ks := by
    induction ks with
    | nil => simp [sumK]
    | cons k ks ih => have := h k (by simp); have := ih (fun x hx => h x (by simp [hx])); simp only [sumK]; omega
  omega
theorem FixP.put {n : Nat} {cells : List (Nd × Int)} {zs : List Int} (h : FixP n cells zs) (hc : InCs n cells) {c : Nd × Int} (hm : c ∈ cells) (hlt : sizeD (szLs zs) c.1.kids < szLs zs c.2) : FixP n cells (zs.set c.2.toNat (sizeD (szLs zs) c.1.kids)) := by
  have hcl := hc.cl c hm
  have hl := h.len
  have hk : ∀ d ∈ cells, ∀ k ∈ d.1.kids, 1 ≤ szLs zs k := fun d hd k hk => (h.at_ (hc.kids d hd k hk).1 (hc.kids d hd k hk).2).1
  have h1 : 1 ≤ sizeD (szLs zs) c.1.kids := by
    rw [sizeD_eq (fun k hk2 => by have := hk c hm k hk2; omega)]
    have := sumK_nonneg (sz := szLs zs) (ks := c.1.kids) (fun k hk2 => by have := hk c hm k hk2; omega)
    omega
  have hmx := (h.at_ hcl.1 hcl.2).2
  have hle : ∀ q : Int, 0 ≤ q → q < (n : Int) → 0 ≤ szLs (zs.set c.2.toNat (sizeD (szLs zs) c.1.kids)) q ∧ szLs (zs.set c.2.toNat (sizeD (szLs zs) c.1.kids)) q ≤ szLs zs q := fun q h0 hq => by
    have := h.at_ h0 hq
    rw [szLs_set h0 (by omega)]
    split
    · rename_i e; have e2 : q = c.2 := by omega
      subst e2; omega
    · omega
  refine ⟨by simpa using hl, fun q h0 hq => ?_, fun z hz => ?_⟩
  · have hmono : ∀ d ∈ cells, sizeD (szLs (zs.set c.2.toNat (sizeD (szLs zs) c.1.kids))) d.1.kids ≤ sizeD (szLs zs) d.1.kids := fun d hd => sizeD_mono fun k hk2 => hle k (hc.kids d hd k hk2).1 (hc.kids d hd k hk2).2
    have he := szLs_set (zs := zs) (i := c.2.toNat) (z := sizeD (szLs zs) c.1.kids) h0 (by omega)
    by_cases e : q = c.2
    · right
      refine ⟨c, hm, e.symm, ?_⟩
      have hv : szLs (zs.set c.2.toNat (sizeD (szLs zs) c.1.kids)) q = sizeD (szLs zs) c.1.kids := by rw [he, if_pos (by omega)]
      rw [hv]
      exact hmono c hm
    · have hv : szLs (zs.set c.2.toNat (sizeD (szLs zs) c.1.kids)) q = szLs zs q := by rw [he, if_neg (by omega)]
      rw [hv]
      rcases h.hit q h0 hq with h2 | ⟨d, hd, h2, h3⟩
      · exact .inl h2
      · exact .inr ⟨d, hd, h2, Int.le_trans (hmono d hd) h3⟩
  · rcases List.mem_or_eq_of_mem_set hz with hz | rfl
    · exact h.rng z hz
    · omega
theorem FixP.done {n : Nat} {cells : List (Nd × Int)} {zs : List Int} (h : FixP n cells zs) (hle : ∀ j, j < cells.length → szLs zs (cells.getD j ce0).2 ≤ sizeD (szLs zs) (cells.getD j ce0).1.kids) : FixS n cells (szLs zs) :=
  ⟨fun c hc => by
    obtain ⟨j, hj, e⟩ := List.getElem_of_mem hc
    have := hle j hj
    rw [List.getD_eq_getElem?_getD, List.getElem?_eq_getElem hj] at this
    simp only [Option.getD_some, e] at this
    exact this, h.hit, fun q h0 h1 => h.at_ h0 h1⟩
def bNm : Value → Nat
  | .bool true => 1
  | _ => 0
theorem made_zerosD (n : Nat) : (madeCells (Value.int .i64 0).cells (n * 1)).toList = (List.replicate n (0 : Int)).map (Value.int .i64) := by
  apply List.ext_getElem?
  intro i
  rw [List.map_replicate, List.getElem?_replicate]
  by_cases hi : i < n
  · simp [madeCells, hi, Nat.mod_one, Value.cells]
  · simp [madeCells, hi]

set_option maxRecDepth 20000 in
set_option maxHeartbeats 8000000 in
theorem sizes_any (n : Nat) (w : World) (ca : Option Addr) (cc : Nat) (l : List (Nd × Int)) (hC : Cels w w.heap.size (.slice ca l.length cc) l) (hin : InCs n l) (hn : n ≤ 4096) (hl : l.length ≤ 8192) :
    Calls Tryz.prog 45 #[.int .i64 n, .slice ca l.length cc] w fun e w' => ∃ zs, e = .returned (.slice (some ⟨w.heap.size, 0, none⟩) n n) ∧ OwnI w' w.heap.size (.slice (some ⟨w.heap.size, 0, none⟩) n n) zs ∧ zs.length = n ∧ FixS n l (szLs zs) ∧ (∀ z ∈ zs, 1 ≤ z ∧ z ≤ 1073741824) ∧ Below w.heap.size w w' := by
  obtain ⟨i0, hi, hz0, hz1, hz2⟩ := info_parts Tryz.infoI3
  obtain ⟨w3, hmk, hown3, hg3⟩ := run_make_full (P := Tryz.prog) w w.heap.size 24 3 i0 (.int .i64 0) 1 Tryz.underlying24 hi hz0 hz1 .i64 .i64 n (by rw [hz2]; omega) (by unfold maxLen; omega) (Nat.le_refl _)
  rw [made_zerosD] at hown3
  have hO3 : OwnI w3 w.heap.size (.slice (some ⟨w.heap.size, 0, none⟩) n n) (List.replicate n 0) := by
    unfold OwnI; rw [List.length_replicate]; exact hown3
  have HO3 := Sld.mk hO3
  have HB3 : Sld (Below w.heap.size w w3) := ⟨(Below.refl w.heap.size w).grown hg3 (Nat.le_refl _) (fun j hj => by cases hj)⟩
  obtain ⟨g, hg⟩ : ∃ g, w.heap.size = g := ⟨_, rfl⟩
  have HG : Sld (w.heap.size = g) := ⟨hg⟩
  have HC := Sld.mk hC
  have HIN := Sld.mk hin
  rw [hg] at hmk HO3 HB3 HC ⊢
  clear hown3 hO3 hg3 hg hC hin
  go_enter Tryz.func45, Tryz.ntmps45
  go_wp2_with fail
  clear hmk
  go_loopw [6] (fun q wr => ∃ j : Nat, j ≤ n ∧ q = .int .i64 j ∧ Sld (OwnI wr g (.slice (some ⟨g, 0, none⟩) n n) (List.replicate j 1073741824 ++ List.replicate (n - j) 0)) ∧ Sld (Below g w wr)) (fun q _ => n - (RowKit.intOf q).toNat)
  case atStart => exact ⟨0, by omega, rfl, by simpa using HO3, HB3⟩
  case round =>
    obtain ⟨j, hj, rfl, HO, HB⟩ := hrel
    clear HO3 HB3
    by_cases hlt : j < n
    · obtain ⟨e0, f0⟩ := ownI_cell HO.out (i := j) (by simp; omega)
      obtain ⟨u, hu⟩ : ∃ u, (List.replicate j (1073741824 : Int) ++ List.replicate (n - j) 0).getD j 0 = u := ⟨_, rfl⟩
      rw [hu] at e0
      have HST : Sld (OwnI (wr.setCell ⟨g, j, none⟩ (.int .i64 1073741824)) g (.slice (some ⟨g, 0, none⟩) n n) (List.replicate (j + 1) 1073741824 ++ List.replicate (n - (j + 1)) 0)) := ⟨by
        have := HO.out.putT (by simp; omega) j 1073741824
        have e : (List.replicate j (1073741824 : Int) ++ List.replicate (n - j) 0).set j 1073741824 = List.replicate (j + 1) 1073741824 ++ List.replicate (n - (j + 1)) 0 := by
          rw [List.set_append_right _ _ (by simp), List.length_replicate, Nat.sub_self, show n - j = (n - (j + 1)) + 1 by omega, List.replicate_succ, List.set_cons_zero, List.replicate_succ' (n := j), List.append_assoc]
          rfl
        rw [e] at this
        exact this⟩
      have HBS : Sld (Below g w (wr.setCell ⟨g, j, none⟩ (.int .i64 1073741824))) := ⟨HB.out.setCell (p := ⟨g, j, none⟩) (Nat.le_refl _) _⟩
      clear HO HB hu
      go_wp2_with fail
      exact ⟨⟨j + 1, by omega, by go_num, HST, HBS⟩, by simp [RowKit.intOf]; omega⟩
    · have hje : j = n := by omega
      subst hje
      have HO2 : Sld (OwnI wr g (.slice (some ⟨g, 0, none⟩) j j) (List.replicate j 1073741824)) := ⟨by have := HO.out; rw [Nat.sub_self] at this; simpa using this⟩
      clear HO
      obtain ⟨wA, hwA⟩ : ∃ wA, wA = wr := ⟨_, rfl⟩
      subst hwA
      go_wp2_with fail
      go_loopw [7] (fun mo wr => ∃ (b : Bool) (zs : List Int), mo = .bool b ∧ Sld (FixP j l zs) ∧ Sld (OwnI wr g (.slice (some ⟨g, 0, none⟩) j j) zs) ∧ Sld (Below g w wr) ∧ Sld (b = false → ∀ i, i < l.length → szLs zs (l.getD i ce0).2 ≤ sizeD (szLs zs) (l.getD i ce0).1.kids)) (fun mo wr => sW wr g j + bNm mo)
      case atStart => exact ⟨true, _, rfl, ⟨FixP.start j l⟩, HO2, HB, ⟨fun h => by cases h⟩⟩
      case round =>
        obtain ⟨b, zs, rfl, HF, HO, HB, HD⟩ := hrel
        clear HO2
        cases b
        · have HFX : Sld (FixS j l (szLs zs)) := ⟨HF.out.done (HD.out rfl)⟩
          clear HD
          go_wp2_with fail
          go_ret
          exact ⟨zs, rfl, HO.out, HF.out.len, HFX.out, HF.out.rng, HB.out⟩
        · have HZ : Sld (sW wr g j = (zs.map Int.toNat).sum) := ⟨sW_eq HO.out HF.out.len⟩
          clear HD
          go_wp2_with fail
          go_loopw [7, 8] (fun mo i wk => ∃ (b : Bool) (zs' : List Int) (k : Nat), k ≤ l.length ∧ mo = .bool b ∧ i = .int .i64 k ∧ Sld (FixP j l zs') ∧ Sld (OwnI wk g (.slice (some ⟨g, 0, none⟩) j j) zs') ∧ Sld (Below g w wk) ∧ Sld (b = false → zs' = zs ∧ ∀ i, i < k → szLs zs' (l.getD i ce0).2 ≤ sizeD (szLs zs') (l.getD i ce0).1.kids) ∧ Sld (b = true → (zs'.map Int.toNat).sum < (zs.map Int.toNat).sum)) (fun _ i _ => l.length - (RowKit.intOf i).toNat)
          case atStart => exact ⟨false, zs, 0, by omega, rfl, rfl, HF, HO, HB, ⟨fun _ => ⟨rfl, fun i hi => by omega⟩⟩, ⟨fun h => by cases h⟩⟩
          case round =>
            obtain ⟨b, zs', k, hk, rfl, rfl, HF', HO', HB', HD', HT'⟩ := hrel
            clear HF HO HB
            by_cases hlt2 : k < l.length
            · obtain ⟨cb, co, ka, kc, rfl, hcb, hNA, hcl⟩ := HC.out.cell hlt2
              have hm : l.getD k ce0 ∈ l := by simp [hlt2]
              have hNA := hNA.below HB'.out (B' := wr.heap.size) (by have h1 := HB'.out.size; have h2 := HG.out; omega) hcb
              have hcl := (HB'.out.cell (p := ⟨cb, co + k * 5 + 4, none⟩) hcb).trans hcl
              have hcr := HIN.out.cl _ hm
              have hkr := HIN.out.kids _ hm
              have hzl := HF'.out.len
              have SZ : Sld (Calls Tryz.prog 66 #[.agg #[.int .i64 (l.getD k ce0).1.op, .int .i64 (l.getD k ce0).1.n, .string (l.getD k ce0).1.name, .slice ka (l.getD k ce0).1.kids.length kc], .slice (some ⟨g, 0, none⟩) j j] wr fun e w' => e = .returned (.int .i64 (sizeD (szLs zs') (l.getD k ce0).1.kids)) ∧ Below wr.heap.size wr w') := ⟨by
                have := dsize_any (l.getD k ce0).1 ka kc (some ⟨g, 0, none⟩) j zs' wr hNA.kids (by have := Ints_of_own HO'.out (Nat.le_refl _); rw [hzl] at *; exact this) (fun q hq => by rw [hzl]; exact hkr q hq) (fun z hz => by have := HF'.out.rng z hz; omega)
                rwa [hzl] at this⟩
              have HPUT : Sld (sizeD (szLs zs') (l.getD k ce0).1.kids < szLs zs' (l.getD k ce0).2 → FixP j l (zs'.set (l.getD k ce0).2.toNat (sizeD (szLs zs') (l.getD k ce0).1.kids))) := ⟨fun h => HF'.out.put HIN.out hm h⟩
              have HS0 : Sld (1 ≤ sizeD (szLs zs') (l.getD k ce0).1.kids) := ⟨by
                have h0 : ∀ q ∈ (l.getD k ce0).1.kids, 0 ≤ szLs zs' q := fun q hq => by have := HF'.out.at_ (hkr q hq).1 (hkr q hq).2; omega
                rw [sizeD_eq h0]
                have := sumK_nonneg h0
                omega⟩
              obtain ⟨q, hq⟩ : ∃ q : Nat, (l.getD k ce0).2 = (q : Int) := ⟨(l.getD k ce0).2.toNat, by omega⟩
              have hqj : q < j := by rw [hq] at hcr; omega
              obtain ⟨z0, zf⟩ := ownI_cell HO'.out (i := q) (by omega)
              have hzq : szLs zs' (q : Int) = zs'.getD q 0 := by unfold szLs; rw [Int.toNat_natCast]
              have HQ := Sld.mk hq
              have HNX : Sld (b = false → szLs zs' (l.getD k ce0).2 ≤ sizeD (szLs zs') (l.getD k ce0).1.kids → ∀ i, i < k + 1 → szLs zs' (l.getD i ce0).2 ≤ sizeD (szLs zs') (l.getD i ce0).1.kids) := ⟨fun hb hle i hi => by
                by_cases e : i = k
                · subst e; exact hle
                · exact (HD'.out hb).2 i (by omega)⟩
              have HSUM : Sld (∀ z : Int, 0 ≤ z → z < zs'.getD q 0 → ((zs'.set q z).map Int.toNat).sum < (zs'.map Int.toNat).sum) := ⟨fun z h1 h2 => sum_set (by omega) h1 h2⟩
              have HOW : Sld (∀ W : World, Below wr.heap.size wr W → OwnI W g (.slice (some ⟨g, 0, none⟩) j j) zs' ∧ W.cell? ⟨cb, co + k * 5 + 4, none⟩ = some (.int .i64 (q : Int)) ∧ W.cell? ⟨g, q, none⟩ = some (.int .i64 (zs'.getD q 0)) ∧ W.frozen? ⟨g, q, none⟩ = false) := ⟨fun W hW => by
                have h1 := HO'.out.below hW
                obtain ⟨a1, a2⟩ := ownI_cell h1 (i := q) (by omega)
                refine ⟨h1, ?_, a1, a2⟩
                rw [← hq]
                exact (hW.cell (p := ⟨cb, co + k * 5 + 4, none⟩) (World.block_lt_of_cell? wr _ hcl)).trans hcl⟩
              have d0 := hNA.c0
              have d1 := hNA.c1
              have d2 := hNA.c2
              have d3 := hNA.c3
              rw [hq, hzq] at HPUT
              rw [hq] at HNX hcl
              rw [hzq] at HNX
              rw [Int.toNat_natCast] at HPUT
              generalize sizeD (szLs zs') (l.getD k ce0).1.kids = s at *
              generalize (l.getD k ce0).1 = x at *
              obtain ⟨xo, xn, xm, xk⟩ := x
              simp only at SZ d0 d1 d2 d3
              generalize xk.length = kl at *
              have hqI : (q : Int) < (j : Int) := by omega
              clear hNA hcr hkr hm hq hzq hzl z0 zf
              obtain ⟨zq, hzq⟩ : ∃ zq, zs'.getD q 0 = zq := ⟨_, rfl⟩
              rw [hzq] at HPUT HNX HSUM HOW
              clear hzq
              have HLE : Sld ((zs'.map Int.toNat).sum ≤ (zs.map Int.toNat).sum) := ⟨by
                cases b with
                | false => rw [(HD'.out rfl).1]; exact Nat.le_refl _
                | true => have := HT'.out rfl; omega⟩
              have HPL : Sld (zs'.length = j) := ⟨HF'.out.len⟩
              by_cases hlt3 : s < zq
              · go_wp2_with (go_at_call 66; refine SZ.out.mono ?_; rintro e w5 ⟨rfl, hb5⟩; obtain ⟨o5, y0, y1, y2⟩ := HOW.out w5 hb5)
                have HST : Sld (OwnI (w5.setCell ⟨g, q, none⟩ (.int .i64 s)) g (.slice (some ⟨g, 0, none⟩) j j) (zs'.set q s)) := ⟨o5.putT HPL.out q s⟩
                have HBS : Sld (Below g w (w5.setCell ⟨g, q, none⟩ (.int .i64 s))) := ⟨(HB'.out.trans (hb5.mono (by have h1 := HB'.out.size; have h2 := HG.out; omega))).setCell (p := ⟨g, q, none⟩) (Nat.le_refl _) _⟩
                clear o5
                go_wp2_with fail
                exact ⟨⟨true, zs'.set q s, k + 1, by omega, rfl, by go_num, ⟨HPUT.out hlt3⟩, HST, HBS, ⟨fun h => by cases h⟩, ⟨fun _ => by have h1 := HSUM.out s (by have := HS0.out; omega) hlt3; have h2 := HLE.out; omega⟩⟩, by simp [RowKit.intOf]; omega⟩
              · go_wp2_with (go_at_call 66; refine SZ.out.mono ?_; rintro e w5 ⟨rfl, hb5⟩; obtain ⟨o5, y0, y1, y2⟩ := HOW.out w5 hb5)
                have HST : Sld (OwnI w5 g (.slice (some ⟨g, 0, none⟩) j j) zs') := ⟨o5⟩
                have HBS : Sld (Below g w w5) := ⟨HB'.out.trans (hb5.mono (by have h1 := HB'.out.size; have h2 := HG.out; omega))⟩
                clear o5
                go_wp2_with fail
                exact ⟨⟨b, zs', k + 1, by omega, rfl, by go_num, HF', HST, HBS, ⟨fun h => ⟨(HD'.out h).1, HNX.out h (by omega)⟩⟩, HT'⟩, by simp [RowKit.intOf]; omega⟩
            · have hke : k = l.length := by omega
              subst hke
              have HEN : Sld (b = false → ∀ i, i < l.length → szLs zs' (l.getD i ce0).2 ≤ sizeD (szLs zs') (l.getD i ce0).1.kids) := ⟨fun h => (HD'.out h).2⟩
              have HZ' : Sld (sW wr g j = (zs'.map Int.toNat).sum) := ⟨sW_eq HO'.out HF'.out.len⟩
              have HME : Sld (sW wr g j + bNm (.bool b) < (zs.map Int.toNat).sum + 1) := ⟨by
                rw [HZ'.out]
                cases b with
                | false => rw [(HD'.out rfl).1]; simp [bNm]
                | true => have := HT'.out rfl; simp [bNm]; omega⟩
              clear HD' HT'
              go_wp2_with fail
              exact ⟨⟨b, zs', rfl, HF', HO', HB', HEN⟩, by have := HME.out; have := HZ.out; simp [bNm] at *; omega⟩
end Go.Proofs.YtlbmijcpalfaeaaGreatDoor

set_option linter.unusedSimpArgs false
set_option linter.unusedVariables false
namespace Go.Proofs.YtlbmijcpalfaeaaGreatDoor
open Go.RowKit Go.Lib

structure LayI (n : Nat) (cells : List (Nd × Int)) (sz : Int → Int) (F : Nat) (ls : Int → Nd) (fd : Int → Bool) (s : Int) (k : Nat) : Prop where
  low : ∀ q : Int, 0 ≤ q → q < (n : Int) → sz q < s → (ls q, q) ∈ cells ∧ sizeD sz (ls q).kids = sz q ∧ ∀ c ∈ cells, c.2 = q → sizeD sz c.1.kids = sz q → 0 ≤ nodC (ordO sz ls F) c.1 (ls q)
  now : ∀ q : Int, 0 ≤ q → q < (n : Int) → sz q = s → (fd q = true → (ls q, q) ∈ cells ∧ sizeD sz (ls q).kids = sz q) ∧ ∀ j, j < k → ∀ c, cells[j]? = some c → c.2 = q → sizeD sz c.1.kids = sz q → fd q = true ∧ 0 ≤ nodC (ordO sz ls F) c.1 (ls q)
  high : ∀ q : Int, 0 ≤ q → q < (n : Int) → s < sz q → fd q = false
/-- What the classes' sizes have to be. -/
structure SzOk (n : Nat) (cells : List (Nd × Int)) (sz : Int → Int) (F : Nat) : Prop where
  inc : InCs n cells
  fix : FixS n cells sz
  lt : ∀ q : Int, 0 ≤ q → q < (n : Int) → sz q < 1073741824
  big : 1073741824 ≤ F
theorem SzOk.kid {n : Nat} {cells : List (Nd × Int)} {sz : Int → Int} {F : Nat} (h : SzOk n cells sz F) {c : Nd × Int} (hm : c ∈ cells) {t : Int} (ht : sizeD sz c.1.kids = t) (hM : t < 1073741824) : ∀ k ∈ c.1.kids, 0 ≤ k ∧ k < (n : Int) ∧ sz k < t := fun k hk => by
  obtain ⟨a1, a2, _⟩ := h.fix.sum h.inc hm
  have := a2 k hk
  exact ⟨(h.inc.kids c hm k hk).1, (h.inc.kids c hm k hk).2, by omega⟩
theorem LayI.lay {n : Nat} {cells : List (Nd × Int)} {sz : Int → Int} {F : Nat} {ls : Int → Nd} {fd : Int → Bool} {s : Int} {k : Nat} (h : LayI n cells sz F ls fd s k) (hz : SzOk n cells sz F) : LayO n sz ls s :=
  ⟨fun q h0 h1 => by have := (hz.fix.rng q h0 h1).1; omega, fun q hq => hz.inc.form _ (h.low q hq.1 hq.2.1 hq.2.2).1, fun q hq k hk => hz.kid (c := (ls q, q)) (h.low q hq.1 hq.2.1 hq.2.2).1 (h.low q hq.1 hq.2.1 hq.2.2).2.1 (hz.lt q hq.1 hq.2.1) k hk, fun p q hp hq e => hz.inc.one _ (h.low p hp.1 hp.2.1 hp.2.2).1 _ (h.low q hq.1 hq.2.1 hq.2.2).1 e⟩
theorem nodC_congrL {n : Nat} {sz : Int → Int} {ls ls' : Int → Nd} {s : Int} {F : Nat} (h : LayO n sz ls s) (he : ∀ r, InS n sz s r → ls r = ls' r) (hF : ∀ q : Int, 0 ≤ q → q < (n : Int) → sz q < (F : Int)) {x y : Nd} (hx : ∀ k ∈ x.kids, InS n sz s k) (hy : ∀ k ∈ y.kids, InS n sz s k) : nodC (ordO sz ls F) x y = nodC (ordO sz ls' F) x y := by
  unfold nodC
  refine ordKC _ _ _ fun k hk m hm => ?_
  exact ordO_congr F F s k m h he (hx k hk) (hy m hm) (hF k (hx k hk).1 (hx k hk).2.1) (hF m (hy m hm).1 (hy m hm).2.1) (hF k (hx k hk).1 (hx k hk).2.1) (hF m (hy m hm).1 (hy m hm).2.1)
theorem LayI.start {n : Nat} {cells : List (Nd × Int)} {sz : Int → Int} {F : Nat} {ls : Int → Nd} {fd : Int → Bool} {s : Int} (h0 : ∀ q : Int, 0 ≤ q → q < (n : Int) → s ≤ sz q) (hf : ∀ q, fd q = false) : LayI n cells sz F ls fd s 0 :=
  ⟨fun q a b c => by have := h0 q a b; omega, fun q a b c => ⟨fun h => by (rw [hf] at h; cases h), fun j hj => by omega⟩, fun q _ _ _ => hf q⟩
/-- A cell that does not count here. -/
theorem LayI.skip {n : Nat} {cells : List (Nd × Int)} {sz : Int → Int} {F : Nat} {ls : Int → Nd} {fd : Int → Bool} {s : Int} {k : Nat} (h : LayI n cells sz F ls fd s k) {c : Nd × Int} (hc : cells[k]? = some c) (hs : ¬ (sz c.2 = s ∧ sizeD sz c.1.kids = s)) : LayI n cells sz F ls fd s (k + 1) :=
  ⟨h.low, fun q a b e => ⟨(h.now q a b e).1, fun j hj d hd h1 h2 => by
    by_cases ej : j = k
    · subst ej
      rw [hc] at hd
      injection hd with hd
      subst hd
      exact absurd ⟨by rw [h1]; exact e, by rw [h2]; exact e⟩ hs
    · exact (h.now q a b e).2 j (by omega) d hd h1 h2⟩, h.high⟩
/-- A cell that is no less than what there is. -/
theorem LayI.stay {n : Nat} {cells : List (Nd × Int)} {sz : Int → Int} {F : Nat} {ls : Int → Nd} {fd : Int → Bool} {s : Int} {k : Nat} (h : LayI n cells sz F ls fd s k) {c : Nd × Int} (hc : cells[k]? = some c) (hf : fd c.2 = true) (hn : ¬ nodC (ordO sz ls F) c.1 (ls c.2) < 0) : LayI n cells sz F ls fd s (k + 1) :=
  ⟨h.low, fun q a b e => ⟨(h.now q a b e).1, fun j hj d hd h1 h2 => by
    by_cases ej : j = k
    · subst ej
      rw [hc] at hd
      injection hd with hd
      subst hd
      subst h1
      exact ⟨hf, by omega⟩
    · exact (h.now q a b e).2 j (by omega) d hd h1 h2⟩, h.high⟩
/-- A cell that is taken. -/
theorem LayI.take {n : Nat} {cells : List (Nd × Int)} {sz : Int → Int} {F : Nat} {ls ls' : Int → Nd} {fd fd' : Int → Bool} {s : Int} {k : Nat} (h : LayI n cells sz F ls fd s k) (hz : SzOk n cells sz F) {c : Nd × Int} (hc : cells[k]? = some c) (h1 : sz c.2 = s) (h2 : sizeD sz c.1.kids = s) (hf : fd c.2 = false ∨ nodC (ordO sz ls F) c.1 (ls c.2) < 0)
    (hl : ∀ q : Int, 0 ≤ q → q < (n : Int) → ls' q = if q = c.2 then c.1 else ls q) (hd : ∀ q : Int, 0 ≤ q → q < (n : Int) → fd' q = if q = c.2 then true else fd q) : LayI n cells sz F ls' fd' s (k + 1) := by
  have hm : c ∈ cells := List.mem_of_getElem? hc
  have hcl := hz.inc.cl c hm
  have hL := h.lay hz
  have hF : ∀ q : Int, 0 ≤ q → q < (n : Int) → sz q < (F : Int) := fun q a b => by have := hz.lt q a b; have := hz.big; omega
  have hsM : s < 1073741824 := by rw [← h1]; exact hz.lt _ hcl.1 hcl.2
  have he : ∀ r, InS n sz s r → ls r = ls' r := fun r hr => by rw [hl r hr.1 hr.2.1, if_neg (by rintro rfl; have := hr.2.2; omega)]
  have hkid : ∀ d ∈ cells, ∀ t, sizeD sz d.1.kids = t → t ≤ s → ∀ k ∈ d.1.kids, InS n sz s k := fun d hd t ht hts k hk => by
    obtain ⟨a, b, e⟩ := hz.kid hd ht (by omega) k hk
    exact ⟨a, b, by omega⟩
  have hcg : ∀ d ∈ cells, ∀ e ∈ cells, sizeD sz d.1.kids ≤ s → sizeD sz e.1.kids ≤ s → nodC (ordO sz ls' F) d.1 e.1 = nodC (ordO sz ls F) d.1 e.1 := fun d hd e he2 h3 h4 => (nodC_congrL hL he hF (hkid d hd _ rfl h3) (hkid e he2 _ rfl h4)).symm
  refine ⟨fun q a b e => ?_, fun q a b e => ?_, fun q a b e => ?_⟩
  · obtain ⟨m1, m2, m3⟩ := h.low q a b e
    have hq : ls' q = ls q := by rw [hl q a b, if_neg (by rintro rfl; omega)]
    rw [hq]
    refine ⟨m1, m2, fun d hd h3 h4 => ?_⟩
    have e2 := hcg d hd (ls q, q) m1 (by omega) (by simp only; omega)
    simp only at e2
    rw [e2]; exact m3 d hd h3 h4
  · by_cases eq : q = c.2
    · subst eq
      have hq : ls' c.2 = c.1 := by rw [hl _ a b, if_pos rfl]
      have hq2 : fd' c.2 = true := by rw [hd _ a b, if_pos rfl]
      rw [hq, hq2]
      refine ⟨fun _ => ⟨hm, by omega⟩, fun j hj d hd2 h3 h4 => ⟨rfl, ?_⟩⟩
      have hdm : d ∈ cells := List.mem_of_getElem? hd2
      rw [hcg d hdm c hm (by omega) (by omega)]
      have hcm := cmp_nod (ordO_cmp F s hL)
      have pc : formB c.1 = true ∧ ∀ k ∈ c.1.kids, InS n sz s k := ⟨hz.inc.form c hm, hkid c hm _ rfl (by omega)⟩
      have pd : formB d.1 = true ∧ ∀ k ∈ d.1.kids, InS n sz s k := ⟨hz.inc.form d hdm, hkid d hdm _ rfl (by omega)⟩
      by_cases ej : j = k
      · subst ej
        rw [hc] at hd2
        injection hd2 with hd2
        subst hd2
        rw [hcm.self pc]; omega
      · obtain ⟨f1, f2⟩ := (h.now c.2 a b e).2 j (by omega) d hd2 h3 h4
        obtain ⟨g1, g2⟩ := (h.now c.2 a b e).1 f1
        rcases hf with hf | hf
        · rw [hf] at f1; cases f1
        · have pl : formB (ls c.2) = true ∧ ∀ k ∈ (ls c.2).kids, InS n sz s k := ⟨hz.inc.form _ g1, hkid _ g1 _ rfl (by simp only; omega)⟩
          have n1 := hcm.neg _ _ pd pl
          have n2 := hcm.neg _ _ pd pc
          have t := hcm.trans c.1 (ls c.2) d.1 pc pl pd (by omega) (by omega)
          omega
    · have hq : ls' q = ls q := by rw [hl q a b, if_neg eq]
      have hq2 : fd' q = fd q := by rw [hd q a b, if_neg eq]
      rw [hq, hq2]
      refine ⟨(h.now q a b e).1, fun j hj d hd2 h3 h4 => ?_⟩
      have hdm : d ∈ cells := List.mem_of_getElem? hd2
      by_cases ej : j = k
      · subst ej
        rw [hc] at hd2
        injection hd2 with hd2
        subst hd2
        exact absurd h3.symm eq
      · obtain ⟨f1, f2⟩ := (h.now q a b e).2 j (by omega) d hd2 h3 h4
        obtain ⟨g1, g2⟩ := (h.now q a b e).1 f1
        refine ⟨f1, ?_⟩
        have e2 := hcg d hdm (ls q, q) g1 (by omega) (by simp only; omega)
        simp only at e2
        rw [e2]; exact f2
  · rw [hd q a b, if_neg (by rintro rfl; omega)]
    exact h.high q a b e
/-- All cells have been looked at: the classes of this size have their least nodes. -/
theorem LayI.all {n : Nat} {cells : List (Nd × Int)} {sz : Int → Int} {F : Nat} {ls : Int → Nd} {fd : Int → Bool} {s : Int} (h : LayI n cells sz F ls fd s cells.length) (hz : SzOk n cells sz F) : ∀ q : Int, 0 ≤ q → q < (n : Int) → sz q ≤ s → (ls q, q) ∈ cells ∧ sizeD sz (ls q).kids = sz q ∧ ∀ c ∈ cells, c.2 = q → sizeD sz c.1.kids = sz q → 0 ≤ nodC (ordO sz ls F) c.1 (ls q) := fun q a b e => by
  by_cases e2 : sz q < s
  · exact h.low q a b e2
  · have e3 : sz q = s := by omega
    obtain ⟨n1, n2⟩ := h.now q a b e3
    have hM := hz.lt q a b
    obtain ⟨c, hc, h1, h2⟩ : ∃ c ∈ cells, c.2 = q ∧ sizeD sz c.1.kids = sz q := by
      rcases hz.fix.hit q a b with h1 | ⟨c, hc, h1, h2⟩
      · omega
      · exact ⟨c, hc, h1, by have := hz.fix.le c hc; rw [h1] at this; omega⟩
    have key : ∀ c ∈ cells, c.2 = q → sizeD sz c.1.kids = sz q → fd q = true ∧ 0 ≤ nodC (ordO sz ls F) c.1 (ls q) := fun c hc h1 h2 => by
      obtain ⟨j, hj, e4⟩ := List.getElem_of_mem hc
      exact n2 j hj c (by rw [List.getElem?_eq_getElem hj, e4]) h1 h2
    obtain ⟨g1, g2⟩ := n1 (key c hc h1 h2).1
    exact ⟨g1, g2, fun c hc h1 h2 => (key c hc h1 h2).2⟩
theorem LayI.next {n : Nat} {cells : List (Nd × Int)} {sz : Int → Int} {F : Nat} {ls : Int → Nd} {fd : Int → Bool} {s s' : Int} (h : LayI n cells sz F ls fd s cells.length) (hz : SzOk n cells sz F) (hs : s < s') (hno : ∀ q : Int, 0 ≤ q → q < (n : Int) → sz q ≤ s ∨ s' ≤ sz q) : LayI n cells sz F ls fd s' 0 :=
  ⟨fun q a b e => h.all hz q a b ((hno q a b).elim id (fun h1 => by omega)), fun q a b e => ⟨fun hf => by (rw [h.high q a b (by omega)] at hf; cases hf), fun j hj => by omega⟩, fun q a b e => h.high q a b (by omega)⟩
theorem LayI.done {n : Nat} {cells : List (Nd × Int)} {sz : Int → Int} {F : Nat} {ls : Int → Nd} {fd : Int → Bool} {s : Int} (h : LayI n cells sz F ls fd s cells.length) (hz : SzOk n cells sz F) (hs : ∀ q : Int, 0 ≤ q → q < (n : Int) → sz q ≤ s) : LstO n cells sz ls F :=
  ⟨fun q a b => ⟨(h.all hz q a b (hs q a b)).1, (h.all hz q a b (hs q a b)).2.1⟩, fun c hc e => by
    have hcl := hz.inc.cl c hc
    exact (h.all hz c.2 hcl.1 hcl.2 (hs _ hcl.1 hcl.2)).2.2 c hc rfl e⟩
end Go.Proofs.YtlbmijcpalfaeaaGreatDoor
