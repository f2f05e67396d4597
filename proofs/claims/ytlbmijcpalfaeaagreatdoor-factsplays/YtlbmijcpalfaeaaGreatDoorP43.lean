/-
  DcR.
-/
import Derived.Test.YtlbmijcpalfaeaaGreatDoorP42
set_option linter.unusedSimpArgs false
set_option linter.unusedVariables false
namespace Go.Proofs.YtlbmijcpalfaeaaGreatDoor
open Go.RowKit Go.Lib Go.Sort

/-- Where the classes come to stand, as far as it is laid. -/
theorem pl_step {n i : Nat} {al pl : List Int} (hp : al.Perm (rngI n)) (hl : pl.length = n) (hi : i < n) (h : ∀ k, k < i → pl.getD (al.getD k 0).toNat 0 = (k : Int)) : ∀ k, k < i + 1 → (pl.set (al.getD i 0).toNat (i : Int)).getD (al.getD k 0).toNat 0 = (k : Int) := fun k hk => by
  have hal : al.length = n := by rw [hp.length_eq, rngI_len]
  have hnd : al.Nodup := hp.nodup_iff.2 (rngI_nodup n)
  have hm : ∀ k, k < n → 0 ≤ al.getD k 0 ∧ al.getD k 0 < (n : Int) := fun k hk => mem_rngI.1 (hp.mem_iff.1 (by simp [show k < al.length by omega]))
  by_cases e : k = i
  · subst e
    have := hm k hi
    simp only [List.getD_eq_getElem?_getD]
    rw [List.getElem?_set_self (by simp only [List.getD_eq_getElem?_getD] at this; omega)]; rfl
  · have h1 := hm k (by omega)
    have h2 := hm i hi
    have hne : al.getD k 0 ≠ al.getD i 0 := by
      intro e2
      rw [List.getD_eq_getElem?_getD, List.getD_eq_getElem?_getD, List.getElem?_eq_getElem (by omega), List.getElem?_eq_getElem (by omega)] at e2
      simp only [Option.getD_some] at e2
      exact (List.pairwise_iff_getElem.1 hnd k i (by omega) (by omega) (by omega)) e2
    have h3 := h k (by omega)
    rw [← h3]
    generalize al.getD k 0 = a at *
    generalize al.getD i 0 = b at *
    simp only [List.getD_eq_getElem?_getD]
    rw [List.getElem?_set_ne (by omega)]
theorem pl_done {n : Nat} {al pl : List Int} (hp : al.Perm (rngI n)) (h : ∀ k, k < n → pl.getD (al.getD k 0).toNat 0 = (k : Int)) {q : Int} (h0 : 0 ≤ q) (h1 : q < (n : Int)) : pl.getD q.toNat 0 = plA al q := by
  obtain ⟨a, b, c⟩ := plA_at hp h0 h1
  have := h (plA al q).toNat (by omega)
  rw [c] at this
  rw [this]; omega
theorem made_classes (n : Nat) : (madeCells (Value.agg #[.slice none 0 0, .int .i64 0]).cells (n * 2)).toList = acCells (List.replicate n ac0) := by
  have hz : (Value.agg #[.slice none 0 0, .int .i64 0]).cells = #[.slice none 0 0, .int .i64 0] := by rfl
  rw [hz]
  apply List.ext_getElem?
  intro i
  by_cases hi : i < n * 2
  · have hr : i / 2 < (List.replicate n ac0).length := by simp; omega
    obtain ⟨a0, a1⟩ := acCells_at _ _ hr
    have e : (List.replicate n ac0).getD (i / 2) ac0 = ac0 := by simp only [List.getD_eq_getElem?_getD]; rw [List.getElem?_eq_getElem hr]; simp
    rw [e] at a0 a1
    have hl : (madeCells #[Value.slice none 0 0, .int .i64 0] (n * 2)).toList[i]? = some (#[Value.slice none 0 0, .int .i64 0][i % 2]!) := by simp [madeCells, hi]
    rw [hl]
    rcases (show i % 2 = 0 ∨ i % 2 = 1 by omega) with e | e
    · rw [e, show i = i / 2 * 2 by omega, a0]; rfl
    · rw [e, show i = i / 2 * 2 + 1 by omega, a1]; rfl
  · rw [List.getElem?_eq_none (by simp [madeCells]; omega), List.getElem?_eq_none (by rw [acCells_len]; simp; omega)]
theorem Tryz.infoCls : (Tryz.prog.info? 49).map (fun i => (i.zero, i.size, i.bytes)) = some (some (.agg #[.slice none 0 0, .int .i64 0]), 2, 32) := by kernel_rfl
/-- What Arrange answers. -/
def ArrQ (n : Nat) (l : List (Nd × Int)) (roots : List Int) (e : Ending) (w' : World) : Prop :=
  ∃ zs : List Int, FixS n l (szLs zs) ∧ (((∃ q : Int, 0 ≤ q ∧ q < (n : Int) ∧ 1073741824 ≤ szLs zs q) ∧ e = .returned (.tuple #[.agg #[.slice none 0 0, .slice none 0 0], .bool false])) ∨
    ((∀ q : Int, 0 ≤ q → q < (n : Int) → szLs zs q < 1073741824) ∧ ∃ (p : List (Nd × Value)) (al : List Int) (a : Option Addr) (c : Nat) (ra : Option Addr) (rc : Nat), LstO n l (szLs zs) (lsP' p) 1073741825 ∧ AllO n (szLs zs) (lsP' p) 1073741825 al ∧ e = .returned (.tuple #[.agg #[.slice a n c, .slice ra roots.length rc], .bool true]) ∧ Clss w' w'.heap.size (.slice a n c) (arrC al n (szLs zs) l) ∧ Ints w' w'.heap.size (.slice ra roots.length rc) (roots.map (plA al))))

set_option maxRecDepth 20000 in
set_option maxHeartbeats 32000000 in
theorem arrange_any (n : Nat) (W : World) (ca : Option Addr) (cc : Nat) (l : List (Nd × Int)) (ra : Option Addr) (rc : Nat) (roots : List Int) (hC : Cels W W.heap.size (.slice ca l.length cc) l) (hR : Ints W W.heap.size (.slice ra roots.length rc) roots) (hin : InCs n l) (hn : n ≤ 4096) (hl : l.length ≤ 8192) (hr : ∀ r ∈ roots, 0 ≤ r ∧ r < (n : Int)) (hrw : roots.length * 8 ≤ 140737488355328) :
    Calls Tryz.prog 32 #[.int .i64 n, .slice ca l.length cc, .slice ra roots.length rc] W fun e w' => ArrQ n l roots e w' ∧ Below W.heap.size W w' := by
  obtain ⟨i0, hi0, hz0, hz1, hz2⟩ := info_parts Tryz.infoI3
  obtain ⟨W1, hW1⟩ : ∃ W1, W.alloc (.cells #[.slice none 0 0, .slice none 0 0] 26) = W1 := ⟨_, rfl⟩
  have hb1 : Below W.heap.size W W1 := by rw [← hW1]; exact (Below.refl _ _).alloc (Nat.le_refl _) _
  have hk1 : W1.heap[W.heap.size]? = some (.cells #[.slice none 0 0, .slice none 0 0] 26 (0, 0)) := by rw [← hW1, Deep.blk_alloc_new]
  have HK1 := Sld.mk hk1
  have HW1 := Sld.mk hW1
  have HB1 := Sld.mk hb1
  have HC := Sld.mk hC
  have HR := Sld.mk hR
  have HIN := Sld.mk hin
  have HRR := Sld.mk hr
  have CSZ := Sld.mk (sizes_any n W1 ca cc l (hC.below hb1 hb1.size) hin hn hl)
  have hs1 : W1.heap.size = W.heap.size + 1 := by rw [← hW1]; simp
  clear hW1 hb1 hk1 hC hR hin hr
  go_enter Tryz.func32, Tryz.ntmps32
  go_wp2_with fail
  rw [HW1.out]
  go_wp2_with fail
  refine CSZ.out.mono ?_
  rintro e w2 ⟨zs, rfl, hoz, hzl, hfix, hzr, hb2⟩
  have HOZ := Sld.mk hoz
  have HZL := Sld.mk hzl
  have HFX := Sld.mk hfix
  have HZR := Sld.mk hzr
  have HB2 := Sld.mk hb2
  clear hoz hzl hfix hzr hb2 CSZ
  -- the shape
  obtain ⟨w3, hw3⟩ : ∃ w3, w2.alloc (.cells #[.slice ca l.length cc, .slice (some ⟨W1.heap.size, 0, none⟩) n n, .slice none 0 0] 96) = w3 := ⟨_, rfl⟩
  have hb3 : Below w2.heap.size w2 w3 := by rw [← hw3]; exact (Below.refl _ _).alloc (Nat.le_refl _) _
  have hk3 : w3.heap[w2.heap.size]? = some (.cells #[.slice ca l.length cc, .slice (some ⟨W1.heap.size, 0, none⟩) n n, .slice none 0 0] 96 (0, 0)) := by rw [← hw3, Deep.blk_alloc_new]
  obtain ⟨sh, hsh⟩ : ∃ sh, w2.heap.size = sh := ⟨_, rfl⟩
  have HW3 := Sld.mk hw3
  rw [hsh] at hk3
  have HK3 := Sld.mk hk3
  have HB13 : Sld (Below W1.heap.size W1 w3) := ⟨HB2.out.trans (hb3.mono HB2.out.size)⟩
  have HSH : Sld (W1.heap.size ≤ sh ∧ w3.heap.size = sh + 1) := ⟨by rw [← hsh]; exact HB2.out.size, by rw [← HW3.out]; simp [hsh]⟩
  have HZI : Sld (Ints w3 sh (.slice (some ⟨W1.heap.size, 0, none⟩) n n) zs) := ⟨by
    have := Ints_of_own (B := w2.heap.size) HOZ.out (Nat.le_refl _)
    exact this.below hb3 (by omega)⟩
  have HW3B : Sld (Below W.heap.size W w3) := ⟨HB1.out.trans (HB13.out.mono HB1.out.size)⟩
  have HCE : Sld (Cels w3 sh (.slice ca l.length cc) l) := ⟨HC.out.below HW3B.out (by have := HSH.out; have := HB1.out.size; omega)⟩
  have HRC : Sld (w3.heap[W.heap.size]? = some (.cells #[.slice none 0 0, .slice none 0 0] 26 (0, 0))) := ⟨(HB13.out.block _ (by omega)).trans HK1.out⟩
  have HRI : Sld (Ints w3 w3.heap.size (.slice ra roots.length rc) roots) := ⟨HR.out.below HW3B.out (by have := HSH.out; have := HB1.out.size; omega)⟩
  have s1 : w3.cell? ⟨sh, 1, none⟩ = some (.slice (some ⟨W1.heap.size, 0, none⟩) n n) := by simp [World.cell?, hk3]
  obtain ⟨ZB, hZB⟩ : ∃ ZB, W1.heap.size = ZB := ⟨_, rfl⟩
  rw [hZB] at HZI HK3 s1 HSH hw3
  have HZB := Sld.mk hZB
  have HZ1 : Sld (ZB = W.heap.size + 1) := ⟨by rw [← hZB, hs1]⟩
  rw [hZB]
  have HW3' := Sld.mk hw3
  clear hb3 hk3 hw3 HW3 HOZ HB1 HB2 HB13 HK1 HW1 HC hZB
  go_wp2_with (rw [HW3'.out])
  go_loopw [9, 10] (fun v q wr => ∃ j : Nat, j ≤ n ∧ q = .int .i64 j ∧ Sld (OwnI wr (sh + 1) v (rngI j)) ∧ Sld (Below w3.heap.size w3 wr) ∧ Sld (∀ q : Int, 0 ≤ q → q < (j : Int) → szLs zs q < 1073741824) ∧ wr.cell? ⟨sh, 1, none⟩ = some (.slice (some ⟨ZB, 0, none⟩) n n)) (fun _ q _ => n - (RowKit.intOf q).toNat)
  case atStart => exact ⟨0, by omega, rfl, ⟨OwnI_nil _ _⟩, ⟨Below.refl _ _⟩, ⟨fun q a b => by omega⟩, s1⟩
  case round =>
    obtain ⟨j, hj, rfl, HO, HB, HS, s1⟩ := hrel
    have hZs : ZB < sh + 1 := by have := HSH.out; omega
    by_cases hlt : j < n
    · have hzc : wr.cell? ⟨ZB, j, none⟩ = some (.int .i64 (zs.getD j 0)) := by
        obtain ⟨b, o, e, hb, hc⟩ := (HZI.out.below (HB.out.mono (by have := HSH.out; omega)) (Nat.le_refl _)).cellK (i := j) (by rw [HZL.out]; exact hlt)
        injection e with e; injection e with e1 e2 _; subst e1; subst e2
        rw [Nat.zero_add] at hc; exact hc
      have HSJ : Sld (zs.getD j 0 < 1073741824 → ∀ q : Int, 0 ≤ q → q < ((j + 1 : Nat) : Int) → szLs zs q < 1073741824) := ⟨fun h q a b => by
        by_cases e : q = (j : Int)
        · subst e; unfold szLs; rw [Int.toNat_natCast]; exact h
        · exact HS.out q a (by omega)⟩
      have HSN : Sld (¬ zs.getD j 0 < 1073741824 → ∃ q : Int, 0 ≤ q ∧ q < (n : Int) ∧ 1073741824 ≤ szLs zs q) := ⟨fun h => ⟨(j : Int), by omega, by omega, by unfold szLs; rw [Int.toNat_natCast]; omega⟩⟩
      obtain ⟨va, vc, hv, hv1, hv2, _⟩ := ownI_slice HO.out
      rw [rngI_len] at hv hv1
      subst hv
      generalize zs.getD j 0 = z at *
      by_cases hz : z < 1073741824
      · have HSX := Sld.mk (HSJ.out hz)
        have hrow : wr.ownsRow (sh + 1) 3 1 (.slice va j vc) j ((rngI j).map (Value.int .i64)) := by have := HO.out; unfold OwnI at this; rw [rngI_len] at this; exact this
        have hsx : sh + 1 ≤ wr.heap.size := by have := HB.out.size; have := HSH.out; omega
        have hblk : wr.heap[sh]? = some (.cells #[.slice ca l.length cc, .slice (some ⟨ZB, 0, none⟩) n n, .slice none 0 0] 96 (0, 0)) := (HB.out.block sh (by have := HSH.out; omega)).trans HK3.out
        go_wp2_with (at_builtin; refine wpList_append_lies _ rfl (.tmp 41) (.tmp 43) 24 rfl (sh + 1) 3 i0 (.int .i64 0) 1 8 Tryz.underlying24 hi0 hz0 hz1 hz2 rfl (by decide) _ _ _ rfl (hrow.alloc _) ⟨wr.heap.size, 0, none⟩ 1 1 [.int .i64 j] rfl rfl (cell_news_one _ _ _) (by simp [Value.oneCell']) (by omega) (by unfold maxLen; omega) (by omega) (by simp; omega) _ rfl ?_; intro g6 cap6 w6 hown6 hg6 hat6 hl6)
        have HB6 : Sld (Below w3.heap.size w3 w6) := ⟨((HB.out.alloc HB.out.size _).grown hg6 (by have := HB.out.size; simp; omega) (fun q hq => by have := (rw_block hrow hq).1; have := HSH.out; omega))⟩
        have HO6 : Sld (OwnI w6 (sh + 1) (.slice (some ⟨g6, 0, none⟩) (j + 1) cap6) (rngI (j + 1))) := ⟨by
          unfold OwnI
          rw [rngI_len]
          have e : rngI (j + 1) = rngI j ++ [(j : Int)] := by unfold rngI; rw [List.range_succ, List.map_append]; rfl
          rw [e, List.map_append]; exact hown6⟩
        have s16 : w6.cell? ⟨sh, 1, none⟩ = some (.slice (some ⟨ZB, 0, none⟩) n n) := by
          have := (HB6.out.block sh (by have := HSH.out; omega)).trans HK3.out
          simp [World.cell?, this]
        clear hown6 hg6 hat6 hl6 hrow hblk
        go_wp2_with fail
        exact ⟨⟨j + 1, by omega, by go_num, HO6, HB6, HSX, s16⟩, by simp [RowKit.intOf]; omega⟩
      · have HSX := Sld.mk (HSN.out (by omega))
        have hkr := (HB.out.block W.heap.size (by have := HSH.out; have := HZ1.out; omega)).trans HRC.out
        obtain ⟨k0, k1⟩ : wr.cell? ⟨W.heap.size, 0, none⟩ = some (.slice none 0 0) ∧ wr.cell? ⟨W.heap.size, 1, none⟩ = some (.slice none 0 0) := by simp [World.cell?, hkr]
        have kf : ∀ o, wr.frozen? ⟨W.heap.size, o, none⟩ = false := fun o => frozen_of_heap hkr _
        have kf0 := kf 0
        have kf1 := kf 1
        have HBW : Sld (Below W.heap.size W ((wr.setCell ⟨W.heap.size, 0, none⟩ (.slice none 0 0)).setCell ⟨W.heap.size, 1, none⟩ (.slice none 0 0))) := ⟨((HW3B.out.trans (HB.out.mono HW3B.out.size)).setCell (p := ⟨W.heap.size, 0, none⟩) (Nat.le_refl _) _).setCell (p := ⟨W.heap.size, 1, none⟩) (Nat.le_refl _) _⟩
        have HBK : Sld (((wr.setCell ⟨W.heap.size, 0, none⟩ (.slice none 0 0)).setCell ⟨W.heap.size, 1, none⟩ (.slice none 0 0)).heap[W.heap.size]? = some (.cells #[.slice none 0 0, .slice none 0 0] 26 (0, 0))) := ⟨by
          have h1 := heap_setCell_same wr W.heap.size 0 _ _ (.slice none 0 0) hkr
          exact heap_setCell_same _ W.heap.size 1 _ _ (.slice none 0 0) h1⟩
        have hzI : (1073741824 : Int) ≤ z := by omega
        clear hkr kf
        go_wp2_with fail
        have hbk := HBK.out
        refine bodyPost_ret (v := .tuple #[.agg #[.slice none 0 0, .slice none 0 0], .bool false]) ?_ rfl ⟨⟨zs, HFX.out, .inl ⟨HSX.out, rfl⟩⟩, HBW.out⟩
        rw [results_cell_tmp rfl]
        simp [go_sem, World.cell?, hbk]
    · have hje : j = n := by omega
      subst hje
      have HSA := Sld.mk HS.out
      obtain ⟨va, vc, hv, hv1, hv2, _⟩ := ownI_slice HO.out
      rw [rngI_len] at hv hv1
      subst hv
      have hblk : wr.heap[sh]? = some (.cells #[.slice ca l.length cc, .slice (some ⟨ZB, 0, none⟩) j j, .slice none 0 0] 96 (0, 0)) := (HB.out.block sh (by have := HSH.out; omega)).trans HK3.out
      have hsw : Below sh w3 wr := HB.out.mono (by have := HSH.out; omega)
      have CL := Sld.mk (lay_any wr sh j ca cc l (some ⟨ZB, 0, none⟩) j zs (.slice none 0 0) 1073741825 hblk (HCE.out.below hsw (Nat.le_refl _)) (HZI.out.below hsw (Nat.le_refl _)) HZL.out hn hl ⟨HIN.out, HFX.out, HSA.out, by omega⟩ (fun z hz => by have := HZR.out z hz; omega))
      clear hblk hsw s1 HS
      go_wp2_with fail
      refine CL.out.mono ?_
      rintro e w5 ⟨rfl, p, hbk5, hnd5, hpl, hlst, hg5⟩
      have HLST := Sld.mk hlst
      have hsz5 : wr.heap.size ≤ w5.heap.size := by obtain ⟨_, _, _, h4, _⟩ := hg5; exact h4
      have hB5 : Below sh wr w5 := below_of_grown hg5 (by have := HB.out.size; have := HSH.out; omega)
      have hBs : Below sh w3 w5 := (HB.out.mono (by have := HSH.out; omega)).trans hB5
      have HWB5 : Sld (Below W.heap.size W w5) := ⟨HW3B.out.trans (hBs.mono (by have := HSH.out; have := HZ1.out; omega))⟩
      have HSHR : Sld (ShR w5 sh (some ⟨ZB, 0, none⟩) j (some ⟨wr.heap.size, 0, none⟩) j zs (p.map (·.1))) := ⟨⟨by rw [HZL.out]; simp [World.cell?, hbk5], by rw [List.length_map, hpl]; simp [World.cell?, hbk5], by rw [HZL.out]; exact HZI.out.below hBs (by have := HB.out.size; have := HSH.out; omega), by rw [List.length_map, hpl]; exact hnd5, by rw [List.length_map, hpl, HZL.out]⟩⟩
      have hoA : OwnI w5 (sh + 1) (.slice va j vc) (rngI j) := World.ownsRow.kept HO.out hg5 (by
        cases hb : (Value.slice va j vc).ownBlock with
        | none => exact .inl rfl
        | some b => exact .inr (fun e => by
          injection e with e
          have := (rw_block HO.out hb).1; omega))
      have HLAY : Sld (LayO j (szLs zs) (lsLs (p.map (·.1))) 1073741824) := ⟨HLST.out.lay HIN.out HFX.out HSA.out⟩
      have hsr := sorted_any (n := j) (sh := sh) (za := some ⟨ZB, 0, none⟩) (zc := j) (la := some ⟨wr.heap.size, 0, none⟩) (lc := j) (zs := zs) (ll := p.map (·.1)) (F := 1073741825) HLAY.out (dorder_any HZL.out.symm HLAY.out 1073741825) (by omega) j (rngI j) va vc w5 HSHR.out (by rw [rngI_len]; have := Ints_of_own hoA (Nat.le_refl _); exact this) (by rw [rngI_len]; omega) (by rw [rngI_len]; omega) (fun q hq => by
        obtain ⟨a, b⟩ := mem_rngI.1 hq
        exact ⟨a, b, HSA.out q a b⟩)
      rw [rngI_len] at hsr
      have CSR := Sld.mk hsr
      have HZ5 : Sld (Ints w5 w5.heap.size (.slice (some ⟨ZB, 0, none⟩) j j) zs) := ⟨HZI.out.below hBs (by have := HB.out.size; have := HSH.out; omega)⟩
      have HC5 : Sld (Cels w5 w5.heap.size (.slice ca l.length cc) l) := ⟨HCE.out.below hBs (by have := HB.out.size; have := HSH.out; omega)⟩
      have HR5 : Sld (Ints w5 w5.heap.size (.slice ra roots.length rc) roots) := ⟨HR.out.below HWB5.out HWB5.out.size⟩
      have HS5 : Sld (w5.cell? ⟨sh, 1, none⟩ = some (.slice (some ⟨ZB, 0, none⟩) j j)) := ⟨by simp [World.cell?, hbk5]⟩
      have HK5 : Sld (w5.heap[W.heap.size]? = some (.cells #[.slice none 0 0, .slice none 0 0] 26 (0, 0))) := ⟨(hBs.block _ (by have := HSH.out; have := HZ1.out; omega)).trans HRC.out⟩
      clear hbk5 hnd5 hlst hg5 hB5 hBs hoA hsr CL HO HB HRI HZI HCE HRC HK3 HSHR
      go_wp2_with fail
      refine CSR.out.mono ?_
      rintro e w6 ⟨oa, oc, al, rfl, hal, hperm, hsrt, hb6⟩
      have HAL : Sld (AllO j (szLs zs) (lsP' p) 1073741825 al) := ⟨⟨hperm, hsrt⟩⟩
      have hall : al.length = j := by rw [hperm.length_eq, rngI_len]
      have HWB6 : Sld (Below W.heap.size W w6) := ⟨HWB5.out.trans (hb6.mono HWB5.out.size)⟩
      have HZ6 : Sld (Ints w6 w6.heap.size (.slice (some ⟨ZB, 0, none⟩) j j) zs) := ⟨HZ5.out.below hb6 hb6.size⟩
      have HC6 : Sld (Cels w6 w6.heap.size (.slice ca l.length cc) l) := ⟨HC5.out.below hb6 hb6.size⟩
      have HR6 : Sld (Ints w6 w6.heap.size (.slice ra roots.length rc) roots) := ⟨HR5.out.below hb6 hb6.size⟩
      have hsl5 : sh < w5.heap.size := World.block_lt_of_cell? w5 _ HS5.out
      have HS6 : Sld (w6.cell? ⟨sh, 1, none⟩ = some (.slice (some ⟨ZB, 0, none⟩) j j) ∧ sh < w6.heap.size) := ⟨(hb6.cell (p := ⟨sh, 1, none⟩) hsl5).trans HS5.out, Nat.lt_of_lt_of_le hsl5 hb6.size⟩
      have HK6 : Sld (w6.heap[W.heap.size]? = some (.cells #[.slice none 0 0, .slice none 0 0] 26 (0, 0)) ∧ W.heap.size < w6.heap.size) := ⟨(hb6.block _ (lt_of_block HK5.out)).trans HK5.out, Nat.lt_of_lt_of_le (lt_of_block HK5.out) hb6.size⟩
      have HAI := Sld.mk hal
      rw [hall] at HAI
      have HALL := Sld.mk hall
      rw [hall]
      clear hal hperm hsrt hb6 CSR HZ5 HC5 HR5 HS5 HK5 hall HWB5 hsl5
      have hz6 : sh < w6.heap.size := HS6.out.2
      obtain ⟨w7, hmk7, hown7, hg7⟩ := run_make_full (P := Tryz.prog) w6 w6.heap.size 24 3 i0 (.int .i64 0) 1 Tryz.underlying24 hi0 hz0 hz1 .i64 .i64 j (by rw [hz2]; omega) (by unfold maxLen; omega) (Nat.le_refl _)
      rw [made_zerosD] at hown7
      have HO7 : Sld (OwnI w7 w6.heap.size (.slice (some ⟨w6.heap.size, 0, none⟩) j j) (List.replicate j 0)) := ⟨by unfold OwnI; rw [List.length_replicate]; exact hown7⟩
      have HB7 : Sld (Below w6.heap.size w6 w7) := ⟨(Below.refl w6.heap.size w6).grown hg7 (Nat.le_refl _) (fun j hj => by cases hj)⟩
      clear hown7 hg7
      go_wp2_with fail
      clear hmk7
      go_loopw [12] (fun q wr => ∃ (i : Nat) (pl : List Int), i ≤ j ∧ q = .int .i64 i ∧ Sld (pl.length = j ∧ ∀ k, k < i → pl.getD (al.getD k 0).toNat 0 = (k : Int)) ∧ Sld (OwnI wr w6.heap.size (.slice (some ⟨w6.heap.size, 0, none⟩) j j) pl) ∧ Sld (Below w6.heap.size w6 wr)) (fun q _ => j - (RowKit.intOf q).toNat)
      case atStart => exact ⟨0, _, by omega, rfl, ⟨by simp, fun k hk => by omega⟩, HO7, HB7⟩
      case round =>
        clear HO7 HB7
        obtain ⟨i, pl, hi, rfl, HP, HO, HB⟩ := hrel
        by_cases hlt2 : i < j
        · obtain ⟨ab, ao, rfl, hab, a0⟩ := (HAI.out.below HB.out HB.out.size).cellK (i := i) (by rw [HALL.out]; exact hlt2)
          have hmq := mem_rngI.1 (HAL.out.perm.mem_iff.1 (show al.getD i 0 ∈ al by simp [show i < al.length by rw [HALL.out]; exact hlt2]))
          have HST := Sld.mk (pl_step HAL.out.perm HP.out.1 hlt2 HP.out.2)
          obtain ⟨q, hq⟩ : ∃ q : Nat, al.getD i 0 = (q : Int) := ⟨(al.getD i 0).toNat, by omega⟩
          rw [hq] at a0 hmq
          have HQ := Sld.mk hq
          have hqj : q < j := by omega
          obtain ⟨p0, pf⟩ := ownI_cell HO.out (i := q) (by rw [HP.out.1]; exact hqj)
          have HSO : Sld (OwnI (wr.setCell ⟨w6.heap.size, q, none⟩ (.int .i64 i)) w6.heap.size (.slice (some ⟨w6.heap.size, 0, none⟩) j j) (pl.set q (i : Int))) := ⟨HO.out.putT HP.out.1 q i⟩
          have HSB : Sld (Below w6.heap.size w6 (wr.setCell ⟨w6.heap.size, q, none⟩ (.int .i64 i))) := ⟨HB.out.setCell (p := ⟨w6.heap.size, q, none⟩) (Nat.le_refl _) _⟩
          have HSP : Sld ((pl.set q (i : Int)).length = j ∧ ∀ k, k < i + 1 → (pl.set q (i : Int)).getD (al.getD k 0).toNat 0 = (k : Int)) := ⟨by rw [List.length_set]; exact HP.out.1, by have := HST.out; rw [HQ.out, Int.toNat_natCast] at this; exact this⟩
          have hqI : (q : Int) < (j : Int) := by omega
          generalize pl.getD q 0 = pz at *
          clear hq HST hmq
          go_wp2_with fail
          exact ⟨⟨i + 1, pl.set q (i : Int), by omega, by go_num, HSP, HSO, HSB⟩, by simp [RowKit.intOf]; omega⟩
        · have hie : i = j := by omega
          subst hie
          have HPD : Sld (∀ q : Int, 0 ≤ q → q < (i : Int) → pl.getD q.toNat 0 = plA al q) := ⟨fun q a b => pl_done HAL.out.perm HP.out.2 a b⟩
          obtain ⟨iC, hiC, hc0, hc1, hc2⟩ := info_parts Tryz.infoCls
          obtain ⟨w8, hmk8, hown8, hg8⟩ := run_make_full (P := Tryz.prog) wr wr.heap.size 23 49 iC (.agg #[.slice none 0 0, .int .i64 0]) 2 Tryz.underlying23 hiC hc0 hc1 .i64 .i64 i (by rw [hc2]; omega) (by unfold maxLen; omega) (Nat.le_refl _)
          rw [made_classes] at hown8
          have hB8 : Below wr.heap.size wr w8 := (Below.refl wr.heap.size wr).grown hg8 (Nat.le_refl _) (fun j hj => by cases hj)
          obtain ⟨CB, hCB⟩ : ∃ CB, wr.heap.size = CB := ⟨_, rfl⟩
          obtain ⟨w9, hw9⟩ : ∃ w9, w8.alloc (.cells #[.slice (some ⟨CB, 0, none⟩) i i, .slice none 0 0] 26) = w9 := ⟨_, rfl⟩
          obtain ⟨PB, hPB⟩ : ∃ PB, w8.heap.size = PB := ⟨_, rfl⟩
          have hB9 : Below w8.heap.size w8 w9 := by rw [← hw9]; exact (Below.refl _ _).alloc (Nat.le_refl _) _
          have hk9 : w9.heap[PB]? = some (.cells #[.slice (some ⟨CB, 0, none⟩) i i, .slice none 0 0] 26 (0, 0)) := by rw [← hw9, ← hPB, Deep.blk_alloc_new]
          have HB9 : Sld (Below CB wr w9) := ⟨by rw [← hCB]; exact hB8.trans (hB9.mono hB8.size)⟩
          have HCP : Sld (CB ≤ PB) := ⟨by rw [← hCB, ← hPB]; exact hB8.size⟩
          have HM9 : Sld (ArM CB i CB PB (List.replicate i ac0) (.slice none 0 0) [] w9) := ⟨by
            have hrep : ∀ q, (List.replicate i ac0).getD q ac0 = ac0 := fun q => by
              simp only [List.getD_eq_getElem?_getD]
              rcases Nat.lt_or_ge q i with h | h
              · simp [h]
              · rw [List.getElem?_eq_none (by simpa using h)]; rfl
            refine ⟨?_, by simp, fun q hq => ?_, fun a b ha hb hab c hc => ?_, hk9, HCP.out, OwnI_nil _ _, fun a ha r hr => ?_⟩
            · rw [hCB] at hown8; exact ownsRow_below hown8 hB9
            · rw [hrep]; exact ⟨World.ownsRow_nil _ _ _ _, fun q hq => by cases hq⟩
            · rw [hrep] at hc; simp [ac0, Value.ownBlock] at hc
            · rw [hrep] at hr; cases hr⟩
          have HSW : Sld (∀ V : World, Below CB wr V → V.cell? ⟨sh, 1, none⟩ = some (.slice (some ⟨ZB, 0, none⟩) i i) ∧ Ints V V.heap.size (.slice (some ⟨ZB, 0, none⟩) i i) zs ∧ Ints V V.heap.size (.slice oa i oc) al ∧ OwnI V w6.heap.size (.slice (some ⟨w6.heap.size, 0, none⟩) i i) pl ∧ Cels V V.heap.size (.slice ca l.length cc) l ∧ Ints V V.heap.size (.slice ra roots.length rc) roots ∧ Below W.heap.size W V ∧ (V.heap[W.heap.size]? = some (.cells #[.slice none 0 0, .slice none 0 0] 26 (0, 0)) ∧ W.heap.size < CB)) := ⟨fun V hV => by
            have hV' : Below wr.heap.size wr V := by rw [hCB]; exact hV
            have h6 : Below w6.heap.size w6 V := HB.out.trans (hV'.mono HB.out.size)
            have hk6 := (h6.block _ HK6.out.2).trans HK6.out.1
            exact ⟨(h6.cell (p := ⟨sh, 1, none⟩) HS6.out.2).trans HS6.out.1, HZ6.out.below h6 h6.size, HAI.out.below h6 h6.size, HO.out.below hV', HC6.out.below h6 h6.size, HR6.out.below h6 h6.size, HWB6.out.trans (h6.mono HWB6.out.size), hk6, by rw [← hCB]; exact Nat.lt_of_lt_of_le HK6.out.2 HB.out.size⟩⟩
          have HPL := Sld.mk HP.out.1
          have HW9 := Sld.mk hw9
          have HPB := Sld.mk hPB
          rw [hCB] at hmk8
          clear hown8 hg8 hB8 hB9 hk9 hw9 hPB hCB HP HO HZ6 HC6 HR6 HS6 HK6 HAI HWB6 hz6
          obtain ⟨V0, hV0⟩ : ∃ V0, V0 = wr := ⟨_, rfl⟩
          rw [← hV0] at HB9 HSW
          go_wp2_with (rw [HW9.out])
          rw [HPB.out]
          clear hmk8 HW9 hV0 HB HPB
          go_loopw [14] (fun q wr => ∃ (k : Nat) (R : List Ac), k ≤ i ∧ q = .int .i64 k ∧ Sld (ArM CB i CB PB R (.slice none 0 0) [] wr) ∧ Sld (Below CB V0 wr) ∧ Sld (∀ c, (R.getD c ac0).1 = .slice none 0 0 ∧ (R.getD c ac0).2.1 = [] ∧ (c < k → (R.getD c ac0).2.2 = szLs zs (al.getD c 0)))) (fun q _ => i - (RowKit.intOf q).toNat)
          case atStart =>
            refine ⟨0, _, by omega, rfl, HM9, HB9, ⟨fun c => ?_⟩⟩
            have : (List.replicate i ac0).getD c ac0 = ac0 := by
              simp only [List.getD_eq_getElem?_getD]
              rcases Nat.lt_or_ge c i with h | h
              · simp [h]
              · rw [List.getElem?_eq_none (by simpa using h)]; rfl
            rw [this]
            exact ⟨rfl, rfl, fun h => by omega⟩
          case round =>
            clear HM9 HB9
            obtain ⟨k, R, hk, rfl, HM, HBV, HZK⟩ := hrel
            obtain ⟨s1, HZV, HAV, HOV, HCV, HRV, HWV, HKV⟩ := HSW.out wr HBV.out
            have hCBl : CB < wr.heap.size := by obtain ⟨_, cur, h⟩ := HM.out.cb; exact lt_of_block h
            by_cases hlt3 : k < i
            · obtain ⟨ab, ao, rfl, hab, a0⟩ := HAV.cellK (i := k) (by rw [HALL.out]; exact hlt3)
              have hmq := mem_rngI.1 (HAL.out.perm.mem_iff.1 (show al.getD k 0 ∈ al by simp [show k < al.length by rw [HALL.out]; exact hlt3]))
              obtain ⟨q, hq⟩ : ∃ q : Nat, al.getD k 0 = (q : Int) := ⟨(al.getD k 0).toNat, by omega⟩
              rw [hq] at a0 hmq
              obtain ⟨zb, zo, ze, hzb, z0⟩ := HZV.cellK (i := q) (by rw [HZL.out]; omega)
              injection ze with ze; injection ze with e1 e2 _; subst e1; subst e2
              rw [Nat.zero_add] at z0
              obtain ⟨p0, _, _⟩ := HM.out.pcell
              have HQ := Sld.mk hq
              have HZQ : Sld (szLs zs (al.getD k 0) = zs.getD q 0) := ⟨by rw [HQ.out]; unfold szLs; rw [Int.toNat_natCast]⟩
              have hqI : (q : Int) < (i : Int) := by omega
              have hqN : q < i := by omega
              have hkI : (k : Int) < (i : Int) := by omega
              clear hq hmq HQ
              generalize zs.getD q 0 = z at *
              have g0 := cell_regrown s1
              have g1 := cell_regrown a0
              have g2 := cell_regrown z0
              have g3 := cell_regrown p0
              clear s1 HZV HAV HOV HCV HRV HWV HKV a0 z0 p0
              go_wp2_with fail
              refine wp_region_quiet_then 15 (by kernel_rfl) (by kernel_rfl) ?_
              simp only [List.take_succ_cons, List.take_zero]
              iterate 15 (go_big_quiet_step (fail))
              refine wpQuiet_nil ?_
              intro _ hw'
              obtain ⟨⟨dt, ost⟩, hw''⟩ := hw'
              subst hw''
              simp only [List.drop_succ_cons, List.drop_zero]
              have hbG := below_regrown wr dt ost
              have HMG := Sld.mk (HM.out.below hbG)
              have HBG := Sld.mk (HBV.out.trans (hbG.mono (Nat.le_of_lt hCBl)))
              clear g0 g1 g2 g3 hbG
              generalize grow (redrawn wr dt) ost = wG at *
              obtain ⟨_, c1, cf⟩ := HMG.out.cell hlt3
              have cf1 := cf (k * 2 + 1)
              have HMZ := Sld.mk (HMG.out.putZ hlt3 z)
              have HBZ : Sld (Below CB V0 (wG.setCell ⟨CB, k * 2 + 1, none⟩ (.int .i64 z))) := ⟨HBG.out.setCell (p := ⟨CB, k * 2 + 1, none⟩) (Nat.le_refl _) _⟩
              have HRL := Sld.mk HMG.out.len
              clear cf
              go_wp2_with fail
              refine ⟨⟨k + 1, _, by omega, by go_num, HMZ, HBZ, ⟨fun c => ?_⟩⟩, by simp [RowKit.intOf]; omega⟩
              obtain ⟨r1, r2, r3⟩ := HZK.out c
              rw [getD_setA]
              by_cases e : c = k
              · rw [if_pos ⟨e, by rw [HRL.out]; exact hlt3⟩, e]
                exact ⟨(HZK.out k).1, (HZK.out k).2.1, fun _ => HZQ.out.symm⟩
              · rw [if_neg (fun hh => e hh.1)]
                exact ⟨r1, r2, fun hc => r3 (by omega)⟩
            · have hke : k = i := by omega
              subst hke
              have HP0 : Sld (ArP al k zs l 0 R) := ⟨ArP.start HM.out.len (fun c => HZK.out c)⟩
              clear s1 HZV HAV HOV HCV HRV HWV HKV HZK
              go_wp2_with fail
              go_loopw [15] (fun q wr => ∃ (j : Nat) (R : List Ac), j ≤ l.length ∧ q = .int .i64 j ∧ Sld (ArM CB k CB PB R (.slice none 0 0) [] wr) ∧ Sld (Below CB V0 wr) ∧ Sld (ArP al k zs l j R)) (fun q _ => l.length - (RowKit.intOf q).toNat)
              case atStart => exact ⟨0, R, by omega, rfl, HM, HBV, HP0⟩
              case round =>
                clear HM HBV HP0
                rename World => Y
                obtain ⟨j, R, hj, rfl, HM, HBV, HP⟩ := hrel
                obtain ⟨s1, HZV, HAV, HOV, HCV, HRV, HWV, HKV⟩ := HSW.out Y HBV.out
                have hCBl : CB < Y.heap.size := by obtain ⟨_, cur, h⟩ := HM.out.cb; exact lt_of_block h
                by_cases hlt4 : j < l.length
                · obtain ⟨lb, lo, ka, kc, rfl, hlb, hnd, l4⟩ := HCV.cell hlt4
                  have hmem : l.getD j ce0 ∈ l := by
                    rw [List.getD_eq_getElem?_getD, List.getElem?_eq_getElem hlt4]; exact List.getElem_mem _
                  have hform := HIN.out.form _ hmem
                  have hcl := HIN.out.cl _ hmem
                  have hkids := HIN.out.kids _ hmem
                  have HPI : Sld (∀ (q : Nat), q < k → plA al (l.getD j ce0).2 = (q : Int) → ∀ v kv, ArP al k zs l (j + 1) (R.set q (v, insP (R.getD q ac0).2.1 (renN al (l.getD j ce0).1) kv, (R.getD q ac0).2.2))) := ⟨fun q hq h2 v kv => HP.out.ins hlt4 hform hq h2 v kv⟩
                  generalize l.getD j ce0 = ce at *
                  obtain ⟨⟨op, nn, nm, ks⟩, cq⟩ := ce
                  have hk3 : ks.length ≤ 3 := formB_kids hform
                  obtain ⟨d0, d1, d2, d3, hki⟩ := hnd
                  simp only at d0 d1 d2 d3 hki l4 hcl hkids
                  obtain ⟨_, hkc1, hkc2⟩ := hki.bnd
                  have hpq := plA_at HAL.out.perm hcl.1 hcl.2
                  obtain ⟨q, hq⟩ : ∃ q : Nat, plA al cq = (q : Int) := ⟨(plA al cq).toNat, by omega⟩
                  have hqk : q < k := by omega
                  have hqkI : (q : Int) < (k : Int) := by omega
                  obtain ⟨cN, hcN⟩ : ∃ cN : Nat, cq = (cN : Int) := ⟨cq.toNat, by omega⟩
                  have hcNk : cN < k := by omega
                  have hcNI : (cN : Int) < (k : Int) := by omega
                  have HPC : Sld (pl.getD cN 0 = (q : Int)) := ⟨by have := HPD.out cq hcl.1 hcl.2; rw [hq, hcN, Int.toNat_natCast] at this; exact this⟩
                  have HPI2 := Sld.mk (HPI.out q hqk hq)
                  rw [hcN] at l4
                  -- the copy of the node
                  obtain ⟨Y1, hY1⟩ : ∃ Y1, Y.alloc (.cells #[.int .i64 op, .int .i64 nn, .string nm, .slice ka ks.length kc] 41) = Y1 := ⟨_, rfl⟩
                  obtain ⟨xb, hxb⟩ : ∃ xb, Y.heap.size = xb := ⟨_, rfl⟩
                  have hbY1 : Below Y.heap.size Y Y1 := by rw [← hY1]; exact (Below.refl _ _).alloc (Nat.le_refl _) _
                  have hx1 : Y1.heap[xb]? = some (.cells #[.int .i64 op, .int .i64 nn, .string nm, .slice ka ks.length kc] 41 (0, 0)) := by rw [← hY1, ← hxb, Deep.blk_alloc_new]
                  have hs1' : Y1.heap.size = xb + 1 := by rw [← hY1, ← hxb]; simp
                  obtain ⟨Y2, hmk2, hown2, hg2⟩ := run_make_full (P := Tryz.prog) Y1 Y1.heap.size 24 3 i0 (.int .i64 0) 1 Tryz.underlying24 hi0 hz0 hz1 .i64 .i64 ks.length (by rw [hz2]; omega) (by unfold maxLen; omega) (Nat.le_refl _)
                  rw [made_zerosD] at hown2
                  have hbY2 : Below Y1.heap.size Y1 Y2 := (Below.refl Y1.heap.size Y1).grown hg2 (Nat.le_refl _) (fun j hj => by cases hj)
                  rw [hs1'] at hmk2 hown2 hbY2
                  have HY2 : Sld (Below (xb + 1) Y1 Y2) := ⟨hbY2⟩
                  have HO2 : Sld (OwnI Y2 (xb + 1) (.slice (some ⟨xb + 1, 0, none⟩) ks.length ks.length) (List.replicate ks.length 0)) := ⟨by unfold OwnI; rw [List.length_replicate]; exact hown2⟩
                  have HX1 := Sld.mk hx1
                  have HXS := Sld.mk hs1'
                  have HY1B : Sld (Below xb Y Y1) := ⟨by rw [← hxb]; exact hbY1⟩
                  have HY1 := Sld.mk hY1
                  have HXB := Sld.mk hxb
                  have HLB : Sld (lb < xb ∧ CB < xb) := ⟨by omega, by omega⟩
                  have HKI : Sld (Ints Y xb (.slice ka ks.length kc) ks) := ⟨by rw [← hxb]; exact hki⟩
                  have HKR := Sld.mk hkids
                  have HFM := Sld.mk hform
                  have HCBL := Sld.mk hCBl
                  have HQQ := Sld.mk hq
                  have x3 : Y1.cell? ⟨Y.heap.size, 3, none⟩ = some (.slice ka ks.length kc) := by rw [hxb]; simp [World.cell?, hx1]
                  clear hY1 hbY1 hx1 hs1' hown2 hg2 hbY2 hki hxb hform hkids HPI hcl hpq hcN hq hmem s1 HZV HAV HOV HCV HRV HWV HKV hkc1
                  go_wp2_with (rw [HY1.out])
                  rw [HXB.out]
                  clear hmk2 x3
                  go_loopw [18] (fun q wr => ∃ (t : Nat) (ys : List Int), t ≤ ks.length ∧ q = .int .i64 t ∧ Sld (ys.length = ks.length ∧ ∀ s, s < t → ys.getD s 0 = plA al (ks.getD s 0)) ∧ Sld (OwnI wr (xb + 1) (.slice (some ⟨xb + 1, 0, none⟩) ks.length ks.length) ys) ∧ Sld (Below (xb + 1) Y1 wr)) (fun q _ => ks.length - (RowKit.intOf q).toNat)
                  case atStart => exact ⟨0, _, by omega, rfl, ⟨by simp, fun s hs => by omega⟩, HO2, HY2⟩
                  case round =>
                    clear HO2 HY2
                    obtain ⟨t, ys, ht, rfl, HYS, HO, HBY⟩ := hrel
                    have HYB : Sld (Below xb Y wr) := ⟨HY1B.out.trans (HBY.out.mono (by omega))⟩
                    have hxl : xb < Y1.heap.size := by have := HXS.out; omega
                    have hx := (HBY.out.block xb (by omega)).trans HX1.out
                    obtain ⟨x0, x1, x2, x3⟩ := blk4N hx
                    have HV := HSW.out wr (HBV.out.trans (HYB.out.mono (by have := HLB.out; omega)))
                    obtain ⟨s1, HZV, HAV, HOV, HCV, HRV, HWV, HKV⟩ := HV
                    by_cases hlt5 : t < ks.length
                    · obtain ⟨kb, ko, rfl, hkb, k0⟩ := (HKI.out.below HYB.out (Nat.le_refl _)).cellK hlt5
                      have hkr := HKR.out (ks.getD t 0) (by simp [List.getD_eq_getElem?_getD, List.getElem?_eq_getElem hlt5])
                      have hpl := HPD.out _ hkr.1 hkr.2
                      obtain ⟨y, hy⟩ : ∃ y : Nat, ks.getD t 0 = (y : Int) := ⟨(ks.getD t 0).toNat, by omega⟩
                      rw [hy] at k0 hkr
                      rw [hy, Int.toNat_natCast] at hpl
                      have hyk : y < k := by omega
                      obtain ⟨p0, _⟩ := ownI_cell HOV (i := y) (by rw [HPL.out]; exact hyk)
                      obtain ⟨o0, of0⟩ := ownI_cell HO.out (i := t) (by rw [HYS.out.1]; exact hlt5)
                      rw [hpl] at p0
                      have HSO : Sld (∀ z : Int, OwnI (wr.setCell ⟨xb + 1, t, none⟩ (.int .i64 z)) (xb + 1) (.slice (some ⟨xb + 1, 0, none⟩) ks.length ks.length) (ys.set t z)) := ⟨fun z => HO.out.putT HYS.out.1 t z⟩
                      have HSB : Sld (∀ z : Int, Below (xb + 1) Y1 (wr.setCell ⟨xb + 1, t, none⟩ (.int .i64 z))) := ⟨fun z => HBY.out.setCell (p := ⟨xb + 1, t, none⟩) (Nat.le_refl _) _⟩
                      have HSY : Sld ((ys.set t (plA al (ks.getD t 0))).length = ks.length ∧ ∀ s, s < t + 1 → (ys.set t (plA al (ks.getD t 0))).getD s 0 = plA al (ks.getD s 0)) := ⟨by rw [List.length_set]; exact HYS.out.1, fun s hs => by
                        by_cases e : s = t
                        · subst e
                          simp only [List.getD_eq_getElem?_getD]
                          rw [List.getElem?_set_self (by rw [HYS.out.1]; exact hlt5)]; rfl
                        · have := HYS.out.2 s (by omega)
                          simp only [List.getD_eq_getElem?_getD] at this ⊢
                          rw [List.getElem?_set_ne (fun h => e h.symm)]
                          exact this⟩
                      rw [hy] at HSY
                      have hyI : (y : Int) < (k : Int) := by omega
                      generalize ys.getD t 0 = yz at *
                      generalize plA al (y : Int) = py at *
                      have HSO2 := Sld.mk (HSO.out py)
                      have HSB2 := Sld.mk (HSB.out py)
                      clear hpl hkr hy hx x0 x1 x2 s1 HZV HAV HOV HCV HRV HWV HKV HSO HSB HYB
                      go_wp2_with fail
                      exact ⟨⟨t + 1, _, by omega, by go_num, HSY, HSO2, HSB2⟩, by simp [RowKit.intOf]; omega⟩
                    · have hte : t = ks.length := by omega
                      have HKS : Sld (ys = ks.map (plA al)) := ⟨kids_ren HYS.out.1 (fun s hs => HYS.out.2 s (by omega))⟩
                      subst hte
                      have HYL := Sld.mk HYS.out.1
                      have hxf : wr.frozen? ⟨xb, 3, none⟩ = false := frozen_of_heap hx _
                      obtain ⟨Y3, hY3⟩ : ∃ Y3, wr.setCell ⟨xb, 3, none⟩ (.slice (some ⟨xb + 1, 0, none⟩) ks.length ks.length) = Y3 := ⟨_, rfl⟩
                      have hBY3 : Below xb wr Y3 := by rw [← hY3]; exact (Below.refl _ _).setCell (p := ⟨xb, 3, none⟩) (Nat.le_refl _) _
                      have HBX : Sld (Below xb Y Y3) := ⟨HYB.out.trans hBY3⟩
                      have hx3 : Y3.heap[xb]? = some (.cells #[.int .i64 op, .int .i64 nn, .string nm, .slice (some ⟨xb + 1, 0, none⟩) ks.length ks.length] 41 (0, 0)) := by
                        rw [← hY3]
                        have := heap_setCell_same wr xb 3 _ _ (.slice (some ⟨xb + 1, 0, none⟩) ks.length ks.length) hx
                        rw [this]; rfl
                      have HO3 : Sld (OwnI Y3 (xb + 1) (.slice (some ⟨xb + 1, 0, none⟩) ks.length ks.length) ys) := ⟨by rw [← hY3]; exact ownSetO HO.out (by simp [Value.ownBlock])⟩
                      have HX3 := Sld.mk hx3
                      have HY3 := Sld.mk hY3
                      have HBV3 : Sld (Below CB V0 Y3) := ⟨HBV.out.trans (HBX.out.mono (by have := HLB.out; omega))⟩
                      have HM3 : Sld (ArM CB k CB PB R (.slice none 0 0) [] Y3) := ⟨HM.out.below (by rw [HXB.out]; exact HBX.out)⟩
                      obtain ⟨_, _, _, HOV3, HCV3, _⟩ := HSW.out Y3 HBV3.out
                      obtain ⟨pc0, _⟩ := ownI_cell HOV3 (i := cN) (by rw [HPL.out]; exact hcNk)
                      rw [HPC.out] at pc0
                      have l43 : Y3.cell? ⟨lb, lo + j * 5 + 4, none⟩ = some (.int .i64 (cN : Int)) := (HBX.out.cell (p := ⟨lb, lo + j * 5 + 4, none⟩) HLB.out.1).trans l4
                      obtain ⟨P, hP⟩ : ∃ P, (R.getD q ac0).2.1 = P := ⟨_, rfl⟩
                      obtain ⟨v, hv⟩ : ∃ v, (R.getD q ac0).1 = v := ⟨_, rfl⟩
                      have hPl : P.length ≤ 8191 := by have := HP.out.le q; rw [hP] at this; omega
                      have HOP : Sld (OwnP Y3 CB v P) := ⟨by rw [← hP, ← hv]; exact HM3.out.own q hqk⟩
                      have hPf : ∀ x ∈ P, formB x.1 = true := by rw [← hP]; exact HP.out.form q
                      have hren : renN al ⟨op, nn, nm, ks⟩ = (⟨op, nn, nm, ys⟩ : Nd) := by rw [HKS.out]; rfl
                      have hfx : formB (⟨op, nn, nm, ys⟩ : Nd) = true := by rw [← hren]; exact renN_form HFM.out
                      have HINS : Sld (∀ V, Below Y3.heap.size Y3 V → Calls Tryz.prog 48 #[v, .agg #[.int .i64 op, .int .i64 nn, .string nm, .slice (some ⟨xb + 1, 0, none⟩) ks.length ks.length]] V fun e w' => ∃ g cap, e = .returned (.slice (some ⟨g, 0, none⟩) (P.length + 1) cap) ∧ w'.ownsRow CB 41 4 (.slice (some ⟨g, 0, none⟩) (P.length + 1) cap) (P.length + 1) (ndCells (insP P ⟨op, nn, nm, ys⟩ (.slice (some ⟨xb + 1, 0, none⟩) ks.length ks.length))) ∧ Y3.grownBy w' v.ownBlock ∧ (v.ownBlock = some g ∨ Y3.heap.size ≤ g)) := ⟨fun V hV => by
                        have hsz : CB ≤ Y3.heap.size := by have := HLB.out; have := HBX.out.size; have := HXB.out; omega
                        have h1 := insert_any (w := V) (base := CB) (Nat.le_trans hsz hV.size) (HOP.out.below hV) hPf (by omega) ⟨op, nn, nm, ys⟩ (some ⟨xb + 1, 0, none⟩) ks.length (by
                          have := Ints_of_own (HO3.out.below hV) (Nat.le_refl _)
                          rw [← HYL.out] at this ⊢
                          exact this) hfx
                        simp only [HYL.out] at h1
                        refine h1.mono ?_
                        rintro e w' ⟨g, cap, e1, e2, e3, e4⟩
                        refine ⟨g, cap, e1, e2, grown_trans' (grown_of_below hV _) e3 (fun b hb => .inl hb), ?_⟩
                        rcases e4 with e4 | e4
                        · exact .inl e4
                        · exact .inr (Nat.le_trans hV.size e4)⟩
                      have HAFT : Sld (∀ g cap w6, w6.ownsRow CB 41 4 (.slice (some ⟨g, 0, none⟩) (P.length + 1) cap) (P.length + 1) (ndCells (insP P ⟨op, nn, nm, ys⟩ (.slice (some ⟨xb + 1, 0, none⟩) ks.length ks.length))) → Y3.grownBy w6 v.ownBlock → (v.ownBlock = some g ∨ Y3.heap.size ≤ g) → ArM CB k CB PB (R.set q (.slice (some ⟨g, 0, none⟩) (P.length + 1) cap, insP P ⟨op, nn, nm, ys⟩ (.slice (some ⟨xb + 1, 0, none⟩) ks.length ks.length), (R.getD q ac0).2.2)) (.slice none 0 0) [] (w6.setCell ⟨CB, q * 2, none⟩ (.slice (some ⟨g, 0, none⟩) (P.length + 1) cap)) ∧ Below CB V0 (w6.setCell ⟨CB, q * 2, none⟩ (.slice (some ⟨g, 0, none⟩) (P.length + 1) cap)) ∧ ArP al k zs l (j + 1) (R.set q (.slice (some ⟨g, 0, none⟩) (P.length + 1) cap, insP P ⟨op, nn, nm, ys⟩ (.slice (some ⟨xb + 1, 0, none⟩) ks.length ks.length), (R.getD q ac0).2.2))) := ⟨fun g cap w6 h1 h2 h3 => by
                        rw [← hv] at h2 h3
                        refine ⟨HM3.out.ins hqk h1 (insP_len _ _ _) (fun r hr => ?_) h2 h3 (fun r hr b hb e => by simp [Value.ownBlock] at e), ?_, ?_⟩
                        · unfold insP at hr
                          rw [List.mem_append, List.mem_cons] at hr
                          rcases hr with hr | rfl | hr
                          · exact HOP.out.kids r (List.mem_of_mem_take hr)
                          · exact ownsRow_mono HO3.out (by have := HLB.out; omega)
                          · exact HOP.out.kids r (List.mem_of_mem_drop hr)
                        · refine (HBV3.out.grown h2 (by have := HLB.out; have := HBX.out.size; have := HXB.out; omega) (fun b hb => ?_)).setCell (p := ⟨CB, q * 2, none⟩) (Nat.le_refl _) _
                          exact (rw_block (HM3.out.own q hqk).row hb).1
                        · have := HPI2.out (.slice (some ⟨g, 0, none⟩) (P.length + 1) cap) (.slice (some ⟨xb + 1, 0, none⟩) ks.length ks.length)
                          rw [hren, hP] at this
                          exact this⟩
                      have HKP : Sld (∀ w6 : World, Y3.grownBy w6 v.ownBlock → w6.cell? ⟨PB, 0, none⟩ = some (.slice (some ⟨CB, 0, none⟩) k k) ∧ w6.cell? ⟨CB, q * 2, none⟩ = some v ∧ w6.frozen? ⟨CB, q * 2, none⟩ = false) := ⟨fun w6 hg => by rw [← hv] at hg ⊢; exact HM3.out.kept hqk hg⟩
                      obtain ⟨y0, y1, y2, y3⟩ := blk4N hx3
                      obtain ⟨pb0, _, _⟩ := HM3.out.pcell
                      obtain ⟨cb0, _, _⟩ := HM3.out.cell hqk
                      rw [hv] at cb0
                      clear hBY3 hx3 hP hv HOP hPf hren hfx HO3 HO HKS HYS HBY HYB hx x0 x1 x2 s1 HZV HAV HOV HCV HRV HWV HKV HOV3 HCV3
                      go_wp2_with (rw [HY3.out])
                      go_region_with (go_at_call 48; refine (HINS.out _ ((Below.refl _ _).drew)).mono ?_; rintro e w6 ⟨g, cap, rfl, hown6, hg6, hat6⟩; obtain ⟨m0, m1, m1f⟩ := HKP.out _ hg6; obtain ⟨ar1, ar2, ar3⟩ := HAFT.out g cap w6 hown6 hg6 hat6)
                      all_goals
                        have HA1 := Sld.mk ar1
                        have HA2 := Sld.mk ar2
                        have HA3 := Sld.mk ar3
                        clear ar1 ar2 ar3 hown6 hg6 hat6 HINS HAFT HKP
                        go_wp2_with fail
                        exact ⟨⟨j + 1, _, by omega, by go_num, HA1, HA2, HA3⟩, by simp [RowKit.intOf]; omega⟩
                · have hje : j = l.length := by omega
                  have HPE : Sld ((R.map fun r : Ac => (⟨r.2.1.map (·.1), r.2.2⟩ : Cls)) = arrC al k (szLs zs) l) := ⟨by have := HP.out; rw [hje] at this; exact this.done⟩
                  subst hje
                  clear HP s1 HZV HAV HOV HCV HRV HWV HKV
                  go_wp2_with fail
                  go_loopw [20] (fun q wr => ∃ (t : Nat) (rv : Value), t ≤ roots.length ∧ q = .int .i64 t ∧ Sld (ArM CB k CB PB R rv ((roots.take t).map (plA al)) wr) ∧ Sld (Below CB V0 wr)) (fun q _ => roots.length - (RowKit.intOf q).toNat)
                  case atStart => exact ⟨0, _, by omega, rfl, ⟨HM.out⟩, HBV⟩
                  case round =>
                    clear HM HBV
                    rename World => Z
                    obtain ⟨t, rv, ht, rfl, HM, HBV⟩ := hrel
                    obtain ⟨_, _, _, HOV, _, HRV, HWV, hkW, hkC⟩ := HSW.out Z HBV.out
                    have hZs : CB ≤ Z.heap.size := Nat.le_of_lt (by obtain ⟨_, cur, h⟩ := HM.out.cb; exact lt_of_block h)
                    have hrlen : ((roots.take t).map (plA al)).length = t := by simp; omega
                    obtain ⟨va', vc', hrv, hrv1, hrv2, _⟩ := ownI_slice HM.out.rr
                    rw [hrlen] at hrv hrv1
                    subst hrv
                    obtain ⟨pc0, pc1, pcf⟩ := HM.out.pcell
                    by_cases hlt6 : t < roots.length
                    · obtain ⟨rb, ro, rfl, hrb, r0⟩ := HRV.cellK hlt6
                      have hrr := HRR.out (roots.getD t 0) (by simp [List.getD_eq_getElem?_getD, List.getElem?_eq_getElem hlt6])
                      have hpl := HPD.out _ hrr.1 hrr.2
                      have HTK : Sld ((roots.take (t + 1)).map (plA al) = (roots.take t).map (plA al) ++ [plA al (roots.getD t 0)]) := ⟨by
                        rw [List.take_add_one, List.map_append, List.getD_eq_getElem?_getD, List.getElem?_eq_getElem hlt6]; rfl⟩
                      obtain ⟨y, hy⟩ : ∃ y : Nat, roots.getD t 0 = (y : Int) := ⟨(roots.getD t 0).toNat, by omega⟩
                      rw [hy] at r0 hrr HTK
                      rw [hy, Int.toNat_natCast] at hpl
                      have hyk : y < k := by omega
                      obtain ⟨p0, _⟩ := ownI_cell HOV (i := y) (by rw [HPL.out]; exact hyk)
                      rw [hpl] at p0
                      have hyI : (y : Int) < (k : Int) := by omega
                      generalize plA al (y : Int) = py at *
                      have hrow := HM.out.rr
                      unfold OwnI at hrow
                      rw [hrlen] at hrow
                      have hPl := lt_of_block HM.out.pb
                      have z1 : ∀ o, (Z.alloc o).cell? ⟨PB, 1, none⟩ = some (.slice va' t vc') := fun o => (World.cell?_alloc_past _ _ _ hPl).trans pc1
                      have HP6 : Sld (∀ (o : Obj) (w6 : World), (Z.alloc o).drew.grownBy w6 (Value.slice va' t vc').ownBlock → w6.heap[PB]? = Z.heap[PB]?) := ⟨fun o w6 hg => by
                        have h1 := hg.block PB (by show PB < (Z.alloc o).heap.size; rw [World.size_alloc]; omega) (fun e => (neTy hrow HM.out.pb (by decide) : _ ≠ some PB) e.symm)
                        exact h1.trans (Deep.blk_alloc_lt _ _ _ hPl)⟩
                      have pcf1 := pcf 1
                      have HRN := Sld.mk hrlen
                      clear hpl hrr hy HRV HWV hkW HOV hrb pcf pc0 hrlen
                      go_wp2_with fail
                      go_region_law (refine step_append_lies _ rfl (.tmp 150) (.tmp 158) 24 rfl CB 3 i0 (.int .i64 0) 1 8 Tryz.underlying24 hi0 hz0 hz1 hz2 rfl (by decide) _ _ _ (by simp [Act.eval, Act.put]) (hrow.alloc _) ⟨Z.heap.size, 0, none⟩ 1 1 [.int .i64 py] (by simp [Act.eval, Act.put]) rfl (arrCell_n1) (by simp [Value.oneCell']) (by omega) (by unfold maxLen; omega) (by omega) (by simp; omega) _ rfl ?_; intro g6 cap6 w6 hown6 hg6 hat6 hl6; have hnd6 := HP6.out _ w6 hg6; have m1 : w6.cell? ⟨PB, 1, none⟩ = some (.slice va' t vc') := (World.cell?_of_block (a := ⟨PB, 1, none⟩) hnd6).trans pc1; have m1f : w6.frozen? ⟨PB, 1, none⟩ = false := (World.frozen?_of_block (a := ⟨PB, 1, none⟩) hnd6).trans pcf1)
                      all_goals
                        have hba : Below Z.heap.size Z (Z.alloc (.cells #[.int .i64 py] 3)).drew := ((Below.refl _ _).alloc (Nat.le_refl _) _).drew
                        have HO6 : OwnI w6 CB (.slice (some ⟨g6, 0, none⟩) (t + 1) cap6) ((roots.take t).map (plA al) ++ [py]) := by
                          unfold OwnI
                          rw [List.length_append, HRN.out, List.map_append]; exact hown6
                        have HMI := Sld.mk ((HM.out.below hba).root HO6 hg6 (by
                          rcases hat6 with h | h
                          · exact .inl (by rw [h]; rfl)
                          · exact .inr (fun b hb => by
                              have e : g6 = b := by simpa [Value.ownBlock] using hb
                              rw [← e, h]; exact Nat.le_refl _)))
                        rw [← HTK.out] at HMI
                        have HBI : Sld (Below CB V0 (w6.setCell ⟨PB, 1, none⟩ (.slice (some ⟨g6, 0, none⟩) (t + 1) cap6))) := ⟨((HBV.out.trans (hba.mono hZs)).grown hg6 (by have := hba.size; omega) (fun b hb => (rw_block hrow hb).1)).setCell (p := ⟨PB, 1, none⟩) HCP.out _⟩
                        clear hba HO6 hown6 hg6 hat6 hl6 hnd6 m1 m1f
                        go_wp2_with fail
                        exact ⟨⟨t + 1, _, by omega, by go_num, HMI, HBI⟩, by simp [RowKit.intOf]; omega⟩
                    · have hte : t = roots.length := by omega
                      subst hte
                      rw [List.take_length] at HM
                      have kf : ∀ o, Z.frozen? ⟨W.heap.size, o, none⟩ = false := fun o => frozen_of_heap hkW _
                      obtain ⟨k0, k1⟩ : Z.cell? ⟨W.heap.size, 0, none⟩ = some (.slice none 0 0) ∧ Z.cell? ⟨W.heap.size, 1, none⟩ = some (.slice none 0 0) := by simp [World.cell?, hkW]
                      have kf0 := kf 0
                      have kf1 := kf 1
                      have HBK : Sld (((Z.setCell ⟨W.heap.size, 0, none⟩ (.slice (some ⟨CB, 0, none⟩) k k)).setCell ⟨W.heap.size, 1, none⟩ (.slice va' roots.length vc')).heap[W.heap.size]? = some (.cells #[.slice (some ⟨CB, 0, none⟩) k k, .slice va' roots.length vc'] 26 (0, 0))) := ⟨by
                        have h1 := heap_setCell_same Z W.heap.size 0 _ _ (.slice (some ⟨CB, 0, none⟩) k k) hkW
                        exact heap_setCell_same _ W.heap.size 1 _ _ (.slice va' roots.length vc') h1⟩
                      have HMF : Sld (ArM CB k CB PB R (.slice va' roots.length vc') (roots.map (plA al)) ((Z.setCell ⟨W.heap.size, 0, none⟩ (.slice (some ⟨CB, 0, none⟩) k k)).setCell ⟨W.heap.size, 1, none⟩ (.slice va' roots.length vc'))) := ⟨by
                        have h1 := heap_setCell_same Z W.heap.size 0 _ _ (.slice (some ⟨CB, 0, none⟩) k k) hkW
                        have hne : PB ≠ W.heap.size := by have := HCP.out; omega
                        exact (HM.out.setO hkW hne).setO h1 hne⟩
                      have HBW : Sld (Below W.heap.size W ((Z.setCell ⟨W.heap.size, 0, none⟩ (.slice (some ⟨CB, 0, none⟩) k k)).setCell ⟨W.heap.size, 1, none⟩ (.slice va' roots.length vc'))) := ⟨(HWV.setCell (p := ⟨W.heap.size, 0, none⟩) (Nat.le_refl _) _).setCell (p := ⟨W.heap.size, 1, none⟩) (Nat.le_refl _) _⟩
                      clear hkW kf pcf HRV HOV HWV HM
                      go_wp2_with fail
                      have hbk := HBK.out
                      refine bodyPost_ret (v := .tuple #[.agg #[.slice (some ⟨CB, 0, none⟩) k k, .slice va' roots.length vc'], .bool true]) ?_ rfl ⟨⟨zs, HFX.out, .inr ⟨HSA.out, p, al, some ⟨CB, 0, none⟩, k, va', vc', HLST.out, HAL.out, rfl, ?_, ?_⟩⟩, HBW.out⟩
                      · rw [results_cell_tmp rfl]
                        simp [go_sem, World.cell?, hbk]
                      · rw [← HPE.out]; exact HMF.out.clss hn
                      · exact Ints_of_own HMF.out.rr (Nat.le_refl _)
end Go.Proofs.YtlbmijcpalfaeaaGreatDoor
