/-
  The document's Path, walked.
-/
import Derived.Test.YtfnbkffphpidbaaFoRh
set_option linter.unusedSimpArgs false
set_option linter.unusedVariables false
namespace Go.Proofs.Ytfnbkffphpidbaa
open Go.RowKit Go.Lib

theorem pathE_bad {m : List Mv} {a b : Int} (h : (hasB m a && hasB m b) = false) : pathE m a b = 2 := by
  unfold pathE
  rw [h]
  rfl
theorem pathE_ok {m : List Mv} {x y : Nat} (hx : x < m.length) (hy : y < m.length) : pathE m x y = if (mA m x).rt = (mA m y).rt then 0 else 11 := by
  unfold pathE
  rw [hasB_nat.2 hx, hasB_nat.2 hy]
  simp

set_option maxRecDepth 20000 in
set_option maxHeartbeats 4000000 in
theorem rpath_any {w : World} {p : Nat} {v : Value} {L : List Jt} {V : List Value} {m : List Mv} (h : RfM w p v m.length L) (hI : FoI (jJ L) V m) (a b : Int) :
    Calls Try.prog 26 #[.pointer (some ⟨p, 0, none⟩), .int .i64 a, .int .i64 b] w fun e w' => ∃ (P : List Ed) (u : Value), e = .returned (.tuple #[u, .int .i64 (pathE m a b)]) ∧ OwnH w' w.heap.size u (P.map (rz L)) ∧ Below w.heap.size w w' ∧ (pathE m a b ≠ 0 → P = []) ∧ (pathE m a b = 0 → Pa (jJ L) a.toNat P b.toNat) := by
  obtain ⟨i0, hi, hz0, hz1, hz2⟩ := info_parts Try.infoEh
  have cA := hasM (m := m) h a
  have cB := hasM (m := m) h b
  cases hA : hasB m a
  · rw [hA] at cA
    have CA : Hid (Calls Try.prog 47 #[.pointer (some ⟨p, 0, none⟩), .int .i64 a] w fun e w' => e = .returned (.bool false) ∧ w' = w) := cA
    clear cA cB h
    rw [pathE_bad (m := m) (a := a) (b := b) (by simp [hA])]
    go_enter Try.func26, Try.ntmps26
    go_wp2_with fail
    refine CA.out.mono ?_
    rintro e w' ⟨rfl, hw⟩
    obtain rfl := hw.symm
    go_wp2_with fail
    go_ret2
    exact ⟨[], _, rfl, World.ownsRow_nil _ _ _ _, Below.refl _ _, fun _ => rfl, fun h => by cases h⟩
  · rw [hA] at cA
    have CA : Hid (Calls Try.prog 47 #[.pointer (some ⟨p, 0, none⟩), .int .i64 a] w fun e w' => e = .returned (.bool true) ∧ w' = w) := cA
    clear cA
    cases hB : hasB m b
    · rw [hB] at cB
      have CB : Hid (Calls Try.prog 47 #[.pointer (some ⟨p, 0, none⟩), .int .i64 b] w fun e w' => e = .returned (.bool false) ∧ w' = w) := cB
      clear cB h
      rw [pathE_bad (m := m) (a := a) (b := b) (by simp [hA, hB])]
      go_enter Try.func26, Try.ntmps26
      go_wp2_with fail
      refine CA.out.mono ?_
      rintro e w' ⟨rfl, hw⟩
      obtain rfl := hw.symm
      go_wp2_with fail
      refine CB.out.mono ?_
      rintro e w' ⟨rfl, hw⟩
      obtain rfl := hw.symm
      go_wp2_with fail
      go_ret2
      exact ⟨[], _, rfl, World.ownsRow_nil _ _ _ _, Below.refl _ _, fun _ => rfl, fun h => by cases h⟩
    · rw [hB] at cB
      have CB : Hid (Calls Try.prog 47 #[.pointer (some ⟨p, 0, none⟩), .int .i64 b] w fun e w' => e = .returned (.bool true) ∧ w' = w) := cB
      obtain ⟨x, rfl, hx⟩ := hasB_iff.1 hA
      obtain ⟨y, rfl, hy⟩ := hasB_iff.1 hB
      have CR' : Hid (Calls Try.prog 48 #[.pointer (some ⟨p, 0, none⟩), .int .i64 y] w fun e w' => ∃ l, e = .returned (.slice (some ⟨w.heap.size, 0, none⟩) m.length m.length) ∧ OwnI w' w.heap.size (.slice (some ⟨w.heap.size, 0, none⟩) m.length m.length) l ∧ Rch (jJ L) m.length y l ∧ Below w.heap.size w w') := reachM h hI hy
      have HI : Hid (FoI (jJ L) V m) := hI
      have HM : Hid (RfM w p v m.length L) := h
      have hle := h.le
      have hll := h.ll
      have hpl := h.lt
      obtain ⟨va, vc, hv⟩ := h.form
      subst hv
      rw [pathE_ok hx hy]
      simp only [Int.toNat_natCast]
      clear cB h hI hA hB
      have hxI : (x : Int) < (m.length : Int) := by omega
      by_cases hq : (mA m x).rt = (mA m y).rt
      · rw [if_pos hq]
        obtain ⟨P, hP⟩ := ((HI.out.cn_iff hx hy).2 hq).way
        have HPA : Hid (Pa (jJ L) x P y) := hP
        have HQ : Hid ((mA m x).rt = (mA m y).rt) := hq
        have hPs := HI.out.short hP hx
        clear hq hP
        go_enter Try.func26, Try.ntmps26
        go_wp2_with fail
        refine CA.out.mono ?_
        rintro e w' ⟨rfl, hw⟩
        obtain rfl := hw.symm
        go_wp2_with fail
        refine CB.out.mono ?_
        rintro e w' ⟨rfl, hw⟩
        obtain rfl := hw.symm
        go_wp2_with fail
        refine CR'.out.mono ?_
        rintro e w1 ⟨l, rfl, hO, hR, hB⟩
        have k := hO.cell (i := x) (by rw [hR.len]; exact hx)
        have hrt := rch_rt HI.out hR hy hx
        obtain ⟨z, hz⟩ : ∃ z, l.getD x 0 = z := ⟨_, rfl⟩
        rw [hz] at k hrt
        have HO : Hid (OwnI w1 w.heap.size (.slice (some ⟨w.heap.size, 0, none⟩) m.length m.length) l) := hO
        have HR : Hid (Rch (jJ L) m.length y l) := hR
        have HB : Hid (Below w.heap.size w w1) := hB
        have HZ : Hid (z ≠ 0 ↔ (mA m x).rt = (mA m y).rt) := hrt
        have HM1 : Hid (RfM w1 p (.slice va L.length vc) m.length L) := HM.out.below hB
        have hsz := hB.size
        have hgs : w.heap.size < w1.heap.size := (rw_block hO (b := w.heap.size) rfl).2.1
        clear hO hR hB hrt hz
        have hz0' : z ≠ 0 := HZ.out.2 HQ.out
        have hzI : (z == 0) = false := beq_eq_false_iff_ne.2 hz0'
        go_wp2_with fail
        go_loopw [9, 10] (fun u at_ wr => ∃ k : Nat, k ≤ P.length ∧ at_ = .int .i64 ((visL (jJ L) x P).getD k 0 : Nat) ∧ OwnH wr w1.heap.size u ((P.take k).map (rz L)) ∧ Below w1.heap.size w1 wr) (fun u _ _ => P.length - slLen u)
        case atStart => exact ⟨0, by omega, rfl, World.ownsRow_nil _ _ _ _, Below.refl _ _⟩
        case round =>
          obtain ⟨k, hk, rfl, hown, hBr⟩ := hrel
          obtain ⟨ya, yc, hf⟩ := hown.form
          subst hf
          have HBr : Hid (Below w1.heap.size w1 wr) := hBr
          have hszr := hBr.size
          have hl0 : ((P.take k).map (rz L)).length = k := by simp; omega
          have HO1 : Hid (OwnH wr w1.heap.size (.slice ya k yc) ((P.take k).map (rz L))) := by rw [hl0] at hown; exact hown
          have hown' : wr.ownsRow w1.heap.size 105 4 (.slice ya k yc) k (ehCells ((P.take k).map (rz L))) := by
            have := HO1.out
            unfold OwnH at this
            rw [hl0] at this
            exact this
          rw [hl0]
          have HL0 : Hid (((P.take k).map (rz L)).length = k) := hl0
          clear hown hBr hl0
          by_cases hlt : k < P.length
          · obtain ⟨n1, n2, n3, n4⟩ := rch_next HI.out HR.out HPA.out hx hlt
            obtain ⟨r, cr, hv, hrl, hcn, hcm, hcells⟩ := HM1.out.row n4
            injection hv with hv1 _ hv2
            subst hv1 hv2
            unfold maxLen at hcm
            have c1 : wr.cell? ⟨p, 1, none⟩ = some (.slice (some ⟨r, 0, none⟩) L.length vc) := (HBr.out.cell (p := ⟨p, 1, none⟩) (by show p < w1.heap.size; omega)).trans HM1.out.c1
            obtain ⟨j0, j1, j2⟩ := (hcells _ n4).below HBr.out hrl
            have kb := (HBr.out.cell (p := ⟨w.heap.size, (visL (jJ L) x P).getD k 0, none⟩) hgs).trans (HO.out.cell (i := (visL (jJ L) x P).getD k 0) (by rw [HR.out.len]; exact n1))
            rw [n3] at kb
            have hva := vis_at HPA.out.1 k hlt
            have hji := jJ_at L _ n4
            have hnd : (visL (jJ L) x P).getD k 0 ≠ (visL (jJ L) x P).getD (k + 1) 0 := fun e => by
              have := nodup_next (vis_nodup HI.out.fst HPA.out) (i := k) (by simp; omega)
              refine this ?_
              show (visL (jJ L) x P).getD (k + 1) 0 ∈ (visL (jJ L) x P).take (k + 1)
              rw [← e]
              have hk2 : k < (visL (jJ L) x P).length := by rw [visL_len]; omega
              rw [List.getD_eq_getElem?_getD, List.getElem?_eq_getElem hk2]
              exact List.mem_take_iff_getElem.2 ⟨k, by omega, rfl⟩
            have HTK : Hid ((P.take (k + 1)).map (rz L) = (P.take k).map (rz L) ++ [rz L (P.getD k (0, false))]) := by
              rw [Hid, List.take_succ_eq_append_getElem hlt, List.map_append, List.getD_eq_getElem?_getD, List.getElem?_eq_getElem hlt]
              rfl
            obtain ⟨s, hs⟩ : ∃ s, (visL (jJ L) x P).getD k 0 = s := ⟨_, rfl⟩
            obtain ⟨t, ht⟩ : ∃ t, (visL (jJ L) x P).getD (k + 1) 0 = t := ⟨_, rfl⟩
            have HT : Hid ((visL (jJ L) x P).getD (k + 1) 0 = t) := ht
            rw [hs, ht] at hva hnd
            rw [hs] at n1 n2 kb ⊢
            obtain ⟨i, d, hid⟩ : ∃ i d, P.getD k (0, false) = (i, d) := ⟨_, _, rfl⟩
            rw [hid] at n4 j0 j1 j2 kb hva hji HTK
            simp only at n4 j0 j1 j2 kb hji
            obtain ⟨Y, hY⟩ : ∃ Y, (L.getD i jt0).2.2 = Y := ⟨_, rfl⟩
            rw [hY] at j2
            rw [← hji.1] at j0
            rw [← hji.2] at j1
            have hiI : (0 : Int) ≤ ((i + 1 : Nat) : Int) - 1 ∧ ((i + 1 : Nat) : Int) - 1 < (L.length : Int) := by omega
            have hiN : (((i + 1 : Nat) : Int) - 1).toNat = i := by omega
            have hnsy : ((s : Int) == (y : Int)) = false := beq_eq_false_iff_ne.2 (by omega)
            have hsI : (s : Int) < (m.length : Int) := by omega
            have HRZ : Hid (rz L (i, d) = ⟨s, t, Y, d⟩) := by
              rw [Hid]
              unfold rz
              rw [← hva.1, ← hva.2, hY]
            have hYd := hva
            have hiJ : (i : Int) < (L.length : Int) := by omega
            have hiB : (i : Int) ≤ 9223372036854775807 := by omega
            have a1 : ∀ o, (wr.alloc o).cell? ⟨p, 1, none⟩ = some (.slice (some ⟨r, 0, none⟩) L.length vc) := fun o => (World.cell?_alloc_some _ _ _ (by rw [c1]; rfl)).trans c1
            have a2 : ∀ o, (wr.alloc o).cell? ⟨w.heap.size, s, none⟩ = some (.int .i64 ((i + 1 : Nat) : Int)) := fun o => (World.cell?_alloc_some _ _ _ (by rw [kb]; rfl)).trans kb
            clear hcells n3 hs ht hid hji hY
            cases d
            · rw [← hYd.1] at j0
              rw [← hYd.2] at j1
              have hts : ((t : Int) == (s : Int)) = false := beq_eq_false_iff_ne.2 (by omega)
              have b0 : ∀ o, (wr.alloc o).cell? ⟨r, i * 3, none⟩ = some (.int .i64 s) := fun o => (World.cell?_alloc_some _ _ _ (by rw [j0]; rfl)).trans j0
              have b1 : ∀ o, (wr.alloc o).cell? ⟨r, i * 3 + 1, none⟩ = some (.int .i64 t) := fun o => (World.cell?_alloc_some _ _ _ (by rw [j1]; rfl)).trans j1
              have b2 : ∀ o, (wr.alloc o).cell? ⟨r, i * 3 + 2, none⟩ = some (.int .i64 Y) := fun o => (World.cell?_alloc_some _ _ _ (by rw [j2]; rfl)).trans j2
              clear hYd hva
              go_wp2_with fail
              go_region
              obtain ⟨W, hW⟩ : ∃ W, (wr.alloc (.cells #[.int .i64 s, .int .i64 t, .int .i64 Y] 103)).drew = W := ⟨_, rfl⟩
              have hWs : W.heap.size = wr.heap.size + 1 := by rw [← hW]; exact World.size_alloc _ _
              have X0 : W.cell? ⟨wr.heap.size, 0, none⟩ = some (.int .i64 s) := by rw [← hW]; exact cell_new _ _ _ _
              have X1 : W.cell? ⟨wr.heap.size, 1, none⟩ = some (.int .i64 t) := by rw [← hW]; exact cell_new _ _ _ _
              have X2 : W.cell? ⟨wr.heap.size, 2, none⟩ = some (.int .i64 Y) := by rw [← hW]; exact cell_new _ _ _ _
              have Z0 : ∀ o, (W.alloc o).cell? ⟨wr.heap.size, 0, none⟩ = some (.int .i64 s) := fun o => (World.cell?_alloc_some _ _ _ (by rw [X0]; rfl)).trans X0
              have Z1 : ∀ o, (W.alloc o).cell? ⟨wr.heap.size, 1, none⟩ = some (.int .i64 t) := fun o => (World.cell?_alloc_some _ _ _ (by rw [X1]; rfl)).trans X1
              have Z2 : ∀ o, (W.alloc o).cell? ⟨wr.heap.size, 2, none⟩ = some (.int .i64 Y) := fun o => (World.cell?_alloc_some _ _ _ (by rw [X2]; rfl)).trans X2
              have HBW : Hid (Below w1.heap.size w1 W) := by rw [← hW]; exact (HBr.out.alloc hszr _).drew
              have hownW : W.ownsRow w1.heap.size 105 4 (.slice ya k yc) k (ehCells ((P.take k).map (rz L))) := by rw [← hW]; exact hown'.alloc _
              rw [hW]
              clear hW hown' a1 a2 b0 b1 b2 kb j0 j1 j2 c1
              go_wp2_with (at_builtin; refine wpList_append_lies _ rfl (.tmp 64) (.tmp 66) 71 rfl w1.heap.size 105 i0 (.agg #[.int .i64 0, .int .i64 0, .int .i64 0, .bool false]) 4 32 Try.underlying71 hi hz0 hz1 hz2 rfl (by decide) _ _ _ (by simp [Act.eval, Act.put]) ((hownW.alloc _).alloc _) ⟨W.heap.size + 1, 0, none⟩ 1 1 [.int .i64 s, .int .i64 t, .int .i64 Y, .bool false] (by simp [Act.eval, Act.put]) rfl (cell_news4' _ _ _ _ _ _ _ (by simp)) (by simp [Value.oneCell']) (by omega) (by unfold maxLen; omega) (by omega) (by simp; omega) _ rfl ?_; intro g8 cap8 w8 hown8 hg8 hat8 hl8; have HB8 : Hid (Below w1.heap.size w1 w8) := ((HBW.out.alloc (by omega) _).alloc (by simp; omega) _).grown hg8 (by simp; omega) (fun j hj => (rw_block hownW hj).1); have c8 : w8.cell? ⟨W.heap.size, 1, none⟩ = some (.int .i64 t) := (hg8.cell_far ⟨W.heap.size, 1, none⟩ (by simp; omega) (fun e => Nat.lt_irrefl _ (rw_block hownW e.symm).2.1)).trans (by simp [World.cell?_alloc_past]); rw [hWs] at c8)
              refine ⟨⟨k + 1, by omega, by rw [HT.out], ?_, HB8.out⟩, by simp [slLen]; omega⟩
              rw [HTK.out, HRZ.out]
              refine OwnH_snoc ?_
              rw [HL0.out]
              exact hown8
            · have e1 := eA_tn (jJ L) (i, false)
              have e2 := eB_tn (jJ L) (i, false)
              have e3 : tn (i, false) = (i, true) := rfl
              rw [e3] at e1 e2
              rw [← e2, ← hYd.2] at j0
              rw [← e1, ← hYd.1] at j1
              have hss : ((s : Int) == (s : Int)) = true := by simp
              have b0 : ∀ o, (wr.alloc o).cell? ⟨r, i * 3, none⟩ = some (.int .i64 t) := fun o => (World.cell?_alloc_some _ _ _ (by rw [j0]; rfl)).trans j0
              have b1 : ∀ o, (wr.alloc o).cell? ⟨r, i * 3 + 1, none⟩ = some (.int .i64 s) := fun o => (World.cell?_alloc_some _ _ _ (by rw [j1]; rfl)).trans j1
              have b2 : ∀ o, (wr.alloc o).cell? ⟨r, i * 3 + 2, none⟩ = some (.int .i64 Y) := fun o => (World.cell?_alloc_some _ _ _ (by rw [j2]; rfl)).trans j2
              clear hYd hva e1 e2 e3
              go_wp2_with fail
              go_region
              obtain ⟨W, hW⟩ : ∃ W, (wr.alloc (.cells #[.int .i64 t, .int .i64 s, .int .i64 Y] 103)).drew = W := ⟨_, rfl⟩
              have hWs : W.heap.size = wr.heap.size + 1 := by rw [← hW]; exact World.size_alloc _ _
              have X0 : W.cell? ⟨wr.heap.size, 0, none⟩ = some (.int .i64 t) := by rw [← hW]; exact cell_new _ _ _ _
              have X1 : W.cell? ⟨wr.heap.size, 1, none⟩ = some (.int .i64 s) := by rw [← hW]; exact cell_new _ _ _ _
              have X2 : W.cell? ⟨wr.heap.size, 2, none⟩ = some (.int .i64 Y) := by rw [← hW]; exact cell_new _ _ _ _
              have Z0 : ∀ o, (W.alloc o).cell? ⟨wr.heap.size, 0, none⟩ = some (.int .i64 t) := fun o => (World.cell?_alloc_some _ _ _ (by rw [X0]; rfl)).trans X0
              have Z1 : ∀ o, (W.alloc o).cell? ⟨wr.heap.size, 1, none⟩ = some (.int .i64 s) := fun o => (World.cell?_alloc_some _ _ _ (by rw [X1]; rfl)).trans X1
              have Z2 : ∀ o, (W.alloc o).cell? ⟨wr.heap.size, 2, none⟩ = some (.int .i64 Y) := fun o => (World.cell?_alloc_some _ _ _ (by rw [X2]; rfl)).trans X2
              have HBW : Hid (Below w1.heap.size w1 W) := by rw [← hW]; exact (HBr.out.alloc hszr _).drew
              have hownW : W.ownsRow w1.heap.size 105 4 (.slice ya k yc) k (ehCells ((P.take k).map (rz L))) := by rw [← hW]; exact hown'.alloc _
              rw [hW]
              clear hW hown' a1 a2 b0 b1 b2 kb j0 j1 j2 c1
              go_wp2_with (at_builtin; refine wpList_append_lies _ rfl (.tmp 64) (.tmp 66) 71 rfl w1.heap.size 105 i0 (.agg #[.int .i64 0, .int .i64 0, .int .i64 0, .bool false]) 4 32 Try.underlying71 hi hz0 hz1 hz2 rfl (by decide) _ _ _ (by simp [Act.eval, Act.put]) ((hownW.alloc _).alloc _) ⟨W.heap.size + 1, 0, none⟩ 1 1 [.int .i64 s, .int .i64 t, .int .i64 Y, .bool true] (by simp [Act.eval, Act.put]) rfl (cell_news4' _ _ _ _ _ _ _ (by simp)) (by simp [Value.oneCell']) (by omega) (by unfold maxLen; omega) (by omega) (by simp; omega) _ rfl ?_; intro g8 cap8 w8 hown8 hg8 hat8 hl8; have HB8 : Hid (Below w1.heap.size w1 w8) := ((HBW.out.alloc (by omega) _).alloc (by simp; omega) _).grown hg8 (by simp; omega) (fun j hj => (rw_block hownW hj).1); have c8 : w8.cell? ⟨W.heap.size, 1, none⟩ = some (.int .i64 t) := (hg8.cell_far ⟨W.heap.size, 1, none⟩ (by simp; omega) (fun e => Nat.lt_irrefl _ (rw_block hownW e.symm).2.1)).trans (by simp [World.cell?_alloc_past]); rw [hWs] at c8)
              refine ⟨⟨k + 1, by omega, by rw [HT.out], ?_, HB8.out⟩, by simp [slLen]; omega⟩
              rw [HTK.out, HRZ.out]
              refine OwnH_snoc ?_
              rw [HL0.out]
              exact hown8
          · have hke : k = P.length := by omega
            subst hke
            have hve := vis_end HPA.out.1
            rw [hve]
            have hyy : ((y : Int) == (y : Int)) = true := by simp
            have HO2 : Hid (OwnH wr w1.heap.size (.slice ya P.length yc) (P.map (rz L))) := by have := HO1.out; rw [List.take_length] at this; exact this
            clear hve hown'
            go_wp2_with fail
            go_ret2
            exact ⟨P, _, rfl, own_base HO2.out hsz, HB.out.trans (HBr.out.mono hsz), fun h => absurd rfl h, fun _ => HPA.out⟩
      · rw [if_neg hq]
        have HQ : Hid (¬ (mA m x).rt = (mA m y).rt) := hq
        clear hq
        go_enter Try.func26, Try.ntmps26
        go_wp2_with fail
        refine CA.out.mono ?_
        rintro e w' ⟨rfl, hw⟩
        obtain rfl := hw.symm
        go_wp2_with fail
        refine CB.out.mono ?_
        rintro e w' ⟨rfl, hw⟩
        obtain rfl := hw.symm
        go_wp2_with fail
        refine CR'.out.mono ?_
        rintro e w1 ⟨l, rfl, hO, hR, hB⟩
        have k := hO.cell (i := x) (by rw [hR.len]; exact hx)
        have hrt := rch_rt HI.out hR hy hx
        obtain ⟨z, hz⟩ : ∃ z, l.getD x 0 = z := ⟨_, rfl⟩
        rw [hz] at k hrt
        have HO : Hid (OwnI w1 w.heap.size (.slice (some ⟨w.heap.size, 0, none⟩) m.length m.length) l) := hO
        have HR : Hid (Rch (jJ L) m.length y l) := hR
        have HB : Hid (Below w.heap.size w w1) := hB
        have HZ : Hid (z ≠ 0 ↔ (mA m x).rt = (mA m y).rt) := hrt
        have HM1 : Hid (RfM w1 p (.slice va L.length vc) m.length L) := HM.out.below hB
        have hsz := hB.size
        have hgs : w.heap.size < w1.heap.size := (rw_block hO (b := w.heap.size) rfl).2.1
        clear hO hR hB hrt hz
        have hz0' : z = 0 := by
          rcases Classical.em (z = 0) with h | h
          · exact h
          · exact absurd (HZ.out.1 h) HQ.out
        subst hz0'
        go_wp2_with fail
        go_ret2
        exact ⟨[], _, rfl, World.ownsRow_nil _ _ _ _, HB.out, fun _ => rfl, fun h => by cases h⟩
end Go.Proofs.Ytfnbkffphpidbaa
