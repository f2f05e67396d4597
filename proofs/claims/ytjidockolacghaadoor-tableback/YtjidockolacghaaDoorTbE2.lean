/-
  write and Expr, walked.
-/
import Derived.Test.YtjidockolacghaaDoorTbE
set_option linter.unusedSimpArgs false
set_option linter.unusedVariables false
namespace Go.Proofs.YtjidockolacghaaDoor
open Go.RowKit Go.Lib Go.Sort Go.Maps

theorem drop_next {ks : List Int} {a : List Int} {j : Nat} {u : Int} (hl : a.length = j) (hj : j < ks.length) : (a ++ ks.drop j).set j u = (a ++ [u]) ++ ks.drop (j + 1) := by
  have e : (ks.drop j).set 0 u = u :: ks.drop (j + 1) := by rw [List.drop_eq_getElem_cons hj]; rfl
  rw [List.set_append_right _ _ (by omega), hl, Nat.sub_self, e]
  simp
theorem drop_at {ks : List Int} {a : List Int} {j : Nat} (hl : a.length = j) (hj : j < ks.length) : (a ++ ks.drop j).getD j 0 = ks.getD j 0 := by
  rw [List.getD_eq_getElem?_getD, List.getElem?_append_right (by omega), hl, Nat.sub_self, List.getElem?_drop]
  simp [hj]

set_option maxRecDepth 20000 in
set_option maxHeartbeats 16000000 in
theorem twrite_any (p : Nat) (ev mv : Value) (L : List Nd) (hI : TbI L) : ∀ i, i < L.length → ∀ (w : World) (base : Nat) (v : Value) (q : List (Nd × Value)), TbM w p ev mv L → OwnP w base v q → base ≤ w.heap.size → q.length + (exA L i).length ≤ 5000 →
    Calls Tryd.prog 63 #[.pointer (some ⟨p, 0, none⟩), v, .int .i64 i] w fun e w' => ∃ v', e = .returned v' ∧ WEx w w.heap.size base v q ((exA L i).map (mvN 0 (q.length : Nat))) v' w' := by
  intro i
  induction i using Nat.strongRecOn with
  | ind i ih =>
    intro hi w base v q hM hO hbase hlen
    obtain ⟨i0, hi0, hz0, hz1, hz2⟩ := info_parts Tryd.infoNode
    have IH : Sld (∀ k, k < i → k < L.length → ∀ (w : World) (base : Nat) (v : Value) (q : List (Nd × Value)), TbM w p ev mv L → OwnP w base v q → base ≤ w.heap.size → q.length + (exA L k).length ≤ 5000 → Calls Tryd.prog 63 #[.pointer (some ⟨p, 0, none⟩), v, .int .i64 k] w fun e w' => ∃ v', e = .returned v' ∧ WEx w w.heap.size base v q ((exA L k).map (mvN 0 (q.length : Nat))) v' w') := ⟨fun k h1 h2 => ih k h1 h2⟩
    clear ih
    have HM : Sld (TbM w p ev mv L) := ⟨hM⟩
    have HO : Sld (OwnP w base v q) := ⟨hO⟩
    have HQ : Sld (∀ y ∈ q, ∀ g, y.2.ownBlock = some g → g < w.heap.size) := ⟨fun y hy g hg => (rw_block (hO.kids y hy) hg).2.1⟩
    have HV : Sld (∀ g, v.ownBlock = some g → g < w.heap.size) := ⟨fun g hg => (rw_block hO.row hg).2.1⟩
    have HEX : Sld ((exA L i).map (mvN 0 (q.length : Nat)) = (accS (ptL L i)).1.map (mvN 0 (q.length : Nat)) ++ [⟨(edA L i).op, (edA L i).n, (edA L i).name, (accS (ptL L i)).2.map (· + ((q.length : Nat) : Int))⟩]) := ⟨exA_pt hI hi q.length⟩
    have HLEN : Sld (q.length + (exA L i).length ≤ 5000) := ⟨hlen⟩
    have HPT : Sld (∀ j, j < (edA L i).kids.length → (ptL L i).getD j [] = exA L ((edA L i).kids.getD j 0).toNat ∧ KUp ((ptL L i).getD j []) ∧ 1 ≤ ((ptL L i).getD j []).length ∧ (accS ((ptL L i).take j)).1.length + ((ptL L i).getD j []).length ≤ (exA L i).length) := ⟨fun j hj => by
      have h1 := ptL_at L hj
      have hj2 : j < (ptL L i).length := by rw [ptL_len]; exact hj
      have h2 := ptL_up hI hi ((ptL L i).getD j []) (by simp [hj2])
      exact ⟨h1, h2.1, h2.2, acc_less hI hi hj⟩⟩
    have HNX : Sld (∀ j, j < (edA L i).kids.length → (accS ((ptL L i).take (j + 1))).1.map (mvN 0 (q.length : Nat)) = (accS ((ptL L i).take j)).1.map (mvN 0 (q.length : Nat)) ++ ((ptL L i).getD j []).map (mvN 0 ((q.length + (accS ((ptL L i).take j)).1.length : Nat) : Int)) ∧ (accS ((ptL L i).take (j + 1))).2.map (· + ((q.length : Nat) : Int)) = (accS ((ptL L i).take j)).2.map (· + ((q.length : Nat) : Int)) ++ [((q.length + (accS ((ptL L i).take j)).1.length + ((ptL L i).getD j []).length : Nat) : Int) - 1]) := ⟨fun j hj => acc_next (by rw [ptL_len]; exact hj) q.length (HPT.out j hj).2.1⟩
    have HA2 : Sld (∀ j, j ≤ (edA L i).kids.length → (accS ((ptL L i).take j)).2.length = j) := ⟨fun j hj => by rw [accS_len2, List.length_take, ptL_len]; omega⟩
    have HTK : Sld ((ptL L i).take (edA L i).kids.length = ptL L i) := ⟨by rw [← ptL_len]; exact List.take_length⟩
    have HKK : Sld (∀ k ∈ (edA L i).kids, 0 ≤ k ∧ k < (i : Int)) := ⟨hI.kids i hi⟩
    have hk3 := formB_kids (hI.form i hi)
    have cn : Sld (∀ W, Calls Tryd.prog 57 #[shV (edA L i)] W fun e w' => ∃ ao cap, e = .returned (.agg #[.int .i64 (edA L i).op, .int .i64 (edA L i).n, .string (edA L i).name, .slice ao (edA L i).kids.length cap]) ∧ OwnI w' W.heap.size (.slice ao (edA L i).kids.length cap) (edA L i).kids ∧ Below W.heap.size W w') := ⟨fun W => tnode_any _ W (hI.form i hi)⟩
    obtain ⟨g, cap, hev, hg, hgl, hcc, hcm⟩ := hM.row hi
    have t0 := hM.c0
    have hM2 := hM
    rw [hev] at hM2 t0
    obtain ⟨e0, e1, e2, e3, e4, e5, e6⟩ := hM2.at_ hi
    have hiI : (i : Int) < (L.length : Int) := by omega
    unfold maxLen at hcm
    clear hM hO hM2 hlen hev
    generalize edA L i = X at *
    obtain ⟨op, n, nm, ks⟩ := X
    rw [shV_eq] at cn
    simp only at e0 e1 e2 e3 e4 e5 cn HEX HPT HNX HA2 HTK HKK hk3 ⊢
    generalize ks.getD 0 0 = k0 at *
    generalize ks.getD 1 0 = k1 at *
    generalize ks.getD 2 0 = k2 at *
    go_enter Tryd.func63, Tryd.ntmps63
    go_wp2_with fail
    refine (cn.out _).mono ?_
    rintro e wn ⟨ka, kc, rfl, hKn, hbn⟩
    obtain ⟨w1, hw1⟩ : ∃ w1, wn.alloc (.cells #[.int .i64 op, .int .i64 n, .string nm, .slice ka ks.length kc] 47) = w1 := ⟨_, rfl⟩
    have HB1 : Sld (Below w.heap.size w w1) := ⟨by rw [← hw1]; exact hbn.alloc hbn.size _⟩
    have hsz1 : w1.heap.size = wn.heap.size + 1 := by rw [← hw1]; simp
    have hnb : w1.heap[wn.heap.size]? = some (.cells #[.int .i64 op, .int .i64 n, .string nm, .slice ka ks.length kc] 47 (0, 0)) := by rw [← hw1, Deep.blk_alloc_new]
    have HK1 : Sld (OwnI w1 w.heap.size (.slice ka ks.length kc) ks) := ⟨by rw [← hw1]; exact hKn.below ((Below.refl _ _).alloc (Nat.le_refl _) _)⟩
    have HKZ : Sld (∀ gg, (Value.slice ka ks.length kc).ownBlock = some gg → w.heap.size ≤ gg ∧ gg < wn.heap.size) := ⟨fun gg hgg => ⟨(rw_block hKn hgg).1, (rw_block hKn hgg).2.1⟩⟩
    have HW0 : Sld (WEx w w1.heap.size base v q [] v w1) := ⟨WEx.start HO.out HB1.out hbase⟩
    have HSZ1 : Hid (w1.heap.size = wn.heap.size + 1) := hsz1
    have hwn := hbn.size
    obtain ⟨y0, y1, y2, y3, yf⟩ := blk4 hnb
    have HNB : Sld (w1.heap[wn.heap.size]? = some (.cells #[.int .i64 op, .int .i64 n, .string nm, .slice ka ks.length kc] 47 (0, 0))) := ⟨hnb⟩
    clear hbn hKn hsz1 hnb e0 e1 e2 e3 e4 e5 e6 t0 cn
    go_wp2_with fail
    try rw [hw1]
    clear hw1
    go_loopw [1, 22] (fun x ii wr => ∃ j : Nat, j ≤ ks.length ∧ ii = .int .i64 j ∧ WEx w w1.heap.size base v q ((accS ((ptL L i).take j)).1.map (mvN 0 (q.length : Nat))) x wr ∧ OwnI wr w.heap.size (.slice ka ks.length kc) ((accS ((ptL L i).take j)).2.map (· + ((q.length : Nat) : Int)) ++ ks.drop j) ∧ wr.heap[wn.heap.size]? = some (.cells #[.int .i64 op, .int .i64 n, .string nm, .slice ka ks.length kc] 47 (0, 0)) ∧ w1.heap.size ≤ wr.heap.size) (fun _ ii _ => ks.length - (RowKit.intOf ii).toNat)
    case atStart => exact ⟨0, by omega, rfl, by simpa [accS_nil] using HW0.out, by simpa [accS_nil] using HK1.out, HNB.out, Nat.le_refl _⟩
    case round =>
      obtain ⟨j, hj, rfl, hW, hK, hN, hzr⟩ := hrel
      have HN : Sld (wr.heap[wn.heap.size]? = some (.cells #[.int .i64 op, .int .i64 n, .string nm, .slice ka ks.length kc] 47 (0, 0))) := ⟨hN⟩
      have HK : Sld (OwnI wr w.heap.size (.slice ka ks.length kc) ((accS ((ptL L i).take j)).2.map (· + ((q.length : Nat) : Int)) ++ ks.drop j)) := ⟨hK⟩
      have hkl : ((accS ((ptL L i).take j)).2.map (· + ((q.length : Nat) : Int)) ++ ks.drop j).length = ks.length := by
        have := HA2.out j hj
        simp [this]; omega
      have HKL : Sld (((accS ((ptL L i).take j)).2.map (· + ((q.length : Nat) : Int)) ++ ks.drop j).length = ks.length) := ⟨hkl⟩
      obtain ⟨n0, n1, n2, n3, nf⟩ := blk4 hN
      obtain ⟨p', g0, g1, g2, g3, g4, g5, g6⟩ := hW
      obtain ⟨xa, xc, rfl⟩ := rw_form g0.row
      have hpl : (q ++ p').length = q.length + (accS ((ptL L i).take j)).1.length := by
        rw [List.length_append]
        have := congrArg List.length g1
        simp only [List.length_map] at this
        omega
      obtain ⟨QL, hQL⟩ : ∃ QL, (q ++ p').length = QL := ⟨_, rfl⟩
      have HQL : Sld ((q ++ p').length = QL) := ⟨hQL⟩
      rw [hQL] at g0 g4 hpl ⊢
      have HPL : Sld (QL = q.length + (accS ((ptL L i).take j)).1.length) := ⟨hpl⟩
      have H0 : Sld (OwnP wr base (.slice xa QL xc) (q ++ p')) := ⟨g0⟩
      have H1 : Sld (p'.map (·.1) = (accS ((ptL L i).take j)).1.map (mvN 0 (q.length : Nat))) := ⟨g1⟩
      have H2 : Sld (∀ y ∈ p', OwnI wr w1.heap.size y.2 y.1.kids) := ⟨g2⟩
      have H3 : Sld (w.grownBy wr v.ownBlock) := ⟨g3⟩
      have H4 : Sld ((Value.slice xa QL xc).ownBlock = v.ownBlock ∨ ∀ g, (Value.slice xa QL xc).ownBlock = some g → w1.heap.size ≤ g) := ⟨g4⟩
      have H5 : Sld (Below base w wr) := ⟨g5⟩
      have H6 : Sld (KdAp p') := ⟨g6⟩
      have hwsz := g3.size
      have HNBX : Sld ((Value.slice xa QL xc).ownBlock ≠ some wn.heap.size) := ⟨fun e => by
        rcases g4 with h | h
        · rw [h] at e; have := HV.out _ e; omega
        · have := h _ e; have := HSZ1.out; omega⟩
      clear hN hK g0 g1 g2 g3 g4 g5 g6 hQL hpl hkl
      by_cases hjl : j < ks.length
      · have hjlI : (j : Int) < (ks.length : Int) := by omega
        obtain ⟨kb, kcap, hka, hkb1, hkb2⟩ := rw_some (show wr.ownsRow w.heap.size 3 1 (.slice ka ks.length kc) _ _ from HK.out) (by rw [HKL.out]; omega)
        rw [HKL.out] at hka
        simp only [Value.slice.injEq, true_and] at hka
        obtain ⟨rfl, rfl⟩ := hka
        have hkz := (HKZ.out kb rfl).2
        have kc1 := HK.out.cellT HKL.out hjl
        rw [drop_at (by rw [List.length_map]; exact HA2.out j hj) hjl] at kc1
        obtain ⟨hk1, hk2⟩ := HKK.out (ks.getD j 0) (by simp [hjl])
        obtain ⟨hp1, hp2, hp3, hp4⟩ := HPT.out j hjl
        obtain ⟨q0, hq0⟩ : ∃ q0 : Nat, ks.getD j 0 = q0 := ⟨(ks.getD j 0).toNat, by omega⟩
        rw [hq0] at kc1 hk2 hp1
        simp only [Int.toNat_natCast] at hp1
        have hlen := HLEN.out
        have hql := HPL.out
        have CW := IH.out q0 (by omega) (by omega) wr base (.slice xa QL xc) (q ++ p') (HM.out.grown HO.out H3.out) H0.out (by omega) (by rw [HQL.out, ← hp1]; omega)
        rw [HQL.out, ← hp1] at CW
        obtain ⟨hn1, hn2⟩ := HNX.out j hjl
        have HCW : Sld (Calls Tryd.prog 63 #[.pointer (some ⟨p, 0, none⟩), .slice xa QL xc, .int .i64 q0] wr fun e w' => ∃ v', e = .returned v' ∧ WEx wr wr.heap.size base (.slice xa QL xc) (q ++ p') (((ptL L i).getD j []).map (mvN 0 (QL : Nat))) v' w') := ⟨CW⟩
        rw [← hql] at hn1 hn2
        have HN1 : Sld ((accS ((ptL L i).take (j + 1))).1.map (mvN 0 (q.length : Nat)) = (accS ((ptL L i).take j)).1.map (mvN 0 (q.length : Nat)) ++ ((ptL L i).getD j []).map (mvN 0 (QL : Nat))) := ⟨hn1⟩
        have HN2 : Sld ((accS ((ptL L i).take (j + 1))).2.map (· + ((q.length : Nat) : Int)) = (accS ((ptL L i).take j)).2.map (· + ((q.length : Nat) : Int)) ++ [((QL + ((ptL L i).getD j []).length : Nat) : Int) - 1]) := ⟨hn2⟩
        obtain ⟨EL, hEL⟩ : ∃ EL, ((ptL L i).getD j []).length = EL := ⟨_, rfl⟩
        have HEL : Sld (((ptL L i).getD j []).length = EL) := ⟨hEL⟩
        rw [hEL] at hp3 hp4
        have HB7 : Sld (QL + EL ≤ 5000) := ⟨by omega⟩
        clear CW hn1 hn2 hp1 hp2 hq0 hk1 hEL hql hlen hp4
        go_wp2_with fail
        refine HCW.out.mono ?_
        rintro e w2 ⟨x2, rfl, hW2⟩
        have hWC := WEx.call H0.out H1.out H2.out H3.out H4.out H5.out H6.out (by have := HSZ1.out; omega) hzr hW2
        obtain ⟨p2, f0, f1, f2, f3, f4, f5, f6⟩ := hW2
        obtain ⟨x2a, x2c, rfl⟩ := rw_form f0.row
        have hl2 : (q ++ p' ++ p2).length = QL + EL := by
          rw [List.length_append, HQL.out]
          have := congrArg List.length f1
          simp only [List.length_map, HEL.out] at this
          omega
        rw [hl2] at hWC ⊢
        have hK2 : OwnI w2 w.heap.size (.slice (some ⟨kb, 0, none⟩) ks.length kc) ((accS ((ptL L i).take j)).2.map (· + ((q.length : Nat) : Int)) ++ ks.drop j) := World.ownsRow.kept HK.out f3 (ownBlock_ne HK.out H0.out.row (by decide))
        have hN2 : w2.heap[wn.heap.size]? = some (.cells #[.int .i64 op, .int .i64 n, .string nm, .slice (some ⟨kb, 0, none⟩) ks.length kc] 47 (0, 0)) := (f3.block _ (lt_of_block HN.out) (fun e => HNBX.out e.symm)).trans HN.out
        obtain ⟨m0, m1, m2, m3, mf⟩ := blk4 hN2
        have kc2 := hK2.cellT HKL.out hjl
        have kf2 := hK2.frT HKL.out j
        obtain ⟨u2, hu2⟩ : ∃ u2, ((accS ((ptL L i).take j)).2.map (· + ((q.length : Nat) : Int)) ++ ks.drop j).getD j 0 = u2 := ⟨_, rfl⟩
        rw [hu2] at kc2
        obtain ⟨hcc7, hcc8, ccap, ccur, hcc9, hkblk, hcc6⟩ := rw_block hK2 (b := kb) rfl
        clear hcc7 hcc8 hcc9 hcc6
        rw [← HN1.out] at hWC
        have HW3 : Sld (WEx w w1.heap.size base v q ((accS ((ptL L i).take (j + 1))).1.map (mvN 0 (q.length : Nat))) (.slice x2a (QL + EL) x2c) (w2.setCell ⟨kb, j, none⟩ (.int .i64 (((QL + EL : Nat) : Int) - 1)))) := ⟨hWC.set HQ.out hkb1 (by have := HSZ1.out; omega) (by omega) hkblk⟩
        have HK3 : Sld (OwnI (w2.setCell ⟨kb, j, none⟩ (.int .i64 (((QL + EL : Nat) : Int) - 1))) w.heap.size (.slice (some ⟨kb, 0, none⟩) ks.length kc) ((accS ((ptL L i).take (j + 1))).2.map (· + ((q.length : Nat) : Int)) ++ ks.drop (j + 1))) := ⟨by
          have := hK2.putT HKL.out j (((QL + EL : Nat) : Int) - 1)
          rw [drop_next (by rw [List.length_map]; exact HA2.out j hj) hjl, ← HEL.out, ← HN2.out] at this
          rw [← HEL.out]
          exact this⟩
        have HN3 : Sld ((w2.setCell ⟨kb, j, none⟩ (.int .i64 (((QL + EL : Nat) : Int) - 1))).heap[wn.heap.size]? = some (.cells #[.int .i64 op, .int .i64 n, .string nm, .slice (some ⟨kb, 0, none⟩) ks.length kc] 47 (0, 0))) := ⟨(Deep.blk_setCell_other _ _ _ _ (by show wn.heap.size ≠ kb; omega)).trans hN2⟩
        have hsz2 := f3.size
        have hqe : ((QL + EL : Nat) : Int) ≤ 5000 := by have := HB7.out; omega
        have hqe0 : (1 : Int) ≤ ((QL + EL : Nat) : Int) := by omega
        obtain ⟨T, hT⟩ : ∃ T : Nat, QL + EL = T := ⟨_, rfl⟩
        rw [hT] at HW3 HK3 HN3 hqe hqe0 ⊢
        clear hWC hK2 hN2 f0 f1 f2 f3 f4 f5 f6 hkblk hl2 hu2 hT
        go_wp2_with fail
        exact ⟨⟨j + 1, by omega, by go_num, HW3.out, HK3.out, HN3.out, by rw [World.size_setCell]; omega⟩, by simp [RowKit.intOf]; omega⟩
      · have hje : j = ks.length := by omega
        subst hje
        have hK := HK.out
        rw [List.drop_length, List.append_nil] at hK
        have hl4 := HPL.out
        have hlen := HLEN.out
        have hq5 : QL ≤ 5000 := by
          have := congrArg List.length HEX.out
          rw [HTK.out] at hl4
          simp at this
          omega
        have hrow := H0.out.row
        rw [HQL.out] at hrow
        have HEND : Sld (∀ {g cap : Nat} {w5 : World}, w5.ownsRow base 47 4 (.slice (some ⟨g, 0, none⟩) (QL + 1) cap) (QL + 1) (ndCells (q ++ p') ++ [.int .i64 op, .int .i64 n, .string nm, .slice ka ks.length kc]) → (wr.alloc (.cells #[.int .i64 op, .int .i64 n, .string nm, .slice ka ks.length kc] 47)).grownBy w5 (Value.slice xa QL xc).ownBlock → ((Value.slice xa QL xc).ownBlock = some g ∨ g = (wr.alloc (.cells #[.int .i64 op, .int .i64 n, .string nm, .slice ka ks.length kc] 47)).heap.size) → WEx w w.heap.size base v q ((exA L i).map (mvN 0 (q.length : Nat))) (.slice (some ⟨g, 0, none⟩) (QL + 1) cap) w5) := ⟨fun {g cap w5} h1 h2 h3 => by
          rw [HEX.out, ← HTK.out]
          have hba : Below wr.heap.size wr (wr.alloc (.cells #[.int .i64 op, .int .i64 n, .string nm, .slice ka ks.length kc] 47)) := (Below.refl _ _).alloc (Nat.le_refl _) _
          exact WEx.last (y := ⟨op, n, nm, _⟩) (kv := .slice ka ks.length kc) H0.out H1.out H2.out H3.out H4.out H5.out H6.out (by have := HSZ1.out; omega) hbase hba (hK.below hba) (fun gg hgg => by have := (HKZ.out gg hgg).2; have := HSZ1.out; omega) HQL.out.symm h1 h2 h3⟩
        clear hK hlen hl4
        go_wp2_with (at_builtin; refine wpList_append_lies _ rfl (.tmp 39) (.tmp 41) 22 rfl base 47 i0 (.agg #[.int .i64 0, .int .i64 0, .string ⟨#[]⟩, .slice none 0 0]) 4 56 Tryd.underlying22 hi0 hz0 hz1 hz2 rfl (by decide) _ _ _ (by simp [Act.eval, Act.put]) (hrow.alloc _) ⟨wr.heap.size, 0, none⟩ 1 1 [.int .i64 op, .int .i64 n, .string nm, .slice ka ks.length kc] (by simp [Act.eval, Act.put]) rfl (cell_news4 _ _ _ _ _ _ _ rfl) (by simp [Value.oneCell']) (by omega) (by unfold maxLen; omega) (by omega) (by simp; omega) _ rfl ?_; intro g5 cap5 w5 hown5 hg5 hat5 hl5)
        have HE := HEND.out hown5 hg5 hat5
        have HEE : Sld (WEx w w.heap.size base v q ((exA L i).map (mvN 0 (q.length : Nat))) (.slice (some ⟨g5, 0, none⟩) (QL + 1) cap5) w5) := ⟨HE⟩
        clear HE hown5 hg5 hat5
        go_wp2_with fail
        go_ret
        exact ⟨_, rfl, HEE.out⟩
end Go.Proofs.YtjidockolacghaaDoor
