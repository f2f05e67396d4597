/-
  The document's Add, Same, Join, Group, Least, walked.
-/
import Derived.Test.YtfnbkffphpidbaaFoRm
set_option linter.unusedSimpArgs false
set_option linter.unusedVariables false
namespace Go.Proofs.Ytfnbkffphpidbaa
open Go.RowKit Go.Lib

theorem rch_rt {L : List Jt} {V : List Value} {m : List Mv} {x y : Nat} {l : List Int} (hI : FoI (jJ L) V m) (h : Rch (jJ L) m.length x l) (hx : x < m.length) (hy : y < m.length) : l.getD y 0 ≠ 0 ↔ (mA m y).rt = (mA m x).rt :=
  (h.iff_ y hy).trans (hI.cn_iff hy hx)
theorem ends_lt {L : List Jt} {V : List Value} {m : List Mv} (hI : FoI (jJ L) V m) : ∀ i, i < L.length → (L.getD i jt0).1 < m.length ∧ (L.getD i jt0).2.1 < m.length := fun i hi => by
  have h1 := hI.endA (e := (i, false)) (by rw [jJ_len]; exact hi)
  have h2 := hI.endB (e := (i, false)) (by rw [jJ_len]; exact hi)
  rw [(jJ_at L i hi).1] at h1
  rw [(jJ_at L i hi).2] at h2
  exact ⟨h1, h2⟩
theorem reachM {w : World} {p : Nat} {v : Value} {L : List Jt} {V : List Value} {m : List Mv} (h : RfM w p v m.length L) (hI : FoI (jJ L) V m) {a : Nat} (ha : a < m.length) :
    Calls Try.prog 48 #[.pointer (some ⟨p, 0, none⟩), .int .i64 a] w fun e w' => ∃ l, e = .returned (.slice (some ⟨w.heap.size, 0, none⟩) m.length m.length) ∧ OwnI w' w.heap.size (.slice (some ⟨w.heap.size, 0, none⟩) m.length m.length) l ∧ Rch (jJ L) m.length a l ∧ Below w.heap.size w w' :=
  reach_any w p m.length v L a h hI.fst (ends_lt hI) ha
theorem hasM {w : World} {p : Nat} {v : Value} {L : List Jt} {m : List Mv} (h : RfM w p v m.length L) (a : Int) : Calls Try.prog 47 #[.pointer (some ⟨p, 0, none⟩), .int .i64 a] w fun e w' => e = .returned (.bool (hasB m a)) ∧ w' = w := rhas_any w p m.length v L a h

set_option maxRecDepth 20000 in
set_option maxHeartbeats 2000000 in
theorem radd_any {w : World} {p n : Nat} {v : Value} {L : List Jt} (h : RfM w p v n L) :
    Calls Try.prog 28 #[.pointer (some ⟨p, 0, none⟩)] w fun e w' => e = .returned (.tuple #[.int .i64 ((if n < 1048576 then n else 0 : Nat) : Int), .int .i64 (if n < 1048576 then 0 else 10)]) ∧ RfM w' p v (if n < 1048576 then n + 1 else n) L ∧ KoF p v w w' ∧ Below p w w' := by
  have c0 := h.c0
  have f0 := h.fr 0
  have hle := h.le
  by_cases hn : n < 1048576
  · rw [if_pos hn, if_pos hn, if_pos hn]
    have hnI : ¬ ((n : Int) ≥ 1048576) := by omega
    have HM : Hid (RfM (w.setCell ⟨p, 0, none⟩ (.int .i64 ((n + 1 : Nat) : Int))) p v (n + 1) L) := by
      refine ⟨?_, rw_same h.on (fun b hb => Deep.blk_setCell_other _ _ _ _ (by have := (rw_block h.on hb).1; show b ≠ p; omega)), by omega, h.ll⟩
      have := heap_setCell_same w p 0 _ 29 (.int .i64 ((n + 1 : Nat) : Int)) h.blk
      simpa using this
    clear h
    go_enter Try.func28, Try.ntmps28
    go_wp2_with fail
    go_ret2
    refine ⟨by go_num, HM.out, KoF.set, (Below.refl _ _).setCell (p := ⟨p, 0, none⟩) (Nat.le_refl _) _⟩
  · rw [if_neg hn, if_neg hn, if_neg hn]
    have hnI : (n : Int) ≥ 1048576 := by omega
    have HM : Hid (RfM w p v n L) := h
    clear h
    go_enter Try.func28, Try.ntmps28
    go_wp2_with fail
    go_ret2
    exact ⟨rfl, HM.out, KoF.refl _ _ _, Below.refl _ _⟩

set_option maxRecDepth 20000 in
set_option maxHeartbeats 2000000 in
theorem rsame_any {w : World} {p : Nat} {v : Value} {L : List Jt} {V : List Value} {m : List Mv} (h : RfM w p v m.length L) (hI : FoI (jJ L) V m) (a b : Int) :
    Calls Try.prog 23 #[.pointer (some ⟨p, 0, none⟩), .int .i64 a, .int .i64 b] w fun e w' => e = .returned (.tuple #[.bool (sameB m a b), .int .i64 (joinE m a b)]) ∧ Below w.heap.size w w' := by
  have cA := hasM (m := m) h a
  have cB := hasM (m := m) h b
  unfold sameB joinE
  cases hA : hasB m a
  · rw [hA] at cA
    have CA : Hid (Calls Try.prog 47 #[.pointer (some ⟨p, 0, none⟩), .int .i64 a] w fun e w' => e = .returned (.bool false) ∧ w' = w) := cA
    clear cA cB h
    go_enter Try.func23, Try.ntmps23
    go_wp2_with fail
    refine CA.out.mono ?_
    rintro e w' ⟨rfl, hw⟩
    obtain rfl := hw.symm
    go_wp2_with fail
    go_ret2
    exact ⟨rfl, Below.refl _ _⟩
  · rw [hA] at cA
    have CA : Hid (Calls Try.prog 47 #[.pointer (some ⟨p, 0, none⟩), .int .i64 a] w fun e w' => e = .returned (.bool true) ∧ w' = w) := cA
    clear cA
    cases hB : hasB m b
    · rw [hB] at cB
      have CB : Hid (Calls Try.prog 47 #[.pointer (some ⟨p, 0, none⟩), .int .i64 b] w fun e w' => e = .returned (.bool false) ∧ w' = w) := cB
      clear cB h
      go_enter Try.func23, Try.ntmps23
      go_wp2_with fail
      refine CA.out.mono ?_
      rintro e w' ⟨rfl, hw⟩
      obtain rfl := hw.symm
      go_wp2_with fail
      refine CB.out.mono ?_
      rintro e w' ⟨rfl, hw⟩
      obtain rfl := hw.symm
      go_wp2_with fail
      go_ret2
      exact ⟨rfl, Below.refl _ _⟩
    · rw [hB] at cB
      have CB : Hid (Calls Try.prog 47 #[.pointer (some ⟨p, 0, none⟩), .int .i64 b] w fun e w' => e = .returned (.bool true) ∧ w' = w) := cB
      obtain ⟨x, rfl, hx⟩ := hasB_iff.1 hA
      obtain ⟨y, rfl, hy⟩ := hasB_iff.1 hB
      have CR := reachM h hI hx
      have hle := h.le
      have CR' : Hid (Calls Try.prog 48 #[.pointer (some ⟨p, 0, none⟩), .int .i64 x] w fun e w' => ∃ l, e = .returned (.slice (some ⟨w.heap.size, 0, none⟩) m.length m.length) ∧ OwnI w' w.heap.size (.slice (some ⟨w.heap.size, 0, none⟩) m.length m.length) l ∧ Rch (jJ L) m.length x l ∧ Below w.heap.size w w') := CR
      have HI : Hid (FoI (jJ L) V m) := hI
      clear cB h CR hI hA hB
      have hyI : (y : Int) < (m.length : Int) := by omega
      go_enter Try.func23, Try.ntmps23
      go_wp2_with fail
      refine CA.out.mono ?_
      rintro e w' ⟨rfl, hw⟩
      obtain rfl := hw.symm
      go_wp2_with fail
      refine CB.out.mono ?_
      rintro e w' ⟨rfl, hw⟩
      obtain rfl := hw.symm
      go_wp2_with fail
      refine CR'.out.mono ?_
      rintro e w1 ⟨l, rfl, hO, hR, hB⟩
      have k := hO.cell (i := y) (by rw [hR.len]; exact hy)
      have hrt := rch_rt HI.out hR hx hy
      obtain ⟨z, hz⟩ : ∃ z, l.getD y 0 = z := ⟨_, rfl⟩
      rw [hz] at k hrt
      have HB : Hid (Below w.heap.size w w1) := hB
      have HZ : Hid (z ≠ 0 ↔ (mA m y).rt = (mA m x).rt) := hrt
      clear hO hR hB hrt hz
      by_cases hz0 : z = 0
      · subst hz0
        go_wp2_with fail
        go_ret2
        refine ⟨?_, HB.out⟩
        have : ¬ (mA m x).rt = (mA m y).rt := fun e => (HZ.out.2 e.symm) rfl
        simp [this]
      · have hzI : (z == 0) = false := beq_eq_false_iff_ne.2 hz0
        go_wp2_with fail
        go_ret2
        refine ⟨?_, HB.out⟩
        have : (mA m x).rt = (mA m y).rt := (HZ.out.1 hz0).symm
        simp [this, hz0]

theorem joinB_bad {m : List Mv} {a b : Int} (h : (hasB m a && hasB m b) = false) : joinB m a b = false ∧ joinE m a b = 2 := by
  unfold joinB joinE
  rw [h]
  exact ⟨rfl, rfl⟩
theorem joinB_ok {m : List Mv} {x y : Nat} (hx : x < m.length) (hy : y < m.length) : joinE m x y = 0 ∧ joinB m x y = decide ((mA m x).rt ≠ (mA m y).rt) := by
  unfold joinB joinE
  rw [hasB_nat.2 hx, hasB_nat.2 hy]
  exact ⟨rfl, by simp⟩
theorem RfM.snoc {w w6 : World} {p n : Nat} {v v' : Value} {L : List Jt} (h : RfM w p v n L) (hb : w6.heap[p]? = w.heap[p]?) (t : Jt) (hl : (L.length + 2) * 24 ≤ 140737488355328)
    (ho : w6.ownsRow (p + 1) 103 3 v' (L.length + 1) (jtCells L ++ [.int .i64 t.1, .int .i64 t.2.1, .int .i64 t.2.2])) : RfM (w6.setCell ⟨p, 1, none⟩ v') p v' n (L ++ [t]) := by
  have h1 : w6.ownsRow (p + 1) 103 3 v' (L ++ [t]).length (jtCells (L ++ [t])) := by
    rw [jtCells_append]; simpa [jtCells, jtC] using ho
  refine ⟨?_, rw_same h1 (fun b hb' => Deep.blk_setCell_other _ _ _ _ (by have := (rw_block h1 hb').1; show b ≠ p; omega)), h.le, by simp; omega⟩
  have := heap_setCell_same w6 p 1 _ 29 v' (hb.trans h.blk)
  simpa using this
theorem cell_news3 (w : World) (a b c : Value) (t : TypeId) : ∀ j u, [a, b, c][j]? = some u → (w.alloc (.cells #[a, b, c] t)).cell? ((⟨w.heap.size, 0, none⟩ : Addr).add j) = some u := by
  intro j u hj
  match j, hj with
  | 0, hj => simp at hj; subst hj; simp [Addr.add]
  | 1, hj => simp at hj; subst hj; simp [Addr.add]
  | 2, hj => simp at hj; subst hj; simp [Addr.add]
theorem Try.infoJt : (Try.prog.info? 103).map (fun i => (i.zero, i.size, i.bytes)) = some (some (.agg #[.int .i64 0, .int .i64 0, .int .i64 0]), 3, 24) := by kernel_rfl

set_option maxRecDepth 20000 in
set_option maxHeartbeats 4000000 in
theorem rjoin_any {w : World} {p : Nat} {v : Value} {L : List Jt} {V : List Value} {m : List Mv} (h : RfM w p v m.length L) (hI : FoI (jJ L) V m) (a b why : Int) (hll : (L.length + 2) * 24 ≤ 140737488355328) :
    Calls Try.prog 22 #[.pointer (some ⟨p, 0, none⟩), .int .i64 a, .int .i64 b, .int .i64 why] w fun e w' => e = .returned (.tuple #[.bool (joinB m a b), .int .i64 (joinE m a b)]) ∧ ∃ v', RfM w' p v' m.length (if joinB m a b = true then L ++ [(a.toNat, b.toNat, why)] else L) ∧ KoF p v w w' ∧ (∀ c, v'.ownBlock = some c → v.ownBlock = some c ∨ w.heap.size ≤ c) ∧ Below p w w' := by
  obtain ⟨i0, hi, hz0, hz1, hz2⟩ := info_parts Try.infoJt
  have cA := hasM (m := m) h a
  have cB := hasM (m := m) h b
  cases hA : hasB m a
  · rw [hA] at cA
    have CA : Hid (Calls Try.prog 47 #[.pointer (some ⟨p, 0, none⟩), .int .i64 a] w fun e w' => e = .returned (.bool false) ∧ w' = w) := cA
    have HM : Hid (RfM w p v m.length L) := h
    clear cA cB h
    have hbad := joinB_bad (m := m) (a := a) (b := b) (by simp [hA])
    rw [hbad.1, hbad.2]
    simp only [Bool.false_eq_true, if_false]
    clear hbad
    go_enter Try.func22, Try.ntmps22
    go_wp2_with fail
    refine CA.out.mono ?_
    rintro e w' ⟨rfl, hw⟩
    obtain rfl := hw.symm
    go_wp2_with fail
    go_ret2
    exact ⟨rfl, v, HM.out, KoF.refl _ _ _, fun c hc => .inl hc, Below.refl _ _⟩
  · rw [hA] at cA
    have CA : Hid (Calls Try.prog 47 #[.pointer (some ⟨p, 0, none⟩), .int .i64 a] w fun e w' => e = .returned (.bool true) ∧ w' = w) := cA
    clear cA
    cases hB : hasB m b
    · rw [hB] at cB
      have CB : Hid (Calls Try.prog 47 #[.pointer (some ⟨p, 0, none⟩), .int .i64 b] w fun e w' => e = .returned (.bool false) ∧ w' = w) := cB
      have HM : Hid (RfM w p v m.length L) := h
      clear cB h
      have hbad := joinB_bad (m := m) (a := a) (b := b) (by simp [hA, hB])
      rw [hbad.1, hbad.2]
      simp only [Bool.false_eq_true, if_false]
      clear hbad
      go_enter Try.func22, Try.ntmps22
      go_wp2_with fail
      refine CA.out.mono ?_
      rintro e w' ⟨rfl, hw⟩
      obtain rfl := hw.symm
      go_wp2_with fail
      refine CB.out.mono ?_
      rintro e w' ⟨rfl, hw⟩
      obtain rfl := hw.symm
      go_wp2_with fail
      go_ret2
      exact ⟨rfl, v, HM.out, KoF.refl _ _ _, fun c hc => .inl hc, Below.refl _ _⟩
    · rw [hB] at cB
      have CB : Hid (Calls Try.prog 47 #[.pointer (some ⟨p, 0, none⟩), .int .i64 b] w fun e w' => e = .returned (.bool true) ∧ w' = w) := cB
      obtain ⟨x, rfl, hx⟩ := hasB_iff.1 hA
      obtain ⟨y, rfl, hy⟩ := hasB_iff.1 hB
      have CR' : Hid (Calls Try.prog 48 #[.pointer (some ⟨p, 0, none⟩), .int .i64 x] w fun e w' => ∃ l, e = .returned (.slice (some ⟨w.heap.size, 0, none⟩) m.length m.length) ∧ OwnI w' w.heap.size (.slice (some ⟨w.heap.size, 0, none⟩) m.length m.length) l ∧ Rch (jJ L) m.length x l ∧ Below w.heap.size w w') := reachM h hI hx
      have HI : Hid (FoI (jJ L) V m) := hI
      have HM : Hid (RfM w p v m.length L) := h
      have hle := h.le
      have hpl := h.lt
      obtain ⟨va, vc, hv⟩ := h.form
      subst hv
      obtain ⟨j1, j2⟩ := joinB_ok hx hy
      rw [j1, j2]
      simp only [Int.toNat_natCast]
      clear cB h hI hA hB j1 j2
      have hyI : (y : Int) < (m.length : Int) := by omega
      by_cases hq : (mA m x).rt = (mA m y).rt
      · have hne : decide ((mA m x).rt ≠ (mA m y).rt) = false := decide_eq_false (fun e => e hq)
        have HQ : Hid ((mA m x).rt = (mA m y).rt) := hq
        rw [hne]
        simp only [Bool.false_eq_true, if_false]
        clear hne hq
        go_enter Try.func22, Try.ntmps22
        go_wp2_with fail
        refine CA.out.mono ?_
        rintro e w' ⟨rfl, hw⟩
        obtain rfl := hw.symm
        go_wp2_with fail
        refine CB.out.mono ?_
        rintro e w' ⟨rfl, hw⟩
        obtain rfl := hw.symm
        go_wp2_with fail
        refine CR'.out.mono ?_
        rintro e w1 ⟨l, rfl, hO, hR, hB⟩
        have k := hO.cell (i := y) (by rw [hR.len]; exact hy)
        have hrt := rch_rt HI.out hR hx hy
        obtain ⟨z, hz⟩ : ∃ z, l.getD y 0 = z := ⟨_, rfl⟩
        rw [hz] at k hrt
        have HB : Hid (Below w.heap.size w w1) := hB
        have HZ : Hid (z ≠ 0 ↔ (mA m y).rt = (mA m x).rt) := hrt
        have HM1 : Hid (RfM w1 p (.slice va L.length vc) m.length L) := HM.out.below hB
        have hsz := hB.size
        have c1 := HM1.out.c1
        have hrow := HM1.out.on
        clear hO hR hB hrt hz
        have hz0' : z ≠ 0 := HZ.out.2 HQ.out.symm
        have hzI : (z == 0) = false := beq_eq_false_iff_ne.2 hz0'
        go_wp2_with fail
        go_ret2
        exact ⟨rfl, _, HM1.out, KoF.below HB.out, fun c hc => .inl hc, HB.out.mono (by omega)⟩
      · have hne : decide ((mA m x).rt ≠ (mA m y).rt) = true := decide_eq_true hq
        have HQ : Hid (¬ (mA m x).rt = (mA m y).rt) := hq
        rw [hne]
        simp only [if_true]
        clear hne hq
        go_enter Try.func22, Try.ntmps22
        go_wp2_with fail
        refine CA.out.mono ?_
        rintro e w' ⟨rfl, hw⟩
        obtain rfl := hw.symm
        go_wp2_with fail
        refine CB.out.mono ?_
        rintro e w' ⟨rfl, hw⟩
        obtain rfl := hw.symm
        go_wp2_with fail
        refine CR'.out.mono ?_
        rintro e w1 ⟨l, rfl, hO, hR, hB⟩
        have k := hO.cell (i := y) (by rw [hR.len]; exact hy)
        have hrt := rch_rt HI.out hR hx hy
        obtain ⟨z, hz⟩ : ∃ z, l.getD y 0 = z := ⟨_, rfl⟩
        rw [hz] at k hrt
        have HB : Hid (Below w.heap.size w w1) := hB
        have HZ : Hid (z ≠ 0 ↔ (mA m y).rt = (mA m x).rt) := hrt
        have HM1 : Hid (RfM w1 p (.slice va L.length vc) m.length L) := HM.out.below hB
        have hsz := hB.size
        have c1 := HM1.out.c1
        have hrow := HM1.out.on
        clear hO hR hB hrt hz
        have hz0' : z = 0 := by
          rcases Classical.em (z = 0) with h | h
          · exact h
          · exact absurd (HZ.out.1 h).symm HQ.out
        subst hz0'
        have f1 : ∀ W, Below w1.heap.size w1 W → W.frozen? ⟨p, 1, none⟩ = false := fun W hW => (hW.frozen (p := ⟨p, 1, none⟩) (by show p < w1.heap.size; omega)).trans (HM1.out.fr 1)
        have z1 : ∀ o, (w1.alloc o).cell? ⟨p, 1, none⟩ = some (.slice va L.length vc) := fun o => (World.cell?_alloc_past _ _ _ (by show p < w1.heap.size; omega)).trans c1
        have HP6 : Hid (∀ (o : Obj) (w6 : World), (w1.alloc o).grownBy w6 (Value.slice va L.length vc).ownBlock → w6.heap[p]? = w1.heap[p]?) := fun o w6 hg => by
          have h1 := hg.block p (by rw [World.size_alloc]; omega) (fun e => by have := (rw_block hrow e.symm).1; omega)
          exact h1.trans (Deep.blk_alloc_lt _ _ _ (by omega))
        have HF1 : Hid (∀ W : World, W.heap[p]? = w1.heap[p]? → W.frozen? ⟨p, 1, none⟩ = false) := fun W hW => (World.frozen?_of_block (a := ⟨p, 1, none⟩) hW).trans (HM1.out.fr 1)
        clear f1
        go_wp2_with (at_builtin; refine wpList_append_lies _ rfl (.tmp 31) (.tmp 36) 27 rfl (p + 1) 103 i0 (.agg #[.int .i64 0, .int .i64 0, .int .i64 0]) 3 24 Try.underlying27 hi hz0 hz1 hz2 rfl (by decide) _ _ _ (by simp [Act.eval, Act.put]) (hrow.alloc _) ⟨w1.heap.size, 0, none⟩ 1 1 [.int .i64 x, .int .i64 y, .int .i64 why] (by simp [Act.eval, Act.put]) rfl (cell_news3 w1 _ _ _ _) (by simp [Value.oneCell']) (by omega) (by unfold maxLen; omega) (by omega) (by simp; omega) _ rfl ?_; intro g6 cap6 w6 hown6 hg6 hat6 hl6; have hnd6 := HP6.out _ w6 hg6; have m6 : w6.cell? ⟨p, 1, none⟩ = some (.slice va L.length vc) := (World.cell?_of_block (a := ⟨p, 1, none⟩) hnd6).trans c1; have m6f : w6.frozen? ⟨p, 1, none⟩ = false := HF1.out w6 hnd6)
        go_ret2
        refine ⟨rfl, .slice (some ⟨g6, 0, none⟩) (L.length + 1) cap6, ?_, ((KoF.below HB.out).trans1 ((KoF.below ((Below.refl w1.heap.size w1).alloc (Nat.le_refl _) _)).trans1 (KoF.grown (hrow.alloc _) hg6))).trans1 KoF.set, fun c hc => ?_, ?_⟩
        · exact HM1.out.snoc hnd6 (x, y, why) hll hown6
        · have e1 : g6 = c := by simpa [Value.ownBlock] using hc
          subst e1
          rcases hat6 with h | h
          · exact .inl h
          · right; rw [h, World.size_alloc]; omega
        · refine Below.setCell (p := ⟨p, 1, none⟩) ?_ (Nat.le_refl p) _
          exact ((HB.out.mono (by omega)).alloc (by omega) _).grown hg6 (by rw [World.size_alloc]; omega) (fun j hj => by have := (rw_block hrow hj).1; omega)
end Go.Proofs.Ytfnbkffphpidbaa
