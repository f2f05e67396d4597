/-
  What Values makes.
-/
import Derived.Test.YtdcfjopmddaemaaDoorMBxPure
import Derived.Test.YtdcfjopmddaemaaDoorMBxTm
import Derived.Test.YtdcfjopmddaemaaDoorMQTail
set_option linter.unusedSimpArgs false
set_option linter.unusedVariables false
namespace Go.Proofs.YtdcfjopmddaemaaDoor
open Go.RowKit Go.Sort

theorem Calls.regrown_same {P : Program} {f : FuncId} {args : Array Value} {w : World} {d : Nat} {os : Array Obj} {v : Value}
    (h : Calls P f args (grow (redrawn w d) os) fun e w' => e = .returned v ∧ w' = grow (redrawn w d) os) : Calls P f args (grow (redrawn w d) os) fun e w'' => e = .returned v ∧ ∃ p : Regrown, w'' = grow (redrawn w p.d) p.os :=
  h.mono fun _ _ ⟨he, hw⟩ => ⟨he, ⟨d, os⟩, hw⟩

theorem getD_out {α : Type} {l : List α} {i : Nat} {d : α} (h : l.length ≤ i) : l.getD i d = d := by
  rw [List.getD_eq_getElem?_getD, List.getElem?_eq_none h]; rfl

set_option maxRecDepth 20000 in
set_option maxHeartbeats 400000 in
theorem get_any (ts : List Tm) (G L n : Nat) (k : Int) (w : World) (hn : n ≤ maxLen) (hts : ts.length ≤ n) (hL : w.cell? ⟨L, 0, none⟩ = some (.slice (some ⟨G, 0, none⟩) n n)) (hG : ∀ j, j < n → w.cell? ⟨G, j, none⟩ = some (tv (ts.getD j .nil))) :
    Calls Tryd.prog 48 #[.int .i64 ts.length, .int .i64 k, .pointer (some ⟨L, 0, none⟩)] w fun e w' => e = .returned (tv (getT ts k)) ∧ w' = w := by
  unfold maxLen at hn
  by_cases h : 0 ≤ k ∧ k < ts.length
  · obtain ⟨q, rfl⟩ : ∃ q : Nat, k = (q : Int) := ⟨k.toNat, by omega⟩
    have hq : q < ts.length := by omega
    have hg := hG q (by omega)
    have HE : Hid (tv (getT ts (q : Int)) = tv (ts.getD q .nil)) := by unfold getT; rw [Hid, if_pos h, Int.toNat_natCast]
    clear hG
    generalize tv (getT ts (q : Int)) = r at *
    generalize tv (ts.getD q .nil) = v at *
    have hq0 : ¬ (q : Int) < 0 := by omega
    have hq1 : ¬ (ts.length : Int) ≤ (q : Int) := by omega
    have hq2 : (q : Int) < (n : Int) := by omega
    go_enter Tryd.func48, Tryd.ntmps48
    go_wp2
    go_ret
    exact ⟨by rw [HE.out]; rfl, rfl⟩
  · have HE : Hid (tv (getT ts k) = .nilIface) := by unfold getT; rw [Hid, if_neg h]; rfl
    clear hG
    generalize tv (getT ts k) = r at *
    by_cases h0 : k < 0
    · go_enter Tryd.func48, Tryd.ntmps48
      go_wp2
      go_ret
      exact ⟨by rw [HE.out]; rfl, rfl⟩
    · have h1 : (ts.length : Int) ≤ k := by omega
      go_enter Tryd.func48, Tryd.ntmps48
      go_wp2
      go_ret
      exact ⟨by rw [HE.out]; rfl, rfl⟩

/-- In mid-loop. -/
structure VMid (w : World) (n : Nat) (ts : List Tm) (wr : World) : Prop where
  row : wr.rowIs w.heap.size 45 n (fun j => tv (ts.getD j .nil))
  box : wr.heap[w.heap.size + 1]? = some (.cells #[.slice (some ⟨w.heap.size, 0, none⟩) n n] 39 (0, 0))
  below : Below w.heap.size w wr

theorem VMid.up {w : World} {n : Nat} {ts : List Tm} {wr wr' : World} (h : VMid w n ts wr) (hb : Below wr.heap.size wr wr') : VMid w n ts wr' := by
  obtain ⟨c, h1, h2⟩ := h.row
  exact ⟨⟨c, (hb.block _ h.row.lt).trans h1, h2⟩, (hb.block _ (lt_of_block h.box)).trans h.box, h.below.trans (hb.mono h.below.size)⟩
theorem getD_snoc' (ts : List Tm) (t : Tm) (j : Nat) : (ts ++ [t]).getD j .nil = if j = ts.length then t else ts.getD j .nil := by
  by_cases hjk : j = ts.length
  · subst hjk; rw [if_pos rfl]; simp
  · rw [if_neg hjk]
    by_cases hj2 : j < ts.length
    · simp only [List.getD_eq_getElem?_getD]; rw [List.getElem?_append_left hj2]
    · rw [getD_out (l := ts ++ [t]) (by rw [List.length_append, List.length_singleton]; omega), getD_out (l := ts) (by omega)]
theorem VMid.set {w : World} {n : Nat} {ts : List Tm} {wr : World} (h : VMid w n ts wr) (t : Tm) : VMid w n (ts ++ [t]) (wr.setCell ⟨w.heap.size, ts.length, none⟩ (tv t)) := by
  refine ⟨(h.row.set ts.length (tv t)).congr (fun j hj => ?_), ?_, h.below.setCell (Nat.le_refl _) _⟩
  · rw [getD_snoc']
    by_cases hjk : j = ts.length
    · rw [if_pos hjk, if_pos hjk]
    · rw [if_neg hjk, if_neg hjk]
  · rw [Deep.blk_setCell_other _ _ _ _ (by show w.heap.size + 1 ≠ w.heap.size; omega)]
    exact h.box
theorem VMid.same {w : World} {n : Nat} {ts : List Tm} {wr : World} (h : VMid w n ts wr) : VMid w n (ts ++ [.nil]) wr := by
  refine ⟨h.row.congr (fun j hj => ?_), h.box, h.below⟩
  rw [getD_snoc']
  by_cases hjk : j = ts.length
  · rw [if_pos hjk, getD_out (l := ts) (by omega)]
  · rw [if_neg hjk]

set_option maxRecDepth 20000 in
set_option maxHeartbeats 4000000 in
theorem values_row (ao : Option Addr) (cap : Nat) (l : List Cl) (w : World) (hN : Cls w ao cap l) (hlen : l.length * 16 ≤ 140737488355328) :
    Calls Tryd.prog 22 #[.slice ao l.length cap] w fun e w' => ∃ ts, e = .returned (.slice (some ⟨w.heap.size, 0, none⟩) l.length l.length) ∧ Vals l ts ∧ ts.length = l.length ∧ w'.rowIs w.heap.size 45 l.length (fun j => tv (ts.getD j .nil)) ∧ Below w.heap.size w w' := by
  have HN : Hid (Cls w ao cap l) := hN
  have hm := hN.2.1
  have hl := hN.1
  unfold maxLen at hm
  clear hN
  have hmf : ∀ (fn : Fn) (first cap : Array Value) (w : World), (Instr.makeFunc fn first cap).run Tryd.prog w = .ok (.func fn first cap) w := fun _ _ _ _ => rfl
  have hmk := run_make_row' (P := Tryd.prog) 39 45 .nilIface 16 Tryd.underlying39 Tryd.infoTerm rfl .i64 .i64 l.length (by omega) (by omega)
  go_enter Tryd.func22, Tryd.ntmps22
  go_wp2_with fail
  go_loopw [13] (fun i wr => ∃ ts, Vals l ts ∧ ts.length ≤ l.length ∧ i = .int .i64 ts.length ∧ VMid w l.length ts wr) (fun i _ => l.length - (RowKit.intOf i).toNat)
  case atStart =>
    refine ⟨[], .nil, by simp, rfl, ?_, ?_, ?_⟩
    · obtain ⟨c, h1, h2, h3⟩ := (World.rowIs_made w .nilIface l.length 45).congr (g := fun j => tv (([] : List Tm).getD j .nil)) (fun j hj => by simp [tv])
      exact ⟨c, (Deep.blk_alloc_lt _ _ _ (by simp)).trans h1, h2, h3⟩
    · have := Deep.blk_alloc_new (w.alloc (.cells (madeCells #[.nilIface] l.length) 45)) (.cells #[.slice (some ⟨w.heap.size, 0, none⟩) l.length l.length] 39)
      rw [World.size_alloc] at this
      exact this
    · exact ((Below.refl _ _).alloc (Nat.le_refl _) _).alloc (by simp) _
  case round =>
    obtain ⟨ts, hV, hk, rfl, hM⟩ := hrel
    clear hmk
    have HV : Hid (Vals l ts) := hV
    have HM : Hid (VMid w l.length ts wr) := hM
    clear hV
    have hbox : wr.cell? ⟨w.heap.size + 1, 0, none⟩ = some (.slice (some ⟨w.heap.size, 0, none⟩) l.length l.length) := by simp [World.cell?, hM.box]
    have hGlt : w.heap.size < wr.heap.size := hM.row.lt
    have hLlt : w.heap.size + 1 < wr.heap.size := lt_of_block hM.box
    by_cases hlt : ts.length < l.length
    · obtain ⟨b, o, rfl, hbl, hc⟩ := (HN.out.below (hM.below)).at_ hlt
      obtain ⟨c0, c1, c2, c3, c4, c5, c6⟩ := hc ts.length hlt
      clear hc
      have hrc : wr.cell? ⟨w.heap.size, ts.length, none⟩ = some .nilIface := by
        have := hM.row.cell hlt
        rw [getD_out (Nat.le_refl _)] at this; exact this
      have hrf := hM.row.frozen ts.length
      have cG : Hid (∀ V, Below wr.heap.size wr V → ∀ k, Calls Tryd.prog 48 #[.int .i64 ts.length, .int .i64 k, .pointer (some ⟨w.heap.size + 1, 0, none⟩)] V fun e w' => e = .returned (tv (getT ts k)) ∧ w' = V) := fun V hV k => by
        refine get_any ts w.heap.size (w.heap.size + 1) l.length k V (by have := HN.out.2.1; have := HN.out.1; omega) hk ?_ ?_
        · exact (hV.cell (p := ⟨w.heap.size + 1, 0, none⟩) hLlt).trans hbox
        · intro j hj; exact (hV.cell (p := ⟨w.heap.size, j, none⟩) hGlt).trans (HM.out.row.cell hj)
      have HS : Hid (∀ p, Vals l (ts ++ [mkT (l.getD ts.length cl0) ts p])) := fun p => Vals.snoc ts p HV.out hlt
      clear hM
      generalize l.getD ts.length cl0 = x at *
      obtain ⟨kd, op, n, nm, a, bb, c⟩ := x
      simp only at c0 c1 c2 c3 c4 c5 c6
      have hbne : b ≠ wr.heap.size := by omega
      have hGne : w.heap.size ≠ wr.heap.size := by omega
      have hGne1 : w.heap.size ≠ wr.heap.size + 1 := by omega
      have hLne : w.heap.size + 1 ≠ wr.heap.size := by omega
      have hLne1 : w.heap.size + 1 ≠ wr.heap.size + 1 := by omega
      have hlt' : (ts.length : Int) < (l.length : Int) := by omega
      by_cases h1 : kd = 1
      · subst h1
        go_wp2_with fail
        refine ⟨⟨ts ++ [.lit n], ?_, by simp; omega, by simp, ?_⟩, by simp [RowKit.intOf]; omega⟩
        · have := HS.out ⟨0, 0, none⟩; exact this
        · exact (HM.out.set (.lit n)).up ((Below.refl _ _).alloc (Nat.le_refl _) _)
      by_cases h2 : kd = 2
      · subst h2
        go_wp2_with fail
        refine ⟨⟨ts ++ [.var nm], ?_, by simp; omega, by simp, ?_⟩, by simp [RowKit.intOf]; omega⟩
        · have := HS.out ⟨0, 0, none⟩; exact this
        · exact (HM.out.set (.var nm)).up ((Below.refl _ _).alloc (Nat.le_refl _) _)
      by_cases h3 : kd = 3
      · subst h3
        have sa := st_one (tv_one (getT ts a))
        have cca := tv_cells (getT ts a)
        unfold Value.cells at cca
        obtain ⟨W1, hW1⟩ : ∃ W1, wr.alloc (.cells #[.int .i64 3, .int .i64 op, .int .i64 n, .string nm, .int .i64 a, .int .i64 bb, .int .i64 c] 83) = W1 := ⟨_, rfl⟩
        have hb1 : Below wr.heap.size wr W1 := by rw [← hW1]; exact (Below.refl _ _).alloc (Nat.le_refl _) _
        have HB1 : Hid (Below wr.heap.size wr W1) := hb1
        have g0 := cell_regrown ((hb1.cell (p := ⟨w.heap.size + 1, 0, none⟩) hLlt).trans hbox)
        have g1 : ∀ d os, (grow (redrawn W1 d) os).cell? ⟨wr.heap.size, 1, none⟩ = some (.int .i64 op) := cell_regrown (by rw [← hW1]; simp)
        have g4 : ∀ d os, (grow (redrawn W1 d) os).cell? ⟨wr.heap.size, 4, none⟩ = some (.int .i64 a) := cell_regrown (by rw [← hW1]; simp)
        have g5 : ∀ d os, (grow (redrawn W1 d) os).cell? ⟨wr.heap.size, 5, none⟩ = some (.int .i64 bb) := cell_regrown (by rw [← hW1]; simp)
        have g6 : ∀ d os, (grow (redrawn W1 d) os).cell? ⟨wr.heap.size, 6, none⟩ = some (.int .i64 c) := cell_regrown (by rw [← hW1]; simp)
        have cR : Hid (∀ k d os, Calls Tryd.prog 48 #[.int .i64 ts.length, .int .i64 k, .pointer (some ⟨w.heap.size + 1, 0, none⟩)] (grow (redrawn W1 d) os) fun e w'' => e = .returned (tv (getT ts k)) ∧ ∃ p : Regrown, w'' = grow (redrawn W1 p.d) p.os) := fun k d os => Calls.regrown_same (cG.out _ (HB1.out.trans ((below_regrown W1 d os).mono HB1.out.size)) k)
        have HW1 : Hid (wr.alloc (.cells #[.int .i64 3, .int .i64 op, .int .i64 n, .string nm, .int .i64 a, .int .i64 bb, .int .i64 c] 83) = W1) := hW1
        clear hW1 hb1
        go_wp2_with fail
        rw [HW1.out]
        refine wp_region_quiet_then 12 (by kernel_rfl) (by kernel_rfl) ?_
        simp only [List.take_succ_cons, List.take_zero]
        iterate 12 (go_big_quiet_step ((go_at_call 48; exact cR.out _ _ _)))
        refine wpQuiet_nil ?_
        intro w' hw'
        obtain ⟨⟨dq, osq⟩, hw''⟩ := hw'
        subst hw''
        simp only [List.drop_succ_cons, List.drop_zero]
        clear g0 g1 g4 g5 g6
        obtain ⟨w2, hw2⟩ : ∃ w2, grow (redrawn W1 dq) osq = w2 := ⟨_, rfl⟩
        rw [hw2]
        have hb2 : Below wr.heap.size wr w2 := by rw [← hw2]; exact HB1.out.trans ((below_regrown W1 dq osq).mono HB1.out.size)
        have hM2 := HM.out.up hb2
        have q0 := (hb2.cell (p := ⟨w.heap.size, ts.length, none⟩) hGlt).trans hrc
        have q1 := hM2.row.frozen ts.length
        have HM2 : Hid (VMid w l.length ts w2) := hM2
        clear hw2 hM2
        go_wp2_with fail
        refine ⟨⟨ts ++ [.un op (getT ts a)], ?_, by simp; omega, by simp, ?_⟩, by simp [RowKit.intOf]; omega⟩
        · have := HS.out ⟨0, 0, none⟩; exact this
        · exact HM2.out.set (.un op (getT ts a))
      by_cases h4 : kd = 4
      · subst h4
        have sa := st_one (tv_one (getT ts a))
        have cca := tv_cells (getT ts a)
        unfold Value.cells at cca
        have sb := st_one (tv_one (getT ts bb))
        have ccb := tv_cells (getT ts bb)
        unfold Value.cells at ccb
        obtain ⟨W1, hW1⟩ : ∃ W1, wr.alloc (.cells #[.int .i64 4, .int .i64 op, .int .i64 n, .string nm, .int .i64 a, .int .i64 bb, .int .i64 c] 83) = W1 := ⟨_, rfl⟩
        have hb1 : Below wr.heap.size wr W1 := by rw [← hW1]; exact (Below.refl _ _).alloc (Nat.le_refl _) _
        have HB1 : Hid (Below wr.heap.size wr W1) := hb1
        have g0 := cell_regrown ((hb1.cell (p := ⟨w.heap.size + 1, 0, none⟩) hLlt).trans hbox)
        have g1 : ∀ d os, (grow (redrawn W1 d) os).cell? ⟨wr.heap.size, 1, none⟩ = some (.int .i64 op) := cell_regrown (by rw [← hW1]; simp)
        have g4 : ∀ d os, (grow (redrawn W1 d) os).cell? ⟨wr.heap.size, 4, none⟩ = some (.int .i64 a) := cell_regrown (by rw [← hW1]; simp)
        have g5 : ∀ d os, (grow (redrawn W1 d) os).cell? ⟨wr.heap.size, 5, none⟩ = some (.int .i64 bb) := cell_regrown (by rw [← hW1]; simp)
        have g6 : ∀ d os, (grow (redrawn W1 d) os).cell? ⟨wr.heap.size, 6, none⟩ = some (.int .i64 c) := cell_regrown (by rw [← hW1]; simp)
        have cR : Hid (∀ k d os, Calls Tryd.prog 48 #[.int .i64 ts.length, .int .i64 k, .pointer (some ⟨w.heap.size + 1, 0, none⟩)] (grow (redrawn W1 d) os) fun e w'' => e = .returned (tv (getT ts k)) ∧ ∃ p : Regrown, w'' = grow (redrawn W1 p.d) p.os) := fun k d os => Calls.regrown_same (cG.out _ (HB1.out.trans ((below_regrown W1 d os).mono HB1.out.size)) k)
        have HW1 : Hid (wr.alloc (.cells #[.int .i64 4, .int .i64 op, .int .i64 n, .string nm, .int .i64 a, .int .i64 bb, .int .i64 c] 83) = W1) := hW1
        clear hW1 hb1
        go_wp2_with fail
        rw [HW1.out]
        refine wp_region_quiet_then 17 (by kernel_rfl) (by kernel_rfl) ?_
        simp only [List.take_succ_cons, List.take_zero]
        iterate 17 (go_big_quiet_step ((go_at_call 48; exact cR.out _ _ _)))
        refine wpQuiet_nil ?_
        intro w' hw'
        obtain ⟨⟨dq, osq⟩, hw''⟩ := hw'
        subst hw''
        simp only [List.drop_succ_cons, List.drop_zero]
        clear g0 g1 g4 g5 g6
        obtain ⟨w2, hw2⟩ : ∃ w2, grow (redrawn W1 dq) osq = w2 := ⟨_, rfl⟩
        rw [hw2]
        have hb2 : Below wr.heap.size wr w2 := by rw [← hw2]; exact HB1.out.trans ((below_regrown W1 dq osq).mono HB1.out.size)
        have hM2 := HM.out.up hb2
        have q0 := (hb2.cell (p := ⟨w.heap.size, ts.length, none⟩) hGlt).trans hrc
        have q1 := hM2.row.frozen ts.length
        have HM2 : Hid (VMid w l.length ts w2) := hM2
        clear hw2 hM2
        go_wp2_with fail
        refine ⟨⟨ts ++ [.bin op (getT ts a) (getT ts bb)], ?_, by simp; omega, by simp, ?_⟩, by simp [RowKit.intOf]; omega⟩
        · have := HS.out ⟨0, 0, none⟩; exact this
        · exact HM2.out.set (.bin op (getT ts a) (getT ts bb))
      by_cases h5 : kd = 5
      · subst h5
        have sc := st_one (tv_one (getT ts c))
        have ccc := tv_cells (getT ts c)
        unfold Value.cells at ccc
        have sa := st_one (tv_one (getT ts a))
        have cca := tv_cells (getT ts a)
        unfold Value.cells at cca
        have sb := st_one (tv_one (getT ts bb))
        have ccb := tv_cells (getT ts bb)
        unfold Value.cells at ccb
        obtain ⟨W1, hW1⟩ : ∃ W1, wr.alloc (.cells #[.int .i64 5, .int .i64 op, .int .i64 n, .string nm, .int .i64 a, .int .i64 bb, .int .i64 c] 83) = W1 := ⟨_, rfl⟩
        have hb1 : Below wr.heap.size wr W1 := by rw [← hW1]; exact (Below.refl _ _).alloc (Nat.le_refl _) _
        have HB1 : Hid (Below wr.heap.size wr W1) := hb1
        have g0 := cell_regrown ((hb1.cell (p := ⟨w.heap.size + 1, 0, none⟩) hLlt).trans hbox)
        have g1 : ∀ d os, (grow (redrawn W1 d) os).cell? ⟨wr.heap.size, 1, none⟩ = some (.int .i64 op) := cell_regrown (by rw [← hW1]; simp)
        have g4 : ∀ d os, (grow (redrawn W1 d) os).cell? ⟨wr.heap.size, 4, none⟩ = some (.int .i64 a) := cell_regrown (by rw [← hW1]; simp)
        have g5 : ∀ d os, (grow (redrawn W1 d) os).cell? ⟨wr.heap.size, 5, none⟩ = some (.int .i64 bb) := cell_regrown (by rw [← hW1]; simp)
        have g6 : ∀ d os, (grow (redrawn W1 d) os).cell? ⟨wr.heap.size, 6, none⟩ = some (.int .i64 c) := cell_regrown (by rw [← hW1]; simp)
        have cR : Hid (∀ k d os, Calls Tryd.prog 48 #[.int .i64 ts.length, .int .i64 k, .pointer (some ⟨w.heap.size + 1, 0, none⟩)] (grow (redrawn W1 d) os) fun e w'' => e = .returned (tv (getT ts k)) ∧ ∃ p : Regrown, w'' = grow (redrawn W1 p.d) p.os) := fun k d os => Calls.regrown_same (cG.out _ (HB1.out.trans ((below_regrown W1 d os).mono HB1.out.size)) k)
        have HW1 : Hid (wr.alloc (.cells #[.int .i64 5, .int .i64 op, .int .i64 n, .string nm, .int .i64 a, .int .i64 bb, .int .i64 c] 83) = W1) := hW1
        clear hW1 hb1
        go_wp2_with fail
        rw [HW1.out]
        refine wp_region_quiet_then 20 (by kernel_rfl) (by kernel_rfl) ?_
        simp only [List.take_succ_cons, List.take_zero]
        iterate 20 (go_big_quiet_step ((go_at_call 48; exact cR.out _ _ _)))
        refine wpQuiet_nil ?_
        intro w' hw'
        obtain ⟨⟨dq, osq⟩, hw''⟩ := hw'
        subst hw''
        simp only [List.drop_succ_cons, List.drop_zero]
        clear g0 g1 g4 g5 g6
        obtain ⟨w2, hw2⟩ : ∃ w2, grow (redrawn W1 dq) osq = w2 := ⟨_, rfl⟩
        rw [hw2]
        have hb2 : Below wr.heap.size wr w2 := by rw [← hw2]; exact HB1.out.trans ((below_regrown W1 dq osq).mono HB1.out.size)
        have hM2 := HM.out.up hb2
        have q0 := (hb2.cell (p := ⟨w.heap.size, ts.length, none⟩) hGlt).trans hrc
        have q1 := hM2.row.frozen ts.length
        have HM2 : Hid (VMid w l.length ts w2) := hM2
        clear hw2 hM2
        go_wp2_with fail
        refine ⟨⟨ts ++ [.ifs (getT ts c) (getT ts a) (getT ts bb)], ?_, by simp; omega, by simp, ?_⟩, by simp [RowKit.intOf]; omega⟩
        · have := HS.out ⟨0, 0, none⟩; exact this
        · exact HM2.out.set (.ifs (getT ts c) (getT ts a) (getT ts bb))
      by_cases h6 : kd = 6
      · subst h6
        go_wp2_with fail
        refine ⟨⟨ts ++ [.other PTR (.pointer (some ⟨wr.heap.size + 1, 0, none⟩))], ?_, by simp; omega, by simp, ?_⟩, by simp [RowKit.intOf]; omega⟩
        · have := HS.out ⟨wr.heap.size + 1, 0, none⟩; exact this
        · exact (HM.out.set (.other PTR (.pointer (some ⟨wr.heap.size + 1, 0, none⟩)))).up (((Below.refl _ _).alloc (Nat.le_refl _) _).alloc (by simp) _)
      by_cases h7 : kd = 7
      · subst h7
        go_wp2_with fail
        refine ⟨⟨ts ++ [.other FRN (.agg #[.int .i64 n])], ?_, by simp; omega, by simp, ?_⟩, by simp [RowKit.intOf]; omega⟩
        · have := HS.out ⟨0, 0, none⟩; exact this
        · exact (HM.out.set (.other FRN (.agg #[.int .i64 n]))).up ((Below.refl _ _).alloc (Nat.le_refl _) _)
      have HKD : Hid (¬ kd = 1 ∧ ¬ kd = 2 ∧ ¬ kd = 3 ∧ ¬ kd = 4 ∧ ¬ kd = 5 ∧ ¬ kd = 6 ∧ ¬ kd = 7) := ⟨h1, h2, h3, h4, h5, h6, h7⟩
      have n1 : (kd == 1) = false := by simpa using h1
      have n2 : (kd == 2) = false := by simpa using h2
      have n3 : (kd == 3) = false := by simpa using h3
      have n4 : (kd == 4) = false := by simpa using h4
      have n5 : (kd == 5) = false := by simpa using h5
      have n6 : (kd == 6) = false := by simpa using h6
      have n7 : (kd == 7) = false := by simpa using h7
      go_wp2_with fail
      refine ⟨⟨ts ++ [.nil], ?_, by simp; omega, by simp, ?_⟩, by simp [RowKit.intOf]; omega⟩
      · have := HS.out ⟨0, 0, none⟩
        obtain ⟨k1, k2, k3, k4, k5, k6, k7⟩ := HKD.out
        unfold mkT at this
        simp only [if_neg k1, if_neg k2, if_neg k3, if_neg k4, if_neg k5, if_neg k6, if_neg k7] at this
        exact this
      · exact HM.out.same.up ((Below.refl _ _).alloc (Nat.le_refl _) _)
    · have hke : ts.length = l.length := by omega
      go_wp2_with fail
      go_ret
      exact ⟨ts, rfl, HV.out, hke, HM.out.row, HM.out.below⟩

theorem values_any (ao : Option Addr) (cap : Nat) (l : List Cl) (w : World) (hN : Cls w ao cap l) (hlen : l.length * 16 ≤ 140737488355328) :
    Calls Tryd.prog 22 #[.slice ao l.length cap] w fun e w' => ∃ ts, e = .returned (.slice (some ⟨w.heap.size, 0, none⟩) l.length l.length) ∧ Vals l ts ∧ ts.length = l.length ∧ (∀ j, j < l.length → w'.cell? ⟨w.heap.size, j, none⟩ = some (tv (ts.getD j .nil))) ∧ Below w.heap.size w w' := by
  refine (values_row ao cap l w hN hlen).mono ?_
  rintro e w' ⟨ts, h1, h2, h3, h4, h5⟩
  exact ⟨ts, h1, h2, h3, fun j hj => h4.cell hj, h5⟩
end Go.Proofs.YtdcfjopmddaemaaDoor
