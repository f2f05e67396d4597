/-
  What Of makes of a sound expression.
-/
import Derived.Test.YtdcfjopmddaemaaDoorMBxFlat
import Derived.Test.YtdcfjopmddaemaaDoorMExRdW
import Derived.Test.YtdcfjopmddaemaaDoorMQTail
set_option linter.unusedSimpArgs false
set_option linter.unusedVariables false
namespace Go.Proofs.YtdcfjopmddaemaaDoor
open Go.RowKit Go.Lib Go.Sort

set_option maxRecDepth 20000 in
set_option maxHeartbeats 4000000 in
theorem of_any (l : List Nd) (fr : List Nat) (hs : begL l = some fr) (ao : Option Addr) (cap : Nat) : ∀ (i : Nat), i < l.length → ∀ (W : World), Rd W ao cap l →
    Calls Tryd.prog 25 #[.slice ao l.length cap, .int .i64 i] W fun e w' => e = .returned (tv (tmA l i)) ∧ Below W.heap.size W w' := by
  intro i
  induction i using Nat.strongRecOn with
  | ind i IH =>
    intro hi W hR
    have HIH : Hid (∀ j, j < i → j < l.length → ∀ (W : World), Rd W ao cap l → Calls Tryd.prog 25 #[.slice ao l.length cap, .int .i64 j] W fun e w' => e = .returned (tv (tmA l j)) ∧ Below W.heap.size W w') := IH
    clear IH
    have HR : Hid (Rd W ao cap l) := hR
    have h64 := (begL_some hs).2.1
    have hok := begOk_of (begL_some hs).2.2.1
    have hform := (hok.at_ i hi).1
    have hcs := form_cases hform
    have hkk := snd_kk hs i hi
    obtain ⟨ao', cap', h1, hl, hm, hc⟩ := hR
    cases h1
    unfold maxLen at hm
    obtain ⟨b, o, rfl, hb, hc⟩ : ∃ b o, ao = some ⟨b, o, none⟩ ∧ b < W.heap.size ∧ ∀ i, i < l.length → ∃ kv, NodeAt W W.heap.size b (o + i * 4) (l.getD i nd0) kv := by
      rcases hc with h | h
      · subst h; simp at hi
      · exact h
    obtain ⟨kv, hn⟩ := hc i hi
    clear hc hform hok
    have L1 := @tmA_lit l i hi
    have L2 := @tmA_var l i hi
    have L3 := @tmA_un l i hi
    have L4 := @tmA_bin l i hi
    have L5 := @tmA_ifs l i hi
    generalize l.getD i nd0 = x at *
    obtain ⟨op, n, nm, kids⟩ := x
    obtain ⟨c0, c1, c2, c3, hI⟩ := hn
    simp only at c0 c1 c2 c3 hI hcs hkk L1 L2 L3 L4 L5
    have hbne : b ≠ W.heap.size := by omega
    rcases hcs with ⟨h, rfl⟩ | ⟨h, rfl⟩ | ⟨h1, h2, a, rfl⟩ | ⟨h1, h2, a, bb, rfl⟩ | ⟨h, c, a, bb, rfl⟩
    · have hE := L1 h hkk
      subst h
      rw [hE]
      clear L1 L2 L3 L4 L5 hE
      unfold tv
      obtain ⟨ka, kc, rfl, _⟩ := hI
      simp only [List.length_nil] at c3
      go_enter Tryd.func25, Tryd.ntmps25
      go_wp2_with fail
      go_ret
      exact ⟨rfl, (Below.refl _ _).alloc (Nat.le_refl _) _⟩
    · have hE := L2 h hkk
      subst h
      rw [hE]
      clear L1 L2 L3 L4 L5 hE
      unfold tv
      obtain ⟨ka, kc, rfl, _⟩ := hI
      simp only [List.length_nil] at c3
      go_enter Tryd.func25, Tryd.ntmps25
      go_wp2_with fail
      go_ret
      exact ⟨rfl, (Below.refl _ _).alloc (Nat.le_refl _) _⟩
    · have hka := hkk a (by simp)
      obtain ⟨a, rfl⟩ : ∃ z : Nat, a = (z : Int) := ⟨a.toNat, by omega⟩
      have hE := L3 h1 h2 a rfl hkk
      rw [hE]
      clear L1 L2 L3 L4 L5 hE
      have sa := st_one (tv_one (tmA l a))
      have qa := tv_cells (tmA l a)
      unfold Value.cells at qa
      unfold tv
      obtain ⟨ka, kc, rfl, hk1, ⟨hk2, _⟩, hkc⟩ := hI
      unfold maxLen at hk2
      obtain ⟨kb, ko, rfl, hkb, hkc⟩ : ∃ b o, ka = some ⟨b, o, none⟩ ∧ b < W.heap.size ∧ ∀ j, j < 1 → W.cell? ⟨b, o + j, none⟩ = some (.int .i64 (([(a : Int)] : List Int).getD j 0)) := by
        rcases hkc with h | h
        · cases h
        · exact h
      have e0 : W.cell? ⟨kb, ko + 0, none⟩ = some (.int .i64 (a : Int)) := hkc 0 (by omega)
      simp only [Nat.add_zero] at e0
      simp only [List.length_cons, List.length_nil, Nat.zero_add] at c3
      obtain ⟨W1, hW1⟩ : ∃ W1, W.alloc (.cells #[.int .i64 op, .int .i64 n, .string nm, .slice (some ⟨kb, ko, none⟩) 1 kc] 62) = W1 := ⟨_, rfl⟩
      have hb1 : Below W.heap.size W W1 := by rw [← hW1]; exact (Below.refl _ _).alloc (Nat.le_refl _) _
      have HB1 : Hid (Below W.heap.size W W1) := hb1
      have g0 : ∀ d os, (grow (redrawn W1 d) os).cell? ⟨W.heap.size, 0, none⟩ = some (.int .i64 op) := cell_regrown (by rw [← hW1]; simp)
      have g3 : ∀ d os, (grow (redrawn W1 d) os).cell? ⟨W.heap.size, 3, none⟩ = some (.slice (some ⟨kb, ko, none⟩) 1 kc) := cell_regrown (by rw [← hW1]; simp)
      have f0 := cell_regrown ((hb1.cell (p := ⟨kb, ko, none⟩) hkb).trans e0)
      have cR : Hid (∀ (j : Nat), j < i → ∀ d os, Calls Tryd.prog 25 #[.slice (some ⟨b, o, none⟩) l.length cap, .int .i64 j] (grow (redrawn W1 d) os) fun e w'' => e = .returned (tv (tmA l j)) ∧ ∃ p : Regrown, w'' = grow (redrawn W1 p.d) p.os) := fun j hj d os => Calls.regrown_of (HIH.out j hj (by omega) _ ((HR.out.below HB1.out HB1.out.size).below (below_regrown W1 d os) (below_regrown W1 d os).size))
      have HW1 : Hid (W.alloc (.cells #[.int .i64 op, .int .i64 n, .string nm, .slice (some ⟨kb, ko, none⟩) 1 kc] 62) = W1) := hW1
      have hlta : a < i := by omega
      clear hW1 hb1 hkc
      go_enter Tryd.func25, Tryd.ntmps25
      go_wp2_with fail
      rw [HW1.out]
      refine wp_region_quiet_below (by kernel_rfl) (by kernel_rfl) ?_
      iterate 11 (go_big_quiet_step ((go_at_call 25; exact cR.out _ (by omega) _ _)))
      refine wpQuiet_nil ?_
      intro _ hw'
      obtain ⟨⟨ds, oss⟩, hw''⟩ := hw'
      subst hw''
      go_wp2_with fail
      go_ret
      exact ⟨rfl, HB1.out.trans ((below_regrown W1 ds oss).mono HB1.out.size)⟩
    · have hka := hkk a (by simp)
      obtain ⟨a, rfl⟩ : ∃ z : Nat, a = (z : Int) := ⟨a.toNat, by omega⟩
      have hkbb := hkk bb (by simp)
      obtain ⟨bb, rfl⟩ : ∃ z : Nat, bb = (z : Int) := ⟨bb.toNat, by omega⟩
      have hE := L4 h1 h2 a bb rfl hkk
      rw [hE]
      clear L1 L2 L3 L4 L5 hE
      have sa := st_one (tv_one (tmA l a))
      have qa := tv_cells (tmA l a)
      unfold Value.cells at qa
      have sbb := st_one (tv_one (tmA l bb))
      have qbb := tv_cells (tmA l bb)
      unfold Value.cells at qbb
      unfold tv
      obtain ⟨ka, kc, rfl, hk1, ⟨hk2, _⟩, hkc⟩ := hI
      unfold maxLen at hk2
      obtain ⟨kb, ko, rfl, hkb, hkc⟩ : ∃ b o, ka = some ⟨b, o, none⟩ ∧ b < W.heap.size ∧ ∀ j, j < 2 → W.cell? ⟨b, o + j, none⟩ = some (.int .i64 (([(a : Int), (bb : Int)] : List Int).getD j 0)) := by
        rcases hkc with h | h
        · cases h
        · exact h
      have e0 : W.cell? ⟨kb, ko + 0, none⟩ = some (.int .i64 (a : Int)) := hkc 0 (by omega)
      have e1 : W.cell? ⟨kb, ko + 1, none⟩ = some (.int .i64 (bb : Int)) := hkc 1 (by omega)
      simp only [Nat.add_zero] at e0
      simp only [List.length_cons, List.length_nil, Nat.zero_add] at c3
      obtain ⟨W1, hW1⟩ : ∃ W1, W.alloc (.cells #[.int .i64 op, .int .i64 n, .string nm, .slice (some ⟨kb, ko, none⟩) (1 + 1) kc] 62) = W1 := ⟨_, rfl⟩
      have hb1 : Below W.heap.size W W1 := by rw [← hW1]; exact (Below.refl _ _).alloc (Nat.le_refl _) _
      have HB1 : Hid (Below W.heap.size W W1) := hb1
      have g0 : ∀ d os, (grow (redrawn W1 d) os).cell? ⟨W.heap.size, 0, none⟩ = some (.int .i64 op) := cell_regrown (by rw [← hW1]; simp)
      have g3 : ∀ d os, (grow (redrawn W1 d) os).cell? ⟨W.heap.size, 3, none⟩ = some (.slice (some ⟨kb, ko, none⟩) 2 kc) := cell_regrown (by rw [← hW1]; simp)
      have f0 := cell_regrown ((hb1.cell (p := ⟨kb, ko, none⟩) hkb).trans e0)
      have f1 := cell_regrown ((hb1.cell (p := ⟨kb, ko + 1, none⟩) hkb).trans e1)
      have cR : Hid (∀ (j : Nat), j < i → ∀ d os, Calls Tryd.prog 25 #[.slice (some ⟨b, o, none⟩) l.length cap, .int .i64 j] (grow (redrawn W1 d) os) fun e w'' => e = .returned (tv (tmA l j)) ∧ ∃ p : Regrown, w'' = grow (redrawn W1 p.d) p.os) := fun j hj d os => Calls.regrown_of (HIH.out j hj (by omega) _ ((HR.out.below HB1.out HB1.out.size).below (below_regrown W1 d os) (below_regrown W1 d os).size))
      have HW1 : Hid (W.alloc (.cells #[.int .i64 op, .int .i64 n, .string nm, .slice (some ⟨kb, ko, none⟩) 2 kc] 62) = W1) := hW1
      have hlta : a < i := by omega
      have hltbb : bb < i := by omega
      clear hW1 hb1 hkc
      go_enter Tryd.func25, Tryd.ntmps25
      go_wp2_with fail
      rw [HW1.out]
      refine wp_region_quiet_below (by kernel_rfl) (by kernel_rfl) ?_
      iterate 17 (go_big_quiet_step ((go_at_call 25; exact cR.out _ (by omega) _ _)))
      refine wpQuiet_nil ?_
      intro _ hw'
      obtain ⟨⟨ds, oss⟩, hw''⟩ := hw'
      subst hw''
      go_wp2_with fail
      go_ret
      exact ⟨rfl, HB1.out.trans ((below_regrown W1 ds oss).mono HB1.out.size)⟩
    · have hkc := hkk c (by simp)
      obtain ⟨c, rfl⟩ : ∃ z : Nat, c = (z : Int) := ⟨c.toNat, by omega⟩
      have hka := hkk a (by simp)
      obtain ⟨a, rfl⟩ : ∃ z : Nat, a = (z : Int) := ⟨a.toNat, by omega⟩
      have hkbb := hkk bb (by simp)
      obtain ⟨bb, rfl⟩ : ∃ z : Nat, bb = (z : Int) := ⟨bb.toNat, by omega⟩
      have hE := L5 h c a bb rfl hkk
      subst h
      rw [hE]
      clear L1 L2 L3 L4 L5 hE
      have sc := st_one (tv_one (tmA l c))
      have qc := tv_cells (tmA l c)
      unfold Value.cells at qc
      have sa := st_one (tv_one (tmA l a))
      have qa := tv_cells (tmA l a)
      unfold Value.cells at qa
      have sbb := st_one (tv_one (tmA l bb))
      have qbb := tv_cells (tmA l bb)
      unfold Value.cells at qbb
      unfold tv
      obtain ⟨ka, kc, rfl, hk1, ⟨hk2, _⟩, hkc⟩ := hI
      unfold maxLen at hk2
      obtain ⟨kb, ko, rfl, hkb, hkc⟩ : ∃ b o, ka = some ⟨b, o, none⟩ ∧ b < W.heap.size ∧ ∀ j, j < 3 → W.cell? ⟨b, o + j, none⟩ = some (.int .i64 (([(c : Int), (a : Int), (bb : Int)] : List Int).getD j 0)) := by
        rcases hkc with h | h
        · cases h
        · exact h
      have e0 : W.cell? ⟨kb, ko + 0, none⟩ = some (.int .i64 (c : Int)) := hkc 0 (by omega)
      have e1 : W.cell? ⟨kb, ko + 1, none⟩ = some (.int .i64 (a : Int)) := hkc 1 (by omega)
      have e2 : W.cell? ⟨kb, ko + 2, none⟩ = some (.int .i64 (bb : Int)) := hkc 2 (by omega)
      simp only [Nat.add_zero] at e0
      simp only [List.length_cons, List.length_nil, Nat.zero_add] at c3
      obtain ⟨W1, hW1⟩ : ∃ W1, W.alloc (.cells #[.int .i64 17, .int .i64 n, .string nm, .slice (some ⟨kb, ko, none⟩) (1 + 1 + 1) kc] 62) = W1 := ⟨_, rfl⟩
      have hb1 : Below W.heap.size W W1 := by rw [← hW1]; exact (Below.refl _ _).alloc (Nat.le_refl _) _
      have HB1 : Hid (Below W.heap.size W W1) := hb1
      have g0 : ∀ d os, (grow (redrawn W1 d) os).cell? ⟨W.heap.size, 0, none⟩ = some (.int .i64 17) := cell_regrown (by rw [← hW1]; simp)
      have g3 : ∀ d os, (grow (redrawn W1 d) os).cell? ⟨W.heap.size, 3, none⟩ = some (.slice (some ⟨kb, ko, none⟩) 3 kc) := cell_regrown (by rw [← hW1]; simp)
      have f0 := cell_regrown ((hb1.cell (p := ⟨kb, ko, none⟩) hkb).trans e0)
      have f1 := cell_regrown ((hb1.cell (p := ⟨kb, ko + 1, none⟩) hkb).trans e1)
      have f2 := cell_regrown ((hb1.cell (p := ⟨kb, ko + 2, none⟩) hkb).trans e2)
      have cR : Hid (∀ (j : Nat), j < i → ∀ d os, Calls Tryd.prog 25 #[.slice (some ⟨b, o, none⟩) l.length cap, .int .i64 j] (grow (redrawn W1 d) os) fun e w'' => e = .returned (tv (tmA l j)) ∧ ∃ p : Regrown, w'' = grow (redrawn W1 p.d) p.os) := fun j hj d os => Calls.regrown_of (HIH.out j hj (by omega) _ ((HR.out.below HB1.out HB1.out.size).below (below_regrown W1 d os) (below_regrown W1 d os).size))
      have HW1 : Hid (W.alloc (.cells #[.int .i64 17, .int .i64 n, .string nm, .slice (some ⟨kb, ko, none⟩) 3 kc] 62) = W1) := hW1
      have hltc : c < i := by omega
      have hlta : a < i := by omega
      have hltbb : bb < i := by omega
      clear hW1 hb1 hkc
      go_enter Tryd.func25, Tryd.ntmps25
      go_wp2_with fail
      rw [HW1.out]
      refine wp_region_quiet_below (by kernel_rfl) (by kernel_rfl) ?_
      iterate 21 (go_big_quiet_step ((go_at_call 25; exact cR.out _ (by omega) _ _)))
      refine wpQuiet_nil ?_
      intro _ hw'
      obtain ⟨⟨ds, oss⟩, hw''⟩ := hw'
      subst hw''
      go_wp2_with fail
      go_ret
      exact ⟨rfl, HB1.out.trans ((below_regrown W1 ds oss).mono HB1.out.size)⟩
end Go.Proofs.YtdcfjopmddaemaaDoor
