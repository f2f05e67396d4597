/-
  What term and Box make of a sound expression.
-/
import Derived.Test.YtiobcipmieefaaaDoorBxOfW
import Derived.Test.YtiobcipmieefaaaDoorExBegW
set_option linter.unusedSimpArgs false
set_option linter.unusedVariables false
namespace Go.Proofs.YtiobcipmieefaaaDoor
open Go.RowKit Go.Lib Go.Sort

set_option maxRecDepth 20000 in
set_option maxHeartbeats 1000000 in
theorem termPart (G N L M kb ko kl kc q z : Nat) (v : Value) (w : World) (hN : N ≤ 64) (hkl : kl ≤ 3) (hL : w.cell? ⟨L, 0, none⟩ = some (.slice (some ⟨G, 0, none⟩) N N)) (hM : w.cell? ⟨M, 3, none⟩ = some (.slice (some ⟨kb, ko, none⟩) kl kc)) (hq : q < kl) (hk : w.cell? ⟨kb, ko + q, none⟩ = some (.int .i64 z)) (hz : z < N) (hv : w.cell? ⟨G, z, none⟩ = some v) :
    Calls Tryd.prog 66 #[.int .i64 q, .pointer (some ⟨L, 0, none⟩), .pointer (some ⟨M, 0, none⟩)] w fun e w' => e = .returned v ∧ Below w.heap.size w w' := by
  have h1 : (q : Int) < (kl : Int) := by omega
  have h2 : (z : Int) < (N : Int) := by omega
  go_enter Tryd.func66, Tryd.ntmps66
  go_wp2_with fail
  go_quiet (fail)
  go_wp2_with fail
  go_ret
  exact ⟨rfl, below_drewN (Below.refl _ _) _⟩

set_option maxRecDepth 20000 in
set_option maxHeartbeats 4000000 in
theorem term_any (l : List Nd) (fr : List Nat) (hs : begL l = some fr) (G i : Nat) (kv : Value) (hi : i < l.length) (w : World) (hI : Ints w w.heap.size kv (l.getD i nd0).kids) (hG : ∀ j, j < i → w.cell? ⟨G, j, none⟩ = some (tv (tmA l j))) (hGl : G < w.heap.size) :
    Calls Tryd.prog 38 #[.agg #[.int .i64 (l.getD i nd0).op, .int .i64 (l.getD i nd0).n, .string (l.getD i nd0).name, kv], .slice (some ⟨G, 0, none⟩) l.length l.length] w fun e w' => e = .returned (tv (tmA l i)) ∧ Below w.heap.size w w' := by
  have hmf : ∀ (fn : Fn) (first cap : Array Value) (w : World), (Instr.makeFunc fn first cap).run Tryd.prog w = .ok (.func fn first cap) w := fun _ _ _ _ => rfl
  have h64 := (begL_some hs).2.1
  have hok := begOk_of (begL_some hs).2.2.1
  have hcs := form_cases (hok.at_ i hi).1
  have hkk := snd_kk hs i hi
  have L1 := @tmA_lit l i hi
  have L2 := @tmA_var l i hi
  have L3 := @tmA_un l i hi
  have L4 := @tmA_bin l i hi
  have L5 := @tmA_ifs l i hi
  have HG : Hid (∀ j, j < i → w.cell? ⟨G, j, none⟩ = some (tv (tmA l j))) := hG
  clear hok hG
  generalize l.getD i nd0 = x at *
  obtain ⟨op, n, nm, kids⟩ := x
  simp only at hI hcs hkk L1 L2 L3 L4 L5 ⊢
  rcases hcs with ⟨h, rfl⟩ | ⟨h, rfl⟩ | ⟨h1, h2, a, rfl⟩ | ⟨h1, h2, a, bb, rfl⟩ | ⟨h, c, a, bb, rfl⟩
  · have hE := L1 h hkk
    subst h
    rw [hE]
    clear L1 L2 L3 L4 L5 hE
    unfold tv
    obtain ⟨ka, kc, rfl, _⟩ := hI
    go_enter Tryd.func38, Tryd.ntmps38
    go_wp2_with fail
    go_ret
    exact ⟨rfl, ((Below.refl _ _).alloc (Nat.le_refl _) _).alloc (by simp) _⟩
  · have hE := L2 h hkk
    subst h
    rw [hE]
    clear L1 L2 L3 L4 L5 hE
    unfold tv
    obtain ⟨ka, kc, rfl, _⟩ := hI
    go_enter Tryd.func38, Tryd.ntmps38
    go_wp2_with fail
    go_ret
    exact ⟨rfl, ((Below.refl _ _).alloc (Nat.le_refl _) _).alloc (by simp) _⟩
  · have hka := hkk a (by simp)
    obtain ⟨a, rfl⟩ : ∃ z : Nat, a = (z : Int) := ⟨a.toNat, by omega⟩
    have hE := L3 h1 h2 a rfl hkk
    have o1 : (op == 1) = false := by simpa using h1
    have o2 : (op == 2) = false := by simpa using h2
    rw [hE]
    clear L1 L2 L3 L4 L5 hE
    have sa := st_one (tv_one (tmA l a))
    have qa := tv_cells (tmA l a)
    unfold Value.cells at qa
    unfold tv
    obtain ⟨ka, kc, rfl, hk1, ⟨hk2, _⟩, hkc⟩ := hI
    unfold maxLen at hk2
    obtain ⟨kb, ko, rfl, hkb, hkc⟩ : ∃ b o, ka = some ⟨b, o, none⟩ ∧ b < w.heap.size ∧ ∀ j, j < 1 → w.cell? ⟨b, o + j, none⟩ = some (.int .i64 (([(a : Int)] : List Int).getD j 0)) := by
      rcases hkc with h | h
      · cases h
      · exact h
    simp only [List.length_cons, List.length_nil, Nat.zero_add]
    obtain ⟨W1, hW1⟩ : ∃ W1, (w.alloc (.cells #[.int .i64 op, .int .i64 n, .string nm, .slice (some ⟨kb, ko, none⟩) 1 kc] 77)).alloc (.cells #[.slice (some ⟨G, 0, none⟩) l.length l.length] 38) = W1 := ⟨_, rfl⟩
    have hb1 : Below w.heap.size w W1 := by rw [← hW1]; exact ((Below.refl _ _).alloc (Nat.le_refl _) _).alloc (by simp) _
    have HB1 : Hid (Below w.heap.size w W1) := hb1
    have x0 : W1.cell? ⟨w.heap.size, 0, none⟩ = some (.int .i64 op) := by rw [← hW1]; simp
    have x3 : W1.cell? ⟨w.heap.size, 3, none⟩ = some (.slice (some ⟨kb, ko, none⟩) 1 kc) := by rw [← hW1]; simp
    have x4 : W1.cell? ⟨w.heap.size + 1, 0, none⟩ = some (.slice (some ⟨G, 0, none⟩) l.length l.length) := by rw [← hW1]; simp
    have HX : Hid (∀ V, Below W1.heap.size W1 V → ∀ (q z : Nat), q < 1 → ([(a : Int)] : List Int).getD q 0 = (z : Int) → z < i → Calls Tryd.prog 66 #[.int .i64 q, .pointer (some ⟨w.heap.size + 1, 0, none⟩), .pointer (some ⟨w.heap.size, 0, none⟩)] V fun e w' => e = .returned (tv (tmA l z)) ∧ Below V.heap.size V w') := fun V hV q z hq hz hzi => by
      have up : ∀ {b o : Nat} {v : Value}, W1.cell? ⟨b, o, none⟩ = some v → V.cell? ⟨b, o, none⟩ = some v := fun {b o v} h => (hV.cell (p := ⟨b, o, none⟩) (World.block_lt_of_cell? _ _ h)).trans h
      have e1 : W1.cell? ⟨kb, ko + q, none⟩ = some (.int .i64 z) := (HB1.out.cell (p := ⟨kb, ko + q, none⟩) hkb).trans ((hkc q hq).trans (by rw [hz]))
      have e2 : W1.cell? ⟨G, z, none⟩ = some (tv (tmA l z)) := (HB1.out.cell (p := ⟨G, z, none⟩) hGl).trans (HG.out z hzi)
      exact termPart G l.length (w.heap.size + 1) w.heap.size kb ko 1 kc q z _ V h64 (by omega) (up x4) (up x3) hq (up e1) (by omega) (up e2)
    have HW1 : Hid ((w.alloc (.cells #[.int .i64 op, .int .i64 n, .string nm, .slice (some ⟨kb, ko, none⟩) 1 kc] 77)).alloc (.cells #[.slice (some ⟨G, 0, none⟩) l.length l.length] 38) = W1) := hW1
    have g0 := cell_regrown x0
    clear hW1 hb1 hkc HG x4
    have c0 : Hid (∀ d os, Calls Tryd.prog 66 #[.int .i64 0, .pointer (some ⟨w.heap.size + 1, 0, none⟩), .pointer (some ⟨w.heap.size, 0, none⟩)] (grow (redrawn W1 d) os) fun e w'' => e = .returned (tv (tmA l a)) ∧ ∃ p : Regrown, w'' = grow (redrawn W1 p.d) p.os) := fun d os => Calls.regrown_of (HX.out _ (below_regrown W1 d os) 0 a (by omega) rfl (by omega))
    go_enter Tryd.func38, Tryd.ntmps38
    go_wp2_with fail
    rw [HW1.out]
    refine wp_region_quiet_below (by kernel_rfl) (by kernel_rfl) ?_
    iterate 7 (go_big_quiet_step ((first | (go_at_call_of 66 (Value.int .i64 0); exact c0.out _ _))))
    refine wpQuiet_nil ?_
    intro _ hw'
    obtain ⟨⟨ds, oss⟩, hw''⟩ := hw'
    subst hw''
    go_wp2_with fail
    go_ret
    exact ⟨rfl, HB1.out.trans ((below_regrown W1 ds oss).mono HB1.out.size)⟩
  · have hka := hkk a (by simp)
    obtain ⟨a, rfl⟩ : ∃ z : Nat, a = (z : Int) := ⟨a.toNat, by omega⟩
    have hkbb := hkk bb (by simp)
    obtain ⟨bb, rfl⟩ : ∃ z : Nat, bb = (z : Int) := ⟨bb.toNat, by omega⟩
    have hE := L4 h1 h2 a bb rfl hkk
    have o1 : (op == 1) = false := by simpa using h1
    have o2 : (op == 2) = false := by simpa using h2
    rw [hE]
    clear L1 L2 L3 L4 L5 hE
    have sa := st_one (tv_one (tmA l a))
    have qa := tv_cells (tmA l a)
    unfold Value.cells at qa
    have sbb := st_one (tv_one (tmA l bb))
    have qbb := tv_cells (tmA l bb)
    unfold Value.cells at qbb
    unfold tv
    obtain ⟨ka, kc, rfl, hk1, ⟨hk2, _⟩, hkc⟩ := hI
    unfold maxLen at hk2
    obtain ⟨kb, ko, rfl, hkb, hkc⟩ : ∃ b o, ka = some ⟨b, o, none⟩ ∧ b < w.heap.size ∧ ∀ j, j < 2 → w.cell? ⟨b, o + j, none⟩ = some (.int .i64 (([(a : Int), (bb : Int)] : List Int).getD j 0)) := by
      rcases hkc with h | h
      · cases h
      · exact h
    simp only [List.length_cons, List.length_nil, Nat.zero_add]
    obtain ⟨W1, hW1⟩ : ∃ W1, (w.alloc (.cells #[.int .i64 op, .int .i64 n, .string nm, .slice (some ⟨kb, ko, none⟩) 2 kc] 77)).alloc (.cells #[.slice (some ⟨G, 0, none⟩) l.length l.length] 38) = W1 := ⟨_, rfl⟩
    have hb1 : Below w.heap.size w W1 := by rw [← hW1]; exact ((Below.refl _ _).alloc (Nat.le_refl _) _).alloc (by simp) _
    have HB1 : Hid (Below w.heap.size w W1) := hb1
    have x0 : W1.cell? ⟨w.heap.size, 0, none⟩ = some (.int .i64 op) := by rw [← hW1]; simp
    have x3 : W1.cell? ⟨w.heap.size, 3, none⟩ = some (.slice (some ⟨kb, ko, none⟩) 2 kc) := by rw [← hW1]; simp
    have x4 : W1.cell? ⟨w.heap.size + 1, 0, none⟩ = some (.slice (some ⟨G, 0, none⟩) l.length l.length) := by rw [← hW1]; simp
    have HX : Hid (∀ V, Below W1.heap.size W1 V → ∀ (q z : Nat), q < 2 → ([(a : Int), (bb : Int)] : List Int).getD q 0 = (z : Int) → z < i → Calls Tryd.prog 66 #[.int .i64 q, .pointer (some ⟨w.heap.size + 1, 0, none⟩), .pointer (some ⟨w.heap.size, 0, none⟩)] V fun e w' => e = .returned (tv (tmA l z)) ∧ Below V.heap.size V w') := fun V hV q z hq hz hzi => by
      have up : ∀ {b o : Nat} {v : Value}, W1.cell? ⟨b, o, none⟩ = some v → V.cell? ⟨b, o, none⟩ = some v := fun {b o v} h => (hV.cell (p := ⟨b, o, none⟩) (World.block_lt_of_cell? _ _ h)).trans h
      have e1 : W1.cell? ⟨kb, ko + q, none⟩ = some (.int .i64 z) := (HB1.out.cell (p := ⟨kb, ko + q, none⟩) hkb).trans ((hkc q hq).trans (by rw [hz]))
      have e2 : W1.cell? ⟨G, z, none⟩ = some (tv (tmA l z)) := (HB1.out.cell (p := ⟨G, z, none⟩) hGl).trans (HG.out z hzi)
      exact termPart G l.length (w.heap.size + 1) w.heap.size kb ko 2 kc q z _ V h64 (by omega) (up x4) (up x3) hq (up e1) (by omega) (up e2)
    have HW1 : Hid ((w.alloc (.cells #[.int .i64 op, .int .i64 n, .string nm, .slice (some ⟨kb, ko, none⟩) 2 kc] 77)).alloc (.cells #[.slice (some ⟨G, 0, none⟩) l.length l.length] 38) = W1) := hW1
    have g0 := cell_regrown x0
    clear hW1 hb1 hkc HG x4
    have c0 : Hid (∀ d os, Calls Tryd.prog 66 #[.int .i64 0, .pointer (some ⟨w.heap.size + 1, 0, none⟩), .pointer (some ⟨w.heap.size, 0, none⟩)] (grow (redrawn W1 d) os) fun e w'' => e = .returned (tv (tmA l a)) ∧ ∃ p : Regrown, w'' = grow (redrawn W1 p.d) p.os) := fun d os => Calls.regrown_of (HX.out _ (below_regrown W1 d os) 0 a (by omega) rfl (by omega))
    have c1 : Hid (∀ d os, Calls Tryd.prog 66 #[.int .i64 1, .pointer (some ⟨w.heap.size + 1, 0, none⟩), .pointer (some ⟨w.heap.size, 0, none⟩)] (grow (redrawn W1 d) os) fun e w'' => e = .returned (tv (tmA l bb)) ∧ ∃ p : Regrown, w'' = grow (redrawn W1 p.d) p.os) := fun d os => Calls.regrown_of (HX.out _ (below_regrown W1 d os) 1 bb (by omega) rfl (by omega))
    go_enter Tryd.func38, Tryd.ntmps38
    go_wp2_with fail
    rw [HW1.out]
    refine wp_region_quiet_below (by kernel_rfl) (by kernel_rfl) ?_
    iterate 9 (go_big_quiet_step ((first | (go_at_call_of 66 (Value.int .i64 0); exact c0.out _ _) | (go_at_call_of 66 (Value.int .i64 1); exact c1.out _ _))))
    refine wpQuiet_nil ?_
    intro _ hw'
    obtain ⟨⟨ds, oss⟩, hw''⟩ := hw'
    subst hw''
    go_wp2_with fail
    go_ret
    exact ⟨rfl, HB1.out.trans ((below_regrown W1 ds oss).mono HB1.out.size)⟩
  · have hkc := hkk c (by simp)
    obtain ⟨c, rfl⟩ : ∃ z : Nat, c = (z : Int) := ⟨c.toNat, by omega⟩
    have hka := hkk a (by simp)
    obtain ⟨a, rfl⟩ : ∃ z : Nat, a = (z : Int) := ⟨a.toNat, by omega⟩
    have hkbb := hkk bb (by simp)
    obtain ⟨bb, rfl⟩ : ∃ z : Nat, bb = (z : Int) := ⟨bb.toNat, by omega⟩
    have hE := L5 h c a bb rfl hkk
    subst h
    rw [hE]
    clear L1 L2 L3 L4 L5 hE
    have sc := st_one (tv_one (tmA l c))
    have qc := tv_cells (tmA l c)
    unfold Value.cells at qc
    have sa := st_one (tv_one (tmA l a))
    have qa := tv_cells (tmA l a)
    unfold Value.cells at qa
    have sbb := st_one (tv_one (tmA l bb))
    have qbb := tv_cells (tmA l bb)
    unfold Value.cells at qbb
    unfold tv
    obtain ⟨ka, kc, rfl, hk1, ⟨hk2, _⟩, hkc⟩ := hI
    unfold maxLen at hk2
    obtain ⟨kb, ko, rfl, hkb, hkc⟩ : ∃ b o, ka = some ⟨b, o, none⟩ ∧ b < w.heap.size ∧ ∀ j, j < 3 → w.cell? ⟨b, o + j, none⟩ = some (.int .i64 (([(c : Int), (a : Int), (bb : Int)] : List Int).getD j 0)) := by
      rcases hkc with h | h
      · cases h
      · exact h
    simp only [List.length_cons, List.length_nil, Nat.zero_add]
    obtain ⟨W1, hW1⟩ : ∃ W1, (w.alloc (.cells #[.int .i64 17, .int .i64 n, .string nm, .slice (some ⟨kb, ko, none⟩) 3 kc] 77)).alloc (.cells #[.slice (some ⟨G, 0, none⟩) l.length l.length] 38) = W1 := ⟨_, rfl⟩
    have hb1 : Below w.heap.size w W1 := by rw [← hW1]; exact ((Below.refl _ _).alloc (Nat.le_refl _) _).alloc (by simp) _
    have HB1 : Hid (Below w.heap.size w W1) := hb1
    have x0 : W1.cell? ⟨w.heap.size, 0, none⟩ = some (.int .i64 17) := by rw [← hW1]; simp
    have x3 : W1.cell? ⟨w.heap.size, 3, none⟩ = some (.slice (some ⟨kb, ko, none⟩) 3 kc) := by rw [← hW1]; simp
    have x4 : W1.cell? ⟨w.heap.size + 1, 0, none⟩ = some (.slice (some ⟨G, 0, none⟩) l.length l.length) := by rw [← hW1]; simp
    have HX : Hid (∀ V, Below W1.heap.size W1 V → ∀ (q z : Nat), q < 3 → ([(c : Int), (a : Int), (bb : Int)] : List Int).getD q 0 = (z : Int) → z < i → Calls Tryd.prog 66 #[.int .i64 q, .pointer (some ⟨w.heap.size + 1, 0, none⟩), .pointer (some ⟨w.heap.size, 0, none⟩)] V fun e w' => e = .returned (tv (tmA l z)) ∧ Below V.heap.size V w') := fun V hV q z hq hz hzi => by
      have up : ∀ {b o : Nat} {v : Value}, W1.cell? ⟨b, o, none⟩ = some v → V.cell? ⟨b, o, none⟩ = some v := fun {b o v} h => (hV.cell (p := ⟨b, o, none⟩) (World.block_lt_of_cell? _ _ h)).trans h
      have e1 : W1.cell? ⟨kb, ko + q, none⟩ = some (.int .i64 z) := (HB1.out.cell (p := ⟨kb, ko + q, none⟩) hkb).trans ((hkc q hq).trans (by rw [hz]))
      have e2 : W1.cell? ⟨G, z, none⟩ = some (tv (tmA l z)) := (HB1.out.cell (p := ⟨G, z, none⟩) hGl).trans (HG.out z hzi)
      exact termPart G l.length (w.heap.size + 1) w.heap.size kb ko 3 kc q z _ V h64 (by omega) (up x4) (up x3) hq (up e1) (by omega) (up e2)
    have HW1 : Hid ((w.alloc (.cells #[.int .i64 17, .int .i64 n, .string nm, .slice (some ⟨kb, ko, none⟩) 3 kc] 77)).alloc (.cells #[.slice (some ⟨G, 0, none⟩) l.length l.length] 38) = W1) := hW1
    clear hW1 hb1 hkc HG x4
    go_enter Tryd.func38, Tryd.ntmps38
    go_wp2_with fail
    rw [HW1.out]
    refine (HX.out _ (Below.refl _ _) 0 c (by omega) rfl (by omega)).mono ?_
    rintro e y0 ⟨rfl, hy0⟩
    have bw0 : Below W1.heap.size W1 y0 := hy0
    go_wp2_with fail
    refine (HX.out _ bw0 1 a (by omega) rfl (by omega)).mono ?_
    rintro e y1 ⟨rfl, hy1⟩
    have bw1 : Below W1.heap.size W1 y1 := bw0.trans (hy1.mono bw0.size)
    go_wp2_with fail
    refine (HX.out _ bw1 2 bb (by omega) rfl (by omega)).mono ?_
    rintro e y2 ⟨rfl, hy2⟩
    have bw2 : Below W1.heap.size W1 y2 := bw1.trans (hy2.mono bw1.size)
    go_wp2_with fail
    go_ret
    exact ⟨rfl, HB1.out.trans (bw2.mono HB1.out.size)⟩
end Go.Proofs.YtiobcipmieefaaaDoor
