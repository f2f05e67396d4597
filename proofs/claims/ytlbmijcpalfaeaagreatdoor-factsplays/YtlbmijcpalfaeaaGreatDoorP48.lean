/-
  ArW, SwPure.
-/
import Derived.Test.YtlbmijcpalfaeaaGreatDoorP18
import Derived.Test.YtlbmijcpalfaeaaGreatDoorP47
set_option linter.unusedSimpArgs false
set_option linter.unusedVariables false
namespace Go.Proofs.YtlbmijcpalfaeaaGreatDoor
open Go.RowKit Go.Lib

theorem retI {k : IntKind} {a b : Int} (h : a = b) : Ending.returned (.int k a) = .returned (.int k b) := by rw [h]
theorem retII {k l : IntKind} {a b c d : Int} (h : a = c) (h' : b = d) : Ending.returned (.tuple #[.int k a, .int l b]) = .returned (.tuple #[.int k c, .int l d]) := by rw [h, h']

theorem turned_any (op a : Int) (w : World) :
    Calls Tryz.prog 53 #[.int .i64 op, .int .i64 a] w fun e w' => e = .returned (.int .i64 (ap1 op a)) ∧ w' = w := by
  go_enter Tryz.func53, Tryz.ntmps53
  go_wp2
  all_goals
    go_ret
    simp only [beq_iff_eq, beq_eq_false_iff_ne, ne_eq] at *
    exact ⟨retI (by simp [ap1, *]), by first | rfl | trivial⟩

theorem wrapped_any (op a b : Int) (w : World) (h : op = 5 ∨ op = 6 ∨ op = 7) :
    Calls Tryz.prog 74 #[.int .i64 op, .int .i64 a, .int .i64 b] w fun e w' => e = .returned (.int .i64 (ap2 op a b)) ∧ w' = w := by
  rcases h with rfl | rfl | rfl
  all_goals
    go_enter Tryz.func74, Tryz.ntmps74
    go_wp2
    go_ret
    exact ⟨retI (by simp [ap2]), by first | rfl | trivial⟩

theorem divided_any (op a b : Int) (w : World) (h : op = 8 ∨ op = 9) (hb : b ≠ 0) :
    Calls Tryz.prog 75 #[.int .i64 op, .int .i64 a, .int .i64 b] w fun e w' => e = .returned (.int .i64 (ap2 op a b)) ∧ w' = w := by
  rcases h with rfl | rfl
  all_goals
    go_enter Tryz.func75, Tryz.ntmps75
    go_wp2
    go_ret
    exact ⟨retI (by simp [ap2]), by first | rfl | trivial⟩

theorem combined_any (op a b : Int) (w : World) (h : op = 10 ∨ op = 11 ∨ op = 12) :
    Calls Tryz.prog 76 #[.int .i64 op, .int .i64 a, .int .i64 b] w fun e w' => e = .returned (.int .i64 (ap2 op a b)) ∧ w' = w := by
  rcases h with rfl | rfl | rfl
  all_goals
    go_enter Tryz.func76, Tryz.ntmps76
    go_wp2
    go_ret
    exact ⟨retI (by simp [ap2]), by first | rfl | trivial⟩

theorem shl_run (a k : Int) (h0 : 0 ≤ k) (h1 : k < 64) : Op.shift .shl .i64 a .i64 k = pure (.int .i64 (wrap64 (a * 2 ^ k.toNat))) := by
  have e : min k.toNat 64 = k.toNat := by omega
  simp only [Op.shift, IntKind.bits, e]
  rw [if_neg (by omega), IntWalk.i64_left]
theorem shr_run (a k : Int) (h0 : 0 ≤ k) (h1 : k < 64) : Op.shift .shr .i64 a .i64 k = pure (.int .i64 (a / 2 ^ k.toNat)) := by
  have e : min k.toNat 64 = k.toNat := by omega
  simp only [Op.shift, IntKind.bits, e]
  rw [if_neg (by omega), Int.fdiv_eq_ediv_of_nonneg _ (Int.le_of_lt (Int.pow_pos (by decide)))]

theorem shifted_any (op a b : Int) (w : World) (h : op = 13 ∨ op = 14) :
    Calls Tryz.prog 77 #[.int .i64 op, .int .i64 a, .int .i64 b] w fun e w' => e = .returned (.int .i64 (ap2 op a b)) ∧ w' = w := by
  have hby := by6_in b
  have h13 : ap2 13 a b = wrap64 (a * 2 ^ (by6 b).toNat) := by simp [ap2]
  have h14 : ap2 14 a b = a / 2 ^ (by6 b).toNat := by simp [ap2]
  have hl := shl_run a (by6 b) hby.1 hby.2
  have hr := shr_run a (by6 b) hby.1 hby.2
  rw [← h13] at hl
  rw [← h14] at hr
  obtain ⟨k, hk⟩ : ∃ k, bits .and .i64 b 63 = k := ⟨_, rfl⟩
  have e : by6 b = k := hk
  rw [e] at hl hr
  clear hby h13 h14 e
  rcases h with rfl | rfl
  all_goals
    go_enter Tryz.func77, Tryz.ntmps77
    go_wp2
    go_ret
    exact ⟨retI rfl, by first | rfl | trivial⟩

theorem compared_any (op a b : Int) (w : World) (h : op = 15 ∨ op = 16) :
    Calls Tryz.prog 78 #[.int .i64 op, .int .i64 a, .int .i64 b] w fun e w' => e = .returned (.int .i64 (ap2 op a b)) ∧ w' = w := by
  rcases h with rfl | rfl
  all_goals
    go_enter Tryz.func78, Tryz.ntmps78
    go_wp2
    all_goals
      go_ret
      simp only [beq_iff_eq, beq_eq_false_iff_ne, ne_eq] at *
      exact ⟨retI (by simp_all [ap2]), by first | rfl | trivial⟩

theorem chosen_any (c a b : Int) (w : World) :
    Calls Tryz.prog 54 #[.int .i64 c, .int .i64 a, .int .i64 b] w fun e w' => e = .returned (.int .i64 (if c = 0 then b else a)) ∧ w' = w := by
  obtain ⟨r, hr⟩ : ∃ r, (if c = 0 then b else a) = r := ⟨_, rfl⟩
  have HR : Hid ((if c = 0 then b else a) = r) := hr
  rw [hr]
  clear hr
  go_enter Tryz.func54, Tryz.ntmps54
  go_wp2
  all_goals
    go_ret
    exact ⟨retI (by rw [← HR.out]; simp_all), by first | rfl | trivial⟩
/-! ### The groups -/
def grps : List Int := [0, 0, 0, 1, 1, 2, 2, 2, 3, 3, 4, 4, 4, 5, 5, 6, 6, 7]
def GrpCells (w : World) : Prop := ∀ k, k < 18 → w.cell? ⟨0, k, none⟩ = some (.int .i64 (grps.getD k 0))
theorem GrpCells.below {w w' : World} (h : GrpCells w) (hb : Below w.heap.size w w') : GrpCells w' := by
  intro k hk
  have h0 := h k hk
  exact (hb.cell (World.block_lt_of_cell? w _ h0)).trans h0

theorem ofTwo_any (k : Nat) (a b : Int) (w : World) (hG : GrpCells w) (h : 5 ≤ k ∧ k ≤ 16) :
    Calls Tryz.prog 55 #[.int .i64 (k : Int), .int .i64 a, .int .i64 b] w fun e w' => e = .returned (.tuple #[.int .i64 (apR k [a, b]).1, .int .i64 (apR k [a, b]).2]) ∧ w' = w := by
  have hk : (5 : Int) ≤ k ∧ (k : Int) ≤ 16 := by omega
  have hc := hG k (by omega)
  obtain ⟨r, hr⟩ : ∃ r, apR k [a, b] = r := ⟨_, rfl⟩
  have HR : Hid (apR k [a, b] = r) := hr
  rw [hr]
  have HA : Hid (¬ ((k = 8 ∨ k = 9) ∧ b = 0) → r = (ap2 k a b, 0)) := fun hn => by
    rw [← hr]; simp only [apR]; rw [if_pos hk, if_neg (by omega)]
  have HZ : Hid ((k = 8 ∨ k = 9) → b = 0 → r = (0, 12)) := fun h8 hb => by
    rw [← hr]; simp only [apR]; rw [if_pos hk, if_pos ⟨by omega, hb⟩]
  clear hr HR hG
  have cases : (grps.getD k 0 = 2 ∧ ((k : Int) = 5 ∨ (k : Int) = 6 ∨ (k : Int) = 7)) ∨ (grps.getD k 0 = 3 ∧ ((k : Int) = 8 ∨ (k : Int) = 9)) ∨ (grps.getD k 0 = 4 ∧ ((k : Int) = 10 ∨ (k : Int) = 11 ∨ (k : Int) = 12)) ∨ (grps.getD k 0 = 5 ∧ ((k : Int) = 13 ∨ (k : Int) = 14)) ∨ (grps.getD k 0 = 6 ∧ ((k : Int) = 15 ∨ (k : Int) = 16)) := by
    obtain ⟨h1, h2⟩ := h
    have : k = 5 ∨ k = 6 ∨ k = 7 ∨ k = 8 ∨ k = 9 ∨ k = 10 ∨ k = 11 ∨ k = 12 ∨ k = 13 ∨ k = 14 ∨ k = 15 ∨ k = 16 := by omega
    rcases this with rfl | rfl | rfl | rfl | rfl | rfl | rfl | rfl | rfl | rfl | rfl | rfl <;> simp [grps]
  generalize grps.getD k 0 = g at *
  rcases cases with ⟨rfl, ho⟩ | ⟨rfl, ho⟩ | ⟨rfl, ho⟩ | ⟨rfl, ho⟩ | ⟨rfl, ho⟩
  · have cw : Hid (∀ W, Calls Tryz.prog 74 #[.int .i64 (k : Int), .int .i64 a, .int .i64 b] W fun e w' => e = .returned (.int .i64 (ap2 k a b)) ∧ w' = W) := fun W => wrapped_any k a b W ho
    have HO : Hid (¬ ((k = 8 ∨ k = 9) ∧ b = 0)) := by show ¬ _; omega
    clear ho
    go_enter Tryz.func55, Tryz.ntmps55
    go_wp2_with (go_at_call 74; refine (cw.out _).mono ?_; rintro e w2 ⟨rfl, hw⟩; obtain rfl := hw.symm)
    go_ret2
    exact ⟨retII (by rw [HA.out HO.out]) (by rw [HA.out HO.out]), by first | rfl | trivial⟩
  · by_cases hb : b = 0
    · have HO : Hid (k = 8 ∨ k = 9) := by show _ ∨ _; omega
      have H0 : Hid (r = (0, 12)) := HZ.out HO.out hb
      subst hb
      clear ho HZ
      go_enter Tryz.func55, Tryz.ntmps55
      go_wp2
      go_ret2
      exact ⟨retII (by rw [H0.out]) (by rw [H0.out]), by first | rfl | trivial⟩
    · have cw : Hid (∀ W, Calls Tryz.prog 75 #[.int .i64 (k : Int), .int .i64 a, .int .i64 b] W fun e w' => e = .returned (.int .i64 (ap2 k a b)) ∧ w' = W) := fun W => divided_any k a b W ho hb
      have HO : Hid (¬ ((k = 8 ∨ k = 9) ∧ b = 0)) := by show ¬ _; omega
      have hb' : (b == 0) = false := by simpa using hb
      clear ho hb
      go_enter Tryz.func55, Tryz.ntmps55
      go_wp2_with (go_at_call 75; refine (cw.out _).mono ?_; rintro e w2 ⟨rfl, hw⟩; obtain rfl := hw.symm)
      go_ret2
      exact ⟨retII (by rw [HA.out HO.out]) (by rw [HA.out HO.out]), by first | rfl | trivial⟩
  · have cw : Hid (∀ W, Calls Tryz.prog 76 #[.int .i64 (k : Int), .int .i64 a, .int .i64 b] W fun e w' => e = .returned (.int .i64 (ap2 k a b)) ∧ w' = W) := fun W => combined_any k a b W ho
    have HO : Hid (¬ ((k = 8 ∨ k = 9) ∧ b = 0)) := by show ¬ _; omega
    clear ho
    go_enter Tryz.func55, Tryz.ntmps55
    go_wp2_with (go_at_call 76; refine (cw.out _).mono ?_; rintro e w2 ⟨rfl, hw⟩; obtain rfl := hw.symm)
    go_ret2
    exact ⟨retII (by rw [HA.out HO.out]) (by rw [HA.out HO.out]), by first | rfl | trivial⟩
  · have cw : Hid (∀ W, Calls Tryz.prog 77 #[.int .i64 (k : Int), .int .i64 a, .int .i64 b] W fun e w' => e = .returned (.int .i64 (ap2 k a b)) ∧ w' = W) := fun W => shifted_any k a b W ho
    have HO : Hid (¬ ((k = 8 ∨ k = 9) ∧ b = 0)) := by show ¬ _; omega
    clear ho
    go_enter Tryz.func55, Tryz.ntmps55
    go_wp2_with (go_at_call 77; refine (cw.out _).mono ?_; rintro e w2 ⟨rfl, hw⟩; obtain rfl := hw.symm)
    go_ret2
    exact ⟨retII (by rw [HA.out HO.out]) (by rw [HA.out HO.out]), by first | rfl | trivial⟩
  · have cw : Hid (∀ W, Calls Tryz.prog 78 #[.int .i64 (k : Int), .int .i64 a, .int .i64 b] W fun e w' => e = .returned (.int .i64 (ap2 k a b)) ∧ w' = W) := fun W => compared_any k a b W ho
    have HO : Hid (¬ ((k = 8 ∨ k = 9) ∧ b = 0)) := by show ¬ _; omega
    clear ho
    go_enter Tryz.func55, Tryz.ntmps55
    go_wp2_with (go_at_call 78; refine (cw.out _).mono ?_; rintro e w2 ⟨rfl, hw⟩; obtain rfl := hw.symm)
    go_ret2
    exact ⟨retII (by rw [HA.out HO.out]) (by rw [HA.out HO.out]), by first | rfl | trivial⟩

/-! ### Apply -/
theorem Calls.same {P : Program} {f : FuncId} {args : Array Value} {w : World} {v : Value} (h : Calls P f args w fun e w' => e = .returned v ∧ w' = w) : Calls P f args w fun e w' => e = .returned v ∧ ∃ m, w' = w.drewN m :=
  h.mono fun _ _ ⟨he, hw⟩ => ⟨he, 0, by rw [hw]; rfl⟩
theorem GrpCells.drew {w : World} (h : GrpCells w) (m : Nat) : GrpCells (w.drewN m) := fun k hk => h k hk
/-- A list of numbers, read. -/
def Ags (w : World) (v : Value) (l : List Int) : Prop :=
  ∃ (a : Option Addr) (c : Nat), v = .slice a l.length c ∧ (l = [] ∨ ∃ b o, a = some ⟨b, o, none⟩ ∧ ∀ i x, l[i]? = some x → w.cell? ⟨b, o + i, none⟩ = some (.int .i64 x))

def aaK (op : Int) : Int := if op = 3 ∨ op = 4 then 1 else if 5 ≤ op ∧ op ≤ 16 then 2 else if op = 17 then 3 else 0
def aaE (op : Int) : Int := if op < 1 ∨ 17 < op then 2 else 0
theorem aarity_any (op : Int) (w : World) :
    Calls Tryz.prog 51 #[.int .i64 op] w fun e w' => e = .returned (.tuple #[.int .i64 (aaK op), .int .i64 (aaE op)]) ∧ w' = w := by
  go_enter Tryz.func51, Tryz.ntmps51
  go_wp2
  all_goals
    go_ret2
    simp only [beq_iff_eq, beq_eq_false_iff_ne, ne_eq] at *
    exact ⟨retII (by unfold aaK; (repeat' split) <;> omega) (by unfold aaE; split <;> omega), by first | rfl | trivial⟩

theorem apply_bad (op : Int) (v : Value) (l : List Int) (w : World) (hA : Ags w v l) (h : op < 1 ∨ 17 < op) :
    Calls Tryz.prog 35 #[.int .i64 op, v] w fun e w' => e = .returned (.tuple #[.int .i64 0, .int .i64 2]) ∧ w' = w := by
  have ca : Hid (∀ W, Calls Tryz.prog 51 #[.int .i64 op] W fun e w' => e = .returned (.tuple #[.int .i64 (aaK op), .int .i64 2]) ∧ w' = W) := fun W => by
    have := aarity_any op W
    rw [show aaE op = 2 by unfold aaE; rw [if_pos h] ] at this
    exact this
  obtain ⟨a, c, rfl, _⟩ := hA
  clear h
  go_enter Tryz.func35, Tryz.ntmps35
  go_wp2_with (go_at_call 51; refine (ca.out _).mono ?_; rintro e w2 ⟨rfl, hw⟩; obtain rfl := hw.symm)
  go_ret2
  exact ⟨rfl, by first | rfl | trivial⟩

theorem apply_leaf (k : Nat) (v : Value) (l : List Int) (w : World) (hG : GrpCells w) (hA : Ags w v l) (h : k = 1 ∨ k = 2) :
    Calls Tryz.prog 35 #[.int .i64 (k : Int), v] w fun e w' => e = .returned (.tuple #[.int .i64 0, .int .i64 2]) ∧ w' = w := by
  have hc := hG k (by omega)
  have hg : grps.getD k 0 = 0 := by rcases h with rfl | rfl <;> rfl
  rw [hg] at hc
  have ca : Hid (∀ W, Calls Tryz.prog 51 #[.int .i64 (k : Int)] W fun e w' => e = .returned (.tuple #[.int .i64 (aaK k), .int .i64 0]) ∧ w' = W) := fun W => by
    have := aarity_any k W
    rw [show aaE (k : Int) = 0 by unfold aaE; rw [if_neg (by omega)] ] at this
    exact this
  have hk : k < 18 := by omega
  obtain ⟨a, c, rfl, _⟩ := hA
  clear h hg hG
  go_enter Tryz.func35, Tryz.ntmps35
  go_wp2_with (go_at_call 51; refine (ca.out _).mono ?_; rintro e w2 ⟨rfl, hw⟩; obtain rfl := hw.symm)
  go_ret2
  exact ⟨rfl, by first | rfl | trivial⟩

theorem apply_many (k : Nat) (v : Value) (l : List Int) (w : World) (hG : GrpCells w) (hA : Ags w v l) (h : 3 ≤ k ∧ k ≤ 17) (hn : (l.length : Int) ≠ aaK k) :
    Calls Tryz.prog 35 #[.int .i64 (k : Int), v] w fun e w' => e = .returned (.tuple #[.int .i64 0, .int .i64 2]) ∧ w' = w := by
  have hc := hG k (by omega)
  have hg : (grps.getD k 0 == 0) = false := by
    have : k = 3 ∨ k = 4 ∨ k = 5 ∨ k = 6 ∨ k = 7 ∨ k = 8 ∨ k = 9 ∨ k = 10 ∨ k = 11 ∨ k = 12 ∨ k = 13 ∨ k = 14 ∨ k = 15 ∨ k = 16 ∨ k = 17 := by omega
    rcases this with rfl | rfl | rfl | rfl | rfl | rfl | rfl | rfl | rfl | rfl | rfl | rfl | rfl | rfl | rfl <;> rfl
  have ca : Hid (∀ W, Calls Tryz.prog 51 #[.int .i64 (k : Int)] W fun e w' => e = .returned (.tuple #[.int .i64 (aaK k), .int .i64 0]) ∧ w' = W) := fun W => by
    have := aarity_any k W
    rw [show aaE (k : Int) = 0 by unfold aaE; rw [if_neg (by omega)] ] at this
    exact this
  have hk : k < 18 := by omega
  generalize grps.getD k 0 = g at *
  generalize aaK (k : Int) = m at *
  have hne : ((l.length : Int) != m) = true := by simpa using hn
  obtain ⟨a, c, rfl, _⟩ := hA
  generalize l.length = N at *
  clear h hG hn
  go_enter Tryz.func35, Tryz.ntmps35
  go_wp2_with (go_at_call 51; refine (ca.out _).mono ?_; rintro e w2 ⟨rfl, hw⟩; obtain rfl := hw.symm)
  go_ret2
  exact ⟨rfl, by first | rfl | trivial⟩

theorem apply_one (k : Nat) (v : Value) (x : Int) (w : World) (hG : GrpCells w) (hA : Ags w v [x]) (h : k = 3 ∨ k = 4) :
    Calls Tryz.prog 35 #[.int .i64 (k : Int), v] w fun e w' => e = .returned (.tuple #[.int .i64 (ap1 k x), .int .i64 0]) ∧ w' = w := by
  have hc := hG k (by omega)
  have hg : grps.getD k 0 = 1 := by rcases h with rfl | rfl <;> rfl
  rw [hg] at hc
  have ca : Hid (∀ W, Calls Tryz.prog 51 #[.int .i64 (k : Int)] W fun e w' => e = .returned (.tuple #[.int .i64 1, .int .i64 0]) ∧ w' = W) := fun W => by
    have := aarity_any k W
    rw [show aaE (k : Int) = 0 by unfold aaE; rw [if_neg (by omega)], show aaK (k : Int) = 1 by unfold aaK; rw [if_pos (by omega)] ] at this
    exact this
  have ct : Hid (∀ W, Calls Tryz.prog 53 #[.int .i64 (k : Int), .int .i64 x] W fun e w' => e = .returned (.int .i64 (ap1 k x)) ∧ w' = W) := fun W => turned_any k x W
  have hk : k < 18 := by omega
  obtain ⟨a, c, rfl, hx⟩ := hA
  obtain hx | ⟨b, o, rfl, hx⟩ := hx
  · simp at hx
  have h0 := hx 0 x rfl
  rw [Nat.add_zero] at h0
  simp only [List.length_cons, List.length_nil, Nat.zero_add]
  generalize ap1 k x = r at *
  clear h hg hG hx
  go_enter Tryz.func35, Tryz.ntmps35
  go_wp2_with (first | (go_at_call 51; refine (ca.out _).mono ?_; rintro e w2 ⟨rfl, hw⟩; obtain rfl := hw.symm) | (go_at_call 53; refine (ct.out _).mono ?_; rintro e w3 ⟨rfl, hw⟩; obtain rfl := hw.symm))
  go_ret2
  exact ⟨rfl, by first | rfl | trivial⟩

theorem apply_three (v : Value) (x y z : Int) (w : World) (hG : GrpCells w) (hA : Ags w v [x, y, z]) :
    Calls Tryz.prog 35 #[.int .i64 17, v] w fun e w' => e = .returned (.tuple #[.int .i64 (if x = 0 then z else y), .int .i64 0]) ∧ ∃ m, w' = w.drewN m := by
  have hc := hG 17 (by omega)
  have hg : grps.getD 17 0 = 7 := rfl
  rw [hg] at hc
  have ca : Hid (∀ W, Calls Tryz.prog 51 #[.int .i64 17] W fun e w' => e = .returned (.tuple #[.int .i64 3, .int .i64 0]) ∧ w' = W) := fun W => aarity_any 17 W
  obtain ⟨r, hr⟩ : ∃ r, (if x = 0 then z else y) = r := ⟨_, rfl⟩
  have ct : Hid (∀ W, Calls Tryz.prog 54 #[.int .i64 x, .int .i64 y, .int .i64 z] W fun e w' => e = .returned (.int .i64 r) ∧ w' = W) := fun W => by rw [← hr]; exact chosen_any x y z W
  rw [hr]
  obtain ⟨a, c, rfl, hx⟩ := hA
  obtain hx | ⟨b, o, rfl, hx⟩ := hx
  · simp at hx
  have h0 := hx 0 x rfl
  have h1 := hx 1 y rfl
  have h2 := hx 2 z rfl
  rw [Nat.add_zero] at h0
  simp only [List.length_cons, List.length_nil, Nat.zero_add]
  clear hg hG hx hr
  go_enter Tryz.func35, Tryz.ntmps35
  go_wp2_with (go_at_call 51; refine (ca.out _).mono ?_; rintro e w2 ⟨rfl, hw⟩; obtain rfl := hw.symm)
  go_quiet ((go_at_call 54; exact Calls.quiet_of (Calls.same (ct.out _))))
  go_wp2
  go_ret2
  exact ⟨rfl, _, rfl⟩

theorem apply_two (k : Nat) (v : Value) (x y : Int) (w : World) (hG : GrpCells w) (hA : Ags w v [x, y]) (h : 5 ≤ k ∧ k ≤ 16) :
    Calls Tryz.prog 35 #[.int .i64 (k : Int), v] w fun e w' => e = .returned (.tuple #[.int .i64 (apR k [x, y]).1, .int .i64 (apR k [x, y]).2]) ∧ ∃ m, w' = w.drewN m := by
  have hc := hG k (by omega)
  have hg : (grps.getD k 0 == 0) = false ∧ (grps.getD k 0 == 1) = false ∧ (grps.getD k 0 == 7) = false := by
    have : k = 5 ∨ k = 6 ∨ k = 7 ∨ k = 8 ∨ k = 9 ∨ k = 10 ∨ k = 11 ∨ k = 12 ∨ k = 13 ∨ k = 14 ∨ k = 15 ∨ k = 16 := by omega
    rcases this with rfl | rfl | rfl | rfl | rfl | rfl | rfl | rfl | rfl | rfl | rfl | rfl <;> exact ⟨rfl, rfl, rfl⟩
  obtain ⟨g0, g1, g7⟩ := hg
  have ca : Hid (∀ W, Calls Tryz.prog 51 #[.int .i64 (k : Int)] W fun e w' => e = .returned (.tuple #[.int .i64 2, .int .i64 0]) ∧ w' = W) := fun W => by
    have := aarity_any k W
    rw [show aaE (k : Int) = 0 by unfold aaE; rw [if_neg (by omega)], show aaK (k : Int) = 2 by unfold aaK; rw [if_neg (by omega), if_pos (by omega)] ] at this
    exact this
  have ct : Hid (∀ W, GrpCells W → Calls Tryz.prog 55 #[.int .i64 (k : Int), .int .i64 x, .int .i64 y] W fun e w' => e = .returned (.tuple #[.int .i64 (apR k [x, y]).1, .int .i64 (apR k [x, y]).2]) ∧ w' = W) := fun W hW => ofTwo_any k x y W hW h
  have hk : k < 18 := by omega
  obtain ⟨a, c, rfl, hx⟩ := hA
  obtain hx | ⟨b, o, rfl, hx⟩ := hx
  · simp at hx
  have h0 := hx 0 x rfl
  have h1 := hx 1 y rfl
  rw [Nat.add_zero] at h0
  simp only [List.length_cons, List.length_nil, Nat.zero_add]
  generalize grps.getD k 0 = g at *
  generalize apR k [x, y] = r at *
  obtain ⟨r1, r2⟩ := r
  simp only at ct ⊢
  clear h hx
  go_enter Tryz.func35, Tryz.ntmps35
  go_wp2_with (go_at_call 51; refine (ca.out _).mono ?_; rintro e w2 ⟨rfl, hw⟩; obtain rfl := hw.symm)
  go_quiet ((go_at_call 55; exact Calls.quiet_of (Calls.same (ct.out _ (hG.drew _)))))
  go_wp2
  go_ret2
  exact ⟨rfl, _, rfl⟩

/-- WHAT APPLY ANSWERS. -/
theorem apply_any (op : Int) (v : Value) (l : List Int) (w : World) (hG : GrpCells w) (hA : Ags w v l) :
    Calls Tryz.prog 35 #[.int .i64 op, v] w fun e w' => e = .returned (.tuple #[.int .i64 (apR op l).1, .int .i64 (apR op l).2]) ∧ ∃ m, w' = w.drewN m := by
  by_cases hb : op < 1 ∨ 17 < op
  · have e : apR op l = (0, 2) := by
      unfold apR
      split
      · rw [if_neg (by omega)]
      · rw [if_neg (by omega)]
      · rw [if_neg (by omega)]
      · rfl
    rw [e]; exact Calls.same (apply_bad op v l w hA hb)
  obtain ⟨k, rfl⟩ : ∃ k : Nat, op = k := ⟨op.toNat, by omega⟩
  by_cases h12 : k = 1 ∨ k = 2
  · have e : apR k l = (0, 2) := by
      unfold apR
      split
      · rw [if_neg (by omega)]
      · rw [if_neg (by omega)]
      · rw [if_neg (by omega)]
      · rfl
    rw [e]; exact Calls.same (apply_leaf k v l w hG hA h12)
  by_cases hn : (l.length : Int) = aaK k
  · by_cases h34 : k = 3 ∨ k = 4
    · have e : aaK (k : Int) = 1 := by unfold aaK; rw [if_pos (by omega)]
      rw [e] at hn
      match l, hn, hA with
      | [x], _, hA =>
        have e2 : apR k [x] = (ap1 k x, 0) := by simp only [apR]; rw [if_pos (by omega)]
        rw [e2]; exact Calls.same (apply_one k v x w hG hA h34)
    by_cases h17 : k = 17
    · subst h17
      match l, hn, hA with
      | [x, y, z], _, hA => exact apply_three v x y z w hG hA
    · have e : aaK (k : Int) = 2 := by unfold aaK; rw [if_neg (by omega), if_pos (by omega)]
      rw [e] at hn
      match l, hn, hA with
      | [x, y], _, hA => exact apply_two k v x y w hG hA (by omega)
  · have e : apR k l = (0, 2) := by
      unfold aaK at hn
      unfold apR
      split
      · rw [if_neg]; intro h; rw [if_pos h] at hn; exact hn rfl
      · rw [if_neg]; intro h; rw [if_neg (by omega), if_pos h] at hn; exact hn rfl
      · rw [if_neg]; intro h; rw [if_neg (by omega), if_neg (by omega), if_pos h] at hn; exact hn rfl
      · rfl
    rw [e]; exact Calls.same (apply_many k v l w hG hA (by omega) hn)
end Go.Proofs.YtlbmijcpalfaeaaGreatDoor

set_option linter.unusedSimpArgs false
set_option linter.unusedVariables false
namespace Go.Proofs.YtlbmijcpalfaeaaGreatDoor
open Go.RowKit Go.Lib

/-- One cell of an owned row is set. -/
theorem own_put {w : World} {base : Nat} {e : TypeId} {s n g cap : Nat} {xs : List Value} {i : Nat} {u : Value} (h : w.ownsRow base e s (.slice (some ⟨g, 0, none⟩) n cap) n xs) (hi : i < xs.length) : (w.setCell ⟨g, i, none⟩ u).ownsRow base e s (.slice (some ⟨g, 0, none⟩) n cap) n (xs.set i u) := by
  obtain ⟨h1, h2⟩ := h
  refine ⟨by simpa using h1, ?_⟩
  rcases h2 with ⟨h2, _⟩ | ⟨g', cap', cur, h3, hb, hg, hn, hm, hs, ht⟩
  · cases h2
  · cases h3
    refine .inr ⟨g, cap, cur.setIfInBounds i u, rfl, hb, heap_setCell_same w g i cur e u hg, hn, hm, by simpa using hs, ?_⟩
    rw [← ht]
    simp [List.take_set]

theorem own_block' {w : World} {base : Nat} {e : TypeId} {s n : Nat} {v : Value} {xs : List Value} (h : w.ownsRow base e s v n xs) : ∀ b, v.ownBlock = some b → base ≤ b ∧ b < w.heap.size := by
  intro b hb
  rcases h.2 with ⟨rfl, _⟩ | ⟨g, cap, cur, rfl, h1, h2, _⟩
  · cases hb
  · simp [Value.ownBlock] at hb; subst hb; exact ⟨h1, lt_of_block h2⟩
theorem own_same' {w w' : World} {base : Nat} {e : TypeId} {s n : Nat} {v : Value} {xs : List Value} (h : w.ownsRow base e s v n xs) (hb : ∀ b, v.ownBlock = some b → w'.heap[b]? = w.heap[b]?) : w'.ownsRow base e s v n xs := by
  rcases h with ⟨h1, h2⟩
  refine ⟨h1, ?_⟩
  rcases h2 with h2 | ⟨g, cap, cur, rfl, hg, h3, r⟩
  · exact .inl h2
  · exact .inr ⟨g, cap, cur, rfl, hg, (hb g rfl).trans h3, r⟩
theorem row_form' {w : World} {base : Nat} {e : TypeId} {s n : Nat} {v : Value} {xs : List Value} (h : w.ownsRow base e s v n xs) : ∃ ao cap, v = .slice ao n cap := by
  rcases h.2 with ⟨rfl, h0⟩ | ⟨g', cap', cur, rfl, _⟩
  · exact ⟨none, 0, by rw [h0]⟩
  · exact ⟨_, _, rfl⟩

theorem own_set' {w : World} {base p o : Nat} {e : TypeId} {s n : Nat} {v u : Value} {xs : List Value} (h : w.ownsRow base e s v n xs) (hp : v.ownBlock ≠ some p) : (w.setCell ⟨p, o, none⟩ u).ownsRow base e s v n xs :=
  own_same' h fun b hb => Deep.blk_setCell_other _ _ _ _ (by show b ≠ p; intro e; subst e; exact hp hb)

/-- The names' list, the number to stop at: where the function finds them. -/
structure Cst (w : World) (A Sb Nb : Nat) (stop : Int) (na : Option Addr) (nc : Nat) (names : List ByteArray) : Prop where
  sb : Sb < A
  nb : Nb < A
  stopC : w.cell? ⟨Sb, 0, none⟩ = some (.int .i64 stop)
  namesC : w.cell? ⟨Nb, 0, none⟩ = some (.slice na names.length nc)
  len : names.length ≤ nc ∧ nc ≤ maxLen
  row : names = [] ∨ ∃ b o, na = some ⟨b, o, none⟩ ∧ b < A ∧ ∀ j, j < names.length → w.cell? ⟨b, o + j, none⟩ = some (.string (names.getD j ⟨#[]⟩))
theorem Cst.below {w w' : World} {A Sb Nb : Nat} {stop : Int} {na : Option Addr} {nc : Nat} {names : List ByteArray} (h : Cst w A Sb Nb stop na nc names) (hb : Below A w w') : Cst w' A Sb Nb stop na nc names :=
  ⟨h.sb, h.nb, (hb.cell (p := ⟨Sb, 0, none⟩) h.sb).trans h.stopC, (hb.cell (p := ⟨Nb, 0, none⟩) h.nb).trans h.namesC, h.len, by
    rcases h.row with h | ⟨b, o, e, hlt, hc⟩
    · exact .inl h
    · exact .inr ⟨b, o, e, hlt, fun j hj => (hb.cell (p := ⟨b, o + j, none⟩) hlt).trans (hc j hj)⟩⟩

end Go.Proofs.YtlbmijcpalfaeaaGreatDoor
