/-
  ArW, EwOpen.
-/
import Derived.Test.YtkbcgcempchoaaaDoorChecked
import GoSem.PinnedTables
import GoSem.Claim
import GoSem.ClaimJoined
import GoSem.ClaimMapViews
import Derived.JoinedTies
import Derived.KernelRfl
import Derived.Shelf.Unicode.DecodeSlow
import Derived.Laws.RangeAny
import Derived.Shelf.Small.Bits
import Derived.Shelf.Strconv.Itoa0
import Derived.Shelf.LaysM
import Derived.Shelf.Strconv.Clone
import Derived.Shelf.Unicode.DecodeAny
import Derived.Ground.SlsfProg
import Derived.Shelf.SlSortCmp.Insertion
import Derived.Shelf.SlSortCmp.SiftDown1
import Derived.Shelf.SlSortCmp.HeapSort1
import Derived.Shelf.SlSortCmp.Insertion1
import Derived.Shelf.SlSortCmp.Median1
import Derived.Shelf.SlSortCmp.Pivot1
import Derived.Shelf.SlSortCmp.ReverseRange1
import Derived.Shelf.SlSortCmp.PartitionEqual1
import Derived.Test.YtkbcgcempchoaaaDoorProg
import Derived.WalkKit
import Derived.Deep.DeepFit
import Derived.Lib.OthersKept
import Derived.Lib.RuneCountTail
import Derived.Lib.LaidU8
import Derived.MakeChecks
import Derived.ProofKit
import Derived.OpenShut
import Derived.Deep.DeepHandedRow
import Derived.RowKit
import Derived.Laws.Entries
import Derived.Below
import Derived.Deep.AppendLies
import Derived.Deep.OwnRows
import Derived.Laws.AppendOwnNone
import Derived.Deep.QuietTactic
import Derived.BigQuiet
import Derived.Deep.RegionWith
import Derived.Laws.DeepStrings4
import Derived.Deep.Slices
import Derived.SizedLaws
import Derived.Lib.LaidTab
import Derived.Test.YtkbcgcempchoaaaDoorRows
import Derived.Test.YtkbcgcempchoaaaDoorH01
import Derived.Test.YtkbcgcempchoaaaDoorH02
import Derived.Test.YtkbcgcempchoaaaDoorH03
import Derived.Test.YtkbcgcempchoaaaDoorH04
import Derived.Test.YtkbcgcempchoaaaDoorH05
set_option linter.unusedSimpArgs false
set_option linter.unusedVariables false
namespace Go.Proofs.YtkbcgcempchoaaaDoor
open Go.RowKit Go.Lib

theorem retI {k : IntKind} {a b : Int} (h : a = b) : Ending.returned (.int k a) = .returned (.int k b) := by rw [h]
theorem retII {k l : IntKind} {a b c d : Int} (h : a = c) (h' : b = d) : Ending.returned (.tuple #[.int k a, .int l b]) = .returned (.tuple #[.int k c, .int l d]) := by rw [h, h']

theorem turned_any (op a : Int) (w : World) :
    Calls Tryd.prog 55 #[.int .i64 op, .int .i64 a] w fun e w' => e = .returned (.int .i64 (ap1 op a)) ∧ w' = w := by
  go_enter Tryd.func55, Tryd.ntmps55
  go_wp2
  all_goals
    go_ret
    simp only [beq_iff_eq, beq_eq_false_iff_ne, ne_eq] at *
    exact ⟨retI (by simp [ap1, *]), by first | rfl | trivial⟩

theorem wrapped_any (op a b : Int) (w : World) (h : op = 5 ∨ op = 6 ∨ op = 7) :
    Calls Tryd.prog 79 #[.int .i64 op, .int .i64 a, .int .i64 b] w fun e w' => e = .returned (.int .i64 (ap2 op a b)) ∧ w' = w := by
  rcases h with rfl | rfl | rfl
  all_goals
    go_enter Tryd.func79, Tryd.ntmps79
    go_wp2
    go_ret
    exact ⟨retI (by simp [ap2]), by first | rfl | trivial⟩

theorem divided_any (op a b : Int) (w : World) (h : op = 8 ∨ op = 9) (hb : b ≠ 0) :
    Calls Tryd.prog 80 #[.int .i64 op, .int .i64 a, .int .i64 b] w fun e w' => e = .returned (.int .i64 (ap2 op a b)) ∧ w' = w := by
  rcases h with rfl | rfl
  all_goals
    go_enter Tryd.func80, Tryd.ntmps80
    go_wp2
    go_ret
    exact ⟨retI (by simp [ap2]), by first | rfl | trivial⟩

theorem combined_any (op a b : Int) (w : World) (h : op = 10 ∨ op = 11 ∨ op = 12) :
    Calls Tryd.prog 81 #[.int .i64 op, .int .i64 a, .int .i64 b] w fun e w' => e = .returned (.int .i64 (ap2 op a b)) ∧ w' = w := by
  rcases h with rfl | rfl | rfl
  all_goals
    go_enter Tryd.func81, Tryd.ntmps81
    go_wp2
    go_ret
    exact ⟨retI (by simp [ap2]), by first | rfl | trivial⟩

theorem shl_run (a k : Int) (h0 : 0 ≤ k) (h1 : k < 64) : Op.shift .shl .i64 a .i64 k = pure (.int .i64 (wrap64 (a * 2 ^ k.toNat))) := by
  have e : min k.toNat 64 = k.toNat := by omega
  simp only [Op.shift, IntKind.bits, e]
  rw [if_neg (by omega), IntWalk.i64_left]
theorem shr_run (a k : Int) (h0 : 0 ≤ k) (h1 : k < 64) : Op.shift .shr .i64 a .i64 k = pure (.int .i64 (a / 2 ^ k.toNat)) := by
  have e : min k.toNat 64 = k.toNat := by omega
  simp only [Op.shift, IntKind.bits, e]
  rw [if_neg (by omega), Int.fdiv_eq_ediv_of_nonneg _ (Int.le_of_lt (Int.pow_pos (by decide)))]

theorem shifted_any (op a b : Int) (w : World) (h : op = 13 ∨ op = 14) :
    Calls Tryd.prog 82 #[.int .i64 op, .int .i64 a, .int .i64 b] w fun e w' => e = .returned (.int .i64 (ap2 op a b)) ∧ w' = w := by
  have hby := by6_in b
  have h13 : ap2 13 a b = wrap64 (a * 2 ^ (by6 b).toNat) := by simp [ap2]
  have h14 : ap2 14 a b = a / 2 ^ (by6 b).toNat := by simp [ap2]
  have hl := shl_run a (by6 b) hby.1 hby.2
  have hr := shr_run a (by6 b) hby.1 hby.2
  rw [← h13] at hl
  rw [← h14] at hr
  obtain ⟨k, hk⟩ : ∃ k, bits .and .i64 b 63 = k := ⟨_, rfl⟩
  have e : by6 b = k := hk
  rw [e] at hl hr
  clear hby h13 h14 e
  rcases h with rfl | rfl
  all_goals
    go_enter Tryd.func82, Tryd.ntmps82
    go_wp2
    go_ret
    exact ⟨retI rfl, by first | rfl | trivial⟩

theorem compared_any (op a b : Int) (w : World) (h : op = 15 ∨ op = 16) :
    Calls Tryd.prog 83 #[.int .i64 op, .int .i64 a, .int .i64 b] w fun e w' => e = .returned (.int .i64 (ap2 op a b)) ∧ w' = w := by
  rcases h with rfl | rfl
  all_goals
    go_enter Tryd.func83, Tryd.ntmps83
    go_wp2
    all_goals
      go_ret
      simp only [beq_iff_eq, beq_eq_false_iff_ne, ne_eq] at *
      exact ⟨retI (by simp_all [ap2]), by first | rfl | trivial⟩

theorem chosen_any (c a b : Int) (w : World) :
    Calls Tryd.prog 56 #[.int .i64 c, .int .i64 a, .int .i64 b] w fun e w' => e = .returned (.int .i64 (if c = 0 then b else a)) ∧ w' = w := by
  obtain ⟨r, hr⟩ : ∃ r, (if c = 0 then b else a) = r := ⟨_, rfl⟩
  have HR : Hid ((if c = 0 then b else a) = r) := hr
  rw [hr]
  clear hr
  go_enter Tryd.func56, Tryd.ntmps56
  go_wp2
  all_goals
    go_ret
    exact ⟨retI (by rw [← HR.out]; simp_all), by first | rfl | trivial⟩
/-! ### The groups -/
def grps : List Int := [0, 0, 0, 1, 1, 2, 2, 2, 3, 3, 4, 4, 4, 5, 5, 6, 6, 7]
def GrpCells (w : World) : Prop := ∀ k, k < 18 → w.cell? ⟨0, k, none⟩ = some (.int .i64 (grps.getD k 0))
theorem GrpCells.below {w w' : World} (h : GrpCells w) (hb : Below w.heap.size w w') : GrpCells w' := by
  intro k hk
  have h0 := h k hk
  exact (hb.cell (World.block_lt_of_cell? w _ h0)).trans h0

theorem ofTwo_any (k : Nat) (a b : Int) (w : World) (hG : GrpCells w) (h : 5 ≤ k ∧ k ≤ 16) :
    Calls Tryd.prog 57 #[.int .i64 (k : Int), .int .i64 a, .int .i64 b] w fun e w' => e = .returned (.tuple #[.int .i64 (apR k [a, b]).1, .int .i64 (apR k [a, b]).2]) ∧ w' = w := by
  have hk : (5 : Int) ≤ k ∧ (k : Int) ≤ 16 := by omega
  have hc := hG k (by omega)
  obtain ⟨r, hr⟩ : ∃ r, apR k [a, b] = r := ⟨_, rfl⟩
  have HR : Hid (apR k [a, b] = r) := hr
  rw [hr]
  have HA : Hid (¬ ((k = 8 ∨ k = 9) ∧ b = 0) → r = (ap2 k a b, 0)) := fun hn => by
    rw [← hr]; simp only [apR]; rw [if_pos hk, if_neg (by omega)]
  have HZ : Hid ((k = 8 ∨ k = 9) → b = 0 → r = (0, 12)) := fun h8 hb => by
    rw [← hr]; simp only [apR]; rw [if_pos hk, if_pos ⟨by omega, hb⟩]
  clear hr HR hG
  have cases : (grps.getD k 0 = 2 ∧ ((k : Int) = 5 ∨ (k : Int) = 6 ∨ (k : Int) = 7)) ∨ (grps.getD k 0 = 3 ∧ ((k : Int) = 8 ∨ (k : Int) = 9)) ∨ (grps.getD k 0 = 4 ∧ ((k : Int) = 10 ∨ (k : Int) = 11 ∨ (k : Int) = 12)) ∨ (grps.getD k 0 = 5 ∧ ((k : Int) = 13 ∨ (k : Int) = 14)) ∨ (grps.getD k 0 = 6 ∧ ((k : Int) = 15 ∨ (k : Int) = 16)) := by
    obtain ⟨h1, h2⟩ := h
    have : k = 5 ∨ k = 6 ∨ k = 7 ∨ k = 8 ∨ k = 9 ∨ k = 10 ∨ k = 11 ∨ k = 12 ∨ k = 13 ∨ k = 14 ∨ k = 15 ∨ k = 16 := by omega
    rcases this with rfl | rfl | rfl | rfl | rfl | rfl | rfl | rfl | rfl | rfl | rfl | rfl <;> simp [grps]
  generalize grps.getD k 0 = g at *
  rcases cases with ⟨rfl, ho⟩ | ⟨rfl, ho⟩ | ⟨rfl, ho⟩ | ⟨rfl, ho⟩ | ⟨rfl, ho⟩
  · have cw : Hid (∀ W, Calls Tryd.prog 79 #[.int .i64 (k : Int), .int .i64 a, .int .i64 b] W fun e w' => e = .returned (.int .i64 (ap2 k a b)) ∧ w' = W) := fun W => wrapped_any k a b W ho
    have HO : Hid (¬ ((k = 8 ∨ k = 9) ∧ b = 0)) := by show ¬ _; omega
    clear ho
    go_enter Tryd.func57, Tryd.ntmps57
    go_wp2_with (go_at_call 79; refine (cw.out _).mono ?_; rintro e w2 ⟨rfl, hw⟩; obtain rfl := hw.symm)
    go_ret2
    exact ⟨retII (by rw [HA.out HO.out]) (by rw [HA.out HO.out]), by first | rfl | trivial⟩
  · by_cases hb : b = 0
    · have HO : Hid (k = 8 ∨ k = 9) := by show _ ∨ _; omega
      have H0 : Hid (r = (0, 12)) := HZ.out HO.out hb
      subst hb
      clear ho HZ
      go_enter Tryd.func57, Tryd.ntmps57
      go_wp2
      go_ret2
      exact ⟨retII (by rw [H0.out]) (by rw [H0.out]), by first | rfl | trivial⟩
    · have cw : Hid (∀ W, Calls Tryd.prog 80 #[.int .i64 (k : Int), .int .i64 a, .int .i64 b] W fun e w' => e = .returned (.int .i64 (ap2 k a b)) ∧ w' = W) := fun W => divided_any k a b W ho hb
      have HO : Hid (¬ ((k = 8 ∨ k = 9) ∧ b = 0)) := by show ¬ _; omega
      have hb' : (b == 0) = false := by simpa using hb
      clear ho hb
      go_enter Tryd.func57, Tryd.ntmps57
      go_wp2_with (go_at_call 80; refine (cw.out _).mono ?_; rintro e w2 ⟨rfl, hw⟩; obtain rfl := hw.symm)
      go_ret2
      exact ⟨retII (by rw [HA.out HO.out]) (by rw [HA.out HO.out]), by first | rfl | trivial⟩
  · have cw : Hid (∀ W, Calls Tryd.prog 81 #[.int .i64 (k : Int), .int .i64 a, .int .i64 b] W fun e w' => e = .returned (.int .i64 (ap2 k a b)) ∧ w' = W) := fun W => combined_any k a b W ho
    have HO : Hid (¬ ((k = 8 ∨ k = 9) ∧ b = 0)) := by show ¬ _; omega
    clear ho
    go_enter Tryd.func57, Tryd.ntmps57
    go_wp2_with (go_at_call 81; refine (cw.out _).mono ?_; rintro e w2 ⟨rfl, hw⟩; obtain rfl := hw.symm)
    go_ret2
    exact ⟨retII (by rw [HA.out HO.out]) (by rw [HA.out HO.out]), by first | rfl | trivial⟩
  · have cw : Hid (∀ W, Calls Tryd.prog 82 #[.int .i64 (k : Int), .int .i64 a, .int .i64 b] W fun e w' => e = .returned (.int .i64 (ap2 k a b)) ∧ w' = W) := fun W => shifted_any k a b W ho
    have HO : Hid (¬ ((k = 8 ∨ k = 9) ∧ b = 0)) := by show ¬ _; omega
    clear ho
    go_enter Tryd.func57, Tryd.ntmps57
    go_wp2_with (go_at_call 82; refine (cw.out _).mono ?_; rintro e w2 ⟨rfl, hw⟩; obtain rfl := hw.symm)
    go_ret2
    exact ⟨retII (by rw [HA.out HO.out]) (by rw [HA.out HO.out]), by first | rfl | trivial⟩
  · have cw : Hid (∀ W, Calls Tryd.prog 83 #[.int .i64 (k : Int), .int .i64 a, .int .i64 b] W fun e w' => e = .returned (.int .i64 (ap2 k a b)) ∧ w' = W) := fun W => compared_any k a b W ho
    have HO : Hid (¬ ((k = 8 ∨ k = 9) ∧ b = 0)) := by show ¬ _; omega
    clear ho
    go_enter Tryd.func57, Tryd.ntmps57
    go_wp2_with (go_at_call 83; refine (cw.out _).mono ?_; rintro e w2 ⟨rfl, hw⟩; obtain rfl := hw.symm)
    go_ret2
    exact ⟨retII (by rw [HA.out HO.out]) (by rw [HA.out HO.out]), by first | rfl | trivial⟩

/-! ### Apply -/
theorem Calls.same {P : Program} {f : FuncId} {args : Array Value} {w : World} {v : Value} (h : Calls P f args w fun e w' => e = .returned v ∧ w' = w) : Calls P f args w fun e w' => e = .returned v ∧ ∃ m, w' = w.drewN m :=
  h.mono fun _ _ ⟨he, hw⟩ => ⟨he, 0, by rw [hw]; rfl⟩
theorem GrpCells.drew {w : World} (h : GrpCells w) (m : Nat) : GrpCells (w.drewN m) := fun k hk => h k hk
/-- A list of numbers, read. -/
def Ags (w : World) (v : Value) (l : List Int) : Prop :=
  ∃ (a : Option Addr) (c : Nat), v = .slice a l.length c ∧ (l = [] ∨ ∃ b o, a = some ⟨b, o, none⟩ ∧ ∀ i x, l[i]? = some x → w.cell? ⟨b, o + i, none⟩ = some (.int .i64 x))

def aaK (op : Int) : Int := if op = 3 ∨ op = 4 then 1 else if 5 ≤ op ∧ op ≤ 16 then 2 else if op = 17 then 3 else 0
def aaE (op : Int) : Int := if op < 1 ∨ 17 < op then 2 else 0
theorem aarity_any (op : Int) (w : World) :
    Calls Tryd.prog 54 #[.int .i64 op] w fun e w' => e = .returned (.tuple #[.int .i64 (aaK op), .int .i64 (aaE op)]) ∧ w' = w := by
  go_enter Tryd.func54, Tryd.ntmps54
  go_wp2
  all_goals
    go_ret2
    simp only [beq_iff_eq, beq_eq_false_iff_ne, ne_eq] at *
    exact ⟨retII (by unfold aaK; (repeat' split) <;> omega) (by unfold aaE; split <;> omega), by first | rfl | trivial⟩

theorem apply_bad (op : Int) (v : Value) (l : List Int) (w : World) (hA : Ags w v l) (h : op < 1 ∨ 17 < op) :
    Calls Tryd.prog 30 #[.int .i64 op, v] w fun e w' => e = .returned (.tuple #[.int .i64 0, .int .i64 2]) ∧ w' = w := by
  have ca : Hid (∀ W, Calls Tryd.prog 54 #[.int .i64 op] W fun e w' => e = .returned (.tuple #[.int .i64 (aaK op), .int .i64 2]) ∧ w' = W) := fun W => by
    have := aarity_any op W
    rw [show aaE op = 2 by unfold aaE; rw [if_pos h] ] at this
    exact this
  obtain ⟨a, c, rfl, _⟩ := hA
  clear h
  go_enter Tryd.func30, Tryd.ntmps30
  go_wp2_with (go_at_call 54; refine (ca.out _).mono ?_; rintro e w2 ⟨rfl, hw⟩; obtain rfl := hw.symm)
  go_ret2
  exact ⟨rfl, by first | rfl | trivial⟩

theorem apply_leaf (k : Nat) (v : Value) (l : List Int) (w : World) (hG : GrpCells w) (hA : Ags w v l) (h : k = 1 ∨ k = 2) :
    Calls Tryd.prog 30 #[.int .i64 (k : Int), v] w fun e w' => e = .returned (.tuple #[.int .i64 0, .int .i64 2]) ∧ w' = w := by
  have hc := hG k (by omega)
  have hg : grps.getD k 0 = 0 := by rcases h with rfl | rfl <;> rfl
  rw [hg] at hc
  have ca : Hid (∀ W, Calls Tryd.prog 54 #[.int .i64 (k : Int)] W fun e w' => e = .returned (.tuple #[.int .i64 (aaK k), .int .i64 0]) ∧ w' = W) := fun W => by
    have := aarity_any k W
    rw [show aaE (k : Int) = 0 by unfold aaE; rw [if_neg (by omega)] ] at this
    exact this
  have hk : k < 18 := by omega
  obtain ⟨a, c, rfl, _⟩ := hA
  clear h hg hG
  go_enter Tryd.func30, Tryd.ntmps30
  go_wp2_with (go_at_call 54; refine (ca.out _).mono ?_; rintro e w2 ⟨rfl, hw⟩; obtain rfl := hw.symm)
  go_ret2
  exact ⟨rfl, by first | rfl | trivial⟩

theorem apply_many (k : Nat) (v : Value) (l : List Int) (w : World) (hG : GrpCells w) (hA : Ags w v l) (h : 3 ≤ k ∧ k ≤ 17) (hn : (l.length : Int) ≠ aaK k) :
    Calls Tryd.prog 30 #[.int .i64 (k : Int), v] w fun e w' => e = .returned (.tuple #[.int .i64 0, .int .i64 2]) ∧ w' = w := by
  have hc := hG k (by omega)
  have hg : (grps.getD k 0 == 0) = false := by
    have : k = 3 ∨ k = 4 ∨ k = 5 ∨ k = 6 ∨ k = 7 ∨ k = 8 ∨ k = 9 ∨ k = 10 ∨ k = 11 ∨ k = 12 ∨ k = 13 ∨ k = 14 ∨ k = 15 ∨ k = 16 ∨ k = 17 := by omega
    rcases this with rfl | rfl | rfl | rfl | rfl | rfl | rfl | rfl | rfl | rfl | rfl | rfl | rfl | rfl | rfl <;> rfl
  have ca : Hid (∀ W, Calls Tryd.prog 54 #[.int .i64 (k : Int)] W fun e w' => e = .returned (.tuple #[.int .i64 (aaK k), .int .i64 0]) ∧ w' = W) := fun W => by
    have := aarity_any k W
    rw [show aaE (k : Int) = 0 by unfold aaE; rw [if_neg (by omega)] ] at this
    exact this
  have hk : k < 18 := by omega
  generalize grps.getD k 0 = g at *
  generalize aaK (k : Int) = m at *
  have hne : ((l.length : Int) != m) = true := by simpa using hn
  obtain ⟨a, c, rfl, _⟩ := hA
  generalize l.length = N at *
  clear h hG hn
  go_enter Tryd.func30, Tryd.ntmps30
  go_wp2_with (go_at_call 54; refine (ca.out _).mono ?_; rintro e w2 ⟨rfl, hw⟩; obtain rfl := hw.symm)
  go_ret2
  exact ⟨rfl, by first | rfl | trivial⟩

theorem apply_one (k : Nat) (v : Value) (x : Int) (w : World) (hG : GrpCells w) (hA : Ags w v [x]) (h : k = 3 ∨ k = 4) :
    Calls Tryd.prog 30 #[.int .i64 (k : Int), v] w fun e w' => e = .returned (.tuple #[.int .i64 (ap1 k x), .int .i64 0]) ∧ w' = w := by
  have hc := hG k (by omega)
  have hg : grps.getD k 0 = 1 := by rcases h with rfl | rfl <;> rfl
  rw [hg] at hc
  have ca : Hid (∀ W, Calls Tryd.prog 54 #[.int .i64 (k : Int)] W fun e w' => e = .returned (.tuple #[.int .i64 1, .int .i64 0]) ∧ w' = W) := fun W => by
    have := aarity_any k W
    rw [show aaE (k : Int) = 0 by unfold aaE; rw [if_neg (by omega)], show aaK (k : Int) = 1 by unfold aaK; rw [if_pos (by omega)] ] at this
    exact this
  have ct : Hid (∀ W, Calls Tryd.prog 55 #[.int .i64 (k : Int), .int .i64 x] W fun e w' => e = .returned (.int .i64 (ap1 k x)) ∧ w' = W) := fun W => turned_any k x W
  have hk : k < 18 := by omega
  obtain ⟨a, c, rfl, hx⟩ := hA
  obtain hx | ⟨b, o, rfl, hx⟩ := hx
  · simp at hx
  have h0 := hx 0 x rfl
  rw [Nat.add_zero] at h0
  simp only [List.length_cons, List.length_nil, Nat.zero_add]
  generalize ap1 k x = r at *
  clear h hg hG hx
  go_enter Tryd.func30, Tryd.ntmps30
  go_wp2_with (first | (go_at_call 54; refine (ca.out _).mono ?_; rintro e w2 ⟨rfl, hw⟩; obtain rfl := hw.symm) | (go_at_call 55; refine (ct.out _).mono ?_; rintro e w3 ⟨rfl, hw⟩; obtain rfl := hw.symm))
  go_ret2
  exact ⟨rfl, by first | rfl | trivial⟩

theorem apply_three (v : Value) (x y z : Int) (w : World) (hG : GrpCells w) (hA : Ags w v [x, y, z]) :
    Calls Tryd.prog 30 #[.int .i64 17, v] w fun e w' => e = .returned (.tuple #[.int .i64 (if x = 0 then z else y), .int .i64 0]) ∧ ∃ m, w' = w.drewN m := by
  have hc := hG 17 (by omega)
  have hg : grps.getD 17 0 = 7 := rfl
  rw [hg] at hc
  have ca : Hid (∀ W, Calls Tryd.prog 54 #[.int .i64 17] W fun e w' => e = .returned (.tuple #[.int .i64 3, .int .i64 0]) ∧ w' = W) := fun W => aarity_any 17 W
  obtain ⟨r, hr⟩ : ∃ r, (if x = 0 then z else y) = r := ⟨_, rfl⟩
  have ct : Hid (∀ W, Calls Tryd.prog 56 #[.int .i64 x, .int .i64 y, .int .i64 z] W fun e w' => e = .returned (.int .i64 r) ∧ w' = W) := fun W => by rw [← hr]; exact chosen_any x y z W
  rw [hr]
  obtain ⟨a, c, rfl, hx⟩ := hA
  obtain hx | ⟨b, o, rfl, hx⟩ := hx
  · simp at hx
  have h0 := hx 0 x rfl
  have h1 := hx 1 y rfl
  have h2 := hx 2 z rfl
  rw [Nat.add_zero] at h0
  simp only [List.length_cons, List.length_nil, Nat.zero_add]
  clear hg hG hx hr
  go_enter Tryd.func30, Tryd.ntmps30
  go_wp2_with (go_at_call 54; refine (ca.out _).mono ?_; rintro e w2 ⟨rfl, hw⟩; obtain rfl := hw.symm)
  go_quiet ((go_at_call 56; exact Calls.quiet_of (Calls.same (ct.out _))))
  go_wp2
  go_ret2
  exact ⟨rfl, _, rfl⟩

theorem apply_two (k : Nat) (v : Value) (x y : Int) (w : World) (hG : GrpCells w) (hA : Ags w v [x, y]) (h : 5 ≤ k ∧ k ≤ 16) :
    Calls Tryd.prog 30 #[.int .i64 (k : Int), v] w fun e w' => e = .returned (.tuple #[.int .i64 (apR k [x, y]).1, .int .i64 (apR k [x, y]).2]) ∧ ∃ m, w' = w.drewN m := by
  have hc := hG k (by omega)
  have hg : (grps.getD k 0 == 0) = false ∧ (grps.getD k 0 == 1) = false ∧ (grps.getD k 0 == 7) = false := by
    have : k = 5 ∨ k = 6 ∨ k = 7 ∨ k = 8 ∨ k = 9 ∨ k = 10 ∨ k = 11 ∨ k = 12 ∨ k = 13 ∨ k = 14 ∨ k = 15 ∨ k = 16 := by omega
    rcases this with rfl | rfl | rfl | rfl | rfl | rfl | rfl | rfl | rfl | rfl | rfl | rfl <;> exact ⟨rfl, rfl, rfl⟩
  obtain ⟨g0, g1, g7⟩ := hg
  have ca : Hid (∀ W, Calls Tryd.prog 54 #[.int .i64 (k : Int)] W fun e w' => e = .returned (.tuple #[.int .i64 2, .int .i64 0]) ∧ w' = W) := fun W => by
    have := aarity_any k W
    rw [show aaE (k : Int) = 0 by unfold aaE; rw [if_neg (by omega)], show aaK (k : Int) = 2 by unfold aaK; rw [if_neg (by omega), if_pos (by omega)] ] at this
    exact this
  have ct : Hid (∀ W, GrpCells W → Calls Tryd.prog 57 #[.int .i64 (k : Int), .int .i64 x, .int .i64 y] W fun e w' => e = .returned (.tuple #[.int .i64 (apR k [x, y]).1, .int .i64 (apR k [x, y]).2]) ∧ w' = W) := fun W hW => ofTwo_any k x y W hW h
  have hk : k < 18 := by omega
  obtain ⟨a, c, rfl, hx⟩ := hA
  obtain hx | ⟨b, o, rfl, hx⟩ := hx
  · simp at hx
  have h0 := hx 0 x rfl
  have h1 := hx 1 y rfl
  rw [Nat.add_zero] at h0
  simp only [List.length_cons, List.length_nil, Nat.zero_add]
  generalize grps.getD k 0 = g at *
  generalize apR k [x, y] = r at *
  obtain ⟨r1, r2⟩ := r
  simp only at ct ⊢
  clear h hx
  go_enter Tryd.func30, Tryd.ntmps30
  go_wp2_with (go_at_call 54; refine (ca.out _).mono ?_; rintro e w2 ⟨rfl, hw⟩; obtain rfl := hw.symm)
  go_quiet ((go_at_call 57; exact Calls.quiet_of (Calls.same (ct.out _ (hG.drew _)))))
  go_wp2
  go_ret2
  exact ⟨rfl, _, rfl⟩

/-- WHAT APPLY ANSWERS. -/
theorem apply_any (op : Int) (v : Value) (l : List Int) (w : World) (hG : GrpCells w) (hA : Ags w v l) :
    Calls Tryd.prog 30 #[.int .i64 op, v] w fun e w' => e = .returned (.tuple #[.int .i64 (apR op l).1, .int .i64 (apR op l).2]) ∧ ∃ m, w' = w.drewN m := by
  by_cases hb : op < 1 ∨ 17 < op
  · have e : apR op l = (0, 2) := by
      unfold apR
      split
      · rw [if_neg (by omega)]
      · rw [if_neg (by omega)]
      · rw [if_neg (by omega)]
      · rfl
    rw [e]; exact Calls.same (apply_bad op v l w hA hb)
  obtain ⟨k, rfl⟩ : ∃ k : Nat, op = k := ⟨op.toNat, by omega⟩
  by_cases h12 : k = 1 ∨ k = 2
  · have e : apR k l = (0, 2) := by
      unfold apR
      split
      · rw [if_neg (by omega)]
      · rw [if_neg (by omega)]
      · rw [if_neg (by omega)]
      · rfl
    rw [e]; exact Calls.same (apply_leaf k v l w hG hA h12)
  by_cases hn : (l.length : Int) = aaK k
  · by_cases h34 : k = 3 ∨ k = 4
    · have e : aaK (k : Int) = 1 := by unfold aaK; rw [if_pos (by omega)]
      rw [e] at hn
      match l, hn, hA with
      | [x], _, hA =>
        have e2 : apR k [x] = (ap1 k x, 0) := by simp only [apR]; rw [if_pos (by omega)]
        rw [e2]; exact Calls.same (apply_one k v x w hG hA h34)
    by_cases h17 : k = 17
    · subst h17
      match l, hn, hA with
      | [x, y, z], _, hA => exact apply_three v x y z w hG hA
    · have e : aaK (k : Int) = 2 := by unfold aaK; rw [if_neg (by omega), if_pos (by omega)]
      rw [e] at hn
      match l, hn, hA with
      | [x, y], _, hA => exact apply_two k v x y w hG hA (by omega)
  · have e : apR k l = (0, 2) := by
      unfold aaK at hn
      unfold apR
      split
      · rw [if_neg]; intro h; rw [if_pos h] at hn; exact hn rfl
      · rw [if_neg]; intro h; rw [if_neg (by omega), if_pos h] at hn; exact hn rfl
      · rw [if_neg]; intro h; rw [if_neg (by omega), if_neg (by omega), if_pos h] at hn; exact hn rfl
      · rfl
    rw [e]; exact Calls.same (apply_many k v l w hG hA (by omega) hn)
end Go.Proofs.YtkbcgcempchoaaaDoor

set_option linter.unusedSimpArgs false
set_option linter.unusedVariables false
namespace Go.Proofs.YtkbcgcempchoaaaDoor
open Go.RowKit Go.Lib Go.ChangeShapes Go.WideShapes Go.Deep

theorem Tryd.cellsBind : Tryd.prog.cellsOf 163 = 2 := by kernel_rfl
theorem Tryd.bytesBind : Tryd.prog.bytesOf 163 = 24 := by kernel_rfl
theorem spot_noneB {w : World} {a : Addr} {v : Value} (h : w.cell? a = some v) : a.spot = none := by
  unfold World.cell? at h
  split at h
  · split at h
    · cases h
    · rename_i hs; simpa using hs
  · cases h
theorem len2E {α : Type} (l : List α) (h : l.length = 2) : ∃ a b, l = [a, b] := by
  match l, h with
  | [a, b], _ => exact ⟨a, b, rfl⟩
section
variable {H : Type} {enc : TypeId × Value → H} {w : World}
theorem open_bind {fuel : Nat} {cs : List Value} {x : DataW H × List MemPlace} (h : DataW.trod enc Tryd.prog w 0 (fun _ => true) true fuel 163 cs = some x) :
    ∃ y : Bd, cs = [.string y.1, .int .i64 y.2] ∧ i6 y.2 ∧ y.1.size ≤ maxLen := by
  obtain ⟨xs, n, _, rfl, hl, hxl, hall⟩ := DataW.trod_struct Tryd.underlying163 h
  rw [Tryd.cellsBind] at hl
  obtain ⟨v0, v1, rfl⟩ := len2E cs hl
  obtain ⟨x0, x1, rfl⟩ := len2E xs hxl
  have g0 : DataW.trod enc Tryd.prog w 0 (fun _ => true) true n 9 (([v0, v1].drop 0).take (Tryd.prog.cellsOf 9)) = some x0 := hall 0 _ rfl
  have g1 : DataW.trod enc Tryd.prog w 0 (fun _ => true) true n 2 (([v0, v1].drop 1).take (Tryd.prog.cellsOf 2)) = some x1 := hall 1 _ rfl
  rw [Tryd.cellsStr] at g0
  rw [Tryd.cells2] at g1
  obtain ⟨s, k0, _, hs⟩ := DataW.trod_string Tryd.underlying9 g0
  obtain ⟨z1, k1, _, hw⟩ := DataW.trod_int Tryd.underlying2 g1
  simp at k0 k1
  subst k0; subst k1
  exact ⟨(s, z1), rfl, bounds_i64 hw, hs⟩
theorem open_binds {fuel : Nat} {v : Value} {x : DataW H × List MemPlace} (h : DataW.trod enc Tryd.prog w 0 (fun _ => true) true fuel 38 [v] = some x) :
    ∃ (ao : Option Addr) (cap : Nat) (l : List Bd), v = .slice ao l.length cap ∧ Bds w ao cap l ∧ BdOk l ∧ ((∀ n ∈ x.1.weights Tryd.prog 38, n ≤ reachBytes) → cap * 24 ≤ 140737488351232) := by
  rcases open_slice Tryd.underlying38 h with ⟨hcs, rfl⟩ | ⟨a, len, cap, m, n, D, Pl, hcs, _, hl, hm, hmm, rfl, hx⟩
  · simp only [List.cons.injEq, and_true] at hcs
    subst hcs
    exact ⟨none, 0, [], rfl, ⟨⟨by simp, by simp, fun _ => rfl⟩, .inl rfl⟩, fun _ h => by simp at h, fun _ => by simp⟩
  · simp only [List.cons.injEq, and_true] at hcs
    subst hcs
    simp only [if_true] at hmm
    subst hmm
    have each : ∀ i, i < m → ∃ y : Bd, ∃ cs', w.cells? 0 (a.add (i * 2)) 2 = some cs' ∧ cs' = [.string y.1, .int .i64 y.2] ∧ i6 y.2 ∧ y.1.size ≤ maxLen := by
      intro i hi
      obtain ⟨cs', h1, h2⟩ := hx i hi
      rw [Tryd.cellsBind] at h1
      obtain ⟨y, e, h3⟩ := open_bind h2
      exact ⟨y, cs', h1, e, h3⟩
    have : Inhabited Bd := ⟨bd0⟩
    obtain ⟨q, hq⟩ := choose_lt each
    have hlen : ((List.range len).map fun i => q i).length = len := by simp
    have hget : ∀ i, i < len → ((List.range len).map fun i => q i).getD i bd0 = q i := fun i hi => by simp [hi]
    refine ⟨some a, m, (List.range len).map fun i => q i, by rw [hlen], ⟨⟨by rw [hlen]; exact hl, hm, by simp⟩, ?_⟩, fun x hx => ?_, fun hw => ?_⟩
    · by_cases h0 : len = 0
      · left; subst h0; rfl
      · right
        have hc0 : w.cell? a = some (.string (q 0).1) := by
          obtain ⟨cs', h1, rfl, _⟩ := hq 0 (by omega)
          have := (World.cells?_some h1).2.2 0 (by omega)
          rw [Nat.zero_mul] at this
          exact this
        obtain ⟨b, o, sp⟩ := a
        have hsp : sp = none := spot_noneB hc0
        subst hsp
        refine ⟨b, o, rfl, World.block_lt_of_cell? _ _ hc0, fun i hi => ?_⟩
        rw [hlen] at hi
        rw [hget i hi]
        obtain ⟨cs', h1, rfl, h3⟩ := hq i (by omega)
        have hcell := (World.cells?_some h1).2.2
        rw [Go.WideShapes.add_plain] at hcell
        refine ⟨?_, ?_⟩
        · have := hcell 0 (by omega); rw [Go.WideShapes.add_plain] at this; exact this
        · have := hcell 1 (by omega); rw [Go.WideShapes.add_plain] at this; exact this
    · obtain ⟨i, hi, rfl⟩ := List.mem_map.1 hx
      obtain ⟨cs', _, _, h3⟩ := hq i (by have := List.mem_range.1 hi; omega)
      exact h3
    · have := hw ((((List.range len).map D).length + ((List.range (m - len)).map fun j => D (len + j)).length) * Tryd.prog.bytesOf 163) (by simp only [DataW.weights, Tryd.underlying38 ]; exact List.mem_cons_self ..)
      rw [Tryd.bytesBind] at this
      simp only [List.length_map, List.length_range, reachBytes] at this
      omega
end

theorem gGrpW : Tryd.prog.globalNamed "sorrel/arith.groups" = some 0 := by kernel_rfl
theorem gGrpTypeW : (Tryd.prog.globals[ 0 ]?).map (·.type) = some 83 := by kernel_rfl
theorem c_grpsW : Tryd.prog.cellsOf 83 = 18 := by kernel_rfl
theorem c_grpW : Tryd.prog.cellsOf 82 = 1 := by kernel_rfl
theorem u_grpW : Tryd.prog.underlying 82 = some (.int .i64) := by kernel_rfl
theorem grpData_eqW : Rows.laid_sorrel_arith_groups = (tabData .i64 grps : DataW Unit) := by kernel_rfl
theorem grps_of_readsW {w : World} (h : VarReads Tryd.prog w "sorrel/arith.groups" (tabData .i64 grps)) : GrpCells w := by
  obtain ⟨g, t, cs, fuel, p, hg, hty, hvar, hd⟩ := h
  obtain rfl := Option.some.inj (gGrpW.symm.trans hg)
  obtain rfl := Option.some.inj (gGrpTypeW.symm.trans hty)
  have e := cells_of_tab Tryd.underlying83 u_grpW c_grpW c_grpsW hd
  intro k hk
  rw [World.var?_cell hg hvar k, ← Array.getElem?_toList, e, List.getElem?_map]
  have hl : k < grps.length := hk
  rw [List.getElem?_eq_getElem hl, Option.map_some, List.getD_eq_getElem?_getD, List.getElem?_eq_getElem hl]
  rfl
def deValsW (d : DataW Unit) : Array Value := match d with
  | .agg l => (l.map fun x => match x with | .lit (.int k z) => Value.int k z | _ => Value.int .u8 0).toArray
  | _ => #[]
theorem tabW4_of_laid {W : World} (h : laidMetH Tryd.prog [("unicode/utf8.acceptRanges", Rows.laid_unicode_utf8_acceptRanges), ("sorrel/runes.spans", Rows.laid_sorrel_runes_spans), ("sorrel/arith.groups", Rows.laid_sorrel_arith_groups), ("unicode/utf8.first", Rows.laid_unicode_utf8_first)] W) : Tabs W ∧ GrpCells W := by
  rw [MakeChecks.laidMetH_plain _ _ _ (by kernel_rfl)] at h
  have r2 := laidMet.reads h (n := "sorrel/arith.groups") (d := Rows.laid_sorrel_arith_groups) (by simp)
  have r3 := laidMet.reads h (n := "unicode/utf8.acceptRanges") (d := Rows.laid_unicode_utf8_acceptRanges) (by simp)
  have r4 := laidMet.reads h (n := "sorrel/runes.spans") (d := Rows.laid_sorrel_runes_spans) (by simp)
  have r5 := laidMet.reads h (n := "unicode/utf8.first") (d := Rows.laid_unicode_utf8_first) (by simp)
  rw [grpData_eqW] at r2
  rw [accept_eq] at r3
  rw [spansData_eq] at r4
  rw [first_eq] at r5
  exact ⟨⟨spans_of_reads r4, utf8Tabs_of_reads Tryd.lays260 u8Extra r5 r3⟩, grps_of_readsW r2⟩
def laidWorldW (P : Program) (os : Os) : World :=
  { World.holding P os ⟨#[], #[], []⟩ with heap := setVals (setVals (setVals (setVals (World.holding P os ⟨#[], #[], []⟩).heap 3 spanVals) 1 firstVals) 2 acceptVals) 0 (deValsW Rows.laid_sorrel_arith_groups) }
end Go.Proofs.YtkbcgcempchoaaaDoor
