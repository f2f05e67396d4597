/-
  Same, Least, Group, Add, walked.
-/
import Derived.Test.YtfnbkffphpidbaaFoW3
import Derived.Test.YtfnbkffphpidbaaShelf
import Derived.Lib.SortBridge
set_option linter.unusedSimpArgs false
set_option linter.unusedVariables false
namespace Go.Proofs.Ytfnbkffphpidbaa
open Go.RowKit Go.Lib Go.Sort

theorem hasB_nat {m : List Mv} {a : Nat} : hasB m (a : Int) = true ↔ a < m.length := by
  rw [hasB_iff]
  constructor
  · rintro ⟨k, h, h2⟩; omega
  · intro h; exact ⟨a, rfl, h⟩

set_option maxRecDepth 20000 in
set_option maxHeartbeats 2000000 in
theorem fsame_bad (w : World) (p : Nat) (v : Value) (m : List Mv) (a b : Int) (h : FoM w p v m) (hn : (hasB m a && hasB m b) = false) :
    Calls Try.prog 14 #[.pointer (some ⟨p, 0, none⟩), .int .i64 a, .int .i64 b] w fun e w' => e = .returned (.tuple #[.bool false, .int .i64 2]) ∧ w' = w := by
  have cA : Hid (∀ V, V = w → Calls Try.prog 29 #[.pointer (some ⟨p, 0, none⟩), .int .i64 a] V fun e w' => e = .returned (.bool (hasB m a)) ∧ w' = w) := fun V hV => by subst hV; exact fhas_any V p v m a h
  have cB : Hid (∀ V, V = w → Calls Try.prog 29 #[.pointer (some ⟨p, 0, none⟩), .int .i64 b] V fun e w' => e = .returned (.bool (hasB m b)) ∧ w' = w) := fun V hV => by subst hV; exact fhas_any V p v m b h
  clear h
  cases h1 : hasB m a
  · rw [h1] at cA
    go_enter Try.func14, Try.ntmps14
    go_wp2_with fail
    refine (cA.out _ rfl).mono ?_
    rintro e w' ⟨rfl, rfl⟩
    go_wp2_with fail
    go_ret2
    exact ⟨rfl, rfl⟩
  · have h2 : hasB m b = false := by simpa [h1] using hn
    rw [h1] at cA
    rw [h2] at cB
    go_enter Try.func14, Try.ntmps14
    go_wp2_with fail
    refine (cA.out _ rfl).mono ?_
    rintro e w' ⟨rfl, rfl⟩
    go_wp2_with fail
    refine (cB.out _ rfl).mono ?_
    rintro e w' ⟨rfl, rfl⟩
    go_wp2_with fail
    go_ret2
    exact ⟨rfl, rfl⟩
set_option maxRecDepth 20000 in
set_option maxHeartbeats 2000000 in
theorem fsame_ok (w : World) (p : Nat) (v : Value) (m : List Mv) (a b : Nat) (h : FoM w p v m) (ha : a < m.length) (hb : b < m.length) :
    Calls Try.prog 14 #[.pointer (some ⟨p, 0, none⟩), .int .i64 a, .int .i64 b] w fun e w' => e = .returned (.tuple #[.bool (decide ((mA m a).rt = (mA m b).rt)), .int .i64 0]) ∧ w' = w := by
  have cA : Hid (∀ V, V = w → Calls Try.prog 29 #[.pointer (some ⟨p, 0, none⟩), .int .i64 a] V fun e w' => e = .returned (.bool true) ∧ w' = w) := fun V hV => by subst hV; rw [← hasB_nat.2 ha]; exact fhas_any V p v m a h
  have cB : Hid (∀ V, V = w → Calls Try.prog 29 #[.pointer (some ⟨p, 0, none⟩), .int .i64 b] V fun e w' => e = .returned (.bool true) ∧ w' = w) := fun V hV => by subst hV; rw [← hasB_nat.2 hb]; exact fhas_any V p v m b h
  have rA : Hid (∀ V, V = w → Calls Try.prog 30 #[.pointer (some ⟨p, 0, none⟩), .int .i64 a] V fun e w' => e = .returned (.int .i64 (mA m a).rt) ∧ w' = w) := fun V hV => by subst hV; exact froot_any V p v m a h ha
  have rB : Hid (∀ V, V = w → Calls Try.prog 30 #[.pointer (some ⟨p, 0, none⟩), .int .i64 b] V fun e w' => e = .returned (.int .i64 (mA m b).rt) ∧ w' = w) := fun V hV => by subst hV; exact froot_any V p v m b h hb
  clear h
  generalize (mA m a).rt = x at *
  generalize (mA m b).rt = y at *
  obtain ⟨d, hd⟩ : ∃ d, decide (x = y) = d := ⟨_, rfl⟩
  have hd2 : ((x : Int) == (y : Int)) = d := by rw [← hd]; by_cases h : x = y <;> simp [h]; omega
  rw [hd]
  clear hd
  go_enter Try.func14, Try.ntmps14
  go_wp2_with fail
  refine (cA.out _ rfl).mono ?_
  rintro e w' ⟨rfl, rfl⟩
  go_wp2_with fail
  refine (cB.out _ rfl).mono ?_
  rintro e w' ⟨rfl, rfl⟩
  go_wp2_with fail
  refine (rA.out _ rfl).mono ?_
  rintro e w' ⟨rfl, rfl⟩
  go_wp2_with fail
  refine (rB.out _ rfl).mono ?_
  rintro e w' ⟨rfl, rfl⟩
  go_wp2_with fail
  go_ret2
  exact ⟨rfl, rfl⟩

set_option maxRecDepth 20000 in
set_option maxHeartbeats 2000000 in
theorem fleast_bad (w : World) (p : Nat) (v : Value) (m : List Mv) (a : Int) (h : FoM w p v m) (hn : hasB m a = false) :
    Calls Try.prog 16 #[.pointer (some ⟨p, 0, none⟩), .int .i64 a] w fun e w' => e = .returned (.tuple #[.int .i64 0, .int .i64 2]) ∧ w' = w := by
  have cA : Hid (∀ V, V = w → Calls Try.prog 29 #[.pointer (some ⟨p, 0, none⟩), .int .i64 a] V fun e w' => e = .returned (.bool false) ∧ w' = w) := fun V hV => by subst hV; rw [← hn]; exact fhas_any V p v m a h
  clear h
  go_enter Try.func16, Try.ntmps16
  go_wp2_with fail
  refine (cA.out _ rfl).mono ?_
  rintro e w' ⟨rfl, rfl⟩
  go_wp2_with fail
  go_ret2
  exact ⟨rfl, rfl⟩
set_option maxRecDepth 20000 in
set_option maxHeartbeats 2000000 in
theorem fleast_ok (w : World) (p : Nat) (v : Value) (m : List Mv) (a : Nat) (h : FoM w p v m) (ha : a < m.length) (hr : (mA m a).rt < m.length) :
    Calls Try.prog 16 #[.pointer (some ⟨p, 0, none⟩), .int .i64 a] w fun e w' => e = .returned (.tuple #[.int .i64 (mA m (mA m a).rt).ls, .int .i64 0]) ∧ ∃ n, w' = w.drewN n := by
  have cA : Hid (∀ V, V = w → Calls Try.prog 29 #[.pointer (some ⟨p, 0, none⟩), .int .i64 a] V fun e w' => e = .returned (.bool true) ∧ w' = w) := fun V hV => by subst hV; rw [← hasB_nat.2 ha]; exact fhas_any V p v m a h
  have cR : Hid (∀ n, Calls Try.prog 30 #[.pointer (some ⟨p, 0, none⟩), .int .i64 a] (w.drewN n) fun e w' => e = .returned (.int .i64 (mA m a).rt) ∧ w' = w.drewN n) := fun n => froot_any _ p _ m a (h.drew n) ha
  obtain ⟨g, cap, rfl, hg, hgl, hc, hm⟩ := h.row ha
  have c0 := h.c0
  have c1 := (h.at_ hr).c7
  unfold maxLen at hm
  clear h
  generalize (mA m a).rt = R at *
  generalize (mA m R).ls = Z at *
  have hI : (R : Int) < (m.length : Int) := by omega
  go_enter Try.func16, Try.ntmps16
  go_wp2_with fail
  refine (cA.out _ rfl).mono ?_
  rintro e w' ⟨rfl, rfl⟩
  go_wp2_with fail
  go_quiet ((go_at_call 30; exact Calls.quiet_of_same (cR.out _)))
  go_wp2_with fail
  go_ret2
  exact ⟨rfl, _, rfl⟩

/-- The members of a's group, rising. -/
def grpL (m : List Mv) (a : Nat) : List Nat := (List.range m.length).filter fun y => decide ((mA m y).rt = (mA m a).rt)
theorem mem_grpL {m : List Mv} {a y : Nat} : y ∈ grpL m a ↔ y < m.length ∧ (mA m y).rt = (mA m a).rt := by simp [grpL]
theorem grpL_pw (m : List Mv) (a : Nat) : (grpL m a).Pairwise (· < ·) := List.Pairwise.filter _ List.pairwise_lt_range
theorem sort_grp {m : List Mv} {a : Nat} {l : List Nat} (h1 : (a :: l).Nodup) (h2 : ∀ y, y ∈ a :: l ↔ y < m.length ∧ (mA m y).rt = (mA m a).rt) :
    (((a :: l).map fun x : Nat => (x : Int)).mergeSort fun x y => decide (x ≤ y)) = (grpL m a).map fun x : Nat => (x : Int) := by
  have hp : List.Perm (a :: l) (grpL m a) := by
    refine (List.perm_ext_iff_of_nodup h1 ?_).2 (fun y => by rw [h2, mem_grpL])
    exact (grpL_pw m a).imp (fun h => by omega)
  have hp2 := (List.mergeSort_perm ((a :: l).map fun x : Nat => (x : Int)) (fun x y => decide (x ≤ y))).trans (hp.map fun x : Nat => (x : Int))
  have s1 : (((a :: l).map fun x : Nat => (x : Int)).mergeSort fun x y => decide (x ≤ y)).Pairwise (fun x y => x ≤ y) := by
    have := List.pairwise_mergeSort (le := fun (x y : Int) => decide (x ≤ y)) (fun a b c h1 h2 => by simp at *; omega) (fun a b => by simp; omega) ((a :: l).map fun x : Nat => (x : Int))
    exact this.imp (fun h => by simpa using h)
  have s2 : ((grpL m a).map fun x : Nat => (x : Int)).Pairwise (fun x y => x ≤ y) := by
    rw [List.pairwise_map]
    exact (grpL_pw m a).imp (fun h => by omega)
  exact hp2.eq_of_pairwise (fun x y _ _ h1 h2 => by omega) s1 s2
end Go.Proofs.Ytfnbkffphpidbaa
