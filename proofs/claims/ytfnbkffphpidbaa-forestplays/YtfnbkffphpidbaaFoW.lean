/-
  The forest's small functions, walked.
-/
import Derived.Test.YtfnbkffphpidbaaFoM
import Derived.Test.YtfnbkffphpidbaaQTail
import Derived.Lib.QuietBelow
import Derived.Deep.QuietTactic
import Derived.BigQuiet
import Derived.Laws.ResultCell
set_option linter.unusedSimpArgs false
set_option linter.unusedVariables false
namespace Go.Proofs.Ytfnbkffphpidbaa
open Go.RowKit Go.Lib Go.Sort

theorem FoM.drew {w : World} {p : Nat} {v : Value} {m : List Mv} (h : FoM w p v m) (n : Nat) : FoM (w.drewN n) p v m := ⟨h.blk, h.on, h.ifv, h.le⟩

set_option maxHeartbeats 1000000 in
theorem fnew_any (w : World) : Calls Try.prog 9 #[] w fun e w' => e = .returned (.pointer (some ⟨w.heap.size, 0, none⟩)) ∧ w' = w.alloc (.cells #[.slice none 0 0] 65) := by
  go_enter Try.func9, Try.ntmps9
  go_wp2
  go_ret
  exact ⟨rfl, rfl⟩
theorem FoM.fresh (w : World) : FoM (w.alloc (.cells #[.slice none 0 0] 65)) w.heap.size (.slice none 0 0) [] :=
  ⟨Deep.blk_alloc_new _ _, World.ownsRow_nil _ _ _ _, fun x => IfV.nil, by simp⟩

set_option maxHeartbeats 1000000 in
theorem flen_any (w : World) (p : Nat) (v : Value) (m : List Mv) (h : FoM w p v m) : Calls Try.prog 11 #[.pointer (some ⟨p, 0, none⟩)] w fun e w' => e = .returned (.int .i64 m.length) ∧ w' = w := by
  obtain ⟨ao, cap, rfl⟩ := h.form
  have c0 := h.c0
  go_enter Try.func11, Try.ntmps11
  go_wp2
  go_ret
  exact ⟨rfl, rfl⟩
set_option maxHeartbeats 1000000 in
theorem flen_nil (w : World) : Calls Try.prog 11 #[.pointer none] w fun e w' => e = .returned (.int .i64 0) ∧ w' = w := by
  go_enter Try.func11, Try.ntmps11
  go_wp2
  go_ret
  exact ⟨rfl, rfl⟩

/-- Is it a member's number? -/
def hasB (m : List Mv) (a : Int) : Bool := decide (0 ≤ a) && decide (a < (m.length : Int))
theorem hasB_iff {m : List Mv} {a : Int} : hasB m a = true ↔ ∃ k : Nat, a = k ∧ k < m.length := by
  unfold hasB
  simp only [Bool.and_eq_true, decide_eq_true_eq]
  constructor
  · rintro ⟨h1, h2⟩; exact ⟨a.toNat, by omega, by omega⟩
  · rintro ⟨k, rfl, h⟩; omega
set_option maxHeartbeats 1000000 in
theorem fhas_any (w : World) (p : Nat) (v : Value) (m : List Mv) (a : Int) (h : FoM w p v m) : Calls Try.prog 29 #[.pointer (some ⟨p, 0, none⟩), .int .i64 a] w fun e w' => e = .returned (.bool (hasB m a)) ∧ w' = w := by
  have HL : Hid (∀ V, V = w → Calls Try.prog 11 #[.pointer (some ⟨p, 0, none⟩)] V fun e w' => e = .returned (.int .i64 m.length) ∧ w' = w) := fun V hV => by subst hV; exact flen_any V p v m h
  unfold hasB
  by_cases h0 : 0 ≤ a
  · obtain ⟨L, hL⟩ : ∃ L, m.length = L := ⟨_, rfl⟩
    rw [hL] at HL ⊢
    clear hL
    go_enter Try.func29, Try.ntmps29
    go_wp2_with (go_at_call 11; refine (HL.out _ rfl).mono ?_; rintro e w' ⟨rfl, rfl⟩)
    go_ret
    exact ⟨by simp [h0], rfl⟩
  · go_enter Try.func29, Try.ntmps29
    go_wp2
    go_ret
    exact ⟨by rw [show decide (0 ≤ a) = false from decide_eq_false (by omega), Bool.false_and]; rfl, rfl⟩
set_option maxHeartbeats 1000000 in
theorem fhas_nil (w : World) (a : Int) : Calls Try.prog 29 #[.pointer none, .int .i64 a] w fun e w' => e = .returned (.bool false) ∧ w' = w := by
  by_cases h0 : 0 ≤ a
  · have h1 : ¬ a < 0 := by omega
    go_enter Try.func29, Try.ntmps29
    go_wp2_with (go_at_call 11; refine (flen_nil _).mono ?_; rintro e w' ⟨rfl, rfl⟩)
    go_ret
    exact ⟨by simp [h1], rfl⟩
  · go_enter Try.func29, Try.ntmps29
    go_wp2
    go_ret
    exact ⟨rfl, rfl⟩

set_option maxHeartbeats 1000000 in
theorem froot_any (w : World) (p : Nat) (v : Value) (m : List Mv) (a : Nat) (h : FoM w p v m) (ha : a < m.length) : Calls Try.prog 30 #[.pointer (some ⟨p, 0, none⟩), .int .i64 a] w fun e w' => e = .returned (.int .i64 (mA m a).rt) ∧ w' = w := by
  obtain ⟨g, cap, rfl, hg, hgl, hc, hm⟩ := h.row ha
  have c0 := h.c0
  have c1 := (h.at_ ha).c0
  unfold maxLen at hm
  have hI : (a : Int) < (m.length : Int) := by omega
  go_enter Try.func30, Try.ntmps30
  go_wp2
  go_ret
  exact ⟨rfl, rfl⟩

set_option maxHeartbeats 1000000 in
theorem fsize_any (w : World) (p : Nat) (v : Value) (m : List Mv) (a : Nat) (h : FoM w p v m) (ha : a < m.length) (hr : (mA m a).rt < m.length) : Calls Try.prog 37 #[.pointer (some ⟨p, 0, none⟩), .int .i64 a] w fun e w' => e = .returned (.int .i64 (mA m (mA m a).rt).sz) ∧ ∃ n, w' = w.drewN n := by
  obtain ⟨g, cap, rfl, hg, hgl, hc, hm⟩ := h.row ha
  have c0 := h.c0
  have c1 := (h.at_ hr).c6
  unfold maxLen at hm
  have cR : Hid (∀ n, Calls Try.prog 30 #[.pointer (some ⟨p, 0, none⟩), .int .i64 a] (w.drewN n) fun e w' => e = .returned (.int .i64 (mA m a).rt) ∧ w' = w.drewN n) := fun n => froot_any _ p _ m a (h.drew n) ha
  generalize (mA m a).rt = R at *
  generalize (mA m R).sz = Z at *
  have hI : (R : Int) < (m.length : Int) := by omega
  clear h
  go_enter Try.func37, Try.ntmps37
  go_wp2_with fail
  go_quiet ((go_at_call 30; exact Calls.quiet_of_same (cR.out _)))
  go_wp2_with fail
  go_ret
  exact ⟨rfl, _, rfl⟩

/-- A step in a value. -/
def egV (g : Eg) : Value := .agg #[.int .i64 g.f, .int .i64 g.t, g.w, .bool g.b]
set_option maxRecDepth 20000 in
set_option maxHeartbeats 1000000 in
theorem fturn_any (w : World) (g : Eg) (hi : IfV g.w) : Calls Try.prog 34 #[egV g] w fun e w' => e = .returned (egV g.tn) ∧ Below w.heap.size w w' := by
  obtain ⟨f, t, u, b⟩ := g
  simp only at hi
  unfold egV Eg.tn
  rcases hi with rfl | ⟨T, x, rfl⟩
  all_goals
    go_enter Try.func34, Try.ntmps34
    go_wp2
    refine bodyPost_ret (v := .agg #[.int .i64 t, .int .i64 f, _, .bool (!b)]) (by simp [results, Try.results34, go_sem]) rfl ⟨rfl, ?_⟩
    repeat (first | exact Below.refl _ _ | refine Below.alloc ?_ (by simp <;> omega) _ | refine Below.drew ?_ | refine Below.setCell ?_ (by simp <;> omega) _)
end Go.Proofs.Ytfnbkffphpidbaa
