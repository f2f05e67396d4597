/-
  EnvMust, walked.
-/
import Derived.Test.YtpdohdmpjaklgaaEvMsW
import Derived.Lib.ConvBytes
set_option linter.unusedSimpArgs false
set_option linter.unusedVariables false
namespace Go.Proofs.Ytpdohdmpjaklgaa
open Go.RowKit

theorem below_bytes {n : Nat} {w : World} (W : World) (e : TypeId) (s : ByteArray) (hb : Below n w W) (hn : n ≤ W.heap.size) : Below n w (Lib.bytesWorld W e s) := by
  refine ⟨hb.os, hb.tape, hb.output, ?_, fun k hk => ?_⟩
  · rw [Lib.bytesWorld_size]; exact Nat.le_succ_of_le hb.size
  · rw [Lib.bytesWorld_at_old W e s k (by omega)]; exact hb.block k hk
abbrev vlV (k : ByteArray) (kd n : Int) (t : ByteArray) : Value := .agg #[.string k, .int .i64 kd, .int .i64 n, .string t]
set_option maxRecDepth 100000 in
set_option maxHeartbeats 2000000 in
theorem value_zero (k : ByteArray) (n : Int) (t : ByteArray) (w : World) : Calls Try.prog 6 #[vlV k 0 n t] w fun e w' => e = .returned (.iface 2 (.int .i64 n)) ∧ Below w.heap.size w w' := by
  go_enter Try.func6, Try.ntmps6
  go_wp2
  go_ret
  exact ⟨rfl, (Below.refl _ _).alloc (Nat.le_refl _) _⟩
set_option maxRecDepth 100000 in
set_option maxHeartbeats 4000000 in
theorem value_other (k : ByteArray) (kd n : Int) (t : ByteArray) (w : World) (h : kd ≠ 0) : Calls Try.prog 6 #[vlV k kd n t] w fun e w' => (∃ v, e = .returned v ∧ NotT 2 v) ∧ Below w.heap.size w w' := by
  have h0 : (kd == 0) = false := by simp [h]
  clear h
  by_cases h1 : kd = 1
  · subst h1
    go_enter Try.func6, Try.ntmps6
    go_wp2
    go_ret
    exact ⟨⟨_, rfl, .inr ⟨_, _, rfl, by decide⟩⟩, (Below.refl _ _).alloc (Nat.le_refl _) _⟩
  by_cases h2 : kd = 2
  · subst h2
    go_enter Try.func6, Try.ntmps6
    go_wp2
    go_ret
    exact ⟨⟨_, rfl, .inr ⟨_, _, rfl, by decide⟩⟩, (Below.refl _ _).alloc (Nat.le_refl _) _⟩
  by_cases h3 : kd = 3
  · subst h3
    go_enter Try.func6, Try.ntmps6
    go_wp2
    go_ret
    exact ⟨⟨_, rfl, .inr ⟨_, _, rfl, by decide⟩⟩, (Below.refl _ _).alloc (Nat.le_refl _) _⟩
  by_cases h4 : kd = 4
  · subst h4
    go_enter Try.func6, Try.ntmps6
    go_wp2
    go_ret
    exact ⟨⟨_, rfl, .inr ⟨_, _, rfl, by decide⟩⟩, (Below.refl _ _).alloc (Nat.le_refl _) _⟩
  by_cases h5 : kd = 5
  · subst h5
    go_enter Try.func6, Try.ntmps6
    go_wp2
    go_ret
    exact ⟨⟨_, rfl, .inr ⟨_, _, rfl, by decide⟩⟩, (Below.refl _ _).alloc (Nat.le_refl _) _⟩
  by_cases h6 : kd = 6
  · subst h6
    go_enter Try.func6, Try.ntmps6
    go_wp2
    go_ret
    exact ⟨⟨_, rfl, .inr ⟨_, _, rfl, by decide⟩⟩, (Below.refl _ _).alloc (Nat.le_refl _) _⟩
  by_cases h7 : kd = 7
  · subst h7
    go_enter Try.func6, Try.ntmps6
    go_wp2
    go_ret
    exact ⟨⟨_, rfl, .inr ⟨_, _, rfl, by decide⟩⟩, (Below.refl _ _).alloc (Nat.le_refl _) _⟩
  by_cases h8 : kd = 8
  · subst h8
    have hcv := fun w => Lib.run_convert_string_bytes (P := Try.prog) w 9 38 5 t Try.underlying9 Try.underlying38 Try.underlying5
    go_enter Try.func6, Try.ntmps6
    go_wp2
    go_ret
    exact ⟨⟨_, rfl, .inr ⟨_, _, rfl, by decide⟩⟩, below_bytes _ _ _ ((Below.refl _ _).alloc (Nat.le_refl _) _) (by simp)⟩
  · have e1 : (kd == 1) = false := by simp [h1]
    have e2 : (kd == 2) = false := by simp [h2]
    have e3 : (kd == 3) = false := by simp [h3]
    have e4 : (kd == 4) = false := by simp [h4]
    have e5 : (kd == 5) = false := by simp [h5]
    have e6 : (kd == 6) = false := by simp [h6]
    have e7 : (kd == 7) = false := by simp [h7]
    have e8 : (kd == 8) = false := by simp [h8]
    clear h1 h2 h3 h4 h5 h6 h7 h8
    go_enter Try.func6, Try.ntmps6
    go_wp2
    go_ret
    exact ⟨⟨_, rfl, .inl rfl⟩, (Below.refl _ _).alloc (Nat.le_refl _) _⟩

set_option maxRecDepth 100000 in
set_option maxHeartbeats 4000000 in
theorem envMust_walk (k : ByteArray) (kd n : Int) (t : ByteArray) (w : World) : Calls Try.prog 3 #[vlV k kd n t] w fun e w' => e = .returned (.bool true) ∧ Below w.heap.size w w' := by
  have hrt := rtTAE
  have cA : Hid (∀ W, Calls Try.prog 4 #[] W fun e w' => e = .returned (.bool true) ∧ Below W.heap.size W w') := awake_any
  have hcs : ∀ {W : World}, Below (w.heap.size + 1) (w.alloc (.cells #[.string k, .int .i64 kd, .int .i64 n, .string t] 23)) W → W.cell? ⟨w.heap.size, 0, none⟩ = some (.string k) ∧ W.cell? ⟨w.heap.size, 1, none⟩ = some (.int .i64 kd) ∧ W.cell? ⟨w.heap.size, 2, none⟩ = some (.int .i64 n) ∧ W.cell? ⟨w.heap.size, 3, none⟩ = some (.string t) := by
    intro W hb
    refine ⟨?_, ?_, ?_, ?_⟩
    · exact (hb.cell (p := ⟨w.heap.size, 0, none⟩) (by simp)).trans (by simp)
    · exact (hb.cell (p := ⟨w.heap.size, 1, none⟩) (by simp)).trans (by simp)
    · exact (hb.cell (p := ⟨w.heap.size, 2, none⟩) (by simp)).trans (by simp)
    · exact (hb.cell (p := ⟨w.heap.size, 3, none⟩) (by simp)).trans (by simp)
  have HC : Hid (∀ {W : World}, Below (w.heap.size + 1) (w.alloc (.cells #[.string k, .int .i64 kd, .int .i64 n, .string t] 23)) W → W.cell? ⟨w.heap.size, 0, none⟩ = some (.string k) ∧ W.cell? ⟨w.heap.size, 1, none⟩ = some (.int .i64 kd) ∧ W.cell? ⟨w.heap.size, 2, none⟩ = some (.int .i64 n) ∧ W.cell? ⟨w.heap.size, 3, none⟩ = some (.string t)) := @hcs
  clear hcs
  have hbw : Below w.heap.size w (w.alloc (.cells #[.string k, .int .i64 kd, .int .i64 n, .string t] 23)) := (Below.refl _ _).alloc (Nat.le_refl _) _
  have h1n : ∀ {W W' : World}, Below (w.heap.size + 1) (w.alloc (.cells #[.string k, .int .i64 kd, .int .i64 n, .string t] 23)) W → Below W.heap.size W W' → Below (w.heap.size + 1) (w.alloc (.cells #[.string k, .int .i64 kd, .int .i64 n, .string t] 23)) W' := fun {W W'} h h' => h.trans (h'.mono (by have := h.size; rw [World.size_alloc] at this; exact this))
  have HT : Hid (∀ {W W' : World}, Below (w.heap.size + 1) (w.alloc (.cells #[.string k, .int .i64 kd, .int .i64 n, .string t] 23)) W → Below W.heap.size W W' → Below (w.heap.size + 1) (w.alloc (.cells #[.string k, .int .i64 kd, .int .i64 n, .string t] 23)) W') := @h1n
  clear h1n
  by_cases h0 : kd = 0
  · subst h0
    go_enter Try.func3, Try.ntmps3
    go_wp2_with (first
      | (go_at_call 4; refine (cA.out _).mono ?_; rintro e w2 ⟨rfl, b2⟩; rw [World.size_alloc] at b2; obtain ⟨x0, x1, x2, x3⟩ := HC.out b2)
      | (go_at_call 6; refine (value_zero k n t _).mono ?_; rintro e w3 ⟨rfl, b3⟩; have b3' := HT.out b2 b3)
      | (go_at_call 5; refine (caught_yes n _).mono ?_; rintro e w4 ⟨rfl, b4⟩; have b4' := HT.out b3' b4; obtain ⟨y0, y1, y2, y3⟩ := HC.out b4'))
    go_ret
    exact ⟨rfl, hbw.trans (b4'.mono (by omega))⟩
  · have h0' : (kd == 0) = false := by simp [h0]
    have cV : Hid (∀ W, Calls Try.prog 6 #[vlV k kd n t] W fun e w' => (∃ v, e = .returned v ∧ NotT 2 v) ∧ Below W.heap.size W w') := fun W => value_other k kd n t W h0
    clear h0
    go_enter Try.func3, Try.ntmps3
    go_wp2_with (first
      | (go_at_call 4; refine (cA.out _).mono ?_; rintro e w2 ⟨rfl, b2⟩; rw [World.size_alloc] at b2; obtain ⟨x0, x1, x2, x3⟩ := HC.out b2)
      | (go_at_call 6; refine (cV.out _).mono ?_; rintro e w3 ⟨⟨v, rfl, hv⟩, b3⟩; have b3' := HT.out b2 b3; have hv : Hid (NotT 2 v) := hv)
      | (go_at_call 5; refine (caught_no v _ hv.out).mono ?_; rintro e w4 ⟨⟨p, rfl⟩, b4⟩; have b4' := HT.out b3' b4; obtain ⟨y0, y1, y2, y3⟩ := HC.out b4'; unfold rte))
    go_ret
    exact ⟨rfl, hbw.trans (b4'.mono (by omega))⟩
end Go.Proofs.Ytpdohdmpjaklgaa
