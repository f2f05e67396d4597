/-
  Get, and awake, walked, where nothing but these is in the dump.
-/
import Derived.Test.YtpdohdmpjaklgaaEvLastW
set_option linter.unusedSimpArgs false
set_option linter.unusedVariables false
namespace Go.Proofs.Ytpdohdmpjaklgaa
open Go.RowKit Go.Lib

set_option maxHeartbeats 1000000 in
theorem get_any (ao : Option Addr) (cap : Nat) (l : List Bd) (nm : ByteArray) (hreach : l.length * 24 ≤ 140737488355328) (w : World) (hI : Bds w ao cap l) :
    Calls Try.prog 7 #[.slice ao l.length cap, .string nm] w fun e W' => e = .returned (.int .i64 (getB l nm)) ∧ Below w.heap.size w W' := by
  have c1 : Hid (∀ W, Bds W ao cap l → Calls Try.prog 10 #[.slice ao l.length cap, .string nm] W fun e W' => e = .returned (.int .i64 (lastB l nm)) ∧ Below W.heap.size W W') := fun W hW => last_any ao cap l nm hreach W hW
  have hr := lastB_range l nm
  rw [getB_last]
  by_cases h : lastB l nm < 0
  · have e : lastB l nm = -1 := by omega
    rw [e] at c1 ⊢
    rw [if_pos (by decide)]
    go_enter Try.func7, Try.ntmps7
    go_wp2_with (go_at_call 10; refine (c1.out _ (by assumption)).mono ?_; rintro e w2 ⟨rfl, b2⟩)
    go_ret
    exact ⟨rfl, b2⟩
  · obtain ⟨k, hk⟩ : ∃ k : Nat, lastB l nm = k := ⟨(lastB l nm).toNat, by omega⟩
    rw [hk] at c1 hr ⊢
    rw [if_neg (by omega), Int.toNat_natCast]
    have hkl : k < l.length := by omega
    have hkl2 : (k : Int) < (l.length : Int) := by omega
    obtain ⟨b, o, rfl, hb, hc⟩ := hI.at_ hkl
    obtain ⟨x, hx⟩ : ∃ x, l.getD k bd0 = x := ⟨_, rfl⟩
    rw [hx] at hc ⊢
    have HC : Hid (BdAt w b (o + k * 2) x) := hc
    clear hx hc h hr hkl
    go_enter Try.func7, Try.ntmps7
    go_wp2_with (go_at_call 10; refine (c1.out _ (by assumption)).mono ?_; rintro e w2 ⟨rfl, b2⟩; have cc := (HC.out.below hb b2).c1)
    go_ret
    exact ⟨rfl, b2⟩

set_option maxHeartbeats 1000000 in
theorem awake_any (w : World) : Calls Try.prog 4 #[] w fun e W' => e = .returned (.bool true) ∧ Below w.heap.size w W' := by
  have hI : Bds (w.alloc (.cells #[.string ⟨#[97]⟩, .int .i64 3] 33)) (some ⟨w.heap.size, 0, none⟩) 1 [(⟨#[97]⟩, 3)] := by
    refine ⟨⟨by simp, by simp [maxLen], by simp⟩, .inr ⟨w.heap.size, 0, rfl, by simp, fun i hi => ?_⟩⟩
    obtain rfl : i = 0 := by simpa using hi
    exact ⟨by simp, by simp⟩
  have cg : Hid (Calls Try.prog 7 #[.slice (some ⟨w.heap.size, 0, none⟩) 1 1, .string ⟨#[97]⟩] (w.alloc (.cells #[.string ⟨#[97]⟩, .int .i64 3] 33)) fun e W' => e = .returned (.int .i64 3) ∧ Below (w.heap.size + 1) (w.alloc (.cells #[.string ⟨#[97]⟩, .int .i64 3] 33)) W') := by
    have := get_any _ 1 [(⟨#[97]⟩, 3)] ⟨#[97]⟩ (by simp) _ hI
    have e : getB [((⟨#[97]⟩ : ByteArray), (3 : Int))] ⟨#[97]⟩ = 3 := by simp [getB, getN]
    rw [e] at this
    rw [World.size_alloc] at this
    exact this
  go_enter Try.func4, Try.ntmps4
  go_wp2_with (go_at_call 7; refine cg.out.mono ?_; rintro e w2 ⟨rfl, b2⟩)
  go_ret
  exact ⟨rfl, ((Below.refl w.heap.size w).alloc (Nat.le_refl _) _).trans (b2.mono (by omega))⟩
end Go.Proofs.Ytpdohdmpjaklgaa
