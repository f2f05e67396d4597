/-
  Masks: of one name, of a list of names.
-/
import Derived.Test.YthecbkmpoamacaaRuC
set_option linter.unusedSimpArgs false
set_option linter.unusedVariables false
namespace Go.Proofs.Ythecbkmpoamacaa
open Go.RowKit

def sAll : ByteArray := ⟨#[97, 108, 108]⟩
def sNone : ByteArray := ⟨#[110, 111, 110, 101]⟩
/-- The mask of one name, and the error. -/
def chR (s : ByteArray) : Nat × Int := if s = sAll then (17592186044415, 0) else if s = sNone then (0, 0) else if idxR s < 44 then (2 ^ idxR s, 0) else (0, 7)
theorem wrap_pow : ∀ k, k < 44 → IntKind.u64.wrap (2 ^ k) = ((2 ^ k : Nat) : Int) := by decide
theorem chR_lt (s : ByteArray) : (chR s).1 < 2 ^ 44 := by
  unfold chR
  split
  · decide
  · split
    · decide
    · split
      · rename_i h; exact Nat.pow_lt_pow_right (by decide) h
      · decide

set_option maxRecDepth 20000 in
set_option maxHeartbeats 1000000 in
theorem chosenBy_any (w : World) (s : ByteArray) :
    Calls Try.prog 9 #[.string s] w fun e w' => e = .returned (.tuple #[.int .u64 ((chR s).1 : Nat), .int .i64 (chR s).2]) ∧ Below w.heap.size w w' := by
  by_cases h1 : s = sAll
  · have hN : Hid (chR s = (17592186044415, 0)) := by show chR s = _; unfold chR; rw [if_pos h1]
    subst h1
    have cT := table_any w
    unfold sAll at *
    go_enter Try.func9, Try.ntmps9
    go_wp2_with fail
    refine cT.mono ?_; rintro e w2 ⟨b, rfl, hb, hc, hb2⟩
    go_wp2_with fail
    go_ret2
    exact ⟨by rw [hN.out] <;> rfl, hb2⟩
  · have e0 : (s.toList == [97, 108, 108]) = false := by
      have : (s.toList == sAll.toList) = false := by rw [beq_toLisR]; exact decide_eq_false h1
      rw [show sAll.toList = [97, 108, 108] by rw [ByteArray.toList_eq]; rfl] at this
      exact this
    have e1 : (s.toList == (⟨#[97, 108, 108]⟩ : ByteArray).toList) = false := by rw [beq_toLisR]; exact decide_eq_false h1
    by_cases h2 : s = sNone
    · have hN : Hid (chR s = (0, 0)) := by show chR s = _; unfold chR; rw [if_neg h1, if_pos h2]
      subst h2
      unfold sNone at *
      go_enter Try.func9, Try.ntmps9
      go_wp2_with fail
      go_ret2
      exact ⟨by rw [hN.out] <;> rfl, Below.refl _ _⟩
    · have e3 : (s.toList == [110, 111, 110, 101]) = false := by
        have : (s.toList == sNone.toList) = false := by rw [beq_toLisR]; exact decide_eq_false h2
        rw [show sNone.toList = [110, 111, 110, 101] by rw [ByteArray.toList_eq]; rfl] at this
        exact this
      have e2 : (s.toList == (⟨#[110, 111, 110, 101]⟩ : ByteArray).toList) = false := by rw [beq_toLisR]; exact decide_eq_false h2
      have cN := named_any w s
      by_cases h3 : idxR s < 44
      · have hN : Hid (chR s = (2 ^ idxR s, 0)) := by show chR s = _; unfold chR; rw [if_neg h1, if_neg h2, if_pos h3]
        have hM : namR s = ((idxR s : Int), 0) := by unfold namR; rw [if_pos h3]
        rw [hM] at cN
        have hW : Hid (IntKind.u64.wrap (2 ^ idxR s) = ((2 ^ idxR s : Nat) : Int)) := wrap_pow (idxR s) h3
        generalize idxR s = k at *
        go_enter Try.func9, Try.ntmps9
        go_wp2_with (go_at_call 7; refine cN.mono ?_; rintro e w3 ⟨rfl, hb3⟩)
        go_ret2
        exact ⟨by rw [hN.out]; show Ending.returned (.tuple #[.int .u64 (IntKind.u64.wrap (2 ^ k)), .int .i64 0]) = .returned (.tuple #[.int .u64 ((2 ^ k : Nat) : Int), .int .i64 0]); rw [hW.out], hb3⟩
      · have hN : Hid (chR s = (0, 7)) := by show chR s = _; unfold chR; rw [if_neg h1, if_neg h2, if_neg h3]
        have hM : namR s = (0, 7) := by unfold namR; rw [if_neg h3]
        rw [hM] at cN
        go_enter Try.func9, Try.ntmps9
        go_wp2_with (go_at_call 7; refine cN.mono ?_; rintro e w3 ⟨rfl, hb3⟩)
        go_ret2
        exact ⟨by rw [hN.out] <;> rfl, hb3⟩
end Go.Proofs.Ythecbkmpoamacaa
