/-
  An argument that is a list of texts, opened: what it reads as.
-/
import Derived.Test.YtfhfokceeidhcaaDoorExOpen
import Derived.Test.YtfhfokceeidhcaaDoorSwTryW
import Derived.SliceStrings
set_option linter.unusedSimpArgs false
set_option linter.unusedVariables false
namespace Go.Proofs.YtfhfokceeidhcaaDoor
open Go.RowKit Go.Lib Go.ChangeShapes Go.WideShapes Go.Deep

theorem open_texts {H : Type} {enc : TypeId × Value → H} {w : World} {fuel : Nat} {v : Value} {x : DataW H × List MemPlace} (h : DataW.trod enc Tryd.prog w 0 (fun _ => true) true fuel 33 [v] = some x) :
    ∃ (ao : Option Addr) (cap : Nat) (qs : List ByteArray), v = .slice ao qs.length cap ∧ Strs w ao cap qs ∧ ∀ s ∈ qs, s.size ≤ maxLen := by
  rcases open_strings Tryd.underlying33 Tryd.underlying9 Tryd.cellsStr h with ⟨hcs, rfl⟩ | ⟨a, len, cap, ss, hcs, _, hl, hm, hz, rfl, hc, hs⟩
  · simp only [List.cons.injEq, and_true] at hcs
    subst hcs
    exact ⟨none, 0, [], rfl, ⟨by simp, by simp, .inl rfl⟩, by simp⟩
  · simp only [List.cons.injEq, and_true] at hcs
    subst hcs
    simp only [if_true] at hz
    have hlen : (ss.take len).length = len := by simp; omega
    refine ⟨some a, cap, ss.take len, by rw [hlen], ⟨by omega, hm, ?_⟩, fun s hx => hs s (List.mem_of_mem_take hx)⟩
    by_cases h0 : len = 0
    · left; exact List.length_eq_zero_iff.1 (by omega)
    · right
      have hc0 := hc 0 (by omega)
      obtain ⟨b, o, sp⟩ := a
      have hsp : sp = none := by
        have e : (⟨b, o, sp⟩ : Addr).add 0 = ⟨b, o, sp⟩ := rfl
        rw [e] at hc0; exact spot_none hc0
      subst hsp
      refine ⟨b, o, rfl, World.block_lt_of_cell? _ _ hc0, fun j hj => ?_⟩
      rw [hlen] at hj
      have := hc j (by omega)
      rw [add_plain] at this
      rw [this]
      have hjs : j < ss.length := by omega
      simp [List.getElem?_take, hj, hjs]
end Go.Proofs.YtfhfokceeidhcaaDoor
