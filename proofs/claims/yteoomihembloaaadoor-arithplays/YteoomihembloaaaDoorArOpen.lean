/-
  An argument that is a list of numbers, opened.
-/
import Derived.Test.YteoomihembloaaaDoorArPlW
import Derived.Deep.Slices
import Derived.SizedLaws
set_option linter.unusedSimpArgs false
set_option linter.unusedVariables false
namespace Go.Proofs.YteoomihembloaaaDoor
open Go.RowKit Go.Lib Go.ChangeShapes Go.WideShapes Go.Deep

theorem Tryd.laidOut : laidOutB Tryd.prog = true := by kernel_rfl
theorem Tryd.cells2 : Tryd.prog.cellsOf 2 = 1 := by kernel_rfl
theorem Tryd.bytes2 : Tryd.prog.bytesOf 2 = 8 := by kernel_rfl
theorem spot_none {w : World} {a : Addr} {v : Value} (h : w.cell? a = some v) : a.spot = none := by
  unfold World.cell? at h
  split at h
  · split at h
    · cases h
    · rename_i hs; simpa using hs
  · cases h

theorem open_i64s {H : Type} {enc : TypeId × Value → H} {w : World} {fuel : Nat} {v : Value} {x : DataW H × List MemPlace} (h : DataW.trod enc Tryd.prog w 0 (fun _ => true) true fuel 22 [v] = some x) :
    ∃ (ao : Option Addr) (cap : Nat) (l : List Int), v = .slice ao l.length cap ∧ Rg w ao cap l ∧ ((∀ n ∈ x.1.weights Tryd.prog 22, n ≤ reachBytes) → l.length * 8 ≤ 140737488351232) := by
  rcases open_ints Tryd.underlying22 Tryd.underlying2 Tryd.cells2 h with ⟨hcs, rfl⟩ | ⟨a, len, cap, zs, hcs, _, hl, hm, hz, rfl, hc, hwf⟩
  · simp only [List.cons.injEq, and_true] at hcs
    subst hcs
    exact ⟨none, 0, [], rfl, ⟨by simp, fun _ => by simp, .inl rfl, by simp⟩, fun _ => by simp⟩
  · simp only [List.cons.injEq, and_true] at hcs
    subst hcs
    simp only [if_true] at hz
    have hlen : (zs.take len).length = len := by simp; omega
    refine ⟨some a, cap, zs.take len, by rw [hlen], ⟨by omega, by simp, ?_, ?_⟩, fun hw => ?_⟩
    · by_cases h0 : len = 0
      · left; exact List.length_eq_zero_iff.1 (by omega)
      · right
        have hc0 := hc 0 (by omega)
        obtain ⟨b, o, sp⟩ := a
        have hsp : sp = none := by
          have e : (⟨b, o, sp⟩ : Addr).add 0 = ⟨b, o, sp⟩ := rfl
          rw [e] at hc0; exact spot_none hc0
        subst hsp
        refine ⟨b, o, rfl, World.block_lt_of_cell? _ _ hc0, fun j x hx => ?_⟩
        have hj : j < len := by have := (List.getElem?_eq_some_iff.1 hx).1; omega
        have := hc j (by omega)
        rw [Go.WideShapes.add_plain] at this
        rw [this]
        rw [List.getElem?_take, if_pos hj] at hx
        simp [hx]
    · intro x hx
      have := bounds_i64 (hwf x (List.mem_of_mem_take hx))
      exact this
    · have := hw ((((lits .i64 (zs.take len)).length : Nat) + (lits .i64 (zs.drop len)).length) * Tryd.prog.bytesOf 2) (by simp only [DataW.weights, Tryd.underlying22 ]; exact List.mem_cons_self ..)
      rw [Tryd.bytes2] at this
      simp only [lits, List.length_map, List.length_take, List.length_drop, reachBytes] at this
      rw [hlen]; omega
end Go.Proofs.YteoomihembloaaaDoor
