/-
  The list of nodes that a term stands for; of a sound expression's term it is the expression.
-/
import Derived.Test.YtiobcipmieefaaaDoorBxOfP
import Derived.Test.YtiobcipmieefaaaDoorExDecPure
set_option linter.unusedSimpArgs false
set_option linter.unusedVariables false
namespace Go.Proofs.YtiobcipmieefaaaDoor
open Go.RowKit Go.Lib

def flatT : Tm → List Nd
  | .lit n => joinL 1 n ⟨#[]⟩ []
  | .var s => joinL 2 0 s []
  | .un op a => joinL op 0 ⟨#[]⟩ [flatT a]
  | .bin op a b => joinL op 0 ⟨#[]⟩ [flatT a, flatT b]
  | .ifs c a b => joinL 17 0 ⟨#[]⟩ [flatT c, flatT a, flatT b]
  | _ => joinL 0 0 ⟨#[]⟩ []
theorem flatT_eq (t : Tm) : flatT t = joinL (opT t) (nT t) (nameT t) ((partsT t).map flatT) := by
  cases t <;> simp [flatT, opT, nT, nameT, partsT]

/-- What a sound node has not. -/
theorem form_rest {x : Nd} (h : formB x = true) : (x.op ≠ 1 → x.n = 0) ∧ (x.op ≠ 2 → x.name = ⟨#[]⟩) := by
  unfold formB fitB at h
  simp only [Bool.and_eq_true, Bool.or_eq_true, decide_eq_true_eq] at h
  obtain ⟨⟨_, h2⟩, h3⟩ := h
  refine ⟨fun hn => ?_, fun hn => ?_⟩
  · rcases h2 with h2 | h2
    · exact h2
    · exact absurd h2 hn
  · rw [if_neg hn] at h3
    have h4 : x.name.data.toList = [] := by simpa [toList_data] using h3
    exact ByteArray.ext (Array.toList_eq_nil_iff.1 h4)

theorem flat_tm {l : List Nd} {fr : List Nat} (hs : begL l = some fr) : ∀ i, i < l.length → flatT (tmA l i) = partL l (fr.getD i 0) i := by
  have hok := begOk_of (begL_some hs).2.2.1
  intro i
  induction i using Nat.strongRecOn with
  | ind i IH =>
    intro hi
    have hkk := snd_kk hs i hi
    have hform := (hok.at_ i hi).1
    have hcs := form_cases hform
    obtain ⟨hr1, hr2⟩ := form_rest hform
    rw [part_join hok i hi]
    have L1 := @tmA_lit l i hi
    have L2 := @tmA_var l i hi
    have L3 := @tmA_un l i hi
    have L4 := @tmA_bin l i hi
    have L5 := @tmA_ifs l i hi
    have IK : ∀ z : Nat, z < i → flatT (tmA l z) = kidPart l fr (z : Int) := fun z hz => by
      rw [IH z hz (by omega)]; unfold kidPart; rw [Int.toNat_natCast]
    generalize l.getD i nd0 = x at *
    obtain ⟨op, n, nm, kids⟩ := x
    simp only at hcs hkk hr1 hr2 L1 L2 L3 L4 L5 ⊢
    rcases hcs with ⟨h, rfl⟩ | ⟨h, rfl⟩ | ⟨h1, h2, a, rfl⟩ | ⟨h1, h2, a, b, rfl⟩ | ⟨h, c, a, b, rfl⟩
    · rw [L1 h hkk, hr2 (by omega), h]; rfl
    · rw [L2 h hkk, hr1 (by omega), h]; rfl
    · have ha := hkk a (by simp)
      obtain ⟨a, rfl⟩ : ∃ z : Nat, a = (z : Int) := ⟨a.toNat, by omega⟩
      rw [L3 h1 h2 a rfl hkk, hr1 h1, hr2 h2]
      simp only [flatT, List.map_cons, List.map_nil]
      rw [IK a (by omega)]
    · have ha := hkk a (by simp)
      have hb := hkk b (by simp)
      obtain ⟨a, rfl⟩ : ∃ z : Nat, a = (z : Int) := ⟨a.toNat, by omega⟩
      obtain ⟨b, rfl⟩ : ∃ z : Nat, b = (z : Int) := ⟨b.toNat, by omega⟩
      rw [L4 h1 h2 a b rfl hkk, hr1 h1, hr2 h2]
      simp only [flatT, List.map_cons, List.map_nil]
      rw [IK a (by omega), IK b (by omega)]
    · have hc := hkk c (by simp)
      have ha := hkk a (by simp)
      have hb := hkk b (by simp)
      obtain ⟨c, rfl⟩ : ∃ z : Nat, c = (z : Int) := ⟨c.toNat, by omega⟩
      obtain ⟨a, rfl⟩ : ∃ z : Nat, a = (z : Int) := ⟨a.toNat, by omega⟩
      obtain ⟨b, rfl⟩ : ∃ z : Nat, b = (z : Int) := ⟨b.toNat, by omega⟩
      rw [L5 h c a b rfl hkk, hr1 (by omega), hr2 (by omega), h]
      simp only [flatT, List.map_cons, List.map_nil]
      rw [IK c (by omega), IK a (by omega), IK b (by omega)]

/-- The whole, there and back. -/
theorem flat_whole {l : List Nd} {fr : List Nat} (hs : begL l = some fr) : flatT (tmA l (l.length - 1)) = l := by
  obtain ⟨h0, _, hr, ht⟩ := begL_some hs
  rw [flat_tm hs _ (by omega), ht]
  unfold partL
  have e : l.length - 1 + 1 - 0 = l.length := by omega
  rw [e]
  simp [map_mvN_zero]
end Go.Proofs.YtiobcipmieefaaaDoor
