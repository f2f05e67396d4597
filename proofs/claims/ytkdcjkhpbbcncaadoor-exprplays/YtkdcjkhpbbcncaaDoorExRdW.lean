/-
  The contracts as readers use them.
-/
import Derived.Test.YtkdcjkhpbbcncaaDoorExAwkW
import Derived.Test.YtkdcjkhpbbcncaaDoorExCopW
import Derived.Test.YtkdcjkhpbbcncaaDoorExSameW
import Derived.Test.YtkdcjkhpbbcncaaDoorExRefW
import Derived.Test.YtkdcjkhpbbcncaaDoorExSplPure
set_option linter.unusedSimpArgs false
set_option linter.unusedVariables false
namespace Go.Proofs.YtkdcjkhpbbcncaaDoor
open Go.RowKit Go.Lib

/-- Within the reach. -/
structure Fit (l : List Nd) : Prop where
  len : l.length * 56 ≤ 140737488355328
  kids : ∀ x ∈ l, x.kids.length * 8 ≤ 140737488355328
  name : ∀ x ∈ l, x.name.size ≤ maxLen

/-- The slice reads as l, anywhere in memory. -/
def Rd (w : World) (ao : Option Addr) (cap : Nat) (l : List Nd) : Prop := Nodes w w.heap.size (.slice ao l.length cap) l
theorem Rd.below {w w' : World} {ao : Option Addr} {cap : Nat} {l : List Nd} (h : Rd w ao cap l) (hb : Below w.heap.size w w') (hs : w.heap.size ≤ w'.heap.size) : Rd w' ao cap l := Nodes.below h hb hs
theorem Rd_of_own {w : World} {base : Nat} {v : Value} {l : List Nd} (h : OwnN w base v l) : ∃ ao cap, v = .slice ao l.length cap ∧ Rd w ao cap l := by
  have hN := Nodes_of_own h (Nat.le_refl _)
  obtain ⟨ao, cap, rfl, _⟩ := id hN
  exact ⟨ao, cap, rfl, hN⟩
theorem Rd.bound {w : World} {ao : Option Addr} {cap : Nat} {l : List Nd} (h : Rd w ao cap l) : l.length ≤ cap ∧ cap ≤ maxLen := by
  obtain ⟨ao', cap', h1, h2, h3, _⟩ := h
  cases h1; exact ⟨h2, h3⟩

theorem copyR {w : World} {ao : Option Addr} {cap : Nat} {l : List Nd} (h : Rd w ao cap l) (hF : Fit l) :
    Calls Tryd.prog 11 #[.slice ao l.length cap] w fun e w' => ∃ ao' cap', e = .returned (.slice ao' l.length cap') ∧ Rd w' ao' cap' l ∧ Below w.heap.size w w' := by
  refine (copy_any _ l w _ (Nat.le_refl _) h hF.len hF.kids).mono ?_
  rintro e w' ⟨v', rfl, hO, hb⟩
  obtain ⟨ao', cap', rfl, hR⟩ := Rd_of_own hO
  exact ⟨ao', cap', rfl, hR, hb⟩
theorem sameR {w : World} {ao bo : Option Addr} {cap cb : Nat} {l m : List Nd} (h : Rd w ao cap l) (h2 : Rd w bo cb m) (r : Bool) (hr : decide (l = m) = r) :
    Calls Tryd.prog 15 #[.slice ao l.length cap, .slice bo m.length cb] w fun e w' => e = .returned (.bool r) ∧ Below w.heap.size w w' := by
  rw [← hr]; exact same_any _ _ l m w _ (Nat.le_refl _) h h2
theorem rchkR {w : World} {ao : Option Addr} {cap : Nat} {l : List Nd} (h : Rd w ao cap l) (hF : Fit l) (r : Int) (hr : chkE l = r) :
    Calls Tryd.prog 12 #[.slice ao l.length cap] w fun e w' => e = .returned (.int .i64 r) ∧ Below w.heap.size w w' := by
  rw [← hr]; exact refCheck_any _ l w _ (Nat.le_refl _) h hF.name
theorem partR {w : World} {ao : Option Addr} {cap : Nat} {l old : List Nd} {fr : List Nat} (T : SpanCells w) (h : Rd w ao cap l) (hb : begL l = some fr) (i : Nat) (at_ : Int) (hat : at_ = (i : Int)) (hi : i < l.length) (ho : partL l (fr.getD i 0) i = old) :
    Calls Tryd.prog 13 #[.slice ao l.length cap, .int .i64 at_] w fun e w' => ∃ ao' cap', e = .returned (.tuple #[.slice ao' old.length cap', .int .i64 0]) ∧ Rd w' ao' cap' old ∧ Below w.heap.size w w' := by
  subst hat ho
  refine (part_in _ l fr i _ w _ (Nat.le_refl _) T h hb hi rfl).mono ?_
  rintro e w' ⟨v', rfl, hO, hbl⟩
  obtain ⟨ao', cap', rfl, hR⟩ := Rd_of_own hO
  exact ⟨ao', cap', rfl, hR, hbl⟩
theorem putR {w : World} {ao bo : Option Addr} {cap cb : Nat} {l m x : List Nd} {fr fm : List Nat} (T : SpanCells w) (h : Rd w ao cap l) (h2 : Rd w bo cb m) (hb : begL l = some fr) (hb2 : begL m = some fm) (i : Nat) (at_ : Int) (hat : at_ = (i : Int)) (hi : i < l.length) (hsz : l.length + m.length + fr.getD i 0 ≤ 64 + (i + 1)) (hx : putL l (fr.getD i 0) i m = x) :
    Calls Tryd.prog 16 #[.slice ao l.length cap, .int .i64 at_, .slice bo m.length cb] w fun e w' => ∃ ao' cap', e = .returned (.tuple #[.slice ao' x.length cap', .int .i64 0]) ∧ Rd w' ao' cap' x ∧ Below w.heap.size w w' := by
  subst hat hx
  refine (put_in _ _ l m fr fm i _ w _ (Nat.le_refl _) T h h2 hb hb2 hi rfl hsz).mono ?_
  rintro e w' ⟨v', rfl, hO, hbl⟩
  obtain ⟨ao', cap', rfl, hR⟩ := Rd_of_own hO
  exact ⟨ao', cap', rfl, hR, hbl⟩
theorem putR_large {w : World} {ao bo : Option Addr} {cap cb : Nat} {l m : List Nd} {fr fm : List Nat} (T : SpanCells w) (h : Rd w ao cap l) (h2 : Rd w bo cb m) (hb : begL l = some fr) (hb2 : begL m = some fm) (i : Nat) (hi : i < l.length) (hsz : 64 + (i + 1) < l.length + m.length + fr.getD i 0) :
    Calls Tryd.prog 16 #[.slice ao l.length cap, .int .i64 i, .slice bo m.length cb] w fun e w' => e = .returned (.tuple #[.slice none 0 0, .int .i64 10]) ∧ Below w.heap.size w w' :=
  put_large _ _ l m fr fm i _ w _ (Nat.le_refl _) T h h2 hb hb2 hi rfl hsz

theorem fit_of_snd {l : List Nd} {fr : List Nat} (h : begL l = some fr) (hn : ∀ x ∈ l, x.name.size ≤ maxLen) : Fit l :=
  ⟨by have := (snd_bounds h).1; omega, fun x hx => by have := (snd_bounds h).2 x hx; omega, hn⟩
theorem mvN_name (f b : Int) (x : Nd) : (mvN f b x).name = x.name := rfl
theorem names_part {l : List Nd} (a i : Nat) (h : ∀ x ∈ l, x.name.size ≤ maxLen) : ∀ x ∈ partL l a i, x.name.size ≤ maxLen := by
  intro x hx
  obtain ⟨y, hy, rfl⟩ := List.mem_map.1 hx
  exact h y (List.mem_of_mem_drop (List.mem_of_mem_take hy))
theorem names_put {l m : List Nd} (a i : Nat) (h : ∀ x ∈ l, x.name.size ≤ maxLen) (hm : ∀ x ∈ m, x.name.size ≤ maxLen) : ∀ x ∈ putL l a i m, x.name.size ≤ maxLen := by
  intro x hx
  rcases List.mem_append.1 hx with hx | hx
  · rcases List.mem_append.1 hx with hx | hx
    · obtain ⟨y, hy, rfl⟩ := List.mem_map.1 hx
      exact h y (List.mem_of_mem_take hy)
    · obtain ⟨y, hy, rfl⟩ := List.mem_map.1 hx
      exact hm y hy
  · obtain ⟨y, hy, rfl⟩ := List.mem_map.1 hx
    exact h y (List.mem_of_mem_drop hy)

end Go.Proofs.YtkdcjkhpbbcncaaDoor
