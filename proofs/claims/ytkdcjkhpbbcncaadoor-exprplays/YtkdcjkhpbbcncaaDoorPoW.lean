/-
  The document's Part.
-/
import Derived.Test.YtkdcjkhpbbcncaaDoorTbC3
import Derived.Test.YtkdcjkhpbbcncaaDoorExRdW
set_option linter.unusedSimpArgs false
set_option linter.unusedVariables false
namespace Go.Proofs.YtkdcjkhpbbcncaaDoor
open Go.RowKit Go.Lib

theorem part_num {l : List Nd} {a i : Nat} (h : ∀ x ∈ l, (Lit.int .i64 x.n).wf = true) : ∀ x ∈ partL l a i, (Lit.int .i64 x.n).wf = true := fun x hx => by
  obtain ⟨y, hy, rfl⟩ := List.mem_map.1 hx
  exact h y (List.mem_of_mem_drop (List.mem_of_mem_take hy))
/-- Copy, all of its memory young. -/
theorem copy_ownB (w : World) (ao : Option Addr) (cap : Nat) (l : List Nd) (hR : Rd w ao cap l) (hF : FitX l) :
    Calls Tryd.prog 11 #[.slice ao l.length cap] w fun e w' => ∃ v', e = .returned v' ∧ OwnN w' w.heap.size v' l ∧ Below w.heap.size w w' :=
  copy_any _ l w _ (Nat.le_refl _) hR (by have := hF.len; omega) (fun x hx => by have := hF.kids x hx; omega)

set_option maxRecDepth 20000 in
set_option maxHeartbeats 4000000 in
theorem refPart_any (w : World) (ao : Option Addr) (cap : Nat) (l : List Nd) (fr : List Nat) (i : Nat) (hR : Rd w ao cap l) (hF : FitX l) (hb : begL l = some fr) (hi : i < l.length) :
    Calls Tryd.prog 14 #[.slice ao l.length cap, .int .i64 i] w fun e w' => ∃ ao' cap' base, e = .returned (.tuple #[.slice ao' (partL l (fr.getD i 0) i).length cap', .int .i64 0]) ∧ OwnN w' base (.slice ao' (partL l (fr.getD i 0) i).length cap') (partL l (fr.getD i 0) i) ∧ Below w.heap.size w w' := by
  have CC : Sld (Calls Tryd.prog 12 #[.slice ao l.length cap] w fun e w' => e = .returned (.int .i64 0) ∧ Below w.heap.size w w') := ⟨rchkR hR hF.fit 0 (chkE_yes (by simp [sndB, hb]))⟩
  have CP : Sld (∀ W, Below w.heap.size w W → Calls Tryd.prog 49 #[.slice ao l.length cap, .int .i64 i] W fun e w' => ∃ ao' cap', e = .returned (.slice ao' (partL l (fr.getD i 0) i).length cap') ∧ ExO W (.slice ao' (partL l (fr.getD i 0) i).length cap') (partL l (fr.getD i 0) i) w') := ⟨fun W hW => partOf_any W ao cap l fr i (hR.below hW hW.size) hF hb hi⟩
  have hiI : (i : Int) < (l.length : Int) := by omega
  obtain ⟨m, hm⟩ : ∃ m, partL l (fr.getD i 0) i = m := ⟨_, rfl⟩
  rw [hm] at CP ⊢
  clear hb hm hR hF
  go_enter Tryd.func14, Tryd.ntmps14
  go_wp2_with fail
  refine CC.out.mono ?_
  rintro e w2 ⟨rfl, hb2⟩
  have HB2 : Sld (Below w.heap.size w w2) := ⟨hb2⟩
  clear hb2
  go_wp2_with fail
  refine (CP.out w2 HB2.out).mono ?_
  rintro e w3 ⟨ao', cap', rfl, hx⟩
  have HX : Sld (ExO w2 (.slice ao' m.length cap') m w3) := ⟨hx⟩
  clear hx
  go_wp2_with fail
  go_ret2
  exact ⟨ao', cap', w2.heap.size, rfl, HX.out.own, HB2.out.trans (HX.out.below.mono HB2.out.size)⟩
end Go.Proofs.YtkdcjkhpbbcncaaDoor
