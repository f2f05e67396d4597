/-
  PROVED: for every list of nodes and every environment: of a sound expression what Eval, Term and Eval of what Parse reads of its text come to are the same, Open of its term is the expression, All gives the terms of its parts one after the other, and what Show writes is read by Parse as the expression; of what is not sound Eval and Box answer ErrForm, and there is no term. Its condition: the package variables that the card lists hold when the call begins what the program text lays (the card ties them).
-/
import Derived.Test.YtljigfiokekpoaaGreatDoorChecked
import GoSem.PinnedTables
import GoSem.Claim
import GoSem.ClaimJoined
import GoSem.ClaimMapViews
import Derived.JoinedTies
import Derived.KernelRfl
import GoSem.ClaimSeven
import Derived.LaidByTextLater
import Derived.SevenTiedAt
import Derived.LaidSub
import Derived.LaidOnce
import Derived.Shelf.Unicode.DecodeSlow
import Derived.Laws.RangeAny
import Derived.Shelf.Strings.Builder1
import Derived.Shelf.Small.Utf8
import Derived.Shelf.Strings.BuilderF
import Derived.Shelf.Strings.BuilderK
import Derived.Shelf.Strings.BuilderRune
import Derived.Shelf.Utf8.AppendRune
import Derived.Shelf.Strconv.Itoa0
import Derived.Shelf.Strconv.Itoa1
import Derived.Shelf.LaysM
import Derived.Shelf.Strconv.Itoa2
import Derived.Shelf.Strconv.Itoa3
import Derived.Shelf.Strconv.Itoa4
import Derived.Shelf.Strings.Prefix
import Derived.Shelf.Unicode.DecodeAny
import Derived.Test.YtljigfiokekpoaaGreatDoorProg
import Derived.WalkKit
import Derived.Deep.DeepFit
import Derived.Lib.OthersKept
import Derived.Lib.RuneCountTail
import Derived.Lib.LaidU8
import Derived.MakeChecks
import Derived.ProofKit
import Derived.OpenShut
import Derived.Deep.DeepHandedRow
import Derived.RowKit
import Derived.Laws.Entries
import Derived.Below
import Derived.Deep.AppendLies
import Derived.Deep.OwnRows
import Derived.Laws.AppendOwnNone
import Derived.Deep.QuietTactic
import Derived.BigQuiet
import Derived.Deep.RegionWith
import Derived.Laws.DeepStrings4
import Derived.Deep.Slices
import Derived.SizedLaws
import Derived.Lib.LaidTab
import Derived.Lib.MapLaws
import Derived.Sort.Walk0
import Derived.Lib.ItoaNum
import Derived.BigCall
import Derived.Maps.OwnSet
import Derived.StringKeys
import Derived.Lib.QuietBelow
import Derived.StillTail
import Derived.Laws.OwnMore
import Derived.Defers
import Derived.Deep.RegionLaw
import Derived.Laws.ResultCell
import Derived.RangeFuncNested
import Derived.RangeFuncBound
import Derived.RangeFuncCalls
import Derived.RangeFuncLeaves
import Derived.RangeFuncBox
import Derived.Shelf.Abstract
import Derived.Shelf.RegionOpen
import Derived.OwnWalkIn
import Derived.TacticsInMore
import Derived.LoopNIn
import Derived.LoopIn
import Derived.Lib.Strings
import Derived.RangeFuncOwn
import Derived.Lib.Small
import Derived.Deep.RegionHeld3
import Derived.Deep.Heap
import Derived.Laws.Rows
import Derived.Laws.IdiomStrings
import Derived.WideKeyArgs
import Derived.Test.YtljigfiokekpoaaGreatDoorRows
import Derived.Test.YtljigfiokekpoaaGreatDoorCards
import Derived.Test.YtljigfiokekpoaaGreatDoorTie
import Derived.Test.YtljigfiokekpoaaGreatDoorZ01
import Derived.Test.YtljigfiokekpoaaGreatDoorZ02
import Derived.Test.YtljigfiokekpoaaGreatDoorZ03
import Derived.Test.YtljigfiokekpoaaGreatDoorZ04
import Derived.Test.YtljigfiokekpoaaGreatDoorZ05
import Derived.Test.YtljigfiokekpoaaGreatDoorZ06
import Derived.Test.YtljigfiokekpoaaGreatDoorZ07
import Derived.Test.YtljigfiokekpoaaGreatDoorZ08
import Derived.Test.YtljigfiokekpoaaGreatDoorZ09
import Derived.Test.YtljigfiokekpoaaGreatDoorZ10
import Derived.Test.YtljigfiokekpoaaGreatDoorZ11
import Derived.Test.YtljigfiokekpoaaGreatDoorZ12
import Derived.Test.YtljigfiokekpoaaGreatDoorZ13
import Derived.Test.YtljigfiokekpoaaGreatDoorZ14
import Derived.Test.YtljigfiokekpoaaGreatDoorZ15
import Derived.Test.YtljigfiokekpoaaGreatDoorZ16
import Derived.Test.YtljigfiokekpoaaGreatDoorZ17
import Derived.Test.YtljigfiokekpoaaGreatDoorZ18
import Derived.Test.YtljigfiokekpoaaGreatDoorZ19
import Derived.Test.YtljigfiokekpoaaGreatDoorZ20
import Derived.Test.YtljigfiokekpoaaGreatDoorZ21
import Derived.Test.YtljigfiokekpoaaGreatDoorZ22
import Derived.Test.YtljigfiokekpoaaGreatDoorZ23
import Derived.Test.YtljigfiokekpoaaGreatDoorZ24
import Derived.Test.YtljigfiokekpoaaGreatDoorZ25
import Derived.Test.YtljigfiokekpoaaGreatDoorZ26
import Derived.Test.YtljigfiokekpoaaGreatDoorZ27
import Derived.Test.YtljigfiokekpoaaGreatDoorZ28
import Derived.Test.YtljigfiokekpoaaGreatDoorZ29
import Derived.Test.YtljigfiokekpoaaGreatDoorZ30
import Derived.Test.YtljigfiokekpoaaGreatDoorZ31
import Derived.Test.YtljigfiokekpoaaGreatDoorZ32
import Derived.Test.YtljigfiokekpoaaGreatDoorZ33
import Derived.Test.YtljigfiokekpoaaGreatDoorZ34
import Derived.Test.YtljigfiokekpoaaGreatDoorZ35
import Derived.Test.YtljigfiokekpoaaGreatDoorZ36
import Derived.Test.YtljigfiokekpoaaGreatDoorZ37
import Derived.Test.YtljigfiokekpoaaGreatDoorZ38
import Derived.Test.YtljigfiokekpoaaGreatDoorZ39
import Derived.Test.YtljigfiokekpoaaGreatDoorZ40
import Derived.Test.YtljigfiokekpoaaGreatDoorZ41
import Derived.Test.YtljigfiokekpoaaGreatDoorZ42
import Derived.Test.YtljigfiokekpoaaGreatDoorZ43
import Derived.Test.YtljigfiokekpoaaGreatDoorZ44
import Derived.Test.YtljigfiokekpoaaGreatDoorZ45
import Derived.Test.YtljigfiokekpoaaGreatDoorZ46
set_option linter.unusedVariables false
namespace Go.Proofs.YtljigfiokekpoaaGreatDoor.wholeforms
open Go.ChangeShapes Go.WideShapes Go.ChangeAt Go.RowKit Go.WideMaps Go.WideElems
open Go.ChangeMaps (open_string shut_string)

theorem laid_met (os : Os) : laidMet Tryz.prog Rows.wholeFormsRow.laid ((laidWorld8 Tryz.prog os).forCall (fun _ _ => 0) ⟨#[], #[.slice none 0 0, .slice none 0 0], []⟩).memory :=
  laidMet_of_run' 8 (by kernel_rfl) (by kernel_rfl)
theorem reads (os : Os) {H : Type} (enc : TypeId × Value → H) : ∃ places, DataW.whole enc Tryz.prog ((laidWorld8 Tryz.prog os).forCall (fun _ _ => 0) ⟨#[], #[.slice none 0 0, .slice none 0 0], []⟩).memory Tryz.f3.params.toList Rows.wholeFormsSpec.vars false #[Value.slice none 0 0, Value.slice none 0 0].toList 8 = some ([.nil, .nil], [], places) :=
  ⟨[], by kernel_rfl⟩

set_option maxRecDepth 100000 in
theorem lifted (os : Os) (started : os.Started) (H : Type) (enc : TypeId × Value → H) (F : Stop.Interp) :
    ReturnsInHanded {} Tryz.checked os 3 .any ((OpenSpec.ofChange Rows.wholeFormsSpec).preRow enc Tryz.prog Tryz.f3 Rows.wholeFormsRow.domain false Rows.wholeFormsRow.laid) (((OpenSpec.ofChange Rows.wholeFormsSpec).at F).post enc Tryz.prog Tryz.f3 false true false false) := by
  obtain ⟨places, hx⟩ := reads os enc
  refine returnsInHanded_of_row (C := Tryz.checked) (s := OpenSpec.ofChange Rows.wholeFormsSpec) own started (by kernel_rfl) Tryz.func3
    (witness_row_at (enc := enc) (C := Tryz.checked) false (laidWorld8 Tryz.prog os) #[.slice none 0 0, .slice none 0 0] rfl (by kernel_rfl) (by kernel_rfl) (by kernel_rfl)
      (OpenSpec.preRow_of_cond 8 hx (by kernel_rfl) (fun k hk => by cases hk) (by kernel_rfl) (laid_met os))) ?_
  intro W base args ds gs before hval hW _ hcond hsz hL _ _
  exact contract H enc W base args ds gs before hval hW hsz hL

theorem said : Rows.WholeFormsSaid :=
  OpenClaim.holds_of_cond 3 Tryz.f3 rfl rfl rfl rfl rfl rfl rfl ⟨rfl, rfl, rfl, rfl, rfl⟩ rfl rfl rfl rfl rfl (by kernel_rfl) Tryz.func3 (by kernel_rfl)
    (of_decide_eq_true (by kernel_rfl)) (by unfold Func.isWrapper; first | (rw [if_pos (by decide +kernel)]; kernel_rfl) | (rw [if_neg (by decide +kernel)]; exact ⟨rfl, rfl⟩))
    (fun os started H enc _ F => by rw [OpenClaim.pre_eq_preRow]; exact lifted os started H enc F)

theorem plain (f : FuncId) (fn : Func) (hf : Tryz.pinned.checked.prog.funcNamed "sorrel/sorreltop.WholeForms" = some f) (hfn : Tryz.pinned.checked.prog.funcs[f]? = some fn) :
    true = Tryz.pinned.checked.prog.looks [] ∧ ∀ (j : Nat) t, fn.params[j]? = some t → Tryz.pinned.checked.prog.wantsStandIn t = false := by
  obtain rfl : f = 3 := Option.some.inj ((show Tryz.prog.funcNamed "sorrel/sorreltop.WholeForms" = some 3 by kernel_rfl).symm.trans hf) |>.symm
  obtain rfl : fn = Tryz.f3 := (Option.some.inj (Tryz.func3.symm.trans hfn)).symm
  refine ⟨by kernel_rfl, fun j t ht => ?_⟩
  rw [Tryz.params3 ] at ht
  have hm := Array.mem_of_getElem? ht
  simp only [List.mem_toArray, List.mem_cons, List.not_mem_nil, or_false] at hm
  rcases hm with rfl | rfl
  · exact (show Tryz.prog.wantsStandIn 22 = false by kernel_rfl)
  · exact (show Tryz.prog.wantsStandIn 23 = false by kernel_rfl)

/-- THE CARD. -/
theorem card : Rows.WholeFormsCardSaid :=
  Claim7.holds_tied_plain_at .later [] _ _ _ _ said (fun _ h => by cases h) (by kernel_rfl) (fun _ h => by cases h) wholeForms_row_tie rfl ⟨rfl, rfl⟩ (by kernel_rfl) rfl plain (by kernel_rfl)
end Go.Proofs.YtljigfiokekpoaaGreatDoor.wholeforms
namespace Go.Proofs.YtljigfiokekpoaaGreatDoor
/-- WholeForms: the card. -/
theorem wholeForms_holds : Rows.WholeFormsCardSaid := wholeforms.card
end Go.Proofs.YtljigfiokekpoaaGreatDoor
