/-
  x.
-/
import Derived.Test.YtlbmijcpalfaeaaDoorChecked
import GoSem.PinnedTables
import GoSem.Claim
import GoSem.ClaimJoined
import GoSem.ClaimMapViews
import Derived.JoinedTies
import Derived.KernelRfl
import GoSem.ClaimSeven
import Derived.LaidByTextLater
import Derived.SevenTiedAt
import Derived.LaidSub
import Derived.LaidOnce
import Derived.Shelf.Unicode.DecodeSlow
import Derived.Laws.RangeAny
import Derived.Shelf.Strconv.Itoa0
import Derived.Shelf.LaysM
import Derived.Shelf.Strconv.Clone
import Derived.Shelf.Unicode.DecodeAny
import Derived.Test.YtlbmijcpalfaeaaDoorProg
import Derived.WalkKit
import Derived.Deep.DeepFit
import Derived.Lib.OthersKept
import Derived.Lib.RuneCountTail
import Derived.Lib.LaidU8
import Derived.MakeChecks
import Derived.ProofKit
import Derived.OpenShut
import Derived.Deep.DeepHandedRow
import Derived.Deep.AppendLies
import Derived.Deep.OwnRows
import Derived.Laws.AppendOwnNone
import Derived.Deep.QuietTactic
import Derived.BigQuiet
import Derived.Deep.RegionWith
import Derived.Laws.DeepStrings4
import Derived.Below
import Derived.Lib.MapLaws
import Derived.Sort.Walk0
import Derived.Lib.QuietBelow
import Derived.StillTail
import Derived.Deep.RegionHeld3
import Derived.Laws.AppendOwn
import Derived.Deep.DeepCutAuto
import Derived.Maps.OwnSet
import Derived.Maps.Keyed
import Derived.DeepKeys4
import Derived.Laws.ResultCell
import Derived.Laws.CopyOwn
import Derived.Laws.OwnMore
import Derived.Deep.RegionLaw
import Derived.Laws.IdiomStrings
import Derived.WalkSmall
import Derived.Lib.SlBytesRow
import Derived.StringKeys
import Derived.Deep.Slices
import Derived.SizedLaws
import Derived.RowKit
import Derived.Laws.Entries
import Derived.Laws.StructEq
import Derived.Laws.Rows
import Derived.Lib.LaidTab
import Derived.WideKeyArgs
import Derived.Test.YtlbmijcpalfaeaaDoorRows
import Derived.Test.YtlbmijcpalfaeaaDoorCards
import Derived.Test.YtlbmijcpalfaeaaDoorTie
import Derived.Test.YtlbmijcpalfaeaaDoorF01
import Derived.Test.YtlbmijcpalfaeaaDoorF02
import Derived.Test.YtlbmijcpalfaeaaDoorF03
import Derived.Test.YtlbmijcpalfaeaaDoorF04
import Derived.Test.YtlbmijcpalfaeaaDoorF05
import Derived.Test.YtlbmijcpalfaeaaDoorF06
import Derived.Test.YtlbmijcpalfaeaaDoorF07
import Derived.Test.YtlbmijcpalfaeaaDoorF08
import Derived.Test.YtlbmijcpalfaeaaDoorF09
import Derived.Test.YtlbmijcpalfaeaaDoorF10
import Derived.Test.YtlbmijcpalfaeaaDoorF11
import Derived.Test.YtlbmijcpalfaeaaDoorF12
import Derived.Test.YtlbmijcpalfaeaaDoorF13
import Derived.Test.YtlbmijcpalfaeaaDoorF14
import Derived.Test.YtlbmijcpalfaeaaDoorF15
import Derived.Test.YtlbmijcpalfaeaaDoorF16
import Derived.Test.YtlbmijcpalfaeaaDoorF17
import Derived.Test.YtlbmijcpalfaeaaDoorF18
import Derived.Test.YtlbmijcpalfaeaaDoorF19
import Derived.Test.YtlbmijcpalfaeaaDoorF20
import Derived.Test.YtlbmijcpalfaeaaDoorF21
import Derived.Test.YtlbmijcpalfaeaaDoorF22
import Derived.Test.YtlbmijcpalfaeaaDoorF23
import Derived.Test.YtlbmijcpalfaeaaDoorF24
import Derived.Test.YtlbmijcpalfaeaaDoorF25
import Derived.Test.YtlbmijcpalfaeaaDoorF26
import Derived.Test.YtlbmijcpalfaeaaDoorF27
import Derived.Test.YtlbmijcpalfaeaaDoorF28
import Derived.Test.YtlbmijcpalfaeaaDoorF29
import Derived.Test.YtlbmijcpalfaeaaDoorF30
import Derived.Test.YtlbmijcpalfaeaaDoorF31
import Derived.Test.YtlbmijcpalfaeaaDoorF32
import Derived.Test.YtlbmijcpalfaeaaDoorF33
import Derived.Test.YtlbmijcpalfaeaaDoorF34
import Derived.Test.YtlbmijcpalfaeaaDoorF35
import Derived.Test.YtlbmijcpalfaeaaDoorF36
import Derived.Test.YtlbmijcpalfaeaaDoorF37
import Derived.Test.YtlbmijcpalfaeaaDoorF38
import Derived.Test.YtlbmijcpalfaeaaDoorF39
import Derived.Test.YtlbmijcpalfaeaaDoorF40
import Derived.Test.YtlbmijcpalfaeaaDoorF41
import Derived.Test.YtlbmijcpalfaeaaDoorF42
import Derived.Test.YtlbmijcpalfaeaaDoorF43
import Derived.Test.YtlbmijcpalfaeaaDoorF44
set_option linter.unusedVariables false
namespace Go.Proofs.YtlbmijcpalfaeaaDoor.factskeeps
open Go.ChangeShapes Go.WideShapes Go.ChangeAt Go.RowKit Go.WideMaps Go.WideElems
open Go.ChangeMaps (open_string shut_string)

theorem laid_met (os : Os) : laidMet Tryd.prog Rows.factsKeepsRow.laid ((laidWorldW Tryd.prog os).forCall (fun _ _ => 0) ⟨#[], #[.slice none 0 0, .agg #[.slice none 0 0, .slice none 0 0]], []⟩).memory :=
  laidMet_of_run' 8 (by kernel_rfl) (by kernel_rfl)
theorem reads (os : Os) {H : Type} (enc : TypeId × Value → H) : ∃ places, DataW.whole enc Tryd.prog ((laidWorldW Tryd.prog os).forCall (fun _ _ => 0) ⟨#[], #[.slice none 0 0, .agg #[.slice none 0 0, .slice none 0 0]], []⟩).memory Tryd.f7.params.toList Rows.factsKeepsSpec.vars false (#[Value.slice none 0 0, Value.agg #[.slice none 0 0, .slice none 0 0]] : Array Value).toList 8 = some ([.nil, .agg [.nil, .nil]], [], places) :=
  ⟨[], by kernel_rfl⟩

set_option maxRecDepth 100000 in
theorem lifted (os : Os) (started : os.Started) (H : Type) (enc : TypeId × Value → H) (F : Stop.Interp) :
    ReturnsInHanded {} Tryd.checked os 7 .any ((OpenSpec.ofChange Rows.factsKeepsSpec).preRow enc Tryd.prog Tryd.f7 Rows.factsKeepsRow.domain false Rows.factsKeepsRow.laid) (((OpenSpec.ofChange Rows.factsKeepsSpec).at F).post enc Tryd.prog Tryd.f7 false true false false) := by
  obtain ⟨places, hx⟩ := reads os enc
  refine returnsInHanded_of_row (C := Tryd.checked) (s := OpenSpec.ofChange Rows.factsKeepsSpec) own started (by kernel_rfl) Tryd.func7
    (witness_row_at (enc := enc) (C := Tryd.checked) false (laidWorldW Tryd.prog os) #[.slice none 0 0, .agg #[.slice none 0 0, .slice none 0 0]] rfl (by kernel_rfl) (by kernel_rfl) (by kernel_rfl)
      (OpenSpec.preRow_of_cond 8 hx (by kernel_rfl) (fun k hk => by cases hk) (by kernel_rfl) (laid_met os))) ?_
  intro W base args ds gs before hval hW _ hcond hsz hL _ _
  exact contract H enc W base args ds gs before hval hW hsz hL

theorem said : Rows.FactsKeepsSaid :=
  OpenClaim.holds_of_cond 7 Tryd.f7 rfl rfl rfl rfl rfl rfl rfl ⟨rfl, rfl, rfl, rfl, rfl⟩ rfl rfl rfl rfl rfl (by kernel_rfl) Tryd.func7 (by kernel_rfl)
    (of_decide_eq_true (by kernel_rfl)) (by unfold Func.isWrapper; first | (rw [if_pos (by decide +kernel)]; kernel_rfl) | (rw [if_neg (by decide +kernel)]; exact ⟨rfl, rfl⟩))
    (fun os started H enc _ F => by rw [OpenClaim.pre_eq_preRow]; exact lifted os started H enc F)

theorem plain (f : FuncId) (fn : Func) (hf : Tryd.pinned.checked.prog.funcNamed "sorrel/sorrellaw13.FactsKeeps" = some f) (hfn : Tryd.pinned.checked.prog.funcs[f]? = some fn) :
    false = Tryd.pinned.checked.prog.looks [] ∧ ∀ (j : Nat) t, fn.params[j]? = some t → Tryd.pinned.checked.prog.wantsStandIn t = false := by
  obtain rfl : f = 7 := Option.some.inj ((show Tryd.prog.funcNamed "sorrel/sorrellaw13.FactsKeeps" = some 7 by kernel_rfl).symm.trans hf) |>.symm
  obtain rfl : fn = Tryd.f7 := (Option.some.inj (Tryd.func7.symm.trans hfn)).symm
  refine ⟨by kernel_rfl, fun j t ht => ?_⟩
  rw [Tryd.params7 ] at ht
  have hm := Array.mem_of_getElem? ht
  simp only [List.mem_toArray, List.mem_cons, List.not_mem_nil, or_false] at hm
  rcases hm with rfl | rfl
  · exact (show Tryd.prog.wantsStandIn 22 = false by kernel_rfl)
  · exact (show Tryd.prog.wantsStandIn 56 = false by kernel_rfl)

/-- THE CARD. -/
theorem card : Rows.FactsKeepsCardSaid :=
  Claim7.holds_tied_plain_at .later [] _ _ _ _ said (fun _ h => by cases h) (by kernel_rfl) (fun _ h => by cases h) factsKeeps_row_tie rfl ⟨rfl, rfl⟩ (by kernel_rfl) rfl plain (by kernel_rfl)
end Go.Proofs.YtlbmijcpalfaeaaDoor.factskeeps
namespace Go.Proofs.YtlbmijcpalfaeaaDoor
/-- FactsKeeps: the card. -/
theorem factsKeeps_holds : Rows.FactsKeepsCardSaid := factskeeps.card
end Go.Proofs.YtlbmijcpalfaeaaDoor
