/-
  PROVED: for every list of nodes: what Lisp writes of an expression, read word by word and put together by Make, is the expression; what is none is refused, or is a pattern (and the program is awake). Its condition: the package variables that the card lists hold when the call begins what the program text lays (the card ties them).
-/
import Derived.Test.YtdcfffcimikfeaaDoorChecked
import GoSem.PinnedTables
import GoSem.Claim
import GoSem.ClaimJoined
import GoSem.ClaimMapViews
import Derived.JoinedTies
import Derived.KernelRfl
import GoSem.ClaimSeven
import Derived.LaidByTextLater
import Derived.SevenTiedAt
import Derived.LaidSub
import Derived.LaidOnce
import Derived.Shelf.Unicode.DecodeSlow
import Derived.Laws.RangeAny
import Derived.Shelf.Strings.Builder1
import Derived.Shelf.Small.Utf8
import Derived.Shelf.Small.Bits
import Derived.Shelf.Strings.BuilderF
import Derived.Shelf.Strings.BuilderK
import Derived.Shelf.Strings.BuilderRune
import Derived.Shelf.Utf8.AppendRune
import Derived.Shelf.Strconv.Itoa0
import Derived.Shelf.Strconv.Itoa1
import Derived.Shelf.LaysM
import Derived.Shelf.Strconv.Itoa2
import Derived.Shelf.Strconv.Itoa3
import Derived.Shelf.Strconv.Itoa4
import Derived.Shelf.Strings.Prefix
import Derived.Shelf.Unicode.DecodeAny
import Derived.Shelf.Slices.CompactS
import Derived.Ground.SlsfProg
import Derived.Shelf.SlSortCmp.Insertion
import Derived.Shelf.SlSortCmp.SiftDown1
import Derived.Shelf.SlSortCmp.HeapSort1
import Derived.Shelf.SlSortCmp.Insertion1
import Derived.Shelf.SlSortCmp.Median1
import Derived.Shelf.SlSortCmp.Pivot1
import Derived.Shelf.SlSortCmp.ReverseRange1
import Derived.Shelf.SlSortCmp.PartialInsertion1
import Derived.Shelf.SlSortCmp.PartitionEqual1
import Derived.Shelf.SlSortCmp.Partition1
import Derived.Shelf.SlSortCmp.Pdq1
import Derived.Shelf.SlSortCmp.Whole1
import Derived.Test.YtdcfffcimikfeaaDoorProg
import Derived.WalkKit
import Derived.Deep.DeepFit
import Derived.Lib.OthersKept
import Derived.Lib.RuneCountTail
import Derived.Lib.LaidU8
import Derived.MakeChecks
import Derived.ProofKit
import Derived.OpenShut
import Derived.Deep.DeepHandedRow
import Derived.Lib.MapLaws
import Derived.Sort.Walk0
import Derived.Laws.DeepStrings4
import Derived.Lib.ItoaNum
import Derived.Deep.AppendLies
import Derived.Deep.OwnRows
import Derived.Laws.AppendOwnNone
import Derived.Deep.QuietTactic
import Derived.BigQuiet
import Derived.Deep.RegionWith
import Derived.BigCall
import Derived.Lib.LaidTab
import Derived.Maps.OwnSet
import Derived.StringKeys
import Derived.Deep.Slices
import Derived.Lib.QuietBelow
import Derived.StillTail
import Derived.Laws.OwnMore
import Derived.SizedLaws
import Derived.Lib.Small
import Derived.Lib.Strings
import Derived.Deep.RegionHeld3
import Derived.Laws.ResultCell
import Derived.Deep.Heap
import Derived.Laws.Rows
import Derived.Deep.RegionLaw
import Derived.Laws.IdiomStrings
import Derived.WideKeyArgs
import Derived.Test.YtdcfffcimikfeaaDoorRows
import Derived.Test.YtdcfffcimikfeaaDoorCards
import Derived.Test.YtdcfffcimikfeaaDoorTie
import Derived.Test.YtdcfffcimikfeaaDoorX01
import Derived.Test.YtdcfffcimikfeaaDoorX02
import Derived.Test.YtdcfffcimikfeaaDoorX03
import Derived.Test.YtdcfffcimikfeaaDoorX04
import Derived.Test.YtdcfffcimikfeaaDoorX05
import Derived.Test.YtdcfffcimikfeaaDoorX06
import Derived.Test.YtdcfffcimikfeaaDoorX07
import Derived.Test.YtdcfffcimikfeaaDoorX08
import Derived.Test.YtdcfffcimikfeaaDoorX09
import Derived.Test.YtdcfffcimikfeaaDoorX10
import Derived.Test.YtdcfffcimikfeaaDoorX11
import Derived.Test.YtdcfffcimikfeaaDoorX12
import Derived.Test.YtdcfffcimikfeaaDoorX13
import Derived.Test.YtdcfffcimikfeaaDoorX14
import Derived.Test.YtdcfffcimikfeaaDoorX15
import Derived.Test.YtdcfffcimikfeaaDoorX16
import Derived.Test.YtdcfffcimikfeaaDoorX17
import Derived.Test.YtdcfffcimikfeaaDoorX18
import Derived.Test.YtdcfffcimikfeaaDoorX19
import Derived.Test.YtdcfffcimikfeaaDoorX20
import Derived.Test.YtdcfffcimikfeaaDoorX21
import Derived.Test.YtdcfffcimikfeaaDoorX22
import Derived.Test.YtdcfffcimikfeaaDoorX23
import Derived.Test.YtdcfffcimikfeaaDoorX24
import Derived.Test.YtdcfffcimikfeaaDoorX25
import Derived.Test.YtdcfffcimikfeaaDoorX26
import Derived.Test.YtdcfffcimikfeaaDoorX27
import Derived.Test.YtdcfffcimikfeaaDoorX28
set_option linter.unusedVariables false
namespace Go.Proofs.YtdcfffcimikfeaaDoor.showlisp
open Go.ChangeShapes Go.WideShapes Go.ChangeAt Go.RowKit Go.WideMaps Go.WideElems
open Go.ChangeMaps (open_string shut_string)

theorem laid_met (os : Os) : laidMet Tryd.prog Rows.showLispRow.laid ((laidWorld7 Tryd.prog os).forCall (fun _ _ => 0) ⟨#[], #[.slice none 0 0], []⟩).memory :=
  laidMet_of_run' 8 (by kernel_rfl) (by kernel_rfl)
theorem reads (os : Os) {H : Type} (enc : TypeId × Value → H) : ∃ places, DataW.whole enc Tryd.prog ((laidWorld7 Tryd.prog os).forCall (fun _ _ => 0) ⟨#[], #[.slice none 0 0], []⟩).memory Tryd.f8.params.toList Rows.showLispSpec.vars false (#[Value.slice none 0 0] : Array Value).toList 8 = some ([.nil], [], places) :=
  ⟨[], by kernel_rfl⟩

set_option maxRecDepth 100000 in
theorem lifted (os : Os) (started : os.Started) (H : Type) (enc : TypeId × Value → H) (F : Stop.Interp) :
    ReturnsInHanded {} Tryd.checked os 8 .any ((OpenSpec.ofChange Rows.showLispSpec).preRow enc Tryd.prog Tryd.f8 Rows.showLispRow.domain false Rows.showLispRow.laid) (((OpenSpec.ofChange Rows.showLispSpec).at F).post enc Tryd.prog Tryd.f8 false true false false) := by
  obtain ⟨places, hx⟩ := reads os enc
  refine returnsInHanded_of_row (C := Tryd.checked) (s := OpenSpec.ofChange Rows.showLispSpec) own started (by kernel_rfl) Tryd.func8
    (witness_row_at (enc := enc) (C := Tryd.checked) false (laidWorld7 Tryd.prog os) #[.slice none 0 0] rfl (by kernel_rfl) (by kernel_rfl) (by kernel_rfl)
      (OpenSpec.preRow_of_cond 8 hx (by kernel_rfl) (fun k hk => by cases hk) (by kernel_rfl) (laid_met os))) ?_
  intro W base args ds gs before hval hW _ hcond hsz hL _ _
  exact contract H enc W base args ds gs before hval hW hsz hL

theorem said : Rows.ShowLispSaid :=
  OpenClaim.holds_of_cond 8 Tryd.f8 rfl rfl rfl rfl rfl rfl rfl ⟨rfl, rfl, rfl, rfl, rfl⟩ rfl rfl rfl rfl rfl (by kernel_rfl) Tryd.func8 (by kernel_rfl)
    (of_decide_eq_true (by kernel_rfl)) (by unfold Func.isWrapper; first | (rw [if_pos (by decide +kernel)]; kernel_rfl) | (rw [if_neg (by decide +kernel)]; exact ⟨rfl, rfl⟩))
    (fun os started H enc _ F => by rw [OpenClaim.pre_eq_preRow]; exact lifted os started H enc F)

theorem plain (f : FuncId) (fn : Func) (hf : Tryd.pinned.checked.prog.funcNamed "sorrel/sorrellaw05.ShowLisp" = some f) (hfn : Tryd.pinned.checked.prog.funcs[f]? = some fn) :
    true = Tryd.pinned.checked.prog.looks [] ∧ ∀ (j : Nat) t, fn.params[j]? = some t → Tryd.pinned.checked.prog.wantsStandIn t = false := by
  obtain rfl : f = 8 := Option.some.inj ((show Tryd.prog.funcNamed "sorrel/sorrellaw05.ShowLisp" = some 8 by kernel_rfl).symm.trans hf) |>.symm
  obtain rfl : fn = Tryd.f8 := (Option.some.inj (Tryd.func8.symm.trans hfn)).symm
  refine ⟨by kernel_rfl, fun j t ht => ?_⟩
  rw [Tryd.params8 ] at ht
  obtain rfl : t = 22 := by simpa using Array.mem_of_getElem? ht
  exact (show Tryd.prog.wantsStandIn 22 = false by kernel_rfl)

/-- THE CARD. -/
theorem card : Rows.ShowLispCardSaid :=
  Claim7.holds_tied_plain_at .later [] _ _ _ _ said (fun _ h => by cases h) (by kernel_rfl) (fun _ h => by cases h) showLisp_row_tie rfl ⟨rfl, rfl⟩ (by kernel_rfl) rfl plain (by kernel_rfl)
end Go.Proofs.YtdcfffcimikfeaaDoor.showlisp
namespace Go.Proofs.YtdcfffcimikfeaaDoor
/-- ShowLisp: the card. -/
theorem showLisp_holds : Rows.ShowLispCardSaid := showlisp.card
end Go.Proofs.YtdcfffcimikfeaaDoor
