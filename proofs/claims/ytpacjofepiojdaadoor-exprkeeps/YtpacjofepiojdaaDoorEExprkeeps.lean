/-
  ExprKeeps: what is handed in stays, spare room too; the same is answered again; all answers have memory of their own. No condition.
-/
import Derived.Test.YtpacjofepiojdaaDoorChecked
import GoSem.PinnedTables
import GoSem.Claim
import GoSem.ClaimJoined
import GoSem.ClaimMapViews
import Derived.JoinedTies
import Derived.KernelRfl
import GoSem.ClaimSeven
import Derived.LaidByTextLater
import Derived.SevenTiedAt
import Derived.LaidSub
import Derived.LaidOnce
import Derived.Shelf.Unicode.DecodeSlow
import Derived.Laws.RangeAny
import Derived.Shelf.Small.Bits
import Derived.Shelf.Strconv.Itoa0
import Derived.Shelf.LaysM
import Derived.Shelf.Strconv.Clone
import Derived.Shelf.Unicode.DecodeAny
import Derived.Shelf.Slices.CompactS
import Derived.Ground.SlsfProg
import Derived.Shelf.SlSortCmp.Insertion
import Derived.Shelf.SlSortCmp.SiftDown1
import Derived.Shelf.SlSortCmp.HeapSort1
import Derived.Shelf.SlSortCmp.Insertion1
import Derived.Shelf.SlSortCmp.Median1
import Derived.Shelf.SlSortCmp.Pivot1
import Derived.Shelf.SlSortCmp.ReverseRange1
import Derived.Shelf.SlSortCmp.PartialInsertion1
import Derived.Shelf.SlSortCmp.PartitionEqual1
import Derived.Shelf.SlSortCmp.Partition1
import Derived.Shelf.SlSortCmp.Pdq1
import Derived.Shelf.SlSortCmp.Whole1
import Derived.Test.YtpacjofepiojdaaDoorProg
import Derived.WalkKit
import Derived.Deep.DeepFit
import Derived.Lib.OthersKept
import Derived.Lib.RuneCountTail
import Derived.Lib.LaidU8
import Derived.MakeChecks
import Derived.ProofKit
import Derived.OpenShut
import Derived.Deep.DeepHandedRow
import Derived.Deep.AppendLies
import Derived.Deep.OwnRows
import Derived.Laws.AppendOwnNone
import Derived.Deep.QuietTactic
import Derived.BigQuiet
import Derived.Deep.RegionWith
import Derived.Laws.DeepStrings4
import Derived.Deep.Slices
import Derived.SizedLaws
import Derived.Below
import Derived.Lib.MapLaws
import Derived.Sort.Walk0
import Derived.Lib.SlicesCompact
import Derived.Sort.EncStr
import Derived.Calls
import Derived.RunT
import Derived.Lib.QuietBelow
import Derived.Deep.Draws
import Derived.Sort.OwnSorted
import Derived.Laws.IdiomStrings
import Derived.WalkSmall
import Derived.Deep.RegionHeld3
import Derived.StillTail
import Derived.Deep.DeepCutAuto
import Derived.Deep.RegionLaw
import Derived.Lib.SlBytesRow
import Derived.WideKeyArgs
import Derived.Test.YtpacjofepiojdaaDoorRows
import Derived.Test.YtpacjofepiojdaaDoorCards
import Derived.Test.YtpacjofepiojdaaDoorTie
import Derived.Test.YtpacjofepiojdaaDoorE01
import Derived.Test.YtpacjofepiojdaaDoorE02
import Derived.Test.YtpacjofepiojdaaDoorE03
import Derived.Test.YtpacjofepiojdaaDoorE04
import Derived.Test.YtpacjofepiojdaaDoorE05
import Derived.Test.YtpacjofepiojdaaDoorE06
import Derived.Test.YtpacjofepiojdaaDoorE07
import Derived.Test.YtpacjofepiojdaaDoorE08
import Derived.Test.YtpacjofepiojdaaDoorE09
import Derived.Test.YtpacjofepiojdaaDoorE10
import Derived.Test.YtpacjofepiojdaaDoorE11
import Derived.Test.YtpacjofepiojdaaDoorE12
import Derived.Test.YtpacjofepiojdaaDoorE13
import Derived.Test.YtpacjofepiojdaaDoorE14
import Derived.Test.YtpacjofepiojdaaDoorE15
import Derived.Test.YtpacjofepiojdaaDoorE16
import Derived.Test.YtpacjofepiojdaaDoorE17
import Derived.Test.YtpacjofepiojdaaDoorE18
import Derived.Test.YtpacjofepiojdaaDoorE19
import Derived.Test.YtpacjofepiojdaaDoorE20
import Derived.Test.YtpacjofepiojdaaDoorE21
import Derived.Test.YtpacjofepiojdaaDoorE22
import Derived.Test.YtpacjofepiojdaaDoorE23
import Derived.Test.YtpacjofepiojdaaDoorE24
import Derived.Test.YtpacjofepiojdaaDoorE25
import Derived.Test.YtpacjofepiojdaaDoorE26
set_option linter.unusedVariables false
namespace Go.Proofs.YtpacjofepiojdaaDoor.exprkeeps
open Go.ChangeShapes Go.WideShapes Go.ChangeAt Go.RowKit Go.WideMaps Go.WideElems
open Go.ChangeMaps (open_string shut_string)

theorem laid_met (os : Os) : laidMet Tryd.prog Rows.exprKeepsRow.laid ((laidWorldOf Tryd.prog os).forCall (fun _ _ => 0) ⟨#[], #[.slice none 0 0, .int .i64 0, .slice none 0 0], []⟩).memory :=
  laidMet_of_run' 8 (by kernel_rfl) (by kernel_rfl)
theorem reads (os : Os) {H : Type} (enc : TypeId × Value → H) : ∃ places, DataW.whole enc Tryd.prog ((laidWorldOf Tryd.prog os).forCall (fun _ _ => 0) ⟨#[], #[.slice none 0 0, .int .i64 0, .slice none 0 0], []⟩).memory Tryd.f4.params.toList Rows.exprKeepsSpec.vars false (#[Value.slice none 0 0, Value.int .i64 0, Value.slice none 0 0] : Array Value).toList 8 = some ([.nil, .lit (.int .i64 0), .nil], [], places) :=
  ⟨[], by kernel_rfl⟩

set_option maxRecDepth 100000 in
theorem lifted (os : Os) (started : os.Started) (H : Type) (enc : TypeId × Value → H) (F : Stop.Interp) :
    ReturnsInHanded {} Tryd.checked os 4 .any ((OpenSpec.ofChange Rows.exprKeepsSpec).preRow enc Tryd.prog Tryd.f4 Rows.exprKeepsRow.domain false Rows.exprKeepsRow.laid) (((OpenSpec.ofChange Rows.exprKeepsSpec).at F).post enc Tryd.prog Tryd.f4 false true false false) := by
  obtain ⟨places, hx⟩ := reads os enc
  refine returnsInHanded_of_row (C := Tryd.checked) (s := OpenSpec.ofChange Rows.exprKeepsSpec) own started (by kernel_rfl) Tryd.func4
    (witness_row_at (enc := enc) (C := Tryd.checked) false (laidWorldOf Tryd.prog os) #[.slice none 0 0, .int .i64 0, .slice none 0 0] rfl (by kernel_rfl) (by kernel_rfl) (by kernel_rfl)
      (OpenSpec.preRow_of_cond 8 hx (by kernel_rfl) (fun k hk => by cases hk) (by kernel_rfl) (laid_met os))) ?_
  intro W base args ds gs before hval hW _ hcond hsz hL _ _
  exact contract H enc W base args ds gs before hval hW hsz hL

theorem said : Rows.ExprKeepsSaid :=
  OpenClaim.holds_of_cond 4 Tryd.f4 rfl rfl rfl rfl rfl rfl rfl ⟨rfl, rfl, rfl, rfl, rfl⟩ rfl rfl rfl rfl rfl (by kernel_rfl) Tryd.func4 (by kernel_rfl)
    (of_decide_eq_true (by kernel_rfl)) (by unfold Func.isWrapper; first | (rw [if_pos (by decide +kernel)]; kernel_rfl) | (rw [if_neg (by decide +kernel)]; exact ⟨rfl, rfl⟩))
    (fun os started H enc _ F => by rw [OpenClaim.pre_eq_preRow]; exact lifted os started H enc F)

theorem plain (f : FuncId) (fn : Func) (hf : Tryd.pinned.checked.prog.funcNamed "sorrel/sorrellaw02.ExprKeeps" = some f) (hfn : Tryd.pinned.checked.prog.funcs[f]? = some fn) :
    false = Tryd.pinned.checked.prog.looks [] ∧ ∀ (j : Nat) t, fn.params[j]? = some t → Tryd.pinned.checked.prog.wantsStandIn t = false := by
  obtain rfl : f = 4 := Option.some.inj ((show Tryd.prog.funcNamed "sorrel/sorrellaw02.ExprKeeps" = some 4 by kernel_rfl).symm.trans hf) |>.symm
  obtain rfl : fn = Tryd.f4 := (Option.some.inj (Tryd.func4.symm.trans hfn)).symm
  refine ⟨by kernel_rfl, fun j t ht => ?_⟩
  rw [Tryd.params4 ] at ht
  have hm := Array.mem_of_getElem? ht
  simp only [List.mem_toArray, List.mem_cons, List.not_mem_nil, or_false] at hm
  rcases hm with rfl | rfl | rfl
  · exact (show Tryd.prog.wantsStandIn 22 = false by kernel_rfl)
  · exact (show Tryd.prog.wantsStandIn 3 = false by kernel_rfl)
  · exact (show Tryd.prog.wantsStandIn 22 = false by kernel_rfl)

/-- THE CARD. -/
theorem card : Rows.ExprKeepsCardSaid :=
  Claim7.holds_tied_plain_at .later [] _ _ _ _ said (fun _ h => by cases h) (by kernel_rfl) (fun _ h => by cases h) exprKeeps_row_tie rfl ⟨rfl, rfl⟩ (by kernel_rfl) rfl plain (by kernel_rfl)
end Go.Proofs.YtpacjofepiojdaaDoor.exprkeeps
namespace Go.Proofs.YtpacjofepiojdaaDoor
/-- ExprKeeps: the card. -/
theorem exprKeeps_holds : Rows.ExprKeepsCardSaid := exprkeeps.card
end Go.Proofs.YtpacjofepiojdaaDoor
