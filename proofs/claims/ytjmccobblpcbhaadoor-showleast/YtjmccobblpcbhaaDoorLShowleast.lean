/-
  PROVED: for every list of nodes: of what Show writes of an expression or a pattern no pair of brackets can be left out: the text without it is read as something else or as nothing (and what is refused is not sound, and the program is awake). Its conditions: the package variables that the card lists hold when the call begins what the program text lays (the card ties them).
-/
import Derived.Test.YtjmccobblpcbhaaDoorChecked
import GoSem.PinnedTables
import GoSem.Claim
import GoSem.ClaimJoined
import GoSem.ClaimMapViews
import Derived.JoinedTies
import Derived.KernelRfl
import GoSem.ClaimSeven
import Derived.LaidByTextLater
import Derived.SevenTiedAt
import Derived.LaidSub
import Derived.LaidOnce
import Derived.Shelf.Unicode.DecodeSlow
import Derived.Laws.RangeAny
import Derived.Shelf.Strings.Builder1
import Derived.Shelf.Small.Utf8
import Derived.Shelf.Small.Bits
import Derived.Shelf.Strings.BuilderF
import Derived.Shelf.Strings.BuilderK
import Derived.Shelf.Strings.BuilderRune
import Derived.Shelf.Utf8.AppendRune
import Derived.Shelf.Strconv.Itoa0
import Derived.Shelf.Strconv.Itoa1
import Derived.Shelf.LaysM
import Derived.Shelf.Strconv.Itoa2
import Derived.Shelf.Strconv.Itoa3
import Derived.Shelf.Strconv.Itoa4
import Derived.Shelf.Strings.Prefix
import Derived.Shelf.Unicode.DecodeAny
import Derived.Test.YtjmccobblpcbhaaDoorProg
import Derived.WalkKit
import Derived.Deep.DeepFit
import Derived.Lib.OthersKept
import Derived.Lib.RuneCountTail
import Derived.Lib.LaidU8
import Derived.MakeChecks
import Derived.ProofKit
import Derived.OpenShut
import Derived.Deep.DeepHandedRow
import Derived.Lib.MapLaws
import Derived.Sort.Walk0
import Derived.Laws.DeepStrings4
import Derived.Lib.ItoaNum
import Derived.Deep.AppendLies
import Derived.Deep.OwnRows
import Derived.Laws.AppendOwnNone
import Derived.Deep.QuietTactic
import Derived.BigQuiet
import Derived.Deep.RegionWith
import Derived.BigCall
import Derived.Lib.LaidTab
import Derived.Maps.OwnSet
import Derived.StringKeys
import Derived.Deep.Slices
import Derived.Lib.QuietBelow
import Derived.StillTail
import Derived.Laws.OwnMore
import Derived.SizedLaws
import Derived.Below
import Derived.Lib.Small
import Derived.Lib.Strings
import Derived.Deep.RegionHeld3
import Derived.Laws.ResultCell
import Derived.Deep.Heap
import Derived.Laws.Rows
import Derived.Deep.RegionLaw
import Derived.Laws.IdiomStrings
import Derived.Laws.Cover4
import Derived.WideKeyArgs
import Derived.Test.YtjmccobblpcbhaaDoorRows
import Derived.Test.YtjmccobblpcbhaaDoorCards
import Derived.Test.YtjmccobblpcbhaaDoorTie
import Derived.Test.YtjmccobblpcbhaaDoorL01
import Derived.Test.YtjmccobblpcbhaaDoorL02
import Derived.Test.YtjmccobblpcbhaaDoorL03
import Derived.Test.YtjmccobblpcbhaaDoorL04
import Derived.Test.YtjmccobblpcbhaaDoorL05
import Derived.Test.YtjmccobblpcbhaaDoorL06
import Derived.Test.YtjmccobblpcbhaaDoorL07
import Derived.Test.YtjmccobblpcbhaaDoorL08
import Derived.Test.YtjmccobblpcbhaaDoorL09
import Derived.Test.YtjmccobblpcbhaaDoorL10
import Derived.Test.YtjmccobblpcbhaaDoorL11
import Derived.Test.YtjmccobblpcbhaaDoorL12
import Derived.Test.YtjmccobblpcbhaaDoorL13
import Derived.Test.YtjmccobblpcbhaaDoorL14
import Derived.Test.YtjmccobblpcbhaaDoorL15
import Derived.Test.YtjmccobblpcbhaaDoorL16
import Derived.Test.YtjmccobblpcbhaaDoorL17
import Derived.Test.YtjmccobblpcbhaaDoorL18
import Derived.Test.YtjmccobblpcbhaaDoorL19
import Derived.Test.YtjmccobblpcbhaaDoorL20
import Derived.Test.YtjmccobblpcbhaaDoorL21
import Derived.Test.YtjmccobblpcbhaaDoorL22
import Derived.Test.YtjmccobblpcbhaaDoorL23
import Derived.Test.YtjmccobblpcbhaaDoorL24
import Derived.Test.YtjmccobblpcbhaaDoorL25
import Derived.Test.YtjmccobblpcbhaaDoorL26
import Derived.Test.YtjmccobblpcbhaaDoorL27
import Derived.Test.YtjmccobblpcbhaaDoorL28
import Derived.Test.YtjmccobblpcbhaaDoorL29
import Derived.Test.YtjmccobblpcbhaaDoorL30
import Derived.Test.YtjmccobblpcbhaaDoorL31
import Derived.Test.YtjmccobblpcbhaaDoorL32
import Derived.Test.YtjmccobblpcbhaaDoorL33
import Derived.Test.YtjmccobblpcbhaaDoorL34
import Derived.Test.YtjmccobblpcbhaaDoorL35
import Derived.Test.YtjmccobblpcbhaaDoorL36
import Derived.Test.YtjmccobblpcbhaaDoorL37
set_option linter.unusedVariables false
namespace Go.Proofs.YtjmccobblpcbhaaDoor.showleast
open Go.ChangeShapes Go.WideShapes Go.ChangeAt Go.RowKit Go.WideMaps Go.WideElems
open Go.ChangeMaps (open_string shut_string)

theorem laid_met (os : Os) : laidMet Tryd.prog Rows.showLeastRow.laid ((laidWorld7 Tryd.prog os).forCall (fun _ _ => 0) ⟨#[], #[.slice none 0 0], []⟩).memory :=
  laidMet_of_run' 8 (by kernel_rfl) (by kernel_rfl)
theorem reads (os : Os) {H : Type} (enc : TypeId × Value → H) : ∃ places, DataW.whole enc Tryd.prog ((laidWorld7 Tryd.prog os).forCall (fun _ _ => 0) ⟨#[], #[.slice none 0 0], []⟩).memory Tryd.f6.params.toList Rows.showLeastSpec.vars false (#[Value.slice none 0 0] : Array Value).toList 8 = some ([.nil], [], places) :=
  ⟨[], by kernel_rfl⟩

set_option maxRecDepth 100000 in
theorem lifted (os : Os) (started : os.Started) (H : Type) (enc : TypeId × Value → H) (F : Stop.Interp) :
    ReturnsInHanded {} Tryd.checked os 6 .any ((OpenSpec.ofChange Rows.showLeastSpec).preRow enc Tryd.prog Tryd.f6 Rows.showLeastRow.domain false Rows.showLeastRow.laid) (((OpenSpec.ofChange Rows.showLeastSpec).at F).post enc Tryd.prog Tryd.f6 false true false false) := by
  obtain ⟨places, hx⟩ := reads os enc
  refine returnsInHanded_of_row (C := Tryd.checked) (s := OpenSpec.ofChange Rows.showLeastSpec) own started (by kernel_rfl) Tryd.func6
    (witness_row_at (enc := enc) (C := Tryd.checked) false (laidWorld7 Tryd.prog os) #[.slice none 0 0] rfl (by kernel_rfl) (by kernel_rfl) (by kernel_rfl)
      (OpenSpec.preRow_of_cond 8 hx (by kernel_rfl) (fun k hk => by cases hk) (by kernel_rfl) (laid_met os))) ?_
  intro W base args ds gs before hval hW _ hcond hsz hL _ _
  exact contract H enc W base args ds gs before hval hW hsz hL

theorem said : Rows.ShowLeastSaid :=
  OpenClaim.holds_of_cond 6 Tryd.f6 rfl rfl rfl rfl rfl rfl rfl ⟨rfl, rfl, rfl, rfl, rfl⟩ rfl rfl rfl rfl rfl (by kernel_rfl) Tryd.func6 (by kernel_rfl)
    (of_decide_eq_true (by kernel_rfl)) (by unfold Func.isWrapper; first | (rw [if_pos (by decide +kernel)]; kernel_rfl) | (rw [if_neg (by decide +kernel)]; exact ⟨rfl, rfl⟩))
    (fun os started H enc _ F => by rw [OpenClaim.pre_eq_preRow]; exact lifted os started H enc F)

theorem plain (f : FuncId) (fn : Func) (hf : Tryd.pinned.checked.prog.funcNamed "sorrel/sorrellaw05.ShowLeast" = some f) (hfn : Tryd.pinned.checked.prog.funcs[f]? = some fn) :
    true = Tryd.pinned.checked.prog.looks [] ∧ ∀ (j : Nat) t, fn.params[j]? = some t → Tryd.pinned.checked.prog.wantsStandIn t = false := by
  obtain rfl : f = 6 := Option.some.inj ((show Tryd.prog.funcNamed "sorrel/sorrellaw05.ShowLeast" = some 6 by kernel_rfl).symm.trans hf) |>.symm
  obtain rfl : fn = Tryd.f6 := (Option.some.inj (Tryd.func6.symm.trans hfn)).symm
  refine ⟨by kernel_rfl, fun j t ht => ?_⟩
  rw [Tryd.params6 ] at ht
  obtain rfl : t = 22 := by simpa using Array.mem_of_getElem? ht
  exact (show Tryd.prog.wantsStandIn 22 = false by kernel_rfl)

/-- THE CARD. -/
theorem card : Rows.ShowLeastCardSaid :=
  Claim7.holds_tied_plain_at .later [] _ _ _ _ said (fun _ h => by cases h) (by kernel_rfl) (fun _ h => by cases h) showLeast_row_tie rfl ⟨rfl, rfl⟩ (by kernel_rfl) rfl plain (by kernel_rfl)
end Go.Proofs.YtjmccobblpcbhaaDoor.showleast
namespace Go.Proofs.YtjmccobblpcbhaaDoor
/-- ShowLeast: the card. -/
theorem showLeast_holds : Rows.ShowLeastCardSaid := showleast.card
end Go.Proofs.YtjmccobblpcbhaaDoor
