/-
  PROVED: for every list of nodes and every list of turns: what the document writes of a sound expression or pattern, its signs, digits and blanks written in other characters by the turns, is read by Pattern (by Parse where it has more than 16 nodes) as that expression, where it is no longer than MaxText (and the program is awake). Its conditions: the package variables sorrel/runes.spans, unicode/utf8.first and unicode/utf8.acceptRanges hold when the call begins what the program text lays (the card ties them).
-/
import Derived.Test.YtjmccobblpcbhaaDoorChecked
import GoSem.PinnedTables
import GoSem.Claim
import GoSem.ClaimJoined
import GoSem.ClaimMapViews
import Derived.JoinedTies
import Derived.KernelRfl
import GoSem.ClaimSeven
import Derived.LaidByTextLater
import Derived.SevenTiedAt
import Derived.LaidSub
import Derived.LaidOnce
import Derived.Shelf.Unicode.DecodeSlow
import Derived.Laws.RangeAny
import Derived.Shelf.Strings.Builder1
import Derived.Shelf.Small.Utf8
import Derived.Shelf.Small.Bits
import Derived.Shelf.Strings.BuilderF
import Derived.Shelf.Strings.BuilderK
import Derived.Shelf.Strings.BuilderRune
import Derived.Shelf.Utf8.AppendRune
import Derived.Shelf.Strconv.Itoa0
import Derived.Shelf.Strconv.Itoa1
import Derived.Shelf.LaysM
import Derived.Shelf.Strconv.Itoa2
import Derived.Shelf.Strconv.Itoa3
import Derived.Shelf.Strconv.Itoa4
import Derived.Shelf.Strings.Prefix
import Derived.Shelf.Unicode.DecodeAny
import Derived.Test.YtjmccobblpcbhaaDoorProg
import Derived.WalkKit
import Derived.Deep.DeepFit
import Derived.Lib.OthersKept
import Derived.Lib.RuneCountTail
import Derived.Lib.LaidU8
import Derived.MakeChecks
import Derived.ProofKit
import Derived.OpenShut
import Derived.Deep.DeepHandedRow
import Derived.Lib.Small
import Derived.Lib.Strings
import Derived.Lib.MapLaws
import Derived.Deep.AppendLies
import Derived.Deep.OwnRows
import Derived.Laws.AppendOwnNone
import Derived.Deep.QuietTactic
import Derived.BigQuiet
import Derived.Deep.RegionWith
import Derived.Laws.DeepStrings4
import Derived.Deep.RegionHeld3
import Derived.Laws.ResultCell
import Derived.Lib.QuietBelow
import Derived.Deep.Heap
import Derived.Laws.Rows
import Derived.Below
import Derived.StillTail
import Derived.Deep.RegionLaw
import Derived.Laws.OwnMore
import Derived.Sort.Walk0
import Derived.Lib.ItoaNum
import Derived.Maps.OwnSet
import Derived.StringKeys
import Derived.BigCall
import Derived.Lib.LaidTab
import Derived.Deep.Slices
import Derived.Laws.IdiomStrings
import Derived.SizedLaws
import Derived.Laws.Cover4
import Derived.WideKeyArgs
import Derived.Test.YtjmccobblpcbhaaDoorRows
import Derived.Test.YtjmccobblpcbhaaDoorCards
import Derived.Test.YtjmccobblpcbhaaDoorTie
import Derived.Test.YtjmccobblpcbhaaDoorP01
import Derived.Test.YtjmccobblpcbhaaDoorP02
import Derived.Test.YtjmccobblpcbhaaDoorP03
import Derived.Test.YtjmccobblpcbhaaDoorP04
import Derived.Test.YtjmccobblpcbhaaDoorP05
import Derived.Test.YtjmccobblpcbhaaDoorP06
import Derived.Test.YtjmccobblpcbhaaDoorP07
import Derived.Test.YtjmccobblpcbhaaDoorP08
import Derived.Test.YtjmccobblpcbhaaDoorP09
import Derived.Test.YtjmccobblpcbhaaDoorP10
import Derived.Test.YtjmccobblpcbhaaDoorP11
import Derived.Test.YtjmccobblpcbhaaDoorP12
import Derived.Test.YtjmccobblpcbhaaDoorP13
import Derived.Test.YtjmccobblpcbhaaDoorP14
import Derived.Test.YtjmccobblpcbhaaDoorP15
import Derived.Test.YtjmccobblpcbhaaDoorP16
import Derived.Test.YtjmccobblpcbhaaDoorP17
import Derived.Test.YtjmccobblpcbhaaDoorP18
import Derived.Test.YtjmccobblpcbhaaDoorP19
import Derived.Test.YtjmccobblpcbhaaDoorP20
import Derived.Test.YtjmccobblpcbhaaDoorP21
import Derived.Test.YtjmccobblpcbhaaDoorP22
import Derived.Test.YtjmccobblpcbhaaDoorP23
import Derived.Test.YtjmccobblpcbhaaDoorP24
import Derived.Test.YtjmccobblpcbhaaDoorP25
import Derived.Test.YtjmccobblpcbhaaDoorP26
import Derived.Test.YtjmccobblpcbhaaDoorP27
import Derived.Test.YtjmccobblpcbhaaDoorP28
import Derived.Test.YtjmccobblpcbhaaDoorP29
import Derived.Test.YtjmccobblpcbhaaDoorP30
import Derived.Test.YtjmccobblpcbhaaDoorP31
import Derived.Test.YtjmccobblpcbhaaDoorP32
import Derived.Test.YtjmccobblpcbhaaDoorP33
import Derived.Test.YtjmccobblpcbhaaDoorP34
import Derived.Test.YtjmccobblpcbhaaDoorP35
import Derived.Test.YtjmccobblpcbhaaDoorP36
import Derived.Test.YtjmccobblpcbhaaDoorP37
import Derived.Test.YtjmccobblpcbhaaDoorP38
set_option linter.unusedVariables false
namespace Go.Proofs.YtjmccobblpcbhaaDoor.parsespelled
open Go.ChangeShapes Go.WideShapes Go.ChangeAt Go.RowKit Go.WideMaps Go.WideElems
open Go.ChangeMaps (open_string shut_string)

theorem laid_met (os : Os) : laidMet Tryd.prog Rows.parseSpelledRow.laid ((laidWorldOf Tryd.prog os).forCall (fun _ _ => 0) ⟨#[], #[.slice none 0 0, .slice none 0 0], []⟩).memory :=
  laidMet_of_run' 8 (by kernel_rfl) (by kernel_rfl)
theorem reads (os : Os) {H : Type} (enc : TypeId × Value → H) : ∃ places, DataW.whole enc Tryd.prog ((laidWorldOf Tryd.prog os).forCall (fun _ _ => 0) ⟨#[], #[.slice none 0 0, .slice none 0 0], []⟩).memory Tryd.f4.params.toList Rows.parseSpelledSpec.vars false (#[Value.slice none 0 0, Value.slice none 0 0] : Array Value).toList 8 = some ([.nil, .nil], [], places) :=
  ⟨[], by kernel_rfl⟩

set_option maxRecDepth 100000 in
theorem lifted (os : Os) (started : os.Started) (H : Type) (enc : TypeId × Value → H) (F : Stop.Interp) :
    ReturnsInHanded {} Tryd.checked os 4 .any ((OpenSpec.ofChange Rows.parseSpelledSpec).preRow enc Tryd.prog Tryd.f4 Rows.parseSpelledRow.domain false Rows.parseSpelledRow.laid) (((OpenSpec.ofChange Rows.parseSpelledSpec).at F).post enc Tryd.prog Tryd.f4 false true false false) := by
  obtain ⟨places, hx⟩ := reads os enc
  refine returnsInHanded_of_row (C := Tryd.checked) (s := OpenSpec.ofChange Rows.parseSpelledSpec) own started (by kernel_rfl) Tryd.func4
    (witness_row_at (enc := enc) (C := Tryd.checked) false (laidWorldOf Tryd.prog os) #[.slice none 0 0, .slice none 0 0] rfl (by kernel_rfl) (by kernel_rfl) (by kernel_rfl)
      (OpenSpec.preRow_of_cond 8 hx (by kernel_rfl) (fun k hk => by cases hk) (by kernel_rfl) (laid_met os))) ?_
  intro W base args ds gs before hval hW _ hcond hsz hL _ _
  exact contract H enc W base args ds gs before hval hW hsz hL

theorem said : Rows.ParseSpelledSaid :=
  OpenClaim.holds_of_cond 4 Tryd.f4 rfl rfl rfl rfl rfl rfl rfl ⟨rfl, rfl, rfl, rfl, rfl⟩ rfl rfl rfl rfl rfl (by kernel_rfl) Tryd.func4 (by kernel_rfl)
    (of_decide_eq_true (by kernel_rfl)) (by unfold Func.isWrapper; first | (rw [if_pos (by decide +kernel)]; kernel_rfl) | (rw [if_neg (by decide +kernel)]; exact ⟨rfl, rfl⟩))
    (fun os started H enc _ F => by rw [OpenClaim.pre_eq_preRow]; exact lifted os started H enc F)

theorem plain (f : FuncId) (fn : Func) (hf : Tryd.pinned.checked.prog.funcNamed "sorrel/sorrellaw04.ParseSpelled" = some f) (hfn : Tryd.pinned.checked.prog.funcs[f]? = some fn) :
    true = Tryd.pinned.checked.prog.looks [] ∧ ∀ (j : Nat) t, fn.params[j]? = some t → Tryd.pinned.checked.prog.wantsStandIn t = false := by
  obtain rfl : f = 4 := Option.some.inj ((show Tryd.prog.funcNamed "sorrel/sorrellaw04.ParseSpelled" = some 4 by kernel_rfl).symm.trans hf) |>.symm
  obtain rfl : fn = Tryd.f4 := (Option.some.inj (Tryd.func4.symm.trans hfn)).symm
  refine ⟨by kernel_rfl, fun j t ht => ?_⟩
  rw [Tryd.params4 ] at ht
  have hm := Array.mem_of_getElem? ht
  simp only [List.mem_toArray, List.mem_cons, List.not_mem_nil, or_false] at hm
  rcases hm with rfl | rfl
  · exact (show Tryd.prog.wantsStandIn 22 = false by kernel_rfl)
  · exact (show Tryd.prog.wantsStandIn 38 = false by kernel_rfl)

/-- THE CARD. -/
theorem card : Rows.ParseSpelledCardSaid :=
  Claim7.holds_tied_plain_at .later [] _ _ _ _ said (fun _ h => by cases h) (by kernel_rfl) (fun _ h => by cases h) parseSpelled_row_tie rfl ⟨rfl, rfl⟩ (by kernel_rfl) rfl plain (by kernel_rfl)
end Go.Proofs.YtjmccobblpcbhaaDoor.parsespelled
namespace Go.Proofs.YtjmccobblpcbhaaDoor
/-- ParseSpelled: the card. -/
theorem parseSpelled_holds : Rows.ParseSpelledCardSaid := parsespelled.card
end Go.Proofs.YtjmccobblpcbhaaDoor
