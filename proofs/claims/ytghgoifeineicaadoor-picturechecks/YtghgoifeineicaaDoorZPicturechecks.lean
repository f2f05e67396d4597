/-
  PictureChecks, the card: the law of pictures holds
-/
import Derived.Test.YtghgoifeineicaaDoorChecked
import GoSem.PinnedTables
import GoSem.Claim
import GoSem.ClaimJoined
import GoSem.ClaimMapViews
import Derived.JoinedTies
import Derived.KernelRfl
import GoSem.ClaimSeven
import Derived.LaidByTextLater
import Derived.SevenTiedAt
import Derived.LaidSub
import Derived.LaidOnce
import Derived.Shelf.Unicode.DecodeSlow
import Derived.Laws.RangeAny
import Derived.Shelf.Strconv.Itoa0
import Derived.Shelf.LaysM
import Derived.Shelf.Strconv.Clone
import Derived.Shelf.Unicode.DecodeAny
import Derived.Shelf.Slices.CompactS
import Derived.Test.YtghgoifeineicaaDoorProg
import Derived.WalkKit
import Derived.Deep.DeepFit
import Derived.Lib.OthersKept
import Derived.Lib.RuneCountTail
import Derived.Lib.LaidU8
import Derived.MakeChecks
import Derived.ProofKit
import Derived.OpenShut
import Derived.Deep.DeepHandedRow
import Derived.Deep.AppendLies
import Derived.Deep.OwnRows
import Derived.Laws.AppendOwnNone
import Derived.Deep.QuietTactic
import Derived.BigQuiet
import Derived.Deep.RegionWith
import Derived.Laws.DeepStrings4
import Derived.Below
import Derived.Lib.MapLaws
import Derived.Sort.Walk0
import Derived.Lib.QuietBelow
import Derived.StillTail
import Derived.Deep.RegionHeld3
import Derived.Laws.AppendOwn
import Derived.Deep.DeepCutAuto
import Derived.Maps.OwnSet
import Derived.Maps.Keyed
import Derived.DeepKeys4
import Derived.Laws.ResultCell
import Derived.Laws.CopyOwn
import Derived.Laws.OwnMore
import Derived.Deep.RegionLaw
import Derived.Laws.IdiomStrings
import Derived.WalkSmall
import Derived.Lib.SlBytesRow
import Derived.StringKeys
import Derived.Deep.Slices
import Derived.SizedLaws
import Derived.Laws.Rows
import Derived.WideKeyArgs
import Derived.Test.YtghgoifeineicaaDoorRows
import Derived.Test.YtghgoifeineicaaDoorCards
import Derived.Test.YtghgoifeineicaaDoorTie
import Derived.Test.YtghgoifeineicaaDoorZ01
import Derived.Test.YtghgoifeineicaaDoorZ02
import Derived.Test.YtghgoifeineicaaDoorZ03
import Derived.Test.YtghgoifeineicaaDoorZ04
import Derived.Test.YtghgoifeineicaaDoorZ05
import Derived.Test.YtghgoifeineicaaDoorZ06
import Derived.Test.YtghgoifeineicaaDoorZ07
import Derived.Test.YtghgoifeineicaaDoorZ08
import Derived.Test.YtghgoifeineicaaDoorZ09
import Derived.Test.YtghgoifeineicaaDoorZ10
import Derived.Test.YtghgoifeineicaaDoorZ11
import Derived.Test.YtghgoifeineicaaDoorZ12
import Derived.Test.YtghgoifeineicaaDoorZ13
import Derived.Test.YtghgoifeineicaaDoorZ14
import Derived.Test.YtghgoifeineicaaDoorZ15
import Derived.Test.YtghgoifeineicaaDoorZ16
import Derived.Test.YtghgoifeineicaaDoorZ17
import Derived.Test.YtghgoifeineicaaDoorZ18
import Derived.Test.YtghgoifeineicaaDoorZ19
import Derived.Test.YtghgoifeineicaaDoorZ20
import Derived.Test.YtghgoifeineicaaDoorZ21
import Derived.Test.YtghgoifeineicaaDoorZ22
import Derived.Test.YtghgoifeineicaaDoorZ23
import Derived.Test.YtghgoifeineicaaDoorZ24
import Derived.Test.YtghgoifeineicaaDoorZ25
import Derived.Test.YtghgoifeineicaaDoorZ26
import Derived.Test.YtghgoifeineicaaDoorZ27
import Derived.Test.YtghgoifeineicaaDoorZ28
import Derived.Test.YtghgoifeineicaaDoorZ29
import Derived.Test.YtghgoifeineicaaDoorZ30
import Derived.Test.YtghgoifeineicaaDoorZ31
import Derived.Test.YtghgoifeineicaaDoorZ32
import Derived.Test.YtghgoifeineicaaDoorZ33
import Derived.Test.YtghgoifeineicaaDoorZ34
import Derived.Test.YtghgoifeineicaaDoorZ35
import Derived.Test.YtghgoifeineicaaDoorZ36
import Derived.Test.YtghgoifeineicaaDoorZ37
import Derived.Test.YtghgoifeineicaaDoorZ38
import Derived.Test.YtghgoifeineicaaDoorZ39
import Derived.Test.YtghgoifeineicaaDoorZ40
import Derived.Test.YtghgoifeineicaaDoorZ41
import Derived.Test.YtghgoifeineicaaDoorZ42
import Derived.Test.YtghgoifeineicaaDoorZ43
import Derived.Test.YtghgoifeineicaaDoorZ44
import Derived.Test.YtghgoifeineicaaDoorZ45
import Derived.Test.YtghgoifeineicaaDoorZ46
set_option linter.unusedVariables false
namespace Go.Proofs.YtghgoifeineicaaDoor.picturechecks
open Go.ChangeShapes Go.WideShapes Go.ChangeAt Go.RowKit Go.WideMaps Go.WideElems
open Go.ChangeMaps (open_string shut_string)

theorem laid_met (os : Os) : laidMet Tryd.prog Rows.pictureChecksRow.laid ((laidWorldOf Tryd.prog os).forCall (fun _ _ => 0) ⟨#[], #[.agg #[.slice none 0 0, .slice none 0 0]], []⟩).memory :=
  laidMet_of_run' 8 (by kernel_rfl) (by kernel_rfl)
theorem reads (os : Os) {H : Type} (enc : TypeId × Value → H) : ∃ places, DataW.whole enc Tryd.prog ((laidWorldOf Tryd.prog os).forCall (fun _ _ => 0) ⟨#[], #[.agg #[.slice none 0 0, .slice none 0 0]], []⟩).memory Tryd.f6.params.toList Rows.pictureChecksSpec.vars false (#[Value.agg #[.slice none 0 0, .slice none 0 0]] : Array Value).toList 8 = some ([.agg [.nil, .nil]], [], places) :=
  ⟨[], by kernel_rfl⟩

set_option maxRecDepth 100000 in
theorem lifted (os : Os) (started : os.Started) (H : Type) (enc : TypeId × Value → H) (F : Stop.Interp) :
    ReturnsInHanded {} Tryd.checked os 6 .any ((OpenSpec.ofChange Rows.pictureChecksSpec).preRow enc Tryd.prog Tryd.f6 Rows.pictureChecksRow.domain false Rows.pictureChecksRow.laid) (((OpenSpec.ofChange Rows.pictureChecksSpec).at F).post enc Tryd.prog Tryd.f6 false true false false) := by
  obtain ⟨places, hx⟩ := reads os enc
  refine returnsInHanded_of_row (C := Tryd.checked) (s := OpenSpec.ofChange Rows.pictureChecksSpec) own started (by kernel_rfl) Tryd.func6
    (witness_row_at (enc := enc) (C := Tryd.checked) false (laidWorldOf Tryd.prog os) #[.agg #[.slice none 0 0, .slice none 0 0]] rfl (by kernel_rfl) (by kernel_rfl) (by kernel_rfl)
      (OpenSpec.preRow_of_cond 8 hx (by kernel_rfl) (fun k hk => by cases hk) (by kernel_rfl) (laid_met os))) ?_
  intro W base args ds gs before hval hW _ hcond hsz hL _ _
  exact contract H enc W base args ds gs before hval hW hsz hL

theorem said : Rows.PictureChecksSaid :=
  OpenClaim.holds_of_cond 6 Tryd.f6 rfl rfl rfl rfl rfl rfl rfl ⟨rfl, rfl, rfl, rfl, rfl⟩ rfl rfl rfl rfl rfl (by kernel_rfl) Tryd.func6 (by kernel_rfl)
    (of_decide_eq_true (by kernel_rfl)) (by unfold Func.isWrapper; first | (rw [if_pos (by decide +kernel)]; kernel_rfl) | (rw [if_neg (by decide +kernel)]; exact ⟨rfl, rfl⟩))
    (fun os started H enc _ F => by rw [OpenClaim.pre_eq_preRow]; exact lifted os started H enc F)

theorem plain (f : FuncId) (fn : Func) (hf : Tryd.pinned.checked.prog.funcNamed "sorrel/sorrellaw12.PictureChecks" = some f) (hfn : Tryd.pinned.checked.prog.funcs[f]? = some fn) :
    false = Tryd.pinned.checked.prog.looks [] ∧ ∀ (j : Nat) t, fn.params[j]? = some t → Tryd.pinned.checked.prog.wantsStandIn t = false := by
  obtain rfl : f = 6 := Option.some.inj ((show Tryd.prog.funcNamed "sorrel/sorrellaw12.PictureChecks" = some 6 by kernel_rfl).symm.trans hf) |>.symm
  obtain rfl : fn = Tryd.f6 := (Option.some.inj (Tryd.func6.symm.trans hfn)).symm
  refine ⟨by kernel_rfl, fun j t ht => ?_⟩
  rw [Tryd.params6 ] at ht
  obtain rfl : t = 56 := by simpa using Array.mem_of_getElem? ht
  exact (show Tryd.prog.wantsStandIn 56 = false by kernel_rfl)

/-- THE CARD. -/
theorem card : Rows.PictureChecksCardSaid :=
  Claim7.holds_tied_plain_at .later [] _ _ _ _ said (fun _ h => by cases h) (by kernel_rfl) (fun _ h => by cases h) pictureChecks_row_tie rfl ⟨rfl, rfl⟩ (by kernel_rfl) rfl plain (by kernel_rfl)
end Go.Proofs.YtghgoifeineicaaDoor.picturechecks
namespace Go.Proofs.YtghgoifeineicaaDoor
/-- PictureChecks: the card. -/
theorem pictureChecks_holds : Rows.PictureChecksCardSaid := picturechecks.card
end Go.Proofs.YtghgoifeineicaaDoor
