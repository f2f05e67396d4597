/-
  PROVED: for every two texts Parse and Pattern answer the first one again as before, also behind questions of the second, and all lists of their answers have memory of their own (and the program is awake). Its conditions: the package variables sorrel/runes.spans, unicode/utf8.first and unicode/utf8.acceptRanges hold when the call begins what the program text lays (the card ties them).
-/
import Derived.Test.YtjmccobblpcbhaaDoorChecked
import GoSem.PinnedTables
import GoSem.Claim
import GoSem.ClaimJoined
import GoSem.ClaimMapViews
import Derived.JoinedTies
import Derived.KernelRfl
import GoSem.ClaimSeven
import Derived.LaidByTextLater
import Derived.SevenTiedAt
import Derived.LaidSub
import Derived.LaidOnce
import Derived.Shelf.Unicode.DecodeSlow
import Derived.Laws.RangeAny
import Derived.Shelf.Strings.Builder1
import Derived.Shelf.Small.Utf8
import Derived.Shelf.Small.Bits
import Derived.Shelf.Strings.BuilderF
import Derived.Shelf.Strings.BuilderK
import Derived.Shelf.Strings.BuilderRune
import Derived.Shelf.Utf8.AppendRune
import Derived.Shelf.Strconv.Itoa0
import Derived.Shelf.Strconv.Itoa1
import Derived.Shelf.LaysM
import Derived.Shelf.Strconv.Itoa2
import Derived.Shelf.Strconv.Itoa3
import Derived.Shelf.Strconv.Itoa4
import Derived.Shelf.Strings.Prefix
import Derived.Shelf.Unicode.DecodeAny
import Derived.Test.YtjmccobblpcbhaaDoorProg
import Derived.WalkKit
import Derived.Deep.DeepFit
import Derived.Lib.OthersKept
import Derived.Lib.RuneCountTail
import Derived.Lib.LaidU8
import Derived.MakeChecks
import Derived.ProofKit
import Derived.OpenShut
import Derived.Deep.DeepHandedRow
import Derived.Lib.Small
import Derived.Lib.Strings
import Derived.Lib.MapLaws
import Derived.Deep.AppendLies
import Derived.Deep.OwnRows
import Derived.Laws.AppendOwnNone
import Derived.Deep.QuietTactic
import Derived.BigQuiet
import Derived.Deep.RegionWith
import Derived.Laws.DeepStrings4
import Derived.Deep.RegionHeld3
import Derived.Laws.ResultCell
import Derived.Lib.QuietBelow
import Derived.Deep.Heap
import Derived.Laws.Rows
import Derived.Below
import Derived.StillTail
import Derived.Sort.Walk0
import Derived.Deep.RegionLaw
import Derived.Laws.OwnMore
import Derived.Lib.ItoaNum
import Derived.Maps.OwnSet
import Derived.StringKeys
import Derived.SizedLaws
import Derived.Test.YtjmccobblpcbhaaDoorRows
import Derived.Test.YtjmccobblpcbhaaDoorCards
import Derived.Test.YtjmccobblpcbhaaDoorTie
import Derived.Test.YtjmccobblpcbhaaDoorK01
import Derived.Test.YtjmccobblpcbhaaDoorK02
import Derived.Test.YtjmccobblpcbhaaDoorK03
import Derived.Test.YtjmccobblpcbhaaDoorK04
import Derived.Test.YtjmccobblpcbhaaDoorK05
import Derived.Test.YtjmccobblpcbhaaDoorK06
import Derived.Test.YtjmccobblpcbhaaDoorK07
import Derived.Test.YtjmccobblpcbhaaDoorK08
import Derived.Test.YtjmccobblpcbhaaDoorK09
import Derived.Test.YtjmccobblpcbhaaDoorK10
import Derived.Test.YtjmccobblpcbhaaDoorK11
import Derived.Test.YtjmccobblpcbhaaDoorK12
import Derived.Test.YtjmccobblpcbhaaDoorK13
import Derived.Test.YtjmccobblpcbhaaDoorK14
import Derived.Test.YtjmccobblpcbhaaDoorK15
import Derived.Test.YtjmccobblpcbhaaDoorK16
import Derived.Test.YtjmccobblpcbhaaDoorK17
import Derived.Test.YtjmccobblpcbhaaDoorK18
import Derived.Test.YtjmccobblpcbhaaDoorK19
import Derived.Test.YtjmccobblpcbhaaDoorK20
import Derived.Test.YtjmccobblpcbhaaDoorK21
import Derived.Test.YtjmccobblpcbhaaDoorK22
import Derived.Test.YtjmccobblpcbhaaDoorK23
import Derived.Test.YtjmccobblpcbhaaDoorK24
import Derived.Test.YtjmccobblpcbhaaDoorK25
import Derived.Test.YtjmccobblpcbhaaDoorK26
import Derived.Test.YtjmccobblpcbhaaDoorK27
import Derived.Test.YtjmccobblpcbhaaDoorK28
import Derived.Test.YtjmccobblpcbhaaDoorK29
import Derived.Test.YtjmccobblpcbhaaDoorK30
import Derived.Test.YtjmccobblpcbhaaDoorK31
import Derived.Test.YtjmccobblpcbhaaDoorK32
import Derived.Test.YtjmccobblpcbhaaDoorK33
import Derived.Test.YtjmccobblpcbhaaDoorK34
import Derived.Test.YtjmccobblpcbhaaDoorK35
import Derived.Test.YtjmccobblpcbhaaDoorK36
import Derived.Test.YtjmccobblpcbhaaDoorK37
import Derived.Test.YtjmccobblpcbhaaDoorK38
import Derived.Test.YtjmccobblpcbhaaDoorK39
set_option linter.unusedVariables false
namespace Go.Proofs.YtjmccobblpcbhaaDoor.pkeeps
open Go.ChangeShapes Go.WideShapes Go.ChangeAt Go.RowKit Go.WideMaps Go.WideElems
open Go.ChangeMaps (open_string shut_string)

set_option maxRecDepth 100000 in
set_option maxHeartbeats 1000000 in
theorem contract (H : Type) (enc : TypeId × Value → H) (W : World) (base : Nat) (args : Array Value) (ds gs : List (DataW H)) (before : List MemPlace)
    (hval : ∀ (j : Nat) t v, Tryd.f5.params[j]? = some t → args[j]? = some v → Value.okWide Tryd.prog W .any base t v)
    (hW : DataW.Whole enc Tryd.prog Tryd.f5.params.toList Rows.parseKeepsSpec.vars false W args.toList ds gs before)
    (hsz : (DataW.weightsEach Tryd.prog (Tryd.f5.params.toList ++ (OpenSpec.ofChange Rows.parseKeepsSpec).bare.plain.varTypes Tryd.prog) (ds ++ gs)).all (· ≤ reachBytes) = true)
    (hL : laidMetH Tryd.prog Rows.parseKeepsRow.laid W) :
    Calls Tryd.prog 5 args W fun e W' => ∃ v, e = .returned v ∧ Rows.parseKeepsSpec.post enc Tryd.prog Tryd.f5 false true false false W args v W' := by
  have hW' := hW
  obtain ⟨p, q, hA0, hV, rfl, hfz, hnd⟩ := hW
  have hA : DataW.TrodAll enc Tryd.prog W 0 (fun _ => true) true Tryd.f5.params.toList args.toList ds p := hA0
  rw [Tryd.params5 ] at hA hval
  obtain ⟨v0, vs0, d0, ds0, p0, q0, hargs0, rfl, rfl, h0, r0⟩ := trodAll_cons hA
  obtain ⟨v1, vs1, d1, ds1, p1, q1, rfl, rfl, rfl, h1, r1⟩ := trodAll_cons r0
  obtain ⟨rfl, rfl, rfl⟩ := trodAll_nil r1
  obtain rfl : args = #[v0, v1] := by cases args; simp_all
  obtain ⟨rfl, rfl⟩ := trodVars_none hV
  obtain ⟨x0, rfl, rfl, rfl, hs0⟩ := open_string Tryd.underlying9 (hval 0 9 v0 rfl rfl) h0
  obtain ⟨x1, rfl, rfl, rfl, hs1⟩ := open_string Tryd.underlying9 (hval 1 9 v1 rfl rfl) h1
  clear hA0
  simp only [List.append_nil] at hW' hsz
  have hr0 : x0.size ≤ 140737488351232 := by
    have := sized_string (j := 0) (t := 9) hsz (by kernel_rfl) rfl
    rw [Lib.size_eq]; exact this
  have hr1 : x1.size ≤ 140737488351232 := by
    have := sized_string (j := 1) (t := 9) hsz (by kernel_rfl) rfl
    rw [Lib.size_eq]; exact this
  refine (parseKeeps_walk x0 x1 W (tabs_of_laid hL) hs0 hs1).mono fun e W' ⟨he, hg⟩ => ?_
  subst he
  exact ⟨_, rfl, post_below (pa := []) (pv := []) hW' (fun _ _ _ => trodAll_cons_mk (shut_bool Tryd.underlying4 _) trodAll_mk0) (fun _ _ => trodAll_cons_mk (shut_string Tryd.underlying9 hs0) (trodAll_cons_mk (shut_string Tryd.underlying9 hs1) trodAll_mk0)) (fun _ _ => rfl) rfl (hg.frame _)⟩

theorem laid_met (os : Os) : laidMet Tryd.prog Rows.parseKeepsRow.laid ((laidWorldOf Tryd.prog os).forCall (fun _ _ => 0) ⟨#[], #[.string ⟨#[]⟩, .string ⟨#[]⟩], []⟩).memory :=
  laidMet_of_run' 8 (by kernel_rfl) (by kernel_rfl)
theorem reads (os : Os) {H : Type} (enc : TypeId × Value → H) : ∃ places, DataW.whole enc Tryd.prog ((laidWorldOf Tryd.prog os).forCall (fun _ _ => 0) ⟨#[], #[.string ⟨#[]⟩, .string ⟨#[]⟩], []⟩).memory Tryd.f5.params.toList Rows.parseKeepsSpec.vars false #[Value.string ⟨#[]⟩, Value.string ⟨#[]⟩].toList 8 = some ([.lit (.string []), .lit (.string [])], [], places) :=
  ⟨[], by kernel_rfl⟩

set_option maxRecDepth 100000 in
theorem lifted (os : Os) (started : os.Started) (H : Type) (enc : TypeId × Value → H) (F : Stop.Interp) :
    ReturnsInHanded {} Tryd.checked os 5 .any ((OpenSpec.ofChange Rows.parseKeepsSpec).preRow enc Tryd.prog Tryd.f5 Rows.parseKeepsRow.domain false Rows.parseKeepsRow.laid) (((OpenSpec.ofChange Rows.parseKeepsSpec).at F).post enc Tryd.prog Tryd.f5 false true false false) := by
  obtain ⟨places, hx⟩ := reads os enc
  refine returnsInHanded_of_row (C := Tryd.checked) (s := OpenSpec.ofChange Rows.parseKeepsSpec) own started (by kernel_rfl) Tryd.func5
    (witness_row_at (enc := enc) (C := Tryd.checked) false (laidWorldOf Tryd.prog os) #[.string ⟨#[]⟩, .string ⟨#[]⟩] rfl (by kernel_rfl) (by kernel_rfl) (by kernel_rfl)
      (OpenSpec.preRow_of_cond 8 hx (by kernel_rfl) (fun k hk => by cases hk) (by kernel_rfl) (laid_met os))) ?_
  intro W base args ds gs before hval hW _ hcond hsz hL _ _
  exact contract H enc W base args ds gs before hval hW hsz hL

theorem said : Rows.ParseKeepsSaid :=
  OpenClaim.holds_of_cond 5 Tryd.f5 rfl rfl rfl rfl rfl rfl rfl ⟨rfl, rfl, rfl, rfl, rfl⟩ rfl rfl rfl rfl rfl (by kernel_rfl) Tryd.func5 (by kernel_rfl)
    (of_decide_eq_true (by kernel_rfl)) (by unfold Func.isWrapper; first | (rw [if_pos (by decide +kernel)]; kernel_rfl) | (rw [if_neg (by decide +kernel)]; exact ⟨rfl, rfl⟩))
    (fun os started H enc _ F => by rw [OpenClaim.pre_eq_preRow]; exact lifted os started H enc F)

theorem plain (f : FuncId) (fn : Func) (hf : Tryd.pinned.checked.prog.funcNamed "sorrel/sorrellaw04.ParseKeeps" = some f) (hfn : Tryd.pinned.checked.prog.funcs[f]? = some fn) :
    true = Tryd.pinned.checked.prog.looks [] ∧ ∀ (j : Nat) t, fn.params[j]? = some t → Tryd.pinned.checked.prog.wantsStandIn t = false := by
  obtain rfl : f = 5 := Option.some.inj ((show Tryd.prog.funcNamed "sorrel/sorrellaw04.ParseKeeps" = some 5 by kernel_rfl).symm.trans hf) |>.symm
  obtain rfl : fn = Tryd.f5 := (Option.some.inj (Tryd.func5.symm.trans hfn)).symm
  refine ⟨by kernel_rfl, fun j t ht => ?_⟩
  rw [Tryd.params5 ] at ht
  obtain rfl : t = 9 := by simpa using Array.mem_of_getElem? ht
  exact (show Tryd.prog.wantsStandIn 9 = false by kernel_rfl)

/-- THE CARD. -/
theorem card : Rows.ParseKeepsCardSaid :=
  Claim7.holds_tied_plain_at .later [] _ _ _ _ said (fun _ h => by cases h) (by kernel_rfl) (fun _ h => by cases h) parseKeeps_row_tie rfl ⟨rfl, rfl⟩ (by kernel_rfl) rfl plain (by kernel_rfl)
end Go.Proofs.YtjmccobblpcbhaaDoor.pkeeps
namespace Go.Proofs.YtjmccobblpcbhaaDoor
/-- ParseKeeps: the card. -/
theorem parseKeeps_holds : Rows.ParseKeepsCardSaid := pkeeps.card
end Go.Proofs.YtjmccobblpcbhaaDoor
