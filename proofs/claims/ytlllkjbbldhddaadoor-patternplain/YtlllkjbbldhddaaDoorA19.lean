/-
  PaLw, PaPnW, PatternplainK.
-/
import Derived.Test.YtlllkjbbldhddaaDoorChecked
import GoSem.PinnedTables
import GoSem.Claim
import GoSem.ClaimJoined
import GoSem.ClaimMapViews
import Derived.JoinedTies
import Derived.KernelRfl
import GoSem.ClaimSeven
import Derived.LaidByTextLater
import Derived.SevenTiedAt
import Derived.LaidSub
import Derived.LaidOnce
import Derived.Shelf.Unicode.DecodeSlow
import Derived.Laws.RangeAny
import Derived.Shelf.Unicode.DecodeAny
import Derived.Test.YtlllkjbbldhddaaDoorProg
import Derived.WalkKit
import Derived.Deep.DeepFit
import Derived.Lib.OthersKept
import Derived.Lib.RuneCountTail
import Derived.Lib.LaidU8
import Derived.MakeChecks
import Derived.ProofKit
import Derived.OpenShut
import Derived.Deep.DeepHandedRow
import Derived.Deep.AppendLies
import Derived.Deep.OwnRows
import Derived.Laws.AppendOwnNone
import Derived.Deep.QuietTactic
import Derived.BigQuiet
import Derived.Deep.RegionWith
import Derived.Laws.DeepStrings4
import Derived.Deep.Slices
import Derived.SizedLaws
import Derived.Lib.MapLaws
import Derived.Sort.Walk0
import Derived.Lib.ItoaNum
import Derived.Maps.OwnSet
import Derived.StringKeys
import Derived.Below
import Derived.Laws.ResultCell
import Derived.Deep.RegionHeld3
import Derived.Deep.RegionLaw
import Derived.Lib.QuietBelow
import Derived.StillTail
import Derived.Deep.DeepCutAuto
import Derived.Laws.IdiomStrings
import Derived.WalkSmall
import Derived.Laws.OwnMore
import Derived.WideKeyArgs
import Derived.Test.YtlllkjbbldhddaaDoorRows
import Derived.Test.YtlllkjbbldhddaaDoorCards
import Derived.Test.YtlllkjbbldhddaaDoorTie
import Derived.Test.YtlllkjbbldhddaaDoorA01
import Derived.Test.YtlllkjbbldhddaaDoorA02
import Derived.Test.YtlllkjbbldhddaaDoorA03
import Derived.Test.YtlllkjbbldhddaaDoorA04
import Derived.Test.YtlllkjbbldhddaaDoorA05
import Derived.Test.YtlllkjbbldhddaaDoorA06
import Derived.Test.YtlllkjbbldhddaaDoorA07
import Derived.Test.YtlllkjbbldhddaaDoorA08
import Derived.Test.YtlllkjbbldhddaaDoorA09
import Derived.Test.YtlllkjbbldhddaaDoorA10
import Derived.Test.YtlllkjbbldhddaaDoorA11
import Derived.Test.YtlllkjbbldhddaaDoorA12
import Derived.Test.YtlllkjbbldhddaaDoorA13
import Derived.Test.YtlllkjbbldhddaaDoorA14
import Derived.Test.YtlllkjbbldhddaaDoorA15
import Derived.Test.YtlllkjbbldhddaaDoorA16
import Derived.Test.YtlllkjbbldhddaaDoorA17
import Derived.Test.YtlllkjbbldhddaaDoorA18
set_option linter.unusedSimpArgs false
set_option linter.unusedVariables false
namespace Go.Proofs.YtlllkjbbldhddaaDoor
open Go.RowKit Go.Lib Go.Maps Go.Deep Go.Sort

def hole1 : Nd := ⟨18, 0, ⟨#[97]⟩, []⟩
theorem hole1_pat : patB [hole1] = true := by decide +kernel
theorem hole1_hls : hlsL [hole1] = [⟨#[97]⟩] := by decide +kernel
theorem Rd_hole1 (w : World) : Rd (w.alloc (.cells #[.int .i64 18, .int .i64 0, .string ⟨#[97]⟩, .slice none 0 0] 63)) (some ⟨w.heap.size, 0, none⟩) 1 [hole1] := by
  refine ⟨_, _, rfl, by simp, by unfold maxLen; omega, .inr ⟨_, _, rfl, by simp, fun i hi => ?_⟩⟩
  have : i = 0 := by simp at hi; omega
  subst this
  refine ⟨.slice none 0 0, ?_, ?_, ?_, ?_, ⟨none, 0, rfl, by simp [hole1], by simp [hole1, maxLen], .inl rfl⟩⟩ <;> simp [hole1, World.cell?_alloc_at]

set_option maxRecDepth 20000 in
set_option maxHeartbeats 2000000 in
theorem awake14_any (w : World) (hT : SpanCells w) :
    Calls Tryd.prog 32 #[] w fun e W' => e = .returned (.bool true) ∧ Below w.heap.size w W' := by
  have hb1 : Below w.heap.size w (w.alloc (.cells #[.int .i64 18, .int .i64 0, .string ⟨#[97]⟩, .slice none 0 0] 63)) := (Below.refl _ _).alloc (Nat.le_refl _) _
  have cE : Hid (Calls Tryd.prog 35 #[.slice (some ⟨w.heap.size, 0, none⟩) 1 1] (w.alloc (.cells #[.int .i64 18, .int .i64 0, .string ⟨#[97]⟩, .slice none 0 0] 63)) fun e w' => ∃ g nc, e = .returned (.tuple #[.slice (some ⟨g, 0, none⟩) 1 nc, .int .i64 0]) ∧ w'.cell? ⟨g, 0, none⟩ = some (.string ⟨#[97]⟩) ∧ Below w.heap.size w w') := by
    have := holes14_ok (l := [hole1]) (hT.below hb1) (Rd_hole1 w) (by simp [hole1]; decide) hole1_pat
    refine this.mono ?_
    rintro e w' ⟨na, nc, rfl, ho, hb⟩
    have ho := row_cell ho (i := 0) (by rw [hole1_hls]; simp) (d := .string ⟨#[97]⟩)
    obtain ⟨g, cap, he, _, _, _, hc⟩ := ho
    cases he
    rw [hole1_hls] at hc
    exact ⟨g, nc, rfl, hc, hb1.trans (hb.mono (by simp))⟩
  clear hb1
  go_enter Tryd.func32, Tryd.ntmps32
  go_wp2_with fail
  refine cE.out.mono ?_
  rintro e w2 ⟨g, nc, rfl, hc, hb2⟩
  have HB2 : Hid (_) := hb2
  clear hb2
  go_wp2_with fail
  go_ret
  exact ⟨rfl, HB2.out⟩

end Go.Proofs.YtlllkjbbldhddaaDoor

set_option linter.unusedSimpArgs false
set_option linter.unusedVariables false
namespace Go.Proofs.YtlllkjbbldhddaaDoor
open Go.RowKit Go.Lib Go.Maps Go.Deep

/-- Two lists that stand. -/
structure Std2 (w : World) (ao bo : Option Addr) (ca cb : Nat) (a b : List Nd) (W : World) : Prop where
  below : Below w.heap.size w W
  tabs : Tabs W
  ra : Rd W ao ca a
  rb : Rd W bo cb b
theorem Std2.next {w W W' : World} {ao bo : Option Addr} {ca cb : Nat} {a b : List Nd} (h : Std2 w ao bo ca cb a b W) (hb : Below W.heap.size W W') : Std2 w ao bo ca cb a b W' :=
  ⟨h.below.trans (hb.mono h.below.size), h.tabs.below hb, h.ra.below hb hb.size, h.rb.below hb hb.size⟩

set_option maxRecDepth 20000 in
set_option maxHeartbeats 2000000 in
theorem patternPlain_walk (w : World) (ao bo : Option Addr) (ca cb : Nat) (a b : List Nd) (T : Tabs w) (hA : Rd w ao ca a) (hB : Rd w bo cb b) (FA : Fit a) (FB : Fit b) :
    Calls Tryd.prog 8 #[.slice ao a.length ca, .slice bo b.length cb] w fun e w' => e = .returned (.bool true) ∧ Below w.heap.size w w' := by
  have H0 : Hid (Std2 w ao bo ca cb a b w) := ⟨Below.refl _ _, T, hA, hB⟩
  have hNA : Hid (∀ x ∈ a, x.name.size ≤ maxLen) := FA.name
  have cW := awake14_any w T.spans
  obtain ⟨ks, hc, hks, cH⟩ := holesX a
  have CH : Hid (∀ (W : World) (ao : Option Addr) (cap : Nat), SpanCells W → Rd W ao cap a → (∀ x ∈ a, x.name.size ≤ maxLen) → Calls Tryd.prog 35 #[.slice ao a.length cap] W fun e w' => ∃ na nc, e = .returned (.tuple #[.slice na ks.length nc, .int .i64 hc]) ∧ w'.ownsRow W.heap.size 9 1 (.slice na ks.length nc) ks.length (ks.map Value.string) ∧ Below W.heap.size W w') := cH
  obtain ⟨X, hX0, _, cF⟩ := fillX a []
  have CF : Hid (∀ (W : World) (ao pa : Option Addr) (cap pc : Nat), SpanCells W → Rd W ao cap a → (∀ x ∈ a, x.name.size ≤ maxLen) → Lst W W.heap.size (.slice pa ([] : List (List Nd)).length pc) [] → Calls Tryd.prog 37 #[.slice ao a.length cap, .slice pa ([] : List (List Nd)).length pc] W fun e w' => AnQ W X (flC a []) e w') := cF
  obtain ⟨L, lc, hL, cT⟩ := fitsX a b
  have CT : Hid (∀ (W : World) (ao bo : Option Addr) (cap cb : Nat), Tabs W → Rd W ao cap a → (∀ x ∈ a, x.name.size ≤ maxLen) → Rd W bo cb b → Calls Tryd.prog 40 #[.slice ao a.length cap, .slice bo b.length cb] W fun e w' => AnP W L lc e w') := cT
  have HKS : Hid ((hc = 0 ∧ patB a = true ∧ ks = hlsL a) ∨ (hc = 1 ∧ patB a = false ∧ ks = [])) := hks
  have HX0 : Hid (flC a [] = 0 → sndB X = true ∧ hds X = flH [] (hlsL a) a) := hX0
  have HL : Hid (FtC a b L lc) := hL
  have ha64 := hA.bound
  unfold maxLen at ha64
  clear T hA hB cH cF cT hks hX0 hL
  go_enter Tryd.func8, Tryd.ntmps8
  go_wp2_with fail
  refine cW.mono ?_
  rintro e w1 ⟨rfl, hb⟩
  have H1 := H0.out.next hb
  have H1 : Hid (Std2 w ao bo ca cb a b w1) := H1
  clear hb cW H0
  go_wp2_with fail
  refine (copyR H1.out.ra FA).mono ?_
  rintro e w2 ⟨a2, c2, rfl, D2, hb⟩
  have H2 : Hid (Std2 w ao bo ca cb a b w2) := H1.out.next hb
  clear hb H1
  go_wp2_with fail
  refine (CH.out w2 a2 c2 H2.out.tabs.spans D2 hNA.out).mono ?_
  rintro e w3 ⟨na, nc, rfl, _, hb⟩
  have H3 : Hid (Std2 w ao bo ca cb a b w3) := H2.out.next hb
  clear hb H2 D2 CH
  go_wp2_with fail
  refine (copyR H3.out.ra FA).mono ?_
  rintro e w4 ⟨a4, c4, rfl, D4, hb⟩
  have H4 : Hid (Std2 w ao bo ca cb a b w4) := H3.out.next hb
  clear hb H3
  have cK := check_any _ a w4 w4.heap.size (Nat.le_refl _) H4.out.tabs.spans D4
  by_cases hsa : sndB a = true
  · rw [if_pos hsa] at cK
    have HSA : Hid (sndB a = true) := hsa
    clear hsa
    go_wp2_with fail
    refine cK.mono ?_
    rintro e w5 ⟨rfl, hb⟩
    have H5 : Hid (Std2 w ao bo ca cb a b w5) := H4.out.next hb
    clear hb H4 D4 cK
    go_wp2_with fail
    refine (copyR H5.out.rb FB).mono ?_
    rintro e w6 ⟨a6, c6, rfl, D6, hb⟩
    have H6 : Hid (Std2 w ao bo ca cb a b w6) := H5.out.next hb
    clear hb H5
    have cK := check_any _ b w6 w6.heap.size (Nat.le_refl _) H6.out.tabs.spans D6
    by_cases hsb : sndB b = true
    · rw [if_pos hsb] at cK
      have HSB : Hid (sndB b = true) := hsb
      clear hsb
      by_cases hlen : a.length ≤ 16
      · obtain ⟨hf1, hf2⟩ := pn_fill HSA.out hlen HX0.out
        obtain ⟨hf3, hf4⟩ := pn_fits HSA.out HSB.out hlen HL.out
        have HF4 : Hid (lc = if a = b then 0 else 11) := hf4
        clear hf4
        have hk : hc = 0 ∧ ks = [] := by
          have p := pn_of HSA.out
          rcases HKS.out with ⟨rfl, _, h⟩ | ⟨_, h, _⟩
          · exact ⟨rfl, by rw [h, p.hls]⟩
          · rw [p.pat, decide_eq_true hlen] at h; cases h
        obtain ⟨rfl, rfl⟩ := hk
        subst hf2
        subst hf3
        rw [hf1] at CF
        clear hf1 HKS HX0 HL
        have gl : ¬ (16 : Int) < (X.length : Int) := by omega
        have hlen' : X.length ≤ 16 := hlen
        go_wp2_with fail
        refine cK.mono ?_
        rintro e w7 ⟨rfl, hb⟩
        have H7 : Hid (Std2 w ao bo ca cb X b w7) := H6.out.next hb
        clear hb H6 D6 cK
        go_wp2_with fail
        refine (copyR H7.out.ra FA).mono ?_
        rintro e w8 ⟨a8, c8, rfl, D8, hb⟩
        have H8 : Hid (Std2 w ao bo ca cb X b w8) := H7.out.next hb
        clear hb H7
        go_wp2_with fail
        refine (CF.out w8 a8 none c8 0 H8.out.tabs.spans D8 hNA.out ⟨none, 0, rfl, by simp, by simp, .inl rfl⟩).mono ?_
        rintro e w9 ⟨v9, rfl, O9, hb⟩
        obtain ⟨a9, c9, hv9, R9⟩ := Rd_of_own O9.n
        subst hv9
        have H9 : Hid (Std2 w ao bo ca cb X b w9) := H8.out.next hb
        have R9 : Hid (Rd w9 a9 c9 X) := R9
        clear hb H8 D8 CF O9
        go_wp2_with fail
        refine (copyR H9.out.ra FA).mono ?_
        rintro e w10 ⟨a10, c10, rfl, D10, hb⟩
        have H10 : Hid (Std2 w ao bo ca cb X b w10) := H9.out.next hb
        have R10 : Hid (Rd w10 a9 c9 X) := R9.out.below hb hb.size
        clear hb H9 R9
        go_wp2_with fail
        refine (copyR H10.out.rb FB).mono ?_
        rintro e w11 ⟨a11, c11, rfl, D11, hb⟩
        have H11 : Hid (Std2 w ao bo ca cb X b w11) := H10.out.next hb
        have R11 : Hid (Rd w11 a9 c9 X) := R10.out.below hb hb.size
        have D10' := D10.below hb hb.size
        clear hb H10 R10 D10
        go_wp2_with fail
        refine (CT.out w11 a10 a11 c10 c11 H11.out.tabs D10' hNA.out D11).mono ?_
        rintro e w12 ⟨v12, A12, rfl, P12, hA12, hb⟩
        have H12 : Hid (Std2 w ao bo ca cb X b w12) := H11.out.next hb
        have R12 : Hid (Rd w12 a9 c9 X) := R11.out.below hb hb.size
        obtain ⟨a12, c12, hv12⟩ : ∃ a12 c12, v12 = .slice a12 0 c12 := by
          obtain ⟨ao', cap', he⟩ := rw_form P12.row
          have : A12.length = 0 := by rw [← psA_len, hA12]; rfl
          rw [this] at he
          exact ⟨_, _, he⟩
        subst hv12
        clear hb H11 R11 D10' D11 CT P12 hA12
        by_cases hab : X = b
        · have hf4 := HF4.out
          rw [if_pos hab] at hf4
          clear HF4
          subst hf4
          have hr : decide (X = b) = true := decide_eq_true hab
          have cS := sameR H12.out.ra H12.out.rb true hr
          clear hab hr
          go_wp2_with fail
          refine cS.mono ?_
          rintro e w13 ⟨rfl, hb⟩
          have H13 : Hid (Std2 w ao bo ca cb X b w13) := H12.out.next hb
          have R13 : Hid (Rd w13 a9 c9 X) := R12.out.below hb hb.size
          clear hb H12 R12 cS
          go_wp2_with fail
          refine (sameR R13.out H13.out.ra true (by simp)).mono ?_
          rintro e w14 ⟨rfl, hb⟩
          have H14 : Hid (Std2 w ao bo ca cb X b w14) := H13.out.next hb
          clear hb H13 R13
          go_wp2_with fail
          go_ret
          exact ⟨rfl, H14.out.below⟩
        · have hf4 := HF4.out
          rw [if_neg hab] at hf4
          clear HF4
          subst hf4
          have hr : decide (X = b) = false := decide_eq_false hab
          have cS := sameR H12.out.ra H12.out.rb false hr
          clear hab hr
          go_wp2_with fail
          refine cS.mono ?_
          rintro e w13 ⟨rfl, hb⟩
          have H13 : Hid (Std2 w ao bo ca cb X b w13) := H12.out.next hb
          have R13 : Hid (Rd w13 a9 c9 X) := R12.out.below hb hb.size
          clear hb H12 R12 cS
          go_wp2_with fail
          refine (sameR R13.out H13.out.ra true (by simp)).mono ?_
          rintro e w14 ⟨rfl, hb⟩
          have H14 : Hid (Std2 w ao bo ca cb X b w14) := H13.out.next hb
          clear hb H13 R13
          go_wp2_with fail
          go_ret
          exact ⟨rfl, H14.out.below⟩
      · have hk : hc = 1 := by
          have p := pn_of HSA.out
          rcases HKS.out with ⟨_, h, _⟩ | ⟨rfl, _⟩
          · rw [p.pat, decide_eq_false hlen] at h; cases h
          · rfl
        subst hk
        have gl : (16 : Int) < (a.length : Int) := by omega
        clear hlen
        go_wp2_with fail
        refine cK.mono ?_
        rintro e w7 ⟨rfl, hb⟩
        have H7 : Hid (Std2 w ao bo ca cb a b w7) := H6.out.next hb
        clear hb H6 D6 cK
        go_wp2_with fail
        go_ret
        exact ⟨rfl, H7.out.below⟩
    · rw [if_neg hsb] at cK
      clear hsb
      go_wp2_with fail
      refine cK.mono ?_
      rintro e w7 ⟨rfl, hb⟩
      have H7 : Hid (Std2 w ao bo ca cb a b w7) := H6.out.next hb
      clear hb H6 D6 cK
      go_wp2_with fail
      go_ret
      exact ⟨rfl, H7.out.below⟩
  · rw [if_neg hsa] at cK
    clear hsa
    go_wp2_with fail
    refine cK.mono ?_
    rintro e w5 ⟨rfl, hb⟩
    have H5 : Hid (Std2 w ao bo ca cb a b w5) := H4.out.next hb
    clear hb H4 D4 cK
    go_wp2_with fail
    go_ret
    exact ⟨rfl, H5.out.below⟩
end Go.Proofs.YtlllkjbbldhddaaDoor

set_option linter.unusedVariables false
namespace Go.Proofs.YtlllkjbbldhddaaDoor.patternplain
open Go.ChangeShapes Go.WideShapes Go.ChangeAt Go.RowKit Go.WideMaps Go.WideElems
open Go.ChangeMaps (open_string shut_string)

set_option maxRecDepth 100000 in
set_option maxHeartbeats 1000000 in
theorem contract (H : Type) (enc : TypeId × Value → H) (W : World) (base : Nat) (args : Array Value) (ds gs : List (DataW H)) (before : List MemPlace)
    (hval : ∀ (j : Nat) t v, Tryd.f8.params[j]? = some t → args[j]? = some v → Value.okWide Tryd.prog W .any base t v)
    (hW : DataW.Whole enc Tryd.prog Tryd.f8.params.toList Rows.patternPlainSpec.vars false W args.toList ds gs before)
    (hsz : (DataW.weightsEach Tryd.prog (Tryd.f8.params.toList ++ (OpenSpec.ofChange Rows.patternPlainSpec).bare.plain.varTypes Tryd.prog) (ds ++ gs)).all (· ≤ reachBytes) = true)
    (hL : laidMetH Tryd.prog Rows.patternPlainRow.laid W) :
    Calls Tryd.prog 8 args W fun e W' => ∃ v, e = .returned v ∧ Rows.patternPlainSpec.post enc Tryd.prog Tryd.f8 false true false false W args v W' := by
  have hW' := hW
  have hlt : ∀ x ∈ before, x.block < W.heap.size := fun x hx => by simpa using hW'.lt x hx
  obtain ⟨p, q, hA0, hV, rfl, hfz, hnd⟩ := hW
  have hA : DataW.TrodAll enc Tryd.prog W 0 (fun _ => true) true Tryd.f8.params.toList args.toList ds p := hA0
  rw [Tryd.params8 ] at hA hval
  obtain ⟨v0, vs0, d0, ds0, p0, q0, hargs0, rfl, rfl, h0, r0⟩ := trodAll_cons hA
  obtain ⟨v1, vs1, d1, ds1, p1, q1, rfl, rfl, rfl, h1, r1⟩ := trodAll_cons r0
  obtain ⟨rfl, rfl, rfl⟩ := trodAll_nil r1
  obtain rfl : args = #[v0, v1] := by cases args; simp_all
  obtain ⟨rfl, rfl⟩ := trodVars_none hV
  clear hA0
  simp only [List.append_nil] at hW' hsz
  have h0k := h0
  have ok0 : Value.okWide Tryd.prog W .any base 22 v0 := hval 0 22 v0 (by rfl) (by rfl)
  obtain ⟨a0, n0, c0, rfl⟩ := okWide_slice Tryd.underlying22 ok0
  obtain ⟨fu0, hf0⟩ := h0
  obtain ⟨ao0, cap0, l0, he0, R0, hF0⟩ := open_nodes (v := .slice a0 n0 c0) hf0
  cases he0
  have F0 := hF0 fun n hn => of_decide_eq_true (List.all_eq_true.1 hsz n (DataW.weights_mem_each (j := 0) (t := 22) (by kernel_rfl) rfl n hn))
  have h1k := h1
  have ok1 : Value.okWide Tryd.prog W .any base 22 v1 := hval 1 22 v1 (by rfl) (by rfl)
  obtain ⟨a1, n1, c1, rfl⟩ := okWide_slice Tryd.underlying22 ok1
  obtain ⟨fu1, hf1⟩ := h1
  obtain ⟨ao1, cap1, l1, he1, R1, hF1⟩ := open_nodes (v := .slice a1 n1 c1) hf1
  cases he1
  have F1 := hF1 fun n hn => of_decide_eq_true (List.all_eq_true.1 hsz n (DataW.weights_mem_each (j := 1) (t := 22) (by kernel_rfl) rfl n hn))
  refine (patternPlain_walk W a0 a1 c0 c1 l0 l1 (tabs_of_laid hL)  R0 R1  F0 F1).mono fun e W' ⟨he, hg⟩ => ?_
  subst he
  exact ⟨_, rfl, post_below (pv := []) hW' (fun _ _ _ => trodAll_cons_mk (shut_bool Tryd.underlying4 _) trodAll_mk0) (fun sp hsp => trodAll_cons_mk (Trod_stays Tryd.laidOut (by kernel_rfl) (of_decide_eq_true (by kernel_rfl)) h0k (fun x hx => hg.same (hlt x (by simp [hx]))) (fun x hx => hsp x (by simp [hx]))) (trodAll_cons_mk (Trod_stays Tryd.laidOut (by kernel_rfl) (of_decide_eq_true (by kernel_rfl)) h1k (fun x hx => hg.same (hlt x (by simp [hx]))) (fun x hx => hsp x (by simp [hx]))) trodAll_mk0)) (fun _ _ => rfl) (by simp) (hg.frame _)⟩

end Go.Proofs.YtlllkjbbldhddaaDoor.patternplain
