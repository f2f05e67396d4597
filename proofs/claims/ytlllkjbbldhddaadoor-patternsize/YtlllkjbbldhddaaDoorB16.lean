/-
  PaFt2, PaLw, PaHl, PaNu, PaSzW, PatternsizeK.
-/
import Derived.Test.YtlllkjbbldhddaaDoorChecked
import GoSem.PinnedTables
import GoSem.Claim
import GoSem.ClaimJoined
import GoSem.ClaimMapViews
import Derived.JoinedTies
import Derived.KernelRfl
import GoSem.ClaimSeven
import Derived.LaidByTextLater
import Derived.SevenTiedAt
import Derived.LaidSub
import Derived.LaidOnce
import Derived.Shelf.Unicode.DecodeSlow
import Derived.Laws.RangeAny
import Derived.Shelf.Unicode.DecodeAny
import Derived.Test.YtlllkjbbldhddaaDoorProg
import Derived.WalkKit
import Derived.Deep.DeepFit
import Derived.Lib.OthersKept
import Derived.Lib.RuneCountTail
import Derived.Lib.LaidU8
import Derived.MakeChecks
import Derived.ProofKit
import Derived.OpenShut
import Derived.Deep.DeepHandedRow
import Derived.Deep.AppendLies
import Derived.Deep.OwnRows
import Derived.Laws.AppendOwnNone
import Derived.Deep.QuietTactic
import Derived.BigQuiet
import Derived.Deep.RegionWith
import Derived.Laws.DeepStrings4
import Derived.Deep.Slices
import Derived.SizedLaws
import Derived.Lib.MapLaws
import Derived.Sort.Walk0
import Derived.Lib.ItoaNum
import Derived.Maps.OwnSet
import Derived.StringKeys
import Derived.Below
import Derived.Laws.ResultCell
import Derived.Deep.RegionHeld3
import Derived.Deep.RegionLaw
import Derived.Lib.QuietBelow
import Derived.StillTail
import Derived.Deep.DeepCutAuto
import Derived.Laws.IdiomStrings
import Derived.WalkSmall
import Derived.Laws.OwnMore
import Derived.WideKeyArgs
import Derived.Test.YtlllkjbbldhddaaDoorRows
import Derived.Test.YtlllkjbbldhddaaDoorCards
import Derived.Test.YtlllkjbbldhddaaDoorTie
import Derived.Test.YtlllkjbbldhddaaDoorB01
import Derived.Test.YtlllkjbbldhddaaDoorB02
import Derived.Test.YtlllkjbbldhddaaDoorB03
import Derived.Test.YtlllkjbbldhddaaDoorB04
import Derived.Test.YtlllkjbbldhddaaDoorB05
import Derived.Test.YtlllkjbbldhddaaDoorB06
import Derived.Test.YtlllkjbbldhddaaDoorB07
import Derived.Test.YtlllkjbbldhddaaDoorB08
import Derived.Test.YtlllkjbbldhddaaDoorB09
import Derived.Test.YtlllkjbbldhddaaDoorB10
import Derived.Test.YtlllkjbbldhddaaDoorB11
import Derived.Test.YtlllkjbbldhddaaDoorB12
import Derived.Test.YtlllkjbbldhddaaDoorB13
import Derived.Test.YtlllkjbbldhddaaDoorB14
import Derived.Test.YtlllkjbbldhddaaDoorB15
set_option linter.unusedSimpArgs false
set_option linter.unusedVariables false
namespace Go.Proofs.YtlllkjbbldhddaaDoor
open Go.RowKit Go.Lib Go.Maps Go.Deep

/-- Holes, with one answer. -/
theorem holesX (l : List Nd) : ∃ ks c, ((c = 0 ∧ patB l = true ∧ ks = hlsL l) ∨ (c = 1 ∧ patB l = false ∧ ks = [])) ∧ ∀ (W : World) (ao : Option Addr) (cap : Nat), SpanCells W → Rd W ao cap l → (∀ x ∈ l, x.name.size ≤ maxLen) →
    Calls Tryd.prog 35 #[.slice ao l.length cap] W fun e w' => ∃ na nc, e = .returned (.tuple #[.slice na ks.length nc, .int .i64 c]) ∧ w'.ownsRow W.heap.size 9 1 (.slice na ks.length nc) ks.length (ks.map Value.string) ∧ Below W.heap.size W w' := by
  cases hp : patB l with
  | true => exact ⟨hlsL l, 0, .inl ⟨rfl, rfl, rfl⟩, fun W ao cap hT hN hnm => holes14_ok hT hN hnm hp⟩
  | false =>
    refine ⟨[], 1, .inr ⟨rfl, rfl, rfl⟩, fun W ao cap hT hN hnm => (holes14_bad hT hN hnm hp).mono ?_⟩
    rintro e w' ⟨he, hb⟩
    exact ⟨none, 0, he, World.ownsRow_nil _ _ _ _, hb⟩
end Go.Proofs.YtlllkjbbldhddaaDoor

set_option linter.unusedSimpArgs false
set_option linter.unusedVariables false
namespace Go.Proofs.YtlllkjbbldhddaaDoor
open Go.RowKit Go.Lib Go.Maps Go.Deep Go.Sort

def hole1 : Nd := ⟨18, 0, ⟨#[97]⟩, []⟩
theorem hole1_pat : patB [hole1] = true := by decide +kernel
theorem hole1_hls : hlsL [hole1] = [⟨#[97]⟩] := by decide +kernel
theorem Rd_hole1 (w : World) : Rd (w.alloc (.cells #[.int .i64 18, .int .i64 0, .string ⟨#[97]⟩, .slice none 0 0] 63)) (some ⟨w.heap.size, 0, none⟩) 1 [hole1] := by
  refine ⟨_, _, rfl, by simp, by unfold maxLen; omega, .inr ⟨_, _, rfl, by simp, fun i hi => ?_⟩⟩
  have : i = 0 := by simp at hi; omega
  subst this
  refine ⟨.slice none 0 0, ?_, ?_, ?_, ?_, ⟨none, 0, rfl, by simp [hole1], by simp [hole1, maxLen], .inl rfl⟩⟩ <;> simp [hole1, World.cell?_alloc_at]

set_option maxRecDepth 20000 in
set_option maxHeartbeats 2000000 in
theorem awake14_any (w : World) (hT : SpanCells w) :
    Calls Tryd.prog 32 #[] w fun e W' => e = .returned (.bool true) ∧ Below w.heap.size w W' := by
  have hb1 : Below w.heap.size w (w.alloc (.cells #[.int .i64 18, .int .i64 0, .string ⟨#[97]⟩, .slice none 0 0] 63)) := (Below.refl _ _).alloc (Nat.le_refl _) _
  have cE : Hid (Calls Tryd.prog 35 #[.slice (some ⟨w.heap.size, 0, none⟩) 1 1] (w.alloc (.cells #[.int .i64 18, .int .i64 0, .string ⟨#[97]⟩, .slice none 0 0] 63)) fun e w' => ∃ g nc, e = .returned (.tuple #[.slice (some ⟨g, 0, none⟩) 1 nc, .int .i64 0]) ∧ w'.cell? ⟨g, 0, none⟩ = some (.string ⟨#[97]⟩) ∧ Below w.heap.size w w') := by
    have := holes14_ok (l := [hole1]) (hT.below hb1) (Rd_hole1 w) (by simp [hole1]; decide) hole1_pat
    refine this.mono ?_
    rintro e w' ⟨na, nc, rfl, ho, hb⟩
    have ho := row_cell ho (i := 0) (by rw [hole1_hls]; simp) (d := .string ⟨#[97]⟩)
    obtain ⟨g, cap, he, _, _, _, hc⟩ := ho
    cases he
    rw [hole1_hls] at hc
    exact ⟨g, nc, rfl, hc, hb1.trans (hb.mono (by simp))⟩
  clear hb1
  go_enter Tryd.func32, Tryd.ntmps32
  go_wp2_with fail
  refine cE.out.mono ?_
  rintro e w2 ⟨g, nc, rfl, hc, hb2⟩
  have HB2 : Hid (_) := hb2
  clear hb2
  go_wp2_with fail
  go_ret
  exact ⟨rfl, HB2.out⟩

end Go.Proofs.YtlllkjbbldhddaaDoor

set_option linter.unusedSimpArgs false
set_option linter.unusedVariables false
namespace Go.Proofs.YtlllkjbbldhddaaDoor
open Go.RowKit Go.Lib

theorem ho_ext {a b : ByteArray} (h : a.data.toList = b.data.toList) : a = b := by
  apply ByteArray.ext
  exact Array.ext' h

theorem beq_toLisO (a b : ByteArray) : (a.toList == b.toList) = decide (a = b) := by
  rw [toList_data, toList_data]
  by_cases h : a = b
  · subst h; simp
  · have : a.data.toList ≠ b.data.toList := fun e => h (ho_ext e)
    rw [beq_eq_false_iff_ne.2 this]
    simp [h]
end Go.Proofs.YtlllkjbbldhddaaDoor

set_option linter.unusedSimpArgs false
set_option linter.unusedVariables false
namespace Go.Proofs.YtlllkjbbldhddaaDoor
open Go.RowKit Go.Lib

theorem snd_forms {l : List Nd} (h : sndB l = true) : ∀ x ∈ l, formB x = true := by
  obtain ⟨f, hf⟩ := Option.isSome_iff_exists.1 h
  have hok := begOk_of (begL_some hf).2.2.1
  intro x hx
  obtain ⟨k, hk, rfl⟩ := List.getElem_of_mem hx
  have e : l.getD k nd0 = l[k] := by simp [hk]
  rw [← e]
  exact (hok.at_ k hk).1
theorem snd_nms {l : List Nd} (h : sndB l = true) : ∀ x ∈ l, x.name.size ≤ maxLen := fun x hx => by
  have := (form_name (snd_forms h x hx)).2
  unfold maxLen; omega
theorem fit_snd {l : List Nd} (h : sndB l = true) : Fit l := by
  obtain ⟨f, hf⟩ := Option.isSome_iff_exists.1 h
  exact fit_of_snd hf (snd_nms h)

def numW (ks : List ByteArray) (s : ByteArray) : Int := if ks.any (fun y => decide (y = s)) = true then (numL ks s : Nat) else -1
theorem numW_mem {ks : List ByteArray} {s : ByteArray} (h : s ∈ ks) : numW ks s = (numL ks s : Nat) := by
  unfold numW
  rw [if_pos (List.any_eq_true.2 ⟨s, h, by simp⟩)]
theorem numL_stop : ∀ (ks : List ByteArray) (s : ByteArray) (k : Nat), (ks.take k).any (fun y => decide (y = s)) = false → (hk : k < ks.length) → ks[k] = s → numL ks s = k
  | y :: ks, s, 0, _, _, he => by simp at he; unfold numL; rw [if_pos he]
  | y :: ks, s, k + 1, h, hk, he => by
    simp only [List.take_succ_cons, List.any_cons, Bool.or_eq_false_iff] at h
    unfold numL
    rw [if_neg (of_decide_eq_false h.1), numL_stop ks s k h.2 (by simpa using hk) (by simpa using he)]

set_option maxRecDepth 20000 in
set_option maxHeartbeats 2000000 in
theorem number_any {w : World} {na : Option Addr} {nc : Nat} {ks : List ByteArray} {s : ByteArray} (hS : Strs w na nc ks) :
    Calls Tryd.prog 43 #[.slice na ks.length nc, .string s] w fun e w' => e = .returned (.int .i64 (numW ks s)) ∧ Below w.heap.size w w' := by
  have HS : Hid (Strs w na nc ks) := hS
  have hm := hS.1
  have hm2 := hS.2.1
  unfold maxLen at hm2
  obtain ⟨Z, hZ⟩ : ∃ Z, numW ks s = Z := ⟨_, rfl⟩
  have HZ : Hid (numW ks s = Z) := hZ
  rw [hZ]
  clear hS hZ
  go_enter Tryd.func43, Tryd.ntmps43
  go_wp2_with fail
  go_loopw [5] (fun i wr => ∃ k : Nat, k ≤ ks.length ∧ i = .int .i64 k ∧ Hid ((ks.take k).any (fun y => decide (y = s)) = false) ∧ Below w.heap.size w wr) (fun i _ => ks.length - (RowKit.intOf i).toNat)
  case atStart => exact ⟨0, by omega, rfl, by show _ = _; simp, Below.refl _ _⟩
  case round =>
    obtain ⟨k, hk, rfl, hA, hbw⟩ := hrel
    by_cases hlt : k < ks.length
    · obtain ⟨b, o, rfl, hb, hc⟩ := HS.out.cell hlt
      have hc := (hbw.cell (p := ⟨b, o + k, none⟩) hb).trans hc
      have HB : Hid (_) := hbw
      have hgk : ks.getD k ⟨#[]⟩ = ks[k] := by simp [hlt]
      by_cases he : ks.getD k ⟨#[]⟩ = s
      · have HR : Hid (Z = (k : Int)) := by
          show Z = _
          rw [← HZ.out, numW_mem (by rw [← he, hgk]; exact List.getElem_mem hlt), numL_stop ks s k hA.out hlt (by rw [← hgk]; exact he)]
        have hq : ((ks.getD k ⟨#[]⟩).toList == s.toList) = true := by rw [he]; simp
        rw [he] at hc
        clear hbw he hgk hq
        go_wp2_with fail
        go_ret
        exact ⟨by rw [HR.out] <;> rfl, HB.out⟩
      · have HR : Hid ((ks.take (k + 1)).any (fun y => decide (y = s)) = false) := by
          show _ = _
          rw [List.take_succ_eq_append_getElem hlt, List.any_append, hA.out]
          rw [hgk] at he
          simp [he]
        have hq : ((ks.getD k ⟨#[]⟩).toList == s.toList) = false := by rw [beq_toLisO]; exact decide_eq_false he
        clear hbw he hgk
        generalize ks.getD k ⟨#[]⟩ = y at *
        go_wp2_with fail
        exact ⟨⟨k + 1, by omega, by go_num, HR.out, HB.out⟩, by simp [RowKit.intOf]; omega⟩
    · have hke : k = ks.length := by omega
      subst hke
      rw [List.take_length] at hA
      have HR : Hid (Z = -1) := by
        show Z = _
        rw [← HZ.out]; unfold numW; rw [hA.out]; rfl
      have HB : Hid (_) := hbw
      clear hbw
      go_wp2_with fail
      go_ret
      exact ⟨by rw [HR.out] <;> rfl, HB.out⟩
end Go.Proofs.YtlllkjbbldhddaaDoor

set_option linter.unusedSimpArgs false
set_option linter.unusedVariables false
namespace Go.Proofs.YtlllkjbbldhddaaDoor
open Go.RowKit Go.Lib Go.Maps Go.Deep

/-- A list and a list of lists that stand. -/
structure StdP (w : World) (ao po : Option Addr) (ca cp : Nat) (a : List Nd) (ps : List (List Nd)) (W : World) : Prop where
  below : Below w.heap.size w W
  tabs : SpanCells W
  ra : Rd W ao ca a
  rp : RdP W po cp ps
theorem StdP.next {w W W' : World} {ao po : Option Addr} {ca cp : Nat} {a : List Nd} {ps : List (List Nd)} (h : StdP w ao po ca cp a ps W) (hb : Below W.heap.size W W') : StdP w ao po ca cp a ps W' :=
  ⟨h.below.trans (hb.mono h.below.size), h.tabs.below hb, h.ra.below hb hb.size, h.rp.below hb⟩
/-- What a filled pattern's size is reckoned from. -/
theorem size_step {l : List Nd} {ps : List (List Nd)} {k : Nat} (hk : k < l.length) : (flH ps (hlsL l) (l.take (k + 1))).length = (flH ps (hlsL l) (l.take k)).length + if (l.getD k nd0).op = 18 then (ps.getD (numL (hlsL l) (l.getD k nd0).name) []).length else 1 := by
  rw [flH_take hk, List.length_append]
  congr 1
  unfold flN
  split
  · rw [hds_len]
  · rfl
theorem size_le {l : List Nd} {ps : List (List Nd)} (hs : ∀ r ∈ ps, sndB r = true) (m : List Nd) : (flH ps (hlsL l) m).length ≤ 64 * m.length := by
  have key : ∀ m : List Nd, (flH ps (hlsL l) m).length ≤ 64 * m.length := by
    intro m
    induction m with
    | nil => simp [flH]
    | cons x m ih =>
      have e1 : flH ps (hlsL l) (x :: m) = flN ps (hlsL l) x ++ flH ps (hlsL l) m := by simp [flH]
      have h2 : (flN ps (hlsL l) x).length ≤ 64 := by
        unfold flN
        split
        · rw [hds_len]
          by_cases hn : numL (hlsL l) x.name < ps.length
          · exact (snd_len (hs _ (getD_mem hn))).2
          · rw [List.getD_eq_getElem?_getD, List.getElem?_eq_none (by omega)]; simp
        · simp
      rw [e1]; simp; omega
  exact key m
theorem any_no14 {ps : List (List Nd)} (h : ∀ l ∈ ps, sndB l = true) : ps.any (fun l => !sndB l) = false := by
  rw [List.any_eq_false]; intro l hl; simp [h l hl]
theorem patB_hls {l : List Nd} (h : patB l = true) : (hlsL l).length ≤ 6 := by
  unfold patB at h
  simp only [Bool.and_eq_true, decide_eq_true_eq] at h
  exact h.1.2
set_option maxRecDepth 20000 in
set_option maxHeartbeats 4000000 in
theorem patternSize_walk (w : World) (ao po : Option Addr) (ca cp : Nat) (l : List Nd) (ps : List (List Nd)) (T : SpanCells w) (hA : Rd w ao ca l) (hP : RdP w po cp ps) (FA : FitX l) (FP : FitL ps) :
    Calls Tryd.prog 7 #[.slice ao l.length ca, .slice po ps.length cp] w fun e w' => e = .returned (.bool true) ∧ Below w.heap.size w w' := by
  have H0 : Hid (StdP w ao po ca cp l ps w) := ⟨Below.refl _ _, T, hA, hP⟩
  have hNA : Hid (∀ x ∈ l, x.name.size ≤ maxLen) := FA.name
  have HFA : Hid (Fit l) := FA.fit
  have HFP : Hid (FitL ps) := FP
  have cW := awake14_any w T
  obtain ⟨ks, hc, hks, cH⟩ := holesX l
  have CH : Hid (∀ (W : World) (ao : Option Addr) (cap : Nat), SpanCells W → Rd W ao cap l → (∀ x ∈ l, x.name.size ≤ maxLen) → Calls Tryd.prog 35 #[.slice ao l.length cap] W fun e w' => ∃ na nc, e = .returned (.tuple #[.slice na ks.length nc, .int .i64 hc]) ∧ w'.ownsRow W.heap.size 9 1 (.slice na ks.length nc) ks.length (ks.map Value.string) ∧ Below W.heap.size W w') := cH
  obtain ⟨X, hX0, hX1, cF⟩ := fillX l ps
  obtain ⟨c, hcc⟩ : ∃ c, flC l ps = c := ⟨_, rfl⟩
  rw [hcc] at cF hX0 hX1
  have HC : Hid (flC l ps = c) := hcc
  have CF : Hid (∀ (W : World) (ao pa : Option Addr) (cap pc : Nat), SpanCells W → Rd W ao cap l → (∀ x ∈ l, x.name.size ≤ maxLen) → Lst W W.heap.size (.slice pa ps.length pc) ps → Calls Tryd.prog 37 #[.slice ao l.length cap, .slice pa ps.length pc] W fun e w' => AnQ W X c e w') := cF
  have HKS : Hid ((hc = 0 ∧ patB l = true ∧ ks = hlsL l) ∨ (hc = 1 ∧ patB l = false ∧ ks = [])) := hks
  have HX0 : Hid (c = 0 → sndB X = true ∧ hds X = flH ps (hlsL l) l) := hX0
  have HX1 : Hid (c ≠ 0 → X = []) := hX1
  have ha64 := hA.bound
  unfold maxLen at ha64
  have hpb : ps.length ≤ cp ∧ cp ≤ 9223372036854775807 := by
    obtain ⟨_, _, e, h1, h2, _⟩ := id hP
    cases e
    unfold maxLen at h2
    exact ⟨h1, by omega⟩
  clear T hA hP cH cF hks hX0 hX1 hcc FA FP
  go_enter Tryd.func7, Tryd.ntmps7
  go_wp2_with fail
  refine cW.mono ?_
  rintro e w1 ⟨rfl, hb⟩
  have H1 : Hid (StdP w ao po ca cp l ps w1) := H0.out.next hb
  clear hb cW H0
  go_wp2_with fail
  refine (copyR H1.out.ra HFA.out).mono ?_
  rintro e w2 ⟨a2, c2, rfl, D2, hb⟩
  have H2 : Hid (StdP w ao po ca cp l ps w2) := H1.out.next hb
  clear hb H1
  go_wp2_with fail
  refine (CH.out w2 a2 c2 H2.out.tabs D2 hNA.out).mono ?_
  rintro e w3 ⟨na, nc, rfl, hks3, hb⟩
  have H3 : Hid (StdP w ao po ca cp l ps w3) := H2.out.next hb
  obtain ⟨na', nc', e', hS3⟩ := Strs_of_own hks3
  cases e'
  have S3 : Hid (Strs w3 na nc ks) := hS3
  clear hb H2 D2 CH hks3 hS3
  go_wp2_with fail
  refine (copyR H3.out.ra HFA.out).mono ?_
  rintro e w4 ⟨a4, c4, rfl, D4, hb⟩
  have H4 : Hid (StdP w ao po ca cp l ps w4) := H3.out.next hb
  have S4 : Hid (Strs w4 na nc ks) := S3.out.below hb
  clear hb H3 S3
  go_wp2_with fail
  refine (copiesP H4.out.rp HFP.out).mono ?_
  rintro e w5 ⟨a5, c5, rfl, D5, hb⟩
  have H5 : Hid (StdP w ao po ca cp l ps w5) := H4.out.next hb
  have S5 : Hid (Strs w5 na nc ks) := S4.out.below hb
  have D4' := D4.below hb hb.size
  clear hb H4 S4 D4
  go_wp2_with fail
  refine (CF.out w5 a4 a5 c4 c5 H5.out.tabs D4' hNA.out D5).mono ?_
  rintro e w6 ⟨v6, rfl, O6, hb⟩
  have H6 : Hid (StdP w ao po ca cp l ps w6) := H5.out.next hb
  have S6 : Hid (Strs w6 na nc ks) := S5.out.below hb
  obtain ⟨a6, c6, hv6, R6⟩ := Rd_of_own O6.n
  subst hv6
  have R6 : Hid (Rd w6 a6 c6 X) := R6
  clear hb H5 S5 D4' D5 O6 CF
  rcases HKS.out with ⟨rfl, hpat, rfl⟩ | ⟨rfl, hpat, rfl⟩
  · have HPAT : Hid (patB l = true) := hpat
    clear HKS hpat
    have HC1 : Hid (∀ r ∈ ps, sndB r = false → c = 1) := fun r hr hs => by
      rw [← HC.out]; unfold flC; rw [if_pos (.inr (List.any_eq_true.2 ⟨r, hr, by rw [hs]; rfl⟩))]
    have HC2 : Hid ((∀ r ∈ ps, sndB r = true) → ps.length ≠ (hlsL l).length → c = 2) := fun hs hl => by
      rw [← HC.out]; unfold flC; rw [if_neg (by rw [HPAT.out, any_no14 hs]; simp), if_pos hl]
    have HC3 : Hid ((∀ r ∈ ps, sndB r = true) → ps.length = (hlsL l).length → c = if 64 < (flH ps (hlsL l) l).length then 10 else 0) := fun hs hl => by
      rw [← HC.out]; exact flC_ok ⟨HPAT.out, hs, hl⟩
    have hl16 := (patB_len HPAT.out).2
    have hk6 := patB_hls HPAT.out
    clear HC
    go_wp2_with fail
    go_loopw [9] (fun i wr => ∃ k : Nat, k ≤ ps.length ∧ i = .int .i64 k ∧ Hid (∀ r ∈ ps.take k, sndB r = true) ∧ Below w6.heap.size w6 wr) (fun i _ => ps.length - (RowKit.intOf i).toNat)
    case atStart => exact ⟨0, by omega, rfl, by show ∀ _ ∈ _, _; simp, Below.refl _ _⟩
    case round =>
      obtain ⟨k, hk, rfl, hS, hbr⟩ := hrel
      have HH : Hid (StdP w ao po ca cp l ps wr) := H6.out.next hbr
      have SS : Hid (Strs wr na nc (hlsL l)) := S6.out.below hbr
      have RR : Hid (Rd wr a6 c6 X) := R6.out.below hbr hbr.size
      have HBR : Hid (Below w6.heap.size w6 wr) := hbr
      clear hbr
      by_cases hlt : k < ps.length
      · obtain ⟨b, o, qa, qc, rfl, hb0, hcell, hnod⟩ := HH.out.rp.part (Below.refl _ _) hlt
        have hmr : ps.getD k [] ∈ ps := getD_mem hlt
        cases hsr : sndB (ps.getD k []) with
        | true =>
          have cK := rchkR hnod (HFP.out.each _ hmr).fit 0 (chkE_yes hsr)
          have HS2 : Hid (∀ r ∈ ps.take (k + 1), sndB r = true) := fun r hr => by
            rw [List.take_succ_eq_append_getElem hlt] at hr
            rcases List.mem_append.1 hr with hr | hr
            · exact hS.out r hr
            · simp at hr
              have e : ps.getD k [] = ps[k] := by simp [hlt]
              rw [hr, ← e]; exact hsr
          clear hsr hmr hnod
          generalize (ps.getD k []).length = rl at *
          go_wp2_with (go_at_call 12; refine cK.mono ?_; rintro e w7 ⟨rfl, hb⟩; have HB7 : Hid (_) := hb; clear hb)
          exact ⟨⟨k + 1, by omega, by go_num, HS2.out, HBR.out.trans (HB7.out.mono HBR.out.size)⟩, by simp [RowKit.intOf]; omega⟩
        | false =>
          have cK := rchkR hnod (HFP.out.each _ hmr).fit 1 (chkE_no hsr)
          obtain rfl : c = 1 := HC1.out _ hmr hsr
          clear hsr hmr hnod
          generalize (ps.getD k []).length = rl at *
          go_wp2_with (go_at_call 12; refine cK.mono ?_; rintro e w7 ⟨rfl, hb⟩; have HB7 : Hid (_) := HH.out.below.trans (hb.mono HH.out.below.size); clear hb)
          go_ret
          exact ⟨rfl, HB7.out⟩
      · have hke : k = ps.length := by omega
        subst hke
        rw [List.take_length] at hS
        have HS : Hid (∀ r ∈ ps, sndB r = true) := hS.out
        obtain ⟨wo, hwo⟩ : ∃ wo, wo = wr := ⟨_, rfl⟩
        subst hwo
        by_cases hln : ps.length = (hlsL l).length
        · have HLN : Hid (ps.length = (hlsL l).length) := hln
          have HSZ : Hid (∀ j, j ≤ l.length → (flH ps (hlsL l) (l.take j)).length ≤ 64 * j) := fun j hj => by
            have := size_le (l := l) HS.out (l.take j)
            rw [List.length_take, Nat.min_eq_left hj] at this
            exact this
          have hc3 := HC3.out HS.out hln
          have HC4 : Hid (c = if 64 < (flH ps (hlsL l) l).length then 10 else 0) := hc3
          rw [← hln]
          clear hc3 hln
          generalize hpl : ps.length = N at *
          have HPL : Hid (ps.length = N) := hpl
          clear hpl
          go_wp2_with fail
          go_loopw [10, 11] (fun n i wq => ∃ j : Nat, j ≤ l.length ∧ i = .int .i64 j ∧ n = .int .i64 ((flH ps (hlsL l) (l.take j)).length : Nat) ∧ Below wo.heap.size wo wq) (fun _ i _ => l.length - (RowKit.intOf i).toNat)
          case atStart => exact ⟨0, by omega, rfl, rfl, Below.refl _ _⟩
          case round =>
            obtain ⟨j, hj, rfl, rfl, hbq⟩ := hrel
            have HQ : Hid (StdP w ao po ca cp l ps wr) := HH.out.next hbq
            have SQ : Hid (Strs wr na nc (hlsL l)) := SS.out.below hbq
            have RQ : Hid (Rd wr a6 c6 X) := RR.out.below hbq hbq.size
            have HBQ : Hid (Below wo.heap.size wo wr) := hbq
            have hsz := HSZ.out j hj
            clear hbq
            by_cases hjl : j < l.length
            · have HST : Hid (_) := size_step (ps := ps) hjl
              obtain ⟨b, o, kv, rfl, hbk, hna⟩ := Rd.cell HQ.out.ra hjl
              obtain ⟨q0, q1, q2, q3, _⟩ := hna
              by_cases hop : (l.getD j nd0).op = 18
              · have HST2 : Hid ((flH ps (hlsL l) (l.take (j + 1))).length = (flH ps (hlsL l) (l.take j)).length + (ps.getD (numL (hlsL l) (l.getD j nd0).name) []).length) := by
                  have := HST.out
                  rw [if_pos hop] at this
                  exact this
                have hxm : l.getD j nd0 ∈ l := getD_mem hjl
                have hmem : (l.getD j nd0).name ∈ hlsL l := mem_hls hxm hop
                have hzl : numL (hlsL l) (l.getD j nd0).name < N := by rw [HLN.out]; exact numL_lt hmem
                have cN := number_any (s := (l.getD j nd0).name) SQ.out
                rw [numW_mem hmem, ← HLN.out] at cN
                have HPP : Hid (∀ W, Below wr.heap.size wr W → ∃ b o qa qc, po = some ⟨b, o, none⟩ ∧ W.cell? ⟨b, o + numL (hlsL l) (l.getD j nd0).name, none⟩ = some (.slice qa (ps.getD (numL (hlsL l) (l.getD j nd0).name) []).length qc)) := fun W hb => by
                  obtain ⟨b, o, qa, qc, e, _, hc, _⟩ := HQ.out.rp.part hb (z := numL (hlsL l) (l.getD j nd0).name) (by rw [HPL.out]; exact hzl)
                  exact ⟨b, o, qa, qc, e, hc⟩
                have hml : (ps.getD (numL (hlsL l) (l.getD j nd0).name) []).length ≤ 64 := (snd_len (HS.out _ (getD_mem (by rw [HPL.out]; exact hzl)))).2
                rw [hop] at q0
                clear hxm hmem hop q1 q3 HST
                generalize numL (hlsL l) (l.getD j nd0).name = z at *
                generalize (ps.getD z []).length = ml at *
                generalize (l.getD j nd0).name = nm at *
                generalize hSj : (flH ps (hlsL l) (l.take j)).length = S at *
                clear hSj
                have hz0 : (0 : Int) ≤ (z : Int) := by omega
                have hz1 : (z : Int) < (N : Int) := by omega
                go_wp2_with (go_at_call 43; refine cN.mono ?_; rintro e w7 ⟨rfl, hb⟩; have HB7 : Hid (_) := hb; obtain ⟨pb, po', qa, qc, epo, hpc⟩ := HPP.out w7 hb; cases epo; clear hb)
                exact ⟨⟨j + 1, by omega, by go_num, by rw [HST2.out]; go_num, HBQ.out.trans (HB7.out.mono HBQ.out.size)⟩, by simp [RowKit.intOf]; omega⟩
              · have HST2 : Hid ((flH ps (hlsL l) (l.take (j + 1))).length = (flH ps (hlsL l) (l.take j)).length + 1) := by
                  have := HST.out
                  rw [if_neg hop] at this
                  exact this
                have g18 : ((l.getD j nd0).op != 18) = true := by simpa using hop
                clear hop q1 q3 HST
                generalize (l.getD j nd0).op = oo at *
                generalize hSj : (flH ps (hlsL l) (l.take j)).length = S at *
                clear hSj
                go_wp2_with fail
                exact ⟨⟨j + 1, by omega, by go_num, by rw [HST2.out]; go_num, HBQ.out⟩, by simp [RowKit.intOf]; omega⟩
            · have hje : j = l.length := by omega
              subst hje
              rw [List.take_length] at hsz ⊢
              by_cases hz : 64 < (flH ps (hlsL l) l).length
              · have hc4 := HC4.out
                rw [if_pos hz] at hc4
                clear HC4
                subst hc4
                have hxe := HX1.out (by decide)
                subst hxe
                generalize (flH ps (hlsL l) l).length = Z at *
                have hzz : (64 : Int) < (Z : Int) := by omega
                go_wp2_with fail
                go_ret
                exact ⟨rfl, HQ.out.below⟩
              · have hc4 := HC4.out
                rw [if_neg hz] at hc4
                clear HC4
                subst hc4
                obtain ⟨hxs, hxe⟩ := HX0.out rfl
                have hxl : X.length = (flH ps (hlsL l) l).length := by rw [← hxe, hds_len]
                obtain ⟨fx, hfx⟩ := Option.isSome_iff_exists.1 hxs
                have cK := rchkR RQ.out (fit_snd hxs) 0 (chkE_yes hxs)
                rw [← hxl] at hz hsz ⊢
                clear hxs hxe hxl hfx
                generalize X.length = Z at *
                have hzz : ¬ (64 : Int) < (Z : Int) := by omega
                go_wp2_with (go_at_call 12; refine cK.mono ?_; rintro e w7 ⟨rfl, hb⟩; have HB7 : Hid (_) := HQ.out.below.trans (hb.mono HQ.out.below.size); clear hb)
                go_ret
                exact ⟨rfl, HB7.out⟩
        · obtain rfl : c = 2 := HC2.out HS.out hln
          generalize (hlsL l).length = hl at *
          have hne : ¬ ((hl : Int) = (ps.length : Int)) := by omega
          have hne2 : ((hl : Int) != (ps.length : Int)) = true := by simp; omega
          clear HS hS
          go_wp2_with fail
          go_ret
          exact ⟨rfl, HH.out.below⟩
  · have hc1 : c = 1 := by rw [← HC.out]; unfold flC; rw [if_pos (.inl hpat)]
    subst hc1
    clear HKS hpat HC
    go_wp2_with fail
    go_ret
    exact ⟨rfl, H6.out.below⟩
end Go.Proofs.YtlllkjbbldhddaaDoor

set_option linter.unusedVariables false
namespace Go.Proofs.YtlllkjbbldhddaaDoor.patternsize
open Go.ChangeShapes Go.WideShapes Go.ChangeAt Go.RowKit Go.WideMaps Go.WideElems
open Go.ChangeMaps (open_string shut_string)

set_option maxRecDepth 100000 in
set_option maxHeartbeats 1000000 in
theorem contract (H : Type) (enc : TypeId × Value → H) (W : World) (base : Nat) (args : Array Value) (ds gs : List (DataW H)) (before : List MemPlace)
    (hval : ∀ (j : Nat) t v, Tryd.f7.params[j]? = some t → args[j]? = some v → Value.okWide Tryd.prog W .any base t v)
    (hW : DataW.Whole enc Tryd.prog Tryd.f7.params.toList Rows.patternSizeSpec.vars false W args.toList ds gs before)
    (hsz : (DataW.weightsEach Tryd.prog (Tryd.f7.params.toList ++ (OpenSpec.ofChange Rows.patternSizeSpec).bare.plain.varTypes Tryd.prog) (ds ++ gs)).all (· ≤ reachBytes) = true)
    (hL : laidMetH Tryd.prog Rows.patternSizeRow.laid W) :
    Calls Tryd.prog 7 args W fun e W' => ∃ v, e = .returned v ∧ Rows.patternSizeSpec.post enc Tryd.prog Tryd.f7 false true false false W args v W' := by
  have hW' := hW
  have hlt : ∀ x ∈ before, x.block < W.heap.size := fun x hx => by simpa using hW'.lt x hx
  obtain ⟨p, q, hA0, hV, rfl, hfz, hnd⟩ := hW
  have hA : DataW.TrodAll enc Tryd.prog W 0 (fun _ => true) true Tryd.f7.params.toList args.toList ds p := hA0
  rw [Tryd.params7 ] at hA hval
  obtain ⟨v0, vs0, d0, ds0, p0, q0, hargs0, rfl, rfl, h0, r0⟩ := trodAll_cons hA
  obtain ⟨v1, vs1, d1, ds1, p1, q1, rfl, rfl, rfl, h1, r1⟩ := trodAll_cons r0
  obtain ⟨rfl, rfl, rfl⟩ := trodAll_nil r1
  obtain rfl : args = #[v0, v1] := by cases args; simp_all
  obtain ⟨rfl, rfl⟩ := trodVars_none hV
  clear hA0
  simp only [List.append_nil] at hW' hsz
  have h0k := h0
  have ok0 : Value.okWide Tryd.prog W .any base 22 v0 := hval 0 22 v0 (by rfl) (by rfl)
  obtain ⟨a0, n0, c0, rfl⟩ := okWide_slice Tryd.underlying22 ok0
  obtain ⟨fu0, hf0⟩ := h0
  obtain ⟨ao0, cap0, l0, he0, R0, hF0⟩ := open_nodesX (v := .slice a0 n0 c0) hf0
  cases he0
  have F0 := hF0 fun n hn => of_decide_eq_true (List.all_eq_true.1 hsz n (DataW.weights_mem_each (j := 0) (t := 22) (by kernel_rfl) rfl n hn))
  have h1k := h1
  have ok1 : Value.okWide Tryd.prog W .any base 46 v1 := hval 1 46 v1 (by rfl) (by rfl)
  obtain ⟨a1, n1, c1, rfl⟩ := okWide_slice Tryd.underlying46 ok1
  obtain ⟨fu1, hf1⟩ := h1
  obtain ⟨ao1, cap1, l1, he1, R1, hF1⟩ := open_parts (v := .slice a1 n1 c1) hf1
  cases he1
  have F1 := hF1 fun n hn => of_decide_eq_true (List.all_eq_true.1 hsz n (DataW.weights_mem_each (j := 1) (t := 46) (by kernel_rfl) rfl n hn))
  refine (patternSize_walk W a0 a1 c0 c1 l0 l1 (spans_of_laid hL)  R0 R1  F0 F1).mono fun e W' ⟨he, hg⟩ => ?_
  subst he
  exact ⟨_, rfl, post_below (pv := []) hW' (fun _ _ _ => trodAll_cons_mk (shut_bool Tryd.underlying4 _) trodAll_mk0) (fun sp hsp => trodAll_cons_mk (Trod_stays Tryd.laidOut (by kernel_rfl) (of_decide_eq_true (by kernel_rfl)) h0k (fun x hx => hg.same (hlt x (by simp [hx]))) (fun x hx => hsp x (by simp [hx]))) (trodAll_cons_mk (Trod_stays Tryd.laidOut (by kernel_rfl) (of_decide_eq_true (by kernel_rfl)) h1k (fun x hx => hg.same (hlt x (by simp [hx]))) (fun x hx => hsp x (by simp [hx]))) trodAll_mk0)) (fun _ _ => rfl) (by simp) (hg.frame _)⟩

end Go.Proofs.YtlllkjbbldhddaaDoor.patternsize
