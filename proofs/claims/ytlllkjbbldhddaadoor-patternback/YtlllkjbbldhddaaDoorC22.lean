/-
  PaLw, PaNu, PaSzW, PaBkP.
-/
import Derived.Test.YtlllkjbbldhddaaDoorChecked
import GoSem.PinnedTables
import GoSem.Claim
import GoSem.ClaimJoined
import GoSem.ClaimMapViews
import Derived.JoinedTies
import Derived.KernelRfl
import Derived.Shelf.Unicode.DecodeSlow
import Derived.Laws.RangeAny
import Derived.Shelf.Unicode.DecodeAny
import Derived.Test.YtlllkjbbldhddaaDoorProg
import Derived.WalkKit
import Derived.Deep.DeepFit
import Derived.Lib.OthersKept
import Derived.Lib.RuneCountTail
import Derived.Lib.LaidU8
import Derived.MakeChecks
import Derived.ProofKit
import Derived.OpenShut
import Derived.Deep.DeepHandedRow
import Derived.Deep.AppendLies
import Derived.Deep.OwnRows
import Derived.Laws.AppendOwnNone
import Derived.Deep.QuietTactic
import Derived.BigQuiet
import Derived.Deep.RegionWith
import Derived.Laws.DeepStrings4
import Derived.Deep.Slices
import Derived.SizedLaws
import Derived.Lib.MapLaws
import Derived.Sort.Walk0
import Derived.Lib.ItoaNum
import Derived.Maps.OwnSet
import Derived.StringKeys
import Derived.Below
import Derived.Laws.ResultCell
import Derived.Deep.RegionHeld3
import Derived.Deep.RegionLaw
import Derived.Lib.QuietBelow
import Derived.StillTail
import Derived.Deep.DeepCutAuto
import Derived.Laws.IdiomStrings
import Derived.WalkSmall
import Derived.Laws.OwnMore
import Derived.Test.YtlllkjbbldhddaaDoorRows
import Derived.Test.YtlllkjbbldhddaaDoorC01
import Derived.Test.YtlllkjbbldhddaaDoorC02
import Derived.Test.YtlllkjbbldhddaaDoorC03
import Derived.Test.YtlllkjbbldhddaaDoorC04
import Derived.Test.YtlllkjbbldhddaaDoorC05
import Derived.Test.YtlllkjbbldhddaaDoorC06
import Derived.Test.YtlllkjbbldhddaaDoorC07
import Derived.Test.YtlllkjbbldhddaaDoorC08
import Derived.Test.YtlllkjbbldhddaaDoorC09
import Derived.Test.YtlllkjbbldhddaaDoorC10
import Derived.Test.YtlllkjbbldhddaaDoorC11
import Derived.Test.YtlllkjbbldhddaaDoorC12
import Derived.Test.YtlllkjbbldhddaaDoorC13
import Derived.Test.YtlllkjbbldhddaaDoorC14
import Derived.Test.YtlllkjbbldhddaaDoorC15
import Derived.Test.YtlllkjbbldhddaaDoorC16
import Derived.Test.YtlllkjbbldhddaaDoorC17
import Derived.Test.YtlllkjbbldhddaaDoorC18
import Derived.Test.YtlllkjbbldhddaaDoorC19
import Derived.Test.YtlllkjbbldhddaaDoorC20
import Derived.Test.YtlllkjbbldhddaaDoorC21
set_option linter.unusedSimpArgs false
set_option linter.unusedVariables false
namespace Go.Proofs.YtlllkjbbldhddaaDoor
open Go.RowKit Go.Lib Go.Maps Go.Deep Go.Sort

def hole1 : Nd := ⟨18, 0, ⟨#[97]⟩, []⟩
theorem hole1_pat : patB [hole1] = true := by decide +kernel
theorem hole1_hls : hlsL [hole1] = [⟨#[97]⟩] := by decide +kernel
theorem Rd_hole1 (w : World) : Rd (w.alloc (.cells #[.int .i64 18, .int .i64 0, .string ⟨#[97]⟩, .slice none 0 0] 63)) (some ⟨w.heap.size, 0, none⟩) 1 [hole1] := by
  refine ⟨_, _, rfl, by simp, by unfold maxLen; omega, .inr ⟨_, _, rfl, by simp, fun i hi => ?_⟩⟩
  have : i = 0 := by simp at hi; omega
  subst this
  refine ⟨.slice none 0 0, ?_, ?_, ?_, ?_, ⟨none, 0, rfl, by simp [hole1], by simp [hole1, maxLen], .inl rfl⟩⟩ <;> simp [hole1, World.cell?_alloc_at]

set_option maxRecDepth 20000 in
set_option maxHeartbeats 2000000 in
theorem awake14_any (w : World) (hT : SpanCells w) :
    Calls Tryd.prog 32 #[] w fun e W' => e = .returned (.bool true) ∧ Below w.heap.size w W' := by
  have hb1 : Below w.heap.size w (w.alloc (.cells #[.int .i64 18, .int .i64 0, .string ⟨#[97]⟩, .slice none 0 0] 63)) := (Below.refl _ _).alloc (Nat.le_refl _) _
  have cE : Hid (Calls Tryd.prog 35 #[.slice (some ⟨w.heap.size, 0, none⟩) 1 1] (w.alloc (.cells #[.int .i64 18, .int .i64 0, .string ⟨#[97]⟩, .slice none 0 0] 63)) fun e w' => ∃ g nc, e = .returned (.tuple #[.slice (some ⟨g, 0, none⟩) 1 nc, .int .i64 0]) ∧ w'.cell? ⟨g, 0, none⟩ = some (.string ⟨#[97]⟩) ∧ Below w.heap.size w w') := by
    have := holes14_ok (l := [hole1]) (hT.below hb1) (Rd_hole1 w) (by simp [hole1]; decide) hole1_pat
    refine this.mono ?_
    rintro e w' ⟨na, nc, rfl, ho, hb⟩
    have ho := row_cell ho (i := 0) (by rw [hole1_hls]; simp) (d := .string ⟨#[97]⟩)
    obtain ⟨g, cap, he, _, _, _, hc⟩ := ho
    cases he
    rw [hole1_hls] at hc
    exact ⟨g, nc, rfl, hc, hb1.trans (hb.mono (by simp))⟩
  clear hb1
  go_enter Tryd.func32, Tryd.ntmps32
  go_wp2_with fail
  refine cE.out.mono ?_
  rintro e w2 ⟨g, nc, rfl, hc, hb2⟩
  have HB2 : Hid (_) := hb2
  clear hb2
  go_wp2_with fail
  go_ret
  exact ⟨rfl, HB2.out⟩

set_option maxRecDepth 20000 in
set_option maxHeartbeats 2000000 in
/-- The same lists? -/
theorem sameAll_any {w : World} {ao bo : Option Addr} {ca cb : Nat} {a b : List (List Nd)} (hA : Lst w w.heap.size (.slice ao a.length ca) a) (hB : Lst w w.heap.size (.slice bo b.length cb) b) :
    Calls Tryd.prog 42 #[.slice ao a.length ca, .slice bo b.length cb] w fun e w' => e = .returned (.bool (decide (a = b))) ∧ Below w.heap.size w w' := by
  have HA : Hid (Lst w w.heap.size (.slice ao a.length ca) a) := hA
  have HB : Hid (Lst w w.heap.size (.slice bo b.length cb) b) := hB
  obtain ⟨ao', ca', e1, hal, ham, _⟩ := hA
  cases e1
  obtain ⟨bo', cb', e1, hbl, hbm, _⟩ := hB
  cases e1
  unfold maxLen at ham hbm
  by_cases hl : a.length = b.length
  · rw [← hl]
    rw [← hl] at hbl
    have HL : Hid (a.length = b.length) := hl
    clear hl
    obtain ⟨n, hn⟩ : ∃ n, a.length = n := ⟨_, rfl⟩
    have HN : Hid (a.length = n) := hn
    rw [hn] at hal hbl ⊢
    obtain ⟨R, hR⟩ : ∃ R, decide (a = b) = R := ⟨_, rfl⟩
    have HR : Hid (decide (a = b) = R) := hR
    rw [hR]
    clear hn hR
    go_enter Tryd.func42, Tryd.ntmps42
    go_wp2_with fail
    go_loopw [5] (fun i wr => ∃ k : Nat, k ≤ n ∧ i = .int .i64 k ∧ Hid (a.take k = b.take k) ∧ Below w.heap.size w wr) (fun i _ => n - (RowKit.intOf i).toNat)
    case atStart => exact ⟨0, by omega, rfl, rfl, Below.refl _ _⟩
    case round =>
      obtain ⟨k, hk, rfl, hE, hbw⟩ := hrel
      have hsw := hbw.size
      by_cases hlt : k < n
      · have hka : k < a.length := by rw [HN.out]; exact hlt
        have hkb : k < b.length := by rw [← HL.out, HN.out]; exact hlt
        obtain ⟨b1, o1, p1, c1, rfl, hb1, hc1, hn1⟩ := HA.out.part hbw hka
        obtain ⟨b2, o2, p2, c2, rfl, hb2, hc2, hn2⟩ := HB.out.part hbw hkb
        obtain ⟨r, hr⟩ : ∃ r, decide (a.getD k [] = b.getD k []) = r := ⟨_, rfl⟩
        have cS : Hid (∀ d os, Calls Tryd.prog 15 #[.slice p1 (a.getD k []).length c1, .slice p2 (b.getD k []).length c2] (grow (redrawn wr d) os) fun e w'' => e = .returned (.bool r) ∧ ∃ p : Regrown, w'' = grow (redrawn wr p.d) p.os) := fun d os => Calls.regrown_of (sameR (Rd.below hn1 (below_regrown wr d os) (below_regrown wr d os).size) (Rd.below hn2 (below_regrown wr d os) (below_regrown wr d os).size) r hr)
        have HT1 : Hid (r = true → a.take (k + 1) = b.take (k + 1)) := fun h => by
          have h2 := of_decide_eq_true (hr.trans h)
          rw [List.take_succ_eq_append_getElem hka, List.take_succ_eq_append_getElem hkb, hE.out]
          simp [hka, hkb] at h2
          rw [h2]
        have HT2 : Hid (r = false → R = false) := fun h => by
          have h2 := of_decide_eq_false (hr.trans h)
          rw [← HR.out]
          exact decide_eq_false fun e => h2 (by rw [e])
        have g1 := cell_regrown hc1
        have g2 := cell_regrown hc2
        have HBW : Hid (_) := hbw
        have hk0 : (0 : Int) ≤ (k : Int) := by omega
        have hk1 : (k : Int) < (n : Int) := by omega
        clear hbw hn1 hn2 hr hc1 hc2
        generalize (a.getD k []).length = l1 at *
        generalize (b.getD k []).length = l2 at *
        cases r
        · go_wp2_with fail
          refine wp_region_quiet_below (by kernel_rfl) (by kernel_rfl) ?_
          iterate 10 (go_big_quiet_step ((go_at_call 15; exact cS.out _ _)))
          refine wpQuiet_nil ?_
          intro _ hw'
          obtain ⟨⟨ds, oss⟩, hw''⟩ := hw'
          subst hw''
          have HB9 : Hid (Below w.heap.size w (grow (redrawn wr ds) oss)) := HBW.out.trans ((below_regrown wr ds oss).mono hsw)
          go_wp2_with fail
          go_ret
          exact ⟨by rw [HT2.out (by simp)] <;> rfl, HB9.out⟩
        · go_wp2_with fail
          refine wp_region_quiet_below (by kernel_rfl) (by kernel_rfl) ?_
          iterate 10 (go_big_quiet_step ((go_at_call 15; exact cS.out _ _)))
          refine wpQuiet_nil ?_
          intro _ hw'
          obtain ⟨⟨ds, oss⟩, hw''⟩ := hw'
          subst hw''
          have HB9 : Hid (Below w.heap.size w (grow (redrawn wr ds) oss)) := HBW.out.trans ((below_regrown wr ds oss).mono hsw)
          go_wp2_with fail
          exact ⟨⟨k + 1, by omega, by go_num, HT1.out (by simp), HB9.out⟩, by simp [RowKit.intOf]; omega⟩
      · have hke : k = n := by omega
        subst hke
        have HRT : Hid (R = true) := by
          show R = true
          rw [← HR.out]
          have := hE.out
          rw [← HN.out, List.take_length] at this
          rw [HL.out, List.take_length] at this
          exact decide_eq_true this
        have HBW : Hid (_) := hbw
        clear hbw
        go_wp2_with fail
        go_ret
        exact ⟨by rw [HRT.out] <;> rfl, HBW.out⟩
  · have hR : decide (a = b) = false := decide_eq_false fun e => hl (by rw [e])
    rw [hR]
    have hne : ((a.length : Int) != (b.length : Int)) = true := by simp; omega
    have hne2 : ¬ ((a.length : Int) = (b.length : Int)) := by omega
    clear hR hl HA HB
    generalize a.length = n at *
    generalize b.length = m at *
    go_enter Tryd.func42, Tryd.ntmps42
    go_wp2_with fail
    go_ret
    exact ⟨rfl, Below.refl _ _⟩
end Go.Proofs.YtlllkjbbldhddaaDoor

set_option linter.unusedSimpArgs false
set_option linter.unusedVariables false
namespace Go.Proofs.YtlllkjbbldhddaaDoor
open Go.RowKit Go.Lib

theorem snd_forms {l : List Nd} (h : sndB l = true) : ∀ x ∈ l, formB x = true := by
  obtain ⟨f, hf⟩ := Option.isSome_iff_exists.1 h
  have hok := begOk_of (begL_some hf).2.2.1
  intro x hx
  obtain ⟨k, hk, rfl⟩ := List.getElem_of_mem hx
  have e : l.getD k nd0 = l[k] := by simp [hk]
  rw [← e]
  exact (hok.at_ k hk).1
theorem snd_nms {l : List Nd} (h : sndB l = true) : ∀ x ∈ l, x.name.size ≤ maxLen := fun x hx => by
  have := (form_name (snd_forms h x hx)).2
  unfold maxLen; omega
theorem fit_snd {l : List Nd} (h : sndB l = true) : Fit l := by
  obtain ⟨f, hf⟩ := Option.isSome_iff_exists.1 h
  exact fit_of_snd hf (snd_nms h)

end Go.Proofs.YtlllkjbbldhddaaDoor

set_option linter.unusedSimpArgs false
set_option linter.unusedVariables false
namespace Go.Proofs.YtlllkjbbldhddaaDoor
open Go.RowKit Go.Lib Go.Maps Go.Deep

/-- A list and a list of lists that stand. -/
structure StdP (w : World) (ao po : Option Addr) (ca cp : Nat) (a : List Nd) (ps : List (List Nd)) (W : World) : Prop where
  below : Below w.heap.size w W
  tabs : SpanCells W
  ra : Rd W ao ca a
  rp : RdP W po cp ps
theorem StdP.next {w W W' : World} {ao po : Option Addr} {ca cp : Nat} {a : List Nd} {ps : List (List Nd)} (h : StdP w ao po ca cp a ps W) (hb : Below W.heap.size W W') : StdP w ao po ca cp a ps W' :=
  ⟨h.below.trans (hb.mono h.below.size), h.tabs.below hb, h.ra.below hb hb.size, h.rp.below hb⟩
end Go.Proofs.YtlllkjbbldhddaaDoor

set_option linter.unusedSimpArgs false
set_option linter.unusedVariables false
namespace Go.Proofs.YtlllkjbbldhddaaDoor
open Go.RowKit Go.Lib

/-- What a pattern was filled with is what fits. -/
theorem bk_fits {l X : List Nd} {ps L : List (List Nd)} {c : Int} (h : flC l ps = 0) (hX : sndB X = true ∧ hds X = flH ps (hlsL l) l) (hf : FtC l X L c) : c = 0 ∧ L = ps := by
  obtain ⟨hok, _⟩ := flC_zero h
  have hft : FtOk l X ps := ⟨hok.len, hok.snd, hX.2⟩
  rcases hf.ways with ⟨rfl, _, _, hk⟩ | ⟨rfl, rfl, h1 | h1⟩ | ⟨rfl, rfl, _, _, hk⟩
  · obtain ⟨fe, hfe⟩ := Option.isSome_iff_exists.1 hX.1
    exact ⟨rfl, hk.one hfe hft⟩
  · rw [hok.pat] at h1; cases h1
  · rw [hX.1] at h1; cases h1
  · exact absurd hft (hk ps)
/-- With other parts it is another expression. -/
theorem bk_other {l X Y : List Nd} {ps qs : List (List Nd)} (h : flC l ps = 0) (hX : sndB X = true ∧ hds X = flH ps (hlsL l) l) (h2 : flC l qs = 0) (hY : sndB Y = true ∧ hds Y = flH qs (hlsL l) l) : X = Y ↔ ps = qs := by
  obtain ⟨hok, _⟩ := flC_zero h
  obtain ⟨hok2, _⟩ := flC_zero h2
  constructor
  · rintro rfl
    obtain ⟨fe, hfe⟩ := Option.isSome_iff_exists.1 hX.1
    exact FtOk.one hfe ⟨hok.len, hok.snd, hX.2⟩ ⟨hok2.len, hok2.snd, hY.2⟩
  · rintro rfl
    exact snd_det hX.1 hY.1 (hX.2.trans hY.2.symm)
theorem set0_iff {ps : List (List Nd)} {m : List Nd} (h : 0 < ps.length) : ps = ps.set 0 m ↔ ps.getD 0 [] = m := by
  cases ps with
  | nil => simp at h
  | cons p ps => simp
/-- What fits fills it. -/
theorem bk_fill {l e Z : List Nd} {L : List (List Nd)} (hp : patB l = true) (he : sndB e = true) (hf : FtOk l e L) (hZ : flC l L = 0 → sndB Z = true ∧ hds Z = flH L (hlsL l) l) : flC l L = 0 ∧ Z = e := by
  have hok : FlOk l L := ⟨hp, hf.snd, hf.len⟩
  have h0 : flC l L = 0 := by rw [flC_ok hok, if_neg (by rw [← hf.eq, hds_len]; have := (snd_len he).2; omega)]
  obtain ⟨h1, h2⟩ := hZ h0
  exact ⟨h0, snd_det h1 he (h2.trans hf.eq.symm)⟩
/-- One of the lists is another now. -/
theorem OwnLs.set {w : World} {base n g cap k : Nat} {ps : List (List Nd)} {pvs : List Value} {m : List Nd} {pv : Value} (h : OwnLs w base (.slice (some ⟨g, 0, none⟩) n cap) ps pvs) (ho : OwnN w base pv m) (hk : k < ps.length) :
    OwnLs (w.setCell ⟨g, k, none⟩ pv) base (.slice (some ⟨g, 0, none⟩) n cap) (ps.set k m) (pvs.set k pv) := by
  obtain ⟨_, _, cap', cur, _, hc, _⟩ := rw_block h.row (b := g) rfl
  have stay : ∀ {v : Value} {l : List Nd}, OwnN w base v l → OwnN (w.setCell ⟨g, k, none⟩ pv) base v l := fun {v l} hh => by
    obtain ⟨q, hq, hr⟩ := hh
    exact ⟨q, hq, ⟨own_set' hr.row (own_typ hr.row hc (by decide)), fun y hy => own_set' (hr.kids y hy) (own_typ (hr.kids y hy) hc (by decide))⟩⟩
  have hN : n = ps.length := by
    obtain ⟨ao, cap', he⟩ := rw_form h.row
    cases he; rfl
  refine ⟨by simpa using h.len, ?_, fun i hi => ?_⟩
  · subst hN
    rw [List.length_set]
    exact own_put h.row (by rw [h.len]; exact hk)
  · rw [List.length_set] at hi
    by_cases hki : k = i
    · subst hki
      rw [gdSetSame (by rw [h.len]; exact hk), gdSetSame hk]
      exact stay ho
    · rw [gdSetNe hki, gdSetNe hki]
      exact stay (h.each i hi)
/-- Four arguments that stand. -/
structure StdB (w : World) (a0 a1 a2 a3 : Option Addr) (c0 c1 c2 c3 : Nat) (l : List Nd) (ps : List (List Nd)) (e m : List Nd) (W : World) : Prop where
  below : Below w.heap.size w W
  tabs : Tabs W
  rl : Rd W a0 c0 l
  rp : RdP W a1 c1 ps
  re : Rd W a2 c2 e
  rm : Rd W a3 c3 m
theorem StdB.next {w W W' : World} {a0 a1 a2 a3 : Option Addr} {c0 c1 c2 c3 : Nat} {l : List Nd} {ps : List (List Nd)} {e m : List Nd} (h : StdB w a0 a1 a2 a3 c0 c1 c2 c3 l ps e m W) (hb : Below W.heap.size W W') : StdB w a0 a1 a2 a3 c0 c1 c2 c3 l ps e m W' :=
  ⟨h.below.trans (hb.mono h.below.size), h.tabs.below hb, h.rl.below hb hb.size, h.rp.below hb, h.re.below hb hb.size, h.rm.below hb hb.size⟩
/-- A list of lists of the call's own, made since V; its first entry can be set. -/
structure OwA (V W : World) (g t N : Nat) (ps : List (List Nd)) : Prop where
  own : ∃ pvs, OwnLs W V.heap.size (.slice (some ⟨g, 0, none⟩) N t) ps pvs
  below : Below V.heap.size V W
theorem OwA.lo {V W : World} {g t N : Nat} {ps : List (List Nd)} (h : OwA V W g t N ps) : V.heap.size ≤ g ∧ g < W.heap.size := by
  obtain ⟨pvs, ho⟩ := h.own
  exact ho.row.lt g rfl
theorem OwA.len {V W : World} {g t N : Nat} {ps : List (List Nd)} (h : OwA V W g t N ps) : N = ps.length := by
  obtain ⟨pvs, ho⟩ := h.own
  obtain ⟨ao, cap', he⟩ := rw_form ho.row
  cases he; rfl
theorem OwA.next {V W W' : World} {g t N : Nat} {ps : List (List Nd)} (h : OwA V W g t N ps) (hb : Below W.heap.size W W') : OwA V W' g t N ps := by
  obtain ⟨⟨pvs, ho⟩, hB⟩ := h
  exact ⟨⟨pvs, ho.below hb⟩, hB.trans (hb.mono hB.size)⟩
theorem OwA.cell {V W : World} {g t N : Nat} {ps : List (List Nd)} (h : OwA V W g t N ps) (h0 : 0 < ps.length) : (∃ u, W.cell? ⟨g, 0, none⟩ = some u) ∧ W.frozen? ⟨g, 0, none⟩ = false := by
  obtain ⟨⟨pvs, ho⟩, hB⟩ := h
  obtain ⟨_, _, cap', cur, _, hc, _⟩ := rw_block ho.row (b := g) rfl
  obtain ⟨g', c', he, _, _, _, hcell⟩ := row_cell ho.row h0 (d := .slice none 0 0)
  cases he
  exact ⟨⟨_, hcell⟩, frozen_of_heap hc _⟩
theorem OwA.set {V U W : World} {g t N : Nat} {ps : List (List Nd)} {m : List Nd} {v : Value} (h : OwA V W g t N ps) (h0 : 0 < ps.length) (hv : V.heap.size ≤ U.heap.size) (ho : OwnN W U.heap.size v m) : OwA V (W.setCell ⟨g, 0, none⟩ v) g t N (ps.set 0 m) := by
  have hlo := h.lo
  obtain ⟨⟨pvs, hp⟩, hB⟩ := h
  exact ⟨⟨_, hp.set (OwnN_mono ho hv) h0⟩, hB.setCell (p := ⟨g, 0, none⟩) hlo.1 _⟩
theorem OwA.rd {V W : World} {g t N : Nat} {ps : List (List Nd)} (h : OwA V W g t N ps) : RdP W (some ⟨g, 0, none⟩) t ps := by
  have hN := h.len
  obtain ⟨⟨pvs, ho⟩, hB⟩ := h
  subst hN
  exact Lst_of_own ho (Nat.le_refl _)
theorem copiesA {w : World} {ao : Option Addr} {cap : Nat} {ps : List (List Nd)} (h : RdP w ao cap ps) (hF : FitL ps) (h0 : 0 < ps.length) :
    Calls Tryd.prog 38 #[.slice ao ps.length cap] w fun e w' => ∃ g t, e = .returned (.slice (some ⟨g, 0, none⟩) ps.length t) ∧ ps.length ≤ t ∧ t ≤ maxLen ∧ OwA w w' g t ps.length ps ∧ Below w.heap.size w w' := by
  refine (copies_any _ ps w _ (Nat.le_refl _) h hF.len (fun l hl => (hF.each l hl).fit)).mono ?_
  rintro e w' ⟨v, pvs, rfl, hO, hb⟩
  obtain ⟨g, t, rfl, _, h1, h2, _⟩ := row_cell hO.row h0 (d := .slice none 0 0)
  exact ⟨g, t, rfl, h1, h2, ⟨⟨pvs, hO⟩, hb⟩, hb⟩
theorem copyN {w : World} {ao : Option Addr} {cap : Nat} {l : List Nd} (h : Rd w ao cap l) (hF : Fit l) :
    Calls Tryd.prog 11 #[.slice ao l.length cap] w fun e w' => ∃ u n t, e = .returned (.slice u n t) ∧ OwnN w' w.heap.size (.slice u n t) l ∧ Below w.heap.size w w' := by
  refine (copy_any _ l w _ (Nat.le_refl _) h hF.len hF.kids).mono ?_
  rintro e w' ⟨v, rfl, hO, hb⟩
  obtain ⟨u, n, t, rfl⟩ := hO.form
  exact ⟨u, n, t, rfl, hO, hb⟩
end Go.Proofs.YtlllkjbbldhddaaDoor
