/-
  PaBkP, PaBkW, PgF.
-/
import Derived.Test.YtlllkjbbldhddaaDoorChecked
import GoSem.PinnedTables
import GoSem.Claim
import GoSem.ClaimJoined
import GoSem.ClaimMapViews
import Derived.JoinedTies
import Derived.KernelRfl
import Derived.Shelf.Unicode.DecodeSlow
import Derived.Laws.RangeAny
import Derived.Shelf.Unicode.DecodeAny
import Derived.Test.YtlllkjbbldhddaaDoorProg
import Derived.WalkKit
import Derived.Deep.DeepFit
import Derived.Lib.OthersKept
import Derived.Lib.RuneCountTail
import Derived.Lib.LaidU8
import Derived.MakeChecks
import Derived.ProofKit
import Derived.OpenShut
import Derived.Deep.DeepHandedRow
import Derived.Deep.AppendLies
import Derived.Deep.OwnRows
import Derived.Laws.AppendOwnNone
import Derived.Deep.QuietTactic
import Derived.BigQuiet
import Derived.Deep.RegionWith
import Derived.Laws.DeepStrings4
import Derived.Deep.Slices
import Derived.SizedLaws
import Derived.Lib.MapLaws
import Derived.Sort.Walk0
import Derived.Lib.ItoaNum
import Derived.Maps.OwnSet
import Derived.StringKeys
import Derived.Below
import Derived.Laws.ResultCell
import Derived.Deep.RegionHeld3
import Derived.Deep.RegionLaw
import Derived.Lib.QuietBelow
import Derived.StillTail
import Derived.Deep.DeepCutAuto
import Derived.Laws.IdiomStrings
import Derived.WalkSmall
import Derived.Laws.OwnMore
import Derived.Test.YtlllkjbbldhddaaDoorRows
import Derived.Test.YtlllkjbbldhddaaDoorF01
import Derived.Test.YtlllkjbbldhddaaDoorF02
import Derived.Test.YtlllkjbbldhddaaDoorF03
import Derived.Test.YtlllkjbbldhddaaDoorF04
import Derived.Test.YtlllkjbbldhddaaDoorF05
import Derived.Test.YtlllkjbbldhddaaDoorF06
import Derived.Test.YtlllkjbbldhddaaDoorF07
import Derived.Test.YtlllkjbbldhddaaDoorF08
import Derived.Test.YtlllkjbbldhddaaDoorF09
import Derived.Test.YtlllkjbbldhddaaDoorF10
import Derived.Test.YtlllkjbbldhddaaDoorF11
import Derived.Test.YtlllkjbbldhddaaDoorF12
import Derived.Test.YtlllkjbbldhddaaDoorF13
import Derived.Test.YtlllkjbbldhddaaDoorF14
import Derived.Test.YtlllkjbbldhddaaDoorF15
import Derived.Test.YtlllkjbbldhddaaDoorF16
import Derived.Test.YtlllkjbbldhddaaDoorF17
import Derived.Test.YtlllkjbbldhddaaDoorF18
import Derived.Test.YtlllkjbbldhddaaDoorF19
import Derived.Test.YtlllkjbbldhddaaDoorF20
import Derived.Test.YtlllkjbbldhddaaDoorF21
import Derived.Test.YtlllkjbbldhddaaDoorF22
import Derived.Test.YtlllkjbbldhddaaDoorF23
import Derived.Test.YtlllkjbbldhddaaDoorF24
import Derived.Test.YtlllkjbbldhddaaDoorF25
import Derived.Test.YtlllkjbbldhddaaDoorF26
import Derived.Test.YtlllkjbbldhddaaDoorF27
set_option linter.unusedSimpArgs false
set_option linter.unusedVariables false
namespace Go.Proofs.YtlllkjbbldhddaaDoor
open Go.RowKit Go.Lib

/-- One of the lists is another now. -/
theorem OwnLs.set {w : World} {base n g cap k : Nat} {ps : List (List Nd)} {pvs : List Value} {m : List Nd} {pv : Value} (h : OwnLs w base (.slice (some ⟨g, 0, none⟩) n cap) ps pvs) (ho : OwnN w base pv m) (hk : k < ps.length) :
    OwnLs (w.setCell ⟨g, k, none⟩ pv) base (.slice (some ⟨g, 0, none⟩) n cap) (ps.set k m) (pvs.set k pv) := by
  obtain ⟨_, _, cap', cur, _, hc, _⟩ := rw_block h.row (b := g) rfl
  have stay : ∀ {v : Value} {l : List Nd}, OwnN w base v l → OwnN (w.setCell ⟨g, k, none⟩ pv) base v l := fun {v l} hh => by
    obtain ⟨q, hq, hr⟩ := hh
    exact ⟨q, hq, ⟨own_set' hr.row (own_typ hr.row hc (by decide)), fun y hy => own_set' (hr.kids y hy) (own_typ (hr.kids y hy) hc (by decide))⟩⟩
  have hN : n = ps.length := by
    obtain ⟨ao, cap', he⟩ := rw_form h.row
    cases he; rfl
  refine ⟨by simpa using h.len, ?_, fun i hi => ?_⟩
  · subst hN
    rw [List.length_set]
    exact own_put h.row (by rw [h.len]; exact hk)
  · rw [List.length_set] at hi
    by_cases hki : k = i
    · subst hki
      rw [gdSetSame (by rw [h.len]; exact hk), gdSetSame hk]
      exact stay ho
    · rw [gdSetNe hki, gdSetNe hki]
      exact stay (h.each i hi)
/-- Four arguments that stand. -/
structure StdB (w : World) (a0 a1 a2 a3 : Option Addr) (c0 c1 c2 c3 : Nat) (l : List Nd) (ps : List (List Nd)) (e m : List Nd) (W : World) : Prop where
  below : Below w.heap.size w W
  tabs : Tabs W
  rl : Rd W a0 c0 l
  rp : RdP W a1 c1 ps
  re : Rd W a2 c2 e
  rm : Rd W a3 c3 m
theorem StdB.next {w W W' : World} {a0 a1 a2 a3 : Option Addr} {c0 c1 c2 c3 : Nat} {l : List Nd} {ps : List (List Nd)} {e m : List Nd} (h : StdB w a0 a1 a2 a3 c0 c1 c2 c3 l ps e m W) (hb : Below W.heap.size W W') : StdB w a0 a1 a2 a3 c0 c1 c2 c3 l ps e m W' :=
  ⟨h.below.trans (hb.mono h.below.size), h.tabs.below hb, h.rl.below hb hb.size, h.rp.below hb, h.re.below hb hb.size, h.rm.below hb hb.size⟩
/-- A list of lists of the call's own, made since V; its first entry can be set. -/
structure OwA (V W : World) (g t N : Nat) (ps : List (List Nd)) : Prop where
  own : ∃ pvs, OwnLs W V.heap.size (.slice (some ⟨g, 0, none⟩) N t) ps pvs
  below : Below V.heap.size V W
theorem OwA.lo {V W : World} {g t N : Nat} {ps : List (List Nd)} (h : OwA V W g t N ps) : V.heap.size ≤ g ∧ g < W.heap.size := by
  obtain ⟨pvs, ho⟩ := h.own
  exact ho.row.lt g rfl
theorem OwA.len {V W : World} {g t N : Nat} {ps : List (List Nd)} (h : OwA V W g t N ps) : N = ps.length := by
  obtain ⟨pvs, ho⟩ := h.own
  obtain ⟨ao, cap', he⟩ := rw_form ho.row
  cases he; rfl
theorem OwA.next {V W W' : World} {g t N : Nat} {ps : List (List Nd)} (h : OwA V W g t N ps) (hb : Below W.heap.size W W') : OwA V W' g t N ps := by
  obtain ⟨⟨pvs, ho⟩, hB⟩ := h
  exact ⟨⟨pvs, ho.below hb⟩, hB.trans (hb.mono hB.size)⟩
theorem OwA.cell {V W : World} {g t N : Nat} {ps : List (List Nd)} (h : OwA V W g t N ps) (h0 : 0 < ps.length) : (∃ u, W.cell? ⟨g, 0, none⟩ = some u) ∧ W.frozen? ⟨g, 0, none⟩ = false := by
  obtain ⟨⟨pvs, ho⟩, hB⟩ := h
  obtain ⟨_, _, cap', cur, _, hc, _⟩ := rw_block ho.row (b := g) rfl
  obtain ⟨g', c', he, _, _, _, hcell⟩ := row_cell ho.row h0 (d := .slice none 0 0)
  cases he
  exact ⟨⟨_, hcell⟩, frozen_of_heap hc _⟩
theorem OwA.set {V U W : World} {g t N : Nat} {ps : List (List Nd)} {m : List Nd} {v : Value} (h : OwA V W g t N ps) (h0 : 0 < ps.length) (hv : V.heap.size ≤ U.heap.size) (ho : OwnN W U.heap.size v m) : OwA V (W.setCell ⟨g, 0, none⟩ v) g t N (ps.set 0 m) := by
  have hlo := h.lo
  obtain ⟨⟨pvs, hp⟩, hB⟩ := h
  exact ⟨⟨_, hp.set (OwnN_mono ho hv) h0⟩, hB.setCell (p := ⟨g, 0, none⟩) hlo.1 _⟩
end Go.Proofs.YtlllkjbbldhddaaDoor

set_option linter.unusedSimpArgs false
set_option linter.unusedVariables false
namespace Go.Proofs.YtlllkjbbldhddaaDoor
open Go.RowKit Go.Lib Go.Maps Go.Deep Go.Sort

/-- Fill's contract, as the laws use it. -/
def FillK (l : List Nd) (ps : List (List Nd)) (X : List Nd) (c : Int) : Prop := ∀ (W : World) (ao pa : Option Addr) (cap pc : Nat), SpanCells W → Rd W ao cap l → (∀ x ∈ l, x.name.size ≤ maxLen) → Lst W W.heap.size (.slice pa ps.length pc) ps → Calls Tryd.prog 37 #[.slice ao l.length cap, .slice pa ps.length pc] W fun e w' => AnQ W X c e w'
/-- Fits' contract, as the laws use it. -/
def FitsK (l x : List Nd) (L : List (List Nd)) (c : Int) : Prop := ∀ (W : World) (ao bo : Option Addr) (cap cb : Nat), Tabs W → Rd W ao cap l → (∀ x ∈ l, x.name.size ≤ maxLen) → Rd W bo cb x → Calls Tryd.prog 40 #[.slice ao l.length cap, .slice bo x.length cb] W fun e w' => AnP W L c e w'
structure FillF (l : List Nd) (ps : List (List Nd)) (X : List Nd) (c : Int) : Prop where
  eq : flC l ps = c
  ok : c = 0 → sndB X = true ∧ hds X = flH ps (hlsL l) l
  no : c ≠ 0 → X = []
  call : FillK l ps X c
theorem fillF (l : List Nd) (ps : List (List Nd)) : ∃ X c, FillF l ps X c := by
  obtain ⟨X, h1, h2, h3⟩ := fillX l ps
  exact ⟨X, flC l ps, ⟨rfl, h1, h2, h3⟩⟩
theorem FillK.mk {l : List Nd} {ps : List (List Nd)} {X : List Nd} {c : Int} (h : FillK l ps X c) {W : World} {ao pa : Option Addr} {cap pc : Nat} (h1 : SpanCells W) (h2 : Rd W ao cap l) (h3 : ∀ x ∈ l, x.name.size ≤ maxLen) (h4 : RdP W pa pc ps) :
    Calls Tryd.prog 37 #[.slice ao l.length cap, .slice pa ps.length pc] W fun e w' => ∃ a c', e = .returned (.tuple #[.slice a X.length c', .int .i64 c]) ∧ Rd w' a c' X ∧ Below W.heap.size W w' := by
  refine (h W ao pa cap pc h1 h2 h3 h4).mono ?_
  rintro e w' ⟨v, rfl, ho, hb⟩
  obtain ⟨a, c', rfl, hr⟩ := Rd_of_own ho.n
  exact ⟨a, c', rfl, hr, hb⟩
theorem FitsK.mk {l x : List Nd} {L : List (List Nd)} {c : Int} (h : FitsK l x L c) {W : World} {ao bo : Option Addr} {cap cb : Nat} (h1 : Tabs W) (h2 : Rd W ao cap l) (h3 : ∀ x ∈ l, x.name.size ≤ maxLen) (h4 : Rd W bo cb x) :
    Calls Tryd.prog 40 #[.slice ao l.length cap, .slice bo x.length cb] W fun e w' => ∃ a c', e = .returned (.tuple #[.slice a L.length c', .int .i64 c]) ∧ RdP w' a c' L ∧ Below W.heap.size W w' := by
  refine (h W ao bo cap cb h1 h2 h3 h4).mono ?_
  rintro e w' ⟨v, A, rfl, hA, rfl, hb⟩
  have hl := hA.lst
  obtain ⟨a, c', rfl, _⟩ := id hl
  exact ⟨a, c', rfl, hl, hb⟩

end Go.Proofs.YtlllkjbbldhddaaDoor

set_option linter.unusedSimpArgs false
set_option linter.unusedVariables false
namespace Go.Proofs.YtlllkjbbldhddaaDoor
open Go.RowKit Go.Lib

set_option maxRecDepth 20000 in
set_option maxHeartbeats 2000000 in
theorem refFilled_any {w : World} {ao na pa : Option Addr} {cap nc pc : Nat} {l : List Nd} {ps : List (List Nd)} (hok : FlOk l ps) (hL : Rd w ao cap l) (hS : Strs w na nc (hlsL l)) (hP : RdP w pa pc ps) :
    Calls Tryd.prog 70 #[.slice ao l.length cap, .slice na (hlsL l).length nc, .slice pa ps.length pc] w fun e w' => ∃ a t, e = .returned (.slice a (fil l ps (l.length - 1)).length t) ∧ Rd w' a t (fil l ps (l.length - 1)) ∧ Below w.heap.size w w' := by
  obtain ⟨n, hn⟩ : ∃ n, l.length = n + 1 := ⟨l.length - 1, by have := (patB_len hok.pat).1; omega⟩
  have h16 := (patB_len hok.pat).2
  rw [hn] at h16
  have cF := filled_any w.heap.size ao na pa cap nc pc l ps hok n (by omega) w ⟨Nat.le_refl _, hL, hS, hP⟩
  have hlen := fil_len hok (k := n) (by omega)
  have hki := (fil_ok hok (n + 1) n (by omega) (by omega)).1
  have e1 : l.length - 1 = n := by omega
  rw [e1]
  rw [hn] at cF ⊢
  have HKI : Sld (KInP (fil l ps n)) := ⟨hki⟩
  clear hok hL hS hP hki
  generalize fil l ps n = R at *
  go_enter Tryd.func70, Tryd.ntmps70
  go_wp2_with fail
  refine cF.mono ?_
  rintro e w2 ⟨v2, rfl, hR, hb2⟩
  have hRn := hR.nodes hb2.size
  obtain ⟨u2, t2, rfl, _⟩ := id hRn
  have HB2 : Hid (_) := hb2
  have cC := copy_any _ R w2 _ (Nat.le_refl _) hRn (by omega) (fun x hx => by have := (HKI.out x hx).1; omega)
  clear hR hRn hb2 cF
  go_wp2_with fail
  refine cC.mono ?_
  rintro e w3 ⟨v3, rfl, hO, hb3⟩
  obtain ⟨u3, t3, rfl, hR3⟩ := Rd_of_own hO
  have HB3 : Hid (Below w.heap.size w w3) := HB2.out.trans (hb3.mono HB2.out.size)
  have HR3 : Hid (_) := hR3
  clear hO hb3 cC hR3
  go_wp2_with fail
  go_ret
  exact ⟨u3, t3, rfl, HR3.out, HB3.out⟩

set_option maxRecDepth 20000 in
set_option maxHeartbeats 2000000 in
theorem refHoles14_any {w : World} {ao : Option Addr} {cap : Nat} {l : List Nd} (hN : Rd w ao cap l) (hF : Fit l) (ks : List ByteArray) (c : Int) (hk : (c = 0 ∧ patB l = true ∧ ks = hlsL l) ∨ (c = 1 ∧ patB l = false ∧ ks = [])) :
    Calls Tryd.prog 36 #[.slice ao l.length cap] w fun e w' => ∃ na nc, e = .returned (.tuple #[.slice na ks.length nc, .int .i64 c]) ∧ Strs w' na nc ks ∧ Below w.heap.size w w' := by
  have HN : Hid (Rd w ao cap l) := hN
  have HF : Hid (Fit l) := hF
  have cK := rchk14_any hN hF
  unfold pkC at cK
  clear hN hF
  rcases hk with ⟨rfl, hp, rfl⟩ | ⟨rfl, hp, rfl⟩
  · rw [if_pos hp] at cK
    clear hp
    go_enter Tryd.func36, Tryd.ntmps36
    go_wp2_with fail
    refine cK.mono ?_
    rintro e w2 ⟨rfl, hb2⟩
    have HB2 : Hid (_) := hb2
    have cH := refHolesO_any (HN.out.below hb2 hb2.size) HF.out.len
    clear hb2 cK
    go_wp2_with fail
    refine cH.mono ?_
    rintro e w3 ⟨u3, t3, rfl, hM⟩
    have HB3 : Hid (Below w.heap.size w w3) := HB2.out.trans (hM.below.mono HB2.out.size)
    obtain ⟨u3', t3', e1, hS⟩ := Strs_of_own hM.row
    cases e1
    have HS : Hid (_) := hS
    clear hM cH hS
    go_wp2_with fail
    go_ret2
    exact ⟨_, _, rfl, HS.out, HB3.out⟩
  · rw [if_neg (by rw [hp]; decide)] at cK
    clear hp
    go_enter Tryd.func36, Tryd.ntmps36
    go_wp2_with fail
    refine cK.mono ?_
    rintro e w2 ⟨rfl, hb2⟩
    have HB2 : Hid (_) := hb2
    clear hb2 cK
    go_wp2_with fail
    go_ret2
    exact ⟨none, 0, rfl, ⟨by simp, by simp, .inl rfl⟩, HB2.out⟩

set_option maxRecDepth 20000 in
set_option maxHeartbeats 4000000 in
theorem refFill_any {w : World} {ao pa : Option Addr} {cap pc : Nat} {l : List Nd} {ps : List (List Nd)} (X : List Nd) (c : Int) (hF : FillF l ps X c) (hL : Rd w ao cap l) (hP : RdP w pa pc ps) (FL : Fit l) (FP : FitL ps) :
    Calls Tryd.prog 39 #[.slice ao l.length cap, .slice pa ps.length pc] w fun e w' => ∃ a t, e = .returned (.tuple #[.slice a X.length t, .int .i64 c]) ∧ Rd w' a t X ∧ Below w.heap.size w w' := by
  have HL : Hid (Rd w ao cap l) := hL
  have HP : Hid (RdP w pa pc ps) := hP
  have HFL : Hid (Fit l) := FL
  have HFP : Hid (FitL ps) := FP
  have HF : Hid (FillF l ps X c) := hF
  have hpb : ps.length ≤ pc ∧ pc ≤ 9223372036854775807 := by
    obtain ⟨_, _, e, h1, h2, _⟩ := id hP
    cases e
    unfold maxLen at h2
    exact ⟨h1, by omega⟩
  have cK := rchk14_any hL FL
  unfold pkC at cK
  clear hL hP FL FP hF
  cases hpat : patB l with
  | false =>
    have hc : c = 1 := by rw [← HF.out.eq]; unfold flC; rw [if_pos (.inl hpat)]
    subst hc
    have hX := HF.out.no (by decide)
    subst hX
    rw [if_neg (by rw [hpat]; decide)] at cK
    clear hpat HF
    go_enter Tryd.func39, Tryd.ntmps39
    go_wp2_with fail
    refine cK.mono ?_
    rintro e w2 ⟨rfl, hb2⟩
    have HB2 : Hid (_) := hb2
    clear hb2 cK
    go_wp2_with fail
    go_ret2
    exact ⟨none, 0, rfl, ⟨none, 0, rfl, by simp, by simp, .inl rfl⟩, HB2.out⟩
  | true =>
    rw [if_pos hpat] at cK
    have HPAT : Hid (patB l = true) := hpat
    have hk6 := patB_hls hpat
    clear hpat
    go_enter Tryd.func39, Tryd.ntmps39
    go_wp2_with fail
    refine cK.mono ?_
    rintro e w2 ⟨rfl, hb2⟩
    have HB2 : Hid (Below w.heap.size w w2) := hb2
    clear hb2 cK
    go_wp2_with fail
    go_loopw [6] (fun i wr => ∃ k : Nat, k ≤ ps.length ∧ i = .int .i64 k ∧ Hid (∀ r ∈ ps.take k, sndB r = true) ∧ Below w2.heap.size w2 wr) (fun i _ => ps.length - (RowKit.intOf i).toNat)
    case atStart => exact ⟨0, by omega, rfl, by show ∀ _ ∈ _, _; simp, Below.refl _ _⟩
    case round =>
      obtain ⟨k, hk, rfl, hS, hbr⟩ := hrel
      have HBR : Hid (Below w2.heap.size w2 wr) := hbr
      have HBW : Hid (Below w.heap.size w wr) := HB2.out.trans (hbr.mono HB2.out.size)
      clear hbr
      by_cases hlt : k < ps.length
      · obtain ⟨b, o, qa, qc, rfl, hb0, hcell, hnod⟩ := HP.out.part HBW.out hlt
        have hmr : ps.getD k [] ∈ ps := getD_mem hlt
        cases hsr : sndB (ps.getD k []) with
        | true =>
          have cK := rchkR hnod (HFP.out.each _ hmr).fit 0 (chkE_yes hsr)
          have HS2 : Hid (∀ r ∈ ps.take (k + 1), sndB r = true) := fun r hr => by
            rw [List.take_succ_eq_append_getElem hlt] at hr
            rcases List.mem_append.1 hr with hr | hr
            · exact hS.out r hr
            · simp at hr
              have e : ps.getD k [] = ps[k] := by simp [hlt]
              rw [hr, ← e]; exact hsr
          clear hsr hmr hnod
          generalize (ps.getD k []).length = rl at *
          go_wp2_with (go_at_call 12; refine cK.mono ?_; rintro e w7 ⟨rfl, hb⟩; have HB7 : Hid (_) := hb; clear hb)
          exact ⟨⟨k + 1, by omega, by go_num, HS2.out, HBR.out.trans (HB7.out.mono HBR.out.size)⟩, by simp [RowKit.intOf]; omega⟩
        | false =>
          have cK := rchkR hnod (HFP.out.each _ hmr).fit 1 (chkE_no hsr)
          have hc : c = 1 := by
            rw [← HF.out.eq]; unfold flC; rw [if_pos (.inr (List.any_eq_true.2 ⟨_, hmr, by rw [hsr]; rfl⟩))]
          subst hc
          have hX := HF.out.no (by decide)
          subst hX
          clear hsr hmr hnod HF
          generalize (ps.getD k []).length = rl at *
          go_wp2_with (go_at_call 12; refine cK.mono ?_; rintro e w7 ⟨rfl, hb⟩; have HB7 : Hid (_) := HBW.out.trans (hb.mono HBW.out.size); clear hb)
          go_ret2
          exact ⟨none, 0, rfl, ⟨none, 0, rfl, by simp, by simp, .inl rfl⟩, HB7.out⟩
      · have hke : k = ps.length := by omega
        subst hke
        rw [List.take_length] at hS
        have HS : Hid (∀ r ∈ ps, sndB r = true) := hS.out
        have cH := refHolesO_any (HL.out.below HBW.out HBW.out.size) HFL.out.len
        clear hS
        go_wp2_with fail
        refine cH.mono ?_
        rintro e w3 ⟨u3, t3, rfl, hM⟩
        have HB3 : Hid (Below w.heap.size w w3) := HBW.out.trans (hM.below.mono HBW.out.size)
        obtain ⟨u3', t3', e1, hSt⟩ := Strs_of_own hM.row
        cases e1
        have HSt : Hid (Strs w3 u3 t3 (hlsL l)) := hSt
        clear hM cH hSt
        by_cases hln : ps.length = (hlsL l).length
        · have hok : FlOk l ps := ⟨HPAT.out, HS.out, hln⟩
          obtain ⟨fr, hfr⟩ := Option.isSome_iff_exists.1 (patB_snd hok.pat)
          have hwh := fil_whole hfr ps
          have hwl : (fil l ps (l.length - 1)).length = (flH ps (hlsL l) l).length := by rw [← hds_len, hwh]
          have cX := refFilled_any hok (HL.out.below HB3.out HB3.out.size) HSt.out (HP.out.below HB3.out)
          have HLN : Hid (ps.length = (hlsL l).length) := hln
          by_cases h64 : 64 < (flH ps (hlsL l) l).length
          · have hc : c = 10 := by rw [← HF.out.eq, flC_ok hok, if_pos h64]
            subst hc
            have hX := HF.out.no (by decide)
            subst hX
            rw [← hwl] at h64
            clear hok hfr hwh hwl hln HF HSt
            generalize (fil l ps (l.length - 1)) = R at *
            have h64i : (64 : Int) < (R.length : Int) := by omega
            generalize hpl : ps.length = N at *
            have hll := HLN.out
            rw [← hll] at cX ⊢
            clear hll hpl
            go_wp2_with fail
            refine cX.mono ?_
            rintro e w4 ⟨u4, t4, rfl, hR4, hb4⟩
            have HB4 : Hid (Below w.heap.size w w4) := HB3.out.trans (hb4.mono HB3.out.size)
            clear hR4 hb4 cX
            go_wp2_with fail
            go_ret2
            exact ⟨none, 0, rfl, ⟨none, 0, rfl, by simp, by simp, .inl rfl⟩, HB4.out⟩
          · have hc : c = 0 := by rw [← HF.out.eq, flC_ok hok, if_neg h64]
            subst hc
            obtain ⟨hx1, hx2⟩ := HF.out.ok rfl
            have hfx := fil_is hok (by omega) hx1 hx2
            rw [hfx] at cX hwl
            have h64i : ¬ (64 : Int) < (X.length : Int) := by omega
            clear hok hfr hwh hwl hln HF HSt hx1 hx2 hfx h64
            generalize hpl : ps.length = N at *
            have hll := HLN.out
            rw [← hll] at cX ⊢
            clear hll hpl
            go_wp2_with fail
            refine cX.mono ?_
            rintro e w4 ⟨u4, t4, rfl, hR4, hb4⟩
            have HB4 : Hid (Below w.heap.size w w4) := HB3.out.trans (hb4.mono HB3.out.size)
            have HR4 : Hid (_) := hR4
            clear hR4 hb4 cX
            go_wp2_with fail
            go_ret2
            exact ⟨u4, t4, rfl, HR4.out, HB4.out⟩
        · have hc : c = 2 := by
            rw [← HF.out.eq]; unfold flC; rw [if_neg (by rw [HPAT.out, any_no14 HS.out]; simp), if_pos hln]
          subst hc
          have hX := HF.out.no (by decide)
          subst hX
          generalize (hlsL l).length = hl at *
          have hne : ¬ ((hl : Int) = (ps.length : Int)) := by omega
          have hne2 : ((hl : Int) != (ps.length : Int)) = true := by simp; omega
          clear HS HF hln
          go_wp2_with fail
          go_ret2
          exact ⟨none, 0, rfl, ⟨none, 0, rfl, by simp, by simp, .inl rfl⟩, HB3.out⟩
end Go.Proofs.YtlllkjbbldhddaaDoor
