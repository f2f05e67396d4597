/-
  PhW, PhV.
-/
import Derived.Test.YtlllkjbbldhddaaDoorChecked
import GoSem.PinnedTables
import GoSem.Claim
import GoSem.ClaimJoined
import GoSem.ClaimMapViews
import Derived.JoinedTies
import Derived.KernelRfl
import Derived.Shelf.Unicode.DecodeSlow
import Derived.Laws.RangeAny
import Derived.Shelf.Unicode.DecodeAny
import Derived.Test.YtlllkjbbldhddaaDoorProg
import Derived.WalkKit
import Derived.Deep.DeepFit
import Derived.Lib.OthersKept
import Derived.Lib.RuneCountTail
import Derived.Lib.LaidU8
import Derived.MakeChecks
import Derived.ProofKit
import Derived.OpenShut
import Derived.Deep.DeepHandedRow
import Derived.Deep.AppendLies
import Derived.Deep.OwnRows
import Derived.Laws.AppendOwnNone
import Derived.Deep.QuietTactic
import Derived.BigQuiet
import Derived.Deep.RegionWith
import Derived.Laws.DeepStrings4
import Derived.Deep.Slices
import Derived.SizedLaws
import Derived.Lib.MapLaws
import Derived.Sort.Walk0
import Derived.Lib.ItoaNum
import Derived.Maps.OwnSet
import Derived.StringKeys
import Derived.Below
import Derived.Laws.ResultCell
import Derived.Deep.RegionHeld3
import Derived.Deep.RegionLaw
import Derived.Lib.QuietBelow
import Derived.StillTail
import Derived.Deep.DeepCutAuto
import Derived.Laws.IdiomStrings
import Derived.WalkSmall
import Derived.Laws.OwnMore
import Derived.Test.YtlllkjbbldhddaaDoorRows
import Derived.Test.YtlllkjbbldhddaaDoorF01
import Derived.Test.YtlllkjbbldhddaaDoorF02
import Derived.Test.YtlllkjbbldhddaaDoorF03
import Derived.Test.YtlllkjbbldhddaaDoorF04
import Derived.Test.YtlllkjbbldhddaaDoorF05
import Derived.Test.YtlllkjbbldhddaaDoorF06
import Derived.Test.YtlllkjbbldhddaaDoorF07
import Derived.Test.YtlllkjbbldhddaaDoorF08
import Derived.Test.YtlllkjbbldhddaaDoorF09
import Derived.Test.YtlllkjbbldhddaaDoorF10
import Derived.Test.YtlllkjbbldhddaaDoorF11
import Derived.Test.YtlllkjbbldhddaaDoorF12
import Derived.Test.YtlllkjbbldhddaaDoorF13
import Derived.Test.YtlllkjbbldhddaaDoorF14
import Derived.Test.YtlllkjbbldhddaaDoorF15
import Derived.Test.YtlllkjbbldhddaaDoorF16
import Derived.Test.YtlllkjbbldhddaaDoorF17
import Derived.Test.YtlllkjbbldhddaaDoorF18
import Derived.Test.YtlllkjbbldhddaaDoorF19
import Derived.Test.YtlllkjbbldhddaaDoorF20
import Derived.Test.YtlllkjbbldhddaaDoorF21
import Derived.Test.YtlllkjbbldhddaaDoorF22
import Derived.Test.YtlllkjbbldhddaaDoorF23
import Derived.Test.YtlllkjbbldhddaaDoorF24
import Derived.Test.YtlllkjbbldhddaaDoorF25
import Derived.Test.YtlllkjbbldhddaaDoorF26
import Derived.Test.YtlllkjbbldhddaaDoorF27
import Derived.Test.YtlllkjbbldhddaaDoorF28
import Derived.Test.YtlllkjbbldhddaaDoorF29
set_option linter.unusedSimpArgs false
set_option linter.unusedVariables false
namespace Go.Proofs.YtlllkjbbldhddaaDoor
open Go.RowKit Go.Lib Go.Sort

theorem cmp3_zero14 {a b : Int} (h : cmp3 a b = 0) : a = b := by
  unfold cmp3 at h
  split at h
  · cases h
  · split at h
    · cases h
    · omega
theorem heads_same {x y : Nd} (h : hd x = hd y) : heads x y = 0 := by
  unfold hd at h
  simp only [Prod.mk.injEq] at h
  unfold heads
  rw [h.1, h.2.1, h.2.2, cmp3_self, cmp3_self]
  unfold ordI
  rw [cmpL_self]; rfl
theorem heads_diff {x y : Nd} (h : hd x ≠ hd y) (h0 : heads x y = 0) : x.name ≠ y.name := fun e => h (by
  unfold heads at h0
  rw [orL_cons] at h0
  split at h0
  · rename_i h1
    rw [orL_cons] at h0
    split at h0
    · rename_i h2
      unfold hd
      rw [cmp3_zero14 h1, cmp3_zero14 h2, e]
    · rename_i h2; exact absurd h0 h2
  · rename_i h1; exact absurd h0 h1)

/-- The document's Fit in memory. -/
structure DtM (W : World) (base F P : Nat) (na : Option Addr) (h nc : Nat) (ps : List (List Nd)) (bad : Bool) : Prop where
  blk : W.heap[F]? = some (.cells #[.slice na h nc, .slice (some ⟨P, 0, none⟩) h h, .bool bad] 102)
  own : ∃ pvs, OwnLs W base (.slice (some ⟨P, 0, none⟩) h h) ps pvs
  leF : base ≤ F
theorem DtM.below {W W' : World} {base F P : Nat} {na : Option Addr} {h nc : Nat} {ps : List (List Nd)} {bad : Bool} (k : DtM W base F P na h nc ps bad) (hb : Below W.heap.size W W') : DtM W' base F P na h nc ps bad := by
  obtain ⟨h1, ⟨pvs, h2⟩, h3⟩ := k
  exact ⟨(hb.block F (lt_of_block h1)).trans h1, ⟨pvs, h2.below hb⟩, h3⟩
theorem DtM.len {W : World} {base F P : Nat} {na : Option Addr} {h nc : Nat} {ps : List (List Nd)} {bad : Bool} (k : DtM W base F P na h nc ps bad) : ps.length = h := by
  obtain ⟨pvs, h2⟩ := k.own
  obtain ⟨ao, cap', he⟩ := rw_form h2.row
  cases he; rfl
theorem DtM.leP {W : World} {base F P : Nat} {na : Option Addr} {h nc : Nat} {ps : List (List Nd)} {bad : Bool} (k : DtM W base F P na h nc ps bad) : base ≤ P ∧ P < W.heap.size := by
  obtain ⟨pvs, h2⟩ := k.own
  exact h2.row.lt P rfl
theorem DtM.ne {W : World} {base F P : Nat} {na : Option Addr} {h nc : Nat} {ps : List (List Nd)} {bad : Bool} (k : DtM W base F P na h nc ps bad) : F ≠ P := by
  obtain ⟨pvs, h2⟩ := k.own
  rintro rfl
  exact own_typ h2.row k.blk (by decide) rfl
theorem DtM.cells {W : World} {base F P : Nat} {na : Option Addr} {h nc : Nat} {ps : List (List Nd)} {bad : Bool} (k : DtM W base F P na h nc ps bad) : W.cell? ⟨F, 0, none⟩ = some (.slice na h nc) ∧ W.cell? ⟨F, 1, none⟩ = some (.slice (some ⟨P, 0, none⟩) h h) ∧ W.cell? ⟨F, 2, none⟩ = some (.bool bad) ∧ W.frozen? ⟨F, 2, none⟩ = false := by
  refine ⟨?_, ?_, ?_, frozen_of_heap k.blk _⟩ <;> rw [cell_of_heap k.blk] <;> rfl
theorem DtM.entry {W : World} {base F P : Nat} {na : Option Addr} {h nc : Nat} {ps : List (List Nd)} {bad : Bool} (k : DtM W base F P na h nc ps bad) {z : Nat} (hz : z < h) : ∃ a c, W.cell? ⟨P, z, none⟩ = some (.slice a (ps.getD z []).length c) ∧ Rd W a c (ps.getD z []) ∧ W.frozen? ⟨P, z, none⟩ = false := by
  have hl := k.len
  obtain ⟨pvs, h2⟩ := k.own
  obtain ⟨g, cap', he, hg, _, _, hc⟩ := row_cell h2.row (i := z) (by omega) (d := .slice none 0 0)
  cases he
  obtain ⟨a, c, hv, hr⟩ := Rd_of_own (h2.each z (by omega))
  rw [hv] at hc
  obtain ⟨_, _, cap2, cur, _, hcc, _⟩ := rw_block h2.row (b := P) rfl
  exact ⟨a, c, hc, hr, frozen_of_heap hcc _⟩
theorem DtM.setBad {W : World} {base F P : Nat} {na : Option Addr} {h nc : Nat} {ps : List (List Nd)} {bad : Bool} (k : DtM W base F P na h nc ps bad) : DtM (W.setCell ⟨F, 2, none⟩ (.bool true)) base F P na h nc ps true := by
  obtain ⟨h1, ⟨pvs, h2⟩, h3⟩ := k
  have stay : ∀ {v : Value} {l : List Nd}, OwnN W base v l → OwnN (W.setCell ⟨F, 2, none⟩ (.bool true)) base v l := fun {v l} hh => by
    obtain ⟨q, hq, hr⟩ := hh
    exact ⟨q, hq, ⟨own_set' hr.row (own_typ hr.row h1 (by decide)), fun y hy => own_set' (hr.kids y hy) (own_typ (hr.kids y hy) h1 (by decide))⟩⟩
  exact ⟨by rw [heap_setCell_same W F 2 _ _ _ h1]; rfl, ⟨pvs, h2.len, own_set' h2.row (own_typ h2.row h1 (by decide)), fun i hi => stay (h2.each i hi)⟩, h3⟩
theorem DtM.setPart {W : World} {base F P : Nat} {na : Option Addr} {h nc : Nat} {ps : List (List Nd)} {bad : Bool} (k : DtM W base F P na h nc ps bad) {z : Nat} (hz : z < h) {v : Value} {r : List Nd} (ho : OwnN W base v r) : DtM (W.setCell ⟨P, z, none⟩ v) base F P na h nc (ps.set z r) bad := by
  have hl := k.len
  have hne := k.ne
  obtain ⟨h1, ⟨pvs, h2⟩, h3⟩ := k
  exact ⟨by rw [Deep.blk_setCell_other _ _ _ _ (show F ≠ P from hne)]; exact h1, ⟨_, h2.set ho (by omega)⟩, h3⟩
end Go.Proofs.YtlllkjbbldhddaaDoor

set_option linter.unusedSimpArgs false
set_option linter.unusedVariables false
namespace Go.Proofs.YtlllkjbbldhddaaDoor
open Go.RowKit Go.Lib Go.Sort

/-- What at is handed; it stands below base. -/
structure AtIn (w2 : World) (ao bo na : Option Addr) (cap cb nc : Nat) (l e : List Nd) (fr fe : List Nat) : Prop where
  rl : Rd w2 ao cap l
  re : Rd w2 bo cb e
  ns : Strs w2 na nc (hlsL l)
  hl : begL (l.map fillN) = some fr
  he : begL e = some fe
  fe : FitX e
  nl : ∀ x ∈ l, x.name.size ≤ maxLen
def AtQ (w2 W : World) (F P : Nat) (na : Option Addr) (h nc : Nat) (l e : List Nd) (fr fe : List Nat) (i j : Nat) (ps : List (List Nd)) (bad : Bool) (en : Ending) (w' : World) : Prop :=
  en = .returned (.tuple #[]) ∧ Below w2.heap.size W w' ∧ ∃ ps' bad', DtM w' w2.heap.size F P na h nc ps' bad' ∧ AtP l e fr fe i j ps ps' bad bad'

set_option maxRecDepth 20000 in
set_option maxHeartbeats 4000000 in
theorem at_hole {w2 : World} {ao bo na : Option Addr} {cap cb nc n m h : Nat} {l e : List Nd} {fr fe : List Nat} (hI : AtIn w2 ao bo na cap cb nc l e fr fe) (hn : l.length = n) (hm : e.length = m) (hh : (hlsL l).length = h) {F P i j : Nat} (hi : i < n) (hj : j < m) (ho : (l.getD i nd0).op = 18)
    {W : World} {ps : List (List Nd)} {bad : Bool} (hB : Below w2.heap.size w2 W) (hD : DtM W w2.heap.size F P na h nc ps bad) :
    Calls Tryd.prog 73 #[.pointer (some ⟨F, 0, none⟩), .slice ao n cap, .slice bo m cb, .int .i64 i, .int .i64 j] W fun en w' => AtQ w2 W F P na h nc l e fr fe i j ps bad en w' := by
  have hil : i < l.length := by omega
  have hjl : j < e.length := by omega
  have hsW := hB.size
  have rl := hI.rl.below hB hsW
  have re := hI.re.below hB hsW
  obtain ⟨bb, oo, kv, rfl, hbk, hna⟩ := Rd.cell rl hil
  obtain ⟨q0, q1, q2, q3, _⟩ := hna
  have hxm : l.getD i nd0 ∈ l := getD_mem hil
  have hmem : (l.getD i nd0).name ∈ hlsL l := mem_hls hxm ho
  obtain ⟨z, hz⟩ : ∃ z, numL (hlsL l) (l.getD i nd0).name = z := ⟨_, rfl⟩
  have hzl : z < h := by rw [← hz, ← hh]; exact numL_lt hmem
  have hdl := hD.len
  have HAT : Hid (AtP l e fr fe i j ps (ps.set z (partL e (fe.getD j 0) j)) bad (bad || (!decide (ps.getD z [] = []) && !decide (ps.getD z [] = partL e (fe.getD j 0) j)))) := AtP.hole bad (begOk_of (begL_some hI.hl).2.2.1) hI.he hil hjl ho hz (by omega)
  have cP := partOf_any W bo cb e fe j re hI.fe hI.he hjl
  rw [hm] at cP
  obtain ⟨r, hr⟩ : ∃ r, partL e (fe.getD j 0) j = r := ⟨_, rfl⟩
  rw [hr] at cP HAT
  have HNS : Hid (∀ W', Below w2.heap.size w2 W' → Strs W' na nc (hlsL l)) := fun W' hb => hI.ns.below hb
  have HNZ : Hid (numW (hlsL l) (l.getD i nd0).name = (z : Int)) := by rw [Hid, numW_mem hmem, hz]
  have HD : Hid (DtM W w2.heap.size F P na h nc ps bad) := hD
  have HB : Hid (Below w2.heap.size w2 W) := hB
  have HH : Hid ((hlsL l).length = h) := hh
  have hiI : (i : Int) < (n : Int) := by omega
  have hi0 : (0 : Int) ≤ (i : Int) := by omega
  have hn16 : n ≤ cap ∧ cap ≤ 9223372036854775807 := by
    obtain ⟨h1, h2⟩ := rl.bound
    unfold maxLen at h2
    omega
  rw [ho] at q0
  clear hI rl re hxm hmem hz hdl hr hD hB hh ho
  generalize (l.getD i nd0).name = nm at *
  clear hil hjl
  go_enter Tryd.func73, Tryd.ntmps73
  go_wp2_with fail
  refine cP.mono ?_
  rintro en w3 ⟨u3, t3, rfl, hX⟩
  have hb3 := hX.below
  have HO3 : Hid (OwnN w3 W.heap.size (.slice u3 r.length t3) r) := hX.own
  have HB3 : Hid (Below W.heap.size W w3) := hb3
  have hB3 : Below w2.heap.size w2 w3 := HB.out.trans (hb3.mono HB.out.size)
  have HBT : Hid (Below w2.heap.size w2 w3) := hB3
  have D3 := HD.out.below hb3
  have HD3 : Hid (DtM w3 w2.heap.size F P na h nc ps bad) := D3
  have c2 := (hb3.cell (p := ⟨bb, oo + i * 4 + 2, none⟩) hbk).trans q2
  obtain ⟨f0, _⟩ := D3.cells
  have cN : Hid (∀ d os, Calls Tryd.prog 43 #[.slice na h nc, .string nm] (grow (redrawn w3 d) os) fun e w'' => e = .returned (.int .i64 (z : Int)) ∧ ∃ p : Regrown, w'' = grow (redrawn w3 p.d) p.os) := fun d os => by
    have := number_any (s := nm) (HNS.out _ (HBT.out.trans ((below_regrown w3 d os).mono HBT.out.size)))
    rw [HNZ.out, HH.out] at this
    exact Calls.regrown_of this
  have g0 := cell_regrown f0
  have g1 := cell_regrown c2
  clear cP hX hb3 hB3 D3 f0 q0 q1 q2 q3 c2 HD
  go_wp2_with fail
  refine wp_region_quiet_below (by kernel_rfl) (by kernel_rfl) ?_
  iterate 11 (go_big_quiet_step ((go_at_call 43; exact cN.out _ _)))
  refine wpQuiet_nil ?_
  intro _ hw'
  obtain ⟨⟨ds, oss⟩, hw''⟩ := hw'
  subst hw''
  have hb := below_regrown w3 ds oss
  generalize grow (redrawn w3 ds) oss = w4 at *
  have HD4 : Hid (DtM w4 w2.heap.size F P na h nc ps bad) := HD3.out.below hb
  have HB4 : Hid (Below W.heap.size W w4) := HB3.out.trans (hb.mono HB3.out.size)
  have HO4 : Hid (OwnN w4 W.heap.size (.slice u3 r.length t3) r) := HO3.out.below hb
  obtain ⟨_, f1, f2, f3⟩ := HD4.out.cells
  obtain ⟨pa, pc, fz, rz, ffz⟩ := HD4.out.entry hzl
  have hFP : F ≠ P := HD4.out.ne
  have HWW : Hid (w2.heap.size ≤ W.heap.size) := HB.out.size
  have hzi : (z : Int) < (h : Int) := by omega
  have hz0 : (0 : Int) ≤ (z : Int) := by omega
  have HF : Hid (w2.heap.size ≤ F) := HD4.out.leF
  have HPP : Hid (w2.heap.size ≤ P) := HD4.out.leP.1
  clear hb g0 g1 cN HD3 HB3 HO3
  by_cases hE : ps.getD z [] = []
  · have HAT2 : Hid (AtP l e fr fe i j ps (ps.set z r) bad bad) := by
      have hbq : (bad || (!decide (ps.getD z [] = []) && !decide (ps.getD z [] = r))) = bad := by rw [decide_eq_true hE]; simp
      have := HAT.out
      rw [hbq] at this
      exact this
    rw [hE] at fz
    clear HAT hE rz
    have HD5 : Hid (DtM (w4.setCell ⟨P, z, none⟩ (.slice u3 r.length t3)) w2.heap.size F P na h nc (ps.set z r) bad) := HD4.out.setPart hzl (OwnN_mono HO4.out HWW.out)
    have HB5 : Hid (Below w2.heap.size W (w4.setCell ⟨P, z, none⟩ (.slice u3 r.length t3))) := (HB4.out.mono HWW.out).setCell (p := ⟨P, z, none⟩) HPP.out _
    generalize r.length = rn at *
    go_wp2_with fail
    go_end0
    exact ⟨rfl, HB5.out, _, _, HD5.out, HAT2.out⟩
  · have hpl : 0 < (ps.getD z []).length := List.length_pos_iff.2 hE
    obtain ⟨a4, n4, hv4⟩ : ∃ a4 n4, Value.slice u3 r.length t3 = .slice a4 r.length n4 := ⟨_, _, rfl⟩
    have hr4 : Rd w4 u3 t3 r := by
      obtain ⟨a', c', he', hr'⟩ := Rd_of_own HO4.out
      cases he'; exact hr'
    have hpli : (0 : Int) < ((ps.getD z []).length : Int) := by omega
    by_cases hq : ps.getD z [] = r
    · have HAT2 : Hid (AtP l e fr fe i j ps (ps.set z r) bad bad) := by
        have hbq : (bad || (!decide (ps.getD z [] = []) && !decide (ps.getD z [] = r))) = bad := by rw [decide_eq_true hq]; simp
        have := HAT.out
        rw [hbq] at this
        exact this
      have cS := sameR rz hr4 true (decide_eq_true hq)
      clear HAT hE hq rz hr4 hv4 hpl
      generalize (ps.getD z []).length = pn at *
      generalize hrn : r.length = rn at *
      clear hrn
      go_wp2_with fail
      refine cS.mono ?_
      rintro en w5 ⟨rfl, hb5⟩
      have D5 := HD4.out.below hb5
      obtain ⟨_, f1', _, _⟩ := D5.cells
      obtain ⟨pa', pc', fz', _, ffz'⟩ := D5.entry hzl
      have HD6 : Hid (DtM (w5.setCell ⟨P, z, none⟩ (.slice u3 rn t3)) w2.heap.size F P na h nc (ps.set z r) bad) := D5.setPart hzl (OwnN_mono (HO4.out.below hb5) HWW.out)
      have HB6 : Hid (Below w2.heap.size W (w5.setCell ⟨P, z, none⟩ (.slice u3 rn t3))) := ((HB4.out.trans (hb5.mono HB4.out.size)).mono HWW.out).setCell (p := ⟨P, z, none⟩) HPP.out _
      clear cS hb5 D5 f1 f2 f3 fz ffz HD4 HB4 HO4
      go_wp2_with fail
      go_end0
      exact ⟨rfl, HB6.out, _, _, HD6.out, HAT2.out⟩
    · have HAT2 : Hid (AtP l e fr fe i j ps (ps.set z r) bad true) := by
        have hbq : (bad || (!decide (ps.getD z [] = []) && !decide (ps.getD z [] = r))) = true := by rw [decide_eq_false hE, decide_eq_false hq]; simp
        have := HAT.out
        rw [hbq] at this
        exact this
      have cS := sameR rz hr4 false (decide_eq_false hq)
      clear HAT hE hq rz hr4 hv4 hpl
      generalize (ps.getD z []).length = pn at *
      generalize hrn : r.length = rn at *
      clear hrn
      go_wp2_with fail
      refine cS.mono ?_
      rintro en w5 ⟨rfl, hb5⟩
      have D5 := HD4.out.below hb5
      have D6 := D5.setBad
      obtain ⟨_, f1', f2', f3'⟩ := D5.cells
      obtain ⟨_, f1s, _, _⟩ := D6.cells
      obtain ⟨pa', pc', fz', _, ffz'⟩ := D6.entry hzl
      have HO6 : Hid (OwnN (w5.setCell ⟨F, 2, none⟩ (.bool true)) w2.heap.size (.slice u3 rn t3) r) := by
        have h5 := OwnN_mono (HO4.out.below hb5) HWW.out
        obtain ⟨q, hq, hrr⟩ := h5
        exact ⟨q, hq, ⟨own_set' hrr.row (own_typ hrr.row D5.blk (by decide)), fun y hy => own_set' (hrr.kids y hy) (own_typ (hrr.kids y hy) D5.blk (by decide))⟩⟩
      have HD6 : Hid (DtM ((w5.setCell ⟨F, 2, none⟩ (.bool true)).setCell ⟨P, z, none⟩ (.slice u3 rn t3)) w2.heap.size F P na h nc (ps.set z r) true) := D6.setPart hzl HO6.out
      have HB6 : Hid (Below w2.heap.size W ((w5.setCell ⟨F, 2, none⟩ (.bool true)).setCell ⟨P, z, none⟩ (.slice u3 rn t3))) := (((HB4.out.trans (hb5.mono HB4.out.size)).mono HWW.out).setCell (p := ⟨F, 2, none⟩) HF.out _).setCell (p := ⟨P, z, none⟩) HPP.out _
      clear cS hb5 D5 D6 f1 f2 f3 fz ffz HD4 HB4 HO4 HO6
      go_wp2_with fail
      go_end0
      exact ⟨rfl, HB6.out, _, _, HD6.out, HAT2.out⟩
end Go.Proofs.YtlllkjbbldhddaaDoor
