/-
  What the document's Put, Part and Depth answer, all ways.
-/
import Derived.Test.YtkdcjkhpbbcncaaDoorPiW
import Derived.Test.YtkdcjkhpbbcncaaDoorPoW
import Derived.Test.YtkdcjkhpbbcncaaDoorExDepW
import Derived.Test.YtkdcjkhpbbcncaaDoorRbPure
set_option linter.unusedSimpArgs false
set_option linter.unusedVariables false
namespace Go.Proofs.YtkdcjkhpbbcncaaDoor
open Go.RowKit Go.Lib

/-- What Part answers: the list and the error. -/
def ptE (l : List Nd) (at_ : Int) : List Nd × Int := match begL l with
  | none => ([], 1)
  | some fr => if at_ < 0 ∨ (l.length : Int) ≤ at_ then ([], 2) else (partL l (fr.getD at_.toNat 0) at_.toNat, 0)
/-- What Put answers. -/
def puE (l : List Nd) (at_ : Int) (m : List Nd) : List Nd × Int := match begL l, begL m with
  | some fr, some _ => if at_ < 0 ∨ (l.length : Int) ≤ at_ then ([], 2) else if 64 + (at_.toNat + 1) < l.length + m.length + fr.getD at_.toNat 0 then ([], 10) else (putL l (fr.getD at_.toNat 0) at_.toNat m, 0)
  | _, _ => ([], 1)
def dpE (l : List Nd) : Nat × Int := match begL l with
  | none => (0, 1)
  | some _ => ((dpR [] l).getD (l.length - 1) 0, 0)

/-- A list and an error that are answered, the list to be read. -/
def AnsL (w : World) (e : Ending) (w' : World) (r : List Nd × Int) : Prop := ∃ ao cap, e = .returned (.tuple #[.slice ao r.1.length cap, .int .i64 r.2]) ∧ Rd w' ao cap r.1 ∧ Below w.heap.size w w'
theorem Rd_nil (w : World) : Rd w none 0 [] := ⟨none, 0, rfl, by simp, by simp [maxLen], .inl rfl⟩
theorem AnsL.no {w w' : World} {e : Ending} {er : Int} (he : e = .returned (.tuple #[.slice none 0 0, .int .i64 er])) (hb : Below w.heap.size w w') : AnsL w e w' ([], er) := ⟨none, 0, he, Rd_nil w', hb⟩

theorem partE {w : World} {ao : Option Addr} {cap : Nat} {l : List Nd} (T : SpanCells w) (h : Rd w ao cap l) (at_ : Int) :
    Calls Tryd.prog 13 #[.slice ao l.length cap, .int .i64 at_] w fun e w' => AnsL w e w' (ptE l at_) := by
  unfold ptE
  cases hb : begL l with
  | none => exact (part_none _ l at_ w _ (Nat.le_refl _) T h hb).mono fun e w' ⟨h1, h2⟩ => AnsL.no h1 h2
  | some fr =>
    simp only
    by_cases hat : at_ < 0 ∨ (l.length : Int) ≤ at_
    · rw [if_pos hat]
      exact (part_out _ l fr at_ w _ (Nat.le_refl _) T h hb hat).mono fun e w' ⟨h1, h2⟩ => AnsL.no h1 h2
    · rw [if_neg hat]
      exact (partR T h hb at_.toNat at_ (by omega) (by omega) rfl).mono fun e w' ⟨ao', cap', h1, h2, h3⟩ => ⟨ao', cap', h1, h2, h3⟩
theorem putE {w : World} {ao bo : Option Addr} {cap cb : Nat} {l m : List Nd} (T : SpanCells w) (h : Rd w ao cap l) (h2 : Rd w bo cb m) (at_ : Int) :
    Calls Tryd.prog 16 #[.slice ao l.length cap, .int .i64 at_, .slice bo m.length cb] w fun e w' => AnsL w e w' (puE l at_ m) := by
  unfold puE
  cases hb : begL l with
  | none => exact (put_none1 _ _ l m at_ w _ (Nat.le_refl _) T h hb).mono fun e w' ⟨h1, h2⟩ => AnsL.no h1 h2
  | some fr =>
    cases hc : begL m with
    | none => exact (put_none2 _ _ l m fr at_ w _ (Nat.le_refl _) T h h2 hb hc).mono fun e w' ⟨h1, h2⟩ => AnsL.no h1 h2
    | some fm =>
      simp only
      by_cases hat : at_ < 0 ∨ (l.length : Int) ≤ at_
      · rw [if_pos hat]
        exact (put_out _ _ l m fr fm at_ w _ (Nat.le_refl _) T h h2 hb hc hat).mono fun e w' ⟨h1, h2⟩ => AnsL.no h1 h2
      · rw [if_neg hat]
        have e : at_ = ((at_.toNat : Nat) : Int) := by omega
        by_cases hlg : 64 + (at_.toNat + 1) < l.length + m.length + fr.getD at_.toNat 0
        · rw [if_pos hlg]
          have := putR_large T h h2 hb hc at_.toNat (by omega) hlg
          rw [← e] at this
          exact this.mono fun e w' ⟨h1, h2⟩ => AnsL.no h1 h2
        · rw [if_neg hlg]
          exact (putR T h h2 hb hc at_.toNat at_ e (by omega) (by omega) rfl).mono fun e w' ⟨ao', cap', h1, h2, h3⟩ => ⟨ao', cap', h1, h2, h3⟩
theorem depthE {w : World} {ao : Option Addr} {cap : Nat} {l : List Nd} (T : SpanCells w) (h : Rd w ao cap l) :
    Calls Tryd.prog 18 #[.slice ao l.length cap] w fun e w' => e = .returned (.tuple #[.int .i64 ((dpE l).1 : Nat), .int .i64 (dpE l).2]) ∧ Below w.heap.size w w' := by
  unfold dpE
  cases hb : begL l with
  | none => exact depth_none _ l w _ (Nat.le_refl _) T h hb
  | some fr => exact depth_some _ l fr w _ (Nat.le_refl _) T h hb

set_option maxRecDepth 20000 in
set_option maxHeartbeats 2000000 in
theorem refPart_bad (w : World) (ao : Option Addr) (cap : Nat) (l : List Nd) (at_ : Int) (er : Int) (hR : Rd w ao cap l) (hF : FitX l) (h : (begL l = none ∧ er = 1) ∨ ((∃ fr, begL l = some fr) ∧ (at_ < 0 ∨ (l.length : Int) ≤ at_) ∧ er = 2)) :
    Calls Tryd.prog 14 #[.slice ao l.length cap, .int .i64 at_] w fun e w' => e = .returned (.tuple #[.slice none 0 0, .int .i64 er]) ∧ Below w.heap.size w w' := by
  obtain ⟨hc1, hc2⟩ := hR.bound
  unfold maxLen at hc2
  rcases h with ⟨hb, rfl⟩ | ⟨⟨fr, hb⟩, hat, rfl⟩
  · have CC : Sld (Calls Tryd.prog 12 #[.slice ao l.length cap] w fun e w' => e = .returned (.int .i64 1) ∧ Below w.heap.size w w') := ⟨rchkR hR hF.fit 1 (chkE_no (by simp [sndB, hb]))⟩
    clear hb hR hF
    go_enter Tryd.func14, Tryd.ntmps14
    go_wp2_with fail
    refine CC.out.mono ?_
    rintro e w2 ⟨rfl, hb2⟩
    go_wp2_with fail
    go_ret2
    exact ⟨rfl, hb2⟩
  · have CC : Sld (Calls Tryd.prog 12 #[.slice ao l.length cap] w fun e w' => e = .returned (.int .i64 0) ∧ Below w.heap.size w w') := ⟨rchkR hR hF.fit 0 (chkE_yes (by simp [sndB, hb]))⟩
    clear hb hR hF
    rcases hat with h0 | h0
    · go_enter Tryd.func14, Tryd.ntmps14
      go_wp2_with fail
      refine CC.out.mono ?_
      rintro e w2 ⟨rfl, hb2⟩
      go_wp2_with fail
      go_ret2
      exact ⟨rfl, hb2⟩
    · have h1 : ¬ (at_ < 0) := by omega
      go_enter Tryd.func14, Tryd.ntmps14
      go_wp2_with fail
      refine CC.out.mono ?_
      rintro e w2 ⟨rfl, hb2⟩
      go_wp2_with fail
      go_ret2
      exact ⟨rfl, hb2⟩
theorem refPartE {w : World} {ao : Option Addr} {cap : Nat} {l : List Nd} (h : Rd w ao cap l) (hF : FitX l) (at_ : Int) :
    Calls Tryd.prog 14 #[.slice ao l.length cap, .int .i64 at_] w fun e w' => AnsL w e w' (ptE l at_) := by
  unfold ptE
  cases hb : begL l with
  | none => exact (refPart_bad w ao cap l at_ 1 h hF (.inl ⟨hb, rfl⟩)).mono fun e w' ⟨h1, h2⟩ => AnsL.no h1 h2
  | some fr =>
    simp only
    by_cases hat : at_ < 0 ∨ (l.length : Int) ≤ at_
    · rw [if_pos hat]
      exact (refPart_bad w ao cap l at_ 2 h hF (.inr ⟨⟨fr, hb⟩, hat, rfl⟩)).mono fun e w' ⟨h1, h2⟩ => AnsL.no h1 h2
    · rw [if_neg hat]
      have e : at_ = ((at_.toNat : Nat) : Int) := by omega
      have := refPart_any w ao cap l fr at_.toNat h hF hb (by omega)
      rw [← e] at this
      exact this.mono fun e w' ⟨ao', cap', base, h1, h2, h3⟩ => ⟨ao', cap', h1, Nodes_of_own h2 (Nat.le_refl _), h3⟩

set_option maxRecDepth 20000 in
set_option maxHeartbeats 2000000 in
theorem refPut_bad (w : World) (ao bo : Option Addr) (cap cb : Nat) (l m : List Nd) (at_ : Int) (er : Int) (hR : Rd w ao cap l) (hRm : Rd w bo cb m) (hF : FitX l) (hFm : FitX m) (h : (begL l = none ∧ er = 1) ∨ ((∃ fr, begL l = some fr) ∧ begL m = none ∧ er = 1) ∨ ((∃ fr, begL l = some fr) ∧ (∃ fm, begL m = some fm) ∧ (at_ < 0 ∨ (l.length : Int) ≤ at_) ∧ er = 2)) :
    Calls Tryd.prog 17 #[.slice ao l.length cap, .int .i64 at_, .slice bo m.length cb] w fun e w' => e = .returned (.tuple #[.slice none 0 0, .int .i64 er]) ∧ Below w.heap.size w w' := by
  obtain ⟨hc1, hc2⟩ := hR.bound
  unfold maxLen at hc2
  rcases h with ⟨hb, rfl⟩ | ⟨⟨fr, hb⟩, hbm, rfl⟩ | ⟨⟨fr, hb⟩, ⟨fm, hbm⟩, hat, rfl⟩
  · have CC : Sld (Calls Tryd.prog 12 #[.slice ao l.length cap] w fun e w' => e = .returned (.int .i64 1) ∧ Below w.heap.size w w') := ⟨rchkR hR hF.fit 1 (chkE_no (by simp [sndB, hb]))⟩
    clear hb hR hF
    go_enter Tryd.func17, Tryd.ntmps17
    go_wp2_with fail
    refine CC.out.mono ?_
    rintro e w2 ⟨rfl, hb2⟩
    go_wp2_with fail
    go_ret2
    exact ⟨rfl, hb2⟩
  · have CC : Sld (Calls Tryd.prog 12 #[.slice ao l.length cap] w fun e w' => e = .returned (.int .i64 0) ∧ Below w.heap.size w w') := ⟨rchkR hR hF.fit 0 (chkE_yes (by simp [sndB, hb]))⟩
    have CM : Sld (∀ W, Below w.heap.size w W → Calls Tryd.prog 12 #[.slice bo m.length cb] W fun e w' => e = .returned (.int .i64 1) ∧ Below W.heap.size W w') := ⟨fun W hW => rchkR (hRm.below hW hW.size) hFm.fit 1 (chkE_no (by simp [sndB, hbm]))⟩
    clear hb hR hF hbm hRm hFm
    go_enter Tryd.func17, Tryd.ntmps17
    go_wp2_with fail
    refine CC.out.mono ?_
    rintro e w2 ⟨rfl, hb2⟩
    go_wp2_with fail
    refine (CM.out w2 hb2).mono ?_
    rintro e w3 ⟨rfl, hb3⟩
    go_wp2_with fail
    go_ret2
    exact ⟨rfl, hb2.trans (hb3.mono hb2.size)⟩
  · have CC : Sld (Calls Tryd.prog 12 #[.slice ao l.length cap] w fun e w' => e = .returned (.int .i64 0) ∧ Below w.heap.size w w') := ⟨rchkR hR hF.fit 0 (chkE_yes (by simp [sndB, hb]))⟩
    have CM : Sld (∀ W, Below w.heap.size w W → Calls Tryd.prog 12 #[.slice bo m.length cb] W fun e w' => e = .returned (.int .i64 0) ∧ Below W.heap.size W w') := ⟨fun W hW => rchkR (hRm.below hW hW.size) hFm.fit 0 (chkE_yes (by simp [sndB, hbm]))⟩
    clear hb hR hF hbm hRm hFm
    rcases hat with h0 | h0
    · go_enter Tryd.func17, Tryd.ntmps17
      go_wp2_with fail
      refine CC.out.mono ?_
      rintro e w2 ⟨rfl, hb2⟩
      go_wp2_with fail
      refine (CM.out w2 hb2).mono ?_
      rintro e w3 ⟨rfl, hb3⟩
      go_wp2_with fail
      go_ret2
      exact ⟨rfl, hb2.trans (hb3.mono hb2.size)⟩
    · have h1 : ¬ (at_ < 0) := by omega
      go_enter Tryd.func17, Tryd.ntmps17
      go_wp2_with fail
      refine CC.out.mono ?_
      rintro e w2 ⟨rfl, hb2⟩
      go_wp2_with fail
      refine (CM.out w2 hb2).mono ?_
      rintro e w3 ⟨rfl, hb3⟩
      go_wp2_with fail
      go_ret2
      exact ⟨rfl, hb2.trans (hb3.mono hb2.size)⟩

set_option maxRecDepth 20000 in
set_option maxHeartbeats 2000000 in
theorem refPut_in (w : World) (ao bo : Option Addr) (cap cb : Nat) (l m : List Nd) (fr fm : List Nat) (i : Nat) (hR : Rd w ao cap l) (hRm : Rd w bo cb m) (hF : FitX l) (hFm : FitX m) (hb : begL l = some fr) (hbm : begL m = some fm) (hi : i < l.length) :
    Calls Tryd.prog 17 #[.slice ao l.length cap, .int .i64 i, .slice bo m.length cb] w fun e w' => AnsL w e w' (if 64 + (i + 1) < l.length + m.length + fr.getD i 0 then ([], 10) else (putL l (fr.getD i 0) i m, 0)) := by
  obtain ⟨hc1, hc2⟩ := hR.bound
  unfold maxLen at hc2
  obtain ⟨F, hP⟩ := pin_ok hb hbm i hi
  have hl64 := (begL_some hb).2.1
  have hai := hP.ai
  have htl := putL_len l m (fr.getD i 0) i hi hai
  have hsz := hP.size (l.length - 1) (by omega) (by omega)
  rw [hP.top] at hsz
  have hFT : Fit (putL l (fr.getD i 0) i m) := ⟨by omega, fun x hx => by have := (hsz.2 x hx).1; omega, names_put _ _ hF.fit.name hFm.fit.name⟩
  have CC : Sld (Calls Tryd.prog 12 #[.slice ao l.length cap] w fun e w' => e = .returned (.int .i64 0) ∧ Below w.heap.size w w') := ⟨rchkR hR hF.fit 0 (chkE_yes (by simp [sndB, hb]))⟩
  have CM : Sld (∀ W, Below w.heap.size w W → Calls Tryd.prog 12 #[.slice bo m.length cb] W fun e w' => e = .returned (.int .i64 0) ∧ Below W.heap.size W w') := ⟨fun W hW => rchkR (hRm.below hW hW.size) hFm.fit 0 (chkE_yes (by simp [sndB, hbm]))⟩
  have hl0 := (begL_some hb).1
  obtain ⟨T, hT⟩ : ∃ T, putL l (fr.getD i 0) i m = T := ⟨_, rfl⟩
  have CI : Sld (∀ W, Below w.heap.size w W → Calls Tryd.prog 50 #[.slice ao l.length cap, .int .i64 ((l.length : Int) - 1), .int .i64 i, .slice bo m.length cb] W fun e w' => ∃ to tc, e = .returned (.slice to T.length tc) ∧ Rd w' to tc T ∧ Below W.heap.size W w') := ⟨fun W hW => by
    have h1 := putIn_any (.slice ao l.length cap) (.slice bo m.length cb) l m (fr.getD i 0) i F hP hl64 (l.length - 1) (by omega) (by omega) W (hR.below hW hW.size) (hRm.below hW hW.size)
    rw [hP.top, hT] at h1
    have e : ((l.length - 1 : Nat) : Int) = (l.length : Int) - 1 := by omega
    rw [e] at h1
    refine h1.mono fun e w' ⟨v', h2, h3, h4⟩ => ?_
    have h5 := h3.nodes (Nodes.below (hRm.below hW hW.size) h4 h4.size)
    obtain ⟨to, tc, rfl, h6⟩ := id h5
    exact ⟨to, tc, h2, h5, h4⟩⟩
  have hT9 : T.length ≤ 128 := by rw [← hT]; exact hsz.1
  have CY : Sld (∀ W to tc, Rd W to tc T → Calls Tryd.prog 11 #[.slice to T.length tc] W fun e w' => ∃ ao' cap', e = .returned (.slice ao' T.length cap') ∧ Rd w' ao' cap' T ∧ Below W.heap.size W w') := ⟨fun W to tc h => copyR h (by rw [← hT]; exact hFT)⟩
  rw [hT]
  rw [hT] at htl
  by_cases hlg : 64 + (i + 1) < l.length + m.length + fr.getD i 0
  · rw [if_pos hlg]
    have hTg : 64 < (T.length : Int) := by omega
    clear hb hR hF hbm hRm hFm hP hsz hFT hT htl hlg hai
    go_enter Tryd.func17, Tryd.ntmps17
    go_wp2_with fail
    refine CC.out.mono ?_
    rintro e w2 ⟨rfl, hb2⟩
    have HB2 : Sld (Below w.heap.size w w2) := ⟨hb2⟩
    clear hb2
    go_wp2_with fail
    refine (CM.out w2 HB2.out).mono ?_
    rintro e w3 ⟨rfl, hb3⟩
    have HB3 : Sld (Below w.heap.size w w3) := ⟨HB2.out.trans (hb3.mono HB2.out.size)⟩
    clear hb3
    go_wp2_with fail
    refine (CI.out w3 HB3.out).mono ?_
    rintro e w4 ⟨to, tc, rfl, hT4, hb4⟩
    have HB4 : Sld (Below w.heap.size w w4) := ⟨HB3.out.trans (hb4.mono HB3.out.size)⟩
    clear hb4
    go_wp2_with fail
    go_ret2
    exact AnsL.no rfl HB4.out
  · rw [if_neg hlg]
    have hTg : ¬ 64 < (T.length : Int) := by omega
    clear hb hR hF hbm hRm hFm hP hsz hFT hT htl hlg hai
    go_enter Tryd.func17, Tryd.ntmps17
    go_wp2_with fail
    refine CC.out.mono ?_
    rintro e w2 ⟨rfl, hb2⟩
    have HB2 : Sld (Below w.heap.size w w2) := ⟨hb2⟩
    clear hb2
    go_wp2_with fail
    refine (CM.out w2 HB2.out).mono ?_
    rintro e w3 ⟨rfl, hb3⟩
    have HB3 : Sld (Below w.heap.size w w3) := ⟨HB2.out.trans (hb3.mono HB2.out.size)⟩
    clear hb3
    go_wp2_with fail
    refine (CI.out w3 HB3.out).mono ?_
    rintro e w4 ⟨to, tc, rfl, hT4, hb4⟩
    have HB4 : Sld (Below w.heap.size w w4) := ⟨HB3.out.trans (hb4.mono HB3.out.size)⟩
    have HT4 : Sld (Rd w4 to tc T) := ⟨hT4⟩
    clear hb4 hT4
    go_wp2_with fail
    refine (CY.out w4 to tc HT4.out).mono ?_
    rintro e w5 ⟨ao', cap', rfl, hT5, hb5⟩
    have HB5 : Sld (Below w.heap.size w w5) := ⟨HB4.out.trans (hb5.mono HB4.out.size)⟩
    have HT5 : Sld (Rd w5 ao' cap' T) := ⟨hT5⟩
    clear hb5 hT5
    go_wp2_with fail
    go_ret2
    exact ⟨ao', cap', rfl, HT5.out, HB5.out⟩
theorem refPutE {w : World} {ao bo : Option Addr} {cap cb : Nat} {l m : List Nd} (h : Rd w ao cap l) (h2 : Rd w bo cb m) (hF : FitX l) (hFm : FitX m) (at_ : Int) :
    Calls Tryd.prog 17 #[.slice ao l.length cap, .int .i64 at_, .slice bo m.length cb] w fun e w' => AnsL w e w' (puE l at_ m) := by
  unfold puE
  cases hb : begL l with
  | none => exact (refPut_bad w ao bo cap cb l m at_ 1 h h2 hF hFm (.inl ⟨hb, rfl⟩)).mono fun e w' ⟨h1, h2⟩ => AnsL.no h1 h2
  | some fr =>
    cases hc : begL m with
    | none => exact (refPut_bad w ao bo cap cb l m at_ 1 h h2 hF hFm (.inr (.inl ⟨⟨fr, hb⟩, hc, rfl⟩))).mono fun e w' ⟨h1, h2⟩ => AnsL.no h1 h2
    | some fm =>
      simp only
      by_cases hat : at_ < 0 ∨ (l.length : Int) ≤ at_
      · rw [if_pos hat]
        exact (refPut_bad w ao bo cap cb l m at_ 2 h h2 hF hFm (.inr (.inr ⟨⟨fr, hb⟩, ⟨fm, hc⟩, hat, rfl⟩))).mono fun e w' ⟨h1, h2⟩ => AnsL.no h1 h2
      · rw [if_neg hat]
        have e : at_ = ((at_.toNat : Nat) : Int) := by omega
        have := refPut_in w ao bo cap cb l m fr fm at_.toNat h h2 hF hFm hb hc (by omega)
        rw [← e] at this
        exact this

set_option maxRecDepth 20000 in
set_option maxHeartbeats 2000000 in
theorem refDepthE {w : World} {ao : Option Addr} {cap : Nat} {l : List Nd} (h : Rd w ao cap l) (hF : Fit l) :
    Calls Tryd.prog 19 #[.slice ao l.length cap] w fun e w' => e = .returned (.tuple #[.int .i64 ((dpE l).1 : Nat), .int .i64 (dpE l).2]) ∧ Below w.heap.size w w' := by
  obtain ⟨hc1, hc2⟩ := h.bound
  unfold maxLen at hc2
  unfold dpE
  cases hb : begL l with
  | none =>
    simp only
    have CC : Sld (Calls Tryd.prog 12 #[.slice ao l.length cap] w fun e w' => e = .returned (.int .i64 1) ∧ Below w.heap.size w w') := ⟨rchkR h hF 1 (chkE_no (by simp [sndB, hb]))⟩
    clear hb h hF
    go_enter Tryd.func19, Tryd.ntmps19
    go_wp2_with fail
    refine CC.out.mono ?_
    rintro e w2 ⟨rfl, hb2⟩
    go_wp2_with fail
    go_ret2
    exact ⟨rfl, hb2⟩
  | some fr =>
    simp only
    have hl0 := (begL_some hb).1
    have hok := begOk_of (begL_some hb).2.2.1
    have CC : Sld (Calls Tryd.prog 12 #[.slice ao l.length cap] w fun e w' => e = .returned (.int .i64 0) ∧ Below w.heap.size w w') := ⟨rchkR h hF 0 (chkE_yes (by simp [sndB, hb]))⟩
    obtain ⟨D, hD⟩ : ∃ D, (dpR [] l).getD (l.length - 1) 0 = D := ⟨_, rfl⟩
    have CD : Sld (∀ W, Below w.heap.size w W → Calls Tryd.prog 51 #[.slice ao l.length cap, .int .i64 ((l.length : Int) - 1)] W fun e w' => e = .returned (.int .i64 (D : Nat)) ∧ w' = W) := ⟨fun W hW => by
      have := refDepthAt_any (.slice ao l.length cap) l W W.heap.size (h.below hW hW.size) (snd_bounds hb).1 (fun i hi => formB_kids (hok.at_ i hi).1) (ok_kids_lt hok) (small_dpR l [] (by intro j; simp) (fun j hj k hk => by have := ok_kids_lt hok j hj k hk; simpa using this)) (l.length - 1) (by omega)
      rw [hD] at this
      have e : ((l.length - 1 : Nat) : Int) = (l.length : Int) - 1 := by omega
      rw [e] at this
      exact this⟩
    rw [hD]
    clear hb h hF hD hok
    go_enter Tryd.func19, Tryd.ntmps19
    go_wp2_with fail
    refine CC.out.mono ?_
    rintro e w2 ⟨rfl, hb2⟩
    have HB2 : Sld (Below w.heap.size w w2) := ⟨hb2⟩
    clear hb2
    go_wp2_with fail
    refine (CD.out w2 HB2.out).mono ?_
    rintro e w3 ⟨rfl, rfl⟩
    go_wp2_with fail
    go_ret2
    exact ⟨rfl, HB2.out⟩
end Go.Proofs.YtkdcjkhpbbcncaaDoor
