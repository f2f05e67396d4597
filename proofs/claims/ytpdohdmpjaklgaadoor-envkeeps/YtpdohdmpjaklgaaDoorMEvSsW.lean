/-
  EnvSets, walked: what was set is got, all else is as it was; set to what it is nothing changes; two names can be set in either order.
-/
import Derived.Test.YtpdohdmpjaklgaaDoorMEvSetW
set_option linter.unusedSimpArgs false
set_option linter.unusedVariables false
namespace Go.Proofs.YtpdohdmpjaklgaaDoor
open Go.RowKit Go.Lib Go.Sort

abbrev Rch (l : List Bd) : Prop := l.length * 24 ≤ 140737488355328
theorem copiedR (ao : Option Addr) (cap : Nat) (l : List Bd) (hr : Rch l) (w : World) (hI : Bds w ao cap l) :
    Calls Tryd.prog 10 #[.slice ao l.length cap] w fun e W' => (∃ ao' cap', e = .returned (.slice ao' l.length cap') ∧ Bds W' ao' cap' l) ∧ Below w.heap.size w W' := by
  refine (copied_any ao cap l hr w hI).mono ?_
  rintro e W' ⟨⟨v, rfl, ho⟩, hb⟩
  obtain ⟨a, c, rfl, hR, _⟩ := ho.read
  exact ⟨⟨a, c, rfl, hR⟩, hb⟩
theorem setOK (ao : Option Addr) (cap : Nat) (l m : List Bd) (nm : ByteArray) (n : Int) (he : setE l nm = 0) (hm : setB l nm n = m) (hr : Rch l) (w : World) (hT : SpanCells w) (hI : Bds w ao cap l) :
    Calls Tryd.prog 12 #[.slice ao l.length cap, .string nm, .int .i64 n] w fun e W' => (∃ ao' cap', e = .returned (.tuple #[.slice ao' m.length cap', .int .i64 0]) ∧ Bds W' ao' cap' m) ∧ Below w.heap.size w W' := by
  refine (set_any ao cap l nm n hr w hT hI).mono ?_
  rintro e W' ⟨⟨v, rfl, ho⟩, hb⟩
  have e : setR l nm n = (m, 0) := by unfold setR; rw [he, if_pos rfl, hm]
  rw [e] at ho ⊢
  obtain ⟨a, c, rfl, hR, _⟩ := ho.read
  exact ⟨⟨a, c, rfl, hR⟩, hb⟩
theorem setBAD (ao : Option Addr) (cap : Nat) (l : List Bd) (nm : ByteArray) (n er : Int) (he : setE l nm = er) (h0 : er ≠ 0) (hr : Rch l) (w : World) (hT : SpanCells w) (hI : Bds w ao cap l) :
    Calls Tryd.prog 12 #[.slice ao l.length cap, .string nm, .int .i64 n] w fun e W' => (∃ ao' cap', e = .returned (.tuple #[.slice ao' 0 cap', .int .i64 er])) ∧ Below w.heap.size w W' := by
  refine (set_any ao cap l nm n hr w hT hI).mono ?_
  rintro e W' ⟨⟨v, rfl, ho⟩, hb⟩
  have e : setR l nm n = ([], er) := by unfold setR; rw [he, if_neg h0]
  rw [e] at ho ⊢
  obtain ⟨a, c, rfl, hR, _⟩ := ho.read
  exact ⟨⟨a, c, rfl⟩, hb⟩

/-! ### plainly -/
theorem setE_cases (l : List Bd) (nm : ByteArray) : (nameB nm = false ∧ setE l nm = 7) ∨ (nameB nm = true ∧ 64 ≤ l.length ∧ lastB l nm < 0 ∧ setE l nm = 10) ∨ (nameB nm = true ∧ setE l nm = 0 ∧ (l.length < 64 ∨ 0 ≤ lastB l nm)) := by
  unfold setE
  cases hn : nameB nm
  · left; simp
  · right
    by_cases h : lastB l nm < 0 ∧ 64 ≤ l.length
    · left; exact ⟨rfl, h.2, h.1, by simp [h]⟩
    · right; refine ⟨rfl, by simp [h], by omega⟩
theorem setE_of (l : List Bd) (nm : ByteArray) (hn : nameB nm = true) (h : l.length < 64 ∨ 0 ≤ lastB l nm) : setE l nm = 0 := by
  unfold setE; rw [if_neg (by simp [hn]), if_neg (by omega)]
theorem rch_set (l : List Bd) (nm : ByteArray) (n : Int) (hr : Rch l) (h : l.length < 64 ∨ 0 ≤ lastB l nm) : Rch (setB l nm n) := by
  unfold Rch at *
  rw [setB_len]
  split <;> omega
structure SsP (l A : List Bd) (nm : ByteArray) (n : Int) : Prop where
  eA : setE l nm = 0
  hA : setB l nm n = A
  nmB : nameB nm = true
  rA : Rch A
  get : getB A nm = n
  oth : ∀ o, o ≠ nm → getB A o = getB l o
  len1 : l.length ≤ A.length
  len2 : A.length ≤ l.length + 1
  eA2 : setE A nm = 0
  again : setB A nm n = A
  las : ∀ o, lastB A o = if lastB l nm < 0 ∧ o = nm then (l.length : Int) else lastB l o
  lenA : A.length = if lastB l nm < 0 then l.length + 1 else l.length
  lt : l.length < 64 ∨ 0 ≤ lastB l nm
theorem ssp (l : List Bd) (nm : ByteArray) (n : Int) (hr : Rch l) (hn : nameB nm = true) (h : l.length < 64 ∨ 0 ≤ lastB l nm) : SsP l (setB l nm n) nm n := by
  have hlas := fun o => setB_last l nm o n
  have hlen := setB_len l nm n
  refine ⟨setE_of l nm hn h, rfl, hn, rch_set l nm n hr h, by rw [setB_get, if_pos rfl], fun o ho => by rw [setB_get, if_neg ho], by rw [hlen]; split <;> omega, by rw [hlen]; split <;> omega, setE_of _ nm hn ?_, setB_again l nm n, hlas, hlen, h⟩
  right
  rw [hlas nm]
  by_cases hx : lastB l nm < 0
  · rw [if_pos ⟨hx, rfl⟩]; omega
  · rw [if_neg (fun hh => hx hh.1)]; omega
/-- Two names, in either order. -/
theorem ssp2 {l A : List Bd} {nm o : ByteArray} {n m : Int} (h : SsP l A nm n) (hr : Rch l) (hne : o ≠ nm) (hno : nameB o = true) (hB : A.length < 64 ∨ 0 ≤ lastB A o) :
    SsP A (setB A o m) o m ∧ SsP l (setB l o m) o m ∧ SsP (setB l o m) (setB (setB l o m) nm n) nm n ∧ (setB A o m).length = (setB (setB l o m) nm n).length ∧ getB (setB A o m) nm = n ∧ getB (setB (setB l o m) nm n) o = m := by
  have hl := h.las o
  rw [if_neg (fun hh => hne hh.2)] at hl
  have hlA := h.lenA
  have h1 : SsP A (setB A o m) o m := ssp A o m h.rA hno hB
  have hc : l.length < 64 ∨ 0 ≤ lastB l o := by
    rcases hB with hB | hB
    · left; have := h.len1; omega
    · right; omega
  have h2 : SsP l (setB l o m) o m := ssp l o m hr hno hc
  have hl2 := h2.las nm
  rw [if_neg (fun hh => hne hh.2.symm)] at hl2
  have hd : (setB l o m).length < 64 ∨ 0 ≤ lastB (setB l o m) nm := by
    rw [hl2]
    by_cases hx : lastB l nm < 0
    · left
      have e2 := h2.lenA
      rw [if_pos hx] at hlA
      rcases h.lt with g | g
      · by_cases hy : lastB l o < 0
        · rw [if_pos hy] at e2
          rcases hB with k | k <;> omega
        · rw [if_neg hy] at e2; omega
      · omega
    · right; omega
  have h3 : SsP (setB l o m) (setB (setB l o m) nm n) nm n := ssp _ nm n h2.rA h.nmB hd
  refine ⟨h1, h2, h3, ?_, ?_, ?_⟩
  · rw [h1.lenA, h3.lenA, hl2, h2.lenA, hlA, hl]
    split <;> split <;> omega
  · rw [h1.oth nm (fun e => hne e.symm), h.get]
  · rw [h3.oth o hne, h2.get]

set_option maxRecDepth 100000 in
set_option maxHeartbeats 4000000 in
theorem sets.walk (w : World) (ao : Option Addr) (cap : Nat) (l : List Bd) (nm o : ByteArray) (n m : Int) (hT : SpanCells w) (hI : Bds w ao cap l) (hr : Rch l) (hsz : nm.size ≤ maxLen) :
    Calls Tryd.prog 6 #[.slice ao l.length cap, .string nm, .string o, .int .i64 n, .int .i64 m] w fun e W' => e = .returned (.bool true) ∧ Below w.heap.size w W' := by
  obtain ⟨⟨hl, hm, _⟩, _⟩ := id hI
  unfold maxLen at hm
  have HI : Hid (Bds w ao cap l) := hI
  have HT : Hid (SpanCells w) := hT
  clear hI hT
  have hbt := eq_toList o nm
  rcases setE_cases l nm with ⟨hn, hE⟩ | ⟨hn, h64, hlt, hE⟩ | ⟨hn, hE, hlt⟩
  · have HN : Hid (∀ W, Calls Tryd.prog 19 #[.string nm] W fun e w' => e = .returned (.bool false) ∧ Below W.heap.size W w') := fun W => by rw [← hn]; exact refName_any nm W hsz
    have HE : Hid (setE l nm = 7) := hE
    clear hn hE
    go_enter Tryd.func6, Tryd.ntmps6
    go_wp2_with fail
    refine (awake_any _).mono ?_
    rintro e w1 ⟨rfl, b1⟩
    go_wp2_with fail
    refine (copiedR ao cap l hr _ (HI.out.below b1)).mono ?_
    rintro e w2 ⟨⟨a2, c2, rfl, R2⟩, b2⟩
    have T2 := (HT.out.below b1).below b2
    go_wp2_with fail
    refine (setBAD a2 c2 l nm n 7 HE.out (by decide) hr _ T2 R2).mono ?_
    rintro e w3 ⟨⟨a3, c3, rfl⟩, b3⟩
    go_wp2_with fail
    refine (HN.out _).mono ?_
    rintro e w4 ⟨rfl, b4⟩
    go_wp2
    go_ret
    exact ⟨rfl, b1.trans ((b2.trans ((b3.trans (b4.mono b3.size)).mono b2.size)).mono b1.size)⟩
  · have HN : Hid (∀ W, Calls Tryd.prog 19 #[.string nm] W fun e w' => e = .returned (.bool true) ∧ Below W.heap.size W w') := fun W => by rw [← hn]; exact refName_any nm W hsz
    have HE : Hid (setE l nm = 10) := hE
    have hg : (64 : Int) ≤ (l.length : Int) := by omega
    clear hn hE hlt
    go_enter Tryd.func6, Tryd.ntmps6
    go_wp2_with fail
    refine (awake_any _).mono ?_
    rintro e w1 ⟨rfl, b1⟩
    go_wp2_with fail
    refine (copiedR ao cap l hr _ (HI.out.below b1)).mono ?_
    rintro e w2 ⟨⟨a2, c2, rfl, R2⟩, b2⟩
    have T2 := (HT.out.below b1).below b2
    go_wp2_with fail
    refine (setBAD a2 c2 l nm n 10 HE.out (by decide) hr _ T2 R2).mono ?_
    rintro e w3 ⟨⟨a3, c3, rfl⟩, b3⟩
    go_wp2_with fail
    refine (HN.out _).mono ?_
    rintro e w4 ⟨rfl, b4⟩
    go_wp2
    go_ret
    exact ⟨rfl, b1.trans ((b2.trans ((b3.trans (b4.mono b3.size)).mono b2.size)).mono b1.size)⟩
  · have S0 := ssp l nm n hr hn hlt
    generalize setB l nm n = A at *
    have HS : Hid (SsP l A nm n) := S0
    have hA1 : ¬ (A.length : Int) < (l.length : Int) := by have := S0.len1; omega
    have hA2 : ¬ (l.length : Int) + 1 < (A.length : Int) := by have := S0.len2; omega
    clear S0 hE hn hlt
    go_enter Tryd.func6, Tryd.ntmps6
    go_wp2_with fail
    refine (awake_any _).mono ?_
    rintro e w1 ⟨rfl, b1⟩
    go_wp2_with fail
    refine (copiedR ao cap l hr _ (HI.out.below b1)).mono ?_
    rintro e w2 ⟨⟨a2, c2, rfl, R2⟩, b2⟩
    have T2 := (HT.out.below b1).below b2
    go_wp2_with fail
    refine (setOK a2 c2 l A nm n HS.out.eA HS.out.hA hr _ T2 R2).mono ?_
    rintro e w3 ⟨⟨aA, cA, rfl, RA⟩, b3⟩
    have T3 := T2.below b3
    have G3 := b1.trans ((b2.trans (b3.mono b2.size)).mono b1.size)
    have HG3 : Hid (Below w.heap.size w w3) := G3
    have HT3 : Hid (SpanCells w3) := T3
    have HRA : Hid (Bds w3 aA cA A) := RA
    clear b1 b2 b3 T2 T3 R2 RA G3
    by_cases ho : o = nm
    · rw [decide_eq_true ho] at hbt
      have HO : Hid (o = nm) := ho
      clear ho
      go_wp2_with fail
      refine (get_any aA cA A nm HS.out.rA _ HRA.out).mono ?_
      rw [HS.out.get]
      rintro e w4 ⟨rfl, b4⟩
      go_wp2_with fail
      refine (copiedR aA cA A HS.out.rA _ (HRA.out.below b4)).mono ?_
      rintro e w5 ⟨⟨a5, c5, rfl, R5⟩, b5⟩
      go_wp2_with fail
      refine (setOK a5 c5 A A nm n HS.out.eA2 HS.out.again HS.out.rA _ ((HT3.out.below b4).below b5) R5).mono ?_
      rintro e w6 ⟨⟨a6, c6, rfl, R6⟩, b6⟩
      go_wp2_with fail
      refine (same_any a6 aA c6 cA A A _ R6 (((HRA.out.below b4).below b5).below b6)).mono ?_
      rw [decide_eq_true rfl]
      rintro e w7 ⟨rfl, b7⟩
      go_wp2_with fail
      refine (copiedR aA cA A HS.out.rA _ ((((HRA.out.below b4).below b5).below b6).below b7)).mono ?_
      rintro e w8 ⟨⟨a8, c8, rfl, R8⟩, b8⟩
      have T8 := ((((HT3.out.below b4).below b5).below b6).below b7).below b8
      have G8 := HG3.out.trans ((b4.trans ((b5.trans ((b6.trans ((b7.trans (b8.mono b7.size)).mono b6.size)).mono b5.size)).mono b4.size)).mono HG3.out.size)
      obtain ⟨M, hM⟩ : ∃ M, setB A o m = M := ⟨_, rfl⟩
      have HM : Hid (setB A o m = M) := hM
      have HE2 : Hid (setE A o = 0) := by show _ = _; rw [HO.out]; exact HS.out.eA2
      clear hM
      go_wp2_with fail
      refine (setOK a8 c8 A M o m HE2.out HM.out HS.out.rA _ T8 R8).mono ?_
      rintro e w9 ⟨⟨a9, c9, rfl, R9⟩, b9⟩
      go_wp2
      go_ret
      exact ⟨rfl, G8.trans (b9.mono G8.size)⟩
    · rw [decide_eq_false ho] at hbt
      have HO : Hid (¬ o = nm) := ho
      clear ho
      go_wp2_with fail
      refine (get_any aA cA A nm HS.out.rA _ HRA.out).mono ?_
      rw [HS.out.get]
      rintro e w4 ⟨rfl, b4⟩
      obtain ⟨g, hg⟩ : ∃ g, getB l o = g := ⟨_, rfl⟩
      have hgA : getB A o = g := (HS.out.oth o HO.out).trans hg
      have HgA : Hid (getB A o = g) := hgA
      have Hg : Hid (getB l o = g) := hg
      clear hg hgA
      go_wp2_with fail
      refine (get_any aA cA A o HS.out.rA _ (HRA.out.below b4)).mono ?_
      rw [HgA.out]
      rintro e w4' ⟨rfl, b4'⟩
      have G4 := HG3.out.trans ((b4.trans (b4'.mono b4.size)).mono HG3.out.size)
      have RA4 := (HRA.out.below b4).below b4'
      have T4 := (HT3.out.below b4).below b4'
      go_wp2_with fail
      refine (copiedR ao cap l hr _ (HI.out.below G4)).mono ?_
      rintro e w5 ⟨⟨a5, c5, rfl, R5⟩, b5⟩
      go_wp2_with fail
      refine (get_any a5 c5 l o hr _ R5).mono ?_
      rw [Hg.out]
      rintro e w6 ⟨rfl, b6⟩
      have G6 := G4.trans ((b5.trans (b6.mono b5.size)).mono G4.size)
      have RA6 := (RA4.below b5).below b6
      have T6 := (T4.below b5).below b6
      have HG6 : Hid (Below w.heap.size w w6) := G6
      have HRA6 : Hid (Bds w6 aA cA A) := RA6
      have HT6 : Hid (SpanCells w6) := T6
      clear G4 G6 b4 b4' b5 b6 RA4 RA6 T4 T6 R5
      go_wp2_with fail
      refine (copiedR aA cA A HS.out.rA _ HRA6.out).mono ?_
      rintro e w7 ⟨⟨a7, c7, rfl, R7⟩, b7⟩
      go_wp2_with fail
      refine (setOK a7 c7 A A nm n HS.out.eA2 HS.out.again HS.out.rA _ (HT6.out.below b7) R7).mono ?_
      rintro e w8 ⟨⟨a8, c8, rfl, R8⟩, b8⟩
      go_wp2_with fail
      refine (same_any a8 aA c8 cA A A _ R8 ((HRA6.out.below b7).below b8)).mono ?_
      rw [decide_eq_true rfl]
      rintro e w9 ⟨rfl, b9⟩
      go_wp2_with fail
      refine (copiedR aA cA A HS.out.rA _ (((HRA6.out.below b7).below b8).below b9)).mono ?_
      rintro e w10 ⟨⟨a10, c10, rfl, R10⟩, b10⟩
      have T10 := (((HT6.out.below b7).below b8).below b9).below b10
      have G10 := HG6.out.trans ((b7.trans ((b8.trans ((b9.trans (b10.mono b9.size)).mono b8.size)).mono b7.size)).mono HG6.out.size)
      have HG10 : Hid (Below w.heap.size w w10) := G10
      have HT10 : Hid (SpanCells w10) := T10
      clear G10 T10 b7 b8 b9 b10 R7 R8
      rcases setE_cases A o with ⟨hn2, hE2⟩ | ⟨hn2, h642, hlt2, hE2⟩ | ⟨hn2, hE2, hlt2⟩
      · have HE2 : Hid (setE A o = 7) := hE2
        clear hn2 hE2
        go_wp2_with fail
        refine (setBAD a10 c10 A o m 7 HE2.out (by decide) HS.out.rA _ HT10.out R10).mono ?_
        rintro e w11 ⟨⟨a11, c11, rfl⟩, b11⟩
        go_wp2
        go_ret
        exact ⟨rfl, HG10.out.trans (b11.mono HG10.out.size)⟩
      · have HE2 : Hid (setE A o = 10) := hE2
        clear hn2 hE2 h642 hlt2
        go_wp2_with fail
        refine (setBAD a10 c10 A o m 10 HE2.out (by decide) HS.out.rA _ HT10.out R10).mono ?_
        rintro e w11 ⟨⟨a11, c11, rfl⟩, b11⟩
        go_wp2
        go_ret
        exact ⟨rfl, HG10.out.trans (b11.mono HG10.out.size)⟩
      · have S1 := ssp2 (m := m) HS.out hr HO.out hn2 hlt2
        obtain ⟨P1, P2, P3, q1, q2, q3⟩ := S1
        generalize setB A o m = B at *
        generalize setB l o m = C at *
        generalize setB C nm n = D at *
        have HP1 : Hid (SsP A B o m) := P1
        have HP2 : Hid (SsP l C o m) := P2
        have HP3 : Hid (SsP C D nm n) := P3
        have HQ : Hid (B.length = D.length ∧ getB B nm = n ∧ getB D o = m) := ⟨q1, q2, q3⟩
        have hlen : ((B.length : Int) == (D.length : Int)) = true := by rw [q1]; simp
        clear P1 P2 P3 q1 q2 q3 hn2 hE2 hlt2
        go_wp2_with fail
        refine (setOK a10 c10 A B o m HP1.out.eA HP1.out.hA HS.out.rA _ HT10.out R10).mono ?_
        rintro e w11 ⟨⟨aB, cB, rfl, RB⟩, b11⟩
        have G11 := HG10.out.trans (b11.mono HG10.out.size)
        go_wp2_with fail
        refine (copiedR ao cap l hr _ (HI.out.below G11)).mono ?_
        rintro e w12 ⟨⟨a12, c12, rfl, R12⟩, b12⟩
        go_wp2_with fail
        refine (setOK a12 c12 l C o m HP2.out.eA HP2.out.hA hr _ ((HT10.out.below b11).below b12) R12).mono ?_
        rintro e w13 ⟨⟨aC, cC, rfl, RC⟩, b13⟩
        go_wp2_with fail
        refine (copiedR aC cC C HP2.out.rA _ RC).mono ?_
        rintro e w14 ⟨⟨a14, c14, rfl, R14⟩, b14⟩
        go_wp2_with fail
        refine (setOK a14 c14 C D nm n HP3.out.eA HP3.out.hA HP2.out.rA _ ((((HT10.out.below b11).below b12).below b13).below b14) R14).mono ?_
        rintro e w15 ⟨⟨aD, cD, rfl, RD⟩, b15⟩
        have G15 := G11.trans ((b12.trans ((b13.trans ((b14.trans (b15.mono b14.size)).mono b13.size)).mono b12.size)).mono G11.size)
        have RB15 := (((RB.below b12).below b13).below b14).below b15
        have HG15 : Hid (Below w.heap.size w w15) := G15
        have HRB : Hid (Bds w15 aB cB B) := RB15
        have HRD : Hid (Bds w15 aD cD D) := RD
        clear G11 G15 b11 b12 b13 b14 b15 RB RB15 RD RC R12 R14 R10
        go_wp2_with fail
        refine (get_any aB cB B nm HP1.out.rA _ HRB.out).mono ?_
        rw [HQ.out.2.1]
        rintro e w16 ⟨rfl, b16⟩
        go_wp2_with fail
        refine (get_any aD cD D nm HP3.out.rA _ (HRD.out.below b16)).mono ?_
        rw [HP3.out.get]
        rintro e w17 ⟨rfl, b17⟩
        go_wp2_with fail
        refine (get_any aB cB B o HP1.out.rA _ ((HRB.out.below b16).below b17)).mono ?_
        rw [HP1.out.get]
        rintro e w18 ⟨rfl, b18⟩
        go_wp2_with fail
        refine (get_any aD cD D o HP3.out.rA _ (((HRD.out.below b16).below b17).below b18)).mono ?_
        rw [HQ.out.2.2]
        rintro e w19 ⟨rfl, b19⟩
        go_wp2
        go_ret
        exact ⟨rfl, HG15.out.trans ((b16.trans ((b17.trans ((b18.trans (b19.mono b18.size)).mono b17.size)).mono b16.size)).mono HG15.out.size)⟩
end Go.Proofs.YtpdohdmpjaklgaaDoor
