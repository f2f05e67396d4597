/-
  EvalNames, walked.
-/
import Derived.Test.YtkgfcamlfnlpoaaDoorEwLwW
import Derived.Test.YtkgfcamlfnlpoaaDoorEwNmP
import Derived.Deep.RegionHeld3
set_option linter.unusedSimpArgs false
set_option linter.unusedVariables false
namespace Go.Proofs.YtkgfcamlfnlpoaaDoor
open Go.RowKit Go.Lib Go.Sort

theorem news4W (w : World) (a b c d : Value) (t : TypeId) : ∀ j u, [a, b, c, d][j]? = some u → (w.alloc (.cells #[a, b, c, d] t)).cell? ((⟨w.heap.size, 0, none⟩ : Addr).add j) = some u := by
  intro j u hj
  match j, hj with
  | 0, hj => simp at hj; subst hj; simp [Addr.add]
  | 1, hj => simp at hj; subst hj; simp [Addr.add]
  | 2, hj => simp at hj; subst hj; simp [Addr.add]
  | 3, hj => simp at hj; subst hj; simp [Addr.add]

set_option maxRecDepth 20000 in
set_option maxHeartbeats 2000000 in
theorem evNames.bad (w : World) (ao : Option Addr) (cap : Nat) (l : List Nd) (eo : Option Addr) (ec : Nat) (bs : List Bd) (mo : ByteArray) (n : Int) (h : EvIn w ao cap l eo ec bs) (hF : Fit l) (hbg : begL l = none) :
    Calls Tryd.prog 6 #[.slice ao l.length cap, .slice eo bs.length ec, .string mo, .int .i64 n] w fun e w' => e = .returned (.bool true) ∧ Below w.heap.size w w' := by
  have HH : Hid (EvIn w ao cap l eo ec bs) := h
  have HBG : Hid (begL l = none) := hbg
  clear h hbg
  go_enter Tryd.func6, Tryd.ntmps6
  go_wp2_with fail
  refine (awake8_any w HH.out.T HH.out.G).mono ?_
  rintro e w1 ⟨rfl, hb1⟩
  have B1 : Hid (Below w.heap.size w w1) := hb1
  clear hb1
  go_wp2_with fail
  refine (copyR (HH.out.below B1.out).R hF).mono ?_
  rintro e w2 ⟨a2, c2, rfl, hR2, hb2⟩
  have B2 : Hid (Below w.heap.size w w2) := B1.out.trans (hb2.mono B1.out.size)
  have R2 : Hid (Rd w2 a2 c2 l) := hR2
  clear hR2 hb2 B1
  go_wp2_with fail
  refine (vars_none _ l _ _ (Nat.le_refl _) (HH.out.below B2.out).T R2.out HBG.out).mono ?_
  rintro e w3 ⟨rfl, hb3⟩
  have B3 : Hid (Below w.heap.size w w3) := B2.out.trans (hb3.mono B2.out.size)
  clear hb3 B2 R2
  go_wp2_with fail
  refine (copyR (HH.out.below B3.out).R hF).mono ?_
  rintro e w4 ⟨a4, c4, rfl, hR4, hb4⟩
  have B4 : Hid (Below w.heap.size w w4) := B3.out.trans (hb4.mono B3.out.size)
  have R4 : Hid (Rd w4 a4 c4 l) := hR4
  clear hR4 hb4 B3
  go_wp2_with fail
  refine (check_none _ l _ _ (Nat.le_refl _) (HH.out.below B4.out).T R4.out HBG.out).mono ?_
  rintro e w5 ⟨rfl, hb5⟩
  have B5 : Hid (Below w.heap.size w w5) := B4.out.trans (hb5.mono B4.out.size)
  clear hb5 B4 R4
  go_wp2_with fail
  go_ret
  exact ⟨rfl, B5.out⟩

set_option maxRecDepth 20000 in
set_option maxHeartbeats 4000000 in
theorem evNames.good (w : World) (ao : Option Addr) (cap : Nat) (l : List Nd) (eo : Option Addr) (ec : Nat) (bs : List Bd) (mo : ByteArray) (n : Int) (h : EvIn w ao cap l eo ec bs) (hT : Tabs w) (hF : Fit l) (fr : List Nat) (hbg : begL l = some fr) :
    Calls Tryd.prog 6 #[.slice ao l.length cap, .slice eo bs.length ec, .string mo, .int .i64 n] w fun e w' => e = .returned (.bool true) ∧ Below w.heap.size w w' := by
  obtain ⟨i0, hi0, hz0, hz1, hz2⟩ := info_parts Tryd.infoBind
  have HH : Hid (EvIn w ao cap l eo ec bs) := h
  have HT : Hid (Tabs w) := hT
  have HBG : Hid (begL l = some fr) := hbg
  have HCH : Hid (∀ s ∈ vsL l, (chk s).2 = 0) := snd_chkW hbg
  have h64 := (begL_some hbg).2.1
  have cE : Hid (∀ V a c a' c' (b : List Bd), b.length * 24 ≤ 140737488355328 → Below w.heap.size w V → Rd V a c l → Bds V a' c' b → Calls Tryd.prog 24 #[.slice a l.length c, .slice a' b.length c'] V fun e w' => e = .returned (.tuple #[.int .i64 (evA b l).1, .int .i64 (evA b l).2]) ∧ Below V.heap.size V w') := fun V a c a' c' b hr hV hR hB => eval_any ⟨(h.below hV).T, (h.below hV).G, hR, hB, hr⟩
  clear h hbg hT
  go_enter Tryd.func6, Tryd.ntmps6
  go_wp2_with fail
  refine (awake8_any w HH.out.T HH.out.G).mono ?_
  rintro e w1 ⟨rfl, hb1⟩
  have B1 : Hid (Below w.heap.size w w1) := hb1
  clear hb1
  go_wp2_with fail
  refine (copyR (HH.out.below B1.out).R hF).mono ?_
  rintro e w2 ⟨a2, c2, rfl, hR2, hb2⟩
  have B2 : Hid (Below w.heap.size w w2) := B1.out.trans (hb2.mono B1.out.size)
  have R2 : Hid (Rd w2 a2 c2 l) := hR2
  clear hR2 hb2 B1
  go_wp2_with fail
  refine (vars_some _ l fr _ _ (Nat.le_refl _) (HT.out.below B2.out) R2.out HBG.out HCH.out).mono ?_
  rintro e w3 ⟨na, nc, xs, rfl, hVr, hSt, hb3⟩
  have B3 : Hid (Below w.heap.size w w3) := B2.out.trans (hb3.mono B2.out.size)
  have VR : Hid (VrOf (vsL l) xs) := hVr
  have S3 : Hid (Strs w3 na nc xs) := hSt
  have hxl : xs.length ≤ 64 := by have := vr_len hVr; omega
  clear hb3 B2 R2 hVr hSt
  go_wp2_with fail
  refine (copyR (HH.out.below B3.out).R hF).mono ?_
  rintro e w4 ⟨a4, c4, rfl, hR4, hb4⟩
  have B4 : Hid (Below w.heap.size w w4) := B3.out.trans (hb4.mono B3.out.size)
  have R4 : Hid (Rd w4 a4 c4 l) := hR4
  have S4 : Hid (Strs w4 na nc xs) := S3.out.below hb4
  clear hR4 hb4 B3 S3
  go_wp2_with fail
  refine (copied8_rd HH.out.reach (HH.out.below B4.out).B).mono ?_
  rintro e w5 ⟨a5, c5, rfl, hB5, hb5⟩
  have B5 : Hid (Below w.heap.size w w5) := B4.out.trans (hb5.mono B4.out.size)
  have R5 : Hid (Rd w5 a4 c4 l) := R4.out.below hb5 hb5.size
  have S5 : Hid (Strs w5 na nc xs) := S4.out.below hb5
  have Q5 : Hid (Bds w5 a5 c5 bs) := hB5
  clear hB5 hb5 B4 R4 S4
  go_wp2_with fail
  refine (cE.out w5 a4 c4 a5 c5 bs HH.out.reach B5.out R5.out Q5.out).mono ?_
  rintro e w6 ⟨rfl, hb6⟩
  have B6 : Hid (Below w.heap.size w w6) := B5.out.trans (hb6.mono B5.out.size)
  have S6 : Hid (Strs w6 na nc xs) := S5.out.below hb6
  clear hb6 B5 R5 S5 Q5
  have hsm := S6.out.2.1
  unfold maxLen at hsm
  have hs61 := S6.out.1
  obtain ⟨x1, hx1⟩ : ∃ x1, (evA bs l).1 = x1 := ⟨_, rfl⟩
  obtain ⟨x2, hx2⟩ : ∃ x2, (evA bs l).2 = x2 := ⟨_, rfl⟩
  have HX : Hid (evA bs l = (x1, x2)) := by rw [Hid, ← hx1, ← hx2]
  rw [hx1, hx2]
  clear hx1 hx2
  go_wp2_with fail
  go_loopw [13, 14] (fun v q wr => ∃ j : Nat, j ≤ xs.length ∧ q = .int .i64 ((j : Int) - 1) ∧ OwnB wr w6.heap.size v (ownB bs mo n (xs.drop j)) ∧ Below w6.heap.size w6 wr) (fun _ q _ => (RowKit.intOf q + 1).toNat)
  case atStart => exact ⟨xs.length, by omega, by first | rfl | go_num, by rw [List.drop_length]; exact OwnB_nil _ _, Below.refl _ _⟩
  case round =>
    obtain ⟨j, hj, rfl, hown, hBr⟩ := hrel
    have BW : Hid (Below w.heap.size w wr) := B6.out.trans (hBr.mono B6.out.size)
    have HB0 : Hid (Below w6.heap.size w6 wr) := hBr
    have SW : Hid (Strs wr na nc xs) := S6.out.below hBr
    have hszr : w6.heap.size ≤ wr.heap.size := hBr.size
    obtain ⟨va, vc, rfl⟩ := hown.form
    have HOWN : Hid (OwnB wr w6.heap.size (.slice va (ownB bs mo n (xs.drop j)).length vc) (ownB bs mo n (xs.drop j))) := hown
    have hol := ownB_len bs mo n (xs.drop j)
    rw [List.length_drop] at hol
    clear hBr hown
    by_cases hj0 : 0 < j
    · obtain ⟨i, rfl⟩ : ∃ i, j = i + 1 := ⟨j - 1, by omega⟩
      obtain ⟨nb, no, rfl, hnb6, hnc⟩ : ∃ b o, na = some ⟨b, o, none⟩ ∧ b < w6.heap.size ∧ ∀ j, j < xs.length → w6.cell? ⟨b, o + j, none⟩ = some (.string (xs.getD j ⟨#[]⟩)) := by
        rcases S6.out.2.2 with h | h
        · subst h; simp at hj
        · exact h
      have hci := (HB0.out.cell (p := ⟨nb, no + i, none⟩) hnb6).trans (hnc i (by omega))
      have hnb : nb < wr.heap.size := by omega
      have HDR : Hid (xs.drop i = xs.getD i ⟨#[]⟩ :: xs.drop (i + 1)) := by
        rw [Hid, List.drop_eq_getElem_cons (by omega)]; simp [show i < xs.length by omega]
      clear hnc
      generalize xs.getD i ⟨#[]⟩ = s at *
      obtain ⟨L, hL⟩ : ∃ L, (ownB bs mo n (xs.drop (i + 1))).length = L := ⟨_, rfl⟩
      have HL : Hid ((ownB bs mo n (xs.drop (i + 1))).length = L) := hL
      have hrow : wr.ownsRow w6.heap.size 51 2 (.slice va L vc) L (bdCells (ownB bs mo n (xs.drop (i + 1)))) := by rw [← hL]; exact HOWN.out
      rw [hL] at hol
      rw [hL]
      have hii : ((i + 1 : Nat) : Int) - 1 = (i : Int) := by omega
      rw [hii]
      have hnrow : some nb ≠ (Value.slice va L vc).ownBlock := fun e => by have := (hrow.lt nb e.symm).1; omega
      have HCE : Hid (∀ w', Below wr.heap.size wr w' → w'.cell? ⟨nb, no + i, none⟩ = some (.string s)) := fun w' hb => (hb.cell (p := ⟨nb, no + i, none⟩) hnb).trans hci
      have Br := (HH.out.below BW.out).B
      have hreach := HH.out.reach
      have hiI : (i : Int) < (xs.length : Int) := by omega
      have hL200 : L ≤ 200 := by omega
      clear hL hii hol HOWN SW
      go_wp2_with fail
      go_region_held3 (fun W => W.cell? ⟨nb, no + i, none⟩ = some (.string s)) (go_keep) (first | (go_at_call 25; refine (copied8_rd hreach (Br.below (Below.refl _ _).drew)).mono ?_; rintro e w4' ⟨a4, c4, rfl, D4, hb4'⟩; have hb4 : Below wr.heap.size wr w4' := (Below.refl wr.heap.size wr).drew.trans hb4'; have k0 := HCE.out w4' hb4) | (go_at_call 29; refine (get_any a4 c4 bs s hreach w4' D4).mono ?_; rintro e w5' ⟨rfl, hb5⟩; have hb5w : Below wr.heap.size wr w5' := Below.trans hb4 (Below.mono hb5 hb4.size); have k0 := HCE.out w5' hb5w; have hrow5 := ownsRow_below hrow hb5w; have hsz5 := hb5w.size; have k1 : ∀ o, (w5'.alloc o).cell? ⟨nb, no + i, none⟩ = some (.string s) := fun o => (World.cell?_alloc_past _ _ _ (by show nb < w5'.heap.size; omega)).trans k0) | (refine step_append_lies _ rfl (.tmp 47) (.tmp 63) 38 rfl w6.heap.size 51 i0 (.agg #[.string ⟨#[]⟩, .int .i64 0]) 2 24 Tryd.underlying38 hi0 hz0 hz1 hz2 rfl (by decide) _ _ _ (by simp [Act.eval, Act.put]) (hrow5.alloc _) ⟨w5'.heap.size, 0, none⟩ 2 2 [.string mo, .int .i64 n, .string s, .int .i64 (getB bs s)] (by simp [Act.eval, Act.put]) rfl (news4W w5' _ _ _ _ _) (by simp [Value.oneCell']) (by omega) (by unfold maxLen; omega) (by omega) (by simp; omega) _ rfl ?_; intro g6 cap6 w7' hown6 hg6 hat6 hl6; have k0 := World.grownBy.cell hg6 (k1 _) hnrow))
      all_goals
        have hOF : OwnB w7' w6.heap.size (.slice (some ⟨g6, 0, none⟩) (ownB bs mo n (xs.drop i)).length cap6) (ownB bs mo n (xs.drop i)) := by
          show w7'.ownsRow _ _ _ _ _ _
          rw [HDR.out, ownB, bdCells_append, List.length_append, HL.out]
          exact hown6
        have hle : (ownB bs mo n (xs.drop i)).length = L + 2 := by rw [HDR.out, ownB, List.length_append, HL.out]; rfl
        rw [hle] at hOF
        have HOF : Hid (OwnB w7' w6.heap.size (.slice (some ⟨g6, 0, none⟩) (L + 2) cap6) (ownB bs mo n (xs.drop i))) := hOF
        have HB7 : Hid (Below w6.heap.size w6 w7') := by
          have b1 := (HB0.out.trans (hb5w.mono hszr)).trans (((Below.refl w5'.heap.size w5').alloc (Nat.le_refl _) (.cells #[.string mo, .int .i64 n, .string s, .int .i64 (getB bs s)] 51)).mono (by omega))
          exact b1.grown hg6 (by rw [World.size_alloc]; omega) (fun j hj => (hrow.lt j hj).1)
        clear hOF hle hown6 hg6 hat6 hl6 k0 k1 hb5w hb5 hb4 hb4' D4 hrow5 hrow hsz5 Br HCE
        go_wp2_with fail
        exact ⟨⟨i, by omega, by first | rfl | go_num, HOF.out, HB7.out⟩, by simp [RowKit.intOf]; try omega⟩
    · obtain rfl : j = 0 := by omega
      have hO := HOWN.out
      obtain ⟨oa, oc, hoe, hoB, _⟩ := hO.read
      rw [List.drop_zero] at hoe hoB hol hO
      have OB : Hid (Bds wr va vc (ownB bs mo n xs)) := by
        cases hoe
        exact hoB
      have HOL : Hid ((ownB bs mo n xs).length * 24 ≤ 140737488355328) := by rw [Hid, hol]; omega
      rw [List.drop_zero]
      have EO : Hid ((∀ s ∈ xs, s ≠ mo) → evA (ownB bs mo n xs) l = (x1, x2)) := fun hmo => by rw [evA_own VR.out mo n hmo]; exact HX.out
      clear hO hoe hoB HOWN hol
      go_wp2_with fail
      refine (copyR (HH.out.below BW.out).R hF).mono ?_
      rintro e w7 ⟨a7, c7, rfl, hR7, hb7⟩
      have B7 : Hid (Below w.heap.size w w7) := BW.out.trans (hb7.mono BW.out.size)
      have R7 : Hid (Rd w7 a7 c7 l) := hR7
      have S7 : Hid (Strs w7 na nc xs) := SW.out.below hb7
      have O7 : Hid (Bds w7 va vc (ownB bs mo n xs)) := OB.out.below hb7
      clear hR7 hb7 BW SW OB
      go_wp2_with fail
      refine (cE.out w7 a7 c7 va vc (ownB bs mo n xs) HOL.out B7.out R7.out O7.out).mono ?_
      rintro e w8 ⟨rfl, hb8⟩
      have B8 : Hid (Below w.heap.size w w8) := B7.out.trans (hb8.mono B7.out.size)
      have S8 : Hid (Strs w8 na nc xs) := S7.out.below hb8
      clear hb8 B7 R7 S7 O7 cE
      obtain ⟨y1, hy1⟩ : ∃ y1, (evA (ownB bs mo n xs) l).1 = y1 := ⟨_, rfl⟩
      obtain ⟨y2, hy2⟩ : ∃ y2, (evA (ownB bs mo n xs) l).2 = y2 := ⟨_, rfl⟩
      have HY : Hid ((∀ s ∈ xs, s ≠ mo) → y1 = x1 ∧ y2 = x2) := fun hmo => by rw [← hy1, ← hy2, EO.out hmo]; exact ⟨rfl, rfl⟩
      rw [hy1, hy2]
      clear hy1 hy2 EO
      generalize (ownB bs mo n xs).length = OL at *
      go_wp2_with fail
      go_loopw [17] (fun q wr => ∃ k : Nat, k ≤ xs.length ∧ q = .int .i64 k ∧ (∀ i, i < k → xs.getD i ⟨#[]⟩ ≠ mo) ∧ wr = w8) (fun q _ => xs.length - (RowKit.intOf q).toNat)
      case atStart => exact ⟨0, by omega, rfl, fun i hi => by omega, rfl⟩
      case round =>
        obtain ⟨k, hk, rfl, hne, rfl⟩ := hrel
        have HNE : Hid (∀ i, i < k → xs.getD i ⟨#[]⟩ ≠ mo) := hne
        clear hne
        by_cases hlt : k < xs.length
        · obtain ⟨nb, no, rfl, hnb, hnc⟩ : ∃ b o, na = some ⟨b, o, none⟩ ∧ b < wr.heap.size ∧ ∀ j, j < xs.length → wr.cell? ⟨b, o + j, none⟩ = some (.string (xs.getD j ⟨#[]⟩)) := by
            rcases S8.out.2.2 with h | h
            · subst h; simp at hlt
            · exact h
          have hci := hnc k hlt
          have hkI : (k : Int) < (xs.length : Int) := by omega
          have hq := eq_toList (xs.getD k ⟨#[]⟩) mo
          obtain ⟨s, hs⟩ : ∃ s, xs.getD k ⟨#[]⟩ = s := ⟨_, rfl⟩
          rw [hs] at hci hq
          have HS : Hid (xs.getD k ⟨#[]⟩ = s) := hs
          clear hnc hs
          by_cases he : s = mo
          · rw [decide_eq_true he] at hq
            clear he
            go_wp2_with fail
            go_ret
            exact ⟨rfl, B8.out⟩
          · rw [decide_eq_false he] at hq
            have HE : Hid (s ≠ mo) := he
            clear he
            go_wp2_with fail
            refine ⟨⟨k + 1, by omega, by go_num, fun i hi => ?_, by first | rfl | trivial⟩, by simp [RowKit.intOf]; omega⟩
            by_cases e : i = k
            · subst e; rw [HS.out]; exact HE.out
            · exact HNE.out i (by omega)
        · obtain rfl : k = xs.length := by omega
          have hall : ∀ s ∈ xs, s ≠ mo := fun s hs => by
            obtain ⟨i, hi, e⟩ := List.mem_iff_getElem.1 hs
            have := HNE.out i hi
            simpa [hi, e] using this
          obtain ⟨rfl, rfl⟩ := HY.out hall
          clear hall
          go_wp2_with fail
          go_ret
          exact ⟨by first | rfl | simp, B8.out⟩

theorem evNames.walk (w : World) (ao : Option Addr) (cap : Nat) (l : List Nd) (eo : Option Addr) (ec : Nat) (bs : List Bd) (mo : ByteArray) (n : Int) (h : EvIn w ao cap l eo ec bs) (hT : Tabs w) (hF : Fit l) :
    Calls Tryd.prog 6 #[.slice ao l.length cap, .slice eo bs.length ec, .string mo, .int .i64 n] w fun e w' => e = .returned (.bool true) ∧ Below w.heap.size w w' := by
  cases hb : begL l with
  | none => exact evNames.bad w ao cap l eo ec bs mo n h hF hb
  | some fr => exact evNames.good w ao cap l eo ec bs mo n h hT hF fr hb
end Go.Proofs.YtkgfcamlfnlpoaaDoor
