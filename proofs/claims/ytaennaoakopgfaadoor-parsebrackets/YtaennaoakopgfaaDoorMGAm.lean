/-
  RrAmW, RrGrW.
-/
import Derived.Test.YtaennaoakopgfaaDoorMGUn
set_option linter.unusedSimpArgs false
set_option linter.unusedVariables false
namespace Go.Proofs.YtaennaoakopgfaaDoor
open Go.RowKit Go.Lib Go.Sort

theorem plain_no : ∀ c ∈ signList, psPlain c ≠ 48 ∧ psPlain c ≠ 97 := by decide +kernel
theorem kd_m1 : kd (-1) = 0 := by decide +kernel
theorem tok_kd {s : ByteArray} {pat : Bool} {m a : Nat} {t : Tk} (h : psFrom s pat m a = .ok t) :
    (kd (rn s a) = 1 ∧ t = ⟨97, a, (spanI s a).1.toNat, 0, if nameB (s.extract a (spanI s a).1.toNat) then 0 else 7⟩ ∧ a < s.size) ∨
    (kd (rn s a) = 2 ∧ t = ⟨48, a, (numI s a).2.1, (numI s a).1, if m < (numI s a).1 then 10 else (numI s a).2.2⟩ ∧ a < s.size) ∨
    (kd (rn s a) ≠ 1 ∧ kd (rn s a) ≠ 2 ∧ t.what ≠ 97 ∧ t.what ≠ 48) := by
  unfold psFrom at h
  split at h
  · rename_i hp
    have hk := kd_rn s a hp
    unfold psAt at h
    split at h
    · rename_i k1
      cases h
      exact .inl ⟨by rw [hk]; exact k1, rfl, hp⟩
    · rename_i k1
      split at h
      · rename_i k2
        cases h
        exact .inr (.inl ⟨by rw [hk]; exact k2, rfl, hp⟩)
      · rename_i k2
        split at h
        · rename_i k4
          cases h
          refine .inr (.inr ⟨by rw [hk]; exact k1, by rw [hk]; exact k2, ?_, ?_⟩)
          · simp only
            unfold psSign
            (repeat' split) <;> first | decide | exact (plain_no _ (kd4 k4.1)).2
          · simp only
            unfold psSign
            (repeat' split) <;> first | decide | exact (plain_no _ (kd4 k4.1)).1
        · cases h
  · rename_i hp
    cases h
    have : rn s a = -1 := by unfold rn; rw [if_neg hp]
    rw [this, kd_m1]
    exact .inr (.inr ⟨by decide, by decide, by simp [psEnd], by simp [psEnd]⟩)
theorem tok_97 {s : ByteArray} {pat : Bool} {m a : Nat} {t : Tk} (h : psFrom s pat m a = .ok t) (hw : t.what = 97) : kd (rn s a) = 1 := by
  rcases tok_kd h with ⟨hk, ht, _⟩ | ⟨hk, ht, _⟩ | ⟨hk1, hk2, hw1, hw2⟩
  · exact hk
  · rw [ht] at hw; exact absurd hw (by simp)
  · exact absurd hw hw1
theorem tok_48 {s : ByteArray} {pat : Bool} {m a : Nat} {t : Tk} (h : psFrom s pat m a = .ok t) (hw : t.what = 48) : kd (rn s a) = 2 := by
  rcases tok_kd h with ⟨hk, ht, _⟩ | ⟨hk, ht, _⟩ | ⟨hk1, hk2, hw1, hw2⟩
  · rw [ht] at hw; exact absurd hw (by simp)
  · exact hk
  · exact absurd hw hw2
theorem tok_no {s : ByteArray} {pat : Bool} {m a : Nat} {t : Tk} (h : psFrom s pat m a = .ok t) (h1 : t.what ≠ 97) (h2 : t.what ≠ 48) : kd (rn s a) ≠ 1 ∧ kd (rn s a) ≠ 2 := by
  rcases tok_kd h with ⟨hk, ht, _⟩ | ⟨hk, ht, _⟩ | ⟨hk1, hk2, hw1, hw2⟩
  · exact absurd (by rw [ht]) h1
  · exact absurd (by rw [ht]) h2
  · exact ⟨hk1, hk2⟩
theorem span_no {s : ByteArray} {a : Nat} (ha : a ≤ s.size) (h : kd (rn s a) ≠ 1) : spanI s a = (0, 11) := by
  unfold spanI spanP
  rw [if_neg (by omega), Int.toNat_natCast, if_neg h]

/-- The rule of names at a place: what rdNamed says of its token. -/
theorem rname_any (s : ByteArray) (pat : Bool) (hs : s.size ≤ 4096) (op : Int) (W : World) (R a o ft : Nat) (hM : RdM W R s pat a o ft 0) (ha : a ≤ s.size) :
    Calls Tryd.prog 149 #[.pointer (some ⟨R, 0, none⟩), .int .i64 op] W fun e w' => RRes W R s pat a o ft ((psFrom s pat mx63 a).bind fun t => rdNamed s op t) e w' := by
  cases h0 : psFrom s pat mx63 a with
  | out => exact absurd h0 (psFrom_in _ _ _ _)
  | bad p er =>
    obtain ⟨rfl, rfl, hsg⟩ := sg_bad h0
    have hk : kd (rn s p) ≠ 1 := by
      intro hk
      have hp : p < s.size := Decidable.byContradiction fun c => by
        have : rn s p = -1 := by unfold rn; rw [if_neg c]
        rw [this, kd_m1] at hk; exact absurd hk (by decide)
      rw [kd_rn s p hp] at hk
      unfold psFrom psAt at h0
      rw [if_pos hp, if_pos hk] at h0
      cases h0
    refine (name_no W R s pat p o ft op hM hs ha 0 11 (span_no ha hk) (by decide)).mono ?_
    rintro x w' ⟨rfl, hm, hg⟩
    rw [hsg] at hm
    exact ⟨_, [], _, _, rfl, OwnN_nil _ _, BadL.nil ha, hm, by decide, hg⟩
  | ok t =>
    simp only [Pr.bind]
    rcases tok_kd h0 with ⟨hk, rfl, hp⟩ | ⟨hk, ht, hp⟩ | ⟨hk1, hk2, hw1, hw2⟩
    · have hk' := hk
      rw [kd_rn s a hp] at hk'
      obtain ⟨e1, e2, e3⟩ := span_in' s a hp hk'
      have hN : spanI s a = (((spF s s.size a : Nat) : Int), 0) := e1
      rw [hN]
      simp only [Int.toNat_natCast]
      have hsk := skp_in e3
      refine (name_in W R s pat a o ft op hM hs (spF s s.size a) hN (by omega) e3).mono ?_
      intro x w' hx
      unfold rdNamed
      simp only [if_true]
      by_cases hn : nameB (s.extract a (spF s s.size a)) = true
      · rw [if_pos hn] at hx
        rw [if_pos hn, if_pos rfl]
        obtain ⟨⟨x', rfl, h1⟩, h2, h3⟩ := hx
        exact ⟨_, rfl, h1, h2, h3⟩
      · rw [if_neg hn] at hx
        rw [if_neg hn, if_neg (by decide)]
        obtain ⟨rfl, h2, h3⟩ := hx
        exact ⟨_, [], _, _, rfl, OwnN_nil _ _, BadL.nil ha, h2, by decide, h3⟩
    · have h97 : t.what ≠ 97 := by rw [ht]; simp
      have e : rdNamed s op t = .bad a 6 := by unfold rdNamed; rw [if_neg h97, ht]
      rw [e]
      refine (name_no W R s pat a o ft op hM hs ha 0 11 (span_no ha (by rw [hk]; decide)) (by decide)).mono ?_
      rintro x w' ⟨rfl, hm, hg⟩
      rw [sg_ok h0, if_neg (by simp)] at hm
      exact ⟨_, [], _, _, rfl, OwnN_nil _ _, BadL.nil ha, hm, by decide, hg⟩
    · have e : rdNamed s op t = .bad a 6 := by unfold rdNamed; rw [if_neg hw1, (from_at ha h0).at_]
      rw [e]
      refine (name_no W R s pat a o ft op hM hs ha 0 11 (span_no ha hk1) (by decide)).mono ?_
      rintro x w' ⟨rfl, hm, hg⟩
      rw [sg_ok h0, if_neg (by simp)] at hm
      exact ⟨_, [], _, _, rfl, OwnN_nil _ _, BadL.nil ha, hm, by decide, hg⟩

theorem RRes.val {W : World} {R : Nat} {s : ByteArray} {pat : Bool} {a o ft : Nat} {X : Pr (List Nd × Nat)} {e : Ending} {w' : World} (h : RRes W R s pat a o ft X e w') : ∃ ao n c, e = .returned (.slice ao n c) := by
  cases X with
  | ok r =>
    obtain ⟨v, rfl, h2, _⟩ := h
    obtain ⟨x, y, z, rfl⟩ := h2.form
    exact ⟨x, y, z, rfl⟩
  | bad p er =>
    obtain ⟨v, l, a', o', rfl, h2, _⟩ := h
    obtain ⟨x, y, z, rfl⟩ := h2.form
    exact ⟨x, y, z, rfl⟩
  | out => cases h

/-- What a number that is not below 0 comes to. -/
theorem lit_pos (s : ByteArray) (pat : Bool) (hs : s.size ≤ 4096) (W : World) (R a o ft : Nat) (hM : RdM W R s pat a o ft 0) (ha : a ≤ s.size) (t : Tk) (h : psFrom s pat mx63 a = .ok t) (h48 : t.what = 48) :
    Calls Tryd.prog 138 #[.pointer (some ⟨R, 0, none⟩), .bool false] W fun e w' => RRes W R s pat a o ft (rdLit s t.n t) e w' := by
  rcases tok_kd h with ⟨hk, ht, hp⟩ | ⟨hk, ht, hp⟩ | ⟨hk1, hk2, hw1, hw2⟩
  · rw [ht] at h48; exact absurd h48 (by simp)
  · have hk' := hk
    rw [kd_rn s a hp] at hk'
    have hin := num_in s a hp hk'
    have hN := number_ok W R s pat a o ft 0 false hM hs
    have hB := number_bad W R s pat a o ft false hM hs
    have hc := num_cases s a ha
    obtain ⟨⟨v, b, er⟩, hv⟩ : ∃ q, numI s a = q := ⟨_, rfl⟩
    rw [hv] at ht hin hc
    simp only at ht hin hc
    subst ht
    unfold rdLit
    simp only [if_true]
    by_cases hok : nuOk v er false
    · obtain ⟨e0, hle, hmx⟩ := hok
      have hm : ¬ mx63 < v := by
        unfold mx63
        intro c
        have : v = 9223372036854775808 := by omega
        cases hmx this
      rw [if_neg hm, if_pos e0]
      refine (hN v b er hv ⟨e0, hle, hmx⟩ (by have := hin e0; omega)).mono ?_
      rintro x w' ⟨⟨x', rfl, h1⟩, h2, h3⟩
      exact ⟨_, rfl, h1, h2, h3⟩
    · have he : (if mx63 < v then (10 : Int) else er) = 10 := by
        by_cases hm : mx63 < v
        · rw [if_pos hm]
        · rw [if_neg hm]
          rcases hc with ⟨_, h0 | h0⟩ | ⟨h0, _⟩
          · exfalso; apply hok; unfold mx63 at hm; exact ⟨h0, by omega, fun e => by omega⟩
          · exact h0
          · exact absurd hk h0
      rw [he, if_neg (by decide)]
      refine (hB v b er hv hok).mono ?_
      rintro x w' ⟨rfl, h2, h3⟩
      exact ⟨_, [], _, _, rfl, OwnN_nil _ _, BadL.nil ha, h2, by decide, h3⟩
  · exact absurd h48 hw2

set_option maxRecDepth 20000 in
set_option maxHeartbeats 8000000 in
theorem atom_name (s : ByteArray) (pat : Bool) (hs : s.size ≤ 4096) (W : World) (R a o ft : Nat) (hM : RdM W R s pat a o ft 0) (ha : a ≤ s.size) (t : Tk) (h : psFrom s pat mx63 a = .ok t) (hw : t.what = 97) :
    Calls Tryd.prog 139 #[.pointer (some ⟨R, 0, none⟩)] W fun e w' => RRes W R s pat a o ft (rdNamed s 2 t) e w' := by
  obtain ⟨c0, c1, c2, c3, c4, c5⟩ := hM.cells
  have HM : Hid (RdM W R s pat a o ft 0) := hM
  have hs0 : s.size ≤ maxLen := by unfold maxLen; omega
  have cR : Hid (∀ W', Calls Tryd.prog 87 #[.string s, .int .i64 (a : Int)] W' fun e w' => e = .returned (.int .i32 (rn s a)) ∧ Below W'.heap.size W' w') := fun W' => refRune_any s a W' hs0 ha
  have cK : Hid (∀ W', Calls Tryd.prog 88 #[.int .i32 (rn s a)] W' fun e w' => e = .returned (.int .i64 (kd (rn s a))) ∧ Below W'.heap.size W' w') := fun W' => by
    have := refKind_any (rn s a) W'
    rw [← kd_eq] at this
    exact this
  have hkd : kd (rn s a) = 1 := tok_97 h hw
  rw [hkd] at cK
  have cL : Hid (∀ W', RdM W' R s pat a o ft 0 → Calls Tryd.prog 149 #[.pointer (some ⟨R, 0, none⟩), .int .i64 2] W' fun e w' => RRes W' R s pat a o ft (rdNamed s 2 t) e w') := fun W' h' => by
    have := rname_any s pat hs 2 W' R a o ft h' ha
    rw [h] at this
    exact this
  generalize rdNamed s 2 t = X at *
  clear h hM hkd
  generalize rn s a = r at *
  go_enter Tryd.func139, Tryd.ntmps139
  go_wp2_with fail
  go_at_call 87
  refine (cR.out _).mono ?_
  rintro x w1 ⟨rfl, hb1⟩
  go_wp2_with fail
  go_at_call 88
  refine (cK.out _).mono ?_
  rintro x w2 ⟨rfl, hb2⟩
  have B2 : Hid (Below W.heap.size W w2) := hb1.trans (hb2.mono hb1.size)
  have M2 : Hid (RdM w2 R s pat a o ft 0) := HM.out.below B2.out
  clear hb1 hb2 cR cK c0 c1 c2 c3 c4 c5
  go_wp2_with fail
  go_at_call 149
  refine (cL.out _ M2.out).mono ?_
  intro x w3 hR
  obtain ⟨vo, vn, vc, rfl⟩ := hR.val
  have HR2 : Hid (RRes W R s pat a o ft X (.returned (.slice vo vn vc)) w3) := hR.move (gr_of_below B2.out _) (Nat.le_refl _)
  clear hR
  go_wp2_with fail
  go_ret
  exact HR2.out

set_option maxRecDepth 20000 in
set_option maxHeartbeats 8000000 in
theorem atom_num (s : ByteArray) (pat : Bool) (hs : s.size ≤ 4096) (W : World) (R a o ft : Nat) (hM : RdM W R s pat a o ft 0) (ha : a ≤ s.size) (t : Tk) (h : psFrom s pat mx63 a = .ok t) (hw : t.what = 48) :
    Calls Tryd.prog 139 #[.pointer (some ⟨R, 0, none⟩)] W fun e w' => RRes W R s pat a o ft (rdLit s t.n t) e w' := by
  obtain ⟨c0, c1, c2, c3, c4, c5⟩ := hM.cells
  have HM : Hid (RdM W R s pat a o ft 0) := hM
  have hs0 : s.size ≤ maxLen := by unfold maxLen; omega
  have cR : Hid (∀ W', Calls Tryd.prog 87 #[.string s, .int .i64 (a : Int)] W' fun e w' => e = .returned (.int .i32 (rn s a)) ∧ Below W'.heap.size W' w') := fun W' => refRune_any s a W' hs0 ha
  have cK : Hid (∀ W', Calls Tryd.prog 88 #[.int .i32 (rn s a)] W' fun e w' => e = .returned (.int .i64 (kd (rn s a))) ∧ Below W'.heap.size W' w') := fun W' => by
    have := refKind_any (rn s a) W'
    rw [← kd_eq] at this
    exact this
  have hkd : kd (rn s a) = 2 := tok_48 h hw
  rw [hkd] at cK
  have cL : Hid (∀ W', RdM W' R s pat a o ft 0 → Calls Tryd.prog 138 #[.pointer (some ⟨R, 0, none⟩), .bool false] W' fun e w' => RRes W' R s pat a o ft (rdLit s t.n t) e w') := fun W' h' => lit_pos s pat hs W' R a o ft h' ha t h hw
  generalize rdLit s t.n t = X at *
  clear h hM hkd
  generalize rn s a = r at *
  go_enter Tryd.func139, Tryd.ntmps139
  go_wp2_with fail
  go_at_call 87
  refine (cR.out _).mono ?_
  rintro x w1 ⟨rfl, hb1⟩
  go_wp2_with fail
  go_at_call 88
  refine (cK.out _).mono ?_
  rintro x w2 ⟨rfl, hb2⟩
  have B2 : Hid (Below W.heap.size W w2) := hb1.trans (hb2.mono hb1.size)
  have M2 : Hid (RdM w2 R s pat a o ft 0) := HM.out.below B2.out
  clear hb1 hb2 cR cK c0 c1 c2 c3 c4 c5
  go_wp2_with fail
  go_at_call 138
  refine (cL.out _ M2.out).mono ?_
  intro x w3 hR
  obtain ⟨vo, vn, vc, rfl⟩ := hR.val
  have HR2 : Hid (RRes W R s pat a o ft X (.returned (.slice vo vn vc)) w3) := hR.move (gr_of_below B2.out _) (Nat.le_refl _)
  clear hR
  go_wp2_with fail
  go_ret
  exact HR2.out

set_option maxRecDepth 20000 in
set_option maxHeartbeats 8000000 in
theorem atom_no (s : ByteArray) (pat : Bool) (hs : s.size ≤ 4096) (W : World) (R a o ft : Nat) (hM : RdM W R s pat a o ft 0) (ha : a ≤ s.size) (t : Tk) (h : psFrom s pat mx63 a = .ok t) (h97 : t.what ≠ 97) (h48 : t.what ≠ 48) (h64 : t.what ≠ 64) (h40 : t.what ≠ 40) :
    Calls Tryd.prog 139 #[.pointer (some ⟨R, 0, none⟩)] W fun e w' => RRes W R s pat a o ft (.bad a 6) e w' := by
  obtain ⟨c0, c1, c2, c3, c4, c5⟩ := hM.cells
  have HM : Hid (RdM W R s pat a o ft 0) := hM
  have hs0 : s.size ≤ maxLen := by unfold maxLen; omega
  have cR : Hid (∀ W', Calls Tryd.prog 87 #[.string s, .int .i64 (a : Int)] W' fun e w' => e = .returned (.int .i32 (rn s a)) ∧ Below W'.heap.size W' w') := fun W' => refRune_any s a W' hs0 ha
  have cK : Hid (∀ W', Calls Tryd.prog 88 #[.int .i32 (rn s a)] W' fun e w' => e = .returned (.int .i64 (kd (rn s a))) ∧ Below W'.heap.size W' w') := fun W' => by
    have := refKind_any (rn s a) W'
    rw [← kd_eq] at this
    exact this
  have hkn := tok_no h h97 h48
  have hk1 : (kd (rn s a) == 1) = false := by rw [beq_eq_false_iff_ne]; exact hkn.1
  have hk2 : (kd (rn s a) == 2) = false := by rw [beq_eq_false_iff_ne]; exact hkn.2
  have cI64 : Hid (∀ W', RdM W' R s pat a o ft 0 → Calls Tryd.prog 108 #[.pointer (some ⟨R, 0, none⟩), .string ⟨#[64]⟩] W' fun x w' => x = .returned (.bool (decide (t.what = 64))) ∧ Below W'.heap.size W' w') := fun W' h' => by
    have := is_some W' R s pat a o ft h' hs ha ⟨#[64]⟩ _ _ (sg_ok h)
    rw [decide_eq_decide.2 (txt_whats t.what (from_what h)).2.2.2.2.1] at this
    exact this
  have cI40 : Hid (∀ W', RdM W' R s pat a o ft 0 → Calls Tryd.prog 108 #[.pointer (some ⟨R, 0, none⟩), .string ⟨#[40]⟩] W' fun x w' => x = .returned (.bool (decide (t.what = 40))) ∧ Below W'.heap.size W' w') := fun W' h' => by
    have := is_some W' R s pat a o ft h' hs ha ⟨#[40]⟩ _ _ (sg_ok h)
    rw [decide_eq_decide.2 (txt_whats t.what (from_what h)).2.2.2.2.2.1] at this
    exact this
  rw [decide_eq_false h64] at cI64
  rw [decide_eq_false h40] at cI40
  have cF : Hid (∀ W', RdM W' R s pat a o ft 0 → Calls Tryd.prog 79 #[.pointer (some ⟨R, 0, none⟩), .int .i64 (a : Int), .int .i64 6] W' fun x w' => x = .returned (.slice none 0 0) ∧ RdM w' R s pat a o a 6 ∧ W'.grownBy w' (some R)) := fun W' h' => rfail_any W' R s pat a o ft 0 h' a 6
  clear h hM hkn h97 h48 h64 h40
  generalize kd (rn s a) = kq at *
  generalize rn s a = r at *
  go_enter Tryd.func139, Tryd.ntmps139
  go_wp2_with fail
  go_at_call 87
  refine (cR.out _).mono ?_
  rintro x w1 ⟨rfl, hb1⟩
  go_wp2_with fail
  go_at_call 88
  refine (cK.out _).mono ?_
  rintro x w2 ⟨rfl, hb2⟩
  have B2 : Hid (Below W.heap.size W w2) := hb1.trans (hb2.mono hb1.size)
  have M2 : Hid (RdM w2 R s pat a o ft 0) := HM.out.below B2.out
  clear hb1 hb2 cR cK c0 c1 c2 c3 c4 c5
  go_wp2_with fail
  go_at_call 108
  refine (cI64.out _ M2.out).mono ?_
  rintro x w3 ⟨rfl, hb3⟩
  have B3 : Hid (Below W.heap.size W w3) := B2.out.trans (hb3.mono B2.out.size)
  have M3 : Hid (RdM w3 R s pat a o ft 0) := M2.out.below hb3
  clear hb3
  go_wp2_with fail
  go_at_call 108
  refine (cI40.out _ M3.out).mono ?_
  rintro x w4 ⟨rfl, hb4⟩
  have B4 : Hid (Below W.heap.size W w4) := B3.out.trans (hb4.mono B3.out.size)
  have M4 : Hid (RdM w4 R s pat a o ft 0) := M3.out.below hb4
  clear hb4
  go_wp2_with fail
  go_at_call 79
  refine (cF.out _ M4.out).mono ?_
  rintro x w5 ⟨rfl, hm5, hg5⟩
  have HX : Hid (RdM w5 R s pat a o a 6 ∧ W.grownBy w5 (some R)) := ⟨hm5, (gr_of_below B4.out _).trans hg5⟩
  clear hm5 hg5
  go_wp2_with fail
  go_ret
  exact ⟨_, [], _, _, rfl, OwnN_nil _ _, BadL.nil ha, HX.out.1, by decide, HX.out.2⟩

set_option maxRecDepth 20000 in
set_option maxHeartbeats 8000000 in
theorem atom_hole (s : ByteArray) (pat : Bool) (hs : s.size ≤ 4096) (W : World) (R a o ft : Nat) (hM : RdM W R s pat a o ft 0) (ha : a ≤ s.size) (t : Tk) (h : psFrom s pat mx63 a = .ok t) (h97 : t.what ≠ 97) (h48 : t.what ≠ 48) (h64 : t.what = 64) :
    Calls Tryd.prog 139 #[.pointer (some ⟨R, 0, none⟩)] W fun e w' => RRes W R s pat a o ft ((psFrom s pat mx63 (skp s t.to)).bind fun t1 => rdNamed s 18 t1) e w' := by
  obtain ⟨c0, c1, c2, c3, c4, c5⟩ := hM.cells
  have HM : Hid (RdM W R s pat a o ft 0) := hM
  have hs0 : s.size ≤ maxLen := by unfold maxLen; omega
  have cR : Hid (∀ W', Calls Tryd.prog 87 #[.string s, .int .i64 (a : Int)] W' fun e w' => e = .returned (.int .i32 (rn s a)) ∧ Below W'.heap.size W' w') := fun W' => refRune_any s a W' hs0 ha
  have cK : Hid (∀ W', Calls Tryd.prog 88 #[.int .i32 (rn s a)] W' fun e w' => e = .returned (.int .i64 (kd (rn s a))) ∧ Below W'.heap.size W' w') := fun W' => by
    have := refKind_any (rn s a) W'
    rw [← kd_eq] at this
    exact this
  have hkn := tok_no h h97 h48
  have hk1 : (kd (rn s a) == 1) = false := by rw [beq_eq_false_iff_ne]; exact hkn.1
  have hk2 : (kd (rn s a) == 2) = false := by rw [beq_eq_false_iff_ne]; exact hkn.2
  have cI64 : Hid (∀ W', RdM W' R s pat a o ft 0 → Calls Tryd.prog 108 #[.pointer (some ⟨R, 0, none⟩), .string ⟨#[64]⟩] W' fun x w' => x = .returned (.bool (decide (t.what = 64))) ∧ Below W'.heap.size W' w') := fun W' h' => by
    have := is_some W' R s pat a o ft h' hs ha ⟨#[64]⟩ _ _ (sg_ok h)
    rw [decide_eq_decide.2 (txt_whats t.what (from_what h)).2.2.2.2.1] at this
    exact this
  have cI40 : Hid (∀ W', RdM W' R s pat a o ft 0 → Calls Tryd.prog 108 #[.pointer (some ⟨R, 0, none⟩), .string ⟨#[40]⟩] W' fun x w' => x = .returned (.bool (decide (t.what = 40))) ∧ Below W'.heap.size W' w') := fun W' h' => by
    have := is_some W' R s pat a o ft h' hs ha ⟨#[40]⟩ _ _ (sg_ok h)
    rw [decide_eq_decide.2 (txt_whats t.what (from_what h)).2.2.2.2.2.1] at this
    exact this
  rw [decide_eq_true h64] at cI64
  have hto := ((from_at ha h).good ((from_at ha h).sign h48 h97))
  have hsk := skp_in hto.2.1
  have hab : a ≤ skp s t.to := by omega
  have cT : Hid (∀ W', RdM W' R s pat a o ft 0 → Calls Tryd.prog 109 #[.pointer (some ⟨R, 0, none⟩)] W' fun x w' => x = .returned (.tuple #[]) ∧ RdM w' R s pat (skp s t.to) o ft 0 ∧ W'.grownBy w' (some R)) := fun W' h' => take_ok s pat hs W' R a o ft h' ha t h (by rw [h64]; decide) h48 h97
  have cN : Hid (∀ W', RdM W' R s pat (skp s t.to) o ft 0 → Calls Tryd.prog 149 #[.pointer (some ⟨R, 0, none⟩), .int .i64 18] W' fun e w' => RRes W' R s pat (skp s t.to) o ft ((psFrom s pat mx63 (skp s t.to)).bind fun t1 => rdNamed s 18 t1) e w') := fun W' h' => rname_any s pat hs 18 W' R _ o ft h' hsk.2
  generalize (psFrom s pat mx63 (skp s t.to)).bind (fun t1 => rdNamed s 18 t1) = X at *
  clear h hM hkn h97 h48 h64 cI40 hto
  generalize skp s t.to = b at *
  generalize kd (rn s a) = kq at *
  generalize rn s a = r at *
  go_enter Tryd.func139, Tryd.ntmps139
  go_wp2_with fail
  go_at_call 87
  refine (cR.out _).mono ?_
  rintro x w1 ⟨rfl, hb1⟩
  go_wp2_with fail
  go_at_call 88
  refine (cK.out _).mono ?_
  rintro x w2 ⟨rfl, hb2⟩
  have B2 : Hid (Below W.heap.size W w2) := hb1.trans (hb2.mono hb1.size)
  have M2 : Hid (RdM w2 R s pat a o ft 0) := HM.out.below B2.out
  clear hb1 hb2 cR cK c0 c1 c2 c3 c4 c5
  go_wp2_with fail
  go_at_call 108
  refine (cI64.out _ M2.out).mono ?_
  rintro x w3 ⟨rfl, hb3⟩
  have B3 : Hid (Below W.heap.size W w3) := B2.out.trans (hb3.mono B2.out.size)
  have M3 : Hid (RdM w3 R s pat a o ft 0) := M2.out.below hb3
  clear hb3
  go_wp2_with fail
  go_at_call 109
  refine (cT.out _ M3.out).mono ?_
  rintro x w4 ⟨rfl, hm4, hg4⟩
  have M4 : Hid (RdM w4 R s pat b o ft 0) := hm4
  have G4 : Hid (W.grownBy w4 (some R)) := (gr_of_below B3.out _).trans hg4
  clear hm4 hg4
  go_wp2_with fail
  go_at_call 149
  refine (cN.out _ M4.out).mono ?_
  intro x w5 hR
  obtain ⟨vo, vn, vc, rfl⟩ := hR.val
  have HR2 : Hid (RRes W R s pat a o ft X (.returned (.slice vo vn vc)) w5) := hR.move G4.out hab
  clear hR
  go_wp2_with fail
  go_ret
  exact HR2.out

end Go.Proofs.YtaennaoakopgfaaDoor

set_option linter.unusedSimpArgs false
set_option linter.unusedVariables false
namespace Go.Proofs.YtaennaoakopgfaaDoor
open Go.RowKit Go.Lib Go.Sort

set_option maxRecDepth 20000 in
set_option maxHeartbeats 8000000 in
theorem atom_many (s : ByteArray) (pat : Bool) (hs : s.size ≤ 4096) (W : World) (R a o ft : Nat) (hM : RdM W R s pat a o ft 0) (ha : a ≤ s.size) (t : Tk) (h : psFrom s pat mx63 a = .ok t) (h97 : t.what ≠ 97) (h48 : t.what ≠ 48) (h40 : t.what = 40) (ho : o = 100) :
    Calls Tryd.prog 139 #[.pointer (some ⟨R, 0, none⟩)] W fun e w' => RRes W R s pat a o ft (.bad a 10) e w' := by
  obtain ⟨c0, c1, c2, c3, c4, c5⟩ := hM.cells
  have HM : Hid (RdM W R s pat a o ft 0) := hM
  have hs0 : s.size ≤ maxLen := by unfold maxLen; omega
  have cR : Hid (∀ W', Calls Tryd.prog 87 #[.string s, .int .i64 (a : Int)] W' fun e w' => e = .returned (.int .i32 (rn s a)) ∧ Below W'.heap.size W' w') := fun W' => refRune_any s a W' hs0 ha
  have cK : Hid (∀ W', Calls Tryd.prog 88 #[.int .i32 (rn s a)] W' fun e w' => e = .returned (.int .i64 (kd (rn s a))) ∧ Below W'.heap.size W' w') := fun W' => by
    have := refKind_any (rn s a) W'
    rw [← kd_eq] at this
    exact this
  have hkn := tok_no h h97 h48
  have hk1 : (kd (rn s a) == 1) = false := by rw [beq_eq_false_iff_ne]; exact hkn.1
  have hk2 : (kd (rn s a) == 2) = false := by rw [beq_eq_false_iff_ne]; exact hkn.2
  have cI64 : Hid (∀ W', RdM W' R s pat a o ft 0 → Calls Tryd.prog 108 #[.pointer (some ⟨R, 0, none⟩), .string ⟨#[64]⟩] W' fun x w' => x = .returned (.bool (decide (t.what = 64))) ∧ Below W'.heap.size W' w') := fun W' h' => by
    have := is_some W' R s pat a o ft h' hs ha ⟨#[64]⟩ _ _ (sg_ok h)
    rw [decide_eq_decide.2 (txt_whats t.what (from_what h)).2.2.2.2.1] at this
    exact this
  have cI40 : Hid (∀ W', RdM W' R s pat a o ft 0 → Calls Tryd.prog 108 #[.pointer (some ⟨R, 0, none⟩), .string ⟨#[40]⟩] W' fun x w' => x = .returned (.bool (decide (t.what = 40))) ∧ Below W'.heap.size W' w') := fun W' h' => by
    have := is_some W' R s pat a o ft h' hs ha ⟨#[40]⟩ _ _ (sg_ok h)
    rw [decide_eq_decide.2 (txt_whats t.what (from_what h)).2.2.2.2.2.1] at this
    exact this
  rw [decide_eq_false (show ¬ t.what = 64 by rw [h40]; decide)] at cI64
  rw [decide_eq_true h40] at cI40
  have hto := ((from_at ha h).good ((from_at ha h).sign h48 h97))
  have hsk := skp_in hto.2.1
  have hab : a ≤ skp s t.to := by omega
  have cT : Hid (∀ W', RdM W' R s pat a o ft 0 → Calls Tryd.prog 109 #[.pointer (some ⟨R, 0, none⟩)] W' fun x w' => x = .returned (.tuple #[]) ∧ RdM w' R s pat (skp s t.to) o ft 0 ∧ W'.grownBy w' (some R)) := fun W' h' => take_ok s pat hs W' R a o ft h' ha t h (by rw [h40]; decide) h48 h97
  have cF : Hid (∀ W', RdM W' R s pat (skp s t.to) (o + 1) ft 0 → Calls Tryd.prog 79 #[.pointer (some ⟨R, 0, none⟩), .int .i64 (a : Int), .int .i64 10] W' fun x w' => x = .returned (.slice none 0 0) ∧ RdM w' R s pat (skp s t.to) (o + 1) a 10 ∧ W'.grownBy w' (some R)) := fun W' h' => rfail_any W' R s pat _ (o + 1) ft 0 h' a 10
  have ho' : (100 : Int) < (o : Int) + 1 := by omega
  have hou : o ≤ 100 := by omega
  clear h hM hkn h97 h48 h40 hto ho
  generalize skp s t.to = b at *
  generalize kd (rn s a) = kq at *
  generalize rn s a = r at *
  go_enter Tryd.func139, Tryd.ntmps139
  go_wp2_with fail
  go_at_call 87
  refine (cR.out _).mono ?_
  rintro x w1 ⟨rfl, hb1⟩
  go_wp2_with fail
  go_at_call 88
  refine (cK.out _).mono ?_
  rintro x w2 ⟨rfl, hb2⟩
  have B2 : Hid (Below W.heap.size W w2) := hb1.trans (hb2.mono hb1.size)
  have M2 : Hid (RdM w2 R s pat a o ft 0) := HM.out.below B2.out
  clear hb1 hb2 cR cK c0 c1 c2 c3 c4 c5
  go_wp2_with fail
  go_at_call 108
  refine (cI64.out _ M2.out).mono ?_
  rintro x w3 ⟨rfl, hb3⟩
  have B3 : Hid (Below W.heap.size W w3) := B2.out.trans (hb3.mono B2.out.size)
  have M3 : Hid (RdM w3 R s pat a o ft 0) := M2.out.below hb3
  clear hb3
  go_wp2_with fail
  go_at_call 108
  refine (cI40.out _ M3.out).mono ?_
  rintro x w4 ⟨rfl, hb4⟩
  have B4 : Hid (Below W.heap.size W w4) := B3.out.trans (hb4.mono B3.out.size)
  have M4 : Hid (RdM w4 R s pat a o ft 0) := M3.out.below hb4
  clear hb4
  go_wp2_with fail
  go_at_call 109
  refine (cT.out _ M4.out).mono ?_
  rintro x w5 ⟨rfl, hm5, hg5⟩
  obtain ⟨d0, d1, d2, d3, d4, d5⟩ := hm5.cells
  have df := hm5.frozen 3
  have hl := hm5.lt
  have M6 : Hid (RdM (w5.setCell ⟨R, 3, none⟩ (.int .i64 ((o : Int) + 1))) R s pat b (o + 1) ft 0) := by
    have := hm5.open_ (o + 1)
    rw [show ((o + 1 : Nat) : Int) = (o : Int) + 1 by omega] at this
    exact this
  have G6 : Hid (W.grownBy (w5.setCell ⟨R, 3, none⟩ (.int .i64 ((o : Int) + 1))) (some R)) := gr_setB ((gr_of_below B4.out (some R)).trans hg5)
  clear hm5 hg5 B2 B3 B4 M2 M3 M4
  go_wp2_with fail
  go_at_call 79
  refine (cF.out _ M6.out).mono ?_
  rintro x w7 ⟨rfl, hm7, hg7⟩
  have HX : Hid (RdM w7 R s pat b (o + 1) a 10 ∧ W.grownBy w7 (some R)) := ⟨hm7, G6.out.trans hg7⟩
  clear hm7 hg7
  go_wp2_with fail
  go_ret
  exact ⟨_, [], _, _, rfl, OwnN_nil _ _, BadL.nil ha, HX.out.1, by decide, HX.out.2⟩

set_option maxRecDepth 20000 in
set_option maxHeartbeats 8000000 in
theorem atom_group (s : ByteArray) (pat : Bool) (hs : s.size ≤ 4096) (f : Nat) (ih : RdC s pat f) (W : World) (R a o ft : Nat) (hM : RdM W R s pat a o ft 0) (ha : a ≤ s.size) (t : Tk) (h : psFrom s pat mx63 a = .ok t) (h97 : t.what ≠ 97) (h48 : t.what ≠ 48) (h40 : t.what = 40) (ho : o < 100) (hno : rdX s pat f .cond (skp s t.to) (o + 1) ≠ .out) :
    Calls Tryd.prog 139 #[.pointer (some ⟨R, 0, none⟩)] W fun e w' => RRes W R s pat a o ft ((rdX s pat f .cond (skp s t.to) (o + 1)).bind fun e => (psFrom s pat mx63 e.2).bind fun t2 => if t2.what = 41 then (if t2.err = 0 then .ok (e.1, skp s t2.to) else .bad t2.from_ t2.err) else .bad t2.from_ 6) e w' := by
  obtain ⟨c0, c1, c2, c3, c4, c5⟩ := hM.cells
  have HM : Hid (RdM W R s pat a o ft 0) := hM
  have hs0 : s.size ≤ maxLen := by unfold maxLen; omega
  have cR : Hid (∀ W', Calls Tryd.prog 87 #[.string s, .int .i64 (a : Int)] W' fun e w' => e = .returned (.int .i32 (rn s a)) ∧ Below W'.heap.size W' w') := fun W' => refRune_any s a W' hs0 ha
  have cK : Hid (∀ W', Calls Tryd.prog 88 #[.int .i32 (rn s a)] W' fun e w' => e = .returned (.int .i64 (kd (rn s a))) ∧ Below W'.heap.size W' w') := fun W' => by
    have := refKind_any (rn s a) W'
    rw [← kd_eq] at this
    exact this
  have hkn := tok_no h h97 h48
  have hk1 : (kd (rn s a) == 1) = false := by rw [beq_eq_false_iff_ne]; exact hkn.1
  have hk2 : (kd (rn s a) == 2) = false := by rw [beq_eq_false_iff_ne]; exact hkn.2
  have cI64 : Hid (∀ W', RdM W' R s pat a o ft 0 → Calls Tryd.prog 108 #[.pointer (some ⟨R, 0, none⟩), .string ⟨#[64]⟩] W' fun x w' => x = .returned (.bool (decide (t.what = 64))) ∧ Below W'.heap.size W' w') := fun W' h' => by
    have := is_some W' R s pat a o ft h' hs ha ⟨#[64]⟩ _ _ (sg_ok h)
    rw [decide_eq_decide.2 (txt_whats t.what (from_what h)).2.2.2.2.1] at this
    exact this
  have cI40 : Hid (∀ W', RdM W' R s pat a o ft 0 → Calls Tryd.prog 108 #[.pointer (some ⟨R, 0, none⟩), .string ⟨#[40]⟩] W' fun x w' => x = .returned (.bool (decide (t.what = 40))) ∧ Below W'.heap.size W' w') := fun W' h' => by
    have := is_some W' R s pat a o ft h' hs ha ⟨#[40]⟩ _ _ (sg_ok h)
    rw [decide_eq_decide.2 (txt_whats t.what (from_what h)).2.2.2.2.2.1] at this
    exact this
  rw [decide_eq_false (show ¬ t.what = 64 by rw [h40]; decide)] at cI64
  rw [decide_eq_true h40] at cI40
  have hto := ((from_at ha h).good ((from_at ha h).sign h48 h97))
  have hsk := skp_in hto.2.1
  have hab : a ≤ skp s t.to := by omega
  have cT : Hid (∀ W', RdM W' R s pat a o ft 0 → Calls Tryd.prog 109 #[.pointer (some ⟨R, 0, none⟩)] W' fun x w' => x = .returned (.tuple #[]) ∧ RdM w' R s pat (skp s t.to) o ft 0 ∧ W'.grownBy w' (some R)) := fun W' h' => take_ok s pat hs W' R a o ft h' ha t h (by rw [h40]; decide) h48 h97
  have cC : Hid (∀ W', RdM W' R s pat (skp s t.to) (o + 1) ft 0 → Calls Tryd.prog 77 #[.pointer (some ⟨R, 0, none⟩)] W' fun e w' => RRes W' R s pat (skp s t.to) (o + 1) ft (rdX s pat f .cond (skp s t.to) (o + 1)) e w') := fun W' h' => ih.cond W' R _ (o + 1) ft h' hsk.2 (by omega) hno
  have hlen : ∀ r, rdX s pat f .cond (skp s t.to) (o + 1) = .ok r → r.1.length + skp s t.to ≤ r.2 ∧ skp s t.to ≤ r.2 ∧ r.2 ≤ s.size ∧ KidsIn r.1 := fun r hr => rdX_len ⟨(fun _ e => by cases e), (fun _ _ e => by cases e)⟩ (fun _ _ e => by cases e) hsk.2 hr
  have ho' : ¬ (100 : Int) < (o : Int) + 1 := by omega
  clear h hM hkn h97 h48 h40 hto hno ih
  generalize skp s t.to = b at *
  generalize kd (rn s a) = kq at *
  generalize rn s a = r at *
  generalize rdX s pat f .cond b (o + 1) = Y at *
  cases Y with
  | out =>
    go_enter Tryd.func139, Tryd.ntmps139
    go_wp2_with fail
    go_at_call 87
    refine (cR.out _).mono ?_
    rintro x w1 ⟨rfl, hb1⟩
    go_wp2_with fail
    go_at_call 88
    refine (cK.out _).mono ?_
    rintro x w2 ⟨rfl, hb2⟩
    have B2 : Hid (Below W.heap.size W w2) := hb1.trans (hb2.mono hb1.size)
    have M2 : Hid (RdM w2 R s pat a o ft 0) := HM.out.below B2.out
    clear hb1 hb2 cR cK c0 c1 c2 c3 c4 c5
    go_wp2_with fail
    go_at_call 108
    refine (cI64.out _ M2.out).mono ?_
    rintro x w3 ⟨rfl, hb3⟩
    have B3 : Hid (Below W.heap.size W w3) := B2.out.trans (hb3.mono B2.out.size)
    have M3 : Hid (RdM w3 R s pat a o ft 0) := M2.out.below hb3
    clear hb3
    go_wp2_with fail
    go_at_call 108
    refine (cI40.out _ M3.out).mono ?_
    rintro x w4 ⟨rfl, hb4⟩
    have B4 : Hid (Below W.heap.size W w4) := B3.out.trans (hb4.mono B3.out.size)
    have M4 : Hid (RdM w4 R s pat a o ft 0) := M3.out.below hb4
    clear hb4
    go_wp2_with fail
    go_at_call 109
    refine (cT.out _ M4.out).mono ?_
    rintro x w5 ⟨rfl, hm5, hg5⟩
    obtain ⟨d0, d1, d2, d3, d4, d5⟩ := hm5.cells
    have df := hm5.frozen 3
    have hl := hm5.lt
    have M6 : Hid (RdM (w5.setCell ⟨R, 3, none⟩ (.int .i64 ((o : Int) + 1))) R s pat b (o + 1) ft 0) := by
      have := hm5.open_ (o + 1)
      rw [show ((o + 1 : Nat) : Int) = (o : Int) + 1 by omega] at this
      exact this
    have G6 : Hid (W.grownBy (w5.setCell ⟨R, 3, none⟩ (.int .i64 ((o : Int) + 1))) (some R)) := gr_setB ((gr_of_below B4.out (some R)).trans hg5)
    clear hm5 hg5 B2 B3 B4 M2 M3 M4
    go_wp2_with fail
    go_at_call 77
    refine (cC.out _ M6.out).mono ?_
    intro x w7 hR
    cases hR
  | bad p er =>
    simp only [Pr.bind]
    go_enter Tryd.func139, Tryd.ntmps139
    go_wp2_with fail
    go_at_call 87
    refine (cR.out _).mono ?_
    rintro x w1 ⟨rfl, hb1⟩
    go_wp2_with fail
    go_at_call 88
    refine (cK.out _).mono ?_
    rintro x w2 ⟨rfl, hb2⟩
    have B2 : Hid (Below W.heap.size W w2) := hb1.trans (hb2.mono hb1.size)
    have M2 : Hid (RdM w2 R s pat a o ft 0) := HM.out.below B2.out
    clear hb1 hb2 cR cK c0 c1 c2 c3 c4 c5
    go_wp2_with fail
    go_at_call 108
    refine (cI64.out _ M2.out).mono ?_
    rintro x w3 ⟨rfl, hb3⟩
    have B3 : Hid (Below W.heap.size W w3) := B2.out.trans (hb3.mono B2.out.size)
    have M3 : Hid (RdM w3 R s pat a o ft 0) := M2.out.below hb3
    clear hb3
    go_wp2_with fail
    go_at_call 108
    refine (cI40.out _ M3.out).mono ?_
    rintro x w4 ⟨rfl, hb4⟩
    have B4 : Hid (Below W.heap.size W w4) := B3.out.trans (hb4.mono B3.out.size)
    have M4 : Hid (RdM w4 R s pat a o ft 0) := M3.out.below hb4
    clear hb4
    go_wp2_with fail
    go_at_call 109
    refine (cT.out _ M4.out).mono ?_
    rintro x w5 ⟨rfl, hm5, hg5⟩
    obtain ⟨d0, d1, d2, d3, d4, d5⟩ := hm5.cells
    have df := hm5.frozen 3
    have hl := hm5.lt
    have M6 : Hid (RdM (w5.setCell ⟨R, 3, none⟩ (.int .i64 ((o : Int) + 1))) R s pat b (o + 1) ft 0) := by
      have := hm5.open_ (o + 1)
      rw [show ((o + 1 : Nat) : Int) = (o : Int) + 1 by omega] at this
      exact this
    have G6 : Hid (W.grownBy (w5.setCell ⟨R, 3, none⟩ (.int .i64 ((o : Int) + 1))) (some R)) := gr_setB ((gr_of_below B4.out (some R)).trans hg5)
    clear hm5 hg5 B2 B3 B4 M2 M3 M4
    go_wp2_with fail
    go_at_call 77
    refine (cC.out _ M6.out).mono ?_
    rintro x w7 ⟨v, l, a', o', rfl, hO7, hBL, hm7, her, hg7⟩
    obtain ⟨ao, vn, vc, rfl⟩ := hO7.form
    obtain ⟨e0, e1, e2, e3, e4, e5⟩ := hm7.cells
    have hne : (er != 0) = true := by simpa using her
    have HX : Hid (RdM w7 R s pat a' o' p er ∧ er ≠ 0 ∧ W.grownBy w7 (some R)) := ⟨hm7, her, G6.out.trans hg7⟩
    clear hO7 hBL hm7 her hg7
    go_wp2_with fail
    go_ret
    exact ⟨_, [], _, _, rfl, OwnN_nil _ _, BadL.nil ha, HX.out.1, HX.out.2.1, HX.out.2.2⟩
  | ok r =>
    simp only [Pr.bind]
    obtain ⟨r1, r2, r3, r4⟩ := hlen r rfl
    have hRW : R < W.heap.size := HM.out.lt
    clear hlen r4
    cases h2 : psFrom s pat mx63 r.2 with
    | out => exact absurd h2 (psFrom_in _ _ _ _)
    | bad p er =>
      simp only [Pr.bind]
      obtain ⟨rfl, rfl, hsg⟩ := sg_bad h2
      have cI : Hid (∀ W', RdM W' R s pat r.2 (o + 1) ft 0 → Calls Tryd.prog 108 #[.pointer (some ⟨R, 0, none⟩), .string ⟨#[41]⟩] W' fun x w' => x = .returned (.bool false) ∧ RdM w' R s pat r.2 (o + 1) r.2 5 ∧ W'.grownBy w' (some R)) := fun W' h' => is_none W' R s pat r.2 (o + 1) ft h' hs r3 ⟨#[41]⟩ hsg
      have cF : Hid (∀ W', RdM W' R s pat r.2 (o + 1) r.2 5 → Calls Tryd.prog 79 #[.pointer (some ⟨R, 0, none⟩), .int .i64 (r.2 : Int), .int .i64 6] W' fun x w' => x = .returned (.slice none 0 0) ∧ RdM w' R s pat r.2 (o + 1) r.2 5 ∧ W'.grownBy w' (some R)) := fun W' h' => rfail_any W' R s pat r.2 (o + 1) r.2 5 h' r.2 6
      clear h2 hsg
      go_enter Tryd.func139, Tryd.ntmps139
      go_wp2_with fail
      go_at_call 87
      refine (cR.out _).mono ?_
      rintro x w1 ⟨rfl, hb1⟩
      go_wp2_with fail
      go_at_call 88
      refine (cK.out _).mono ?_
      rintro x w2 ⟨rfl, hb2⟩
      have B2 : Hid (Below W.heap.size W w2) := hb1.trans (hb2.mono hb1.size)
      have M2 : Hid (RdM w2 R s pat a o ft 0) := HM.out.below B2.out
      clear hb1 hb2 cR cK c0 c1 c2 c3 c4 c5
      go_wp2_with fail
      go_at_call 108
      refine (cI64.out _ M2.out).mono ?_
      rintro x w3 ⟨rfl, hb3⟩
      have B3 : Hid (Below W.heap.size W w3) := B2.out.trans (hb3.mono B2.out.size)
      have M3 : Hid (RdM w3 R s pat a o ft 0) := M2.out.below hb3
      clear hb3
      go_wp2_with fail
      go_at_call 108
      refine (cI40.out _ M3.out).mono ?_
      rintro x w4 ⟨rfl, hb4⟩
      have B4 : Hid (Below W.heap.size W w4) := B3.out.trans (hb4.mono B3.out.size)
      have M4 : Hid (RdM w4 R s pat a o ft 0) := M3.out.below hb4
      clear hb4
      go_wp2_with fail
      go_at_call 109
      refine (cT.out _ M4.out).mono ?_
      rintro x w5 ⟨rfl, hm5, hg5⟩
      obtain ⟨d0, d1, d2, d3, d4, d5⟩ := hm5.cells
      have df := hm5.frozen 3
      have hl := hm5.lt
      have M6 : Hid (RdM (w5.setCell ⟨R, 3, none⟩ (.int .i64 ((o : Int) + 1))) R s pat b (o + 1) ft 0) := by
        have := hm5.open_ (o + 1)
        rw [show ((o + 1 : Nat) : Int) = (o : Int) + 1 by omega] at this
        exact this
      have G6 : Hid (W.grownBy (w5.setCell ⟨R, 3, none⟩ (.int .i64 ((o : Int) + 1))) (some R)) := gr_setB ((gr_of_below B4.out (some R)).trans hg5)
      clear hm5 hg5 B2 B3 B4 M2 M3 M4
      go_wp2_with fail
      go_at_call 77
      refine (cC.out _ M6.out).mono ?_
      rintro x w7 ⟨v, rfl, hO7, hm7, hg7⟩
      obtain ⟨ao, vn, vc, rfl⟩ := hO7.form
      obtain ⟨e0, e1, e2, e3, e4, e5⟩ := hm7.cells
      have M7 : Hid (RdM w7 R s pat r.2 (o + 1) ft 0) := hm7
      have G7 : Hid (W.grownBy w7 (some R)) := G6.out.trans hg7
      clear hO7 hm7 hg7
      go_wp2_with fail
      go_at_call 108
      refine (cI.out _ M7.out).mono ?_
      rintro x w8 ⟨rfl, hm8, hg8⟩
      obtain ⟨i0, i1, i2, i3, i4, i5⟩ := hm8.cells
      have M8 : Hid (RdM w8 R s pat r.2 (o + 1) r.2 5) := hm8
      have G8 : Hid (W.grownBy w8 (some R)) := G7.out.trans hg8
      clear hm8 hg8
      go_wp2_with fail
      go_at_call 79
      refine (cF.out _ M8.out).mono ?_
      rintro x w9 ⟨rfl, hm9, hg9⟩
      have HX : Hid (RdM w9 R s pat r.2 (o + 1) r.2 5 ∧ W.grownBy w9 (some R)) := ⟨hm9, G8.out.trans hg9⟩
      clear hm9 hg9
      go_wp2_with fail
      go_ret
      exact ⟨_, [], _, _, rfl, OwnN_nil _ _, BadL.nil ha, HX.out.1, by decide, HX.out.2⟩
    | ok t2 =>
      simp only [Pr.bind]
      have ht2 := from_at r3 h2
      have cI : Hid (∀ W', RdM W' R s pat r.2 (o + 1) ft 0 → Calls Tryd.prog 108 #[.pointer (some ⟨R, 0, none⟩), .string ⟨#[41]⟩] W' fun x w' => x = .returned (.bool (decide (t2.what = 41))) ∧ Below W'.heap.size W' w') := fun W' h' => by
        have := is_some W' R s pat r.2 (o + 1) ft h' hs r3 ⟨#[41]⟩ _ _ (sg_ok h2)
        rw [decide_eq_decide.2 (txt_whats t2.what (from_what h2)).2.2.2.2.2.2] at this
        exact this
      by_cases h41 : t2.what = 41
      · rw [if_pos h41, if_pos (ht2.sign (by rw [h41]; decide) (by rw [h41]; decide))]
        rw [decide_eq_true h41] at cI
        have cT2 : Hid (∀ W', RdM W' R s pat r.2 (o + 1) ft 0 → Calls Tryd.prog 109 #[.pointer (some ⟨R, 0, none⟩)] W' fun x w' => x = .returned (.tuple #[]) ∧ RdM w' R s pat (skp s t2.to) (o + 1) ft 0 ∧ W'.grownBy w' (some R)) := fun W' h' => take_ok s pat hs W' R r.2 (o + 1) ft h' r3 t2 h2 (by rw [h41]; decide) (by rw [h41]; decide) (by rw [h41]; decide)
        clear h2 h41 ht2
        generalize skp s t2.to = b2 at *
        go_enter Tryd.func139, Tryd.ntmps139
        go_wp2_with fail
        go_at_call 87
        refine (cR.out _).mono ?_
        rintro x w1 ⟨rfl, hb1⟩
        go_wp2_with fail
        go_at_call 88
        refine (cK.out _).mono ?_
        rintro x w2 ⟨rfl, hb2⟩
        have B2 : Hid (Below W.heap.size W w2) := hb1.trans (hb2.mono hb1.size)
        have M2 : Hid (RdM w2 R s pat a o ft 0) := HM.out.below B2.out
        clear hb1 hb2 cR cK c0 c1 c2 c3 c4 c5
        go_wp2_with fail
        go_at_call 108
        refine (cI64.out _ M2.out).mono ?_
        rintro x w3 ⟨rfl, hb3⟩
        have B3 : Hid (Below W.heap.size W w3) := B2.out.trans (hb3.mono B2.out.size)
        have M3 : Hid (RdM w3 R s pat a o ft 0) := M2.out.below hb3
        clear hb3
        go_wp2_with fail
        go_at_call 108
        refine (cI40.out _ M3.out).mono ?_
        rintro x w4 ⟨rfl, hb4⟩
        have B4 : Hid (Below W.heap.size W w4) := B3.out.trans (hb4.mono B3.out.size)
        have M4 : Hid (RdM w4 R s pat a o ft 0) := M3.out.below hb4
        clear hb4
        go_wp2_with fail
        go_at_call 109
        refine (cT.out _ M4.out).mono ?_
        rintro x w5 ⟨rfl, hm5, hg5⟩
        obtain ⟨d0, d1, d2, d3, d4, d5⟩ := hm5.cells
        have df := hm5.frozen 3
        have hl := hm5.lt
        have M6 : Hid (RdM (w5.setCell ⟨R, 3, none⟩ (.int .i64 ((o : Int) + 1))) R s pat b (o + 1) ft 0) := by
          have := hm5.open_ (o + 1)
          rw [show ((o + 1 : Nat) : Int) = (o : Int) + 1 by omega] at this
          exact this
        have G6 : Hid (W.grownBy (w5.setCell ⟨R, 3, none⟩ (.int .i64 ((o : Int) + 1))) (some R)) := gr_setB ((gr_of_below B4.out (some R)).trans hg5)
        clear hm5 hg5 B2 B3 B4 M2 M3 M4
        go_wp2_with fail
        go_at_call 77
        refine (cC.out _ M6.out).mono ?_
        rintro x w7 ⟨v, rfl, hO7, hm7, hg7⟩
        obtain ⟨ao, vn, vc, rfl⟩ := hO7.form
        obtain ⟨e0, e1, e2, e3, e4, e5⟩ := hm7.cells
        have M7 : Hid (RdM w7 R s pat r.2 (o + 1) ft 0) := hm7
        have G7 : Hid (W.grownBy w7 (some R)) := G6.out.trans hg7
        have O7 : Hid (OwnN w7 W.heap.size (.slice ao vn vc) r.1) := hO7.lower G6.out.size
        clear hO7 hm7 hg7
        go_wp2_with fail
        go_at_call 108
        refine (cI.out _ M7.out).mono ?_
        rintro x w8 ⟨rfl, hb8⟩
        have M8 : Hid (RdM w8 R s pat r.2 (o + 1) ft 0) := M7.out.below hb8
        have G8 : Hid (W.grownBy w8 (some R)) := G7.out.trans (gr_of_below hb8 _)
        have O8 : Hid (OwnN w8 W.heap.size (.slice ao vn vc) r.1) := O7.out.below hb8
        clear hb8
        go_wp2_with fail
        go_at_call 109
        refine (cT2.out _ M8.out).mono ?_
        rintro x w9 ⟨rfl, hm9, hg9⟩
        obtain ⟨i0, i1, i2, i3, i4, i5⟩ := hm9.cells
        have jf := hm9.frozen 3
        have jl := hm9.lt
        have M10 : Hid (RdM (w9.setCell ⟨R, 3, none⟩ (.int .i64 (o : Int))) R s pat b2 o ft 0) := hm9.open_ o
        have G10 : Hid (W.grownBy (w9.setCell ⟨R, 3, none⟩ (.int .i64 (o : Int))) (some R)) := gr_setB (G8.out.trans hg9)
        have O10 : Hid (OwnN (w9.setCell ⟨R, 3, none⟩ (.int .i64 (o : Int))) W.heap.size (.slice ao vn vc) r.1) := O8.out.gr (gr_setB hg9) hRW
        have i3' : w9.cell? ⟨R, 3, none⟩ = some (.int .i64 ((o : Int) + 1)) := by rw [i3]; congr 2
        clear hm9 hg9 i3
        go_wp2_with fail
        go_ret
        exact ⟨_, rfl, O10.out, M10.out, G10.out⟩
      · rw [if_neg h41, ht2.at_]
        rw [decide_eq_false h41] at cI
        have cF : Hid (∀ W', RdM W' R s pat r.2 (o + 1) ft 0 → Calls Tryd.prog 79 #[.pointer (some ⟨R, 0, none⟩), .int .i64 (r.2 : Int), .int .i64 6] W' fun x w' => x = .returned (.slice none 0 0) ∧ RdM w' R s pat r.2 (o + 1) r.2 6 ∧ W'.grownBy w' (some R)) := fun W' h' => rfail_any W' R s pat r.2 (o + 1) ft 0 h' r.2 6
        clear h2 h41 ht2
        go_enter Tryd.func139, Tryd.ntmps139
        go_wp2_with fail
        go_at_call 87
        refine (cR.out _).mono ?_
        rintro x w1 ⟨rfl, hb1⟩
        go_wp2_with fail
        go_at_call 88
        refine (cK.out _).mono ?_
        rintro x w2 ⟨rfl, hb2⟩
        have B2 : Hid (Below W.heap.size W w2) := hb1.trans (hb2.mono hb1.size)
        have M2 : Hid (RdM w2 R s pat a o ft 0) := HM.out.below B2.out
        clear hb1 hb2 cR cK c0 c1 c2 c3 c4 c5
        go_wp2_with fail
        go_at_call 108
        refine (cI64.out _ M2.out).mono ?_
        rintro x w3 ⟨rfl, hb3⟩
        have B3 : Hid (Below W.heap.size W w3) := B2.out.trans (hb3.mono B2.out.size)
        have M3 : Hid (RdM w3 R s pat a o ft 0) := M2.out.below hb3
        clear hb3
        go_wp2_with fail
        go_at_call 108
        refine (cI40.out _ M3.out).mono ?_
        rintro x w4 ⟨rfl, hb4⟩
        have B4 : Hid (Below W.heap.size W w4) := B3.out.trans (hb4.mono B3.out.size)
        have M4 : Hid (RdM w4 R s pat a o ft 0) := M3.out.below hb4
        clear hb4
        go_wp2_with fail
        go_at_call 109
        refine (cT.out _ M4.out).mono ?_
        rintro x w5 ⟨rfl, hm5, hg5⟩
        obtain ⟨d0, d1, d2, d3, d4, d5⟩ := hm5.cells
        have df := hm5.frozen 3
        have hl := hm5.lt
        have M6 : Hid (RdM (w5.setCell ⟨R, 3, none⟩ (.int .i64 ((o : Int) + 1))) R s pat b (o + 1) ft 0) := by
          have := hm5.open_ (o + 1)
          rw [show ((o + 1 : Nat) : Int) = (o : Int) + 1 by omega] at this
          exact this
        have G6 : Hid (W.grownBy (w5.setCell ⟨R, 3, none⟩ (.int .i64 ((o : Int) + 1))) (some R)) := gr_setB ((gr_of_below B4.out (some R)).trans hg5)
        clear hm5 hg5 B2 B3 B4 M2 M3 M4
        go_wp2_with fail
        go_at_call 77
        refine (cC.out _ M6.out).mono ?_
        rintro x w7 ⟨v, rfl, hO7, hm7, hg7⟩
        obtain ⟨ao, vn, vc, rfl⟩ := hO7.form
        obtain ⟨e0, e1, e2, e3, e4, e5⟩ := hm7.cells
        have M7 : Hid (RdM w7 R s pat r.2 (o + 1) ft 0) := hm7
        have G7 : Hid (W.grownBy w7 (some R)) := G6.out.trans hg7
        clear hO7 hm7 hg7
        go_wp2_with fail
        go_at_call 108
        refine (cI.out _ M7.out).mono ?_
        rintro x w8 ⟨rfl, hb8⟩
        have M8 : Hid (RdM w8 R s pat r.2 (o + 1) ft 0) := M7.out.below hb8
        obtain ⟨i0, i1, i2, i3, i4, i5⟩ := M8.out.cells
        have G8 : Hid (W.grownBy w8 (some R)) := G7.out.trans (gr_of_below hb8 _)
        clear hb8
        go_wp2_with fail
        go_at_call 79
        refine (cF.out _ M8.out).mono ?_
        rintro x w9 ⟨rfl, hm9, hg9⟩
        have HX : Hid (RdM w9 R s pat r.2 (o + 1) r.2 6 ∧ W.grownBy w9 (some R)) := ⟨hm9, G8.out.trans hg9⟩
        clear hm9 hg9
        go_wp2_with fail
        go_ret
        exact ⟨_, [], _, _, rfl, OwnN_nil _ _, BadL.nil ha, HX.out.1, by decide, HX.out.2⟩

/-- THE RULE atom. -/
theorem ram_step (s : ByteArray) (pat : Bool) (hs : s.size ≤ 4096) (f : Nat) (ih : RdC s pat f) (W : World) (R a o ft : Nat) (t : Tk) (h0 : psFrom s pat mx63 a = .ok t) (hM : RdM W R s pat a o ft 0) (ha : a ≤ s.size) (ho : o ≤ 100) (hno : rdX s pat (f + 1) .atom a o ≠ .out) :
    Calls Tryd.prog 139 #[.pointer (some ⟨R, 0, none⟩)] W fun e w' => RRes W R s pat a o ft (rdX s pat (f + 1) .atom a o) e w' := by
  rw [rdX_ok h0] at hno ⊢
  have ht := from_at ha h0
  simp only [rdRun] at hno ⊢
  by_cases h48 : t.what = 48
  · rw [if_pos h48]
    exact atom_num s pat hs W R a o ft hM ha t h0 h48
  · rw [if_neg h48] at hno ⊢
    by_cases h97 : t.what = 97
    · rw [if_pos h97]
      exact atom_name s pat hs W R a o ft hM ha t h0 h97
    · rw [if_neg h97] at hno ⊢
      by_cases h64 : t.what = 64
      · rw [if_pos h64]
        exact atom_hole s pat hs W R a o ft hM ha t h0 h97 h48 h64
      · rw [if_neg h64] at hno ⊢
        by_cases h40 : t.what = 40
        · rw [if_pos h40] at hno ⊢
          by_cases h100 : o = 100
          · rw [if_pos h100, ht.at_]
            exact atom_many s pat hs W R a o ft hM ha t h0 h97 h48 h40 h100
          · rw [if_neg h100] at hno ⊢
            have e : ((psFrom s pat mx63 (skp s t.to)).bind fun t1 => (rdRun s pat f .cond t1 (o + 1)).bind fun e => (psFrom s pat mx63 e.2).bind fun t2 => if t2.what = 41 then (if t2.err = 0 then .ok (e.1, skp s t2.to) else .bad t2.from_ t2.err) else .bad t2.from_ 6) = (rdX s pat f .cond (skp s t.to) (o + 1)).bind fun e => (psFrom s pat mx63 e.2).bind fun t2 => if t2.what = 41 then (if t2.err = 0 then .ok (e.1, skp s t2.to) else .bad t2.from_ t2.err) else .bad t2.from_ 6 := by
              unfold rdX; rw [Pr.bind_assoc]
            rw [e] at hno ⊢
            exact atom_group s pat hs f ih W R a o ft hM ha t h0 h97 h48 h40 (by omega) (fun c => hno (by rw [c]; rfl))
        · rw [if_neg h40, ht.at_]
          exact atom_no s pat hs W R a o ft hM ha t h0 h97 h48 h64 h40
end Go.Proofs.YtaennaoakopgfaaDoor
