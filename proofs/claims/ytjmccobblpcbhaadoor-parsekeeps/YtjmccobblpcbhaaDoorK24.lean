/-
  RrAmW.
-/
import Derived.Shelf.Unicode.DecodeSlow
import Derived.Laws.RangeAny
import Derived.Shelf.Strings.Builder1
import Derived.Shelf.Small.Utf8
import Derived.Shelf.Small.Bits
import Derived.Shelf.Strings.BuilderF
import Derived.Shelf.Strings.BuilderK
import Derived.Shelf.Strings.BuilderRune
import Derived.Shelf.Utf8.AppendRune
import Derived.Shelf.Strconv.Itoa0
import Derived.Shelf.Strconv.Itoa1
import Derived.Shelf.LaysM
import Derived.Shelf.Strconv.Itoa2
import Derived.Shelf.Strconv.Itoa3
import Derived.Shelf.Strconv.Itoa4
import Derived.Shelf.Strings.Prefix
import Derived.Shelf.Unicode.DecodeAny
import Derived.Test.YtjmccobblpcbhaaDoorProg
import Derived.WalkKit
import Derived.Deep.DeepFit
import Derived.Lib.OthersKept
import Derived.Lib.RuneCountTail
import Derived.Lib.Small
import Derived.Lib.Strings
import Derived.Lib.MapLaws
import Derived.Deep.AppendLies
import Derived.Deep.OwnRows
import Derived.Laws.AppendOwnNone
import Derived.Deep.QuietTactic
import Derived.BigQuiet
import Derived.Deep.RegionWith
import Derived.Laws.DeepStrings4
import Derived.Deep.RegionHeld3
import Derived.Laws.ResultCell
import Derived.Lib.QuietBelow
import Derived.Deep.Heap
import Derived.Laws.Rows
import Derived.Below
import Derived.StillTail
import Derived.Sort.Walk0
import Derived.Deep.RegionLaw
import Derived.Laws.OwnMore
import Derived.Test.YtjmccobblpcbhaaDoorK01
import Derived.Test.YtjmccobblpcbhaaDoorK02
import Derived.Test.YtjmccobblpcbhaaDoorK03
import Derived.Test.YtjmccobblpcbhaaDoorK04
import Derived.Test.YtjmccobblpcbhaaDoorK05
import Derived.Test.YtjmccobblpcbhaaDoorK06
import Derived.Test.YtjmccobblpcbhaaDoorK07
import Derived.Test.YtjmccobblpcbhaaDoorK08
import Derived.Test.YtjmccobblpcbhaaDoorK09
import Derived.Test.YtjmccobblpcbhaaDoorK10
import Derived.Test.YtjmccobblpcbhaaDoorK11
import Derived.Test.YtjmccobblpcbhaaDoorK12
import Derived.Test.YtjmccobblpcbhaaDoorK13
import Derived.Test.YtjmccobblpcbhaaDoorK14
import Derived.Test.YtjmccobblpcbhaaDoorK15
import Derived.Test.YtjmccobblpcbhaaDoorK16
import Derived.Test.YtjmccobblpcbhaaDoorK17
import Derived.Test.YtjmccobblpcbhaaDoorK18
import Derived.Test.YtjmccobblpcbhaaDoorK19
import Derived.Test.YtjmccobblpcbhaaDoorK20
import Derived.Test.YtjmccobblpcbhaaDoorK21
import Derived.Test.YtjmccobblpcbhaaDoorK22
import Derived.Test.YtjmccobblpcbhaaDoorK23
set_option linter.unusedSimpArgs false
set_option linter.unusedVariables false
namespace Go.Proofs.YtjmccobblpcbhaaDoor
open Go.RowKit Go.Lib Go.Sort

theorem plain_no : ∀ c ∈ signList, psPlain c ≠ 48 ∧ psPlain c ≠ 97 := by decide +kernel
theorem kd_m1 : kd (-1) = 0 := by decide +kernel
theorem tok_kd {s : ByteArray} {pat : Bool} {m a : Nat} {t : Tk} (h : psFrom s pat m a = .ok t) :
    (kd (rn s a) = 1 ∧ t = ⟨97, a, (spanI s a).1.toNat, 0, if nameB (s.extract a (spanI s a).1.toNat) then 0 else 7⟩ ∧ a < s.size) ∨
    (kd (rn s a) = 2 ∧ t = ⟨48, a, (numI s a).2.1, (numI s a).1, if m < (numI s a).1 then 10 else (numI s a).2.2⟩ ∧ a < s.size) ∨
    (kd (rn s a) ≠ 1 ∧ kd (rn s a) ≠ 2 ∧ t.what ≠ 97 ∧ t.what ≠ 48) := by
  unfold psFrom at h
  split at h
  · rename_i hp
    have hk := kd_rn s a hp
    unfold psAt at h
    split at h
    · rename_i k1
      cases h
      exact .inl ⟨by rw [hk]; exact k1, rfl, hp⟩
    · rename_i k1
      split at h
      · rename_i k2
        cases h
        exact .inr (.inl ⟨by rw [hk]; exact k2, rfl, hp⟩)
      · rename_i k2
        split at h
        · rename_i k4
          cases h
          refine .inr (.inr ⟨by rw [hk]; exact k1, by rw [hk]; exact k2, ?_, ?_⟩)
          · simp only
            unfold psSign
            (repeat' split) <;> first | decide | exact (plain_no _ (kd4 k4.1)).2
          · simp only
            unfold psSign
            (repeat' split) <;> first | decide | exact (plain_no _ (kd4 k4.1)).1
        · cases h
  · rename_i hp
    cases h
    have : rn s a = -1 := by unfold rn; rw [if_neg hp]
    rw [this, kd_m1]
    exact .inr (.inr ⟨by decide, by decide, by simp [psEnd], by simp [psEnd]⟩)
theorem tok_97 {s : ByteArray} {pat : Bool} {m a : Nat} {t : Tk} (h : psFrom s pat m a = .ok t) (hw : t.what = 97) : kd (rn s a) = 1 := by
  rcases tok_kd h with ⟨hk, ht, _⟩ | ⟨hk, ht, _⟩ | ⟨hk1, hk2, hw1, hw2⟩
  · exact hk
  · rw [ht] at hw; exact absurd hw (by simp)
  · exact absurd hw hw1
theorem tok_48 {s : ByteArray} {pat : Bool} {m a : Nat} {t : Tk} (h : psFrom s pat m a = .ok t) (hw : t.what = 48) : kd (rn s a) = 2 := by
  rcases tok_kd h with ⟨hk, ht, _⟩ | ⟨hk, ht, _⟩ | ⟨hk1, hk2, hw1, hw2⟩
  · rw [ht] at hw; exact absurd hw (by simp)
  · exact hk
  · exact absurd hw hw2
theorem tok_no {s : ByteArray} {pat : Bool} {m a : Nat} {t : Tk} (h : psFrom s pat m a = .ok t) (h1 : t.what ≠ 97) (h2 : t.what ≠ 48) : kd (rn s a) ≠ 1 ∧ kd (rn s a) ≠ 2 := by
  rcases tok_kd h with ⟨hk, ht, _⟩ | ⟨hk, ht, _⟩ | ⟨hk1, hk2, hw1, hw2⟩
  · exact absurd (by rw [ht]) h1
  · exact absurd (by rw [ht]) h2
  · exact ⟨hk1, hk2⟩
theorem span_no {s : ByteArray} {a : Nat} (ha : a ≤ s.size) (h : kd (rn s a) ≠ 1) : spanI s a = (0, 11) := by
  unfold spanI spanP
  rw [if_neg (by omega), Int.toNat_natCast, if_neg h]

/-- The rule of names at a place: what rdNamed says of its token. -/
theorem rname_any (s : ByteArray) (pat : Bool) (hs : s.size ≤ 4096) (op : Int) (W : World) (R a o ft : Nat) (hM : RdM W R s pat a o ft 0) (ha : a ≤ s.size) :
    Calls Tryd.prog 174 #[.pointer (some ⟨R, 0, none⟩), .int .i64 op] W fun e w' => RRes W R s pat a o ft ((psFrom s pat mx63 a).bind fun t => rdNamed s op t) e w' := by
  cases h0 : psFrom s pat mx63 a with
  | out => exact absurd h0 (psFrom_in _ _ _ _)
  | bad p er =>
    obtain ⟨rfl, rfl, hsg⟩ := sg_bad h0
    have hk : kd (rn s p) ≠ 1 := by
      intro hk
      have hp : p < s.size := Decidable.byContradiction fun c => by
        have : rn s p = -1 := by unfold rn; rw [if_neg c]
        rw [this, kd_m1] at hk; exact absurd hk (by decide)
      rw [kd_rn s p hp] at hk
      unfold psFrom psAt at h0
      rw [if_pos hp, if_pos hk] at h0
      cases h0
    refine (name_no W R s pat p o ft op hM hs ha 0 11 (span_no ha hk) (by decide)).mono ?_
    rintro x w' ⟨rfl, hm, hg⟩
    rw [hsg] at hm
    exact ⟨_, [], _, _, rfl, OwnN_nil _ _, BadL.nil ha, hm, by decide, hg⟩
  | ok t =>
    simp only [Pr.bind]
    rcases tok_kd h0 with ⟨hk, rfl, hp⟩ | ⟨hk, ht, hp⟩ | ⟨hk1, hk2, hw1, hw2⟩
    · have hk' := hk
      rw [kd_rn s a hp] at hk'
      obtain ⟨e1, e2, e3⟩ := span_in' s a hp hk'
      have hN : spanI s a = (((spF s s.size a : Nat) : Int), 0) := e1
      rw [hN]
      simp only [Int.toNat_natCast]
      have hsk := skp_in e3
      refine (name_in W R s pat a o ft op hM hs (spF s s.size a) hN (by omega) e3).mono ?_
      intro x w' hx
      unfold rdNamed
      simp only [if_true]
      by_cases hn : nameB (s.extract a (spF s s.size a)) = true
      · rw [if_pos hn] at hx
        rw [if_pos hn, if_pos rfl]
        obtain ⟨⟨x', rfl, h1⟩, h2, h3⟩ := hx
        exact ⟨_, rfl, h1, h2, h3⟩
      · rw [if_neg hn] at hx
        rw [if_neg hn, if_neg (by decide)]
        obtain ⟨rfl, h2, h3⟩ := hx
        exact ⟨_, [], _, _, rfl, OwnN_nil _ _, BadL.nil ha, h2, by decide, h3⟩
    · have h97 : t.what ≠ 97 := by rw [ht]; simp
      have e : rdNamed s op t = .bad a 6 := by unfold rdNamed; rw [if_neg h97, ht]
      rw [e]
      refine (name_no W R s pat a o ft op hM hs ha 0 11 (span_no ha (by rw [hk]; decide)) (by decide)).mono ?_
      rintro x w' ⟨rfl, hm, hg⟩
      rw [sg_ok h0, if_neg (by simp)] at hm
      exact ⟨_, [], _, _, rfl, OwnN_nil _ _, BadL.nil ha, hm, by decide, hg⟩
    · have e : rdNamed s op t = .bad a 6 := by unfold rdNamed; rw [if_neg hw1, (from_at ha h0).at_]
      rw [e]
      refine (name_no W R s pat a o ft op hM hs ha 0 11 (span_no ha hk1) (by decide)).mono ?_
      rintro x w' ⟨rfl, hm, hg⟩
      rw [sg_ok h0, if_neg (by simp)] at hm
      exact ⟨_, [], _, _, rfl, OwnN_nil _ _, BadL.nil ha, hm, by decide, hg⟩

theorem RRes.val {W : World} {R : Nat} {s : ByteArray} {pat : Bool} {a o ft : Nat} {X : Pr (List Nd × Nat)} {e : Ending} {w' : World} (h : RRes W R s pat a o ft X e w') : ∃ ao n c, e = .returned (.slice ao n c) := by
  cases X with
  | ok r =>
    obtain ⟨v, rfl, h2, _⟩ := h
    obtain ⟨x, y, z, rfl⟩ := h2.form
    exact ⟨x, y, z, rfl⟩
  | bad p er =>
    obtain ⟨v, l, a', o', rfl, h2, _⟩ := h
    obtain ⟨x, y, z, rfl⟩ := h2.form
    exact ⟨x, y, z, rfl⟩
  | out => cases h

/-- What a number that is not below 0 comes to. -/
theorem lit_pos (s : ByteArray) (pat : Bool) (hs : s.size ≤ 4096) (W : World) (R a o ft : Nat) (hM : RdM W R s pat a o ft 0) (ha : a ≤ s.size) (t : Tk) (h : psFrom s pat mx63 a = .ok t) (h48 : t.what = 48) :
    Calls Tryd.prog 158 #[.pointer (some ⟨R, 0, none⟩), .bool false] W fun e w' => RRes W R s pat a o ft (rdLit s t.n t) e w' := by
  rcases tok_kd h with ⟨hk, ht, hp⟩ | ⟨hk, ht, hp⟩ | ⟨hk1, hk2, hw1, hw2⟩
  · rw [ht] at h48; exact absurd h48 (by simp)
  · have hk' := hk
    rw [kd_rn s a hp] at hk'
    have hin := num_in s a hp hk'
    have hN := number_ok W R s pat a o ft 0 false hM hs
    have hB := number_bad W R s pat a o ft false hM hs
    have hc := num_cases s a ha
    obtain ⟨⟨v, b, er⟩, hv⟩ : ∃ q, numI s a = q := ⟨_, rfl⟩
    rw [hv] at ht hin hc
    simp only at ht hin hc
    subst ht
    unfold rdLit
    simp only [if_true]
    by_cases hok : nuOk v er false
    · obtain ⟨e0, hle, hmx⟩ := hok
      have hm : ¬ mx63 < v := by
        unfold mx63
        intro c
        have : v = 9223372036854775808 := by omega
        cases hmx this
      rw [if_neg hm, if_pos e0]
      refine (hN v b er hv ⟨e0, hle, hmx⟩ (by have := hin e0; omega)).mono ?_
      rintro x w' ⟨⟨x', rfl, h1⟩, h2, h3⟩
      exact ⟨_, rfl, h1, h2, h3⟩
    · have he : (if mx63 < v then (10 : Int) else er) = 10 := by
        by_cases hm : mx63 < v
        · rw [if_pos hm]
        · rw [if_neg hm]
          rcases hc with ⟨_, h0 | h0⟩ | ⟨h0, _⟩
          · exfalso; apply hok; unfold mx63 at hm; exact ⟨h0, by omega, fun e => by omega⟩
          · exact h0
          · exact absurd hk h0
      rw [he, if_neg (by decide)]
      refine (hB v b er hv hok).mono ?_
      rintro x w' ⟨rfl, h2, h3⟩
      exact ⟨_, [], _, _, rfl, OwnN_nil _ _, BadL.nil ha, h2, by decide, h3⟩
  · exact absurd h48 hw2

set_option maxRecDepth 20000 in
set_option maxHeartbeats 8000000 in
theorem atom_name (s : ByteArray) (pat : Bool) (hs : s.size ≤ 4096) (W : World) (R a o ft : Nat) (hM : RdM W R s pat a o ft 0) (ha : a ≤ s.size) (t : Tk) (h : psFrom s pat mx63 a = .ok t) (hw : t.what = 97) :
    Calls Tryd.prog 159 #[.pointer (some ⟨R, 0, none⟩)] W fun e w' => RRes W R s pat a o ft (rdNamed s 2 t) e w' := by
  obtain ⟨c0, c1, c2, c3, c4, c5⟩ := hM.cells
  have HM : Hid (RdM W R s pat a o ft 0) := hM
  have hs0 : s.size ≤ maxLen := by unfold maxLen; omega
  have cR : Hid (∀ W', Calls Tryd.prog 58 #[.string s, .int .i64 (a : Int)] W' fun e w' => e = .returned (.int .i32 (rn s a)) ∧ Below W'.heap.size W' w') := fun W' => refRune_any s a W' hs0 ha
  have cK : Hid (∀ W', Calls Tryd.prog 57 #[.int .i32 (rn s a)] W' fun e w' => e = .returned (.int .i64 (kd (rn s a))) ∧ Below W'.heap.size W' w') := fun W' => by
    have := refKind_any (rn s a) W'
    rw [← kd_eq] at this
    exact this
  have hkd : kd (rn s a) = 1 := tok_97 h hw
  rw [hkd] at cK
  have cL : Hid (∀ W', RdM W' R s pat a o ft 0 → Calls Tryd.prog 174 #[.pointer (some ⟨R, 0, none⟩), .int .i64 2] W' fun e w' => RRes W' R s pat a o ft (rdNamed s 2 t) e w') := fun W' h' => by
    have := rname_any s pat hs 2 W' R a o ft h' ha
    rw [h] at this
    exact this
  generalize rdNamed s 2 t = X at *
  clear h hM hkd
  generalize rn s a = r at *
  go_enter Tryd.func159, Tryd.ntmps159
  go_wp2_with fail
  go_at_call 58
  refine (cR.out _).mono ?_
  rintro x w1 ⟨rfl, hb1⟩
  go_wp2_with fail
  go_at_call 57
  refine (cK.out _).mono ?_
  rintro x w2 ⟨rfl, hb2⟩
  have B2 : Hid (Below W.heap.size W w2) := hb1.trans (hb2.mono hb1.size)
  have M2 : Hid (RdM w2 R s pat a o ft 0) := HM.out.below B2.out
  clear hb1 hb2 cR cK c0 c1 c2 c3 c4 c5
  go_wp2_with fail
  go_at_call 174
  refine (cL.out _ M2.out).mono ?_
  intro x w3 hR
  obtain ⟨vo, vn, vc, rfl⟩ := hR.val
  have HR2 : Hid (RRes W R s pat a o ft X (.returned (.slice vo vn vc)) w3) := hR.move (gr_of_below B2.out _) (Nat.le_refl _)
  clear hR
  go_wp2_with fail
  go_ret
  exact HR2.out

set_option maxRecDepth 20000 in
set_option maxHeartbeats 8000000 in
theorem atom_num (s : ByteArray) (pat : Bool) (hs : s.size ≤ 4096) (W : World) (R a o ft : Nat) (hM : RdM W R s pat a o ft 0) (ha : a ≤ s.size) (t : Tk) (h : psFrom s pat mx63 a = .ok t) (hw : t.what = 48) :
    Calls Tryd.prog 159 #[.pointer (some ⟨R, 0, none⟩)] W fun e w' => RRes W R s pat a o ft (rdLit s t.n t) e w' := by
  obtain ⟨c0, c1, c2, c3, c4, c5⟩ := hM.cells
  have HM : Hid (RdM W R s pat a o ft 0) := hM
  have hs0 : s.size ≤ maxLen := by unfold maxLen; omega
  have cR : Hid (∀ W', Calls Tryd.prog 58 #[.string s, .int .i64 (a : Int)] W' fun e w' => e = .returned (.int .i32 (rn s a)) ∧ Below W'.heap.size W' w') := fun W' => refRune_any s a W' hs0 ha
  have cK : Hid (∀ W', Calls Tryd.prog 57 #[.int .i32 (rn s a)] W' fun e w' => e = .returned (.int .i64 (kd (rn s a))) ∧ Below W'.heap.size W' w') := fun W' => by
    have := refKind_any (rn s a) W'
    rw [← kd_eq] at this
    exact this
  have hkd : kd (rn s a) = 2 := tok_48 h hw
  rw [hkd] at cK
  have cL : Hid (∀ W', RdM W' R s pat a o ft 0 → Calls Tryd.prog 158 #[.pointer (some ⟨R, 0, none⟩), .bool false] W' fun e w' => RRes W' R s pat a o ft (rdLit s t.n t) e w') := fun W' h' => lit_pos s pat hs W' R a o ft h' ha t h hw
  generalize rdLit s t.n t = X at *
  clear h hM hkd
  generalize rn s a = r at *
  go_enter Tryd.func159, Tryd.ntmps159
  go_wp2_with fail
  go_at_call 58
  refine (cR.out _).mono ?_
  rintro x w1 ⟨rfl, hb1⟩
  go_wp2_with fail
  go_at_call 57
  refine (cK.out _).mono ?_
  rintro x w2 ⟨rfl, hb2⟩
  have B2 : Hid (Below W.heap.size W w2) := hb1.trans (hb2.mono hb1.size)
  have M2 : Hid (RdM w2 R s pat a o ft 0) := HM.out.below B2.out
  clear hb1 hb2 cR cK c0 c1 c2 c3 c4 c5
  go_wp2_with fail
  go_at_call 158
  refine (cL.out _ M2.out).mono ?_
  intro x w3 hR
  obtain ⟨vo, vn, vc, rfl⟩ := hR.val
  have HR2 : Hid (RRes W R s pat a o ft X (.returned (.slice vo vn vc)) w3) := hR.move (gr_of_below B2.out _) (Nat.le_refl _)
  clear hR
  go_wp2_with fail
  go_ret
  exact HR2.out

set_option maxRecDepth 20000 in
set_option maxHeartbeats 8000000 in
theorem atom_no (s : ByteArray) (pat : Bool) (hs : s.size ≤ 4096) (W : World) (R a o ft : Nat) (hM : RdM W R s pat a o ft 0) (ha : a ≤ s.size) (t : Tk) (h : psFrom s pat mx63 a = .ok t) (h97 : t.what ≠ 97) (h48 : t.what ≠ 48) (h64 : t.what ≠ 64) (h40 : t.what ≠ 40) :
    Calls Tryd.prog 159 #[.pointer (some ⟨R, 0, none⟩)] W fun e w' => RRes W R s pat a o ft (.bad a 6) e w' := by
  obtain ⟨c0, c1, c2, c3, c4, c5⟩ := hM.cells
  have HM : Hid (RdM W R s pat a o ft 0) := hM
  have hs0 : s.size ≤ maxLen := by unfold maxLen; omega
  have cR : Hid (∀ W', Calls Tryd.prog 58 #[.string s, .int .i64 (a : Int)] W' fun e w' => e = .returned (.int .i32 (rn s a)) ∧ Below W'.heap.size W' w') := fun W' => refRune_any s a W' hs0 ha
  have cK : Hid (∀ W', Calls Tryd.prog 57 #[.int .i32 (rn s a)] W' fun e w' => e = .returned (.int .i64 (kd (rn s a))) ∧ Below W'.heap.size W' w') := fun W' => by
    have := refKind_any (rn s a) W'
    rw [← kd_eq] at this
    exact this
  have hkn := tok_no h h97 h48
  have hk1 : (kd (rn s a) == 1) = false := by rw [beq_eq_false_iff_ne]; exact hkn.1
  have hk2 : (kd (rn s a) == 2) = false := by rw [beq_eq_false_iff_ne]; exact hkn.2
  have cI64 : Hid (∀ W', RdM W' R s pat a o ft 0 → Calls Tryd.prog 127 #[.pointer (some ⟨R, 0, none⟩), .string ⟨#[64]⟩] W' fun x w' => x = .returned (.bool (decide (t.what = 64))) ∧ Below W'.heap.size W' w') := fun W' h' => by
    have := is_some W' R s pat a o ft h' hs ha ⟨#[64]⟩ _ _ (sg_ok h)
    rw [decide_eq_decide.2 (txt_whats t.what (from_what h)).2.2.2.2.1] at this
    exact this
  have cI40 : Hid (∀ W', RdM W' R s pat a o ft 0 → Calls Tryd.prog 127 #[.pointer (some ⟨R, 0, none⟩), .string ⟨#[40]⟩] W' fun x w' => x = .returned (.bool (decide (t.what = 40))) ∧ Below W'.heap.size W' w') := fun W' h' => by
    have := is_some W' R s pat a o ft h' hs ha ⟨#[40]⟩ _ _ (sg_ok h)
    rw [decide_eq_decide.2 (txt_whats t.what (from_what h)).2.2.2.2.2.1] at this
    exact this
  rw [decide_eq_false h64] at cI64
  rw [decide_eq_false h40] at cI40
  have cF : Hid (∀ W', RdM W' R s pat a o ft 0 → Calls Tryd.prog 100 #[.pointer (some ⟨R, 0, none⟩), .int .i64 (a : Int), .int .i64 6] W' fun x w' => x = .returned (.slice none 0 0) ∧ RdM w' R s pat a o a 6 ∧ W'.grownBy w' (some R)) := fun W' h' => rfail_any W' R s pat a o ft 0 h' a 6
  clear h hM hkn h97 h48 h64 h40
  generalize kd (rn s a) = kq at *
  generalize rn s a = r at *
  go_enter Tryd.func159, Tryd.ntmps159
  go_wp2_with fail
  go_at_call 58
  refine (cR.out _).mono ?_
  rintro x w1 ⟨rfl, hb1⟩
  go_wp2_with fail
  go_at_call 57
  refine (cK.out _).mono ?_
  rintro x w2 ⟨rfl, hb2⟩
  have B2 : Hid (Below W.heap.size W w2) := hb1.trans (hb2.mono hb1.size)
  have M2 : Hid (RdM w2 R s pat a o ft 0) := HM.out.below B2.out
  clear hb1 hb2 cR cK c0 c1 c2 c3 c4 c5
  go_wp2_with fail
  go_at_call 127
  refine (cI64.out _ M2.out).mono ?_
  rintro x w3 ⟨rfl, hb3⟩
  have B3 : Hid (Below W.heap.size W w3) := B2.out.trans (hb3.mono B2.out.size)
  have M3 : Hid (RdM w3 R s pat a o ft 0) := M2.out.below hb3
  clear hb3
  go_wp2_with fail
  go_at_call 127
  refine (cI40.out _ M3.out).mono ?_
  rintro x w4 ⟨rfl, hb4⟩
  have B4 : Hid (Below W.heap.size W w4) := B3.out.trans (hb4.mono B3.out.size)
  have M4 : Hid (RdM w4 R s pat a o ft 0) := M3.out.below hb4
  clear hb4
  go_wp2_with fail
  go_at_call 100
  refine (cF.out _ M4.out).mono ?_
  rintro x w5 ⟨rfl, hm5, hg5⟩
  have HX : Hid (RdM w5 R s pat a o a 6 ∧ W.grownBy w5 (some R)) := ⟨hm5, (gr_of_below B4.out _).trans hg5⟩
  clear hm5 hg5
  go_wp2_with fail
  go_ret
  exact ⟨_, [], _, _, rfl, OwnN_nil _ _, BadL.nil ha, HX.out.1, by decide, HX.out.2⟩

set_option maxRecDepth 20000 in
set_option maxHeartbeats 8000000 in
theorem atom_hole (s : ByteArray) (pat : Bool) (hs : s.size ≤ 4096) (W : World) (R a o ft : Nat) (hM : RdM W R s pat a o ft 0) (ha : a ≤ s.size) (t : Tk) (h : psFrom s pat mx63 a = .ok t) (h97 : t.what ≠ 97) (h48 : t.what ≠ 48) (h64 : t.what = 64) :
    Calls Tryd.prog 159 #[.pointer (some ⟨R, 0, none⟩)] W fun e w' => RRes W R s pat a o ft ((psFrom s pat mx63 (skp s t.to)).bind fun t1 => rdNamed s 18 t1) e w' := by
  obtain ⟨c0, c1, c2, c3, c4, c5⟩ := hM.cells
  have HM : Hid (RdM W R s pat a o ft 0) := hM
  have hs0 : s.size ≤ maxLen := by unfold maxLen; omega
  have cR : Hid (∀ W', Calls Tryd.prog 58 #[.string s, .int .i64 (a : Int)] W' fun e w' => e = .returned (.int .i32 (rn s a)) ∧ Below W'.heap.size W' w') := fun W' => refRune_any s a W' hs0 ha
  have cK : Hid (∀ W', Calls Tryd.prog 57 #[.int .i32 (rn s a)] W' fun e w' => e = .returned (.int .i64 (kd (rn s a))) ∧ Below W'.heap.size W' w') := fun W' => by
    have := refKind_any (rn s a) W'
    rw [← kd_eq] at this
    exact this
  have hkn := tok_no h h97 h48
  have hk1 : (kd (rn s a) == 1) = false := by rw [beq_eq_false_iff_ne]; exact hkn.1
  have hk2 : (kd (rn s a) == 2) = false := by rw [beq_eq_false_iff_ne]; exact hkn.2
  have cI64 : Hid (∀ W', RdM W' R s pat a o ft 0 → Calls Tryd.prog 127 #[.pointer (some ⟨R, 0, none⟩), .string ⟨#[64]⟩] W' fun x w' => x = .returned (.bool (decide (t.what = 64))) ∧ Below W'.heap.size W' w') := fun W' h' => by
    have := is_some W' R s pat a o ft h' hs ha ⟨#[64]⟩ _ _ (sg_ok h)
    rw [decide_eq_decide.2 (txt_whats t.what (from_what h)).2.2.2.2.1] at this
    exact this
  have cI40 : Hid (∀ W', RdM W' R s pat a o ft 0 → Calls Tryd.prog 127 #[.pointer (some ⟨R, 0, none⟩), .string ⟨#[40]⟩] W' fun x w' => x = .returned (.bool (decide (t.what = 40))) ∧ Below W'.heap.size W' w') := fun W' h' => by
    have := is_some W' R s pat a o ft h' hs ha ⟨#[40]⟩ _ _ (sg_ok h)
    rw [decide_eq_decide.2 (txt_whats t.what (from_what h)).2.2.2.2.2.1] at this
    exact this
  rw [decide_eq_true h64] at cI64
  have hto := ((from_at ha h).good ((from_at ha h).sign h48 h97))
  have hsk := skp_in hto.2.1
  have hab : a ≤ skp s t.to := by omega
  have cT : Hid (∀ W', RdM W' R s pat a o ft 0 → Calls Tryd.prog 128 #[.pointer (some ⟨R, 0, none⟩)] W' fun x w' => x = .returned (.tuple #[]) ∧ RdM w' R s pat (skp s t.to) o ft 0 ∧ W'.grownBy w' (some R)) := fun W' h' => take_ok s pat hs W' R a o ft h' ha t h (by rw [h64]; decide) h48 h97
  have cN : Hid (∀ W', RdM W' R s pat (skp s t.to) o ft 0 → Calls Tryd.prog 174 #[.pointer (some ⟨R, 0, none⟩), .int .i64 18] W' fun e w' => RRes W' R s pat (skp s t.to) o ft ((psFrom s pat mx63 (skp s t.to)).bind fun t1 => rdNamed s 18 t1) e w') := fun W' h' => rname_any s pat hs 18 W' R _ o ft h' hsk.2
  generalize (psFrom s pat mx63 (skp s t.to)).bind (fun t1 => rdNamed s 18 t1) = X at *
  clear h hM hkn h97 h48 h64 cI40 hto
  generalize skp s t.to = b at *
  generalize kd (rn s a) = kq at *
  generalize rn s a = r at *
  go_enter Tryd.func159, Tryd.ntmps159
  go_wp2_with fail
  go_at_call 58
  refine (cR.out _).mono ?_
  rintro x w1 ⟨rfl, hb1⟩
  go_wp2_with fail
  go_at_call 57
  refine (cK.out _).mono ?_
  rintro x w2 ⟨rfl, hb2⟩
  have B2 : Hid (Below W.heap.size W w2) := hb1.trans (hb2.mono hb1.size)
  have M2 : Hid (RdM w2 R s pat a o ft 0) := HM.out.below B2.out
  clear hb1 hb2 cR cK c0 c1 c2 c3 c4 c5
  go_wp2_with fail
  go_at_call 127
  refine (cI64.out _ M2.out).mono ?_
  rintro x w3 ⟨rfl, hb3⟩
  have B3 : Hid (Below W.heap.size W w3) := B2.out.trans (hb3.mono B2.out.size)
  have M3 : Hid (RdM w3 R s pat a o ft 0) := M2.out.below hb3
  clear hb3
  go_wp2_with fail
  go_at_call 128
  refine (cT.out _ M3.out).mono ?_
  rintro x w4 ⟨rfl, hm4, hg4⟩
  have M4 : Hid (RdM w4 R s pat b o ft 0) := hm4
  have G4 : Hid (W.grownBy w4 (some R)) := (gr_of_below B3.out _).trans hg4
  clear hm4 hg4
  go_wp2_with fail
  go_at_call 174
  refine (cN.out _ M4.out).mono ?_
  intro x w5 hR
  obtain ⟨vo, vn, vc, rfl⟩ := hR.val
  have HR2 : Hid (RRes W R s pat a o ft X (.returned (.slice vo vn vc)) w5) := hR.move G4.out hab
  clear hR
  go_wp2_with fail
  go_ret
  exact HR2.out

end Go.Proofs.YtjmccobblpcbhaaDoor
