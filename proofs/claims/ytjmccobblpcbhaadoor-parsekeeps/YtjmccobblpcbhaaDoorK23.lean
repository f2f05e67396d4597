/-
  RrUnW.
-/
import Derived.Shelf.Unicode.DecodeSlow
import Derived.Laws.RangeAny
import Derived.Shelf.Strings.Builder1
import Derived.Shelf.Small.Utf8
import Derived.Shelf.Small.Bits
import Derived.Shelf.Strings.BuilderF
import Derived.Shelf.Strings.BuilderK
import Derived.Shelf.Strings.BuilderRune
import Derived.Shelf.Utf8.AppendRune
import Derived.Shelf.Strconv.Itoa0
import Derived.Shelf.Strconv.Itoa1
import Derived.Shelf.LaysM
import Derived.Shelf.Strconv.Itoa2
import Derived.Shelf.Strconv.Itoa3
import Derived.Shelf.Strconv.Itoa4
import Derived.Shelf.Strings.Prefix
import Derived.Shelf.Unicode.DecodeAny
import Derived.Test.YtjmccobblpcbhaaDoorProg
import Derived.WalkKit
import Derived.Deep.DeepFit
import Derived.Lib.OthersKept
import Derived.Lib.RuneCountTail
import Derived.Lib.Small
import Derived.Lib.Strings
import Derived.Lib.MapLaws
import Derived.Deep.AppendLies
import Derived.Deep.OwnRows
import Derived.Laws.AppendOwnNone
import Derived.Deep.QuietTactic
import Derived.BigQuiet
import Derived.Deep.RegionWith
import Derived.Laws.DeepStrings4
import Derived.Deep.RegionHeld3
import Derived.Laws.ResultCell
import Derived.Lib.QuietBelow
import Derived.Deep.Heap
import Derived.Laws.Rows
import Derived.Below
import Derived.StillTail
import Derived.Sort.Walk0
import Derived.Deep.RegionLaw
import Derived.Laws.OwnMore
import Derived.Test.YtjmccobblpcbhaaDoorK01
import Derived.Test.YtjmccobblpcbhaaDoorK02
import Derived.Test.YtjmccobblpcbhaaDoorK03
import Derived.Test.YtjmccobblpcbhaaDoorK04
import Derived.Test.YtjmccobblpcbhaaDoorK05
import Derived.Test.YtjmccobblpcbhaaDoorK06
import Derived.Test.YtjmccobblpcbhaaDoorK07
import Derived.Test.YtjmccobblpcbhaaDoorK08
import Derived.Test.YtjmccobblpcbhaaDoorK09
import Derived.Test.YtjmccobblpcbhaaDoorK10
import Derived.Test.YtjmccobblpcbhaaDoorK11
import Derived.Test.YtjmccobblpcbhaaDoorK12
import Derived.Test.YtjmccobblpcbhaaDoorK13
import Derived.Test.YtjmccobblpcbhaaDoorK14
import Derived.Test.YtjmccobblpcbhaaDoorK15
import Derived.Test.YtjmccobblpcbhaaDoorK16
import Derived.Test.YtjmccobblpcbhaaDoorK17
import Derived.Test.YtjmccobblpcbhaaDoorK18
import Derived.Test.YtjmccobblpcbhaaDoorK19
import Derived.Test.YtjmccobblpcbhaaDoorK20
import Derived.Test.YtjmccobblpcbhaaDoorK21
import Derived.Test.YtjmccobblpcbhaaDoorK22
set_option linter.unusedSimpArgs false
set_option linter.unusedVariables false
namespace Go.Proofs.YtjmccobblpcbhaaDoor
open Go.RowKit Go.Lib Go.Sort

theorem rdX_ok {s : ByteArray} {pat : Bool} {f : Nat} {q : RdQ} {a o : Nat} {t : Tk} (h : psFrom s pat mx63 a = .ok t) : rdX s pat f q a o = rdRun s pat f q t o := by
  unfold rdX; rw [h]; rfl
theorem rdX_bad {s : ByteArray} {pat : Bool} {f : Nat} {q : RdQ} {a o p : Nat} {er : Int} (h : psFrom s pat mx63 a = .bad p er) : rdX s pat f q a o = .bad p er := by
  unfold rdX; rw [h]; rfl
theorem sign_ok (s : ByteArray) (pat : Bool) (hs : s.size ≤ 4096) (W : World) (R a o ft : Nat) (hM : RdM W R s pat a o ft 0) (ha : a ≤ s.size) (t : Tk) (h : psFrom s pat mx63 a = .ok t) :
    Calls Tryd.prog 99 #[.pointer (some ⟨R, 0, none⟩)] W fun x w' => x = .returned (.tuple #[.string (sgW t.what), .int .i64 ((if t.what = 0 ∨ t.what = 48 ∨ t.what = 97 then 0 else t.to - a : Nat) : Int)]) ∧ Below W.heap.size W w' := by
  have C := sign_any W R s pat a o ft 0 hM hs ha
  rw [sg_ok h] at C
  exact C
theorem sign_no (s : ByteArray) (pat : Bool) (hs : s.size ≤ 4096) (W : World) (R a o ft : Nat) (hM : RdM W R s pat a o ft 0) (ha : a ≤ s.size) (h : sgR s pat a = none) :
    Calls Tryd.prog 99 #[.pointer (some ⟨R, 0, none⟩)] W fun x w' => x = .returned (.tuple #[.string ⟨#[]⟩, .int .i64 0]) ∧ RdM w' R s pat a o a 5 ∧ W.grownBy w' (some R) := by
  have C := sign_any W R s pat a o ft 0 hM hs ha
  rw [h] at C
  exact C

set_option maxRecDepth 20000 in
set_option maxHeartbeats 8000000 in
theorem un_bad (s : ByteArray) (pat : Bool) (hs : s.size ≤ 4096) (f : Nat) (W : World) (R a o ft : Nat) (hM : RdM W R s pat a o ft 0) (ha : a ≤ s.size) (p : Nat) (er : Int) (h : psFrom s pat mx63 a = .bad p er) :
    Calls Tryd.prog 145 #[.pointer (some ⟨R, 0, none⟩)] W fun e w' => RRes W R s pat a o ft (.bad p er) e w' := by
  obtain ⟨rfl, rfl, hsg⟩ := sg_bad h
  have D := sign_no s pat hs W R p o ft hM ha hsg
  clear h hM hsg
  go_enter Tryd.func145, Tryd.ntmps145
  go_wp2_with fail
  refine D.mono ?_
  rintro x w1 ⟨rfl, hm1, hg1⟩
  obtain ⟨c0, c1, c2, c3, c4, c5⟩ := hm1.cells
  have HM1 : Hid (RdM w1 R s pat p o p 5) := hm1
  clear D hm1
  go_wp2_with fail
  go_ret
  exact ⟨_, [], p, o, rfl, OwnN_nil _ _, BadL.nil ha, HM1.out, by decide, hg1⟩

theorem sg_eq {c : Int} (h : c ∈ whats) : ((sgW c).toList == [45]) = decide (c = 45) ∧ ((sgW c).toList == [126]) = decide (c = 126) ∧ ((sgW c).toList == [63]) = decide (c = 63) ∧ ((sgW c).toList == [58]) = decide (c = 58) ∧ ((sgW c).toList == [64]) = decide (c = 64) ∧ ((sgW c).toList == [40]) = decide (c = 40) ∧ ((sgW c).toList == [41]) = decide (c = 41) := by
  have hw := txt_whats c h
  have k : ∀ b : UInt8, ((sgW c).toList == [b]) = decide (sgW c = ⟨#[b]⟩) := fun b => by
    have := beq_toL (sgW c) ⟨#[b]⟩
    rw [show (⟨#[b]⟩ : ByteArray).toList = [b] by rw [toList_data] ] at this
    exact this
  rw [k, k, k, k, k, k, k]
  refine ⟨?_, ?_, ?_, ?_, ?_, ?_, ?_⟩
  · exact decide_eq_decide.2 hw.2.2.1
  · exact decide_eq_decide.2 hw.2.2.2.1
  · exact decide_eq_decide.2 hw.1
  · exact decide_eq_decide.2 hw.2.1
  · exact decide_eq_decide.2 hw.2.2.2.2.1
  · exact decide_eq_decide.2 hw.2.2.2.2.2.1
  · exact decide_eq_decide.2 hw.2.2.2.2.2.2
theorem tk_n {s : ByteArray} {a : Nat} {t : Tk} (ht : TkA s a t) (h0 : t.what ≠ 0) (h1 : t.what ≠ 48) (h2 : t.what ≠ 97) : ∃ n : Nat, (if t.what = 0 ∨ t.what = 48 ∨ t.what = 97 then 0 else t.to - a : Nat) = n ∧ a + n = t.to ∧ t.to ≤ s.size ∧ a < t.to := by
  obtain ⟨g1, g2, g3⟩ := ht.good (ht.sign h1 h2)
  have := g3 h0
  refine ⟨t.to - a, if_neg ?_, by omega, g2, by omega⟩
  rintro (h | h | h)
  · exact h0 h
  · exact h1 h
  · exact h2 h
theorem take_ok (s : ByteArray) (pat : Bool) (hs : s.size ≤ 4096) (W : World) (R a o ft : Nat) (hM : RdM W R s pat a o ft 0) (ha : a ≤ s.size) (t : Tk) (h : psFrom s pat mx63 a = .ok t) (h0 : t.what ≠ 0) (h1 : t.what ≠ 48) (h2 : t.what ≠ 97) :
    Calls Tryd.prog 128 #[.pointer (some ⟨R, 0, none⟩)] W fun x w' => x = .returned (.tuple #[]) ∧ RdM w' R s pat (skp s t.to) o ft 0 ∧ W.grownBy w' (some R) := by
  obtain ⟨n, e1, e2, e3, _⟩ := tk_n (from_at ha h) h0 h1 h2
  have hsg := sg_ok h
  rw [e1] at hsg
  have := take_any W R s pat a o ft 0 hM hs ha (sgW t.what) n hsg (by omega)
  rw [e2] at this
  exact this

theorem RRes.move {W w2 : World} {R : Nat} {s : ByteArray} {pat : Bool} {a b o ft : Nat} {X : Pr (List Nd × Nat)} {e : Ending} {w' : World} (h : RRes w2 R s pat b o ft X e w') (hg : W.grownBy w2 (some R)) (hab : a ≤ b) : RRes W R s pat a o ft X e w' := by
  cases X with
  | ok r =>
    obtain ⟨v, h1, h2, h3, h4⟩ := h
    exact ⟨v, h1, h2.lower hg.size, h3, hg.trans h4⟩
  | bad p er =>
    obtain ⟨v, l, a', o', h1, h2, h3, h4, h5, h6⟩ := h
    exact ⟨v, l, a', o', h1, h2.lower hg.size, h3.from_ hab, h4, h5, hg.trans h6⟩
  | out => exact h

set_option maxRecDepth 20000 in
set_option maxHeartbeats 8000000 in
theorem un_atom (s : ByteArray) (pat : Bool) (hs : s.size ≤ 4096) (f : Nat) (ih : RdC s pat f) (W : World) (R a o ft : Nat) (hM : RdM W R s pat a o ft 0) (ha : a ≤ s.size) (ho : o ≤ 100) (t : Tk) (h : psFrom s pat mx63 a = .ok t) (h45 : t.what ≠ 45) (h126 : t.what ≠ 126) (hno : rdX s pat f .atom a o ≠ .out) :
    Calls Tryd.prog 145 #[.pointer (some ⟨R, 0, none⟩)] W fun e w' => RRes W R s pat a o ft (rdX s pat f .atom a o) e w' := by
  have D := sign_ok s pat hs W R a o ft hM ha t h
  have hw := sg_eq (from_what h)
  generalize (if t.what = 0 ∨ t.what = 48 ∨ t.what = 97 then 0 else t.to - a : Nat) = n at *
  have e1 : ((sgW t.what).toList == [45]) = false := by rw [hw.1, decide_eq_false_iff_not]; exact h45
  have e2 : ((sgW t.what).toList == [126]) = false := by rw [hw.2.1, decide_eq_false_iff_not]; exact h126
  clear hw
  generalize sgW t.what = T at *
  have HM : Hid (RdM W R s pat a o ft 0) := hM
  have CA : Hid (∀ W', RdM W' R s pat a o ft 0 → Calls Tryd.prog 159 #[.pointer (some ⟨R, 0, none⟩)] W' fun e w' => RRes W' R s pat a o ft (rdX s pat f .atom a o) e w') := fun W' h' => ih.atom W' R a o ft t h h' ha ho hno
  clear h hM hno h45 h126 ih
  generalize rdX s pat f .atom a o = X at *
  go_enter Tryd.func145, Tryd.ntmps145
  go_wp2_with fail
  refine D.mono ?_
  rintro x w1 ⟨rfl, hb1⟩
  have M1 : Hid (RdM w1 R s pat a o ft 0) := HM.out.below hb1
  obtain ⟨c0, c1, c2, c3, c4, c5⟩ := M1.out.cells
  clear D
  go_wp2_with fail
  refine wp_region_quiet_below (by kernel_rfl) (by kernel_rfl) ?_
  iterate 17 (go_big_quiet_step (fail))
  refine wpQuiet_nil ?_
  intro _ hw'
  obtain ⟨⟨ds, oss⟩, hw''⟩ := hw'
  subst hw''
  have b' := below_regrown w1 ds oss
  have M2 : Hid (RdM (grow (redrawn w1 ds) oss) R s pat a o ft 0) := M1.out.below b'
  have B2 : Hid (Below W.heap.size W (grow (redrawn w1 ds) oss)) := hb1.trans (b'.mono hb1.size)
  generalize grow (redrawn w1 ds) oss = w2 at *
  clear b' c0 c1 c2 c3 c4 c5
  go_wp2_with fail
  go_at_call 159
  refine (CA.out _ M2.out).mono ?_
  intro x w3 hR
  have hR2 : RRes W R s pat a o ft X x w3 := hR.move (gr_of_below B2.out _) (Nat.le_refl _)
  have HR2 : Hid (RRes W R s pat a o ft X x w3) := hR2
  obtain ⟨v, rfl⟩ : ∃ v, x = .returned v := by
    cases X with
    | ok r => obtain ⟨v, h1, _⟩ := hR; exact ⟨v, h1⟩
    | bad p er => obtain ⟨v, l, a', o', h1, _⟩ := hR; exact ⟨v, h1⟩
    | out => cases hR
  clear hR hR2
  go_wp2_with fail
  go_ret
  exact HR2.out

/-! ### A number behind the minus -/
theorem num_err (s : ByteArray) (z : Int) : ∀ (f pos n : Nat), (nuF s z f pos n).2.2 = 0 ∨ (nuF s z f pos n).2.2 = 10
  | 0, pos, n => by rw [nuF]; left; rfl
  | f + 1, pos, n => by
    by_cases h : pos < s.size
    · by_cases hz : digZ (Utf8.decode s pos).1 = z
      · by_cases hl : 18446744073709551615 < n * 10 + (digV (Utf8.decode s pos).1).toNat
        · rw [nuF_large s z f pos n h hz hl]; exact .inr rfl
        · rw [nuF_on s z f pos n h hz hl]; exact num_err s z f _ _
      · rw [nuF_off s z _ pos n hz]; exact .inl rfl
    · rw [nuF_end s z _ pos n h]; exact .inl rfl
theorem num_cases (s : ByteArray) (p : Nat) (hp : p ≤ s.size) : (kd (rn s p) = 2 ∧ ((numI s p).2.2 = 0 ∨ (numI s p).2.2 = 10)) ∨ (kd (rn s p) ≠ 2 ∧ (numI s p).2.2 = 11) := by
  have e : numI s p = numP s p := by unfold numI; rw [if_neg (by omega)]; rfl
  rw [e]
  unfold numP
  by_cases hz : digZ (rn s p) = 0
  · right
    rw [if_pos hz]
    exact ⟨fun h => (kd_two _).1 h hz, rfl⟩
  · left
    rw [if_neg hz]
    exact ⟨(kd_two _).2 hz, num_err s _ _ _ _⟩
theorem kd_lt {s : ByteArray} {p : Nat} (h : kd (rn s p) = 2) : p < s.size := by
  refine Decidable.byContradiction fun c => ?_
  have : rn s p = -1 := by unfold rn; rw [if_neg c]
  rw [this] at h
  exact absurd h (by decide +kernel)
theorem skp_here {s : ByteArray} {p : Nat} (hp : p < s.size) (h : kd (Utf8.decode s p).1 ≠ 3) : skp s p = p := by
  unfold skp
  obtain ⟨g, hg⟩ : ∃ g, s.size = g + 1 := ⟨s.size - 1, by omega⟩
  rw [hg]
  simp only [psSkip]
  rw [if_pos hp, if_neg h]
theorem from_num {s : ByteArray} {pat : Bool} {m p : Nat} (hp : p < s.size) (h : kd (Utf8.decode s p).1 = 2) : psFrom s pat m p = .ok ⟨48, p, (numI s p).2.1, (numI s p).1, if m < (numI s p).1 then 10 else (numI s p).2.2⟩ := by
  unfold psFrom psAt
  rw [if_pos hp, if_neg (by rw [h]; decide), if_pos h]
def nuB (v : Nat) (er : Int) : Bool := decide (er = 0) && decide (v ≤ 9223372036854775808)
theorem nuB_iff (v : Nat) (er : Int) : nuB v er = true ↔ nuOk v er true := by
  unfold nuB nuOk; simp
/-- What a number behind a minus comes to. -/
theorem lit_neg (s : ByteArray) (pat : Bool) (p : Nat) (h : kd (rn s p) = 2) :
    ((psFrom s pat (mx63 + 1) (skp s p)).bind fun t1 => rdLit s (-(t1.n : Int)) t1) = if nuB (numI s p).1 (numI s p).2.2 = true then .ok ([⟨1, -((numI s p).1 : Int), ⟨#[]⟩, []⟩], skp s (numI s p).2.1) else .bad p 10 := by
  have hp := kd_lt h
  have h2 := h
  rw [kd_rn s p hp] at h2
  rw [skp_here hp (by rw [h2]; decide), from_num hp h2]
  simp only [Pr.bind, rdLit, if_true]
  rcases num_cases s p (by omega) with ⟨_, hc⟩ | ⟨hc, _⟩
  · unfold nuB mx63
    by_cases hm : 9223372036854775807 + 1 < (numI s p).1
    · rw [if_pos hm, if_neg (by decide), decide_eq_false (p := (numI s p).1 ≤ 9223372036854775808) (by omega), Bool.and_false, if_neg (by decide)]
    · rw [if_neg hm, decide_eq_true (p := (numI s p).1 ≤ 9223372036854775808) (by omega), Bool.and_true]
      rcases hc with hc | hc
      · rw [hc, if_pos rfl, decide_eq_true rfl, if_pos rfl]
      · rw [hc, if_neg (by decide), if_neg (by decide)]
  · exact absurd h hc

set_option maxRecDepth 20000 in
set_option maxHeartbeats 8000000 in
theorem un_num (s : ByteArray) (pat : Bool) (hs : s.size ≤ 4096) (W : World) (R a o ft : Nat) (hM : RdM W R s pat a o ft 0) (ha : a ≤ s.size) (t : Tk) (h : psFrom s pat mx63 a = .ok t) (h45 : t.what = 45) (hk : kd (rn s t.to) = 2) :
    Calls Tryd.prog 145 #[.pointer (some ⟨R, 0, none⟩)] W fun e w' => RRes W R s pat a o ft (if nuB (numI s t.to).1 (numI s t.to).2.2 = true then .ok ([⟨1, -((numI s t.to).1 : Int), ⟨#[]⟩, []⟩], skp s (numI s t.to).2.1) else .bad t.to 10) e w' := by
  have D := sign_ok s pat hs W R a o ft hM ha t h
  have hw := sg_eq (from_what h)
  obtain ⟨n, en, ean, hto, hlt⟩ := tk_n (from_at ha h) (by rw [h45]; decide) (by rw [h45]; decide) (by rw [h45]; decide)
  rw [en] at D
  have e1 : ((sgW t.what).toList == [45]) = true := by rw [hw.1, decide_eq_true_eq]; exact h45
  clear hw en
  generalize sgW t.what = T at *
  have HM : Hid (RdM W R s pat a o ft 0) := hM
  have hs0 : s.size ≤ maxLen := by unfold maxLen; omega
  have eC : ((a + n : Nat) : Int) = (a : Int) + (n : Int) := by omega
  have cR : Hid (∀ W', Calls Tryd.prog 58 #[.string s, .int .i64 ((a : Int) + (n : Int))] W' fun e w' => e = .returned (.int .i32 (rn s t.to)) ∧ Below W'.heap.size W' w') := fun W' => by
    have := refRune_any s (a + n) W' hs0 (by omega)
    rw [eC, ean] at this
    exact this
  have cK : Hid (∀ W', Calls Tryd.prog 57 #[.int .i32 (rn s t.to)] W' fun e w' => e = .returned (.int .i64 2) ∧ Below W'.heap.size W' w') := fun W' => by
    have := refKind_any (rn s t.to) W'
    rw [← kd_eq, hk] at this
    exact this
  have hp := kd_lt hk
  have hk2 := hk
  rw [kd_rn s _ hp] at hk2
  have hin := num_in s t.to hp hk2
  have HNO := number_ok (s := s) (pat := pat) (R := R) (a := t.to) (o := o) (ft := ft) (e := 0) (minus := true)
  have HNB := number_bad (s := s) (pat := pat) (R := R) (a := t.to) (o := o) (ft := ft) (minus := true)
  obtain ⟨⟨v, b, er⟩, hv⟩ : ∃ q, numI s t.to = q := ⟨_, rfl⟩
  rw [hv] at hin ⊢
  simp only at hin ⊢
  have cOk : Hid (nuOk v er true → ∀ W', RdM W' R s pat t.to o ft 0 → Calls Tryd.prog 158 #[.pointer (some ⟨R, 0, none⟩), .bool true] W' fun x w' => (∃ x', x = .returned x' ∧ OwnN w' W'.heap.size x' [⟨1, -(v : Int), ⟨#[]⟩, []⟩]) ∧ RdM w' R s pat (skp s b) o ft 0 ∧ W'.grownBy w' (some R)) := fun hok W' hM' => HNO W' hM' hs v b er hv hok (by have := hin hok.1; omega)
  have cBad : Hid (¬ nuOk v er true → ∀ W', RdM W' R s pat t.to o ft 0 → Calls Tryd.prog 158 #[.pointer (some ⟨R, 0, none⟩), .bool true] W' fun x w' => x = .returned (.slice none 0 0) ∧ RdM w' R s pat t.to o t.to 10 ∧ W'.grownBy w' (some R)) := fun hok W' hM' => HNB W' hM' hs v b er hv hok
  obtain ⟨X, hX⟩ : ∃ X : Pr (List Nd × Nat), (if nuB v er = true then .ok ([⟨1, -(v : Int), ⟨#[]⟩, []⟩], skp s b) else .bad t.to 10) = X := ⟨_, rfl⟩
  have HX0 : Hid ((if nuB v er = true then .ok ([⟨1, -(v : Int), ⟨#[]⟩, []⟩], skp s b) else .bad t.to 10) = X) := hX
  rw [hX]
  clear hX
  have HAN : Hid (a + n = t.to) := ean
  have han : (a : Int) + (n : Int) ≤ 4096 := by omega
  clear h hM h45 hk hk2 HNO HNB hin hv eC ean hp
  generalize rn s t.to = r at *
  go_enter Tryd.func145, Tryd.ntmps145
  go_wp2_with fail
  refine D.mono ?_
  rintro x w1 ⟨rfl, hb1⟩
  have M1 : Hid (RdM w1 R s pat a o ft 0) := HM.out.below hb1
  obtain ⟨c0, c1, c2, c3, c4, c5⟩ := M1.out.cells
  have g0 := cell_regrown c0
  have g2 := cell_regrown c2
  clear D
  go_wp2_with fail
  refine wp_region_quiet_below (by kernel_rfl) (by kernel_rfl) ?_
  iterate 17 (go_big_quiet_step (first | (go_at_call 58; exact Calls.regrown_of (cR.out _)) | (go_at_call 57; exact Calls.regrown_of (cK.out _))))
  refine wpQuiet_nil ?_
  intro _ hw'
  obtain ⟨⟨ds, oss⟩, hw''⟩ := hw'
  subst hw''
  have b' := below_regrown w1 ds oss
  have M2 : Hid (RdM (grow (redrawn w1 ds) oss) R s pat a o ft 0) := M1.out.below b'
  have B2 : Hid (Below W.heap.size W (grow (redrawn w1 ds) oss)) := hb1.trans (b'.mono hb1.size)
  generalize grow (redrawn w1 ds) oss = w2 at *
  clear c0 c1 c2 c3 c4 c5 g0 g2
  obtain ⟨d0, d1, d2, d3, d4, d5⟩ := M2.out.cells
  have df := M2.out.frozen 2
  have hl := M2.out.lt
  have M3 : Hid (RdM (w2.setCell ⟨R, 2, none⟩ (.int .i64 ((a : Int) + (n : Int)))) R s pat t.to o ft 0) := by
    have := M2.out.at_ (a + n)
    rw [show ((a + n : Nat) : Int) = (a : Int) + (n : Int) by omega, HAN.out] at this
    exact this
  have G3 : Hid (W.grownBy (w2.setCell ⟨R, 2, none⟩ (.int .i64 ((a : Int) + (n : Int)))) (some R)) := gr_setB (gr_of_below B2.out _)
  by_cases hok : nuOk v er true
  · have HE : Hid (X = .ok ([⟨1, -(v : Int), ⟨#[]⟩, []⟩], skp s b)) := by show X = _; rw [← HX0.out, if_pos ((nuB_iff v er).2 hok)]
    have cO := cOk.out hok
    have HO : Hid (∀ W', RdM W' R s pat t.to o ft 0 → Calls Tryd.prog 158 #[.pointer (some ⟨R, 0, none⟩), .bool true] W' fun x w' => (∃ x', x = .returned x' ∧ OwnN w' W'.heap.size x' [⟨1, -(v : Int), ⟨#[]⟩, []⟩]) ∧ RdM w' R s pat (skp s b) o ft 0 ∧ W'.grownBy w' (some R)) := cO
    clear cO cOk cBad hok
    go_wp2_with fail
    go_at_call 158
    refine (HO.out _ M3.out).mono ?_
    rintro x w3 ⟨⟨x', rfl, hO3⟩, hm3, hg3⟩
    have HX : Hid (OwnN w3 W.heap.size x' [⟨1, -(v : Int), ⟨#[]⟩, []⟩] ∧ RdM w3 R s pat (skp s b) o ft 0 ∧ W.grownBy w3 (some R)) := ⟨hO3.lower G3.out.size, hm3, G3.out.trans hg3⟩
    clear hO3 hm3 hg3
    go_wp2_with fail
    go_ret
    rw [HE.out]
    exact ⟨_, rfl, HX.out.1, HX.out.2.1, HX.out.2.2⟩
  · have HE : Hid (X = .bad t.to 10) := by show X = _; rw [← HX0.out, if_neg (fun c => hok ((nuB_iff v er).1 c))]
    have HO : Hid (∀ W', RdM W' R s pat t.to o ft 0 → Calls Tryd.prog 158 #[.pointer (some ⟨R, 0, none⟩), .bool true] W' fun x w' => x = .returned (.slice none 0 0) ∧ RdM w' R s pat t.to o t.to 10 ∧ W'.grownBy w' (some R)) := cBad.out hok
    clear cOk cBad hok
    go_wp2_with fail
    go_at_call 158
    refine (HO.out _ M3.out).mono ?_
    rintro x w3 ⟨rfl, hm3, hg3⟩
    have HX : Hid (RdM w3 R s pat t.to o t.to 10 ∧ W.grownBy w3 (some R)) := ⟨hm3, G3.out.trans hg3⟩
    clear hm3 hg3
    go_wp2_with fail
    go_ret
    rw [HE.out]
    exact ⟨_, [], _, _, rfl, OwnN_nil _ _, BadL.nil ha, HX.out.1, by decide, HX.out.2⟩

set_option maxRecDepth 20000 in
set_option maxHeartbeats 8000000 in
theorem un_minus (s : ByteArray) (pat : Bool) (hs : s.size ≤ 4096) (f : Nat) (ih : RdC s pat f) (W : World) (R a o ft : Nat) (hM : RdM W R s pat a o ft 0) (ha : a ≤ s.size) (ho : o ≤ 100) (t : Tk) (h : psFrom s pat mx63 a = .ok t) (hc : t.what = 45) (hk : kd (rn s t.to) ≠ 2) (hno : rdX s pat f .un (skp s t.to) o ≠ .out) :
    Calls Tryd.prog 145 #[.pointer (some ⟨R, 0, none⟩)] W fun e w' => RRes W R s pat a o ft ((rdX s pat f .un (skp s t.to) o).bind fun x => .ok (jn1 3 x.1, x.2)) e w' := by
  have D := sign_ok s pat hs W R a o ft hM ha t h
  have hw := sg_eq (from_what h)
  obtain ⟨n, en, ean, hto, hlt⟩ := tk_n (from_at ha h) (by rw [hc]; decide) (by rw [hc]; decide) (by rw [hc]; decide)
  rw [en] at D
  have e1 : ((sgW t.what).toList == [45]) = true := by rw [hw.1, hc]; decide
  have e2 : ((sgW t.what).toList == [126]) = false := by rw [hw.2.1, hc]; decide
  have hsk := skp_in hto
  have cT : Hid (∀ W', RdM W' R s pat a o ft 0 → Calls Tryd.prog 128 #[.pointer (some ⟨R, 0, none⟩)] W' fun x w' => x = .returned (.tuple #[]) ∧ RdM w' R s pat (skp s t.to) o ft 0 ∧ W'.grownBy w' (some R)) := fun W' h' => take_ok s pat hs W' R a o ft h' ha t h (by rw [hc]; decide) (by rw [hc]; decide) (by rw [hc]; decide)
  have cU : Hid (∀ W', RdM W' R s pat (skp s t.to) o ft 0 → Calls Tryd.prog 145 #[.pointer (some ⟨R, 0, none⟩)] W' fun e w' => RRes W' R s pat (skp s t.to) o ft (rdX s pat f .un (skp s t.to) o) e w') := fun W' h' => ih.un W' R _ o ft h' hsk.2 ho hno
  have hlen : ∀ r, rdX s pat f .un (skp s t.to) o = .ok r → r.1.length + skp s t.to ≤ r.2 ∧ skp s t.to ≤ r.2 ∧ r.2 ≤ s.size ∧ KidsIn r.1 := fun r hr => rdX_len ⟨(fun _ e => by cases e), (fun _ _ e => by cases e)⟩ (fun _ _ e => by cases e) hsk.2 hr
  have HM : Hid (RdM W R s pat a o ft 0) := hM
  have hs0 : s.size ≤ maxLen := by unfold maxLen; omega
  have eC : ((a + n : Nat) : Int) = (a : Int) + (n : Int) := by omega
  have cR : Hid (∀ W', Calls Tryd.prog 58 #[.string s, .int .i64 ((a : Int) + (n : Int))] W' fun e w' => e = .returned (.int .i32 (rn s t.to)) ∧ Below W'.heap.size W' w') := fun W' => by
    have := refRune_any s (a + n) W' hs0 (by omega)
    rw [eC, ean] at this
    exact this
  have cK : Hid (∀ W', Calls Tryd.prog 57 #[.int .i32 (rn s t.to)] W' fun e w' => e = .returned (.int .i64 (kd (rn s t.to))) ∧ Below W'.heap.size W' w') := fun W' => by
    have := refKind_any (rn s t.to) W'
    rw [← kd_eq] at this
    exact this
  have hkq : (kd (rn s t.to) == 2) = false := by rw [beq_eq_false_iff_ne]; exact hk
  have han : (a : Int) + (n : Int) ≤ 4096 := by omega
  clear eC hk
  generalize kd (rn s t.to) = kq at *
  generalize rn s t.to = r at *
  have hasz : a ≤ skp s t.to := by omega
  clear hw en h hM hno ih hc
  generalize sgW t.what = T at *
  generalize skp s t.to = b at *
  generalize rdX s pat f .un b o = Y at *
  cases Y with
  | out =>
    go_enter Tryd.func145, Tryd.ntmps145
    go_wp2_with fail
    refine D.mono ?_
    rintro x w1 ⟨rfl, hb1⟩
    have M1 : Hid (RdM w1 R s pat a o ft 0) := HM.out.below hb1
    obtain ⟨c0, c1, c2, c3, c4, c5⟩ := M1.out.cells
    have g0 := cell_regrown c0
    have g2 := cell_regrown c2
    clear D
    go_wp2_with fail
    refine wp_region_quiet_below (by kernel_rfl) (by kernel_rfl) ?_
    iterate 17 (go_big_quiet_step (first | (go_at_call 58; exact Calls.regrown_of (cR.out _)) | (go_at_call 57; exact Calls.regrown_of (cK.out _))))
    refine wpQuiet_nil ?_
    intro _ hw'
    obtain ⟨⟨ds, oss⟩, hw''⟩ := hw'
    subst hw''
    have b' := below_regrown w1 ds oss
    have M2 : Hid (RdM (grow (redrawn w1 ds) oss) R s pat a o ft 0) := M1.out.below b'
    have B2 : Hid (Below W.heap.size W (grow (redrawn w1 ds) oss)) := hb1.trans (b'.mono hb1.size)
    generalize grow (redrawn w1 ds) oss = w2 at *
    clear c0 c1 c2 c3 c4 c5 g0 g2
    go_wp2_with fail
    go_at_call 128
    refine (cT.out _ M2.out).mono ?_
    rintro x w3 ⟨rfl, hm3, hg3⟩
    have M3 : Hid (RdM w3 R s pat b o ft 0) := hm3
    have G3 : Hid (W.grownBy w3 (some R)) := (gr_of_below B2.out (some R)).trans hg3
    clear hm3 hg3
    go_wp2_with fail
    go_at_call 145
    refine (cU.out _ M3.out).mono ?_
    intro x w4 hR
    cases hR
  | bad p er =>
    simp only [Pr.bind]
    go_enter Tryd.func145, Tryd.ntmps145
    go_wp2_with fail
    refine D.mono ?_
    rintro x w1 ⟨rfl, hb1⟩
    have M1 : Hid (RdM w1 R s pat a o ft 0) := HM.out.below hb1
    obtain ⟨c0, c1, c2, c3, c4, c5⟩ := M1.out.cells
    have g0 := cell_regrown c0
    have g2 := cell_regrown c2
    clear D
    go_wp2_with fail
    refine wp_region_quiet_below (by kernel_rfl) (by kernel_rfl) ?_
    iterate 17 (go_big_quiet_step (first | (go_at_call 58; exact Calls.regrown_of (cR.out _)) | (go_at_call 57; exact Calls.regrown_of (cK.out _))))
    refine wpQuiet_nil ?_
    intro _ hw'
    obtain ⟨⟨ds, oss⟩, hw''⟩ := hw'
    subst hw''
    have b' := below_regrown w1 ds oss
    have M2 : Hid (RdM (grow (redrawn w1 ds) oss) R s pat a o ft 0) := M1.out.below b'
    have B2 : Hid (Below W.heap.size W (grow (redrawn w1 ds) oss)) := hb1.trans (b'.mono hb1.size)
    generalize grow (redrawn w1 ds) oss = w2 at *
    clear c0 c1 c2 c3 c4 c5 g0 g2
    go_wp2_with fail
    go_at_call 128
    refine (cT.out _ M2.out).mono ?_
    rintro x w3 ⟨rfl, hm3, hg3⟩
    have M3 : Hid (RdM w3 R s pat b o ft 0) := hm3
    have G3 : Hid (W.grownBy w3 (some R)) := (gr_of_below B2.out (some R)).trans hg3
    clear hm3 hg3
    go_wp2_with fail
    go_at_call 145
    refine (cU.out _ M3.out).mono ?_
    rintro x w4 ⟨v, l, a', o', rfl, hO4, hBL, hm4, her, hg4⟩
    obtain ⟨ao, vn, vc, rfl⟩ := hO4.form
    obtain ⟨d0, d1, d2, d3, d4, d5⟩ := hm4.cells
    have hne : (er != 0) = true := by simpa using her
    have HX : Hid (RdM w4 R s pat a' o' p er ∧ er ≠ 0 ∧ W.grownBy w4 (some R)) := ⟨hm4, her, G3.out.trans hg4⟩
    clear hO4 hBL hm4 her hg4
    go_wp2_with fail
    go_ret
    exact ⟨_, [], _, _, rfl, OwnN_nil _ _, BadL.nil ha, HX.out.1, HX.out.2.1, HX.out.2.2⟩
  | ok r =>
    simp only [Pr.bind]
    obtain ⟨r1, r2, r3, r4⟩ := hlen r rfl
    have hpr := in_parts (l := r.1) (by omega) (fun x hx => ⟨r4.few x hx, r4.kin x hx⟩)
    have HJ : Hid (joinL 3 0 ⟨#[]⟩ [r.1] = jn1 3 r.1) := join1 3 r4.up r4.ne
    have HPR : Hid (r.1.length ≤ 5000 ∧ ∀ x ∈ r.1, x.kids.length * 8 ≤ 140737488351232 ∧ ∀ k ∈ x.kids, 0 ≤ k ∧ k ≤ 9000) := hpr
    clear hlen hpr r1 r2 r3 r4
    go_enter Tryd.func145, Tryd.ntmps145
    go_wp2_with fail
    refine D.mono ?_
    rintro x w1 ⟨rfl, hb1⟩
    have M1 : Hid (RdM w1 R s pat a o ft 0) := HM.out.below hb1
    obtain ⟨c0, c1, c2, c3, c4, c5⟩ := M1.out.cells
    have g0 := cell_regrown c0
    have g2 := cell_regrown c2
    clear D
    go_wp2_with fail
    refine wp_region_quiet_below (by kernel_rfl) (by kernel_rfl) ?_
    iterate 17 (go_big_quiet_step (first | (go_at_call 58; exact Calls.regrown_of (cR.out _)) | (go_at_call 57; exact Calls.regrown_of (cK.out _))))
    refine wpQuiet_nil ?_
    intro _ hw'
    obtain ⟨⟨ds, oss⟩, hw''⟩ := hw'
    subst hw''
    have b' := below_regrown w1 ds oss
    have M2 : Hid (RdM (grow (redrawn w1 ds) oss) R s pat a o ft 0) := M1.out.below b'
    have B2 : Hid (Below W.heap.size W (grow (redrawn w1 ds) oss)) := hb1.trans (b'.mono hb1.size)
    generalize grow (redrawn w1 ds) oss = w2 at *
    clear c0 c1 c2 c3 c4 c5 g0 g2
    go_wp2_with fail
    go_at_call 128
    refine (cT.out _ M2.out).mono ?_
    rintro x w3 ⟨rfl, hm3, hg3⟩
    have M3 : Hid (RdM w3 R s pat b o ft 0) := hm3
    have G3 : Hid (W.grownBy w3 (some R)) := (gr_of_below B2.out (some R)).trans hg3
    clear hm3 hg3
    go_wp2_with fail
    go_at_call 145
    refine (cU.out _ M3.out).mono ?_
    rintro x w4 ⟨v, rfl, hO4, hm4, hg4⟩
    obtain ⟨ao, vn, vc, rfl⟩ := hO4.form
    obtain ⟨d0, d1, d2, d3, d4, d5⟩ := hm4.cells
    have cJ : Hid (Calls Tryd.prog 76 #[.agg #[.int .i64 3, .int .i64 0, .string ⟨#[]⟩, .slice none 0 0], .slice (some ⟨w4.heap.size, 0, none⟩) 1 1] (w4.alloc (.cells #[.slice ao vn vc] 22)) fun e w' => ∃ v', e = .returned v' ∧ OwnN w' w4.heap.size v' (joinL 3 0 ⟨#[]⟩ [r.1]) ∧ Below w4.heap.size w4 w') := joinN1 3 w4 _ _ r.1 hO4 HPR.out
    have M4 : Hid (RdM w4 R s pat r.2 o ft 0) := hm4
    have G4 : Hid (W.grownBy w4 (some R)) := G3.out.trans hg4
    clear hO4 hm4 hg4
    go_wp2_with fail
    go_at_call 76
    refine cJ.out.mono ?_
    rintro x w5 ⟨v', rfl, hO5, hb5⟩
    have HX : Hid (OwnN w5 W.heap.size v' (jn1 3 r.1) ∧ RdM w5 R s pat r.2 o ft 0 ∧ W.grownBy w5 (some R)) := ⟨by rw [← HJ.out]; exact hO5.lower G4.out.size, M4.out.below hb5, G4.out.trans (gr_of_below hb5 _)⟩
    clear hO5 hb5
    go_wp2_with fail
    go_ret
    exact ⟨_, rfl, HX.out.1, HX.out.2.1, HX.out.2.2⟩

set_option maxRecDepth 20000 in
set_option maxHeartbeats 8000000 in
theorem un_tilde (s : ByteArray) (pat : Bool) (hs : s.size ≤ 4096) (f : Nat) (ih : RdC s pat f) (W : World) (R a o ft : Nat) (hM : RdM W R s pat a o ft 0) (ha : a ≤ s.size) (ho : o ≤ 100) (t : Tk) (h : psFrom s pat mx63 a = .ok t) (hc : t.what = 126) (hno : rdX s pat f .un (skp s t.to) o ≠ .out) :
    Calls Tryd.prog 145 #[.pointer (some ⟨R, 0, none⟩)] W fun e w' => RRes W R s pat a o ft ((rdX s pat f .un (skp s t.to) o).bind fun x => .ok (jn1 4 x.1, x.2)) e w' := by
  have D := sign_ok s pat hs W R a o ft hM ha t h
  have hw := sg_eq (from_what h)
  obtain ⟨n, en, ean, hto, hlt⟩ := tk_n (from_at ha h) (by rw [hc]; decide) (by rw [hc]; decide) (by rw [hc]; decide)
  rw [en] at D
  have e1 : ((sgW t.what).toList == [45]) = false := by rw [hw.1, hc]; decide
  have e2 : ((sgW t.what).toList == [126]) = true := by rw [hw.2.1, hc]; decide
  have hsk := skp_in hto
  have cT : Hid (∀ W', RdM W' R s pat a o ft 0 → Calls Tryd.prog 128 #[.pointer (some ⟨R, 0, none⟩)] W' fun x w' => x = .returned (.tuple #[]) ∧ RdM w' R s pat (skp s t.to) o ft 0 ∧ W'.grownBy w' (some R)) := fun W' h' => take_ok s pat hs W' R a o ft h' ha t h (by rw [hc]; decide) (by rw [hc]; decide) (by rw [hc]; decide)
  have cU : Hid (∀ W', RdM W' R s pat (skp s t.to) o ft 0 → Calls Tryd.prog 145 #[.pointer (some ⟨R, 0, none⟩)] W' fun e w' => RRes W' R s pat (skp s t.to) o ft (rdX s pat f .un (skp s t.to) o) e w') := fun W' h' => ih.un W' R _ o ft h' hsk.2 ho hno
  have hlen : ∀ r, rdX s pat f .un (skp s t.to) o = .ok r → r.1.length + skp s t.to ≤ r.2 ∧ skp s t.to ≤ r.2 ∧ r.2 ≤ s.size ∧ KidsIn r.1 := fun r hr => rdX_len ⟨(fun _ e => by cases e), (fun _ _ e => by cases e)⟩ (fun _ _ e => by cases e) hsk.2 hr
  have HM : Hid (RdM W R s pat a o ft 0) := hM
  have hasz : a ≤ skp s t.to := by omega
  clear hw en h hM hno ih hc
  generalize sgW t.what = T at *
  generalize skp s t.to = b at *
  generalize rdX s pat f .un b o = Y at *
  cases Y with
  | out =>
    go_enter Tryd.func145, Tryd.ntmps145
    go_wp2_with fail
    refine D.mono ?_
    rintro x w1 ⟨rfl, hb1⟩
    have M1 : Hid (RdM w1 R s pat a o ft 0) := HM.out.below hb1
    obtain ⟨c0, c1, c2, c3, c4, c5⟩ := M1.out.cells
    have g0 := cell_regrown c0
    have g2 := cell_regrown c2
    clear D
    go_wp2_with fail
    refine wp_region_quiet_below (by kernel_rfl) (by kernel_rfl) ?_
    iterate 17 (go_big_quiet_step (fail))
    refine wpQuiet_nil ?_
    intro _ hw'
    obtain ⟨⟨ds, oss⟩, hw''⟩ := hw'
    subst hw''
    have b' := below_regrown w1 ds oss
    have M2 : Hid (RdM (grow (redrawn w1 ds) oss) R s pat a o ft 0) := M1.out.below b'
    have B2 : Hid (Below W.heap.size W (grow (redrawn w1 ds) oss)) := hb1.trans (b'.mono hb1.size)
    generalize grow (redrawn w1 ds) oss = w2 at *
    clear c0 c1 c2 c3 c4 c5 g0 g2
    go_wp2_with fail
    go_at_call 128
    refine (cT.out _ M2.out).mono ?_
    rintro x w3 ⟨rfl, hm3, hg3⟩
    have M3 : Hid (RdM w3 R s pat b o ft 0) := hm3
    have G3 : Hid (W.grownBy w3 (some R)) := (gr_of_below B2.out (some R)).trans hg3
    clear hm3 hg3
    go_wp2_with fail
    go_at_call 145
    refine (cU.out _ M3.out).mono ?_
    intro x w4 hR
    cases hR
  | bad p er =>
    simp only [Pr.bind]
    go_enter Tryd.func145, Tryd.ntmps145
    go_wp2_with fail
    refine D.mono ?_
    rintro x w1 ⟨rfl, hb1⟩
    have M1 : Hid (RdM w1 R s pat a o ft 0) := HM.out.below hb1
    obtain ⟨c0, c1, c2, c3, c4, c5⟩ := M1.out.cells
    have g0 := cell_regrown c0
    have g2 := cell_regrown c2
    clear D
    go_wp2_with fail
    refine wp_region_quiet_below (by kernel_rfl) (by kernel_rfl) ?_
    iterate 17 (go_big_quiet_step (fail))
    refine wpQuiet_nil ?_
    intro _ hw'
    obtain ⟨⟨ds, oss⟩, hw''⟩ := hw'
    subst hw''
    have b' := below_regrown w1 ds oss
    have M2 : Hid (RdM (grow (redrawn w1 ds) oss) R s pat a o ft 0) := M1.out.below b'
    have B2 : Hid (Below W.heap.size W (grow (redrawn w1 ds) oss)) := hb1.trans (b'.mono hb1.size)
    generalize grow (redrawn w1 ds) oss = w2 at *
    clear c0 c1 c2 c3 c4 c5 g0 g2
    go_wp2_with fail
    go_at_call 128
    refine (cT.out _ M2.out).mono ?_
    rintro x w3 ⟨rfl, hm3, hg3⟩
    have M3 : Hid (RdM w3 R s pat b o ft 0) := hm3
    have G3 : Hid (W.grownBy w3 (some R)) := (gr_of_below B2.out (some R)).trans hg3
    clear hm3 hg3
    go_wp2_with fail
    go_at_call 145
    refine (cU.out _ M3.out).mono ?_
    rintro x w4 ⟨v, l, a', o', rfl, hO4, hBL, hm4, her, hg4⟩
    obtain ⟨ao, vn, vc, rfl⟩ := hO4.form
    obtain ⟨d0, d1, d2, d3, d4, d5⟩ := hm4.cells
    have hne : (er != 0) = true := by simpa using her
    have HX : Hid (RdM w4 R s pat a' o' p er ∧ er ≠ 0 ∧ W.grownBy w4 (some R)) := ⟨hm4, her, G3.out.trans hg4⟩
    clear hO4 hBL hm4 her hg4
    go_wp2_with fail
    go_ret
    exact ⟨_, [], _, _, rfl, OwnN_nil _ _, BadL.nil ha, HX.out.1, HX.out.2.1, HX.out.2.2⟩
  | ok r =>
    simp only [Pr.bind]
    obtain ⟨r1, r2, r3, r4⟩ := hlen r rfl
    have hpr := in_parts (l := r.1) (by omega) (fun x hx => ⟨r4.few x hx, r4.kin x hx⟩)
    have HJ : Hid (joinL 4 0 ⟨#[]⟩ [r.1] = jn1 4 r.1) := join1 4 r4.up r4.ne
    have HPR : Hid (r.1.length ≤ 5000 ∧ ∀ x ∈ r.1, x.kids.length * 8 ≤ 140737488351232 ∧ ∀ k ∈ x.kids, 0 ≤ k ∧ k ≤ 9000) := hpr
    clear hlen hpr r1 r2 r3 r4
    go_enter Tryd.func145, Tryd.ntmps145
    go_wp2_with fail
    refine D.mono ?_
    rintro x w1 ⟨rfl, hb1⟩
    have M1 : Hid (RdM w1 R s pat a o ft 0) := HM.out.below hb1
    obtain ⟨c0, c1, c2, c3, c4, c5⟩ := M1.out.cells
    have g0 := cell_regrown c0
    have g2 := cell_regrown c2
    clear D
    go_wp2_with fail
    refine wp_region_quiet_below (by kernel_rfl) (by kernel_rfl) ?_
    iterate 17 (go_big_quiet_step (fail))
    refine wpQuiet_nil ?_
    intro _ hw'
    obtain ⟨⟨ds, oss⟩, hw''⟩ := hw'
    subst hw''
    have b' := below_regrown w1 ds oss
    have M2 : Hid (RdM (grow (redrawn w1 ds) oss) R s pat a o ft 0) := M1.out.below b'
    have B2 : Hid (Below W.heap.size W (grow (redrawn w1 ds) oss)) := hb1.trans (b'.mono hb1.size)
    generalize grow (redrawn w1 ds) oss = w2 at *
    clear c0 c1 c2 c3 c4 c5 g0 g2
    go_wp2_with fail
    go_at_call 128
    refine (cT.out _ M2.out).mono ?_
    rintro x w3 ⟨rfl, hm3, hg3⟩
    have M3 : Hid (RdM w3 R s pat b o ft 0) := hm3
    have G3 : Hid (W.grownBy w3 (some R)) := (gr_of_below B2.out (some R)).trans hg3
    clear hm3 hg3
    go_wp2_with fail
    go_at_call 145
    refine (cU.out _ M3.out).mono ?_
    rintro x w4 ⟨v, rfl, hO4, hm4, hg4⟩
    obtain ⟨ao, vn, vc, rfl⟩ := hO4.form
    obtain ⟨d0, d1, d2, d3, d4, d5⟩ := hm4.cells
    have cJ : Hid (Calls Tryd.prog 76 #[.agg #[.int .i64 4, .int .i64 0, .string ⟨#[]⟩, .slice none 0 0], .slice (some ⟨w4.heap.size, 0, none⟩) 1 1] (w4.alloc (.cells #[.slice ao vn vc] 22)) fun e w' => ∃ v', e = .returned v' ∧ OwnN w' w4.heap.size v' (joinL 4 0 ⟨#[]⟩ [r.1]) ∧ Below w4.heap.size w4 w') := joinN1 4 w4 _ _ r.1 hO4 HPR.out
    have M4 : Hid (RdM w4 R s pat r.2 o ft 0) := hm4
    have G4 : Hid (W.grownBy w4 (some R)) := G3.out.trans hg4
    clear hO4 hm4 hg4
    go_wp2_with fail
    go_at_call 76
    refine cJ.out.mono ?_
    rintro x w5 ⟨v', rfl, hO5, hb5⟩
    have HX : Hid (OwnN w5 W.heap.size v' (jn1 4 r.1) ∧ RdM w5 R s pat r.2 o ft 0 ∧ W.grownBy w5 (some R)) := ⟨by rw [← HJ.out]; exact hO5.lower G4.out.size, M4.out.below hb5, G4.out.trans (gr_of_below hb5 _)⟩
    clear hO5 hb5
    go_wp2_with fail
    go_ret
    exact ⟨_, rfl, HX.out.1, HX.out.2.1, HX.out.2.2⟩

/-- THE RULE un. -/
theorem run_step (s : ByteArray) (pat : Bool) (hs : s.size ≤ 4096) (f : Nat) (ih : RdC s pat f) (W : World) (R a o ft : Nat) (hM : RdM W R s pat a o ft 0) (ha : a ≤ s.size) (ho : o ≤ 100) (hno : rdX s pat (f + 1) .un a o ≠ .out) :
    Calls Tryd.prog 145 #[.pointer (some ⟨R, 0, none⟩)] W fun e w' => RRes W R s pat a o ft (rdX s pat (f + 1) .un a o) e w' := by
  cases h0 : psFrom s pat mx63 a with
  | out => exact absurd h0 (psFrom_in _ _ _ _)
  | bad p er =>
    rw [rdX_bad h0]
    exact un_bad s pat hs f W R a o ft hM ha p er h0
  | ok t =>
    rw [rdX_ok h0] at hno ⊢
    have ht := from_at ha h0
    simp only [rdRun] at hno ⊢
    by_cases h45 : t.what = 45
    · rw [if_pos h45] at hno ⊢
      obtain ⟨_, hto, _⟩ := ht.good (ht.sign (by rw [h45]; decide) (by rw [h45]; decide))
      rcases num_cases s t.to hto with ⟨hk, hn⟩ | ⟨hk, hn⟩
      · rw [if_neg (by omega), lit_neg s pat t.to hk]
        exact un_num s pat hs W R a o ft hM ha t h0 h45 hk
      · rw [if_pos hn] at hno ⊢
        have e : ((psFrom s pat mx63 (skp s t.to)).bind fun t1 => (rdRun s pat f .un t1 o).bind fun x => .ok (jn1 3 x.1, x.2)) = (rdX s pat f .un (skp s t.to) o).bind fun x => .ok (jn1 3 x.1, x.2) := by
          unfold rdX; rw [Pr.bind_assoc]
        rw [e] at hno ⊢
        exact un_minus s pat hs f ih W R a o ft hM ha ho t h0 h45 hk (fun c => hno (by rw [c]; rfl))
    · rw [if_neg h45] at hno ⊢
      by_cases h126 : t.what = 126
      · rw [if_pos h126] at hno ⊢
        have e : ((psFrom s pat mx63 (skp s t.to)).bind fun t1 => (rdRun s pat f .un t1 o).bind fun x => .ok (jn1 4 x.1, x.2)) = (rdX s pat f .un (skp s t.to) o).bind fun x => .ok (jn1 4 x.1, x.2) := by
          unfold rdX; rw [Pr.bind_assoc]
        rw [e] at hno ⊢
        exact un_tilde s pat hs f ih W R a o ft hM ha ho t h0 h126 (fun c => hno (by rw [c]; rfl))
      · rw [if_neg h126] at hno ⊢
        rw [← rdX_ok (f := f) (q := .atom) (o := o) h0] at hno ⊢
        exact un_atom s pat hs f ih W R a o ft hM ha ho t h0 h45 h126 hno
end Go.Proofs.YtjmccobblpcbhaaDoor
