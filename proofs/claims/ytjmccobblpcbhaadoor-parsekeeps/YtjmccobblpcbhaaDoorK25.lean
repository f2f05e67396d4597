/-
  RrGrW.
-/
import Derived.Shelf.Unicode.DecodeSlow
import Derived.Laws.RangeAny
import Derived.Shelf.Strings.Builder1
import Derived.Shelf.Small.Utf8
import Derived.Shelf.Small.Bits
import Derived.Shelf.Strings.BuilderF
import Derived.Shelf.Strings.BuilderK
import Derived.Shelf.Strings.BuilderRune
import Derived.Shelf.Utf8.AppendRune
import Derived.Shelf.Strconv.Itoa0
import Derived.Shelf.Strconv.Itoa1
import Derived.Shelf.LaysM
import Derived.Shelf.Strconv.Itoa2
import Derived.Shelf.Strconv.Itoa3
import Derived.Shelf.Strconv.Itoa4
import Derived.Shelf.Strings.Prefix
import Derived.Shelf.Unicode.DecodeAny
import Derived.Test.YtjmccobblpcbhaaDoorProg
import Derived.WalkKit
import Derived.Deep.DeepFit
import Derived.Lib.OthersKept
import Derived.Lib.RuneCountTail
import Derived.Lib.Small
import Derived.Lib.Strings
import Derived.Lib.MapLaws
import Derived.Deep.AppendLies
import Derived.Deep.OwnRows
import Derived.Laws.AppendOwnNone
import Derived.Deep.QuietTactic
import Derived.BigQuiet
import Derived.Deep.RegionWith
import Derived.Laws.DeepStrings4
import Derived.Deep.RegionHeld3
import Derived.Laws.ResultCell
import Derived.Lib.QuietBelow
import Derived.Deep.Heap
import Derived.Laws.Rows
import Derived.Below
import Derived.StillTail
import Derived.Sort.Walk0
import Derived.Deep.RegionLaw
import Derived.Laws.OwnMore
import Derived.Test.YtjmccobblpcbhaaDoorK01
import Derived.Test.YtjmccobblpcbhaaDoorK02
import Derived.Test.YtjmccobblpcbhaaDoorK03
import Derived.Test.YtjmccobblpcbhaaDoorK04
import Derived.Test.YtjmccobblpcbhaaDoorK05
import Derived.Test.YtjmccobblpcbhaaDoorK06
import Derived.Test.YtjmccobblpcbhaaDoorK07
import Derived.Test.YtjmccobblpcbhaaDoorK08
import Derived.Test.YtjmccobblpcbhaaDoorK09
import Derived.Test.YtjmccobblpcbhaaDoorK10
import Derived.Test.YtjmccobblpcbhaaDoorK11
import Derived.Test.YtjmccobblpcbhaaDoorK12
import Derived.Test.YtjmccobblpcbhaaDoorK13
import Derived.Test.YtjmccobblpcbhaaDoorK14
import Derived.Test.YtjmccobblpcbhaaDoorK15
import Derived.Test.YtjmccobblpcbhaaDoorK16
import Derived.Test.YtjmccobblpcbhaaDoorK17
import Derived.Test.YtjmccobblpcbhaaDoorK18
import Derived.Test.YtjmccobblpcbhaaDoorK19
import Derived.Test.YtjmccobblpcbhaaDoorK20
import Derived.Test.YtjmccobblpcbhaaDoorK21
import Derived.Test.YtjmccobblpcbhaaDoorK22
import Derived.Test.YtjmccobblpcbhaaDoorK23
import Derived.Test.YtjmccobblpcbhaaDoorK24
set_option linter.unusedSimpArgs false
set_option linter.unusedVariables false
namespace Go.Proofs.YtjmccobblpcbhaaDoor
open Go.RowKit Go.Lib Go.Sort

set_option maxRecDepth 20000 in
set_option maxHeartbeats 8000000 in
theorem atom_many (s : ByteArray) (pat : Bool) (hs : s.size ≤ 4096) (W : World) (R a o ft : Nat) (hM : RdM W R s pat a o ft 0) (ha : a ≤ s.size) (t : Tk) (h : psFrom s pat mx63 a = .ok t) (h97 : t.what ≠ 97) (h48 : t.what ≠ 48) (h40 : t.what = 40) (ho : o = 100) :
    Calls Tryd.prog 159 #[.pointer (some ⟨R, 0, none⟩)] W fun e w' => RRes W R s pat a o ft (.bad a 10) e w' := by
  obtain ⟨c0, c1, c2, c3, c4, c5⟩ := hM.cells
  have HM : Hid (RdM W R s pat a o ft 0) := hM
  have hs0 : s.size ≤ maxLen := by unfold maxLen; omega
  have cR : Hid (∀ W', Calls Tryd.prog 58 #[.string s, .int .i64 (a : Int)] W' fun e w' => e = .returned (.int .i32 (rn s a)) ∧ Below W'.heap.size W' w') := fun W' => refRune_any s a W' hs0 ha
  have cK : Hid (∀ W', Calls Tryd.prog 57 #[.int .i32 (rn s a)] W' fun e w' => e = .returned (.int .i64 (kd (rn s a))) ∧ Below W'.heap.size W' w') := fun W' => by
    have := refKind_any (rn s a) W'
    rw [← kd_eq] at this
    exact this
  have hkn := tok_no h h97 h48
  have hk1 : (kd (rn s a) == 1) = false := by rw [beq_eq_false_iff_ne]; exact hkn.1
  have hk2 : (kd (rn s a) == 2) = false := by rw [beq_eq_false_iff_ne]; exact hkn.2
  have cI64 : Hid (∀ W', RdM W' R s pat a o ft 0 → Calls Tryd.prog 127 #[.pointer (some ⟨R, 0, none⟩), .string ⟨#[64]⟩] W' fun x w' => x = .returned (.bool (decide (t.what = 64))) ∧ Below W'.heap.size W' w') := fun W' h' => by
    have := is_some W' R s pat a o ft h' hs ha ⟨#[64]⟩ _ _ (sg_ok h)
    rw [decide_eq_decide.2 (txt_whats t.what (from_what h)).2.2.2.2.1] at this
    exact this
  have cI40 : Hid (∀ W', RdM W' R s pat a o ft 0 → Calls Tryd.prog 127 #[.pointer (some ⟨R, 0, none⟩), .string ⟨#[40]⟩] W' fun x w' => x = .returned (.bool (decide (t.what = 40))) ∧ Below W'.heap.size W' w') := fun W' h' => by
    have := is_some W' R s pat a o ft h' hs ha ⟨#[40]⟩ _ _ (sg_ok h)
    rw [decide_eq_decide.2 (txt_whats t.what (from_what h)).2.2.2.2.2.1] at this
    exact this
  rw [decide_eq_false (show ¬ t.what = 64 by rw [h40]; decide)] at cI64
  rw [decide_eq_true h40] at cI40
  have hto := ((from_at ha h).good ((from_at ha h).sign h48 h97))
  have hsk := skp_in hto.2.1
  have hab : a ≤ skp s t.to := by omega
  have cT : Hid (∀ W', RdM W' R s pat a o ft 0 → Calls Tryd.prog 128 #[.pointer (some ⟨R, 0, none⟩)] W' fun x w' => x = .returned (.tuple #[]) ∧ RdM w' R s pat (skp s t.to) o ft 0 ∧ W'.grownBy w' (some R)) := fun W' h' => take_ok s pat hs W' R a o ft h' ha t h (by rw [h40]; decide) h48 h97
  have cF : Hid (∀ W', RdM W' R s pat (skp s t.to) (o + 1) ft 0 → Calls Tryd.prog 100 #[.pointer (some ⟨R, 0, none⟩), .int .i64 (a : Int), .int .i64 10] W' fun x w' => x = .returned (.slice none 0 0) ∧ RdM w' R s pat (skp s t.to) (o + 1) a 10 ∧ W'.grownBy w' (some R)) := fun W' h' => rfail_any W' R s pat _ (o + 1) ft 0 h' a 10
  have ho' : (100 : Int) < (o : Int) + 1 := by omega
  have hou : o ≤ 100 := by omega
  clear h hM hkn h97 h48 h40 hto ho
  generalize skp s t.to = b at *
  generalize kd (rn s a) = kq at *
  generalize rn s a = r at *
  go_enter Tryd.func159, Tryd.ntmps159
  go_wp2_with fail
  go_at_call 58
  refine (cR.out _).mono ?_
  rintro x w1 ⟨rfl, hb1⟩
  go_wp2_with fail
  go_at_call 57
  refine (cK.out _).mono ?_
  rintro x w2 ⟨rfl, hb2⟩
  have B2 : Hid (Below W.heap.size W w2) := hb1.trans (hb2.mono hb1.size)
  have M2 : Hid (RdM w2 R s pat a o ft 0) := HM.out.below B2.out
  clear hb1 hb2 cR cK c0 c1 c2 c3 c4 c5
  go_wp2_with fail
  go_at_call 127
  refine (cI64.out _ M2.out).mono ?_
  rintro x w3 ⟨rfl, hb3⟩
  have B3 : Hid (Below W.heap.size W w3) := B2.out.trans (hb3.mono B2.out.size)
  have M3 : Hid (RdM w3 R s pat a o ft 0) := M2.out.below hb3
  clear hb3
  go_wp2_with fail
  go_at_call 127
  refine (cI40.out _ M3.out).mono ?_
  rintro x w4 ⟨rfl, hb4⟩
  have B4 : Hid (Below W.heap.size W w4) := B3.out.trans (hb4.mono B3.out.size)
  have M4 : Hid (RdM w4 R s pat a o ft 0) := M3.out.below hb4
  clear hb4
  go_wp2_with fail
  go_at_call 128
  refine (cT.out _ M4.out).mono ?_
  rintro x w5 ⟨rfl, hm5, hg5⟩
  obtain ⟨d0, d1, d2, d3, d4, d5⟩ := hm5.cells
  have df := hm5.frozen 3
  have hl := hm5.lt
  have M6 : Hid (RdM (w5.setCell ⟨R, 3, none⟩ (.int .i64 ((o : Int) + 1))) R s pat b (o + 1) ft 0) := by
    have := hm5.open_ (o + 1)
    rw [show ((o + 1 : Nat) : Int) = (o : Int) + 1 by omega] at this
    exact this
  have G6 : Hid (W.grownBy (w5.setCell ⟨R, 3, none⟩ (.int .i64 ((o : Int) + 1))) (some R)) := gr_setB ((gr_of_below B4.out (some R)).trans hg5)
  clear hm5 hg5 B2 B3 B4 M2 M3 M4
  go_wp2_with fail
  go_at_call 100
  refine (cF.out _ M6.out).mono ?_
  rintro x w7 ⟨rfl, hm7, hg7⟩
  have HX : Hid (RdM w7 R s pat b (o + 1) a 10 ∧ W.grownBy w7 (some R)) := ⟨hm7, G6.out.trans hg7⟩
  clear hm7 hg7
  go_wp2_with fail
  go_ret
  exact ⟨_, [], _, _, rfl, OwnN_nil _ _, BadL.nil ha, HX.out.1, by decide, HX.out.2⟩

set_option maxRecDepth 20000 in
set_option maxHeartbeats 8000000 in
theorem atom_group (s : ByteArray) (pat : Bool) (hs : s.size ≤ 4096) (f : Nat) (ih : RdC s pat f) (W : World) (R a o ft : Nat) (hM : RdM W R s pat a o ft 0) (ha : a ≤ s.size) (t : Tk) (h : psFrom s pat mx63 a = .ok t) (h97 : t.what ≠ 97) (h48 : t.what ≠ 48) (h40 : t.what = 40) (ho : o < 100) (hno : rdX s pat f .cond (skp s t.to) (o + 1) ≠ .out) :
    Calls Tryd.prog 159 #[.pointer (some ⟨R, 0, none⟩)] W fun e w' => RRes W R s pat a o ft ((rdX s pat f .cond (skp s t.to) (o + 1)).bind fun e => (psFrom s pat mx63 e.2).bind fun t2 => if t2.what = 41 then (if t2.err = 0 then .ok (e.1, skp s t2.to) else .bad t2.from_ t2.err) else .bad t2.from_ 6) e w' := by
  obtain ⟨c0, c1, c2, c3, c4, c5⟩ := hM.cells
  have HM : Hid (RdM W R s pat a o ft 0) := hM
  have hs0 : s.size ≤ maxLen := by unfold maxLen; omega
  have cR : Hid (∀ W', Calls Tryd.prog 58 #[.string s, .int .i64 (a : Int)] W' fun e w' => e = .returned (.int .i32 (rn s a)) ∧ Below W'.heap.size W' w') := fun W' => refRune_any s a W' hs0 ha
  have cK : Hid (∀ W', Calls Tryd.prog 57 #[.int .i32 (rn s a)] W' fun e w' => e = .returned (.int .i64 (kd (rn s a))) ∧ Below W'.heap.size W' w') := fun W' => by
    have := refKind_any (rn s a) W'
    rw [← kd_eq] at this
    exact this
  have hkn := tok_no h h97 h48
  have hk1 : (kd (rn s a) == 1) = false := by rw [beq_eq_false_iff_ne]; exact hkn.1
  have hk2 : (kd (rn s a) == 2) = false := by rw [beq_eq_false_iff_ne]; exact hkn.2
  have cI64 : Hid (∀ W', RdM W' R s pat a o ft 0 → Calls Tryd.prog 127 #[.pointer (some ⟨R, 0, none⟩), .string ⟨#[64]⟩] W' fun x w' => x = .returned (.bool (decide (t.what = 64))) ∧ Below W'.heap.size W' w') := fun W' h' => by
    have := is_some W' R s pat a o ft h' hs ha ⟨#[64]⟩ _ _ (sg_ok h)
    rw [decide_eq_decide.2 (txt_whats t.what (from_what h)).2.2.2.2.1] at this
    exact this
  have cI40 : Hid (∀ W', RdM W' R s pat a o ft 0 → Calls Tryd.prog 127 #[.pointer (some ⟨R, 0, none⟩), .string ⟨#[40]⟩] W' fun x w' => x = .returned (.bool (decide (t.what = 40))) ∧ Below W'.heap.size W' w') := fun W' h' => by
    have := is_some W' R s pat a o ft h' hs ha ⟨#[40]⟩ _ _ (sg_ok h)
    rw [decide_eq_decide.2 (txt_whats t.what (from_what h)).2.2.2.2.2.1] at this
    exact this
  rw [decide_eq_false (show ¬ t.what = 64 by rw [h40]; decide)] at cI64
  rw [decide_eq_true h40] at cI40
  have hto := ((from_at ha h).good ((from_at ha h).sign h48 h97))
  have hsk := skp_in hto.2.1
  have hab : a ≤ skp s t.to := by omega
  have cT : Hid (∀ W', RdM W' R s pat a o ft 0 → Calls Tryd.prog 128 #[.pointer (some ⟨R, 0, none⟩)] W' fun x w' => x = .returned (.tuple #[]) ∧ RdM w' R s pat (skp s t.to) o ft 0 ∧ W'.grownBy w' (some R)) := fun W' h' => take_ok s pat hs W' R a o ft h' ha t h (by rw [h40]; decide) h48 h97
  have cC : Hid (∀ W', RdM W' R s pat (skp s t.to) (o + 1) ft 0 → Calls Tryd.prog 98 #[.pointer (some ⟨R, 0, none⟩)] W' fun e w' => RRes W' R s pat (skp s t.to) (o + 1) ft (rdX s pat f .cond (skp s t.to) (o + 1)) e w') := fun W' h' => ih.cond W' R _ (o + 1) ft h' hsk.2 (by omega) hno
  have hlen : ∀ r, rdX s pat f .cond (skp s t.to) (o + 1) = .ok r → r.1.length + skp s t.to ≤ r.2 ∧ skp s t.to ≤ r.2 ∧ r.2 ≤ s.size ∧ KidsIn r.1 := fun r hr => rdX_len ⟨(fun _ e => by cases e), (fun _ _ e => by cases e)⟩ (fun _ _ e => by cases e) hsk.2 hr
  have ho' : ¬ (100 : Int) < (o : Int) + 1 := by omega
  clear h hM hkn h97 h48 h40 hto hno ih
  generalize skp s t.to = b at *
  generalize kd (rn s a) = kq at *
  generalize rn s a = r at *
  generalize rdX s pat f .cond b (o + 1) = Y at *
  cases Y with
  | out =>
    go_enter Tryd.func159, Tryd.ntmps159
    go_wp2_with fail
    go_at_call 58
    refine (cR.out _).mono ?_
    rintro x w1 ⟨rfl, hb1⟩
    go_wp2_with fail
    go_at_call 57
    refine (cK.out _).mono ?_
    rintro x w2 ⟨rfl, hb2⟩
    have B2 : Hid (Below W.heap.size W w2) := hb1.trans (hb2.mono hb1.size)
    have M2 : Hid (RdM w2 R s pat a o ft 0) := HM.out.below B2.out
    clear hb1 hb2 cR cK c0 c1 c2 c3 c4 c5
    go_wp2_with fail
    go_at_call 127
    refine (cI64.out _ M2.out).mono ?_
    rintro x w3 ⟨rfl, hb3⟩
    have B3 : Hid (Below W.heap.size W w3) := B2.out.trans (hb3.mono B2.out.size)
    have M3 : Hid (RdM w3 R s pat a o ft 0) := M2.out.below hb3
    clear hb3
    go_wp2_with fail
    go_at_call 127
    refine (cI40.out _ M3.out).mono ?_
    rintro x w4 ⟨rfl, hb4⟩
    have B4 : Hid (Below W.heap.size W w4) := B3.out.trans (hb4.mono B3.out.size)
    have M4 : Hid (RdM w4 R s pat a o ft 0) := M3.out.below hb4
    clear hb4
    go_wp2_with fail
    go_at_call 128
    refine (cT.out _ M4.out).mono ?_
    rintro x w5 ⟨rfl, hm5, hg5⟩
    obtain ⟨d0, d1, d2, d3, d4, d5⟩ := hm5.cells
    have df := hm5.frozen 3
    have hl := hm5.lt
    have M6 : Hid (RdM (w5.setCell ⟨R, 3, none⟩ (.int .i64 ((o : Int) + 1))) R s pat b (o + 1) ft 0) := by
      have := hm5.open_ (o + 1)
      rw [show ((o + 1 : Nat) : Int) = (o : Int) + 1 by omega] at this
      exact this
    have G6 : Hid (W.grownBy (w5.setCell ⟨R, 3, none⟩ (.int .i64 ((o : Int) + 1))) (some R)) := gr_setB ((gr_of_below B4.out (some R)).trans hg5)
    clear hm5 hg5 B2 B3 B4 M2 M3 M4
    go_wp2_with fail
    go_at_call 98
    refine (cC.out _ M6.out).mono ?_
    intro x w7 hR
    cases hR
  | bad p er =>
    simp only [Pr.bind]
    go_enter Tryd.func159, Tryd.ntmps159
    go_wp2_with fail
    go_at_call 58
    refine (cR.out _).mono ?_
    rintro x w1 ⟨rfl, hb1⟩
    go_wp2_with fail
    go_at_call 57
    refine (cK.out _).mono ?_
    rintro x w2 ⟨rfl, hb2⟩
    have B2 : Hid (Below W.heap.size W w2) := hb1.trans (hb2.mono hb1.size)
    have M2 : Hid (RdM w2 R s pat a o ft 0) := HM.out.below B2.out
    clear hb1 hb2 cR cK c0 c1 c2 c3 c4 c5
    go_wp2_with fail
    go_at_call 127
    refine (cI64.out _ M2.out).mono ?_
    rintro x w3 ⟨rfl, hb3⟩
    have B3 : Hid (Below W.heap.size W w3) := B2.out.trans (hb3.mono B2.out.size)
    have M3 : Hid (RdM w3 R s pat a o ft 0) := M2.out.below hb3
    clear hb3
    go_wp2_with fail
    go_at_call 127
    refine (cI40.out _ M3.out).mono ?_
    rintro x w4 ⟨rfl, hb4⟩
    have B4 : Hid (Below W.heap.size W w4) := B3.out.trans (hb4.mono B3.out.size)
    have M4 : Hid (RdM w4 R s pat a o ft 0) := M3.out.below hb4
    clear hb4
    go_wp2_with fail
    go_at_call 128
    refine (cT.out _ M4.out).mono ?_
    rintro x w5 ⟨rfl, hm5, hg5⟩
    obtain ⟨d0, d1, d2, d3, d4, d5⟩ := hm5.cells
    have df := hm5.frozen 3
    have hl := hm5.lt
    have M6 : Hid (RdM (w5.setCell ⟨R, 3, none⟩ (.int .i64 ((o : Int) + 1))) R s pat b (o + 1) ft 0) := by
      have := hm5.open_ (o + 1)
      rw [show ((o + 1 : Nat) : Int) = (o : Int) + 1 by omega] at this
      exact this
    have G6 : Hid (W.grownBy (w5.setCell ⟨R, 3, none⟩ (.int .i64 ((o : Int) + 1))) (some R)) := gr_setB ((gr_of_below B4.out (some R)).trans hg5)
    clear hm5 hg5 B2 B3 B4 M2 M3 M4
    go_wp2_with fail
    go_at_call 98
    refine (cC.out _ M6.out).mono ?_
    rintro x w7 ⟨v, l, a', o', rfl, hO7, hBL, hm7, her, hg7⟩
    obtain ⟨ao, vn, vc, rfl⟩ := hO7.form
    obtain ⟨e0, e1, e2, e3, e4, e5⟩ := hm7.cells
    have hne : (er != 0) = true := by simpa using her
    have HX : Hid (RdM w7 R s pat a' o' p er ∧ er ≠ 0 ∧ W.grownBy w7 (some R)) := ⟨hm7, her, G6.out.trans hg7⟩
    clear hO7 hBL hm7 her hg7
    go_wp2_with fail
    go_ret
    exact ⟨_, [], _, _, rfl, OwnN_nil _ _, BadL.nil ha, HX.out.1, HX.out.2.1, HX.out.2.2⟩
  | ok r =>
    simp only [Pr.bind]
    obtain ⟨r1, r2, r3, r4⟩ := hlen r rfl
    have hRW : R < W.heap.size := HM.out.lt
    clear hlen r4
    cases h2 : psFrom s pat mx63 r.2 with
    | out => exact absurd h2 (psFrom_in _ _ _ _)
    | bad p er =>
      simp only [Pr.bind]
      obtain ⟨rfl, rfl, hsg⟩ := sg_bad h2
      have cI : Hid (∀ W', RdM W' R s pat r.2 (o + 1) ft 0 → Calls Tryd.prog 127 #[.pointer (some ⟨R, 0, none⟩), .string ⟨#[41]⟩] W' fun x w' => x = .returned (.bool false) ∧ RdM w' R s pat r.2 (o + 1) r.2 5 ∧ W'.grownBy w' (some R)) := fun W' h' => is_none W' R s pat r.2 (o + 1) ft h' hs r3 ⟨#[41]⟩ hsg
      have cF : Hid (∀ W', RdM W' R s pat r.2 (o + 1) r.2 5 → Calls Tryd.prog 100 #[.pointer (some ⟨R, 0, none⟩), .int .i64 (r.2 : Int), .int .i64 6] W' fun x w' => x = .returned (.slice none 0 0) ∧ RdM w' R s pat r.2 (o + 1) r.2 5 ∧ W'.grownBy w' (some R)) := fun W' h' => rfail_any W' R s pat r.2 (o + 1) r.2 5 h' r.2 6
      clear h2 hsg
      go_enter Tryd.func159, Tryd.ntmps159
      go_wp2_with fail
      go_at_call 58
      refine (cR.out _).mono ?_
      rintro x w1 ⟨rfl, hb1⟩
      go_wp2_with fail
      go_at_call 57
      refine (cK.out _).mono ?_
      rintro x w2 ⟨rfl, hb2⟩
      have B2 : Hid (Below W.heap.size W w2) := hb1.trans (hb2.mono hb1.size)
      have M2 : Hid (RdM w2 R s pat a o ft 0) := HM.out.below B2.out
      clear hb1 hb2 cR cK c0 c1 c2 c3 c4 c5
      go_wp2_with fail
      go_at_call 127
      refine (cI64.out _ M2.out).mono ?_
      rintro x w3 ⟨rfl, hb3⟩
      have B3 : Hid (Below W.heap.size W w3) := B2.out.trans (hb3.mono B2.out.size)
      have M3 : Hid (RdM w3 R s pat a o ft 0) := M2.out.below hb3
      clear hb3
      go_wp2_with fail
      go_at_call 127
      refine (cI40.out _ M3.out).mono ?_
      rintro x w4 ⟨rfl, hb4⟩
      have B4 : Hid (Below W.heap.size W w4) := B3.out.trans (hb4.mono B3.out.size)
      have M4 : Hid (RdM w4 R s pat a o ft 0) := M3.out.below hb4
      clear hb4
      go_wp2_with fail
      go_at_call 128
      refine (cT.out _ M4.out).mono ?_
      rintro x w5 ⟨rfl, hm5, hg5⟩
      obtain ⟨d0, d1, d2, d3, d4, d5⟩ := hm5.cells
      have df := hm5.frozen 3
      have hl := hm5.lt
      have M6 : Hid (RdM (w5.setCell ⟨R, 3, none⟩ (.int .i64 ((o : Int) + 1))) R s pat b (o + 1) ft 0) := by
        have := hm5.open_ (o + 1)
        rw [show ((o + 1 : Nat) : Int) = (o : Int) + 1 by omega] at this
        exact this
      have G6 : Hid (W.grownBy (w5.setCell ⟨R, 3, none⟩ (.int .i64 ((o : Int) + 1))) (some R)) := gr_setB ((gr_of_below B4.out (some R)).trans hg5)
      clear hm5 hg5 B2 B3 B4 M2 M3 M4
      go_wp2_with fail
      go_at_call 98
      refine (cC.out _ M6.out).mono ?_
      rintro x w7 ⟨v, rfl, hO7, hm7, hg7⟩
      obtain ⟨ao, vn, vc, rfl⟩ := hO7.form
      obtain ⟨e0, e1, e2, e3, e4, e5⟩ := hm7.cells
      have M7 : Hid (RdM w7 R s pat r.2 (o + 1) ft 0) := hm7
      have G7 : Hid (W.grownBy w7 (some R)) := G6.out.trans hg7
      clear hO7 hm7 hg7
      go_wp2_with fail
      go_at_call 127
      refine (cI.out _ M7.out).mono ?_
      rintro x w8 ⟨rfl, hm8, hg8⟩
      obtain ⟨i0, i1, i2, i3, i4, i5⟩ := hm8.cells
      have M8 : Hid (RdM w8 R s pat r.2 (o + 1) r.2 5) := hm8
      have G8 : Hid (W.grownBy w8 (some R)) := G7.out.trans hg8
      clear hm8 hg8
      go_wp2_with fail
      go_at_call 100
      refine (cF.out _ M8.out).mono ?_
      rintro x w9 ⟨rfl, hm9, hg9⟩
      have HX : Hid (RdM w9 R s pat r.2 (o + 1) r.2 5 ∧ W.grownBy w9 (some R)) := ⟨hm9, G8.out.trans hg9⟩
      clear hm9 hg9
      go_wp2_with fail
      go_ret
      exact ⟨_, [], _, _, rfl, OwnN_nil _ _, BadL.nil ha, HX.out.1, by decide, HX.out.2⟩
    | ok t2 =>
      simp only [Pr.bind]
      have ht2 := from_at r3 h2
      have cI : Hid (∀ W', RdM W' R s pat r.2 (o + 1) ft 0 → Calls Tryd.prog 127 #[.pointer (some ⟨R, 0, none⟩), .string ⟨#[41]⟩] W' fun x w' => x = .returned (.bool (decide (t2.what = 41))) ∧ Below W'.heap.size W' w') := fun W' h' => by
        have := is_some W' R s pat r.2 (o + 1) ft h' hs r3 ⟨#[41]⟩ _ _ (sg_ok h2)
        rw [decide_eq_decide.2 (txt_whats t2.what (from_what h2)).2.2.2.2.2.2] at this
        exact this
      by_cases h41 : t2.what = 41
      · rw [if_pos h41, if_pos (ht2.sign (by rw [h41]; decide) (by rw [h41]; decide))]
        rw [decide_eq_true h41] at cI
        have cT2 : Hid (∀ W', RdM W' R s pat r.2 (o + 1) ft 0 → Calls Tryd.prog 128 #[.pointer (some ⟨R, 0, none⟩)] W' fun x w' => x = .returned (.tuple #[]) ∧ RdM w' R s pat (skp s t2.to) (o + 1) ft 0 ∧ W'.grownBy w' (some R)) := fun W' h' => take_ok s pat hs W' R r.2 (o + 1) ft h' r3 t2 h2 (by rw [h41]; decide) (by rw [h41]; decide) (by rw [h41]; decide)
        clear h2 h41 ht2
        generalize skp s t2.to = b2 at *
        go_enter Tryd.func159, Tryd.ntmps159
        go_wp2_with fail
        go_at_call 58
        refine (cR.out _).mono ?_
        rintro x w1 ⟨rfl, hb1⟩
        go_wp2_with fail
        go_at_call 57
        refine (cK.out _).mono ?_
        rintro x w2 ⟨rfl, hb2⟩
        have B2 : Hid (Below W.heap.size W w2) := hb1.trans (hb2.mono hb1.size)
        have M2 : Hid (RdM w2 R s pat a o ft 0) := HM.out.below B2.out
        clear hb1 hb2 cR cK c0 c1 c2 c3 c4 c5
        go_wp2_with fail
        go_at_call 127
        refine (cI64.out _ M2.out).mono ?_
        rintro x w3 ⟨rfl, hb3⟩
        have B3 : Hid (Below W.heap.size W w3) := B2.out.trans (hb3.mono B2.out.size)
        have M3 : Hid (RdM w3 R s pat a o ft 0) := M2.out.below hb3
        clear hb3
        go_wp2_with fail
        go_at_call 127
        refine (cI40.out _ M3.out).mono ?_
        rintro x w4 ⟨rfl, hb4⟩
        have B4 : Hid (Below W.heap.size W w4) := B3.out.trans (hb4.mono B3.out.size)
        have M4 : Hid (RdM w4 R s pat a o ft 0) := M3.out.below hb4
        clear hb4
        go_wp2_with fail
        go_at_call 128
        refine (cT.out _ M4.out).mono ?_
        rintro x w5 ⟨rfl, hm5, hg5⟩
        obtain ⟨d0, d1, d2, d3, d4, d5⟩ := hm5.cells
        have df := hm5.frozen 3
        have hl := hm5.lt
        have M6 : Hid (RdM (w5.setCell ⟨R, 3, none⟩ (.int .i64 ((o : Int) + 1))) R s pat b (o + 1) ft 0) := by
          have := hm5.open_ (o + 1)
          rw [show ((o + 1 : Nat) : Int) = (o : Int) + 1 by omega] at this
          exact this
        have G6 : Hid (W.grownBy (w5.setCell ⟨R, 3, none⟩ (.int .i64 ((o : Int) + 1))) (some R)) := gr_setB ((gr_of_below B4.out (some R)).trans hg5)
        clear hm5 hg5 B2 B3 B4 M2 M3 M4
        go_wp2_with fail
        go_at_call 98
        refine (cC.out _ M6.out).mono ?_
        rintro x w7 ⟨v, rfl, hO7, hm7, hg7⟩
        obtain ⟨ao, vn, vc, rfl⟩ := hO7.form
        obtain ⟨e0, e1, e2, e3, e4, e5⟩ := hm7.cells
        have M7 : Hid (RdM w7 R s pat r.2 (o + 1) ft 0) := hm7
        have G7 : Hid (W.grownBy w7 (some R)) := G6.out.trans hg7
        have O7 : Hid (OwnN w7 W.heap.size (.slice ao vn vc) r.1) := hO7.lower G6.out.size
        clear hO7 hm7 hg7
        go_wp2_with fail
        go_at_call 127
        refine (cI.out _ M7.out).mono ?_
        rintro x w8 ⟨rfl, hb8⟩
        have M8 : Hid (RdM w8 R s pat r.2 (o + 1) ft 0) := M7.out.below hb8
        have G8 : Hid (W.grownBy w8 (some R)) := G7.out.trans (gr_of_below hb8 _)
        have O8 : Hid (OwnN w8 W.heap.size (.slice ao vn vc) r.1) := O7.out.below hb8
        clear hb8
        go_wp2_with fail
        go_at_call 128
        refine (cT2.out _ M8.out).mono ?_
        rintro x w9 ⟨rfl, hm9, hg9⟩
        obtain ⟨i0, i1, i2, i3, i4, i5⟩ := hm9.cells
        have jf := hm9.frozen 3
        have jl := hm9.lt
        have M10 : Hid (RdM (w9.setCell ⟨R, 3, none⟩ (.int .i64 (o : Int))) R s pat b2 o ft 0) := hm9.open_ o
        have G10 : Hid (W.grownBy (w9.setCell ⟨R, 3, none⟩ (.int .i64 (o : Int))) (some R)) := gr_setB (G8.out.trans hg9)
        have O10 : Hid (OwnN (w9.setCell ⟨R, 3, none⟩ (.int .i64 (o : Int))) W.heap.size (.slice ao vn vc) r.1) := O8.out.gr (gr_setB hg9) hRW
        have i3' : w9.cell? ⟨R, 3, none⟩ = some (.int .i64 ((o : Int) + 1)) := by rw [i3]; congr 2
        clear hm9 hg9 i3
        go_wp2_with fail
        go_ret
        exact ⟨_, rfl, O10.out, M10.out, G10.out⟩
      · rw [if_neg h41, ht2.at_]
        rw [decide_eq_false h41] at cI
        have cF : Hid (∀ W', RdM W' R s pat r.2 (o + 1) ft 0 → Calls Tryd.prog 100 #[.pointer (some ⟨R, 0, none⟩), .int .i64 (r.2 : Int), .int .i64 6] W' fun x w' => x = .returned (.slice none 0 0) ∧ RdM w' R s pat r.2 (o + 1) r.2 6 ∧ W'.grownBy w' (some R)) := fun W' h' => rfail_any W' R s pat r.2 (o + 1) ft 0 h' r.2 6
        clear h2 h41 ht2
        go_enter Tryd.func159, Tryd.ntmps159
        go_wp2_with fail
        go_at_call 58
        refine (cR.out _).mono ?_
        rintro x w1 ⟨rfl, hb1⟩
        go_wp2_with fail
        go_at_call 57
        refine (cK.out _).mono ?_
        rintro x w2 ⟨rfl, hb2⟩
        have B2 : Hid (Below W.heap.size W w2) := hb1.trans (hb2.mono hb1.size)
        have M2 : Hid (RdM w2 R s pat a o ft 0) := HM.out.below B2.out
        clear hb1 hb2 cR cK c0 c1 c2 c3 c4 c5
        go_wp2_with fail
        go_at_call 127
        refine (cI64.out _ M2.out).mono ?_
        rintro x w3 ⟨rfl, hb3⟩
        have B3 : Hid (Below W.heap.size W w3) := B2.out.trans (hb3.mono B2.out.size)
        have M3 : Hid (RdM w3 R s pat a o ft 0) := M2.out.below hb3
        clear hb3
        go_wp2_with fail
        go_at_call 127
        refine (cI40.out _ M3.out).mono ?_
        rintro x w4 ⟨rfl, hb4⟩
        have B4 : Hid (Below W.heap.size W w4) := B3.out.trans (hb4.mono B3.out.size)
        have M4 : Hid (RdM w4 R s pat a o ft 0) := M3.out.below hb4
        clear hb4
        go_wp2_with fail
        go_at_call 128
        refine (cT.out _ M4.out).mono ?_
        rintro x w5 ⟨rfl, hm5, hg5⟩
        obtain ⟨d0, d1, d2, d3, d4, d5⟩ := hm5.cells
        have df := hm5.frozen 3
        have hl := hm5.lt
        have M6 : Hid (RdM (w5.setCell ⟨R, 3, none⟩ (.int .i64 ((o : Int) + 1))) R s pat b (o + 1) ft 0) := by
          have := hm5.open_ (o + 1)
          rw [show ((o + 1 : Nat) : Int) = (o : Int) + 1 by omega] at this
          exact this
        have G6 : Hid (W.grownBy (w5.setCell ⟨R, 3, none⟩ (.int .i64 ((o : Int) + 1))) (some R)) := gr_setB ((gr_of_below B4.out (some R)).trans hg5)
        clear hm5 hg5 B2 B3 B4 M2 M3 M4
        go_wp2_with fail
        go_at_call 98
        refine (cC.out _ M6.out).mono ?_
        rintro x w7 ⟨v, rfl, hO7, hm7, hg7⟩
        obtain ⟨ao, vn, vc, rfl⟩ := hO7.form
        obtain ⟨e0, e1, e2, e3, e4, e5⟩ := hm7.cells
        have M7 : Hid (RdM w7 R s pat r.2 (o + 1) ft 0) := hm7
        have G7 : Hid (W.grownBy w7 (some R)) := G6.out.trans hg7
        clear hO7 hm7 hg7
        go_wp2_with fail
        go_at_call 127
        refine (cI.out _ M7.out).mono ?_
        rintro x w8 ⟨rfl, hb8⟩
        have M8 : Hid (RdM w8 R s pat r.2 (o + 1) ft 0) := M7.out.below hb8
        obtain ⟨i0, i1, i2, i3, i4, i5⟩ := M8.out.cells
        have G8 : Hid (W.grownBy w8 (some R)) := G7.out.trans (gr_of_below hb8 _)
        clear hb8
        go_wp2_with fail
        go_at_call 100
        refine (cF.out _ M8.out).mono ?_
        rintro x w9 ⟨rfl, hm9, hg9⟩
        have HX : Hid (RdM w9 R s pat r.2 (o + 1) r.2 6 ∧ W.grownBy w9 (some R)) := ⟨hm9, G8.out.trans hg9⟩
        clear hm9 hg9
        go_wp2_with fail
        go_ret
        exact ⟨_, [], _, _, rfl, OwnN_nil _ _, BadL.nil ha, HX.out.1, by decide, HX.out.2⟩

/-- THE RULE atom. -/
theorem ram_step (s : ByteArray) (pat : Bool) (hs : s.size ≤ 4096) (f : Nat) (ih : RdC s pat f) (W : World) (R a o ft : Nat) (t : Tk) (h0 : psFrom s pat mx63 a = .ok t) (hM : RdM W R s pat a o ft 0) (ha : a ≤ s.size) (ho : o ≤ 100) (hno : rdX s pat (f + 1) .atom a o ≠ .out) :
    Calls Tryd.prog 159 #[.pointer (some ⟨R, 0, none⟩)] W fun e w' => RRes W R s pat a o ft (rdX s pat (f + 1) .atom a o) e w' := by
  rw [rdX_ok h0] at hno ⊢
  have ht := from_at ha h0
  simp only [rdRun] at hno ⊢
  by_cases h48 : t.what = 48
  · rw [if_pos h48]
    exact atom_num s pat hs W R a o ft hM ha t h0 h48
  · rw [if_neg h48] at hno ⊢
    by_cases h97 : t.what = 97
    · rw [if_pos h97]
      exact atom_name s pat hs W R a o ft hM ha t h0 h97
    · rw [if_neg h97] at hno ⊢
      by_cases h64 : t.what = 64
      · rw [if_pos h64]
        exact atom_hole s pat hs W R a o ft hM ha t h0 h97 h48 h64
      · rw [if_neg h64] at hno ⊢
        by_cases h40 : t.what = 40
        · rw [if_pos h40] at hno ⊢
          by_cases h100 : o = 100
          · rw [if_pos h100, ht.at_]
            exact atom_many s pat hs W R a o ft hM ha t h0 h97 h48 h40 h100
          · rw [if_neg h100] at hno ⊢
            have e : ((psFrom s pat mx63 (skp s t.to)).bind fun t1 => (rdRun s pat f .cond t1 (o + 1)).bind fun e => (psFrom s pat mx63 e.2).bind fun t2 => if t2.what = 41 then (if t2.err = 0 then .ok (e.1, skp s t2.to) else .bad t2.from_ t2.err) else .bad t2.from_ 6) = (rdX s pat f .cond (skp s t.to) (o + 1)).bind fun e => (psFrom s pat mx63 e.2).bind fun t2 => if t2.what = 41 then (if t2.err = 0 then .ok (e.1, skp s t2.to) else .bad t2.from_ t2.err) else .bad t2.from_ 6 := by
              unfold rdX; rw [Pr.bind_assoc]
            rw [e] at hno ⊢
            exact atom_group s pat hs f ih W R a o ft hM ha t h0 h97 h48 h40 (by omega) (fun c => hno (by rw [c]; rfl))
        · rw [if_neg h40, ht.at_]
          exact atom_no s pat hs W R a o ft hM ha t h0 h97 h48 h64 h40
end Go.Proofs.YtjmccobblpcbhaaDoor
