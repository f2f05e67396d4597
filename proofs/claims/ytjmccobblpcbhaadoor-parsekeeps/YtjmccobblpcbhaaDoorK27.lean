/-
  RrCdW, RrAllW.
-/
import Derived.Shelf.Unicode.DecodeSlow
import Derived.Laws.RangeAny
import Derived.Shelf.Strings.Builder1
import Derived.Shelf.Small.Utf8
import Derived.Shelf.Small.Bits
import Derived.Shelf.Strings.BuilderF
import Derived.Shelf.Strings.BuilderK
import Derived.Shelf.Strings.BuilderRune
import Derived.Shelf.Utf8.AppendRune
import Derived.Shelf.Strconv.Itoa0
import Derived.Shelf.Strconv.Itoa1
import Derived.Shelf.LaysM
import Derived.Shelf.Strconv.Itoa2
import Derived.Shelf.Strconv.Itoa3
import Derived.Shelf.Strconv.Itoa4
import Derived.Shelf.Strings.Prefix
import Derived.Shelf.Unicode.DecodeAny
import Derived.Test.YtjmccobblpcbhaaDoorProg
import Derived.WalkKit
import Derived.Deep.DeepFit
import Derived.Lib.OthersKept
import Derived.Lib.RuneCountTail
import Derived.Lib.Small
import Derived.Lib.Strings
import Derived.Lib.MapLaws
import Derived.Deep.AppendLies
import Derived.Deep.OwnRows
import Derived.Laws.AppendOwnNone
import Derived.Deep.QuietTactic
import Derived.BigQuiet
import Derived.Deep.RegionWith
import Derived.Laws.DeepStrings4
import Derived.Deep.RegionHeld3
import Derived.Laws.ResultCell
import Derived.Lib.QuietBelow
import Derived.Deep.Heap
import Derived.Laws.Rows
import Derived.Below
import Derived.StillTail
import Derived.Sort.Walk0
import Derived.Deep.RegionLaw
import Derived.Laws.OwnMore
import Derived.Test.YtjmccobblpcbhaaDoorK01
import Derived.Test.YtjmccobblpcbhaaDoorK02
import Derived.Test.YtjmccobblpcbhaaDoorK03
import Derived.Test.YtjmccobblpcbhaaDoorK04
import Derived.Test.YtjmccobblpcbhaaDoorK05
import Derived.Test.YtjmccobblpcbhaaDoorK06
import Derived.Test.YtjmccobblpcbhaaDoorK07
import Derived.Test.YtjmccobblpcbhaaDoorK08
import Derived.Test.YtjmccobblpcbhaaDoorK09
import Derived.Test.YtjmccobblpcbhaaDoorK10
import Derived.Test.YtjmccobblpcbhaaDoorK11
import Derived.Test.YtjmccobblpcbhaaDoorK12
import Derived.Test.YtjmccobblpcbhaaDoorK13
import Derived.Test.YtjmccobblpcbhaaDoorK14
import Derived.Test.YtjmccobblpcbhaaDoorK15
import Derived.Test.YtjmccobblpcbhaaDoorK16
import Derived.Test.YtjmccobblpcbhaaDoorK17
import Derived.Test.YtjmccobblpcbhaaDoorK18
import Derived.Test.YtjmccobblpcbhaaDoorK19
import Derived.Test.YtjmccobblpcbhaaDoorK20
import Derived.Test.YtjmccobblpcbhaaDoorK21
import Derived.Test.YtjmccobblpcbhaaDoorK22
import Derived.Test.YtjmccobblpcbhaaDoorK23
import Derived.Test.YtjmccobblpcbhaaDoorK24
import Derived.Test.YtjmccobblpcbhaaDoorK25
import Derived.Test.YtjmccobblpcbhaaDoorK26
set_option linter.unusedSimpArgs false
set_option linter.unusedVariables false
namespace Go.Proofs.YtjmccobblpcbhaaDoor
open Go.RowKit Go.Lib Go.Sort

theorem join3' (op : Int) {a b c : List Nd} (ka : KidsUp a) (kb : KidsUp b) (kc : KidsUp c) (na : a ≠ []) : joinL op 0 ⟨#[]⟩ [a, b, c] = jn3 op a b c := by
  have := List.length_pos_iff.2 na
  have e0 : a.map (mvN 0 0) = a := by
    have := mv_shs (d := 0) ka
    rw [shN_zero] at this
    exact this
  have e1 := mv_shs (d := a.length) kb
  have e2 := mv_shs (d := a.length + b.length) kc
  rw [Int.natCast_add] at e2
  unfold joinL accS jn3
  simp [e0, e1, e2]
  omega
theorem jn3_bad (op : Int) {a b c : List Nd} (ha : KidsIn a) (hb : KidsIn b) (hc : ∀ x ∈ c, x.kids.length ≤ 3 ∧ ∀ k ∈ x.kids, 0 ≤ k ∧ k < (c.length : Int)) : ∀ x ∈ jn3 op a b c, x.kids.length ≤ 3 ∧ ∀ k ∈ x.kids, 0 ≤ k ∧ k < ((jn3 op a b c).length : Int) := by
  have := List.length_pos_iff.2 ha.ne
  have hl : (jn3 op a b c).length = a.length + b.length + c.length + 1 := jn3_len ..
  intro x hx
  rw [hl]
  unfold jn3 at hx
  rcases List.mem_append.1 hx with hx | hx
  · rcases List.mem_append.1 hx with hx | hx
    · rcases List.mem_append.1 hx with hx | hx
      · exact ha.wide _ (by omega) x hx
      · exact sh_in hb a.length _ (by omega) x hx
    · by_cases hn : c = []
      · rw [hn] at hx; simp at hx
      · exact sh_in (in_of hn hc) (a.length + b.length) _ (by omega) x hx
  · rw [List.mem_singleton.1 hx]
    refine ⟨by simp, fun k hk => ?_⟩
    simp at hk
    omega

def cdX (s : ByteArray) (pat : Bool) (f a o : Nat) : Pr (List Nd × Nat) :=
  (rdX s pat f (.level 1) a o).bind fun c => (psFrom s pat mx63 c.2).bind fun t1 =>
    if t1.what = 63 then (rdX s pat f .cond (skp s t1.to) o).bind fun x => (psFrom s pat mx63 x.2).bind fun t3 =>
      if t3.what = 58 then (if t3.err = 0 then (rdX s pat f .cond (skp s t3.to) o).bind fun b => .ok (jn3 17 c.1 x.1 b.1, b.2) else .bad t3.from_ t3.err) else .bad t3.from_ 6
    else .ok c
theorem cdX_eq (s : ByteArray) (pat : Bool) (f a o : Nat) : rdX s pat (f + 1) .cond a o = cdX s pat f a o := by
  unfold cdX
  rw [show rdX s pat (f + 1) .cond a o = (psFrom s pat mx63 a).bind fun t => rdRun s pat (f + 1) .cond t o from rfl]
  rw [show rdX s pat f (.level 1) a o = (psFrom s pat mx63 a).bind fun t => rdRun s pat f (.level 1) t o from rfl, Pr.bind_assoc]
  congr 1
  funext t
  simp only [rdRun]
  congr 1
  funext c
  congr 1
  funext t1
  split
  · rw [show rdX s pat f .cond (skp s t1.to) o = (psFrom s pat mx63 (skp s t1.to)).bind fun t => rdRun s pat f .cond t o from rfl, Pr.bind_assoc]
    congr 1
    funext t2
    congr 1
    funext x
    congr 1
    funext t3
    split
    · split
      · rw [show rdX s pat f .cond (skp s t3.to) o = (psFrom s pat mx63 (skp s t3.to)).bind fun t => rdRun s pat f .cond t o from rfl, Pr.bind_assoc]
      · rfl
    · rfl
  · rfl

set_option maxRecDepth 20000 in
set_option maxHeartbeats 16000000 in
/-- THE RULE cond. -/
theorem rcd_step (s : ByteArray) (pat : Bool) (hs : s.size ≤ 4096) (f : Nat) (ih : RdC s pat f) (W : World) (R a o ft : Nat) (hM : RdM W R s pat a o ft 0) (ha : a ≤ s.size) (ho : o ≤ 100) (hno : rdX s pat (f + 1) .cond a o ≠ .out) :
    Calls Tryd.prog 98 #[.pointer (some ⟨R, 0, none⟩)] W fun e w' => RRes W R s pat a o ft (rdX s pat (f + 1) .cond a o) e w' := by
  rw [cdX_eq] at hno ⊢
  obtain ⟨X, hX⟩ : ∃ X, cdX s pat f a o = X := ⟨_, rfl⟩
  rw [hX] at hno ⊢
  have HX : Hid (X = cdX s pat f a o) := hX.symm
  have HN : Hid (X ≠ .out) := hno
  have hRW : R < W.heap.size := hM.lt
  have hq1 : (RdQ.level 1).lvl := ⟨(fun _ e => by cases e; exact Nat.le_refl _), (fun _ _ e => by cases e)⟩
  have hqc : RdQ.cond.lvl := ⟨(fun _ e => by cases e), (fun _ _ e => by cases e)⟩
  have h1o : rdX s pat f (.level 1) a o ≠ .out := fun c => HN.out (by rw [HX.out]; unfold cdX; rw [c]; rfl)
  have cL : Hid (Calls Tryd.prog 126 #[.pointer (some ⟨R, 0, none⟩), .int .i64 0] W fun e w' => RRes W R s pat a o ft (rdX s pat f (.level 1) a o) e w') := ih.level 1 (by omega) (by omega) W R a o ft hM ha ho h1o
  clear hX hno hM h1o
  go_enter Tryd.func98, Tryd.ntmps98
  go_wp2_with fail
  go_at_call 126
  refine cL.out.mono ?_
  clear cL
  intro x w1 hR1
  cases h1 : rdX s pat f (.level 1) a o with
  | out => rw [h1] at hR1; cases hR1
  | bad p er =>
    rw [h1] at hR1
    obtain ⟨v, l, a', o', rfl, hO1, hBL, hm1, her, hg1⟩ := hR1
    obtain ⟨vo, vn, vc, rfl⟩ := hO1.form
    obtain ⟨c0, c1, c2, c3, c4, c5⟩ := hm1.cells
    have hne : (er != 0) = true := by simpa using her
    have HE : Hid (X = .bad p er) := by show X = _; rw [HX.out]; unfold cdX; rw [h1]; rfl
    have HP : Hid (OwnN w1 W.heap.size (.slice vo vn vc) l ∧ BadL s a l ∧ RdM w1 R s pat a' o' p er ∧ er ≠ 0 ∧ W.grownBy w1 (some R)) := ⟨hO1, hBL, hm1, her, hg1⟩
    clear hO1 hBL hm1 her hg1 h1 HX HN ih
    go_wp2_with fail
    go_ret
    rw [HE.out]
    exact ⟨_, l, a', o', rfl, HP.out⟩
  | ok c =>
    rw [h1] at hR1
    obtain ⟨v, rfl, hO1, hm1, hg1⟩ := hR1
    obtain ⟨vo, vn, vc, rfl⟩ := hO1.form
    obtain ⟨c0, c1, c2, c3, c4, c5⟩ := hm1.cells
    obtain ⟨k1, k2, k3, k4⟩ := rdX_len hq1 (fun _ _ e => by cases e) ha h1
    have O1 : Hid (OwnN w1 W.heap.size (.slice vo vn vc) c.1) := hO1
    have M1 : Hid (RdM w1 R s pat c.2 o ft 0) := hm1
    have G1 : Hid (W.grownBy w1 (some R)) := hg1
    have K4 : Hid (KidsIn c.1) := k4
    clear hO1 hm1 hg1 k4
    cases h2 : psFrom s pat mx63 c.2 with
    | out => exact absurd h2 (psFrom_in _ _ _ _)
    | bad p er =>
      obtain ⟨rfl, rfl, hsg⟩ := sg_bad h2
      have HE : Hid (X = .bad c.2 5) := by show X = _; rw [HX.out]; unfold cdX; rw [h1]; simp only [Pr.bind, h2]
      have cI : Hid (Calls Tryd.prog 127 #[.pointer (some ⟨R, 0, none⟩), .string ⟨#[63]⟩] w1 fun x w' => x = .returned (.bool false) ∧ RdM w' R s pat c.2 o c.2 5 ∧ w1.grownBy w' (some R)) := is_none w1 R s pat c.2 o ft M1.out hs k3 ⟨#[63]⟩ hsg
      clear h1 h2 HX HN ih hsg
      go_wp2_with fail
      go_at_call 127
      refine cI.out.mono ?_
      rintro x w2 ⟨rfl, hm2, hg2⟩
      have HP : Hid (OwnN w2 W.heap.size (.slice vo vn vc) c.1 ∧ BadL s a c.1 ∧ RdM w2 R s pat c.2 o c.2 5 ∧ (5 : Int) ≠ 0 ∧ W.grownBy w2 (some R)) := ⟨O1.out.gr hg2 hRW, BadL.of K4.out (by omega), hm2, by decide, G1.out.trans hg2⟩
      clear hm2 hg2
      go_wp2_with fail
      go_ret
      rw [HE.out]
      exact ⟨_, c.1, _, _, rfl, HP.out⟩
    | ok t1 =>
      have ht1 := from_at k3 h2
      have cI : Hid (Calls Tryd.prog 127 #[.pointer (some ⟨R, 0, none⟩), .string ⟨#[63]⟩] w1 fun x w' => x = .returned (.bool (decide (t1.what = 63))) ∧ Below w1.heap.size w1 w') := by
        have := is_some w1 R s pat c.2 o ft M1.out hs k3 ⟨#[63]⟩ _ _ (sg_ok h2)
        rw [decide_eq_decide.2 (txt_whats t1.what (from_what h2)).1] at this
        exact this
      by_cases h63 : t1.what = 63
      · rw [decide_eq_true h63] at cI
        obtain ⟨_, hto, _⟩ := ht1.good (ht1.sign (by rw [h63]; decide) (by rw [h63]; decide))
        have hlt := (ht1.good (ht1.sign (by rw [h63]; decide) (by rw [h63]; decide))).2.2 (by rw [h63]; decide)
        have hsk := skp_in hto
        have cT : Hid (∀ W', RdM W' R s pat c.2 o ft 0 → Calls Tryd.prog 128 #[.pointer (some ⟨R, 0, none⟩)] W' fun x w' => x = .returned (.tuple #[]) ∧ RdM w' R s pat (skp s t1.to) o ft 0 ∧ W'.grownBy w' (some R)) := fun W' h' => take_ok s pat hs W' R c.2 o ft h' k3 t1 h2 (by rw [h63]; decide) (by rw [h63]; decide) (by rw [h63]; decide)
        have HX2 : Hid (X = (rdX s pat f .cond (skp s t1.to) o).bind fun x => (psFrom s pat mx63 x.2).bind fun t3 => if t3.what = 58 then (if t3.err = 0 then (rdX s pat f .cond (skp s t3.to) o).bind fun b => .ok (jn3 17 c.1 x.1 b.1, b.2) else .bad t3.from_ t3.err) else .bad t3.from_ 6) := by
          show X = _
          rw [HX.out]; unfold cdX; rw [h1]; simp only [Pr.bind, h2]; rw [if_pos h63]
        have h2o : rdX s pat f .cond (skp s t1.to) o ≠ .out := fun e => HN.out (by rw [HX2.out, e]; rfl)
        have cC : Hid (∀ W', RdM W' R s pat (skp s t1.to) o ft 0 → Calls Tryd.prog 98 #[.pointer (some ⟨R, 0, none⟩)] W' fun e w' => RRes W' R s pat (skp s t1.to) o ft (rdX s pat f .cond (skp s t1.to) o) e w') := fun W' h' => ih.cond W' R _ o ft h' hsk.2 ho h2o
        have hlen : ∀ r, rdX s pat f .cond (skp s t1.to) o = .ok r → r.1.length + skp s t1.to ≤ r.2 ∧ skp s t1.to ≤ r.2 ∧ r.2 ≤ s.size ∧ KidsIn r.1 := fun r hr => rdX_len hqc (fun _ _ e => by cases e) hsk.2 hr
        clear h1 h2 HX h63 ht1 h2o
        generalize skp s t1.to = b1 at *
        go_wp2_with fail
        go_at_call 127
        refine cI.out.mono ?_
        rintro x w2 ⟨rfl, hb2⟩
        have O2 : Hid (OwnN w2 W.heap.size (.slice vo vn vc) c.1) := O1.out.below hb2
        have M2 : Hid (RdM w2 R s pat c.2 o ft 0) := M1.out.below hb2
        have G2 : Hid (W.grownBy w2 (some R)) := G1.out.trans (gr_of_below hb2 _)
        clear hb2 cI O1 M1 G1 c0 c1 c2 c3 c4 c5
        go_wp2_with fail
        go_at_call 128
        refine (cT.out _ M2.out).mono ?_
        rintro x w3 ⟨rfl, hm3, hg3⟩
        have O3 : Hid (OwnN w3 W.heap.size (.slice vo vn vc) c.1) := O2.out.gr hg3 hRW
        have M3 : Hid (RdM w3 R s pat b1 o ft 0) := hm3
        have G3 : Hid (W.grownBy w3 (some R)) := G2.out.trans hg3
        clear hm3 hg3 cT O2 M2 G2
        go_wp2_with fail
        go_at_call 98
        refine (cC.out _ M3.out).mono ?_
        clear cC
        intro x w4 hR4
        cases h4 : rdX s pat f .cond b1 o with
        | out => rw [h4] at hR4; cases hR4
        | bad p er =>
          rw [h4] at hR4
          obtain ⟨v, l, a', o', rfl, hO4, hBL, hm4, her, hg4⟩ := hR4
          obtain ⟨xo, xn, xc, rfl⟩ := hO4.form
          obtain ⟨d0, d1, d2, d3, d4, d5⟩ := hm4.cells
          have hne : (er != 0) = true := by simpa using her
          have HE : Hid (X = .bad p er) := by show X = _; rw [HX2.out, h4]; rfl
          have HP : Hid (RdM w4 R s pat a' o' p er ∧ er ≠ 0 ∧ W.grownBy w4 (some R)) := ⟨hm4, her, G3.out.trans hg4⟩
          clear hO4 hBL hm4 her hg4 h4 HX2 HN ih
          go_wp2_with fail
          go_ret
          rw [HE.out]
          exact ⟨_, [], a', o', rfl, OwnN_nil _ _, BadL.nil ha, HP.out⟩
        | ok y =>
          rw [h4] at hR4
          obtain ⟨v, rfl, hO4, hm4, hg4⟩ := hR4
          obtain ⟨xo, xn, xc, rfl⟩ := hO4.form
          obtain ⟨d0, d1, d2, d3, d4, d5⟩ := hm4.cells
          obtain ⟨j1, j2, j3, j4⟩ := hlen y h4
          have O4 : Hid (OwnN w4 W.heap.size (.slice vo vn vc) c.1) := O3.out.gr hg4 hRW
          have P4 : Hid (OwnN w4 W.heap.size (.slice xo xn xc) y.1) := hO4.lower G3.out.size
          have M4 : Hid (RdM w4 R s pat y.2 o ft 0) := hm4
          have G4 : Hid (W.grownBy w4 (some R)) := G3.out.trans hg4
          have J4 : Hid (KidsIn y.1) := j4
          clear hO4 hm4 hg4 j4 hlen O3 M3 G3
          cases h5 : psFrom s pat mx63 y.2 with
          | out => exact absurd h5 (psFrom_in _ _ _ _)
          | bad p er =>
            obtain ⟨rfl, rfl, hsg⟩ := sg_bad h5
            have HE : Hid (X = .bad y.2 5) := by show X = _; rw [HX2.out, h4]; simp only [Pr.bind, h5]
            have cI : Hid (Calls Tryd.prog 127 #[.pointer (some ⟨R, 0, none⟩), .string ⟨#[58]⟩] w4 fun x w' => x = .returned (.bool false) ∧ RdM w' R s pat y.2 o y.2 5 ∧ w4.grownBy w' (some R)) := is_none w4 R s pat y.2 o ft M4.out hs j3 ⟨#[58]⟩ hsg
            have cF : Hid (∀ W', RdM W' R s pat y.2 o y.2 5 → Calls Tryd.prog 100 #[.pointer (some ⟨R, 0, none⟩), .int .i64 (y.2 : Int), .int .i64 6] W' fun x w' => x = .returned (.slice none 0 0) ∧ RdM w' R s pat y.2 o y.2 5 ∧ W'.grownBy w' (some R)) := fun W' h' => rfail_any W' R s pat y.2 o y.2 5 h' y.2 6
            clear h4 h5 HX2 HN ih hsg
            go_wp2_with fail
            go_at_call 127
            refine cI.out.mono ?_
            rintro x w5 ⟨rfl, hm5, hg5⟩
            obtain ⟨e0, e1, e2, e3, e4, e5⟩ := hm5.cells
            have M5 : Hid (RdM w5 R s pat y.2 o y.2 5) := hm5
            have G5 : Hid (W.grownBy w5 (some R)) := G4.out.trans hg5
            clear hm5 hg5
            go_wp2_with fail
            go_at_call 100
            refine (cF.out _ M5.out).mono ?_
            rintro x w6 ⟨rfl, hm6, hg6⟩
            have HP : Hid (RdM w6 R s pat y.2 o y.2 5 ∧ (5 : Int) ≠ 0 ∧ W.grownBy w6 (some R)) := ⟨hm6, by decide, G5.out.trans hg6⟩
            clear hm6 hg6
            go_wp2_with fail
            go_ret
            rw [HE.out]
            exact ⟨_, [], _, _, rfl, OwnN_nil _ _, BadL.nil ha, HP.out⟩
          | ok t3 =>
            have ht3 := from_at j3 h5
            have cI : Hid (Calls Tryd.prog 127 #[.pointer (some ⟨R, 0, none⟩), .string ⟨#[58]⟩] w4 fun x w' => x = .returned (.bool (decide (t3.what = 58))) ∧ Below w4.heap.size w4 w') := by
              have := is_some w4 R s pat y.2 o ft M4.out hs j3 ⟨#[58]⟩ _ _ (sg_ok h5)
              rw [decide_eq_decide.2 (txt_whats t3.what (from_what h5)).2.1] at this
              exact this
            by_cases h58 : t3.what = 58
            · rw [decide_eq_true h58] at cI
              have he3 := ht3.sign (by rw [h58]; decide) (by rw [h58]; decide)
              obtain ⟨_, hto3, hl3⟩ := ht3.good he3
              have hlt3 := hl3 (by rw [h58]; decide)
              have hsk3 := skp_in hto3
              have cT : Hid (∀ W', RdM W' R s pat y.2 o ft 0 → Calls Tryd.prog 128 #[.pointer (some ⟨R, 0, none⟩)] W' fun x w' => x = .returned (.tuple #[]) ∧ RdM w' R s pat (skp s t3.to) o ft 0 ∧ W'.grownBy w' (some R)) := fun W' h' => take_ok s pat hs W' R y.2 o ft h' j3 t3 h5 (by rw [h58]; decide) (by rw [h58]; decide) (by rw [h58]; decide)
              have HX3 : Hid (X = (rdX s pat f .cond (skp s t3.to) o).bind fun b => .ok (jn3 17 c.1 y.1 b.1, b.2)) := by
                show X = _
                rw [HX2.out, h4]; simp only [Pr.bind, h5]; rw [if_pos h58, if_pos he3]
              have h3o : rdX s pat f .cond (skp s t3.to) o ≠ .out := fun e => HN.out (by rw [HX3.out, e]; rfl)
              have cC : Hid (∀ W', RdM W' R s pat (skp s t3.to) o ft 0 → Calls Tryd.prog 98 #[.pointer (some ⟨R, 0, none⟩)] W' fun e w' => RRes W' R s pat (skp s t3.to) o ft (rdX s pat f .cond (skp s t3.to) o) e w') := fun W' h' => ih.cond W' R _ o ft h' hsk3.2 ho h3o
              have hlen : ∀ r, rdX s pat f .cond (skp s t3.to) o = .ok r → r.1.length + skp s t3.to ≤ r.2 ∧ skp s t3.to ≤ r.2 ∧ r.2 ≤ s.size ∧ KidsIn r.1 := fun r hr => rdX_len hqc (fun _ _ e => by cases e) hsk3.2 hr
              clear h4 h5 HX2 h58 ht3 h3o he3
              generalize skp s t3.to = b3 at *
              go_wp2_with fail
              go_at_call 127
              refine cI.out.mono ?_
              rintro x w5 ⟨rfl, hb5⟩
              have O5 : Hid (OwnN w5 W.heap.size (.slice vo vn vc) c.1) := O4.out.below hb5
              have P5 : Hid (OwnN w5 W.heap.size (.slice xo xn xc) y.1) := P4.out.below hb5
              have M5 : Hid (RdM w5 R s pat y.2 o ft 0) := M4.out.below hb5
              have G5 : Hid (W.grownBy w5 (some R)) := G4.out.trans (gr_of_below hb5 _)
              clear hb5 cI O4 P4 M4 G4 d0 d1 d2 d3 d4 d5
              go_wp2_with fail
              go_at_call 128
              refine (cT.out _ M5.out).mono ?_
              rintro x w6 ⟨rfl, hm6, hg6⟩
              have O6 : Hid (OwnN w6 W.heap.size (.slice vo vn vc) c.1) := O5.out.gr hg6 hRW
              have P6 : Hid (OwnN w6 W.heap.size (.slice xo xn xc) y.1) := P5.out.gr hg6 hRW
              have M6 : Hid (RdM w6 R s pat b3 o ft 0) := hm6
              have G6 : Hid (W.grownBy w6 (some R)) := G5.out.trans hg6
              clear hm6 hg6 cT O5 P5 M5 G5
              go_wp2_with fail
              go_at_call 98
              refine (cC.out _ M6.out).mono ?_
              clear cC
              intro x w7 hR7
              have pc := in_parts (l := c.1) (by omega) (fun x hx => ⟨K4.out.few x hx, K4.out.kin x hx⟩)
              have py := in_parts (l := y.1) (by omega) (fun x hx => ⟨J4.out.few x hx, J4.out.kin x hx⟩)
              have HPC : Hid (c.1.length ≤ 5000 ∧ ∀ x ∈ c.1, x.kids.length * 8 ≤ 140737488351232 ∧ ∀ k ∈ x.kids, 0 ≤ k ∧ k ≤ 9000) := pc
              have HPY : Hid (y.1.length ≤ 5000 ∧ ∀ x ∈ y.1, x.kids.length * 8 ≤ 140737488351232 ∧ ∀ k ∈ x.kids, 0 ≤ k ∧ k ≤ 9000) := py
              clear pc py
              cases h7 : rdX s pat f .cond b3 o with
              | out => rw [h7] at hR7; cases hR7
              | bad p er =>
                rw [h7] at hR7
                obtain ⟨v, l, a', o', rfl, hO7, hBL, hm7, her, hg7⟩ := hR7
                obtain ⟨zo, zn, zc, rfl⟩ := hO7.form
                have HE : Hid (X = .bad p er) := by show X = _; rw [HX3.out, h7]; rfl
                have hbl := hBL.len
                have HPL : Hid (l.length ≤ 5000 ∧ ∀ x ∈ l, x.kids.length * 8 ≤ 140737488351232 ∧ ∀ k ∈ x.kids, 0 ≤ k ∧ k ≤ 9000) := in_parts (by omega) hBL.kids
                have cJ : Hid (Calls Tryd.prog 76 #[.agg #[.int .i64 17, .int .i64 0, .string ⟨#[]⟩, .slice none 0 0], .slice (some ⟨w7.heap.size, 0, none⟩) 3 3] (w7.alloc (.cells #[.slice vo vn vc, .slice xo xn xc, .slice zo zn zc] 22)) fun e w' => ∃ v', e = .returned v' ∧ OwnN w' w7.heap.size v' (joinL 17 0 ⟨#[]⟩ [c.1, y.1, l]) ∧ Below w7.heap.size w7 w') := joinN3 17 w7 _ _ _ _ _ _ c.1 y.1 l (O6.out.gr hg7 hRW) (P6.out.gr hg7 hRW) hO7 HPC.out HPY.out HPL.out
                have HJ : Hid (joinL 17 0 ⟨#[]⟩ [c.1, y.1, l] = jn3 17 c.1 y.1 l) := join3' 17 K4.out.up J4.out.up (fun x hx k hk => ((hBL.kids x hx).2 k hk).1) K4.out.ne
                have HBJ : Hid (BadL s a (jn3 17 c.1 y.1 l)) := ⟨by rw [jn3_len]; omega, jn3_bad 17 K4.out J4.out hBL.kids⟩
                have M7 : Hid (RdM w7 R s pat a' o' p er ∧ er ≠ 0) := ⟨hm7, her⟩
                have G7 : Hid (W.grownBy w7 (some R)) := G6.out.trans hg7
                clear hO7 hBL hm7 her hg7 h7 HX3 HN ih hlen
                go_wp2_with fail
                go_at_call 76
                refine cJ.out.mono ?_
                rintro x w8 ⟨v', rfl, hO8, hb8⟩
                have HP : Hid (OwnN w8 W.heap.size v' (jn3 17 c.1 y.1 l) ∧ BadL s a (jn3 17 c.1 y.1 l) ∧ RdM w8 R s pat a' o' p er ∧ er ≠ 0 ∧ W.grownBy w8 (some R)) := ⟨by rw [← HJ.out]; exact hO8.lower G7.out.size, HBJ.out, M7.out.1.below hb8, M7.out.2, G7.out.trans (gr_of_below hb8 _)⟩
                clear hO8 hb8
                go_wp2_with fail
                go_ret
                rw [HE.out]
                exact ⟨_, _, _, _, rfl, HP.out⟩
              | ok z =>
                rw [h7] at hR7
                obtain ⟨v, rfl, hO7, hm7, hg7⟩ := hR7
                obtain ⟨zo, zn, zc, rfl⟩ := hO7.form
                obtain ⟨q1, q2, q3, q4⟩ := hlen z h7
                have HE : Hid (X = .ok (jn3 17 c.1 y.1 z.1, z.2)) := by show X = _; rw [HX3.out, h7]; rfl
                have HPL : Hid (z.1.length ≤ 5000 ∧ ∀ x ∈ z.1, x.kids.length * 8 ≤ 140737488351232 ∧ ∀ k ∈ x.kids, 0 ≤ k ∧ k ≤ 9000) := in_parts (by omega) (fun x hx => ⟨q4.few x hx, q4.kin x hx⟩)
                have cJ : Hid (Calls Tryd.prog 76 #[.agg #[.int .i64 17, .int .i64 0, .string ⟨#[]⟩, .slice none 0 0], .slice (some ⟨w7.heap.size, 0, none⟩) 3 3] (w7.alloc (.cells #[.slice vo vn vc, .slice xo xn xc, .slice zo zn zc] 22)) fun e w' => ∃ v', e = .returned v' ∧ OwnN w' w7.heap.size v' (joinL 17 0 ⟨#[]⟩ [c.1, y.1, z.1]) ∧ Below w7.heap.size w7 w') := joinN3 17 w7 _ _ _ _ _ _ c.1 y.1 z.1 (O6.out.gr hg7 hRW) (P6.out.gr hg7 hRW) hO7 HPC.out HPY.out HPL.out
                have HJ : Hid (joinL 17 0 ⟨#[]⟩ [c.1, y.1, z.1] = jn3 17 c.1 y.1 z.1) := join3 17 K4.out.up J4.out.up q4.up K4.out.ne J4.out.ne q4.ne
                have M7 : Hid (RdM w7 R s pat z.2 o ft 0) := hm7
                have G7 : Hid (W.grownBy w7 (some R)) := G6.out.trans hg7
                clear hO7 hm7 hg7 h7 HX3 HN ih hlen q4
                go_wp2_with fail
                go_at_call 76
                refine cJ.out.mono ?_
                rintro x w8 ⟨v', rfl, hO8, hb8⟩
                have HP : Hid (OwnN w8 W.heap.size v' (jn3 17 c.1 y.1 z.1) ∧ RdM w8 R s pat z.2 o ft 0 ∧ W.grownBy w8 (some R)) := ⟨by rw [← HJ.out]; exact hO8.lower G7.out.size, M7.out.below hb8, G7.out.trans (gr_of_below hb8 _)⟩
                clear hO8 hb8
                go_wp2_with fail
                go_ret
                rw [HE.out]
                exact ⟨_, rfl, HP.out⟩
            · rw [decide_eq_false h58] at cI
              have HE : Hid (X = .bad y.2 6) := by show X = _; rw [HX2.out, h4]; simp only [Pr.bind, h5]; rw [if_neg h58, ht3.at_]
              have cF : Hid (∀ W', RdM W' R s pat y.2 o ft 0 → Calls Tryd.prog 100 #[.pointer (some ⟨R, 0, none⟩), .int .i64 (y.2 : Int), .int .i64 6] W' fun x w' => x = .returned (.slice none 0 0) ∧ RdM w' R s pat y.2 o y.2 6 ∧ W'.grownBy w' (some R)) := fun W' h' => rfail_any W' R s pat y.2 o ft 0 h' y.2 6
              clear h4 h5 HX2 HN ih h58 ht3
              go_wp2_with fail
              go_at_call 127
              refine cI.out.mono ?_
              rintro x w5 ⟨rfl, hb5⟩
              have M5 : Hid (RdM w5 R s pat y.2 o ft 0) := M4.out.below hb5
              obtain ⟨e0, e1, e2, e3, e4, e5⟩ := M5.out.cells
              have G5 : Hid (W.grownBy w5 (some R)) := G4.out.trans (gr_of_below hb5 _)
              clear hb5
              go_wp2_with fail
              go_at_call 100
              refine (cF.out _ M5.out).mono ?_
              rintro x w6 ⟨rfl, hm6, hg6⟩
              have HP : Hid (RdM w6 R s pat y.2 o y.2 6 ∧ (6 : Int) ≠ 0 ∧ W.grownBy w6 (some R)) := ⟨hm6, by decide, G5.out.trans hg6⟩
              clear hm6 hg6
              go_wp2_with fail
              go_ret
              rw [HE.out]
              exact ⟨_, [], _, _, rfl, OwnN_nil _ _, BadL.nil ha, HP.out⟩
      · rw [decide_eq_false h63] at cI
        have HE : Hid (X = .ok c) := by show X = _; rw [HX.out]; unfold cdX; rw [h1]; simp only [Pr.bind, h2]; rw [if_neg h63]
        clear h1 h2 HX HN ih h63 ht1
        go_wp2_with fail
        go_at_call 127
        refine cI.out.mono ?_
        rintro x w2 ⟨rfl, hb2⟩
        have HP : Hid (OwnN w2 W.heap.size (.slice vo vn vc) c.1 ∧ RdM w2 R s pat c.2 o ft 0 ∧ W.grownBy w2 (some R)) := ⟨O1.out.below hb2, M1.out.below hb2, G1.out.trans (gr_of_below hb2 _)⟩
        clear hb2
        go_wp2_with fail
        go_ret
        rw [HE.out]
        exact ⟨_, rfl, HP.out⟩
end Go.Proofs.YtjmccobblpcbhaaDoor

set_option linter.unusedSimpArgs false
set_option linter.unusedVariables false
namespace Go.Proofs.YtjmccobblpcbhaaDoor
open Go.RowKit Go.Lib Go.Sort

set_option maxRecDepth 20000 in
set_option maxHeartbeats 8000000 in
theorem lv_bad (s : ByteArray) (pat : Bool) (hs : s.size ≤ 4096) (a p : Nat) (er : Int) (ha : a ≤ s.size) (h : psFrom s pat mx63 a = .bad p er) : ∀ (k : Nat), k ≤ 8 → ∀ (W : World) (R o ft : Nat), RdM W R s pat a o ft 0 →
    Calls Tryd.prog 126 #[.pointer (some ⟨R, 0, none⟩), .int .i64 (8 - (k : Int))] W fun e w' => RRes W R s pat a o ft (.bad p er) e w' := by
  intro k
  induction k with
  | zero =>
    intro _ W R o ft hM
    have cU : Hid (Calls Tryd.prog 145 #[.pointer (some ⟨R, 0, none⟩)] W fun e w' => RRes W R s pat a o ft (.bad p er) e w') := un_bad s pat hs 0 W R a o ft hM ha p er h
    generalize (Pr.bad p er : Pr (List Nd × Nat)) = X at *
    have e8 : (8 : Int) - ((0 : Nat) : Int) = 8 := by omega
    rw [e8]
    clear hM h e8
    go_enter Tryd.func126, Tryd.ntmps126
    go_wp2_with fail
    go_at_call 145
    refine cU.out.mono ?_
    intro x w1 hR
    obtain ⟨vo, vn, vc, rfl⟩ := hR.val
    have HR : Hid (RRes W R s pat a o ft X (.returned (.slice vo vn vc)) w1) := hR
    clear hR
    go_wp2_with fail
    go_ret
    exact HR.out
  | succ k ih =>
    intro hk W R o ft hM
    have cL : Hid (Calls Tryd.prog 126 #[.pointer (some ⟨R, 0, none⟩), .int .i64 (8 - (k : Int))] W fun e w' => RRes W R s pat a o ft (.bad p er) e w') := ih (by omega) W R o ft hM
    obtain ⟨m, hm⟩ : ∃ m : Int, (8 : Int) - ((k + 1 : Nat) : Int) = m := ⟨_, rfl⟩
    rw [hm]
    have e1 : (8 : Int) - (k : Int) = m + 1 := by omega
    rw [e1] at cL
    have hm7 : m ≤ 7 := by omega
    have hm0 : 0 ≤ m := by omega
    have hm8 : (m == 8) = false := by rw [beq_eq_false_iff_ne]; omega
    clear hM h hm e1 ih
    go_enter Tryd.func126, Tryd.ntmps126
    go_wp2_with fail
    go_at_call 126
    refine cL.out.mono ?_
    rintro x w1 ⟨v, l, a', o', rfl, hO1, hBL, hm1, her, hg1⟩
    obtain ⟨vo, vn, vc, rfl⟩ := hO1.form
    have HP : Hid (OwnN w1 W.heap.size (.slice vo vn vc) l ∧ BadL s a l ∧ RdM w1 R s pat a' o' p er ∧ er ≠ 0 ∧ W.grownBy w1 (some R)) := ⟨hO1, hBL, hm1, her, hg1⟩
    obtain ⟨c0, c1, c2, c3, c4, c5⟩ := hm1.cells
    have hne : (er == 0) = false := by rw [beq_eq_false_iff_ne]; exact her
    clear hO1 hBL hm1 her hg1 cL
    go_wp2_with fail
    go_loopw [5] (fun va wr => va = .slice vo vn vc ∧ wr = w1) (fun _ _ => 0)
    case atStart => exact ⟨rfl, rfl⟩
    case round =>
      obtain ⟨rfl, rfl⟩ := hrel
      go_wp2_with fail
      go_ret
      exact ⟨_, l, a', o', rfl, HP.out⟩

set_option maxRecDepth 20000 in
set_option maxHeartbeats 8000000 in
theorem cd_bad (s : ByteArray) (pat : Bool) (hs : s.size ≤ 4096) (a p : Nat) (er : Int) (ha : a ≤ s.size) (h : psFrom s pat mx63 a = .bad p er) (W : World) (R o ft : Nat) (hM : RdM W R s pat a o ft 0) :
    Calls Tryd.prog 98 #[.pointer (some ⟨R, 0, none⟩)] W fun e w' => RRes W R s pat a o ft (.bad p er) e w' := by
  have cL : Hid (Calls Tryd.prog 126 #[.pointer (some ⟨R, 0, none⟩), .int .i64 0] W fun e w' => RRes W R s pat a o ft (.bad p er) e w') := lv_bad s pat hs a p er ha h 8 (by omega) W R o ft hM
  clear hM h
  go_enter Tryd.func98, Tryd.ntmps98
  go_wp2_with fail
  go_at_call 126
  refine cL.out.mono ?_
  rintro x w1 ⟨v, l, a', o', rfl, hO1, hBL, hm1, her, hg1⟩
  obtain ⟨vo, vn, vc, rfl⟩ := hO1.form
  have HP : Hid (OwnN w1 W.heap.size (.slice vo vn vc) l ∧ BadL s a l ∧ RdM w1 R s pat a' o' p er ∧ er ≠ 0 ∧ W.grownBy w1 (some R)) := ⟨hO1, hBL, hm1, her, hg1⟩
  obtain ⟨c0, c1, c2, c3, c4, c5⟩ := hm1.cells
  have hne : (er != 0) = true := by simpa using her
  clear hO1 hBL hm1 her hg1 cL
  go_wp2_with fail
  go_ret
  exact ⟨_, l, a', o', rfl, HP.out⟩

theorem rdX_zero {s : ByteArray} {pat : Bool} {q : RdQ} {a o : Nat} (h : rdX s pat 0 q a o ≠ .out) : ∃ p er, psFrom s pat mx63 a = .bad p er := by
  cases h0 : psFrom s pat mx63 a with
  | ok t => exact absurd (by unfold rdX; rw [h0]; rfl) h
  | bad p er => exact ⟨p, er, rfl⟩
  | out => exact absurd h0 (psFrom_in _ _ _ _)

/-- THE RULES OF THE DOCUMENT's READER, at every fuel. -/
theorem rdc_any (s : ByteArray) (pat : Bool) (hs : s.size ≤ 4096) : ∀ f, RdC s pat f := by
  intro f
  induction f using Nat.strongRecOn with
  | _ f ih =>
    cases f with
    | zero =>
      refine ⟨?_, ?_, ?_, ?_⟩
      · intro W R a o ft hM ha ho hno
        obtain ⟨p, er, h⟩ := rdX_zero hno
        rw [rdX_bad h]
        exact cd_bad s pat hs a p er ha h W R o ft hM
      · intro lv h1 h9 W R a o ft hM ha ho hno
        obtain ⟨p, er, h⟩ := rdX_zero hno
        rw [rdX_bad h]
        have := lv_bad s pat hs a p er ha h (9 - lv) (by omega) W R o ft hM
        rw [show (8 : Int) - ((9 - lv : Nat) : Int) = (lv : Int) - 1 by omega] at this
        exact this
      · intro W R a o ft hM ha ho hno
        obtain ⟨p, er, h⟩ := rdX_zero hno
        rw [rdX_bad h]
        exact un_bad s pat hs 0 W R a o ft hM ha p er h
      · intro W R a o ft t h0 hM ha ho hno
        exact absurd (by unfold rdX; rw [h0]; rfl) hno
    | succ f =>
      have ihf := ih f (by omega)
      refine ⟨?_, ?_, ?_, ?_⟩
      · intro W R a o ft hM ha ho hno
        exact rcd_step s pat hs f ihf W R a o ft hM ha ho hno
      · intro lv h1 h9 W R a o ft hM ha ho hno
        by_cases h8 : lv ≤ 8
        · exact rlv_step s pat hs f (fun g hg => ih g (by omega)) lv h1 h8 W R a o ft hM ha ho hno
        · obtain rfl : lv = 9 := by omega
          rw [lvX_un] at hno ⊢
          exact rlv_un s pat hs f ihf W R a o ft hM ha ho hno
      · intro W R a o ft hM ha ho hno
        exact run_step s pat hs f ihf W R a o ft hM ha ho hno
      · intro W R a o ft t h0 hM ha ho hno
        exact ram_step s pat hs f ihf W R a o ft t h0 hM ha ho hno
end Go.Proofs.YtjmccobblpcbhaaDoor
