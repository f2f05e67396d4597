/-
  RrLvW.
-/
import Derived.Shelf.Unicode.DecodeSlow
import Derived.Laws.RangeAny
import Derived.Shelf.Strings.Builder1
import Derived.Shelf.Small.Utf8
import Derived.Shelf.Small.Bits
import Derived.Shelf.Strings.BuilderF
import Derived.Shelf.Strings.BuilderK
import Derived.Shelf.Strings.BuilderRune
import Derived.Shelf.Utf8.AppendRune
import Derived.Shelf.Strconv.Itoa0
import Derived.Shelf.Strconv.Itoa1
import Derived.Shelf.LaysM
import Derived.Shelf.Strconv.Itoa2
import Derived.Shelf.Strconv.Itoa3
import Derived.Shelf.Strconv.Itoa4
import Derived.Shelf.Strings.Prefix
import Derived.Shelf.Unicode.DecodeAny
import Derived.Test.YtjmccobblpcbhaaDoorProg
import Derived.WalkKit
import Derived.Deep.DeepFit
import Derived.Lib.OthersKept
import Derived.Lib.RuneCountTail
import Derived.Lib.Small
import Derived.Lib.Strings
import Derived.Lib.MapLaws
import Derived.Deep.AppendLies
import Derived.Deep.OwnRows
import Derived.Laws.AppendOwnNone
import Derived.Deep.QuietTactic
import Derived.BigQuiet
import Derived.Deep.RegionWith
import Derived.Laws.DeepStrings4
import Derived.Deep.RegionHeld3
import Derived.Laws.ResultCell
import Derived.Lib.QuietBelow
import Derived.Deep.Heap
import Derived.Laws.Rows
import Derived.Below
import Derived.StillTail
import Derived.Sort.Walk0
import Derived.Deep.RegionLaw
import Derived.Laws.OwnMore
import Derived.Test.YtjmccobblpcbhaaDoorK01
import Derived.Test.YtjmccobblpcbhaaDoorK02
import Derived.Test.YtjmccobblpcbhaaDoorK03
import Derived.Test.YtjmccobblpcbhaaDoorK04
import Derived.Test.YtjmccobblpcbhaaDoorK05
import Derived.Test.YtjmccobblpcbhaaDoorK06
import Derived.Test.YtjmccobblpcbhaaDoorK07
import Derived.Test.YtjmccobblpcbhaaDoorK08
import Derived.Test.YtjmccobblpcbhaaDoorK09
import Derived.Test.YtjmccobblpcbhaaDoorK10
import Derived.Test.YtjmccobblpcbhaaDoorK11
import Derived.Test.YtjmccobblpcbhaaDoorK12
import Derived.Test.YtjmccobblpcbhaaDoorK13
import Derived.Test.YtjmccobblpcbhaaDoorK14
import Derived.Test.YtjmccobblpcbhaaDoorK15
import Derived.Test.YtjmccobblpcbhaaDoorK16
import Derived.Test.YtjmccobblpcbhaaDoorK17
import Derived.Test.YtjmccobblpcbhaaDoorK18
import Derived.Test.YtjmccobblpcbhaaDoorK19
import Derived.Test.YtjmccobblpcbhaaDoorK20
import Derived.Test.YtjmccobblpcbhaaDoorK21
import Derived.Test.YtjmccobblpcbhaaDoorK22
import Derived.Test.YtjmccobblpcbhaaDoorK23
import Derived.Test.YtjmccobblpcbhaaDoorK24
import Derived.Test.YtjmccobblpcbhaaDoorK25
set_option linter.unusedSimpArgs false
set_option linter.unusedVariables false
namespace Go.Proofs.YtjmccobblpcbhaaDoor
open Go.RowKit Go.Lib Go.Sort

def lpX (s : ByteArray) (pat : Bool) (g lv : Nat) (la : List Nd) (p o : Nat) : Pr (List Nd × Nat) := (psFrom s pat mx63 p).bind fun t => rdRun s pat g (.loop lv la) t o
theorem lvX_un (s : ByteArray) (pat : Bool) (f a o : Nat) : rdX s pat (f + 1) (.level 9) a o = rdX s pat f .un a o := by
  unfold rdX
  congr 1
theorem lvX_eq (s : ByteArray) (pat : Bool) (f lv a o : Nat) (h : lv ≤ 8) : rdX s pat (f + 1) (.level lv) a o = (rdX s pat f (.level (lv + 1)) a o).bind fun c => lpX s pat f lv c.1 c.2 o := by
  unfold rdX lpX
  rw [Pr.bind_assoc]
  congr 1
  funext t
  simp only [rdRun]
  rw [if_neg (by omega)]
theorem lp_bad {s : ByteArray} {pat : Bool} {g lv p o q : Nat} {la : List Nd} {er : Int} (h : psFrom s pat mx63 p = .bad q er) : lpX s pat g lv la p o = .bad q er := by unfold lpX; rw [h]; rfl
theorem lp_end {s : ByteArray} {pat : Bool} {g lv p o : Nat} {la : List Nd} {t : Tk} (hp : p ≤ s.size) (h : psFrom s pat mx63 p = .ok t) (hl : (psOp t.what).2 ≠ lv) : lpX s pat (g + 1) lv la p o = .ok (la, p) := by
  unfold lpX; rw [h]; simp only [Pr.bind, rdRun]; rw [if_neg hl, (from_at hp h).at_]
theorem lp_on {s : ByteArray} {pat : Bool} {g lv p o : Nat} {la : List Nd} {t : Tk} (h : psFrom s pat mx63 p = .ok t) (hl : (psOp t.what).2 = lv) :
    lpX s pat (g + 1) lv la p o = (rdX s pat g (.level (lv + 1)) (skp s t.to) o).bind fun b => if (psOp t.what).1 = 15 ∨ (psOp t.what).1 = 16 then .ok (jn2 (psOp t.what).1 la b.1, b.2) else lpX s pat g lv (jn2 (psOp t.what).1 la b.1) b.2 o := by
  rw [show lpX s pat (g + 1) lv la p o = (psFrom s pat mx63 p).bind fun t => rdRun s pat (g + 1) (.loop lv la) t o from rfl, h]
  show rdRun s pat (g + 1) (.loop lv la) t o = _
  simp only [rdRun]
  rw [if_pos hl]
  unfold rdX
  rw [Pr.bind_assoc]
  rfl
theorem op_stop : ∀ c ∈ whats, ∀ lv ∈ ([1, 2, 3, 4, 5, 6, 7, 8] : List Nat), (psOp c).2 = lv → ((((psOp c).1 = 15 ∨ (psOp c).1 = 16) ↔ (lv = 4 ∨ lv = 5)) ∧ (psOp c).1 ≠ 0) := by decide +kernel
theorem lv_mem {lv : Nat} (h1 : 1 ≤ lv) (h8 : lv ≤ 8) : lv ∈ ([1, 2, 3, 4, 5, 6, 7, 8] : List Nat) := by
  have : lv = 1 ∨ lv = 2 ∨ lv = 3 ∨ lv = 4 ∨ lv = 5 ∨ lv = 6 ∨ lv = 7 ∨ lv = 8 := by omega
  rcases this with rfl | rfl | rfl | rfl | rfl | rfl | rfl | rfl <;> simp
theorem op_lv {c : Int} {lv : Nat} (hc : c ∈ whats) (h1 : 1 ≤ lv) (h8 : lv ≤ 8) : opR ((lv : Int) - 1) (sgW c) = if (psOp c).2 = lv then (psOp c).1 else 0 := by
  have hm : lv - 1 ∈ ([0, 1, 2, 3, 4, 5, 6, 7] : List Nat) := by
    have : lv - 1 = 0 ∨ lv - 1 = 1 ∨ lv - 1 = 2 ∨ lv - 1 = 3 ∨ lv - 1 = 4 ∨ lv - 1 = 5 ∨ lv - 1 = 6 ∨ lv - 1 = 7 := by omega
    rcases this with h | h | h | h | h | h | h | h <;> rw [h] <;> simp
  have := op_whats c hc (lv - 1) hm
  rw [show ((lv - 1 : Nat) : Int) = (lv : Int) - 1 by omega, show lv - 1 + 1 = lv by omega] at this
  exact this

/-- Where the loop of a level stands. -/
structure LvInv (W : World) (R : Nat) (s : ByteArray) (pat : Bool) (f lv a o ft : Nat) (X : Pr (List Nd × Nat)) (va : Value) (wr : World) : Prop where
  sl : ∃ vo vn vc, va = .slice vo vn vc
  ways : (∃ (p : Nat) (er : Int) (l : List Nd) (a' o' : Nat), X = .bad p er ∧ OwnN wr W.heap.size va l ∧ BadL s a l ∧ RdM wr R s pat a' o' p er ∧ er ≠ 0 ∧ W.grownBy wr (some R)) ∨
    (∃ (g p : Nat) (la : List Nd), g ≤ f ∧ X = lpX s pat g lv la p o ∧ OwnN wr W.heap.size va la ∧ KidsIn la ∧ la.length + a ≤ p ∧ p ≤ s.size ∧ RdM wr R s pat p o ft 0 ∧ W.grownBy wr (some R))

set_option maxRecDepth 20000 in
set_option maxHeartbeats 16000000 in
theorem rlv_un (s : ByteArray) (pat : Bool) (hs : s.size ≤ 4096) (f : Nat) (ih : RdC s pat f) (W : World) (R a o ft : Nat) (hM : RdM W R s pat a o ft 0) (ha : a ≤ s.size) (ho : o ≤ 100) (hno : rdX s pat f .un a o ≠ .out) :
    Calls Tryd.prog 126 #[.pointer (some ⟨R, 0, none⟩), .int .i64 8] W fun e w' => RRes W R s pat a o ft (rdX s pat f .un a o) e w' := by
  have cU : Hid (Calls Tryd.prog 145 #[.pointer (some ⟨R, 0, none⟩)] W fun e w' => RRes W R s pat a o ft (rdX s pat f .un a o) e w') := ih.un W R a o ft hM ha ho hno
  generalize rdX s pat f .un a o = X at *
  clear hM ih hno
  go_enter Tryd.func126, Tryd.ntmps126
  go_wp2_with fail
  go_at_call 145
  refine cU.out.mono ?_
  intro x w1 hR
  obtain ⟨vo, vn, vc, rfl⟩ := hR.val
  have HR : Hid (RRes W R s pat a o ft X (.returned (.slice vo vn vc)) w1) := hR
  clear hR
  go_wp2_with fail
  go_ret
  exact HR.out

set_option maxRecDepth 20000 in
set_option maxHeartbeats 16000000 in
/-- THE LEVELS. -/
theorem rlv_step (s : ByteArray) (pat : Bool) (hs : s.size ≤ 4096) (f : Nat) (ih : ∀ g, g ≤ f → RdC s pat g) (lv : Nat) (hl1 : 1 ≤ lv) (hl8 : lv ≤ 8) (W : World) (R a o ft : Nat) (hM : RdM W R s pat a o ft 0) (ha : a ≤ s.size) (ho : o ≤ 100) (hno : rdX s pat (f + 1) (.level lv) a o ≠ .out) :
    Calls Tryd.prog 126 #[.pointer (some ⟨R, 0, none⟩), .int .i64 ((lv : Int) - 1)] W fun e w' => RRes W R s pat a o ft (rdX s pat (f + 1) (.level lv) a o) e w' := by
  rw [lvX_eq s pat f lv a o hl8] at hno ⊢
  obtain ⟨X, hX⟩ : ∃ X, ((rdX s pat f (.level (lv + 1)) a o).bind fun c => lpX s pat f lv c.1 c.2 o) = X := ⟨_, rfl⟩
  rw [hX] at hno ⊢
  have HX : Hid (X = (rdX s pat f (.level (lv + 1)) a o).bind fun c => lpX s pat f lv c.1 c.2 o) := hX.symm
  have HN : Hid (X ≠ .out) := hno
  have hRW : R < W.heap.size := hM.lt
  have hq : (RdQ.level (lv + 1)).lvl := ⟨(fun _ e => by cases e; omega), (fun _ _ e => by cases e)⟩
  have h1o : rdX s pat f (.level (lv + 1)) a o ≠ .out := fun c => HN.out (by rw [HX.out, c]; rfl)
  have en : ((lv + 1 : Nat) : Int) - 1 = (lv : Int) := by omega
  have cL : Hid (Calls Tryd.prog 126 #[.pointer (some ⟨R, 0, none⟩), .int .i64 (lv : Int)] W fun e w' => RRes W R s pat a o ft (rdX s pat f (.level (lv + 1)) a o) e w') := by
    have := (ih f (Nat.le_refl _)).level (lv + 1) (by omega) (by omega) W R a o ft hM ha ho h1o
    rw [en] at this
    exact this
  obtain ⟨m, hm⟩ : ∃ m : Int, (lv : Int) - 1 = m := ⟨_, rfl⟩
  have hm2 : m + 1 = (lv : Int) := by omega
  have hm0 : 0 ≤ m := by omega
  have hm7 : m ≤ 7 := by omega
  have hm8 : (m == 8) = false := by rw [beq_eq_false_iff_ne]; omega
  rw [hm]
  have HM1 : Hid (m = (lv : Int) - 1) := hm.symm
  clear hX hno hM h1o hm en
  go_enter Tryd.func126, Tryd.ntmps126
  go_wp2_with fail
  go_at_call 126
  refine cL.out.mono ?_
  clear cL
  intro x w1 hR1
  obtain ⟨vo, vn, vc, rfl⟩ := hR1.val
  have I1 : Hid (LvInv W R s pat f lv a o ft X (.slice vo vn vc) w1) := by
    refine ⟨⟨_, _, _, rfl⟩, ?_⟩
    cases h1 : rdX s pat f (.level (lv + 1)) a o with
    | out => rw [h1] at hR1; cases hR1
    | bad p er =>
      rw [h1] at hR1
      obtain ⟨v, l, a', o', e, hO1, hBL, hm1, her, hg1⟩ := hR1
      injection e with e
      subst e
      exact .inl ⟨p, er, l, a', o', by rw [HX.out, h1]; rfl, hO1, hBL, hm1, her, hg1⟩
    | ok c =>
      rw [h1] at hR1
      obtain ⟨v, e, hO1, hm1, hg1⟩ := hR1
      injection e with e
      subst e
      obtain ⟨k1, k2, k3, k4⟩ := rdX_len hq (fun _ _ e => by cases e) ha h1
      exact .inr ⟨f, c.2, c.1, Nat.le_refl _, by rw [HX.out, h1]; rfl, hO1, k4, k1, k3, hm1, hg1⟩
  clear hR1 HX
  go_wp2_with fail
  go_loopw [5] (fun va wr => LvInv W R s pat f lv a o ft X va wr) (fun _ wr => s.size + 1 - atW R wr)
  case atStart => exact I1.out
  case round =>
    obtain ⟨⟨vo, vn, vc, rfl⟩, hw⟩ := hrel
    rcases hw with ⟨p, er, l, a', o', hXb, hO, hBL, hm, her, hg⟩ | ⟨g, p, la, hgf, hXg, hO, hK, hlen, hp, hm, hg⟩
    · obtain ⟨c0, c1, c2, c3, c4, c5⟩ := hm.cells
      have hne : (er == 0) = false := by rw [beq_eq_false_iff_ne]; exact her
      have HE : Hid (X = .bad p er) := hXb
      have HP : Hid (OwnN wr W.heap.size (.slice vo vn vc) l ∧ BadL s a l ∧ RdM wr R s pat a' o' p er ∧ er ≠ 0 ∧ W.grownBy wr (some R)) := ⟨hO, hBL, hm, her, hg⟩
      clear hXb hO hBL hm her hg
      go_wp2_with fail
      go_ret
      rw [HE.out]
      exact ⟨_, l, a', o', rfl, HP.out⟩
    · obtain ⟨c0, c1, c2, c3, c4, c5⟩ := hm.cells
      have hatw := hm.atW
      have HXg : Hid (X = lpX s pat g lv la p o) := hXg
      have O0 : Hid (OwnN wr W.heap.size (.slice vo vn vc) la) := hO
      have K0 : Hid (KidsIn la) := hK
      have M0 : Hid (RdM wr R s pat p o ft 0) := hm
      have G0 : Hid (W.grownBy wr (some R)) := hg
      clear hXg hO hK hm hg
      cases h2 : psFrom s pat mx63 p with
      | out => exact absurd h2 (psFrom_in _ _ _ _)
      | bad q er =>
        obtain ⟨rfl, rfl, hsg⟩ := sg_bad h2
        have HE : Hid (X = .bad q 5) := by show X = _; rw [HXg.out]; exact lp_bad h2
        have cS : Hid (Calls Tryd.prog 99 #[.pointer (some ⟨R, 0, none⟩)] wr fun x w' => x = .returned (.tuple #[.string ⟨#[]⟩, .int .i64 0]) ∧ RdM w' R s pat q o q 5 ∧ wr.grownBy w' (some R)) := sign_no s pat hs wr R q o ft M0.out hp hsg
        have cO : Hid (∀ W', Calls Tryd.prog 146 #[.int .i64 m, .string ⟨#[]⟩] W' fun e w' => e = .returned (.int .i64 (opR m ⟨#[]⟩)) ∧ w' = W') := op_any m ⟨#[]⟩
        generalize opR m ⟨#[]⟩ = kk at *
        clear h2 hsg HXg HN
        go_wp2_with fail
        go_at_call 99
        refine cS.out.mono ?_
        rintro x w2 ⟨rfl, hm2', hg2⟩
        obtain ⟨d0, d1, d2, d3, d4, d5⟩ := hm2'.cells
        have HP : Hid (OwnN w2 W.heap.size (.slice vo vn vc) la ∧ BadL s a la ∧ RdM w2 R s pat q o q 5 ∧ (5 : Int) ≠ 0 ∧ W.grownBy w2 (some R)) := ⟨O0.out.gr hg2 hRW, BadL.of K0.out (by omega), hm2', by decide, G0.out.trans hg2⟩
        clear hm2' hg2 c0 c1 c2 c3 c4 c5
        go_wp2_with (go_at_call 146; refine (cO.out _).mono ?_; rintro x w3 ⟨rfl, hw3⟩; obtain rfl := hw3.symm; clear hw3)
        go_ret
        rw [HE.out]
        exact ⟨_, la, _, _, rfl, HP.out⟩
      | ok t =>
        have ht := from_at hp h2
        obtain ⟨g, rfl⟩ : ∃ g', g = g' + 1 := by
          cases g with
          | zero => exact absurd (by rw [HXg.out]; unfold lpX; rw [h2]; rfl) HN.out
          | succ g => exact ⟨g, rfl⟩
        have hwh := from_what h2
        have cS : Hid (Calls Tryd.prog 99 #[.pointer (some ⟨R, 0, none⟩)] wr fun x w' => x = .returned (.tuple #[.string (sgW t.what), .int .i64 ((if t.what = 0 ∨ t.what = 48 ∨ t.what = 97 then 0 else t.to - p : Nat) : Int)]) ∧ Below wr.heap.size wr w') := sign_ok s pat hs wr R p o ft M0.out hp t h2
        have cO : Hid (∀ W', Calls Tryd.prog 146 #[.int .i64 m, .string (sgW t.what)] W' fun e w' => e = .returned (.int .i64 (if (psOp t.what).2 = lv then (psOp t.what).1 else 0)) ∧ w' = W') := fun W' => by
          have := op_any m (sgW t.what) W'
          rw [HM1.out, op_lv hwh hl1 hl8] at this
          rw [HM1.out]
          exact this
        generalize (if t.what = 0 ∨ t.what = 48 ∨ t.what = 97 then 0 else t.to - p : Nat) = nn at *
        by_cases hlv : (psOp t.what).2 = lv
        · obtain ⟨hst, hop0⟩ := op_stop t.what hwh lv (lv_mem hl1 hl8) hlv
          obtain ⟨w0, w48, w97⟩ := op_sgn hlv hl1
          obtain ⟨_, hto, hlt⟩ := ht.good (ht.sign w48 w97)
          have hlt := hlt w0
          have hsk := skp_in hto
          rw [if_pos hlv] at cO
          have cT : Hid (∀ W', RdM W' R s pat p o ft 0 → Calls Tryd.prog 128 #[.pointer (some ⟨R, 0, none⟩)] W' fun x w' => x = .returned (.tuple #[]) ∧ RdM w' R s pat (skp s t.to) o ft 0 ∧ W'.grownBy w' (some R)) := fun W' h' => take_ok s pat hs W' R p o ft h' hp t h2 w0 w48 w97
          have HX2 : Hid (X = (rdX s pat g (.level (lv + 1)) (skp s t.to) o).bind fun b => if lv = 4 ∨ lv = 5 then .ok (jn2 (psOp t.what).1 la b.1, b.2) else lpX s pat g lv (jn2 (psOp t.what).1 la b.1) b.2 o) := by
            show X = _
            rw [HXg.out, lp_on h2 hlv]
            congr 1
            funext b
            by_cases hc : lv = 4 ∨ lv = 5
            · rw [if_pos hc, if_pos (hst.2 hc)]
            · rw [if_neg hc, if_neg (fun c => hc (hst.1 c))]
          have h2o : rdX s pat g (.level (lv + 1)) (skp s t.to) o ≠ .out := fun e => HN.out (by rw [HX2.out, e]; rfl)
          have cL : Hid (∀ W', RdM W' R s pat (skp s t.to) o ft 0 → Calls Tryd.prog 126 #[.pointer (some ⟨R, 0, none⟩), .int .i64 (lv : Int)] W' fun e w' => RRes W' R s pat (skp s t.to) o ft (rdX s pat g (.level (lv + 1)) (skp s t.to) o) e w') := fun W' h' => by
            have := (ih g (by omega)).level (lv + 1) (by omega) (by omega) W' R _ o ft h' hsk.2 ho h2o
            rw [show ((lv + 1 : Nat) : Int) - 1 = (lv : Int) by omega] at this
            exact this
          have hlen2 : ∀ r, rdX s pat g (.level (lv + 1)) (skp s t.to) o = .ok r → r.1.length + skp s t.to ≤ r.2 ∧ skp s t.to ≤ r.2 ∧ r.2 ≤ s.size ∧ KidsIn r.1 := fun r hr => rdX_len hq (fun _ _ e => by cases e) hsk.2 hr
          have hpb : p < skp s t.to := by omega
          have hk0 : ((psOp t.what).1 == 0) = false := by rw [beq_eq_false_iff_ne]; exact hop0
          clear h2 HXg ht hwh hst hop0 w0 w48 w97 hlv h2o hto hlt
          generalize skp s t.to = b at *
          generalize (psOp t.what).1 = k at *
          generalize sgW t.what = T at *
          go_wp2_with fail
          go_at_call 99
          refine cS.out.mono ?_
          rintro x w2 ⟨rfl, hb2⟩
          have O2 : Hid (OwnN w2 W.heap.size (.slice vo vn vc) la) := O0.out.below hb2
          have M2 : Hid (RdM w2 R s pat p o ft 0) := M0.out.below hb2
          have G2 : Hid (W.grownBy w2 (some R)) := G0.out.trans (gr_of_below hb2 _)
          obtain ⟨d0, d1, d2, d3, d4, d5⟩ := M2.out.cells
          clear hb2 cS c0 c1 c2 c3 c4 c5 O0 M0 G0
          go_wp2_with (go_at_call 146; refine (cO.out _).mono ?_; rintro x w3 ⟨rfl, hw3⟩; obtain rfl := hw3.symm; clear hw3)
          go_at_call 128
          refine (cT.out _ M2.out).mono ?_
          rintro x w3 ⟨rfl, hm3, hg3⟩
          have O3 : Hid (OwnN w3 W.heap.size (.slice vo vn vc) la) := O2.out.gr hg3 hRW
          have M3 : Hid (RdM w3 R s pat b o ft 0) := hm3
          have G3 : Hid (W.grownBy w3 (some R)) := G2.out.trans hg3
          clear hm3 hg3 cT O2 M2 G2 d0 d1 d2 d3 d4 d5 cO
          go_wp2_with fail
          go_at_call 126
          refine (cL.out _ M3.out).mono ?_
          clear cL
          intro x w4 hR4
          cases h4 : rdX s pat g (.level (lv + 1)) b o with
          | out => rw [h4] at hR4; cases hR4
          | bad q er =>
            rw [h4] at hR4
            obtain ⟨v, l, a', o', rfl, hO4, hBL, hm4, her, hg4⟩ := hR4
            obtain ⟨xo, xn, xc, rfl⟩ := hO4.form
            obtain ⟨d0, d1, d2, d3, d4, d5⟩ := hm4.cells
            have hne : (er != 0) = true := by simpa using her
            have HE : Hid (X = .bad q er) := by show X = _; rw [HX2.out, h4]; rfl
            have HP : Hid (OwnN w4 W.heap.size (.slice vo vn vc) la ∧ BadL s a la ∧ RdM w4 R s pat a' o' q er ∧ er ≠ 0 ∧ W.grownBy w4 (some R)) := ⟨O3.out.gr hg4 hRW, BadL.of K0.out (by omega), hm4, her, G3.out.trans hg4⟩
            clear hO4 hBL hm4 her hg4 h4 HX2 HN
            go_wp2_with fail
            go_ret
            rw [HE.out]
            exact ⟨_, la, a', o', rfl, HP.out⟩
          | ok y =>
            rw [h4] at hR4
            obtain ⟨v, rfl, hO4, hm4, hg4⟩ := hR4
            obtain ⟨xo, xn, xc, rfl⟩ := hO4.form
            obtain ⟨d0, d1, d2, d3, d4, d5⟩ := hm4.cells
            obtain ⟨j1, j2, j3, j4⟩ := hlen2 y h4
            have M4 : Hid (RdM w4 R s pat y.2 o ft 0) := hm4
            have G4 : Hid (W.grownBy w4 (some R)) := G3.out.trans hg4
            have J4 : Hid (KidsIn y.1) := j4
            have pa := in_parts (l := la) (by omega) (fun x hx => ⟨K0.out.few x hx, K0.out.kin x hx⟩)
            have py := in_parts (l := y.1) (by omega) (fun x hx => ⟨j4.few x hx, j4.kin x hx⟩)
            have cJ : Hid (Calls Tryd.prog 76 #[.agg #[.int .i64 k, .int .i64 0, .string ⟨#[]⟩, .slice none 0 0], .slice (some ⟨w4.heap.size, 0, none⟩) 2 2] (w4.alloc (.cells #[.slice vo vn vc, .slice xo xn xc] 22)) fun e w' => ∃ v', e = .returned v' ∧ OwnN w' w4.heap.size v' (joinL k 0 ⟨#[]⟩ [la, y.1]) ∧ Below w4.heap.size w4 w') := joinN2 k w4 _ _ _ _ la y.1 (O3.out.gr hg4 hRW) hO4 pa py
            have HJ : Hid (joinL k 0 ⟨#[]⟩ [la, y.1] = jn2 k la y.1) := join2 k K0.out.up j4.up K0.out.ne j4.ne
            have HKJ : Hid (KidsIn (jn2 k la y.1)) := jn2_up k K0.out j4
            have HLJ : Hid ((jn2 k la y.1).length + a ≤ y.2) := by show _ ≤ _; rw [jn2_len]; omega
            have HX3 : Hid (X = if lv = 4 ∨ lv = 5 then .ok (jn2 k la y.1, y.2) else lpX s pat g lv (jn2 k la y.1) y.2 o) := by show X = _; rw [HX2.out, h4]; rfl
            clear hO4 hm4 hg4 j4 hlen2 O3 M3 G3 h4 HX2 pa py K0
            generalize jn2 k la y.1 = lj at *
            by_cases hc : lv = 4 ∨ lv = 5
            · have HE : Hid (X = .ok (lj, y.2)) := by show X = _; rw [HX3.out, if_pos hc]
              clear HX3
              by_cases h3 : m = 3
              · have g3 : (m == 3) = true := by simp [h3]
                clear h3 hc
                go_wp2_with fail
                go_at_call 76
                refine cJ.out.mono ?_
                rintro x w5 ⟨v', rfl, hO5, hb5⟩
                obtain ⟨zo, zn, zc, rfl⟩ := hO5.form
                have HP : Hid (OwnN w5 W.heap.size (.slice zo zn zc) lj ∧ RdM w5 R s pat y.2 o ft 0 ∧ W.grownBy w5 (some R)) := ⟨by rw [← HJ.out]; exact hO5.lower G4.out.size, M4.out.below hb5, G4.out.trans (gr_of_below hb5 _)⟩
                clear hO5 hb5
                go_wp2_with fail
                go_ret
                rw [HE.out]
                exact ⟨_, rfl, HP.out⟩
              · have g3 : (m == 3) = false := by rw [beq_eq_false_iff_ne]; exact h3
                have g4 : (m == 4) = true := by rw [beq_iff_eq]; have := HM1.out; omega
                clear h3 hc
                go_wp2_with fail
                go_at_call 76
                refine cJ.out.mono ?_
                rintro x w5 ⟨v', rfl, hO5, hb5⟩
                obtain ⟨zo, zn, zc, rfl⟩ := hO5.form
                have HP : Hid (OwnN w5 W.heap.size (.slice zo zn zc) lj ∧ RdM w5 R s pat y.2 o ft 0 ∧ W.grownBy w5 (some R)) := ⟨by rw [← HJ.out]; exact hO5.lower G4.out.size, M4.out.below hb5, G4.out.trans (gr_of_below hb5 _)⟩
                clear hO5 hb5
                go_wp2_with fail
                go_ret
                rw [HE.out]
                exact ⟨_, rfl, HP.out⟩
            · have HE : Hid (X = lpX s pat g lv lj y.2 o) := by show X = _; rw [HX3.out, if_neg hc]
              have g3 : (m == 3) = false := by rw [beq_eq_false_iff_ne]; have := HM1.out; omega
              have g4 : (m == 4) = false := by rw [beq_eq_false_iff_ne]; have := HM1.out; omega
              clear HX3 hc
              go_wp2_with fail
              go_at_call 76
              refine cJ.out.mono ?_
              rintro x w5 ⟨v', rfl, hO5, hb5⟩
              obtain ⟨zo, zn, zc, rfl⟩ := hO5.form
              have HP : Hid (OwnN w5 W.heap.size (.slice zo zn zc) lj ∧ RdM w5 R s pat y.2 o ft 0 ∧ W.grownBy w5 (some R)) := ⟨by rw [← HJ.out]; exact hO5.lower G4.out.size, M4.out.below hb5, G4.out.trans (gr_of_below hb5 _)⟩
              clear hO5 hb5
              go_wp2_with fail
              have hat5 := HP.out.2.1.atW
              exact ⟨⟨⟨_, _, _, rfl⟩, .inr ⟨g, y.2, lj, by omega, HE.out, HP.out.1, HKJ.out, HLJ.out, j3, HP.out.2.1, HP.out.2.2⟩⟩, by rw [hatw, hat5]; omega⟩
        · rw [if_neg hlv] at cO
          have HE : Hid (X = .ok (la, p)) := by show X = _; rw [HXg.out]; exact lp_end hp h2 hlv
          clear h2 HXg ht hwh hlv HN
          generalize sgW t.what = T at *
          go_wp2_with fail
          go_at_call 99
          refine cS.out.mono ?_
          rintro x w2 ⟨rfl, hb2⟩
          have M2 : Hid (RdM w2 R s pat p o ft 0) := M0.out.below hb2
          obtain ⟨d0, d1, d2, d3, d4, d5⟩ := M2.out.cells
          have HP : Hid (OwnN w2 W.heap.size (.slice vo vn vc) la ∧ RdM w2 R s pat p o ft 0 ∧ W.grownBy w2 (some R)) := ⟨O0.out.below hb2, M2.out, G0.out.trans (gr_of_below hb2 _)⟩
          clear hb2 c0 c1 c2 c3 c4 c5
          go_wp2_with (go_at_call 146; refine (cO.out _).mono ?_; rintro x w3 ⟨rfl, hw3⟩; obtain rfl := hw3.symm; clear hw3)
          go_ret
          rw [HE.out]
          exact ⟨_, rfl, HP.out⟩
end Go.Proofs.YtjmccobblpcbhaaDoor
