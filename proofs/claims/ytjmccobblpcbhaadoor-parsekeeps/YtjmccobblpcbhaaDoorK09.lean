/-
  RdLen, OutW, CheckW, SpanW.
-/
import Derived.Shelf.Unicode.DecodeSlow
import Derived.Laws.RangeAny
import Derived.Shelf.Strings.Builder1
import Derived.Shelf.Small.Utf8
import Derived.Shelf.Small.Bits
import Derived.Shelf.Strings.BuilderF
import Derived.Shelf.Strings.BuilderK
import Derived.Shelf.Strings.BuilderRune
import Derived.Shelf.Utf8.AppendRune
import Derived.Shelf.Strconv.Itoa0
import Derived.Shelf.Strconv.Itoa1
import Derived.Shelf.LaysM
import Derived.Shelf.Strconv.Itoa2
import Derived.Shelf.Strconv.Itoa3
import Derived.Shelf.Strconv.Itoa4
import Derived.Shelf.Strings.Prefix
import Derived.Shelf.Unicode.DecodeAny
import Derived.Test.YtjmccobblpcbhaaDoorProg
import Derived.WalkKit
import Derived.Deep.DeepFit
import Derived.Lib.OthersKept
import Derived.Lib.RuneCountTail
import Derived.Lib.Small
import Derived.Lib.Strings
import Derived.Lib.MapLaws
import Derived.Deep.AppendLies
import Derived.Deep.OwnRows
import Derived.Laws.AppendOwnNone
import Derived.Deep.QuietTactic
import Derived.BigQuiet
import Derived.Deep.RegionWith
import Derived.Laws.DeepStrings4
import Derived.Test.YtjmccobblpcbhaaDoorK01
import Derived.Test.YtjmccobblpcbhaaDoorK02
import Derived.Test.YtjmccobblpcbhaaDoorK03
import Derived.Test.YtjmccobblpcbhaaDoorK04
import Derived.Test.YtjmccobblpcbhaaDoorK05
import Derived.Test.YtjmccobblpcbhaaDoorK06
import Derived.Test.YtjmccobblpcbhaaDoorK07
import Derived.Test.YtjmccobblpcbhaaDoorK08
set_option linter.unusedSimpArgs false
set_option linter.unusedVariables false
namespace Go.Proofs.YtjmccobblpcbhaaDoor
open Go.Lib

/-- A token that stands at a. -/
structure TkA (s : ByteArray) (a : Nat) (t : Tk) : Prop where
  at_ : t.from_ = a
  in_ : a ≤ s.size
  good : t.err = 0 → a ≤ t.to ∧ t.to ≤ s.size ∧ (t.what ≠ 0 → a < t.to)
  sign : t.what ≠ 48 → t.what ≠ 97 → t.err = 0
  name : t.what = 97 → a < t.to ∧ t.to ≤ s.size

theorem from_at {s : ByteArray} {pat : Bool} {m a : Nat} {t : Tk} (ha : a ≤ s.size) (h : psFrom s pat m a = .ok t) : TkA s a t := by
  unfold psFrom at h
  split at h
  · rename_i hq
    unfold psAt at h
    split at h
    · rename_i k1
      obtain ⟨e1, e2, e3⟩ := span_in' s a hq k1
      rw [e1] at h
      simp only [Int.toNat_natCast] at h
      cases h
      exact ⟨rfl, ha, fun _ => ⟨by simp only; omega, e3, fun _ => e2⟩, fun _ h => absurd rfl h, fun _ => ⟨e2, e3⟩⟩
    · split at h
      · rename_i k2
        cases h
        refine ⟨rfl, ha, fun h0 => ?_, fun h => absurd rfl h, fun h => by cases h⟩
        simp only at h0 ⊢
        split at h0
        · cases h0
        · have := num_in s a hq k2 h0
          omega
      · split at h
        · rename_i k4
          have := sign_in s pat a hq k4.1
          have k5 := k4.2
          cases h
          refine ⟨rfl, ha, fun _ => ⟨by simp only; omega, by simp only; omega, fun _ => by simp only; omega⟩, fun _ _ => rfl, fun _ => ⟨by simp only; omega, by simp only; omega⟩⟩
        · cases h
  · cases h
    have : a = s.size := by omega
    subst this
    exact ⟨rfl, ha, fun _ => ⟨Nat.le_refl _, Nat.le_refl _, fun h => absurd rfl h⟩, fun _ _ => rfl, fun h => by cases h⟩
theorem skp_in {s : ByteArray} {p : Nat} (h : p ≤ s.size) : p ≤ skp s p ∧ skp s p ≤ s.size := psSkip_le s s.size p h

theorem rdLit_len {s : ByteArray} {a : Nat} {v : Int} {t : Tk} {r : List Nd × Nat} (ht : TkA s a t) (h : rdLit s v t = .ok r) : r.1.length = 1 ∧ a < r.2 ∧ r.2 ≤ s.size := by
  unfold rdLit at h
  split at h
  · split at h
    · rename_i h1 h2
      cases h
      obtain ⟨g1, g2, g3⟩ := ht.good h2
      have g4 := g3 (by rw [h1]; decide)
      have := skp_in g2
      exact ⟨rfl, by simp only; omega, this.2⟩
    · cases h
  · cases h
theorem rdNamed_len {s : ByteArray} {a : Nat} {v : Int} {t : Tk} {r : List Nd × Nat} (ht : TkA s a t) (h : rdNamed s v t = .ok r) : r.1.length = 1 ∧ a < r.2 ∧ r.2 ≤ s.size := by
  unfold rdNamed at h
  split at h
  · split at h
    · rename_i h1 h2
      cases h
      obtain ⟨g1, g2, g3⟩ := ht.good h2
      have g4 := g3 (by rw [h1]; decide)
      have := skp_in g2
      exact ⟨rfl, by simp only; omega, this.2⟩
    · cases h
  · cases h
theorem jn1_len (op : Int) (a : List Nd) : (jn1 op a).length = a.length + 1 := by simp [jn1]
theorem jn2_len (op : Int) (a b : List Nd) : (jn2 op a b).length = a.length + b.length + 1 := by simp [jn2]; omega
theorem jn3_len (op : Int) (a b c : List Nd) : (jn3 op a b c).length = a.length + b.length + c.length + 1 := by simp [jn3]; omega
theorem op_sgn {c : Int} {lv : Nat} (h : (psOp c).2 = lv) (hl : 1 ≤ lv) : c ≠ 0 ∧ c ≠ 48 ∧ c ≠ 97 := by
  refine ⟨?_, ?_, ?_⟩ <;> (rintro rfl; simp [psOp] at h; omega)

def RdQ.lvl (q : RdQ) : Prop := (∀ lv, q = .level lv → 1 ≤ lv) ∧ ∀ lv la, q = .loop lv la → 1 ≤ lv

theorem rd_len (s : ByteArray) (pat : Bool) : ∀ (f : Nat) (q : RdQ) (a : Nat) (t : Tk) (o : Nat) (r : List Nd × Nat), q.lvl → TkA s a t → rdRun s pat f q t o = .ok r → r.1.length + a ≤ r.2 + q.left.length ∧ a ≤ r.2 ∧ r.2 ≤ s.size := by
  intro f
  induction f with
  | zero => intro q a t o r _ _ h; cases h
  | succ f ih =>
    have hc : RdQ.cond.lvl := ⟨(fun _ e => by cases e), (fun _ _ e => by cases e)⟩
    have hu : RdQ.un.lvl := ⟨(fun _ e => by cases e), (fun _ _ e => by cases e)⟩
    have hat : RdQ.atom.lvl := ⟨(fun _ e => by cases e), (fun _ _ e => by cases e)⟩
    have hlv : ∀ lv, 1 ≤ lv → (RdQ.level lv).lvl := fun lv h => ⟨(fun _ e => by cases e; exact h), (fun _ _ e => by cases e)⟩
    have hlo : ∀ lv la, 1 ≤ lv → (RdQ.loop lv la).lvl := fun lv la h => ⟨(fun _ e => by cases e), (fun _ _ e => by cases e; exact h)⟩
    intro q a t o r hq ht h
    cases q with
    | cond =>
      simp only [rdRun] at h
      obtain ⟨c, h1, h⟩ := Pr.bind_ok h
      obtain ⟨i1, i2, i3⟩ := ih _ a t o c (hlv 1 (by omega)) ht h1
      simp only [RdQ.left, List.length_nil, Nat.add_zero] at i1 ⊢
      obtain ⟨t1, h2, h⟩ := Pr.bind_ok h
      have ht1 := from_at i3 h2
      split at h
      · rename_i hw
        obtain ⟨g1, g2, g3⟩ := ht1.good (ht1.sign (by rw [hw]; decide) (by rw [hw]; decide))
        have g4 := g3 (by rw [hw]; decide)
        have s1 := skp_in g2
        obtain ⟨t2, h3, h⟩ := Pr.bind_ok h
        have ht2 := from_at s1.2 h3
        obtain ⟨b, h4, h⟩ := Pr.bind_ok h
        obtain ⟨j1, j2, j3⟩ := ih _ _ t2 o b hc ht2 h4
        simp only [RdQ.left, List.length_nil, Nat.add_zero] at j1
        obtain ⟨t3, h5, h⟩ := Pr.bind_ok h
        have ht3 := from_at j3 h5
        split at h
        · rename_i hw3
          split at h
          · obtain ⟨k1, k2, k3⟩ := ht3.good (ht3.sign (by rw [hw3]; decide) (by rw [hw3]; decide))
            have k4 := k3 (by rw [hw3]; decide)
            have s2 := skp_in k2
            obtain ⟨t4, h6, h⟩ := Pr.bind_ok h
            have ht4 := from_at s2.2 h6
            obtain ⟨d, h7, h⟩ := Pr.bind_ok h
            obtain ⟨l1, l2, l3⟩ := ih _ _ t4 o d hc ht4 h7
            simp only [RdQ.left, List.length_nil, Nat.add_zero] at l1
            cases h
            simp only [jn3_len]
            omega
          · cases h
        · cases h
      · cases h; exact ⟨i1, i2, i3⟩
    | level lv =>
      simp only [rdRun] at h
      have hl1 := hq.1 lv rfl
      simp only [RdQ.left, List.length_nil, Nat.add_zero]
      split at h
      · have := ih _ a t o r hu ht h
        simpa [RdQ.left] using this
      · obtain ⟨c, h1, h⟩ := Pr.bind_ok h
        obtain ⟨i1, i2, i3⟩ := ih _ a t o c (hlv (lv + 1) (by omega)) ht h1
        simp only [RdQ.left, List.length_nil, Nat.add_zero] at i1
        obtain ⟨t1, h2, h⟩ := Pr.bind_ok h
        have ht1 := from_at i3 h2
        obtain ⟨j1, j2, j3⟩ := ih _ _ t1 o r (hlo lv c.1 hl1) ht1 h
        simp only [RdQ.left] at j1
        omega
    | loop lv la =>
      simp only [rdRun] at h
      have hl1 := hq.2 lv la rfl
      simp only [RdQ.left]
      split at h
      · rename_i hw
        obtain ⟨w0, w1, w2⟩ := op_sgn hw hl1
        obtain ⟨g1, g2, g3⟩ := ht.good (ht.sign w1 w2)
        have g4 := g3 w0
        have s1 := skp_in g2
        obtain ⟨t1, h2, h⟩ := Pr.bind_ok h
        have ht1 := from_at s1.2 h2
        obtain ⟨b, h3, h⟩ := Pr.bind_ok h
        obtain ⟨i1, i2, i3⟩ := ih _ _ t1 o b (hlv (lv + 1) (by omega)) ht1 h3
        simp only [RdQ.left, List.length_nil, Nat.add_zero] at i1
        split at h
        · cases h
          simp only [jn2_len]
          omega
        · obtain ⟨t2, h4, h⟩ := Pr.bind_ok h
          have ht2 := from_at i3 h4
          obtain ⟨j1, j2, j3⟩ := ih _ _ t2 o r (hlo lv _ hl1) ht2 h
          simp only [RdQ.left, jn2_len] at j1
          omega
      · cases h
        rw [ht.at_]
        have := ht.in_
        simp only
        omega
    | un =>
      simp only [rdRun] at h
      simp only [RdQ.left, List.length_nil, Nat.add_zero]
      split at h
      · rename_i hw
        obtain ⟨g1, g2, g3⟩ := ht.good (ht.sign (by rw [hw]; decide) (by rw [hw]; decide))
        have g4 := g3 (by rw [hw]; decide)
        have s1 := skp_in g2
        split at h
        · obtain ⟨t1, h2, h⟩ := Pr.bind_ok h
          have ht1 := from_at s1.2 h2
          obtain ⟨b, h3, h⟩ := Pr.bind_ok h
          obtain ⟨i1, i2, i3⟩ := ih _ _ t1 o b hu ht1 h3
          simp only [RdQ.left, List.length_nil, Nat.add_zero] at i1
          cases h
          simp only [jn1_len]
          omega
        · obtain ⟨t1, h2, h⟩ := Pr.bind_ok h
          have ht1 := from_at s1.2 h2
          have := rdLit_len ht1 h
          omega
      · split at h
        · rename_i hw
          obtain ⟨g1, g2, g3⟩ := ht.good (ht.sign (by rw [hw]; decide) (by rw [hw]; decide))
          have g4 := g3 (by rw [hw]; decide)
          have s1 := skp_in g2
          obtain ⟨t1, h2, h⟩ := Pr.bind_ok h
          have ht1 := from_at s1.2 h2
          obtain ⟨b, h3, h⟩ := Pr.bind_ok h
          obtain ⟨i1, i2, i3⟩ := ih _ _ t1 o b hu ht1 h3
          simp only [RdQ.left, List.length_nil, Nat.add_zero] at i1
          cases h
          simp only [jn1_len]
          omega
        · have := ih _ a t o r hat ht h
          simpa [RdQ.left] using this
    | atom =>
      simp only [rdRun] at h
      simp only [RdQ.left, List.length_nil, Nat.add_zero]
      split at h
      · have := rdLit_len ht h; omega
      · split at h
        · have := rdNamed_len ht h; omega
        · split at h
          · rename_i hw
            obtain ⟨g1, g2, g3⟩ := ht.good (ht.sign (by rw [hw]; decide) (by rw [hw]; decide))
            have g4 := g3 (by rw [hw]; decide)
            have s1 := skp_in g2
            obtain ⟨t1, h2, h⟩ := Pr.bind_ok h
            have ht1 := from_at s1.2 h2
            have := rdNamed_len ht1 h
            omega
          · split at h
            · rename_i hw
              obtain ⟨g1, g2, g3⟩ := ht.good (ht.sign (by rw [hw]; decide) (by rw [hw]; decide))
              have g4 := g3 (by rw [hw]; decide)
              have s1 := skp_in g2
              split at h
              · cases h
              · obtain ⟨t1, h2, h⟩ := Pr.bind_ok h
                have ht1 := from_at s1.2 h2
                obtain ⟨e, h3, h⟩ := Pr.bind_ok h
                obtain ⟨i1, i2, i3⟩ := ih _ _ t1 (o + 1) e hc ht1 h3
                simp only [RdQ.left, List.length_nil, Nat.add_zero] at i1
                obtain ⟨t2, h4, h⟩ := Pr.bind_ok h
                have ht2 := from_at i3 h4
                split at h
                · rename_i hw2
                  split at h
                  · rename_i he
                    obtain ⟨k1, k2, k3⟩ := ht2.good he
                    have s2 := skp_in k2
                    cases h
                    simp only
                    omega
                  · cases h
                · cases h
            · cases h
end Go.Proofs.YtjmccobblpcbhaaDoor

set_option linter.unusedSimpArgs false
set_option linter.unusedVariables false
namespace Go.Proofs.YtjmccobblpcbhaaDoor
open Go.RowKit Go.Lib

theorem ret2 {k l : IntKind} {a b c d : Int} (h : a = c) (h' : b = d) : Ending.returned (.tuple #[.int k a, .int l b]) = .returned (.tuple #[.int k c, .int l d]) := by rw [h, h']
theorem ret3 {k l m : IntKind} {a b c d x y : Int} (h : a = c) (h' : b = d) (h2 : x = y) : Ending.returned (.tuple #[.int k a, .int l b, .int m x]) = .returned (.tuple #[.int k c, .int l d, .int m y]) := by rw [h, h', h2]

theorem outside_any (s : ByteArray) (at_ : Int) (w : World) :
    Calls Tryd.prog 167 #[.string s, .int .i64 at_] w fun e w' => e = .returned (.bool (decide (at_ < 0 ∨ (s.size : Int) < at_))) ∧ w' = w := by
  by_cases h1 : at_ < 0
  · go_enter Tryd.func167, Tryd.ntmps167
    go_wp2
    go_ret
    exact ⟨ret_bool (by simp [h1]), rfl⟩
  · go_enter Tryd.func167, Tryd.ntmps167
    go_wp2
    go_ret
    exact ⟨ret_bool (by simp; omega), rfl⟩
end Go.Proofs.YtjmccobblpcbhaaDoor

set_option linter.unusedSimpArgs false
set_option linter.unusedVariables false
namespace Go.Proofs.YtjmccobblpcbhaaDoor
open Go.RowKit Go.Lib

/-! ### Check -/
set_option maxHeartbeats 1000000 in
theorem utfCheck_any (s : ByteArray) (w : World) (hT : Tabs w) :
    Calls Tryd.prog 122 #[.string s] w fun e w' => e = .returned (.tuple #[.int .i64 (chk s).1, .int .i64 (chk s).2]) ∧ Below w.heap.size w w' := by
  go_enter Tryd.func122, Tryd.ntmps122
  go_wp2
  go_loopw [4] (fun _ w' => ∃ (pos f : Nat), It w s pos w' ∧ Hid (chkF s f pos = chk s) ∧ s.size ≤ pos + f) (fun _ w' => s.size - w'.iterPos w.heap.size)
  case atStart => exact ⟨0, s.size, It.start w s, rfl, by omega⟩
  case round =>
    obtain ⟨pos, f, hI, HN, hf⟩ := hrel
    have hm := hI.pos
    by_cases hp : pos < s.size
    · have hnx : ∀ ty, (Instr.next (.pointer (some ⟨w.heap.size, 0, none⟩)) true ty).run Tryd.prog wr = _ := fun ty => run_next_any_at wr w.heap.size s pos ty hI.at_ hp
      obtain ⟨f, rfl⟩ : ∃ g, f = g + 1 := ⟨f - 1, by omega⟩
      have hw := width_pos s pos hp
      have hpz : (pos : Int) ≤ (s.size : Int) := by omega
      have HB : Hid (bad s pos = ((Utf8.decode s pos).1 == 65533 && (Utf8.decode s pos).2 == 1)) := rfl
      have cW : Hid (∀ W, Tabs W → Calls Tryd.prog 81 #[.string (s.extract pos s.size)] W fun e w' => e = .returned (.int .i64 (Utf8.decode s pos).2) ∧ Below W.heap.size W w') := fun W h => by
        have := width_any (s.extract pos s.size) W h
        rw [decGo_tail s pos hp] at this
        exact this
      have hI1 := hI.next (pos + (Utf8.decode s pos).2)
      have hT1 := hI1.tabs hT
      have HX := chkF_bad s f pos hp
      have HY := chkF_good s f pos hp
      have hx : Hid (bad s pos = true → chkF s (f + 1) pos = (pos, 4)) := HX
      have hy : Hid (bad s pos = false → chkF s (f + 1) pos = chkF s f (pos + (Utf8.decode s pos).2)) := HY
      clear HX HY
      have hr1 : ((Utf8.decode s pos).1 == 65533) = (((Utf8.decode s pos).1 : Int) == 65533) := by
        rw [Bool.eq_iff_iff]; simp; omega
      have hr2 : ((Utf8.decode s pos).2 == 1) = (((Utf8.decode s pos).2 : Int) == 1) := by
        rw [Bool.eq_iff_iff]; simp; omega
      rw [hr1, hr2] at HB
      clear hr1 hr2
      generalize (Utf8.decode s pos).2 = v at *
      generalize ((Utf8.decode s pos).1 : Int) = r at *
      cases h1 : (r == 65533)
      · have hb : bad s pos = false := by rw [HB.out, h1]; rfl
        go_wp2
        exact ⟨⟨pos + v, f, hI1, (hy.out hb).symm.trans HN.out, by omega⟩, by rw [hI1.pos, hm]; omega⟩
      · cases h2 : ((v : Int) == 1)
        · have hb : bad s pos = false := by rw [HB.out, h1, h2]; rfl
          go_wp2_with (go_at_call 81; refine (cW.out _ hT1).mono ?_; rintro e w2 ⟨rfl, hb2⟩)
          have hI2 := hI1.call hb2
          exact ⟨⟨pos + v, f, hI2, (hy.out hb).symm.trans HN.out, by omega⟩, by rw [hI2.pos, hm]; omega⟩
        · have hb : bad s pos = true := by rw [HB.out, h1, h2]; rfl
          go_wp2_with (go_at_call 81; refine (cW.out _ hT1).mono ?_; rintro e w2 ⟨rfl, hb2⟩)
          go_ret2
          have hc : chk s = (pos, 4) := HN.out.symm.trans (hx.out hb)
          exact ⟨ret2 (by rw [hc]) (by rw [hc]), (hI1.call hb2).below⟩
    · have hnx : ∀ ty, (Instr.next (.pointer (some ⟨w.heap.size, 0, none⟩)) true ty).run Tryd.prog wr = _ := fun ty => run_next_end_at wr w.heap.size s pos ty hI.at_ hp
      go_wp2
      go_ret2
      have hc : chk s = (0, 0) := HN.out.symm.trans (chkF_end s f pos hp)
      exact ⟨ret2 (by rw [hc]; rfl) (by rw [hc]), hI.below⟩

set_option maxHeartbeats 1000000 in
theorem refUtf_any (s : ByteArray) (w : World) (hs : s.size ≤ maxLen) :
    Calls Tryd.prog 96 #[.string s] w fun e w' => e = .returned (.tuple #[.int .i64 (chk s).1, .int .i64 (chk s).2]) ∧ Below w.heap.size w w' := by
  have hs0 := hs
  unfold maxLen at hs
  go_enter Tryd.func96, Tryd.ntmps96
  go_wp2
  go_loopw [4] (fun p w' => ∃ (pos f : Nat), p = .int .i64 pos ∧ Below w.heap.size w w' ∧ Hid (chkF s f pos = chk s) ∧ s.size ≤ pos + f ∧ pos ≤ s.size) (fun p _ => s.size - (RowKit.intOf p).toNat)
  case atStart => exact ⟨0, s.size, rfl, Below.refl _ _, rfl, by omega, by omega⟩
  case round =>
    obtain ⟨pos, f, rfl, hB, HN, hf, hle⟩ := hrel
    by_cases hp : pos < s.size
    · obtain ⟨f, rfl⟩ : ∃ g, f = g + 1 := ⟨f - 1, by omega⟩
      have hw := width_pos s pos hp
      have hw2 := dec_le s pos hp
      have cW : Hid (∀ W, Calls Tryd.prog 54 #[.string s, .int .i64 pos] W fun e w' => e = .returned (.int .i64 (wd s pos)) ∧ Below W.heap.size W w') := fun W => refWidth_in s pos W hp hs0
      cases hb : bad s pos
      · have hd : wd s pos = (Utf8.decode s pos).2 := by simp [wd, hb]
        rw [hd] at cW
        have hc : Hid (chkF s f (pos + (Utf8.decode s pos).2) = chk s) := (chkF_good s f pos hp hb).symm.trans HN.out
        generalize (Utf8.decode s pos).2 = v at *
        have hv : ((v : Int) == 0) = false := by simp; omega
        go_wp2_with (go_at_call 54; refine (cW.out _).mono ?_; rintro e w2 ⟨rfl, hb2⟩)
        have z := hB.size
        exact ⟨⟨pos + v, f, by go_num, hB.trans (hb2.mono z), hc, by omega, by omega⟩, by simp [RowKit.intOf]; omega⟩
      · have hd : wd s pos = 0 := by simp [wd, hb]
        rw [hd] at cW
        have hc : Hid (chk s = (pos, 4)) := HN.out.symm.trans (chkF_bad s f pos hp hb)
        go_wp2_with (go_at_call 54; refine (cW.out _).mono ?_; rintro e w2 ⟨rfl, hb2⟩)
        go_ret2
        have z := hB.size
        exact ⟨ret2 (by rw [hc.out]) (by rw [hc.out]), hB.trans (hb2.mono z)⟩
    · go_wp2
      go_ret2
      have hc : chk s = (0, 0) := HN.out.symm.trans (chkF_end s f pos hp)
      exact ⟨ret2 (by rw [hc]; rfl) (by rw [hc]), hB⟩
end Go.Proofs.YtjmccobblpcbhaaDoor

set_option linter.unusedSimpArgs false
set_option linter.unusedVariables false
namespace Go.Proofs.YtjmccobblpcbhaaDoor
open Go.RowKit Go.Lib

theorem kdFirst (s : ByteArray) (pos : Nat) (h : pos ≤ s.size) : kd ((decodeGo (s.extract pos s.size)).1 : Int) = kd (rn s pos) := by
  by_cases hp : pos < s.size
  · rw [decGo_tail s pos hp, kd_rn s pos hp]
  · have h0 : (s.extract pos s.size).size = 0 := by rw [tail_size]; omega
    simp only [decodeGo, h0, if_true, rn, hp, if_false]
    decide

set_option maxHeartbeats 1000000 in
theorem span_out (s : ByteArray) (at_ : Int) (w : World) (h : at_ < 0 ∨ (s.size : Int) < at_) :
    Calls Tryd.prog 152 #[.string s, .int .i64 at_] w fun e w' => e = .returned (.tuple #[.int .i64 0, .int .i64 2]) ∧ Below w.heap.size w w' := by
  have hd : decide (at_ < 0 ∨ (s.size : Int) < at_) = true := by simpa using h
  have c1 : Hid (∀ W, Calls Tryd.prog 167 #[.string s, .int .i64 at_] W fun e w' => e = .returned (.bool true) ∧ w' = W) := fun W => by
    have := outside_any s at_ W; rw [hd] at this; exact this
  clear hd h
  go_enter Tryd.func152, Tryd.ntmps152
  go_wp2_with (go_at_call 167; refine (c1.out _).mono ?_; rintro e w2 ⟨rfl, hw⟩; obtain rfl := hw.symm)
  go_ret2
  exact ⟨rfl, Below.refl _ _⟩

set_option maxHeartbeats 1000000 in
theorem span_in (s : ByteArray) (pos : Nat) (w : World) (hT : Tabs w) (h : pos ≤ s.size) (hs : s.size ≤ maxLen) :
    Calls Tryd.prog 152 #[.string s, .int .i64 pos] w fun e w' => e = .returned (.tuple #[.int .i64 (spanP s pos).1, .int .i64 (spanP s pos).2]) ∧ Below w.heap.size w w' := by
  unfold maxLen at hs
  have hd : decide ((pos : Int) < 0 ∨ (s.size : Int) < pos) = false := by simp; omega
  have c1 : Hid (∀ W, Calls Tryd.prog 167 #[.string s, .int .i64 pos] W fun e w' => e = .returned (.bool false) ∧ w' = W) := fun W => by
    have := outside_any s pos W; rw [hd] at this; exact this
  clear hd
  have c2 : Hid (∀ W, Tabs W → Calls Tryd.prog 80 #[.string (s.extract pos s.size)] W fun e w' => e = .returned (.int .i32 (decodeGo (s.extract pos s.size)).1) ∧ Below W.heap.size W w') := first_any _
  have hk := kdFirst s pos h
  generalize ((decodeGo (s.extract pos s.size)).1 : Int) = r at *
  have hpz : (pos : Int) ≤ (s.size : Int) := by omega
  have c3 : Hid (∀ W, SpanCells W → Calls Tryd.prog 104 #[.int .i32 r] W fun e w' => e = .returned (.int .i64 (kd r)) ∧ Below W.heap.size W w') := kind_any r
  by_cases h1 : kd r = 1
  · rw [h1] at hk c3
    have hv : spanP s pos = (((spF s s.size pos : Nat) : Int), 0) := by simp [spanP, ← hk]
    rw [hv]
    clear hv hk h1
    have hSz := tail_size s pos
    have hD := dec_tail s pos
    have HD : Hid (∀ i, Utf8.decode (s.extract pos s.size) i = Utf8.decode s (pos + i)) := hD
    clear hD
    go_enter Tryd.func152, Tryd.ntmps152
    go_wp2_with (first | (go_at_call 167; refine (c1.out _).mono ?_; rintro e w2 ⟨rfl, hw⟩; obtain rfl := hw.symm) | (go_at_call 80; refine (c2.out _ hT).mono ?_; rintro e w3 ⟨rfl, hb3⟩; have hT3 := hT.below hb3) | (go_at_call 104; refine (c3.out _ hT3.spans).mono ?_; rintro e w4 ⟨rfl, hb4⟩; have hT4 := hT3.below hb4))
    clear c1 c2 c3
    have hB4 : Below w.heap.size w w4 := hb3.trans (hb4.mono hb3.size)
    generalize s.extract pos s.size = S at *
    go_loopw [6] (fun _ w' => ∃ (q f : Nat), It w4 S q w' ∧ Hid (spF s f (pos + q) = spF s s.size pos) ∧ s.size ≤ pos + q + f ∧ q ≤ S.size) (fun _ w' => S.size - w'.iterPos w4.heap.size)
    case atStart => exact ⟨0, s.size, It.start w4 S, rfl, by omega, by omega⟩
    case round =>
      obtain ⟨q, f, hI, HN, hf, hqS⟩ := hrel
      have hm := hI.pos
      have z4 := hB4.size
      by_cases hp : q < S.size
      · have hps : pos + q < s.size := by omega
        have hnx : ∀ ty, (Instr.next (.pointer (some ⟨w4.heap.size, 0, none⟩)) true ty).run Tryd.prog wr = _ := fun ty => run_next_any_at wr w4.heap.size S q ty hI.at_ hp
        rw [HD.out q] at hnx
        obtain ⟨f, rfl⟩ : ∃ g, f = g + 1 := ⟨f - 1, by omega⟩
        have hw := width_pos s (pos + q) hps
        have hw2 := dec_le s (pos + q) hps
        have hx : Hid (onB (Utf8.decode s (pos + q)).1 = true → spF s (f + 1) (pos + q) = spF s f (pos + q + (Utf8.decode s (pos + q)).2)) := spF_on s f (pos + q) hps
        have hy : Hid (onB (Utf8.decode s (pos + q)).1 = false → spF s (f + 1) (pos + q) = pos + q) := spF_off s (f + 1) (pos + q) hps
        have hI1 := hI.next (q + (Utf8.decode s (pos + q)).2)
        have hT1 := (hI1.tabs hT4).spans
        generalize (Utf8.decode s (pos + q)).2 = v at *
        generalize ((Utf8.decode s (pos + q)).1 : Int) = r2 at *
        have c4 : Hid (∀ W, SpanCells W → Calls Tryd.prog 105 #[.int .i32 r2] W fun e w' => e = .returned (.bool (onB r2)) ∧ Below W.heap.size W w') := goesOn_any r2
        cases ho : onB r2
        · rw [ho] at c4
          go_wp2_with (go_at_call 105; refine (c4.out _ hT1).mono ?_; rintro e w5 ⟨rfl, hb5⟩)
          go_ret2
          exact ⟨ret2 (by rw [← HN.out, hy.out ho]; omega) rfl, hB4.trans ((hI1.call hb5).below.mono z4)⟩
        · rw [ho] at c4
          go_wp2_with (go_at_call 105; refine (c4.out _ hT1).mono ?_; rintro e w5 ⟨rfl, hb5⟩)
          have hI5 := hI1.call hb5
          exact ⟨⟨q + v, f, hI5, by show spF s f (pos + (q + v)) = _; rw [← HN.out, hx.out ho, Nat.add_assoc], by omega, by omega⟩, by rw [hI5.pos, hm]; omega⟩
      · have hnx : ∀ ty, (Instr.next (.pointer (some ⟨w4.heap.size, 0, none⟩)) true ty).run Tryd.prog wr = _ := fun ty => run_next_end_at wr w4.heap.size S q ty hI.at_ hp
        go_wp2
        go_ret2
        exact ⟨ret2 (by rw [← HN.out, spF_end s f _ (by omega)]; omega) rfl, hB4.trans (hI.below.mono z4)⟩
  · have hv : spanP s pos = (0, 11) := by simp [spanP, ← hk, h1]
    rw [hv]
    clear hv hk
    have hne : (kd r != 1) = true := by simpa using h1
    generalize kd r = kk at *
    go_enter Tryd.func152, Tryd.ntmps152
    go_wp2_with (first | (go_at_call 167; refine (c1.out _).mono ?_; rintro e w2 ⟨rfl, hw⟩; obtain rfl := hw.symm) | (go_at_call 80; refine (c2.out _ hT).mono ?_; rintro e w3 ⟨rfl, hb3⟩; have hT3 := hT.below hb3) | (go_at_call 104; refine (c3.out _ hT3.spans).mono ?_; rintro e w4 ⟨rfl, hb4⟩))
    go_ret2
    exact ⟨rfl, hb3.trans (hb4.mono hb3.size)⟩

theorem span_any (s : ByteArray) (at_ : Int) (w : World) (hT : Tabs w) (hs : s.size ≤ maxLen) :
    Calls Tryd.prog 152 #[.string s, .int .i64 at_] w fun e w' => e = .returned (.tuple #[.int .i64 (spanI s at_).1, .int .i64 (spanI s at_).2]) ∧ Below w.heap.size w w' := by
  by_cases h : at_ < 0 ∨ (s.size : Int) < at_
  · have hv : spanI s at_ = (0, 2) := by simp [spanI, h]
    rw [hv]
    exact span_out s at_ w h
  · have hv : spanI s at_ = spanP s at_.toNat := by simp [spanI, h]
    rw [hv]
    have := span_in s at_.toNat w hT (by omega) hs
    rw [Int.toNat_of_nonneg (by omega)] at this
    exact this
end Go.Proofs.YtjmccobblpcbhaaDoor
