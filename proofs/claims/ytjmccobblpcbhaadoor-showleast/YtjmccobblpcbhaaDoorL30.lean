/-
  EmIn, EmUp, EmJoin, HlW.
-/
import Derived.Shelf.Unicode.DecodeSlow
import Derived.Laws.RangeAny
import Derived.Shelf.Strings.Builder1
import Derived.Shelf.Small.Utf8
import Derived.Shelf.Small.Bits
import Derived.Shelf.Strings.BuilderF
import Derived.Shelf.Strings.BuilderK
import Derived.Shelf.Strings.BuilderRune
import Derived.Shelf.Utf8.AppendRune
import Derived.Shelf.Strconv.Itoa0
import Derived.Shelf.Strconv.Itoa1
import Derived.Shelf.LaysM
import Derived.Shelf.Strconv.Itoa2
import Derived.Shelf.Strconv.Itoa3
import Derived.Shelf.Strconv.Itoa4
import Derived.Shelf.Strings.Prefix
import Derived.Shelf.Unicode.DecodeAny
import Derived.Test.YtjmccobblpcbhaaDoorProg
import Derived.WalkKit
import Derived.Deep.DeepFit
import Derived.Lib.OthersKept
import Derived.Lib.RuneCountTail
import Derived.Lib.MapLaws
import Derived.Sort.Walk0
import Derived.Laws.DeepStrings4
import Derived.Lib.ItoaNum
import Derived.Deep.AppendLies
import Derived.Deep.OwnRows
import Derived.Laws.AppendOwnNone
import Derived.Deep.QuietTactic
import Derived.BigQuiet
import Derived.Deep.RegionWith
import Derived.Maps.OwnSet
import Derived.StringKeys
import Derived.Lib.QuietBelow
import Derived.StillTail
import Derived.Below
import Derived.Lib.Small
import Derived.Lib.Strings
import Derived.Deep.RegionHeld3
import Derived.Laws.ResultCell
import Derived.Deep.Heap
import Derived.Laws.Rows
import Derived.Deep.RegionLaw
import Derived.Laws.OwnMore
import Derived.Test.YtjmccobblpcbhaaDoorL01
import Derived.Test.YtjmccobblpcbhaaDoorL02
import Derived.Test.YtjmccobblpcbhaaDoorL03
import Derived.Test.YtjmccobblpcbhaaDoorL04
import Derived.Test.YtjmccobblpcbhaaDoorL05
import Derived.Test.YtjmccobblpcbhaaDoorL06
import Derived.Test.YtjmccobblpcbhaaDoorL07
import Derived.Test.YtjmccobblpcbhaaDoorL08
import Derived.Test.YtjmccobblpcbhaaDoorL10
import Derived.Test.YtjmccobblpcbhaaDoorL11
import Derived.Test.YtjmccobblpcbhaaDoorL12
import Derived.Test.YtjmccobblpcbhaaDoorL14
import Derived.Test.YtjmccobblpcbhaaDoorL15
import Derived.Test.YtjmccobblpcbhaaDoorL16
import Derived.Test.YtjmccobblpcbhaaDoorL17
import Derived.Test.YtjmccobblpcbhaaDoorL18
import Derived.Test.YtjmccobblpcbhaaDoorL19
import Derived.Test.YtjmccobblpcbhaaDoorL20
import Derived.Test.YtjmccobblpcbhaaDoorL21
import Derived.Test.YtjmccobblpcbhaaDoorL22
import Derived.Test.YtjmccobblpcbhaaDoorL23
import Derived.Test.YtjmccobblpcbhaaDoorL24
import Derived.Test.YtjmccobblpcbhaaDoorL25
import Derived.Test.YtjmccobblpcbhaaDoorL26
import Derived.Test.YtjmccobblpcbhaaDoorL27
import Derived.Test.YtjmccobblpcbhaaDoorL28
import Derived.Test.YtjmccobblpcbhaaDoorL29
set_option linter.unusedSimpArgs false
set_option linter.unusedVariables false
namespace Go.Proofs.YtjmccobblpcbhaaDoor
open Go.Lib

theorem Inn.step {S s : ByteArray} {d e : Nat} (h : Inn S s d e) {pat : Bool} {m a : Nat} {t t' t1 : Tk} (ht : TkO s a t) (hr : TkR s d e t t') (h0 : t.what ≠ 0) (he : t.err = 0) (hf : psFrom s pat m (skp s t.to) = .ok t1) :
    (∃ t1', psFrom S pat m (skp S t'.to) = .ok t1' ∧ TkR s d e t1 t1') ∧ TkO s (skp s t.to) t1 ∧ opn s (skp s t.to) = opn s a + brR t.what := by
  have hle := (skp_in (ht.is.good he).2.1).2
  rw [h.nx ht.is hr h0 he]
  exact ⟨h.fr hle hf, from_opn hle hf, by rw [opn_skp, ht.opn he]⟩
theorem rdLit_opn {s : ByteArray} {a : Nat} {v : Int} {t : Tk} {r : List Nd × Nat} (ht : TkO s a t) (h : rdLit s v t = .ok r) : opn s r.2 = opn s a := by
  unfold rdLit at h
  split at h
  · rename_i h1
    split at h
    · rename_i h2
      cases h
      show opn s (skp s t.to) = _
      rw [opn_skp, ht.opn h2, h1]
      show _ + (0 : Int) = _
      omega
    · cases h
  · cases h
theorem rdNamed_opn {s : ByteArray} {a : Nat} {v : Int} {t : Tk} {r : List Nd × Nat} (ht : TkO s a t) (h : rdNamed s v t = .ok r) : opn s r.2 = opn s a := by
  unfold rdNamed at h
  split at h
  · rename_i h1
    split at h
    · rename_i h2
      cases h
      show opn s (skp s t.to) = _
      rw [opn_skp, ht.opn h2, h1]
      show _ + (0 : Int) = _
      omega
    · cases h
  · cases h
theorem run_in {S s : ByteArray} {d e : Nat} (h : Inn S s d e) (pat : Bool) (k : Nat) (hN : ∀ p, p ≤ s.size → opn s p + k ≤ 100) :
    ∀ (f : Nat) (q : RdQ) (a : Nat) (t t' : Tk) (o : Nat) (r : List Nd × Nat), q.lvl → TkO s a t → TkR s d e t t' → opn s a = o → rdRun s pat f q t o = .ok r → opn s r.2 = o ∧ rdRun S pat f q t' (o + k) = .ok (r.1, pmv s d e r.2) := by
  intro f
  induction f with
  | zero => intro q a t t' o r _ _ _ _ h; cases h
  | succ f ih =>
    have hc : RdQ.cond.lvl := ⟨(fun _ e => by cases e), (fun _ _ e => by cases e)⟩
    have hu : RdQ.un.lvl := ⟨(fun _ e => by cases e), (fun _ _ e => by cases e)⟩
    have hat : RdQ.atom.lvl := ⟨(fun _ e => by cases e), (fun _ _ e => by cases e)⟩
    have hlv : ∀ lv, 1 ≤ lv → (RdQ.level lv).lvl := fun lv h => ⟨(fun _ e => by cases e; exact h), (fun _ _ e => by cases e)⟩
    have hlo : ∀ lv la, 1 ≤ lv → (RdQ.loop lv la).lvl := fun lv la h => ⟨(fun _ e => by cases e), (fun _ _ e => by cases e; exact h)⟩
    intro q a t t' o r hq ht hr ho hk
    cases q with
    | cond =>
      simp only [rdRun] at hk ⊢
      obtain ⟨c, h1, hk⟩ := Pr.bind_ok hk
      obtain ⟨o1, e1⟩ := ih _ a t t' o c (hlv 1 (by omega)) ht hr ho h1
      obtain ⟨_, _, i3⟩ := rd_len s pat f _ a t o c (hlv 1 (by omega)) ht.is h1
      obtain ⟨t1, h2, hk⟩ := Pr.bind_ok hk
      have ht1 := from_opn i3 h2
      obtain ⟨t1', e2, r1⟩ := h.fr i3 h2
      rw [e1]; simp only [Pr.bind]; rw [e2]; simp only [Pr.bind]
      split at hk
      · rename_i hw
        rw [if_pos ((r1.is (by decide) (by decide)).2 hw)]
        have hw0 : t1.what ≠ 0 := by rw [hw]; decide
        have he1 := ht1.is.sign (by rw [hw]; decide) (by rw [hw]; decide)
        obtain ⟨t2, h3, hk⟩ := Pr.bind_ok hk
        obtain ⟨⟨t2', e3, r2⟩, ht2, o2⟩ := h.step ht1 r1 hw0 he1 h3
        have b2 : brR t1.what = 0 := by rw [hw]; decide
        obtain ⟨b, h4, hk⟩ := Pr.bind_ok hk
        obtain ⟨o3, e4⟩ := ih _ _ t2 t2' o b hc ht2 r2 (by omega) h4
        obtain ⟨_, _, j3⟩ := rd_len s pat f _ _ t2 o b hc ht2.is h4
        obtain ⟨t3, h5, hk⟩ := Pr.bind_ok hk
        have ht3 := from_opn j3 h5
        obtain ⟨t3', e5, r3⟩ := h.fr j3 h5
        rw [e3]; simp only [Pr.bind]; rw [e4]; simp only [Pr.bind]; rw [e5]; simp only [Pr.bind]
        split at hk
        · rename_i hw3
          have hw30 : t3.what ≠ 0 := by rw [hw3]; decide
          rw [if_pos ((r3.is (by decide) (by decide)).2 hw3)]
          split at hk
          · rename_i he3
            rw [if_pos (by rw [(r3.on hw30).1.err]; exact he3)]
            obtain ⟨t4, h6, hk⟩ := Pr.bind_ok hk
            obtain ⟨⟨t4', e6, r4⟩, ht4, o4⟩ := h.step ht3 r3 hw30 he3 h6
            have b4 : brR t3.what = 0 := by rw [hw3]; decide
            obtain ⟨x, h7, hk⟩ := Pr.bind_ok hk
            obtain ⟨o5, e7⟩ := ih _ _ t4 t4' o x hc ht4 r4 (by omega) h7
            rw [e6]; simp only [Pr.bind]; rw [e7]; simp only [Pr.bind]
            cases hk
            exact ⟨o5, rfl⟩
          · cases hk
        · cases hk
      · rename_i hw
        rw [if_neg (fun x => hw ((r1.is (by decide) (by decide)).1 x))]
        cases hk
        exact ⟨o1, rfl⟩
    | level lv =>
      simp only [rdRun] at hk ⊢
      have hl1 := hq.1 lv rfl
      split at hk
      · rename_i h8
        rw [if_pos h8]
        exact ih _ a t t' o r hu ht hr ho hk
      · rename_i h8
        rw [if_neg h8]
        obtain ⟨c, h1, hk⟩ := Pr.bind_ok hk
        obtain ⟨o1, e1⟩ := ih _ a t t' o c (hlv (lv + 1) (by omega)) ht hr ho h1
        obtain ⟨_, _, i3⟩ := rd_len s pat f _ a t o c (hlv (lv + 1) (by omega)) ht.is h1
        obtain ⟨t1, h2, hk⟩ := Pr.bind_ok hk
        have ht1 := from_opn i3 h2
        obtain ⟨t1', e2, r1⟩ := h.fr i3 h2
        rw [e1]; simp only [Pr.bind]; rw [e2]; simp only [Pr.bind]
        exact ih _ _ t1 t1' o r (hlo lv c.1 hl1) ht1 r1 o1 hk
    | loop lv la =>
      simp only [rdRun] at hk ⊢
      have hl1 := hq.2 lv la rfl
      rw [hr.op]
      split at hk
      · rename_i hw
        rw [if_pos hw]
        obtain ⟨w0, w1, w2⟩ := op_sgn hw hl1
        have he1 := ht.is.sign w1 w2
        obtain ⟨t1, h2, hk⟩ := Pr.bind_ok hk
        obtain ⟨⟨t1', e2, r1⟩, ht1, o1⟩ := h.step ht hr w0 he1 h2
        have b1 := op_br hw hl1
        obtain ⟨b, h3, hk⟩ := Pr.bind_ok hk
        obtain ⟨o2, e3⟩ := ih _ _ t1 t1' o b (hlv (lv + 1) (by omega)) ht1 r1 (by omega) h3
        obtain ⟨_, _, i3⟩ := rd_len s pat f _ _ t1 o b (hlv (lv + 1) (by omega)) ht1.is h3
        rw [e2]; simp only [Pr.bind]; rw [e3]; simp only [Pr.bind]
        split at hk
        · rename_i h15
          rw [if_pos h15]
          cases hk
          exact ⟨o2, rfl⟩
        · rename_i h15
          rw [if_neg h15]
          obtain ⟨t2, h4, hk⟩ := Pr.bind_ok hk
          have ht2 := from_opn i3 h4
          obtain ⟨t2', e4, r2⟩ := h.fr i3 h4
          rw [e4]; simp only [Pr.bind]
          exact ih _ _ t2 t2' o r (hlo lv _ hl1) ht2 r2 o2 hk
      · rename_i hw
        rw [if_neg hw]
        cases hk
        exact ⟨by simp only; rw [ht.is.at_]; exact ho, by simp only; rw [hr.pm]⟩
    | un =>
      simp only [rdRun] at hk ⊢
      split at hk
      · rename_i hw
        have w0 : t.what ≠ 0 := by rw [hw]; decide
        have he1 := ht.is.sign (by rw [hw]; decide) (by rw [hw]; decide)
        have b1 : brR t.what = 0 := by rw [hw]; decide
        have hto := (hr.on w0).1.to (fun _ => he1)
        have hnum := h.mid.num (ht.is.good he1).2.1
        rw [if_pos ((hr.is (by decide) (by decide)).2 hw), hto, hnum]
        split at hk
        · rename_i h11
          rw [if_pos (show (nsh d (numI s t.to)).2.2 = 11 from h11), ← hto]
          obtain ⟨t1, h2, hk⟩ := Pr.bind_ok hk
          obtain ⟨⟨t1', e2, r1⟩, ht1, o1⟩ := h.step ht hr w0 he1 h2
          obtain ⟨b, h3, hk⟩ := Pr.bind_ok hk
          obtain ⟨o2, e3⟩ := ih _ _ t1 t1' o b hu ht1 r1 (by omega) h3
          rw [e2]; simp only [Pr.bind]; rw [e3]; simp only [Pr.bind]
          cases hk
          exact ⟨o2, rfl⟩
        · rename_i h11
          rw [if_neg (show ¬ (nsh d (numI s t.to)).2.2 = 11 from h11), ← hto]
          obtain ⟨t1, h2, hk⟩ := Pr.bind_ok hk
          obtain ⟨⟨t1', e2, r1⟩, ht1, o1⟩ := h.step ht hr w0 he1 h2
          rw [e2]; simp only [Pr.bind]
          have hn : t1'.n = t1.n := by
            rcases r1 with ⟨r1, _⟩ | ⟨r1, r2⟩
            · exact r1.n
            · subst r1; subst r2; rfl
          rw [hn]
          exact ⟨by rw [rdLit_opn ht1 hk]; omega, h.lit ht1.is r1 hk⟩
      · rename_i hw
        rw [if_neg (fun x => hw ((hr.is (by decide) (by decide)).1 x))]
        split at hk
        · rename_i hw
          have w0 : t.what ≠ 0 := by rw [hw]; decide
          have he1 := ht.is.sign (by rw [hw]; decide) (by rw [hw]; decide)
          have b1 : brR t.what = 0 := by rw [hw]; decide
          rw [if_pos ((hr.is (by decide) (by decide)).2 hw)]
          obtain ⟨t1, h2, hk⟩ := Pr.bind_ok hk
          obtain ⟨⟨t1', e2, r1⟩, ht1, o1⟩ := h.step ht hr w0 he1 h2
          obtain ⟨b, h3, hk⟩ := Pr.bind_ok hk
          obtain ⟨o2, e3⟩ := ih _ _ t1 t1' o b hu ht1 r1 (by omega) h3
          rw [e2]; simp only [Pr.bind]; rw [e3]; simp only [Pr.bind]
          cases hk
          exact ⟨o2, rfl⟩
        · rename_i hw
          rw [if_neg (fun x => hw ((hr.is (by decide) (by decide)).1 x))]
          exact ih _ a t t' o r hat ht hr ho hk
    | atom =>
      simp only [rdRun] at hk ⊢
      split at hk
      · rename_i hw
        have w0 : t.what ≠ 0 := by rw [hw]; decide
        rw [if_pos ((hr.is (by decide) (by decide)).2 hw), (hr.on w0).1.n]
        exact ⟨by rw [rdLit_opn ht hk]; exact ho, h.lit ht.is hr hk⟩
      · rename_i hw
        rw [if_neg (fun x => hw ((hr.is (by decide) (by decide)).1 x))]
        split at hk
        · rename_i hw
          rw [if_pos ((hr.is (by decide) (by decide)).2 hw)]
          exact ⟨by rw [rdNamed_opn ht hk]; exact ho, h.named ht.is hr hk⟩
        · rename_i hw
          rw [if_neg (fun x => hw ((hr.is (by decide) (by decide)).1 x))]
          split at hk
          · rename_i hw
            have w0 : t.what ≠ 0 := by rw [hw]; decide
            have he1 := ht.is.sign (by rw [hw]; decide) (by rw [hw]; decide)
            have b1 : brR t.what = 0 := by rw [hw]; decide
            rw [if_pos ((hr.is (by decide) (by decide)).2 hw)]
            obtain ⟨t1, h2, hk⟩ := Pr.bind_ok hk
            obtain ⟨⟨t1', e2, r1⟩, ht1, o1⟩ := h.step ht hr w0 he1 h2
            rw [e2]; simp only [Pr.bind]
            exact ⟨by rw [rdNamed_opn ht1 hk]; omega, h.named ht1.is r1 hk⟩
          · rename_i hw
            rw [if_neg (fun x => hw ((hr.is (by decide) (by decide)).1 x))]
            split at hk
            · rename_i hw
              have w0 : t.what ≠ 0 := by rw [hw]; decide
              have he1 := ht.is.sign (by rw [hw]; decide) (by rw [hw]; decide)
              have b1 : brR t.what = 1 := by rw [hw]; decide
              rw [if_pos ((hr.is (by decide) (by decide)).2 hw)]
              split at hk
              · cases hk
              · obtain ⟨t1, h2, hk⟩ := Pr.bind_ok hk
                obtain ⟨⟨t1', e2, r1⟩, ht1, o1⟩ := h.step ht hr w0 he1 h2
                have hb := hN _ ht1.is.in_
                rw [if_neg (by omega)]
                obtain ⟨x, h3, hk⟩ := Pr.bind_ok hk
                obtain ⟨o2, e3⟩ := ih _ _ t1 t1' (o + 1) x hc ht1 r1 (by omega) h3
                obtain ⟨_, _, i3⟩ := rd_len s pat f _ _ t1 (o + 1) x hc ht1.is h3
                obtain ⟨t2, h4, hk⟩ := Pr.bind_ok hk
                have ht2 := from_opn i3 h4
                obtain ⟨t2', e4, r2⟩ := h.fr i3 h4
                rw [show o + 1 + k = o + k + 1 by omega] at e3
                rw [e2]; simp only [Pr.bind]; rw [e3]; simp only [Pr.bind]; rw [e4]; simp only [Pr.bind]
                split at hk
                · rename_i hw2
                  have w20 : t2.what ≠ 0 := by rw [hw2]; decide
                  have hs2 := (r2.on w20).1
                  rw [if_pos (hs2.what.trans hw2)]
                  split at hk
                  · rename_i he
                    rw [if_pos (hs2.err.trans he), h.nx ht2.is r2 w20 he]
                    have b2 : brR t2.what = -1 := by rw [hw2]; decide
                    have := ht2.opn he
                    cases hk
                    refine ⟨?_, rfl⟩
                    show opn s (skp s t2.to) = _
                    rw [opn_skp]; omega
                  · cases hk
                · cases hk
            · cases hk
end Go.Proofs.YtjmccobblpcbhaaDoor

set_option linter.unusedSimpArgs false
set_option linter.unusedVariables false
namespace Go.Proofs.YtjmccobblpcbhaaDoor
open Go.Lib

/-- A bracket, from the rules inside on. -/
theorem brack {s : ByteArray} {pat : Bool} {f : Nat} {t t1 : Tk} {o e : Nat} {l : List Nd} (h40 : t.what = 40) (ho : o ≠ 100) (h1 : psFrom s pat mx63 (skp s t.to) = .ok t1) (h : rdRun s pat f .cond t1 (o + 1) = .ok (l, e)) (he : e < s.size) (hb : s.get! e = 41) :
    rdRun s pat (f + 1) .atom t o = .ok (l, skp s (e + 1)) := by
  rw [rdRun, h40]
  rw [if_neg (by decide), if_neg (by decide), if_neg (by decide), if_pos rfl, if_neg ho, h1]
  simp only [Pr.bind]
  rw [h]
  simp only [Pr.bind]
  rw [close_at s pat mx63 e he hb]
  simp only [Pr.bind, if_true]
theorem brackU {s : ByteArray} {pat : Bool} {f : Nat} {t t1 : Tk} {o e : Nat} {l : List Nd} (h40 : t.what = 40) (ho : o ≠ 100) (h1 : psFrom s pat mx63 (skp s t.to) = .ok t1) (h : rdRun s pat f .cond t1 (o + 1) = .ok (l, e)) (he : e < s.size) (hb : s.get! e = 41) :
    rdRun s pat (f + 2) .un t o = .ok (l, skp s (e + 1)) ∧ rdRun s pat (f + 3) (.level 9) t o = .ok (l, skp s (e + 1)) := by
  have h0 := brack h40 ho h1 h he hb
  have h2 : rdRun s pat (f + 2) .un t o = .ok (l, skp s (e + 1)) := by
    show rdRun s pat ((f + 1) + 1) .un t o = _
    rw [rdRun, h40, if_neg (by decide), if_neg (by decide), h0]
  refine ⟨h2, ?_⟩
  show rdRun s pat ((f + 2) + 1) (.level 9) t o = _
  rw [rdRun, if_pos (by decide), h2]
end Go.Proofs.YtjmccobblpcbhaaDoor

set_option linter.unusedSimpArgs false
set_option linter.unusedVariables false
namespace Go.Proofs.YtjmccobblpcbhaaDoor
open Go.Lib

/-- The signs of the joined texts. -/
def jsg (c : UInt8) : Prop := c = 40 ∨ c = 41 ∨ c = 42 ∨ c = 45 ∨ c = 58 ∨ c = 63 ∨ c = 126
theorem jsg_dec {S : ByteArray} {e : Nat} {c : UInt8} (h : S.get! e = c) (hc : jsg c) : Utf8.decode S e = (c.toNat, 1) := by
  rw [decode_at, h]
  have : c.toNat < 128 := by rcases hc with rfl | rfl | rfl | rfl | rfl | rfl | rfl <;> decide
  unfold decodeN
  rw [if_pos this]
theorem skp_all (S : ByteArray) : skp S S.size = S.size := by
  unfold skp
  cases hf : S.size with
  | zero => rfl
  | succ f => simp only [psSkip]; rw [if_neg (by omega)]
/-! ### the bytes -/
def CkA (S : ByteArray) (p : Nat) : Prop := ∀ g, (chkF S g p).2 = 0
theorem CkA.end_ (S : ByteArray) : CkA S S.size := fun g => by rw [chkF_end S g _ (Nat.lt_irrefl _)]
theorem CkA.sign {S : ByteArray} {p : Nat} {c : UInt8} (hp : p < S.size) (h : S.get! p = c) (hc : jsg c) (hn : CkA S (p + 1)) : CkA S p := fun g => by
  cases g with
  | zero => rfl
  | succ g =>
    have hb : bad S p = false := by
      unfold bad
      rw [jsg_dec h hc]
      rcases hc with rfl | rfl | rfl | rfl | rfl | rfl | rfl <;> rfl
    rw [chkF_good S g p hp hb, jsg_dec h hc]
    exact hn g
theorem Mid.ck {S s : ByteArray} {d : Nat} (h : Mid S s d) (hn : CkA S (d + s.size)) : ∀ f p, p ≤ s.size → s.size ≤ p + f → (chkF s f p).2 = 0 → CkA S (d + p) := by
  have hz := h.size
  intro f
  induction f with
  | zero =>
    intro p h1 h2 _
    have e : p = s.size := by omega
    subst e; exact hn
  | succ f ih =>
    intro p h1 h2 hk
    by_cases hp : p < s.size
    · have hb : bad s p = false := by
        cases hb : bad s p
        · rfl
        · rw [chkF_bad s f p hp hb] at hk; cases hk
      have hB : bad S (d + p) = false := by
        unfold bad at hb ⊢; rw [h.dec hp]; exact hb
      rw [chkF_good s f p hp hb] at hk
      have hw := width_pos s p hp
      have hw2 := dec_le s p hp
      intro g
      cases g with
      | zero => rfl
      | succ g =>
        rw [chkF_good S g (d + p) (by omega) hB, h.dec hp, Nat.add_assoc]
        exact ih _ hw2 (by omega) hk g
    · have e : p = s.size := by omega
      subst e; exact hn
/-- What a good answer says. -/
theorem whole_ok {s : ByteArray} {most : Nat} {a : List Nd} (h : psRead s false most = .ok a) : s.size ≤ 4096 ∧ (chk s).2 = 0 ∧ a.length ≤ most ∧ ∃ t, psFrom s false mx63 (skp s 0) = .ok t ∧ rdRun s false (psFuel s) .cond t 0 = .ok (a, s.size) := by
  rw [read_eq] at h
  unfold rdWhole at h
  split at h
  · cases h
  · rename_i h4
    split at h
    · rename_i hc
      obtain ⟨r, h1, h⟩ := Pr.bind_ok h
      unfold rdX at h1
      obtain ⟨t, ht, h1⟩ := Pr.bind_ok h1
      obtain ⟨t2, _, h⟩ := Pr.bind_ok h
      have hlv : RdQ.cond.lvl := ⟨(fun _ e => by cases e), (fun _ _ e => by cases e)⟩
      obtain ⟨_, _, h3⟩ := rd_len s false _ .cond _ t 0 r hlv (from_at (skp_in (Nat.zero_le _)).2 ht) h1
      split at h
      · cases h
      · rename_i hlt
        split at h
        · cases h
        · rename_i hm
          rw [if_neg (fun x => by simp at x)] at h
          cases h
          have e : r.2 = s.size := by omega
          refine ⟨by omega, hc, by omega, t, ht, ?_⟩
          rw [← e]; exact h1
    · cases h
/-- A good text in brackets. -/
theorem inner {S s : ByteArray} {d e most : Nat} {a : List Nd} (hI : Inn S s d e) (hr : psRead s false most = .ok a) (hN : ∀ p, p ≤ s.size → opn s p + ((1 : Nat) : Int) ≤ 100) {t : Tk} (h40 : t.what = 40) (hto : t.to = d) :
    rdRun S false (psFuel s + 2) .un t 0 = .ok (a, skp S (e + 1)) ∧ rdRun S false (psFuel s + 3) (.level 9) t 0 = .ok (a, skp S (e + 1)) := by
  obtain ⟨h4, hc, hm, t0, ht0, hrun⟩ := whole_ok hr
  have hle := (skp_in (s := s) (Nat.zero_le _)).2
  obtain ⟨t1, ht1, hR⟩ := hI.fr hle ht0
  have hlv : RdQ.cond.lvl := ⟨(fun _ e => by cases e), (fun _ _ e => by cases e)⟩
  have ho : opn s (skp s 0) = ((0 : Nat) : Int) := by rw [opn_skp]; rfl
  obtain ⟨_, hin⟩ := run_in hI false 1 hN _ .cond _ t0 t1 0 _ hlv (from_opn hle ht0) hR ho hrun
  have e0 : pmv s d e s.size = e := by unfold pmv; rw [if_neg (Nat.lt_irrefl _)]
  simp only [e0] at hin
  have hsk : skp S t.to = pmv s d e (skp s 0) := by rw [hto]; exact hI.sk (Nat.zero_le _)
  exact brackU h40 (by decide) (by rw [hsk]; exact ht1) hin hI.lt hI.br
end Go.Proofs.YtjmccobblpcbhaaDoor

set_option linter.unusedSimpArgs false
set_option linter.unusedVariables false
namespace Go.Proofs.YtjmccobblpcbhaaDoor
open Go.RowKit Go.Lib

theorem Tryd.infoStrH : (Tryd.prog.info? 9).map (fun i => (i.zero, i.size, i.bytes)) = some (some (.string ⟨#[]⟩), 1, 16) := by kernel_rfl
theorem hl_ext {a b : ByteArray} (h : a.data.toList = b.data.toList) : a = b := by
  apply ByteArray.ext
  exact Array.ext' h

structure HlMid (w : World) (v : Value) (hs : List ByteArray) (wr : World) : Prop where
  row : wr.ownsRow w.heap.size 9 1 v hs.length (hs.map Value.string)
  below : Below w.heap.size w wr
/-- Is it known already? -/
def knwn (x : Nd) (hs : List ByteArray) : Bool := decide (x.op ≠ 18) || hs.any (fun y => decide (y = x.name))
theorem addNm_knwn (hs : List ByteArray) (x : Nd) : addNm hs x = if knwn x hs = true then hs else hs ++ [x.name] := by
  unfold addNm knwn
  by_cases h : x.op = 18
  · have e : decide (x.op ≠ 18) = false := by simp [h]
    rw [if_pos h, e, Bool.false_or]
  · have e : decide (x.op ≠ 18) = true := by simp [h]
    rw [if_neg h, e, Bool.true_or, if_pos rfl]
theorem beq_toList (a b : ByteArray) : (a.toList == b.toList) = decide (a = b) := by
  rw [toList_data, toList_data]
  by_cases h : a = b
  · subst h; simp
  · have : a.data.toList ≠ b.data.toList := fun e => h (hl_ext e)
    rw [beq_eq_false_iff_ne.2 this]
    simp [h]
theorem any_take (hs : List ByteArray) (nm : ByteArray) (k : Nat) (hk : k < hs.length) : (hs.take (k + 1)).any (fun y => decide (y = nm)) = ((hs.take k).any (fun y => decide (y = nm)) || decide (hs.getD k ⟨#[]⟩ = nm)) := by
  rw [List.take_succ_eq_append_getElem hk, List.any_append]
  simp [hk]

set_option maxRecDepth 20000 in
set_option maxHeartbeats 4000000 in
theorem refHoles_any {w : World} {ao : Option Addr} {cap : Nat} {l : List Nd} (hN : Rd w ao cap l) (hlen : l.length * 56 ≤ 140737488355328) :
    Calls Tryd.prog 34 #[.slice ao l.length cap] w fun e w' => ∃ va vc, e = .returned (.slice va (hlsL l).length vc) ∧ Below w.heap.size w w' := by
  obtain ⟨hb1, hb2⟩ := hN.bound
  unfold maxLen at hb2
  obtain ⟨i0, hi, hz0, hz1, hz2⟩ := info_parts Tryd.infoStrH
  have HN : Hid (Rd w ao cap l) := hN
  have HE : Hid (hlsL (l.take l.length) = hlsL l) := by show _ = _; rw [List.take_length]
  clear hN
  go_enter Tryd.func34, Tryd.ntmps34
  go_wp2_with fail
  go_loopw [3, 4] (fun v i wr => ∃ k : Nat, k ≤ l.length ∧ i = .int .i64 k ∧ HlMid w v (hlsL (l.take k)) wr) (fun _ i _ => l.length - (RowKit.intOf i).toNat)
  case atStart => exact ⟨0, by omega, rfl, by simpa [hlsL] using World.ownsRow_nil _ _ _ _, Below.refl _ _⟩
  case round =>
    obtain ⟨k, hk, rfl, hM⟩ := hrel
    obtain ⟨wa, hwa⟩ : ∃ wa, wa = wr := ⟨_, rfl⟩
    subst hwa
    have hbw := hM.below
    have hsw := hbw.size
    obtain ⟨va, vc, hv⟩ := row_form' hM.row
    subst hv
    by_cases hlt : k < l.length
    · obtain ⟨b, o, kv, rfl, hbk, hna⟩ := Rd.cell (HN.out.below hbw hsw) hlt
      have HX : Hid (hlsL (l.take (k + 1)) = if knwn (l.getD k nd0) (hlsL (l.take k)) = true then hlsL (l.take k) else hlsL (l.take k) ++ [(l.getD k nd0).name]) := by
        show _ = _
        rw [List.take_succ_eq_append_getElem hlt, hlsL_snoc, addNm_knwn]
        simp [hlt]
      have hhl := hlsL_len (l.take k)
      have hhl2 : (hlsL (l.take k)).length ≤ k := by simp at hhl; omega
      clear hhl
      generalize hlsL (l.take k) = hs at *
      obtain ⟨c0, c1, c2, c3, hki⟩ := hna
      generalize hx : l.getD k nd0 = x at *
      obtain ⟨op, n, nm, kids⟩ := x
      simp only at c0 c2 HX
      have HM : Hid (HlMid w (.slice va hs.length vc) hs wa) := hM
      obtain ⟨kw, hkw⟩ : ∃ kw, decide (op ≠ 18) = kw := ⟨_, rfl⟩
      have hkw' : (op != 18) = kw := by rw [← hkw]; by_cases e : op = 18 <;> simp [e]
      have HKW : Hid (decide (op ≠ 18) = kw) := hkw
      clear hM hx hki c1 c3 hkw
      have cell : Hid (∀ j, j < hs.length → ∃ g c, va = some ⟨g, 0, none⟩ ∧ vc = c ∧ g < wa.heap.size ∧ hs.length ≤ c ∧ c ≤ maxLen ∧ wa.cell? ⟨g, j, none⟩ = some (.string (hs.getD j ⟨#[]⟩))) := fun j hj => by
        obtain ⟨g, c, e, h1, h2, h3, h4⟩ := row_cell HM.out.row hj (d := .string ⟨#[]⟩)
        cases e
        refine ⟨g, vc, rfl, rfl, h1, h2, h3, ?_⟩
        rw [h4]; simp [hj]
      go_wp2_with fail
      go_loopw [5, 6] (fun v i wq => ∃ (j : Nat) (q : Bool), j ≤ hs.length ∧ i = .int .i64 j ∧ v = .bool q ∧ Hid (q = (kw || (hs.take j).any (fun y => decide (y = nm)))) ∧ Below wa.heap.size wa wq) (fun _ i _ => hs.length - (RowKit.intOf i).toNat)
      case atStart => exact ⟨0, kw, by omega, rfl, by first | rfl | (rw [hkw'] <;> rfl) | simp [hkw'], by show kw = _; simp, Below.refl _ _⟩
      case round =>
        obtain ⟨j, q, hj, rfl, rfl, hq, hbq⟩ := hrel
        by_cases hjl : j < hs.length
        · obtain ⟨g, c, rfl, rfl, hgl, hg1, hg2, hcj⟩ := cell.out j hjl
          unfold maxLen at hg2
          have e1 := (hbq.cell (p := ⟨g, j, none⟩) hgl).trans hcj
          have e2 := (hbq.cell (p := ⟨b, o + k * 4 + 2, none⟩) hbk).trans c2
          have HQ : Hid (_) := hq
          have HA := any_take hs nm j hjl
          have HAH : Hid (_) := HA
          have HBQ : Hid (Below wa.heap.size wa wr) := hbq
          generalize hs.getD j ⟨#[]⟩ = y at *
          clear hcj hq HA hbq
          cases q with
          | true =>
            go_wp2_with fail
            go_quiet (fail)
            go_wp2_with fail
            refine ⟨⟨j + 1, true, by omega, by go_num, rfl, ?_, below_drewN' HBQ.out _⟩, by simp [RowKit.intOf]; omega⟩
            show true = _
            rw [HAH.out, ← Bool.or_assoc, ← HQ.out]; rfl
          | false =>
            obtain ⟨ee, hee⟩ : ∃ e, decide (y = nm) = e := ⟨_, rfl⟩
            go_wp2_with fail
            go_quiet (fail)
            go_wp2_with fail
            refine ⟨⟨j + 1, decide (y = nm), by omega, by go_num, ?_, ?_, below_drewN' HBQ.out _⟩, by simp [RowKit.intOf]; omega⟩
            · rw [← beq_toList] <;> rfl
            · show decide (y = nm) = _
              rw [HAH.out, ← Bool.or_assoc, ← HQ.out]; rfl
        · have hje : j = hs.length := by omega
          subst hje
          rw [List.take_length] at hq
          have HQ : Hid (q = knwn ⟨op, n, nm, kids⟩ hs) := by show q = _; rw [hq.out, ← HKW.out]; rfl
          have e2 := (hbq.cell (p := ⟨b, o + k * 4 + 2, none⟩) hbk).trans c2
          have HBQ : Hid (Below wa.heap.size wa wr) := hbq
          have HM2 : Hid (HlMid w (.slice va hs.length vc) hs wr) := ⟨ownsRow_below HM.out.row hbq, HM.out.below.trans (hbq.mono HM.out.below.size)⟩
          have hs2 := HM2.out.below.size
          clear hq hbq
          cases q with
          | true =>
            have HE2 : Hid (hlsL (l.take (k + 1)) = hs) := by show _ = _; rw [HX.out, ← HQ.out]; rfl
            go_wp2_with fail
            exact ⟨⟨k + 1, by omega, by go_num, by rw [HE2.out]; exact HM2.out⟩, by simp [RowKit.intOf]; omega⟩
          | false =>
            have HE2 : Hid (hlsL (l.take (k + 1)) = hs ++ [nm]) := by show _ = _; rw [HX.out, ← HQ.out]; rfl
            go_wp2_with (at_builtin; refine wpList_append_lies _ rfl (.tmp 40) (.tmp 46) 33 rfl w.heap.size 9 i0 (.string ⟨#[]⟩) 1 16 Tryd.underlying33 hi hz0 hz1 hz2 rfl (by decide) _ _ _ rfl (HM2.out.row.alloc _) ⟨wr.heap.size, 0, none⟩ 1 1 [.string nm] rfl rfl (cell_news_one _ _ _) (by simp [Value.oneCell']) (by omega) (by unfold maxLen; omega) (by omega) (by simp; omega) _ rfl ?_; intro g6 cap6 w6 hown6 hg6 hat6 hl6)
            refine ⟨⟨k + 1, by omega, by go_num, ?_⟩, by simp [RowKit.intOf]; omega⟩
            rw [HE2.out]
            refine ⟨?_, (HM2.out.below.alloc (by omega) _).grown hg6 (by simp; omega) (fun j hj => (own_block' HM2.out.row j hj).1)⟩
            have e3 : (hs ++ [nm]).length = hs.length + 1 := by simp
            rw [e3, List.map_append]; exact hown6
    · have hke : k = l.length := by omega
      subst hke
      rw [HE.out]
      go_wp2_with fail
      go_ret
      exact ⟨va, vc, rfl, hbw⟩
end Go.Proofs.YtjmccobblpcbhaaDoor
