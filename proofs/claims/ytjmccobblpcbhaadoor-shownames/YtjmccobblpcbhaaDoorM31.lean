/-
  EmIn, EmUp, EmJoin, JnMk, EmBad, EmErr, EmApp.
-/
import Derived.Test.YtjmccobblpcbhaaDoorChecked
import GoSem.PinnedTables
import GoSem.Claim
import GoSem.ClaimJoined
import GoSem.ClaimMapViews
import Derived.JoinedTies
import Derived.KernelRfl
import Derived.Shelf.Unicode.DecodeSlow
import Derived.Laws.RangeAny
import Derived.Shelf.Strings.Builder1
import Derived.Shelf.Small.Utf8
import Derived.Shelf.Small.Bits
import Derived.Shelf.Strings.BuilderF
import Derived.Shelf.Strings.BuilderK
import Derived.Shelf.Strings.BuilderRune
import Derived.Shelf.Utf8.AppendRune
import Derived.Shelf.Strconv.Itoa0
import Derived.Shelf.Strconv.Itoa1
import Derived.Shelf.LaysM
import Derived.Shelf.Strconv.Itoa2
import Derived.Shelf.Strconv.Itoa3
import Derived.Shelf.Strconv.Itoa4
import Derived.Shelf.Strings.Prefix
import Derived.Shelf.Unicode.DecodeAny
import Derived.Test.YtjmccobblpcbhaaDoorProg
import Derived.WalkKit
import Derived.Deep.DeepFit
import Derived.Lib.OthersKept
import Derived.Lib.RuneCountTail
import Derived.Lib.LaidU8
import Derived.MakeChecks
import Derived.ProofKit
import Derived.OpenShut
import Derived.Deep.DeepHandedRow
import Derived.Lib.MapLaws
import Derived.Sort.Walk0
import Derived.Laws.DeepStrings4
import Derived.Lib.ItoaNum
import Derived.Deep.AppendLies
import Derived.Deep.OwnRows
import Derived.Laws.AppendOwnNone
import Derived.Deep.QuietTactic
import Derived.BigQuiet
import Derived.Deep.RegionWith
import Derived.Maps.OwnSet
import Derived.StringKeys
import Derived.Lib.QuietBelow
import Derived.StillTail
import Derived.Below
import Derived.Lib.Small
import Derived.Lib.Strings
import Derived.Deep.RegionHeld3
import Derived.Laws.ResultCell
import Derived.Deep.Heap
import Derived.Laws.Rows
import Derived.Deep.RegionLaw
import Derived.Laws.OwnMore
import Derived.Test.YtjmccobblpcbhaaDoorRows
import Derived.Test.YtjmccobblpcbhaaDoorM01
import Derived.Test.YtjmccobblpcbhaaDoorM02
import Derived.Test.YtjmccobblpcbhaaDoorM03
import Derived.Test.YtjmccobblpcbhaaDoorM04
import Derived.Test.YtjmccobblpcbhaaDoorM05
import Derived.Test.YtjmccobblpcbhaaDoorM06
import Derived.Test.YtjmccobblpcbhaaDoorM07
import Derived.Test.YtjmccobblpcbhaaDoorM08
import Derived.Test.YtjmccobblpcbhaaDoorM09
import Derived.Test.YtjmccobblpcbhaaDoorM11
import Derived.Test.YtjmccobblpcbhaaDoorM12
import Derived.Test.YtjmccobblpcbhaaDoorM13
import Derived.Test.YtjmccobblpcbhaaDoorM15
import Derived.Test.YtjmccobblpcbhaaDoorM16
import Derived.Test.YtjmccobblpcbhaaDoorM17
import Derived.Test.YtjmccobblpcbhaaDoorM18
import Derived.Test.YtjmccobblpcbhaaDoorM19
import Derived.Test.YtjmccobblpcbhaaDoorM20
import Derived.Test.YtjmccobblpcbhaaDoorM21
import Derived.Test.YtjmccobblpcbhaaDoorM22
import Derived.Test.YtjmccobblpcbhaaDoorM23
import Derived.Test.YtjmccobblpcbhaaDoorM24
import Derived.Test.YtjmccobblpcbhaaDoorM25
import Derived.Test.YtjmccobblpcbhaaDoorM26
import Derived.Test.YtjmccobblpcbhaaDoorM27
import Derived.Test.YtjmccobblpcbhaaDoorM28
import Derived.Test.YtjmccobblpcbhaaDoorM29
import Derived.Test.YtjmccobblpcbhaaDoorM30
set_option linter.unusedSimpArgs false
set_option linter.unusedVariables false
namespace Go.Proofs.YtjmccobblpcbhaaDoor
open Go.Lib

theorem Inn.step {S s : ByteArray} {d e : Nat} (h : Inn S s d e) {pat : Bool} {m a : Nat} {t t' t1 : Tk} (ht : TkO s a t) (hr : TkR s d e t t') (h0 : t.what ≠ 0) (he : t.err = 0) (hf : psFrom s pat m (skp s t.to) = .ok t1) :
    (∃ t1', psFrom S pat m (skp S t'.to) = .ok t1' ∧ TkR s d e t1 t1') ∧ TkO s (skp s t.to) t1 ∧ opn s (skp s t.to) = opn s a + brR t.what := by
  have hle := (skp_in (ht.is.good he).2.1).2
  rw [h.nx ht.is hr h0 he]
  exact ⟨h.fr hle hf, from_opn hle hf, by rw [opn_skp, ht.opn he]⟩
theorem rdLit_opn {s : ByteArray} {a : Nat} {v : Int} {t : Tk} {r : List Nd × Nat} (ht : TkO s a t) (h : rdLit s v t = .ok r) : opn s r.2 = opn s a := by
  unfold rdLit at h
  split at h
  · rename_i h1
    split at h
    · rename_i h2
      cases h
      show opn s (skp s t.to) = _
      rw [opn_skp, ht.opn h2, h1]
      show _ + (0 : Int) = _
      omega
    · cases h
  · cases h
theorem rdNamed_opn {s : ByteArray} {a : Nat} {v : Int} {t : Tk} {r : List Nd × Nat} (ht : TkO s a t) (h : rdNamed s v t = .ok r) : opn s r.2 = opn s a := by
  unfold rdNamed at h
  split at h
  · rename_i h1
    split at h
    · rename_i h2
      cases h
      show opn s (skp s t.to) = _
      rw [opn_skp, ht.opn h2, h1]
      show _ + (0 : Int) = _
      omega
    · cases h
  · cases h
theorem run_in {S s : ByteArray} {d e : Nat} (h : Inn S s d e) (pat : Bool) (k : Nat) (hN : ∀ p, p ≤ s.size → opn s p + k ≤ 100) :
    ∀ (f : Nat) (q : RdQ) (a : Nat) (t t' : Tk) (o : Nat) (r : List Nd × Nat), q.lvl → TkO s a t → TkR s d e t t' → opn s a = o → rdRun s pat f q t o = .ok r → opn s r.2 = o ∧ rdRun S pat f q t' (o + k) = .ok (r.1, pmv s d e r.2) := by
  intro f
  induction f with
  | zero => intro q a t t' o r _ _ _ _ h; cases h
  | succ f ih =>
    have hc : RdQ.cond.lvl := ⟨(fun _ e => by cases e), (fun _ _ e => by cases e)⟩
    have hu : RdQ.un.lvl := ⟨(fun _ e => by cases e), (fun _ _ e => by cases e)⟩
    have hat : RdQ.atom.lvl := ⟨(fun _ e => by cases e), (fun _ _ e => by cases e)⟩
    have hlv : ∀ lv, 1 ≤ lv → (RdQ.level lv).lvl := fun lv h => ⟨(fun _ e => by cases e; exact h), (fun _ _ e => by cases e)⟩
    have hlo : ∀ lv la, 1 ≤ lv → (RdQ.loop lv la).lvl := fun lv la h => ⟨(fun _ e => by cases e), (fun _ _ e => by cases e; exact h)⟩
    intro q a t t' o r hq ht hr ho hk
    cases q with
    | cond =>
      simp only [rdRun] at hk ⊢
      obtain ⟨c, h1, hk⟩ := Pr.bind_ok hk
      obtain ⟨o1, e1⟩ := ih _ a t t' o c (hlv 1 (by omega)) ht hr ho h1
      obtain ⟨_, _, i3⟩ := rd_len s pat f _ a t o c (hlv 1 (by omega)) ht.is h1
      obtain ⟨t1, h2, hk⟩ := Pr.bind_ok hk
      have ht1 := from_opn i3 h2
      obtain ⟨t1', e2, r1⟩ := h.fr i3 h2
      rw [e1]; simp only [Pr.bind]; rw [e2]; simp only [Pr.bind]
      split at hk
      · rename_i hw
        rw [if_pos ((r1.is (by decide) (by decide)).2 hw)]
        have hw0 : t1.what ≠ 0 := by rw [hw]; decide
        have he1 := ht1.is.sign (by rw [hw]; decide) (by rw [hw]; decide)
        obtain ⟨t2, h3, hk⟩ := Pr.bind_ok hk
        obtain ⟨⟨t2', e3, r2⟩, ht2, o2⟩ := h.step ht1 r1 hw0 he1 h3
        have b2 : brR t1.what = 0 := by rw [hw]; decide
        obtain ⟨b, h4, hk⟩ := Pr.bind_ok hk
        obtain ⟨o3, e4⟩ := ih _ _ t2 t2' o b hc ht2 r2 (by omega) h4
        obtain ⟨_, _, j3⟩ := rd_len s pat f _ _ t2 o b hc ht2.is h4
        obtain ⟨t3, h5, hk⟩ := Pr.bind_ok hk
        have ht3 := from_opn j3 h5
        obtain ⟨t3', e5, r3⟩ := h.fr j3 h5
        rw [e3]; simp only [Pr.bind]; rw [e4]; simp only [Pr.bind]; rw [e5]; simp only [Pr.bind]
        split at hk
        · rename_i hw3
          have hw30 : t3.what ≠ 0 := by rw [hw3]; decide
          rw [if_pos ((r3.is (by decide) (by decide)).2 hw3)]
          split at hk
          · rename_i he3
            rw [if_pos (by rw [(r3.on hw30).1.err]; exact he3)]
            obtain ⟨t4, h6, hk⟩ := Pr.bind_ok hk
            obtain ⟨⟨t4', e6, r4⟩, ht4, o4⟩ := h.step ht3 r3 hw30 he3 h6
            have b4 : brR t3.what = 0 := by rw [hw3]; decide
            obtain ⟨x, h7, hk⟩ := Pr.bind_ok hk
            obtain ⟨o5, e7⟩ := ih _ _ t4 t4' o x hc ht4 r4 (by omega) h7
            rw [e6]; simp only [Pr.bind]; rw [e7]; simp only [Pr.bind]
            cases hk
            exact ⟨o5, rfl⟩
          · cases hk
        · cases hk
      · rename_i hw
        rw [if_neg (fun x => hw ((r1.is (by decide) (by decide)).1 x))]
        cases hk
        exact ⟨o1, rfl⟩
    | level lv =>
      simp only [rdRun] at hk ⊢
      have hl1 := hq.1 lv rfl
      split at hk
      · rename_i h8
        rw [if_pos h8]
        exact ih _ a t t' o r hu ht hr ho hk
      · rename_i h8
        rw [if_neg h8]
        obtain ⟨c, h1, hk⟩ := Pr.bind_ok hk
        obtain ⟨o1, e1⟩ := ih _ a t t' o c (hlv (lv + 1) (by omega)) ht hr ho h1
        obtain ⟨_, _, i3⟩ := rd_len s pat f _ a t o c (hlv (lv + 1) (by omega)) ht.is h1
        obtain ⟨t1, h2, hk⟩ := Pr.bind_ok hk
        have ht1 := from_opn i3 h2
        obtain ⟨t1', e2, r1⟩ := h.fr i3 h2
        rw [e1]; simp only [Pr.bind]; rw [e2]; simp only [Pr.bind]
        exact ih _ _ t1 t1' o r (hlo lv c.1 hl1) ht1 r1 o1 hk
    | loop lv la =>
      simp only [rdRun] at hk ⊢
      have hl1 := hq.2 lv la rfl
      rw [hr.op]
      split at hk
      · rename_i hw
        rw [if_pos hw]
        obtain ⟨w0, w1, w2⟩ := op_sgn hw hl1
        have he1 := ht.is.sign w1 w2
        obtain ⟨t1, h2, hk⟩ := Pr.bind_ok hk
        obtain ⟨⟨t1', e2, r1⟩, ht1, o1⟩ := h.step ht hr w0 he1 h2
        have b1 := op_br hw hl1
        obtain ⟨b, h3, hk⟩ := Pr.bind_ok hk
        obtain ⟨o2, e3⟩ := ih _ _ t1 t1' o b (hlv (lv + 1) (by omega)) ht1 r1 (by omega) h3
        obtain ⟨_, _, i3⟩ := rd_len s pat f _ _ t1 o b (hlv (lv + 1) (by omega)) ht1.is h3
        rw [e2]; simp only [Pr.bind]; rw [e3]; simp only [Pr.bind]
        split at hk
        · rename_i h15
          rw [if_pos h15]
          cases hk
          exact ⟨o2, rfl⟩
        · rename_i h15
          rw [if_neg h15]
          obtain ⟨t2, h4, hk⟩ := Pr.bind_ok hk
          have ht2 := from_opn i3 h4
          obtain ⟨t2', e4, r2⟩ := h.fr i3 h4
          rw [e4]; simp only [Pr.bind]
          exact ih _ _ t2 t2' o r (hlo lv _ hl1) ht2 r2 o2 hk
      · rename_i hw
        rw [if_neg hw]
        cases hk
        exact ⟨by simp only; rw [ht.is.at_]; exact ho, by simp only; rw [hr.pm]⟩
    | un =>
      simp only [rdRun] at hk ⊢
      split at hk
      · rename_i hw
        have w0 : t.what ≠ 0 := by rw [hw]; decide
        have he1 := ht.is.sign (by rw [hw]; decide) (by rw [hw]; decide)
        have b1 : brR t.what = 0 := by rw [hw]; decide
        have hto := (hr.on w0).1.to (fun _ => he1)
        have hnum := h.mid.num (ht.is.good he1).2.1
        rw [if_pos ((hr.is (by decide) (by decide)).2 hw), hto, hnum]
        split at hk
        · rename_i h11
          rw [if_pos (show (nsh d (numI s t.to)).2.2 = 11 from h11), ← hto]
          obtain ⟨t1, h2, hk⟩ := Pr.bind_ok hk
          obtain ⟨⟨t1', e2, r1⟩, ht1, o1⟩ := h.step ht hr w0 he1 h2
          obtain ⟨b, h3, hk⟩ := Pr.bind_ok hk
          obtain ⟨o2, e3⟩ := ih _ _ t1 t1' o b hu ht1 r1 (by omega) h3
          rw [e2]; simp only [Pr.bind]; rw [e3]; simp only [Pr.bind]
          cases hk
          exact ⟨o2, rfl⟩
        · rename_i h11
          rw [if_neg (show ¬ (nsh d (numI s t.to)).2.2 = 11 from h11), ← hto]
          obtain ⟨t1, h2, hk⟩ := Pr.bind_ok hk
          obtain ⟨⟨t1', e2, r1⟩, ht1, o1⟩ := h.step ht hr w0 he1 h2
          rw [e2]; simp only [Pr.bind]
          have hn : t1'.n = t1.n := by
            rcases r1 with ⟨r1, _⟩ | ⟨r1, r2⟩
            · exact r1.n
            · subst r1; subst r2; rfl
          rw [hn]
          exact ⟨by rw [rdLit_opn ht1 hk]; omega, h.lit ht1.is r1 hk⟩
      · rename_i hw
        rw [if_neg (fun x => hw ((hr.is (by decide) (by decide)).1 x))]
        split at hk
        · rename_i hw
          have w0 : t.what ≠ 0 := by rw [hw]; decide
          have he1 := ht.is.sign (by rw [hw]; decide) (by rw [hw]; decide)
          have b1 : brR t.what = 0 := by rw [hw]; decide
          rw [if_pos ((hr.is (by decide) (by decide)).2 hw)]
          obtain ⟨t1, h2, hk⟩ := Pr.bind_ok hk
          obtain ⟨⟨t1', e2, r1⟩, ht1, o1⟩ := h.step ht hr w0 he1 h2
          obtain ⟨b, h3, hk⟩ := Pr.bind_ok hk
          obtain ⟨o2, e3⟩ := ih _ _ t1 t1' o b hu ht1 r1 (by omega) h3
          rw [e2]; simp only [Pr.bind]; rw [e3]; simp only [Pr.bind]
          cases hk
          exact ⟨o2, rfl⟩
        · rename_i hw
          rw [if_neg (fun x => hw ((hr.is (by decide) (by decide)).1 x))]
          exact ih _ a t t' o r hat ht hr ho hk
    | atom =>
      simp only [rdRun] at hk ⊢
      split at hk
      · rename_i hw
        have w0 : t.what ≠ 0 := by rw [hw]; decide
        rw [if_pos ((hr.is (by decide) (by decide)).2 hw), (hr.on w0).1.n]
        exact ⟨by rw [rdLit_opn ht hk]; exact ho, h.lit ht.is hr hk⟩
      · rename_i hw
        rw [if_neg (fun x => hw ((hr.is (by decide) (by decide)).1 x))]
        split at hk
        · rename_i hw
          rw [if_pos ((hr.is (by decide) (by decide)).2 hw)]
          exact ⟨by rw [rdNamed_opn ht hk]; exact ho, h.named ht.is hr hk⟩
        · rename_i hw
          rw [if_neg (fun x => hw ((hr.is (by decide) (by decide)).1 x))]
          split at hk
          · rename_i hw
            have w0 : t.what ≠ 0 := by rw [hw]; decide
            have he1 := ht.is.sign (by rw [hw]; decide) (by rw [hw]; decide)
            have b1 : brR t.what = 0 := by rw [hw]; decide
            rw [if_pos ((hr.is (by decide) (by decide)).2 hw)]
            obtain ⟨t1, h2, hk⟩ := Pr.bind_ok hk
            obtain ⟨⟨t1', e2, r1⟩, ht1, o1⟩ := h.step ht hr w0 he1 h2
            rw [e2]; simp only [Pr.bind]
            exact ⟨by rw [rdNamed_opn ht1 hk]; omega, h.named ht1.is r1 hk⟩
          · rename_i hw
            rw [if_neg (fun x => hw ((hr.is (by decide) (by decide)).1 x))]
            split at hk
            · rename_i hw
              have w0 : t.what ≠ 0 := by rw [hw]; decide
              have he1 := ht.is.sign (by rw [hw]; decide) (by rw [hw]; decide)
              have b1 : brR t.what = 1 := by rw [hw]; decide
              rw [if_pos ((hr.is (by decide) (by decide)).2 hw)]
              split at hk
              · cases hk
              · obtain ⟨t1, h2, hk⟩ := Pr.bind_ok hk
                obtain ⟨⟨t1', e2, r1⟩, ht1, o1⟩ := h.step ht hr w0 he1 h2
                have hb := hN _ ht1.is.in_
                rw [if_neg (by omega)]
                obtain ⟨x, h3, hk⟩ := Pr.bind_ok hk
                obtain ⟨o2, e3⟩ := ih _ _ t1 t1' (o + 1) x hc ht1 r1 (by omega) h3
                obtain ⟨_, _, i3⟩ := rd_len s pat f _ _ t1 (o + 1) x hc ht1.is h3
                obtain ⟨t2, h4, hk⟩ := Pr.bind_ok hk
                have ht2 := from_opn i3 h4
                obtain ⟨t2', e4, r2⟩ := h.fr i3 h4
                rw [show o + 1 + k = o + k + 1 by omega] at e3
                rw [e2]; simp only [Pr.bind]; rw [e3]; simp only [Pr.bind]; rw [e4]; simp only [Pr.bind]
                split at hk
                · rename_i hw2
                  have w20 : t2.what ≠ 0 := by rw [hw2]; decide
                  have hs2 := (r2.on w20).1
                  rw [if_pos (hs2.what.trans hw2)]
                  split at hk
                  · rename_i he
                    rw [if_pos (hs2.err.trans he), h.nx ht2.is r2 w20 he]
                    have b2 : brR t2.what = -1 := by rw [hw2]; decide
                    have := ht2.opn he
                    cases hk
                    refine ⟨?_, rfl⟩
                    show opn s (skp s t2.to) = _
                    rw [opn_skp]; omega
                  · cases hk
                · cases hk
            · cases hk
end Go.Proofs.YtjmccobblpcbhaaDoor

set_option linter.unusedSimpArgs false
set_option linter.unusedVariables false
namespace Go.Proofs.YtjmccobblpcbhaaDoor
open Go.Lib

theorem bind_up {α β : Type} {x y : Pr α} {f g : α → Pr β} {b : β} (h : x.bind f = .ok b) (hx : ∀ a, x = .ok a → y = .ok a) (hf : ∀ a, x = .ok a → f a = .ok b → g a = .ok b) : y.bind g = .ok b := by
  obtain ⟨a, h1, h2⟩ := Pr.bind_ok h
  rw [hx a h1]
  exact hf a h1 h2
theorem rd_one (s : ByteArray) (pat : Bool) : ∀ (f : Nat) (q : RdQ) (t : Tk) (o : Nat) (r : List Nd × Nat), rdRun s pat f q t o = .ok r → rdRun s pat (f + 1) q t o = .ok r := by
  intro f
  induction f with
  | zero => intro q t o r h; cases h
  | succ f ih =>
    intro q t o r h
    cases q with
    | cond =>
      rw [rdRun] at h ⊢
      refine bind_up h (fun a => ih _ _ _ a) fun c _ h => bind_up h (fun _ x => x) fun t1 _ h => ?_
      split at h
      · rename_i hw
        rw [if_pos hw]
        refine bind_up h (fun _ x => x) fun t2 _ h => bind_up h (fun a => ih _ _ _ a) fun a _ h => bind_up h (fun _ x => x) fun t3 _ h => ?_
        split at h
        · rename_i hw
          rw [if_pos hw]
          split at h
          · rename_i hw
            rw [if_pos hw]
            exact bind_up h (fun _ x => x) fun t4 _ h => bind_up h (fun a => ih _ _ _ a) fun b _ h => h
          · cases h
        · cases h
      · rename_i hw
        rw [if_neg hw]
        exact h
    | level lv =>
      rw [rdRun] at h ⊢
      split at h
      · rename_i hw
        rw [if_pos hw]
        exact ih _ _ _ _ h
      · rename_i hw
        rw [if_neg hw]
        exact bind_up h (fun a => ih _ _ _ a) fun a _ h => bind_up h (fun _ x => x) fun t1 _ h => ih _ _ _ _ h
    | loop lv la =>
      rw [rdRun] at h ⊢
      split at h
      · rename_i hw
        rw [if_pos hw]
        refine bind_up h (fun _ x => x) fun t1 _ h => bind_up h (fun a => ih _ _ _ a) fun b _ h => ?_
        split at h
        · rename_i hw
          rw [if_pos hw]
          exact h
        · rename_i hw
          rw [if_neg hw]
          exact bind_up h (fun _ x => x) fun t2 _ h => ih _ _ _ _ h
      · rename_i hw
        rw [if_neg hw]
        exact h
    | un =>
      rw [rdRun] at h ⊢
      split at h
      · rename_i hw
        rw [if_pos hw]
        split at h
        · rename_i hw
          rw [if_pos hw]
          exact bind_up h (fun _ x => x) fun t1 _ h => bind_up h (fun a => ih _ _ _ a) fun x _ h => h
        · rename_i hw
          rw [if_neg hw]
          exact h
      · rename_i hw
        rw [if_neg hw]
        split at h
        · rename_i hw
          rw [if_pos hw]
          exact bind_up h (fun _ x => x) fun t1 _ h => bind_up h (fun a => ih _ _ _ a) fun x _ h => h
        · rename_i hw
          rw [if_neg hw]
          exact ih _ _ _ _ h
    | atom =>
      rw [rdRun] at h ⊢
      split at h
      · rename_i hw
        rw [if_pos hw]
        exact h
      · rename_i hw
        rw [if_neg hw]
        split at h
        · rename_i hw
          rw [if_pos hw]
          exact h
        · rename_i hw
          rw [if_neg hw]
          split at h
          · rename_i hw
            rw [if_pos hw]
            exact h
          · rename_i hw
            rw [if_neg hw]
            split at h
            · rename_i hw
              rw [if_pos hw]
              split at h
              · cases h
              · rename_i hw
                rw [if_neg hw]
                exact bind_up h (fun _ x => x) fun t1 _ h => bind_up h (fun a => ih _ _ _ a) fun e _ h => h
            · cases h
theorem rd_more {s : ByteArray} {pat : Bool} {f g : Nat} {q : RdQ} {t : Tk} {o : Nat} {r : List Nd × Nat} (h : rdRun s pat f q t o = .ok r) (hfg : f ≤ g) : rdRun s pat g q t o = .ok r := by
  obtain ⟨k, rfl⟩ : ∃ k, g = f + k := ⟨g - f, by omega⟩
  clear hfg
  induction k with
  | zero => exact h
  | succ k ih => exact rd_one s pat _ _ _ _ _ ih
/-- Between two levels nothing happens where the sign behind belongs to none of them. -/
theorem climb {s : ByteArray} {pat : Bool} {f : Nat} {t t1 : Tk} {o p : Nat} {l : List Nd} {top : Nat} (h : rdRun s pat f (.level top) t o = .ok (l, p)) (ht : psFrom s pat mx63 p = .ok t1) (hp : p ≤ s.size) (htop : top ≤ 9) :
    ∀ (k lv : Nat), lv + k = top → (∀ j, lv ≤ j → j < top → (psOp t1.what).2 ≠ j) → rdRun s pat (f + k + 1) (.level lv) t o = .ok (l, p) := by
  intro k
  induction k with
  | zero => intro lv e _; subst e; exact rd_more h (by omega)
  | succ k ih =>
    intro lv e hn
    have := ih (lv + 1) (by omega) fun j h1 h2 => hn j (by omega) h2
    have e2 : rdRun s pat (f + (k + 1) + 1) (.level lv) t o = (rdRun s pat (f + k + 1) (.level (lv + 1)) t o).bind fun a => (psFrom s pat mx63 a.2).bind fun t1 => rdRun s pat (f + k + 1) (.loop lv a.1) t1 o := by
      show rdRun s pat ((f + k + 1) + 1) (.level lv) t o = _
      rw [rdRun, if_neg (by omega)]
    rw [e2, this]
    simp only [Pr.bind]
    rw [ht]
    simp only [Pr.bind]
    rw [rdRun, if_neg (hn lv (Nat.le_refl _) (by omega)), (from_at hp ht).at_]
/-- A bracket, from the rules inside on. -/
theorem brack {s : ByteArray} {pat : Bool} {f : Nat} {t t1 : Tk} {o e : Nat} {l : List Nd} (h40 : t.what = 40) (ho : o ≠ 100) (h1 : psFrom s pat mx63 (skp s t.to) = .ok t1) (h : rdRun s pat f .cond t1 (o + 1) = .ok (l, e)) (he : e < s.size) (hb : s.get! e = 41) :
    rdRun s pat (f + 1) .atom t o = .ok (l, skp s (e + 1)) := by
  rw [rdRun, h40]
  rw [if_neg (by decide), if_neg (by decide), if_neg (by decide), if_pos rfl, if_neg ho, h1]
  simp only [Pr.bind]
  rw [h]
  simp only [Pr.bind]
  rw [close_at s pat mx63 e he hb]
  simp only [Pr.bind, if_true]
theorem brackU {s : ByteArray} {pat : Bool} {f : Nat} {t t1 : Tk} {o e : Nat} {l : List Nd} (h40 : t.what = 40) (ho : o ≠ 100) (h1 : psFrom s pat mx63 (skp s t.to) = .ok t1) (h : rdRun s pat f .cond t1 (o + 1) = .ok (l, e)) (he : e < s.size) (hb : s.get! e = 41) :
    rdRun s pat (f + 2) .un t o = .ok (l, skp s (e + 1)) ∧ rdRun s pat (f + 3) (.level 9) t o = .ok (l, skp s (e + 1)) := by
  have h0 := brack h40 ho h1 h he hb
  have h2 : rdRun s pat (f + 2) .un t o = .ok (l, skp s (e + 1)) := by
    show rdRun s pat ((f + 1) + 1) .un t o = _
    rw [rdRun, h40, if_neg (by decide), if_neg (by decide), h0]
  refine ⟨h2, ?_⟩
  show rdRun s pat ((f + 2) + 1) (.level 9) t o = _
  rw [rdRun, if_pos (by decide), h2]
end Go.Proofs.YtjmccobblpcbhaaDoor

set_option linter.unusedSimpArgs false
set_option linter.unusedVariables false
namespace Go.Proofs.YtjmccobblpcbhaaDoor
open Go.Lib

/-- The signs of the joined texts. -/
def jsg (c : UInt8) : Prop := c = 40 ∨ c = 41 ∨ c = 42 ∨ c = 45 ∨ c = 58 ∨ c = 63 ∨ c = 126
set_option maxRecDepth 100000 in
theorem jsg_kd : kd 40 = 4 ∧ kd 41 = 4 ∧ kd 42 = 4 ∧ kd 45 = 4 ∧ kd 58 = 4 ∧ kd 63 = 4 ∧ kd 126 = 4 := by decide +kernel
theorem jsg_dec {S : ByteArray} {e : Nat} {c : UInt8} (h : S.get! e = c) (hc : jsg c) : Utf8.decode S e = (c.toNat, 1) := by
  rw [decode_at, h]
  have : c.toNat < 128 := by rcases hc with rfl | rfl | rfl | rfl | rfl | rfl | rfl <;> decide
  unfold decodeN
  rw [if_pos this]
theorem jsg_four {c : UInt8} (hc : jsg c) : kd ((c.toNat : Nat) : Int) = 4 := by
  obtain ⟨k1, k2, k3, k4, k5, k6, k7⟩ := jsg_kd
  rcases hc with rfl | rfl | rfl | rfl | rfl | rfl | rfl
  · exact k1
  · exact k2
  · exact k3
  · exact k4
  · exact k5
  · exact k6
  · exact k7
theorem skp_jsg {S : ByteArray} {e : Nat} {c : UInt8} (he : e < S.size) (h : S.get! e = c) (hc : jsg c) : skp S e = e := by
  unfold skp
  obtain ⟨f, hf⟩ : ∃ f, S.size = f + 1 := ⟨S.size - 1, by omega⟩
  rw [hf]
  simp only [psSkip]
  rw [if_pos he, jsg_dec h hc, if_neg (by simp only; rw [jsg_four hc]; decide)]
theorem skp_all (S : ByteArray) : skp S S.size = S.size := by
  unfold skp
  cases hf : S.size with
  | zero => rfl
  | succ f => simp only [psSkip]; rw [if_neg (by omega)]
theorem end_at (S : ByteArray) (pat : Bool) (m : Nat) : psFrom S pat m S.size = .ok (psEnd S) := by
  unfold psFrom; rw [if_neg (Nat.lt_irrefl _)]

/-! ### the bytes -/
def CkA (S : ByteArray) (p : Nat) : Prop := ∀ g, (chkF S g p).2 = 0
theorem CkA.end_ (S : ByteArray) : CkA S S.size := fun g => by rw [chkF_end S g _ (Nat.lt_irrefl _)]
theorem CkA.sign {S : ByteArray} {p : Nat} {c : UInt8} (hp : p < S.size) (h : S.get! p = c) (hc : jsg c) (hn : CkA S (p + 1)) : CkA S p := fun g => by
  cases g with
  | zero => rfl
  | succ g =>
    have hb : bad S p = false := by
      unfold bad
      rw [jsg_dec h hc]
      rcases hc with rfl | rfl | rfl | rfl | rfl | rfl | rfl <;> rfl
    rw [chkF_good S g p hp hb, jsg_dec h hc]
    exact hn g
theorem Mid.ck {S s : ByteArray} {d : Nat} (h : Mid S s d) (hn : CkA S (d + s.size)) : ∀ f p, p ≤ s.size → s.size ≤ p + f → (chkF s f p).2 = 0 → CkA S (d + p) := by
  have hz := h.size
  intro f
  induction f with
  | zero =>
    intro p h1 h2 _
    have e : p = s.size := by omega
    subst e; exact hn
  | succ f ih =>
    intro p h1 h2 hk
    by_cases hp : p < s.size
    · have hb : bad s p = false := by
        cases hb : bad s p
        · rfl
        · rw [chkF_bad s f p hp hb] at hk; cases hk
      have hB : bad S (d + p) = false := by
        unfold bad at hb ⊢; rw [h.dec hp]; exact hb
      rw [chkF_good s f p hp hb] at hk
      have hw := width_pos s p hp
      have hw2 := dec_le s p hp
      intro g
      cases g with
      | zero => rfl
      | succ g =>
        rw [chkF_good S g (d + p) (by omega) hB, h.dec hp, Nat.add_assoc]
        exact ih _ hw2 (by omega) hk g
    · have e : p = s.size := by omega
      subst e; exact hn
/-- What a good answer says. -/
theorem whole_ok {s : ByteArray} {most : Nat} {a : List Nd} (h : psRead s false most = .ok a) : s.size ≤ 4096 ∧ (chk s).2 = 0 ∧ a.length ≤ most ∧ ∃ t, psFrom s false mx63 (skp s 0) = .ok t ∧ rdRun s false (psFuel s) .cond t 0 = .ok (a, s.size) := by
  rw [read_eq] at h
  unfold rdWhole at h
  split at h
  · cases h
  · rename_i h4
    split at h
    · rename_i hc
      obtain ⟨r, h1, h⟩ := Pr.bind_ok h
      unfold rdX at h1
      obtain ⟨t, ht, h1⟩ := Pr.bind_ok h1
      obtain ⟨t2, _, h⟩ := Pr.bind_ok h
      have hlv : RdQ.cond.lvl := ⟨(fun _ e => by cases e), (fun _ _ e => by cases e)⟩
      obtain ⟨_, _, h3⟩ := rd_len s false _ .cond _ t 0 r hlv (from_at (skp_in (Nat.zero_le _)).2 ht) h1
      split at h
      · cases h
      · rename_i hlt
        split at h
        · cases h
        · rename_i hm
          rw [if_neg (fun x => by simp at x)] at h
          cases h
          have e : r.2 = s.size := by omega
          refine ⟨by omega, hc, by omega, t, ht, ?_⟩
          rw [← e]; exact h1
    · cases h
/-- A good text in brackets. -/
theorem inner {S s : ByteArray} {d e most : Nat} {a : List Nd} (hI : Inn S s d e) (hr : psRead s false most = .ok a) (hN : ∀ p, p ≤ s.size → opn s p + ((1 : Nat) : Int) ≤ 100) {t : Tk} (h40 : t.what = 40) (hto : t.to = d) :
    rdRun S false (psFuel s + 2) .un t 0 = .ok (a, skp S (e + 1)) ∧ rdRun S false (psFuel s + 3) (.level 9) t 0 = .ok (a, skp S (e + 1)) := by
  obtain ⟨h4, hc, hm, t0, ht0, hrun⟩ := whole_ok hr
  have hle := (skp_in (s := s) (Nat.zero_le _)).2
  obtain ⟨t1, ht1, hR⟩ := hI.fr hle ht0
  have hlv : RdQ.cond.lvl := ⟨(fun _ e => by cases e), (fun _ _ e => by cases e)⟩
  have ho : opn s (skp s 0) = ((0 : Nat) : Int) := by rw [opn_skp]; rfl
  obtain ⟨_, hin⟩ := run_in hI false 1 hN _ .cond _ t0 t1 0 _ hlv (from_opn hle ht0) hR ho hrun
  have e0 : pmv s d e s.size = e := by unfold pmv; rw [if_neg (Nat.lt_irrefl _)]
  simp only [e0] at hin
  have hsk : skp S t.to = pmv s d e (skp s 0) := by rw [hto]; exact hI.sk (Nat.zero_le _)
  exact brackU h40 (by decide) (by rw [hsk]; exact ht1) hin hI.lt hI.br
theorem op_end (S : ByteArray) : (psOp (psEnd S).what).2 = 0 ∧ (psEnd S).what ≠ 63 := ⟨by show (psOp 0).2 = 0; decide, by show (0 : Int) ≠ 63; decide⟩
end Go.Proofs.YtjmccobblpcbhaaDoor

set_option linter.unusedSimpArgs false
set_option linter.unusedVariables false
namespace Go.Proofs.YtjmccobblpcbhaaDoor
open Go.RowKit Go.Lib

def NZ {α : Type} (x : Pr α) : Prop := ∀ p, x ≠ .bad p 0
theorem NZ.bind {α β : Type} {x : Pr α} {f : α → Pr β} (h : NZ x) (hf : ∀ a, NZ (f a)) : NZ (x.bind f) := by
  intro p c
  cases x with
  | ok a => exact hf a p c
  | bad q e =>
    have c' : (Pr.bad q e : Pr β) = .bad p 0 := c
    cases c'
    exact h p rfl
  | out => cases c
theorem NZ.ok {α : Type} (a : α) : NZ (.ok a : Pr α) := fun p c => by cases c
theorem NZ.bad {α : Type} (p : Nat) (e : Int) (h : e ≠ 0) : NZ (.bad p e : Pr α) := fun q c => by cases c; exact h rfl
end Go.Proofs.YtjmccobblpcbhaaDoor

set_option linter.unusedSimpArgs false
set_option linter.unusedVariables false
namespace Go.Proofs.YtjmccobblpcbhaaDoor
open Go.Lib

theorem Pr.bind_bad {α β : Type} {x : Pr α} {f : α → Pr β} {p : Nat} {e : Int} (h : x.bind f = .bad p e) : x = .bad p e ∨ ∃ a, x = .ok a ∧ f a = .bad p e := by
  cases x with
  | ok a => exact .inr ⟨a, rfl, h⟩
  | bad q e' =>
    have c : (Pr.bad q e' : Pr β) = .bad p e := h
    cases c; exact .inl rfl
  | out => cases h
theorem TkR.low {s : ByteArray} {d e : Nat} {t t' : Tk} (h : TkR s d e t t') (hl : t.from_ < s.size) : TkS d t t' := by
  rcases h with h | ⟨h, h'⟩
  · exact h.1
  · subst h; exact absurd hl (by unfold psEnd; exact Nat.lt_irrefl _)
end Go.Proofs.YtjmccobblpcbhaaDoor

set_option linter.unusedSimpArgs false
set_option linter.unusedVariables false
namespace Go.Proofs.YtjmccobblpcbhaaDoor
open Go.Lib

/-- A fault below the end that is no bad byte, or ErrText. -/
def GE {α : Type} (s : ByteArray) (x : Pr α) : Prop := ∀ p er, x = .bad p er → (p < s.size ∧ er ≠ 4 ∧ er ≠ 3) ∨ er = 6
theorem GE.ok {α : Type} (s : ByteArray) (a : α) : GE s (.ok a : Pr α) := fun p e c => by cases c
theorem GE.at_ {α : Type} (s : ByteArray) {p : Nat} {er : Int} (hp : p < s.size) (h4 : er ≠ 4) (h3 : er ≠ 3) : GE s (.bad p er : Pr α) := fun q e c => by cases c; exact .inl ⟨hp, h4, h3⟩
theorem GE.bind {α β : Type} {s : ByteArray} {x : Pr α} {f : α → Pr β} (h : GE s x) (hf : ∀ a, x = .ok a → GE s (f a)) : GE s (x.bind f) := by
  intro p er c
  rcases Pr.bind_bad c with c | ⟨a, h1, c⟩
  · exact h p er c
  · exact hf a h1 p er c
end Go.Proofs.YtjmccobblpcbhaaDoor

set_option linter.unusedSimpArgs false
set_option linter.unusedVariables false
namespace Go.Proofs.YtjmccobblpcbhaaDoor
open Go.Lib

theorem apz (a b : ByteArray) : (a ++ b).size = a.size + b.size := by simp
theorem app_list (a b : ByteArray) : (a ++ b).data.toList = a.data.toList ++ b.data.toList := by simp
theorem gA (a b : ByteArray) (i : Nat) (h : i < a.size) : (a ++ b).get! i = a.get! i := by
  have h1 := ba_get (a ++ b) i (by rw [apz]; omega)
  have h2 := ba_get a i h
  have hl : a.data.toList.length = a.size := (size_eq a).symm
  rw [app_list, List.getElem?_append_left (by omega), h2] at h1
  exact (Option.some.inj h1).symm
theorem gB (a b : ByteArray) (i : Nat) (h0 : a.size ≤ i) (h : i < a.size + b.size) : (a ++ b).get! i = b.get! (i - a.size) := by
  have h1 := ba_get (a ++ b) i (by rw [apz]; omega)
  have h2 := ba_get b (i - a.size) (by omega)
  have hl : a.data.toList.length = a.size := (size_eq a).symm
  rw [app_list, List.getElem?_append_right (by omega), hl, h2] at h1
  exact (Option.some.inj h1).symm
def A1 : ByteArray := ⟨#[40]⟩
def A2 (c : UInt8) : ByteArray := ⟨#[c, 40]⟩
end Go.Proofs.YtjmccobblpcbhaaDoor
