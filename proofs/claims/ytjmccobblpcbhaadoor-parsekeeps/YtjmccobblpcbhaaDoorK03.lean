/-
  PsTok, PsGrow, PsFuel.
-/
import Derived.Shelf.Unicode.DecodeSlow
import Derived.Laws.RangeAny
import Derived.Lib.RuneCountTail
import Derived.Lib.Small
import Derived.Lib.Strings
import Derived.Lib.MapLaws
import Derived.Test.YtjmccobblpcbhaaDoorK01
import Derived.Test.YtjmccobblpcbhaaDoorK02
set_option linter.unusedSimpArgs false
set_option linter.unusedVariables false
namespace Go.Proofs.YtjmccobblpcbhaaDoor
open Go.Lib

theorem psSkip_le (s : ByteArray) : ∀ (f p : Nat), p ≤ s.size → p ≤ psSkip s f p ∧ psSkip s f p ≤ s.size
  | 0, p, h => ⟨Nat.le_refl _, h⟩
  | f + 1, p, h => by
    unfold psSkip
    split
    · rename_i hp
      split
      · have hw := width_pos s p hp
        have hl := dec_le s p hp
        have := psSkip_le s f (p + (Utf8.decode s p).2) (by omega)
        omega
      · omega
    · omega
theorem nuF_le (s : ByteArray) (z : Int) : ∀ (f p n : Nat), p ≤ s.size → (nuF s z f p n).2.2 = 0 → p ≤ (nuF s z f p n).2.1 ∧ (nuF s z f p n).2.1 ≤ s.size
  | 0, p, n, h, _ => ⟨Nat.le_refl _, h⟩
  | f + 1, p, n, h, h0 => by
    unfold nuF at h0 ⊢
    split
    · rename_i hp
      rw [if_pos hp] at h0
      split
      · rename_i hz
        rw [if_pos hz] at h0
        split
        · rename_i hl
          rw [if_pos hl] at h0; simp at h0
        · rename_i hl
          rw [if_neg hl] at h0
          have hw := width_pos s p hp
          have hle := dec_le s p hp
          have := nuF_le s z f _ _ (by omega) h0
          omega
      · exact ⟨Nat.le_refl _, h⟩
    · exact ⟨Nat.le_refl _, h⟩
theorem num_in (s : ByteArray) (p : Nat) (hp : p < s.size) (hk : kd (Utf8.decode s p).1 = 2) (h0 : (numI s p).2.2 = 0) : p < (numI s p).2.1 ∧ (numI s p).2.1 ≤ s.size := by
  have hz := (kd_two _).1 hk
  unfold numI at h0 ⊢
  rw [if_neg (by omega), Int.toNat_natCast] at h0 ⊢
  unfold numP at h0 ⊢
  rw [digZ_rn s p hp, if_neg hz] at h0 ⊢
  obtain ⟨f, hf⟩ : ∃ f, s.size = f + 1 := ⟨s.size - 1, by omega⟩
  rw [hf] at h0 ⊢
  have hw := width_pos s p hp
  have hle := dec_le s p hp
  unfold nuF at h0 ⊢
  rw [if_pos hp, if_pos rfl] at h0 ⊢
  split
  · rename_i hl; rw [if_pos hl] at h0; simp at h0
  · rename_i hl
    rw [if_neg hl] at h0
    have := nuF_le s _ f _ _ (by omega) h0
    omega
theorem span_in' (s : ByteArray) (p : Nat) (hp : p < s.size) (hk : kd (Utf8.decode s p).1 = 1) : spanI s p = (((spF s s.size p : Nat) : Int), 0) ∧ p < spF s s.size p ∧ spF s s.size p ≤ s.size := by
  refine ⟨?_, ?_, (spF_le s _ p (by omega)).2⟩
  · unfold spanI spanP
    rw [if_neg (by omega), Int.toNat_natCast, kd_rn s p hp, if_pos hk]
  · obtain ⟨f, hf⟩ : ∃ f, s.size = f + 1 := ⟨s.size - 1, by omega⟩
    have hw := width_pos s p hp
    have hle := dec_le s p hp
    rw [hf, spF_on s f p hp (on_of_letter _ hk)]
    have := (spF_le s f (p + (Utf8.decode s p).2) (by omega)).1
    omega

theorem two_in (s : ByteArray) (p : Nat) (c : UInt8) (hp : p < s.size) (h : psTwo s p c = true) : p + 2 ≤ s.size := by
  unfold psTwo hasPrefix at h
  have hl := (List.isPrefixOf_iff_prefix.1 h).length_le
  have e : (s.extract p s.size).data.toList.length = s.size - p := by
    rw [Array.length_toList]; exact tail_size s p
  rw [e] at hl
  simp at hl
  omega
set_option maxRecDepth 100000 in
theorem kd_bad : kd 65533 ≠ 4 := by decide +kernel
theorem len_dec (s : ByteArray) (p : Nat) (hp : p < s.size) (h : kd (Utf8.decode s p).1 = 4) : runeLen (Utf8.decode s p).1 = (Utf8.decode s p).2 := by
  rw [decode_at] at h ⊢
  rcases decodeN_shape (s.size - p) (s.get! p).toNat (s.get! (p + 1)).toNat (s.get! (p + 2)).toNat (s.get! (p + 3)).toNat with ⟨c, e⟩ | ⟨k1, k2, k3, cv, e⟩ | ⟨k1, k2, k3, k4, cv, cs, e⟩ | ⟨k1, k2, k3, k4, k5, cv, cw, e⟩ | e
  all_goals rw [e] at h ⊢
  · unfold runeLen; simp only; rw [if_neg (by omega), if_pos (by omega)]; rfl
  · unfold runeLen; simp only; rw [if_neg (by omega), if_neg (by omega), if_pos (by omega)]; rfl
  · unfold runeLen; simp only; rw [if_neg (by omega), if_neg (by omega), if_neg (by omega), if_neg (by omega), if_pos (by omega)]; rfl
  · unfold runeLen; simp only; rw [if_neg (by omega), if_neg (by omega), if_neg (by omega), if_neg (by omega), if_neg (by omega), if_pos (by omega)]; rfl
  · exact absurd h kd_bad
theorem sign_in (s : ByteArray) (pat : Bool) (p : Nat) (hp : p < s.size) (h : kd (Utf8.decode s p).1 = 4) : (psSign s pat p (Utf8.decode s p).1).2 ≤ (s.size : Int) - p := by
  have hle := dec_le s p hp
  unfold psSign
  split
  · rename_i h2; have := two_in s p _ hp h2; simp only; omega
  · split
    · rename_i h2; have := two_in s p _ hp h2; simp only; omega
    · split
      · rename_i h2; have := two_in s p _ hp h2; simp only; omega
      · split
        · simp only; omega
        · split
          · simp only; omega
          · simp only; rw [len_dec s p hp h]; omega

/-- A token behind the place p. -/
structure TkAt (s : ByteArray) (p : Nat) (t : Tk) : Prop where
  low : p ≤ t.from_
  in_ : t.from_ ≤ s.size
  good : t.err = 0 → t.from_ ≤ t.to ∧ t.to ≤ s.size ∧ (t.what ≠ 0 → t.from_ < t.to)
  sign : t.what ≠ 48 → t.what ≠ 97 → t.err = 0
  name : t.what = 97 → t.from_ < t.to ∧ t.to ≤ s.size

theorem psNext_at {s : ByteArray} {pat : Bool} {most p : Nat} {t : Tk} (hp : p ≤ s.size) (h : psNext s pat most p = .ok t) : TkAt s p t := by
  have hk := psSkip_le s s.size p hp
  unfold psNext psFrom at h
  generalize psSkip s s.size p = q at *
  split at h
  · rename_i hq
    unfold psAt at h
    split at h
    · rename_i k1
      obtain ⟨e1, e2, e3⟩ := span_in' s q hq k1
      rw [e1] at h
      simp only [Int.toNat_natCast] at h
      cases h
      exact ⟨hk.1, by simp only; omega, fun _ => ⟨by simp only; omega, e3, fun _ => e2⟩, fun _ h => absurd rfl h, fun _ => ⟨e2, e3⟩⟩
    · split at h
      · rename_i k2
        cases h
        refine ⟨hk.1, by simp only; omega, fun h0 => ?_, fun h => absurd rfl h, fun h => by cases h⟩
        simp only at h0 ⊢
        split at h0
        · cases h0
        · have := num_in s q hq k2 h0
          omega
      · split at h
        · rename_i k4
          have := sign_in s pat q hq k4.1
          have k5 := k4.2
          cases h
          refine ⟨hk.1, by simp only; omega, fun _ => ⟨by simp only; omega, by simp only; omega, fun _ => by simp only; omega⟩, fun _ _ => rfl, fun _ => ⟨by simp only; omega, by simp only; omega⟩⟩
        · cases h
  · cases h
    exact ⟨by unfold psEnd; simp only; omega, Nat.le_refl _, fun _ => ⟨Nat.le_refl _, Nat.le_refl _, fun h => absurd rfl h⟩, fun _ _ => rfl, fun h => by cases h⟩
end Go.Proofs.YtjmccobblpcbhaaDoor

set_option linter.unusedSimpArgs false
set_option linter.unusedVariables false
namespace Go.Proofs.YtjmccobblpcbhaaDoor
open Go.Lib

structure StOk (s : ByteArray) (st : Ps) : Prop where
  tk : TkAt s 0 st.now
  few : st.nodes.length ≤ st.now.from_

/-- From st on to st'. -/
structure Gr (st st' : Ps) : Prop where
  le : st.now.from_ ≤ st'.now.from_
  grow : st'.nodes.length + st.now.from_ ≤ st.nodes.length + st'.now.from_
  pre : ∃ t, st'.nodes = st.nodes ++ t
  brk : st'.brk = st.brk

theorem Gr.len {st st' : Ps} (h : Gr st st') : st.nodes.length ≤ st'.nodes.length := by
  obtain ⟨t, e⟩ := h.pre; rw [e]; simp
theorem Gr.trans {a b c : Ps} (h : Gr a b) (k : Gr b c) : Gr a c := by
  obtain ⟨t, e⟩ := h.pre
  obtain ⟨u, e'⟩ := k.pre
  have := h.le
  have := k.le
  have := h.grow
  have := k.grow
  exact ⟨by omega, by omega, ⟨t ++ u, by rw [e', e, List.append_assoc]⟩, k.brk.trans h.brk⟩
theorem Gr.refl (a : Ps) : Gr a a := ⟨Nat.le_refl _, Nat.le_refl _, ⟨[], by simp⟩, rfl⟩

/-- One token further. -/
structure Stp (st st' : Ps) : Prop where
  nodes : st'.nodes = st.nodes
  brk : st'.brk = st.brk
  lt : st.now.from_ < st'.now.from_

theorem psNx_ok {s : ByteArray} {pat : Bool} {most : Nat} {st st' : Ps} (h : StOk s st) (he : st.now.err = 0) (hw : st.now.what ≠ 0) (hn : psNx s pat most st = .ok st') : StOk s st' ∧ Stp st st' := by
  obtain ⟨t, h1, h2⟩ := Pr.bind_ok hn
  cases h2
  have hg := h.tk.good he
  have ht := psNext_at hg.2.1 h1
  have hlt := hg.2.2 hw
  have := ht.low
  have := h.few
  exact ⟨⟨⟨Nat.zero_le _, ht.in_, ht.good, ht.sign, ht.name⟩, by show st.nodes.length ≤ t.from_; omega⟩, ⟨rfl, rfl, by show st.now.from_ < t.from_; omega⟩⟩
theorem psEx_ok {s : ByteArray} {pat : Bool} {c : Int} {st st' : Ps} (h : StOk s st) (hw : c ≠ 0) (hn : psEx s pat c st = .ok st') : StOk s st' ∧ Stp st st' ∧ st.now.what = c ∧ st.now.err = 0 := by
  unfold psEx at hn
  split at hn
  · rename_i h1
    split at hn
    · rename_i h2
      obtain ⟨k1, k2⟩ := psNx_ok h h2 (by rw [h1]; exact hw) hn
      exact ⟨k1, k2, h1, h2⟩
    · cases hn
  · cases hn
theorem psAdd_ok {s : ByteArray} {st st1 : Ps} (x : Nd) (h : StOk s st1) (hs : Stp st st1) (hf : st.nodes.length ≤ st.now.from_) : StOk s (psAdd x st1).2 ∧ Gr st (psAdd x st1).2 ∧ (psAdd x st1).1 < (psAdd x st1).2.nodes.length := by
  have := hs.lt
  have e : st1.nodes.length = st.nodes.length := by rw [hs.nodes]
  refine ⟨⟨h.tk, ?_⟩, ⟨?_, ?_, ⟨[x], by show st1.nodes ++ [x] = _; rw [hs.nodes]⟩, hs.brk⟩, ?_⟩
  · show (st1.nodes ++ [x]).length ≤ st1.now.from_; simp; omega
  · show st.now.from_ ≤ st1.now.from_; omega
  · show (st1.nodes ++ [x]).length + _ ≤ _ + st1.now.from_; simp; omega
  · show st1.nodes.length < (st1.nodes ++ [x]).length; simp
/-- A node behind what was made since st, of which one token made none. -/
theorem psJoin_ok {s : ByteArray} {st st1 st2 : Ps} (x : Nd) (hs : Stp st st1) (hg : Gr st1 st2) (h : StOk s st2) (hf : st.nodes.length ≤ st.now.from_) : StOk s (psAdd x st2).2 ∧ Gr st (psAdd x st2).2 ∧ (psAdd x st2).1 < (psAdd x st2).2.nodes.length := by
  have := hs.lt
  have e : st1.nodes.length = st.nodes.length := by rw [hs.nodes]
  have := hg.le
  have := hg.grow
  have := h.few
  obtain ⟨t, ht⟩ := hg.pre
  refine ⟨⟨h.tk, ?_⟩, ⟨?_, ?_, ⟨t ++ [x], by show st2.nodes ++ [x] = _; rw [ht, hs.nodes, List.append_assoc]⟩, hg.brk.trans hs.brk⟩, ?_⟩
  · show (st2.nodes ++ [x]).length ≤ st2.now.from_; simp; omega
  · show st.now.from_ ≤ st2.now.from_; omega
  · show (st2.nodes ++ [x]).length + _ ≤ _ + st2.now.from_; simp; omega
  · show st2.nodes.length < (st2.nodes ++ [x]).length; simp

def Rl.ok (st : Ps) : Rl → Prop
  | .loop _ a => a < st.nodes.length
  | _ => True
def Rl.more : Rl → Nat
  | .loop _ _ => 0
  | _ => 1

/-- What a rule leaves. -/
structure RunOk (s : ByteArray) (st : Ps) (m : Nat) (r : Nat × Ps) : Prop where
  ok : StOk s r.2
  gr : Gr st r.2
  lt : r.1 < r.2.nodes.length
  more : st.now.from_ + m ≤ r.2.now.from_

theorem Stp.gr {a b : Ps} (h : Stp a b) : Gr a b := ⟨Nat.le_of_lt h.lt, by have := h.lt; rw [h.nodes]; omega, ⟨[], by rw [h.nodes]; simp⟩, h.brk⟩
theorem op_sign {c : Int} {lv : Nat} (h : (psOp c).2 = lv) (hl : 0 < lv) : c ≠ 0 ∧ c ≠ 48 ∧ c ≠ 97 := by
  refine ⟨?_, ?_, ?_⟩ <;> (intro e; subst e; simp [psOp] at h; omega)

theorem lit_ok {s : ByteArray} {pat : Bool} {v : Int} {st : Ps} {r : Nat × Ps} (h : StOk s st) (hr : psLit s pat v st = .ok r) : RunOk s st 1 r := by
  obtain ⟨st1, h1, h2⟩ := Pr.bind_ok hr
  cases h2
  obtain ⟨k1, k2, _⟩ := psEx_ok h (by decide) h1
  obtain ⟨a, b, c⟩ := psAdd_ok ⟨1, v, ⟨#[]⟩, []⟩ k1 k2 h.few
  exact ⟨a, b, c, k2.lt⟩
theorem named_ok {s : ByteArray} {pat : Bool} {op : Int} {st : Ps} {r : Nat × Ps} (h : StOk s st) (hr : psNamed s pat op st = .ok r) : RunOk s st 1 r := by
  obtain ⟨st1, h1, h2⟩ := Pr.bind_ok hr
  cases h2
  obtain ⟨k1, k2, _⟩ := psEx_ok h (by decide) h1
  obtain ⟨a, b, c⟩ := psAdd_ok ⟨op, 0, s.extract st.now.from_ st.now.to, []⟩ k1 k2 h.few
  exact ⟨a, b, c, k2.lt⟩
theorem RunOk.behind {s : ByteArray} {st st1 : Ps} {m : Nat} {r : Nat × Ps} (h : RunOk s st1 m r) (hs : Stp st st1) : RunOk s st 1 r :=
  ⟨h.ok, hs.gr.trans h.gr, h.lt, by have := hs.lt; have := h.more; omega⟩

theorem psRun_ok (s : ByteArray) (pat : Bool) : ∀ (f : Nat) (q : Rl) (st : Ps) (r : Nat × Ps), StOk s st → q.ok st → (∀ lv, (q = .pair lv ∨ ∃ a, q = .loop lv a) → 0 < lv) → psRun s pat f q st = .ok r → RunOk s st q.more r := by
  intro f
  induction f with
  | zero => intro q st r _ _ _ h; cases h
  | succ f ih =>
    intro q st r hst hq hlv h
    cases q with
    | cond =>
      obtain ⟨c, h1, h2⟩ := Pr.bind_ok h
      have k1 := ih (.pair 1) _ _ hst trivial (by rintro lv (e | ⟨a, e⟩) <;> cases e; omega) h1
      split at h2
      · rename_i hw
        obtain ⟨st2, h3, h2⟩ := Pr.bind_ok h2
        obtain ⟨a, h4, h2⟩ := Pr.bind_ok h2
        obtain ⟨st4, h5, h2⟩ := Pr.bind_ok h2
        obtain ⟨b, h6, h2⟩ := Pr.bind_ok h2
        cases h2
        obtain ⟨o2, s2⟩ := psNx_ok k1.ok (k1.ok.tk.sign (by rw [hw]; decide) (by rw [hw]; decide)) (by rw [hw]; decide) h3
        have k4 := ih .cond _ _ o2 trivial (by rintro lv (e | ⟨a, e⟩) <;> cases e) h4
        obtain ⟨o4, s4, _⟩ := psEx_ok k4.ok (by decide) h5
        have k6 := ih .cond _ _ o4 trivial (by rintro lv (e | ⟨a, e⟩) <;> cases e) h6
        obtain ⟨x1, x2, x3⟩ := psJoin_ok ⟨17, 0, ⟨#[]⟩, [c.1, a.1, b.1].map Int.ofNat⟩ s2 (k4.gr.trans (s4.gr.trans k6.gr)) k6.ok k1.ok.few
        have := x2.le
        have := k1.more
        exact ⟨x1, k1.gr.trans x2, x3, by simp only [Rl.more] at this ⊢; unfold psJoin; omega⟩
      · cases h2; exact k1
    | pair lv =>
      simp only [psRun] at h
      split at h
      · exact ih .un _ _ hst trivial (by rintro lv (e | ⟨a, e⟩) <;> cases e) h
      · obtain ⟨a, h1, h2⟩ := Pr.bind_ok h
        have k1 := ih (.pair (lv + 1)) _ _ hst trivial (by rintro l2 (e | ⟨a, e⟩) <;> cases e; omega) h1
        have k2 := ih (.loop lv a.1) _ _ k1.ok k1.lt (by rintro l2 (e | ⟨b, e⟩) <;> cases e; exact hlv lv (.inl rfl)) h2
        have := k1.more
        have := k2.gr.le
        exact ⟨k2.ok, k1.gr.trans k2.gr, k2.lt, by simp only [Rl.more] at *; omega⟩
    | loop lv a =>
      have hl := hlv lv (.inr ⟨a, rfl⟩)
      simp only [psRun] at h
      split at h
      · rename_i hop
        obtain ⟨w0, w1, w2⟩ := op_sign hop hl
        obtain ⟨st1, h1, h⟩ := Pr.bind_ok h
        obtain ⟨b, h2, h⟩ := Pr.bind_ok h
        obtain ⟨o1, s1⟩ := psNx_ok hst (hst.tk.sign w1 w2) w0 h1
        have k2 := ih (.pair (lv + 1)) _ _ o1 trivial (by rintro l2 (e | ⟨a, e⟩) <;> cases e; omega) h2
        obtain ⟨x1, x2, x3⟩ := psJoin_ok ⟨(psOp st.now.what).1, 0, ⟨#[]⟩, [a, b.1].map Int.ofNat⟩ s1 k2.gr k2.ok hst.few
        split at h
        · cases h
          exact ⟨x1, x2, x3, x2.le⟩
        · have k3 := ih (.loop lv _) _ _ x1 x3 (by rintro l2 (e | ⟨b, e⟩) <;> cases e; exact hl) h
          exact ⟨k3.ok, x2.trans k3.gr, k3.lt, (x2.trans k3.gr).le⟩
      · cases h
        exact ⟨hst, Gr.refl _, hq, by simp [Rl.more]⟩
    | un =>
      simp only [psRun] at h
      split at h
      · rename_i hw
        have he := hst.tk.sign (by rw [hw]; decide) (by rw [hw]; decide)
        split at h
        · obtain ⟨st1, h1, h⟩ := Pr.bind_ok h
          obtain ⟨x, h2, h⟩ := Pr.bind_ok h
          cases h
          obtain ⟨o1, s1⟩ := psNx_ok hst he (by rw [hw]; decide) h1
          have k2 := ih .un _ _ o1 trivial (by rintro lv (e | ⟨a, e⟩) <;> cases e) h2
          obtain ⟨x1, x2, x3⟩ := psJoin_ok ⟨3, 0, ⟨#[]⟩, [x.1].map Int.ofNat⟩ s1 k2.gr k2.ok hst.few
          exact ⟨x1, x2, x3, by have := s1.lt; have := k2.gr.le; simp only [Rl.more]; unfold psJoin psAdd; simp only; omega⟩
        · obtain ⟨st1, h1, h⟩ := Pr.bind_ok h
          obtain ⟨o1, s1⟩ := psNx_ok hst he (by rw [hw]; decide) h1
          exact (lit_ok o1 h).behind s1
      · split at h
        · rename_i hw
          have he := hst.tk.sign (by rw [hw]; decide) (by rw [hw]; decide)
          obtain ⟨st1, h1, h⟩ := Pr.bind_ok h
          obtain ⟨x, h2, h⟩ := Pr.bind_ok h
          cases h
          obtain ⟨o1, s1⟩ := psNx_ok hst he (by rw [hw]; decide) h1
          have k2 := ih .un _ _ o1 trivial (by rintro lv (e | ⟨a, e⟩) <;> cases e) h2
          obtain ⟨x1, x2, x3⟩ := psJoin_ok ⟨4, 0, ⟨#[]⟩, [x.1].map Int.ofNat⟩ s1 k2.gr k2.ok hst.few
          exact ⟨x1, x2, x3, by have := s1.lt; have := k2.gr.le; simp only [Rl.more]; unfold psJoin psAdd; simp only; omega⟩
        · exact ih .atom _ _ hst trivial (by rintro lv (e | ⟨a, e⟩) <;> cases e) h
    | atom =>
      simp only [psRun] at h
      split at h
      · exact lit_ok hst h
      · split at h
        · exact named_ok hst h
        · split at h
          · rename_i hw
            obtain ⟨st1, h1, h⟩ := Pr.bind_ok h
            obtain ⟨o1, s1⟩ := psNx_ok hst (hst.tk.sign (by rw [hw]; decide) (by rw [hw]; decide)) (by rw [hw]; decide) h1
            exact (named_ok o1 h).behind s1
          · split at h
            · rename_i hw
              split at h
              · cases h
              · obtain ⟨st1, h1, h⟩ := Pr.bind_ok h
                obtain ⟨e, h2, h⟩ := Pr.bind_ok h
                obtain ⟨st3, h3, h⟩ := Pr.bind_ok h
                cases h
                have hst' : StOk s { st with brk := st.brk + 1 } := ⟨hst.tk, hst.few⟩
                obtain ⟨o1, s1⟩ := psNx_ok hst' (hst.tk.sign (by rw [hw]; decide) (by rw [hw]; decide)) (by show st.now.what ≠ 0; rw [hw]; decide) h1
                have k2 := ih .cond _ _ o1 trivial (by rintro lv (e | ⟨a, e⟩) <;> cases e) h2
                obtain ⟨o3, s3, _⟩ := psEx_ok k2.ok (by decide) h3
                have g := s1.gr.trans (k2.gr.trans s3.gr)
                have hb := g.brk
                have hl := s1.lt
                have hm := k2.gr.le
                have ht := s3.lt
                refine ⟨⟨o3.tk, o3.few⟩, ⟨g.le, g.grow, g.pre, ?_⟩, ?_, ?_⟩
                · show st3.brk - 1 = st.brk
                  have : st3.brk = st.brk + 1 := hb
                  omega
                · show e.1 < st3.nodes.length
                  rw [s3.nodes]; exact k2.lt
                · show st.now.from_ + 1 ≤ st3.now.from_
                  have : st.now.from_ < st1.now.from_ := hl
                  omega
            · cases h
end Go.Proofs.YtjmccobblpcbhaaDoor

set_option linter.unusedSimpArgs false
set_option linter.unusedVariables false
namespace Go.Proofs.YtjmccobblpcbhaaDoor
open Go.Lib

theorem Pr.bind_in {α β : Type} {x : Pr α} {f : α → Pr β} (h : x ≠ .out) (k : ∀ a, x = .ok a → f a ≠ .out) : x.bind f ≠ .out := by
  cases x with
  | ok a => exact k a rfl
  | bad p e => intro h; cases h
  | out => exact absurd rfl h
theorem psNx_in (s : ByteArray) (pat : Bool) (most : Nat) (st : Ps) : psNx s pat most st ≠ .out := by
  refine Pr.bind_in ?_ (fun _ _ => by intro h; cases h)
  unfold psNext psFrom
  split
  · unfold psAt
    repeat' split
    all_goals (intro h; cases h)
  · intro h; cases h
theorem psEx_in (s : ByteArray) (pat : Bool) (c : Int) (st : Ps) : psEx s pat c st ≠ .out := by
  unfold psEx
  split
  · split
    · exact psNx_in _ _ _ _
    · intro h; cases h
  · intro h; cases h
theorem psLit_in (s : ByteArray) (pat : Bool) (v : Int) (st : Ps) : psLit s pat v st ≠ .out := Pr.bind_in (psEx_in _ _ _ _) (fun _ _ => by intro h; cases h)
theorem psNamed_in (s : ByteArray) (pat : Bool) (v : Int) (st : Ps) : psNamed s pat v st ≠ .out := Pr.bind_in (psEx_in _ _ _ _) (fun _ _ => by intro h; cases h)

def Rl.w : Rl → Nat
  | .cond => 12
  | .pair lv => 12 - lv
  | .loop _ _ => 1
  | .un => 2
  | .atom => 1
def Rl.lv : Rl → Prop
  | .pair lv => 0 < lv ∧ lv ≤ 9
  | .loop lv _ => 0 < lv ∧ lv ≤ 8
  | _ => True
theorem Rl.lv_pos {q : Rl} (h : q.lv) : ∀ lv, (q = .pair lv ∨ ∃ a, q = .loop lv a) → 0 < lv := by
  rintro lv (e | ⟨a, e⟩)
  · subst e; exact h.1
  · subst e; exact h.1

theorem psRun_in (s : ByteArray) (pat : Bool) : ∀ (f : Nat) (q : Rl) (st : Ps), StOk s st → q.ok st → q.lv → 13 * (s.size - st.now.from_) + q.w ≤ f → psRun s pat f q st ≠ .out := by
  intro f
  induction f with
  | zero =>
    intro q st _ _ hlv h
    exfalso
    cases q with
    | pair lv => have := hlv.2; simp only [Rl.w] at h; omega
    | _ => simp only [Rl.w] at h; omega
  | succ f ih =>
    intro q st hst hq hlv hf
    cases q with
    | cond =>
      simp only [Rl.w] at hf
      refine Pr.bind_in (ih (.pair 1) st hst trivial ⟨by omega, by omega⟩ (by simp only [Rl.w]; omega)) fun c hc => ?_
      have k1 := psRun_ok s pat f (.pair 1) st c hst trivial (Rl.lv_pos ⟨by omega, by omega⟩) hc
      split
      · rename_i hw
        refine Pr.bind_in (psNx_in _ _ _ _) fun st2 h2 => ?_
        obtain ⟨o2, s2⟩ := psNx_ok k1.ok (k1.ok.tk.sign (by rw [hw]; decide) (by rw [hw]; decide)) (by rw [hw]; decide) h2
        have l2 := s2.lt
        have i2 := o2.tk.in_
        have m1 := k1.gr.le
        refine Pr.bind_in (ih .cond st2 o2 trivial trivial (by simp only [Rl.w]; omega)) fun a ha => ?_
        have k4 := psRun_ok s pat f .cond st2 a o2 trivial (Rl.lv_pos trivial) ha
        refine Pr.bind_in (psEx_in _ _ _ _) fun st4 h4 => ?_
        obtain ⟨o4, s4, _⟩ := psEx_ok k4.ok (by decide) h4
        have m4 := k4.gr.le
        have l4 := s4.lt
        refine Pr.bind_in (ih .cond st4 o4 trivial trivial (by simp only [Rl.w]; omega)) fun b hb => ?_
        intro h; cases h
      · intro h; cases h
    | pair lv =>
      simp only [Rl.w] at hf
      obtain ⟨hl1, hl2⟩ := hlv
      simp only [psRun]
      split
      · exact ih .un st hst trivial trivial (by simp only [Rl.w]; omega)
      · refine Pr.bind_in (ih (.pair (lv + 1)) st hst trivial ⟨by omega, by omega⟩ (by simp only [Rl.w]; omega)) fun a ha => ?_
        have k1 := psRun_ok s pat f (.pair (lv + 1)) st a hst trivial (Rl.lv_pos ⟨by omega, by omega⟩) ha
        have := k1.gr.le
        exact ih (.loop lv a.1) a.2 k1.ok k1.lt ⟨hl1, by omega⟩ (by simp only [Rl.w]; omega)
    | loop lv a =>
      simp only [Rl.w] at hf
      obtain ⟨hl1, hl2⟩ := hlv
      simp only [psRun]
      split
      · rename_i hop
        obtain ⟨w0, w1, w2⟩ := op_sign hop hl1
        refine Pr.bind_in (psNx_in _ _ _ _) fun st1 h1 => ?_
        obtain ⟨o1, s1⟩ := psNx_ok hst (hst.tk.sign w1 w2) w0 h1
        have l1 := s1.lt
        have i1 := o1.tk.in_
        refine Pr.bind_in (ih (.pair (lv + 1)) st1 o1 trivial ⟨by omega, by omega⟩ (by simp only [Rl.w]; omega)) fun b hb => ?_
        have k2 := psRun_ok s pat f (.pair (lv + 1)) st1 b o1 trivial (Rl.lv_pos ⟨by omega, by omega⟩) hb
        obtain ⟨x1, x2, x3⟩ := psJoin_ok ⟨(psOp st.now.what).1, 0, ⟨#[]⟩, [a, b.1].map Int.ofNat⟩ s1 k2.gr k2.ok hst.few
        have m2 := k2.gr.le
        split
        · intro h; cases h
        · refine ih (.loop lv _) _ x1 x3 ⟨hl1, hl2⟩ ?_
          show 13 * (s.size - b.2.now.from_) + 1 ≤ f
          omega
      · intro h; cases h
    | un =>
      simp only [Rl.w] at hf
      simp only [psRun]
      split
      · rename_i hw
        have he := hst.tk.sign (by rw [hw]; decide) (by rw [hw]; decide)
        split
        · refine Pr.bind_in (psNx_in _ _ _ _) fun st1 h1 => ?_
          obtain ⟨o1, s1⟩ := psNx_ok hst he (by rw [hw]; decide) h1
          have l1 := s1.lt
          have i1 := o1.tk.in_
          refine Pr.bind_in (ih .un st1 o1 trivial trivial (by simp only [Rl.w]; omega)) fun x hx => ?_
          intro h; cases h
        · exact Pr.bind_in (psNx_in _ _ _ _) fun st1 h1 => psLit_in _ _ _ _
      · split
        · rename_i hw
          have he := hst.tk.sign (by rw [hw]; decide) (by rw [hw]; decide)
          refine Pr.bind_in (psNx_in _ _ _ _) fun st1 h1 => ?_
          obtain ⟨o1, s1⟩ := psNx_ok hst he (by rw [hw]; decide) h1
          have l1 := s1.lt
          have i1 := o1.tk.in_
          refine Pr.bind_in (ih .un st1 o1 trivial trivial (by simp only [Rl.w]; omega)) fun x hx => ?_
          intro h; cases h
        · exact ih .atom st hst trivial trivial (by simp only [Rl.w]; omega)
    | atom =>
      simp only [Rl.w] at hf
      simp only [psRun]
      split
      · exact psLit_in _ _ _ _
      · split
        · exact psNamed_in _ _ _ _
        · split
          · exact Pr.bind_in (psNx_in _ _ _ _) fun st1 h1 => psNamed_in _ _ _ _
          · split
            · rename_i hw
              split
              · intro h; cases h
              · refine Pr.bind_in (psNx_in _ _ _ _) fun st1 h1 => ?_
                have hst' : StOk s { st with brk := st.brk + 1 } := ⟨hst.tk, hst.few⟩
                obtain ⟨o1, s1⟩ := psNx_ok hst' (hst.tk.sign (by rw [hw]; decide) (by rw [hw]; decide)) (by show st.now.what ≠ 0; rw [hw]; decide) h1
                have l1 : st.now.from_ < st1.now.from_ := s1.lt
                have i1 := o1.tk.in_
                refine Pr.bind_in (ih .cond st1 o1 trivial trivial (by simp only [Rl.w]; omega)) fun e he => ?_
                exact Pr.bind_in (psEx_in _ _ _ _) fun st3 h3 => by intro h; cases h
            · intro h; cases h
end Go.Proofs.YtjmccobblpcbhaaDoor
