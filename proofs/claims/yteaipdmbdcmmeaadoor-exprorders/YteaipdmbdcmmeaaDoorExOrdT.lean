/-
  Plain facts: the order of expressions is one, and tells the same from others.
-/
import Derived.Test.YteaipdmbdcmmeaaDoorExOrdP
import Derived.Test.YteaipdmbdcmmeaaDoorExDecPure
import Derived.Test.YteaipdmbdcmmeaaDoorBytePure
import Derived.Test.YteaipdmbdcmmeaaDoorRefNm
set_option linter.unusedSimpArgs false
set_option linter.unusedVariables false
namespace Go.Proofs.YteaipdmbdcmmeaaDoor
open Go.Lib

/-! ### names -/
theorem nmF_chk (s : ByteArray) : ∀ (f pos n : Nat), nmF s f pos n = true → (chkF s f pos).2 = 0
  | 0, pos, n, h => rfl
  | f + 1, pos, n, h => by
    by_cases hp : pos < s.size
    · rw [nmF_step s f pos n hp] at h
      unfold nmS at h
      split at h
      · simp at h
      · rename_i hk
        have ho : onB (Utf8.decode s pos).1 = true := by
          cases hq : onB (Utf8.decode s pos).1 with
          | true => rfl
          | false => simp [hq] at hk
        rw [chkF_good s f pos hp (good_of_on s pos ho)]
        exact nmF_chk s f _ _ h
    · rw [chkF_end s _ pos hp]
theorem name_chk (s : ByteArray) (h : nameB s = true) : (chk s).2 = 0 := nmF_chk s _ _ _ h
theorem empty_chk (s : ByteArray) (h : s.toList.isEmpty = true) : (chk s).2 = 0 := by
  rw [toList_data] at h
  have hz : s.size = 0 := by
    have : s.data.toList = [] := by simpa using h
    show s.data.size = 0
    rw [← Array.length_toList, this]; rfl
  unfold chk
  rw [chkF_end s _ 0 (by omega)]

theorem nmF_size (s : ByteArray) : ∀ (f pos n : Nat), s.size ≤ pos + f → nmF s f pos n = true → s.size ≤ pos + 4 * (16 - n)
  | 0, pos, n, hf, h => by omega
  | f + 1, pos, n, hf, h => by
    by_cases hp : pos < s.size
    · have hw := width_pos s pos hp
      have hw4 : (Utf8.decode s pos).2 ≤ 4 := by
        rw [decode_at s pos]; exact (decodeN_width _ _ _ _ _).2
      have hn : n < 16 := by
        by_cases hn : 16 ≤ n
        · exfalso
          rw [nmF_step s f pos n hp] at h
          unfold nmS at h
          split at h
          · simp at h
          · rw [nmF_long s f _ (n + 1) (by omega)] at h; simp at h
        · omega
      rw [nmF_step s f pos n hp] at h
      unfold nmS at h
      split at h
      · simp at h
      · have := nmF_size s f _ _ (by omega) h
        omega
    · omega
theorem name_size (s : ByteArray) (h : nameB s = true) : s.size ≤ 64 := by
  have := nmF_size s s.size 0 0 (by omega) h
  omega

theorem form_name {x : Nd} (h : formB x = true) : (chk x.name).2 = 0 ∧ x.name.size ≤ 64 := by
  unfold formB fitB at h
  simp only [Bool.and_eq_true] at h
  obtain ⟨_, h⟩ := h
  split at h
  · exact ⟨name_chk _ h, name_size _ h⟩
  · refine ⟨empty_chk _ h, ?_⟩
    rw [toList_data] at h
    have : x.name.data.toList = [] := by simpa using h
    show x.name.data.size ≤ 64
    rw [← Array.length_toList, this]; simp
theorem form_len {x y : Nd} (hx : formB x = true) (hy : formB y = true) (h : x.op = y.op) : x.kids.length = y.kids.length := by
  unfold formB fitB at hx hy
  simp only [Bool.and_eq_true, decide_eq_true_eq] at hx hy
  rw [h] at hx
  omega
theorem name_eq {a b : ByteArray} (ha : (chk a).2 = 0) (hb : (chk b).2 = 0) (h : ordI a b = 0) : a = b := by
  have := eq_good a b ha hb
  rw [h] at this
  simp only [decide_true, beq_iff_eq, toList_data] at this
  exact ByteArray.ext (Array.ext' this)

/-! ### one after another -/
theorem orL_cons (c : Int) (l : List Int) : orL (c :: l) = if c = 0 then orL l else c := rfl

/-- x is a against b, y b against c, z a against c. -/
def Tri (x y z : Int) : Prop := x ≤ 0 → y ≤ 0 → z ≤ 0 ∧ (z = 0 ↔ x = 0 ∧ y = 0)
theorem Tri.lex {c1 c2 c3 d1 d2 d3 : Int} (h : Tri c1 c2 c3) (h' : c1 = 0 → c2 = 0 → Tri d1 d2 d3) : Tri (if c1 = 0 then d1 else c1) (if c2 = 0 then d2 else c2) (if c3 = 0 then d3 else c3) := by
  intro hx hy
  by_cases e1 : c1 = 0
  · by_cases e2 : c2 = 0
    · have e3 : c3 = 0 := ((h (by omega) (by omega)).2).2 ⟨e1, e2⟩
      rw [if_pos e1] at *; rw [if_pos e2] at *; rw [if_pos e3] at *
      exact h' e1 e2 hx hy
    · rw [if_pos e1] at *; rw [if_neg e2] at *
      have := h (by omega) (by omega)
      have e3 : c3 ≠ 0 := fun e => e2 (this.2.1 e).2
      rw [if_neg e3]
      exact ⟨this.1, fun e => absurd e e3, fun e => absurd e.2 e2⟩
  · have hx' : c1 ≤ 0 := by rw [if_neg e1] at hx; exact hx
    have hy' : c2 ≤ 0 := by
      by_cases e2 : c2 = 0
      · omega
      · rw [if_neg e2] at hy; exact hy
    have := h hx' hy'
    have e3 : c3 ≠ 0 := fun e => e1 (this.2.1 e).1
    rw [if_neg e1, if_neg e3]
    exact ⟨this.1, fun e => absurd e e3, fun e => absurd e.1 e1⟩
theorem tri_cmp (a b c : Int) : Tri (cmp3 a b) (cmp3 b c) (cmp3 a c) := by
  intro hx hy
  unfold cmp3 at *
  refine ⟨?_, ?_, ?_⟩ <;> (repeat' split at hx) <;> (repeat' split at hy) <;> (repeat' split) <;> omega
theorem tri_ord (a b c : ByteArray) : Tri (ordI a b) (ordI b c) (ordI a c) := by
  intro hx hy
  refine ⟨ord_trans a b c hx hy, fun hz => ?_, fun ⟨h1, h2⟩ => ?_⟩
  · have hn := ord_neg c a
    have h1 := ord_trans b c a hy (by omega)
    have h2 := ord_trans c a b (by omega) hx
    have h3 := ord_neg a b
    have h4 := ord_neg b c
    omega
  · unfold ordI at *
    rw [cmpL_zero _ _ h1, cmpL_zero _ _ h2]; exact cmpL_self _
theorem tri_head (m n o : Int) (x y z : Nd) : Tri (headC m n x y) (headC n o y z) (headC m o x z) := by
  unfold headC
  simp only [orL_cons]
  refine (tri_cmp _ _ _).lex fun _ _ => (tri_cmp _ _ _).lex fun _ _ => (tri_cmp _ _ _).lex fun _ _ => (tri_ord _ _ _).lex fun _ _ => ?_
  intro _ _
  simp [orL]

theorem head_zero {m n : Int} {x y : Nd} (h : headC m n x y = 0) : m = n ∧ x.op = y.op ∧ x.n = y.n ∧ ordI x.name y.name = 0 := by
  unfold headC at h
  simp only [orL_cons] at h
  have h1 : cmp3 m n = 0 := by
    by_cases e : cmp3 m n = 0
    · exact e
    · rw [if_neg e] at h; exact h
  rw [if_pos h1] at h
  have h2 : cmp3 x.op y.op = 0 := by
    by_cases e : cmp3 x.op y.op = 0
    · exact e
    · rw [if_neg e] at h; exact h
  rw [if_pos h2] at h
  have h3 : cmp3 x.n y.n = 0 := by
    by_cases e : cmp3 x.n y.n = 0
    · exact e
    · rw [if_neg e] at h; exact h
  rw [if_pos h3] at h
  have h4 : ordI x.name y.name = 0 := by
    by_cases e : ordI x.name y.name = 0
    · exact e
    · rw [if_neg e] at h; exact h
  exact ⟨(cmp3_zero _ _).1 h1, (cmp3_zero _ _).1 h2, (cmp3_zero _ _).1 h3, h4⟩
theorem head_self (m : Int) (x : Nd) : headC m m x x = 0 := by
  unfold headC; simp [orL, cmp3_self, ord_self]
theorem lex_neg {c d c' d' : Int} (h : c = -c') (h' : d = -d') : (if c = 0 then d else c) = -(if c' = 0 then d' else c') := by
  by_cases e : c = 0
  · rw [if_pos e, if_pos (by omega), h']
  · rw [if_neg e, if_neg (by omega), h]
theorem head_neg (m n : Int) (x y : Nd) : headC m n x y = -headC n m y x := by
  unfold headC
  simp only [orL_cons]
  exact lex_neg (cmp3_neg _ _) (lex_neg (cmp3_neg _ _) (lex_neg (cmp3_neg _ _) (lex_neg (ord_neg _ _) rfl)))

/-! ### kids -/
theorem ordK_cons (F : Int → Int → Int) (c k m : Int) (ks ms : List Int) : ordK F c (k :: ks) (m :: ms) = if c = 0 then ordK F (F k m) ks ms else c := rfl
theorem ordK_nil2 (F : Int → Int → Int) (c : Int) (ks : List Int) : ordK F c ks [] = c := by
  cases ks <;> simp [ordK]
theorem ordK_neg {F G : Int → Int → Int} : ∀ (ks ms : List Int) (c c' : Int), (∀ k ∈ ks, ∀ m ∈ ms, F k m = -G m k) → c = -c' → ordK F c ks ms = -ordK G c' ms ks
  | [], ms, c, c', _, h => by rw [ordK_nil, ordK_nil2, h]
  | k :: ks, [], c, c', _, h => by rw [ordK_nil, ordK_nil2, h]
  | k :: ks, m :: ms, c, c', hF, h => by
    rw [ordK_cons, ordK_cons]
    exact lex_neg h (ordK_neg ks ms _ _ (fun k' hk m' hm => hF k' (by simp [hk]) m' (by simp [hm])) (hF k (by simp) m (by simp)))
theorem ordK_self {F : Int → Int → Int} : ∀ (ks : List Int), (∀ k ∈ ks, F k k = 0) → ordK F 0 ks ks = 0
  | [], _ => by rw [ordK_nil]
  | k :: ks, h => by
    rw [ordK_zero, h k (by simp)]
    exact ordK_self ks fun k' hk => h k' (by simp [hk])
theorem ordK_same {F : Int → Int → Int} {α : Type} {p q : Int → α} : ∀ (ks ms : List Int) (c : Int), ks.length = ms.length → (∀ k ∈ ks, ∀ m ∈ ms, F k m = 0 → p k = q m) → ordK F c ks ms = 0 → c = 0 ∧ ks.map p = ms.map q
  | [], ms, c, hl, _, h => by
    rw [ordK_nil] at h
    have : ms = [] := by cases ms with | nil => rfl | cons _ _ => simp at hl
    rw [this]; exact ⟨h, rfl⟩
  | k :: ks, [], c, hl, _, h => by simp at hl
  | k :: ks, m :: ms, c, hl, hF, h => by
    rw [ordK_cons] at h
    by_cases e : c = 0
    · rw [if_pos e] at h
      have := ordK_same (p := p) (q := q) ks ms _ (by simpa using hl) (fun k' hk m' hm => hF k' (by simp [hk]) m' (by simp [hm])) h
      refine ⟨e, ?_⟩
      rw [List.map_cons, List.map_cons, this.2, hF k (by simp) m (by simp) this.1]
    · rw [if_neg e] at h; exact absurd h e
theorem ordK_tri {F G H : Int → Int → Int} : ∀ (ks ms ns : List Int) (c1 c2 c3 : Int), (c1 = 0 → c2 = 0 → ks.length = ms.length ∧ ms.length = ns.length) → (∀ k ∈ ks, ∀ m ∈ ms, ∀ n ∈ ns, Tri (F k m) (G m n) (H k n)) → Tri c1 c2 c3 → Tri (ordK F c1 ks ms) (ordK G c2 ms ns) (ordK H c3 ks ns) := by
  intro ks
  induction ks with
  | nil =>
    intro ms ns c1 c2 c3 hl hF h
    intro hx hy
    rw [ordK_nil] at *
    rw [ordK_nil]
    by_cases e1 : c1 = 0
    · by_cases e2 : c2 = 0
      · have := hl e1 e2
        have hm : ms = [] := by cases ms with | nil => rfl | cons _ _ => simp at this
        subst hm
        rw [ordK_nil] at *
        exact h hx hy
      · rw [ordK_nz G e2] at *; exact h hx hy
    · by_cases e2 : c2 = 0
      · have := h hx (by omega)
        have e3 : c3 ≠ 0 := fun e => e1 (this.2.1 e).1
        exact ⟨this.1, fun e => absurd e e3, fun e => absurd e.1 e1⟩
      · rw [ordK_nz G e2] at *; exact h hx hy
  | cons k ks ih =>
    intro ms ns c1 c2 c3 hl hF h
    by_cases e : c1 = 0 ∧ c2 = 0
    · obtain ⟨l1, l2⟩ := hl e.1 e.2
      cases ms with
      | nil => simp at l1
      | cons m ms =>
        cases ns with
        | nil => simp at l2
        | cons n ns =>
          rw [ordK_cons, ordK_cons, ordK_cons]
          refine h.lex fun _ _ => ih ms ns _ _ _ (fun _ _ => ⟨by simpa using l1, by simpa using l2⟩) (fun k' hk m' hm n' hn => hF k' (by simp [hk]) m' (by simp [hm]) n' (by simp [hn])) (hF k (by simp) m (by simp) n (by simp))
    · intro hx hy
      have hx' : c1 ≤ 0 := by
        by_cases e1 : c1 = 0
        · omega
        · rw [ordK_nz F e1] at hx; exact hx
      have hy' : c2 ≤ 0 := by
        by_cases e2 : c2 = 0
        · omega
        · rw [ordK_nz G e2] at hy; exact hy
      have := h hx' hy'
      have e3 : c3 ≠ 0 := fun e' => e (this.2.1 e')
      rw [ordK_nz H e3]
      refine ⟨this.1, fun e' => absurd e' e3, fun e' => ?_⟩
      exfalso
      by_cases e1 : c1 = 0
      · have e2 : c2 ≠ 0 := fun e2 => e ⟨e1, e2⟩
        rw [ordK_nz G e2] at e'; exact e2 e'.2
      · rw [ordK_nz F e1] at e'; exact e1 e'.1

/-! ### the whole -/
theorem ordF_succ (a : List Nd) (fa : List Nat) (b : List Nd) (fb : List Nat) (f i j : Nat) : ordF a fa b fb (f + 1) i j = ordK (fun p q => ordF a fa b fb f p.toNat q.toNat) (headC (szA fa i) (szA fb j) (a.getD i nd0) (b.getD j nd0)) (a.getD i nd0).kids (b.getD j nd0).kids := rfl

theorem kid_lt {l : List Nd} {fr : List Nat} (h : BegOk l fr) {i : Nat} (hi : i < l.length) {k : Int} (hk : k ∈ (l.getD i nd0).kids) : k.toNat < i ∧ k.toNat < l.length := by
  obtain ⟨c, h0, hc, rfl⟩ := (chain_inv (fr := fr) (P := fun c => c ≤ i) (fun c h0 hc => by have := h.low (c - 1); omega) _ _ _ (Nat.le_refl i) (h.at_ i hi).2).2 k (by simpa using hk)
  omega

theorem ordF_neg {a b : List Nd} {fa fb : List Nat} (ha : BegOk a fa) (hb : BegOk b fb) : ∀ (f g i j : Nat), i < f → j < g → i < a.length → j < b.length → ordF a fa b fb f i j = -ordF b fb a fa g j i := by
  intro f
  induction f with
  | zero => intro g i j h; omega
  | succ f ih =>
    intro g i j hf hg hi hj
    cases g with
    | zero => omega
    | succ g =>
      rw [ordF_succ, ordF_succ]
      refine ordK_neg _ _ _ _ (fun k hk m hm => ?_) (head_neg _ _ _ _)
      have h1 := kid_lt ha hi hk
      have h2 := kid_lt hb hj hm
      exact ih g _ _ (by omega) (by omega) h1.2 h2.2
theorem ordF_self {a : List Nd} {fa : List Nat} (ha : BegOk a fa) : ∀ (f i : Nat), i < f → i < a.length → ordF a fa a fa f i i = 0 := by
  intro f
  induction f with
  | zero => intro i h; omega
  | succ f ih =>
    intro i hf hi
    rw [ordF_succ, head_self]
    refine ordK_self _ fun k hk => ?_
    have h1 := kid_lt ha hi hk
    exact ih _ (by omega) h1.2
theorem ordF_same {a b : List Nd} {fa fb : List Nat} (ha : BegOk a fa) (hb : BegOk b fb) : ∀ (f i j : Nat), i < f → i < a.length → j < b.length → ordF a fa b fb f i j = 0 → partL a (fa.getD i 0) i = partL b (fb.getD j 0) j := by
  intro f
  induction f with
  | zero => intro i j h; omega
  | succ f ih =>
    intro i j hf hi hj h
    rw [ordF_succ] at h
    have fx := (ha.at_ i hi).1
    have fy := (hb.at_ j hj).1
    have hc : headC (szA fa i) (szA fb j) (a.getD i nd0) (b.getD j nd0) = 0 := by
      by_cases e : headC (szA fa i) (szA fb j) (a.getD i nd0) (b.getD j nd0) = 0
      · exact e
      · rw [ordK_nz _ e] at h; exact h
    obtain ⟨_, h1, h2, h3⟩ := head_zero hc
    have hn := name_eq (form_name fx).1 (form_name fy).1 h3
    have hk := ordK_same (p := kidPart a fa) (q := kidPart b fb) _ _ _ (form_len fx fy h1) (fun k hk m hm h0 => by
      have h1 := kid_lt ha hi hk
      have h2 := kid_lt hb hj hm
      exact ih _ _ (by omega) h1.2 h2.2 h0) h
    rw [part_join ha i hi, part_join hb j hj, h1, h2, hn, hk.2]
theorem ordF_tri {a b c : List Nd} {fa fb fc : List Nat} (ha : BegOk a fa) (hb : BegOk b fb) (hc : BegOk c fc) : ∀ (f g h i j k : Nat), i < f → j < g → i < h → i < a.length → j < b.length → k < c.length → Tri (ordF a fa b fb f i j) (ordF b fb c fc g j k) (ordF a fa c fc h i k) := by
  intro f
  induction f with
  | zero => intro g h i j k hf; omega
  | succ f ih =>
    intro g h i j k hf hg hh hi hj hk
    cases g with
    | zero => omega
    | succ g =>
      cases h with
      | zero => omega
      | succ h =>
        rw [ordF_succ, ordF_succ, ordF_succ]
        refine ordK_tri _ _ _ _ _ _ (fun e1 e2 => ?_) (fun k' hk' m' hm' n' hn' => ?_) (tri_head _ _ _ _ _ _)
        · exact ⟨form_len (ha.at_ i hi).1 (hb.at_ j hj).1 (head_zero e1).2.1, form_len (hb.at_ j hj).1 (hc.at_ k hk).1 (head_zero e2).2.1⟩
        · have h1 := kid_lt ha hi hk'
          have h2 := kid_lt hb hj hm'
          have h3 := kid_lt hc hk hn'
          exact ih g h _ _ _ (by omega) (by omega) (by omega) h1.2 h2.2 h3.2

/-- Two whole expressions. -/
def ordW (a : List Nd) (fa : List Nat) (b : List Nd) (fb : List Nat) : Int := ordF a fa b fb a.length (a.length - 1) (b.length - 1)
theorem ordW_neg {a b : List Nd} {fa fb : List Nat} (ha : begL a = some fa) (hb : begL b = some fb) : ordW a fa b fb = -ordW b fb a fa := by
  obtain ⟨a0, _, ra, _⟩ := begL_some ha
  obtain ⟨b0, _, rb, _⟩ := begL_some hb
  exact ordF_neg (begOk_of ra) (begOk_of rb) _ _ _ _ (by omega) (by omega) (by omega) (by omega)
theorem ordW_tri {a b c : List Nd} {fa fb fc : List Nat} (ha : begL a = some fa) (hb : begL b = some fb) (hc : begL c = some fc) : Tri (ordW a fa b fb) (ordW b fb c fc) (ordW a fa c fc) := by
  obtain ⟨a0, _, ra, _⟩ := begL_some ha
  obtain ⟨b0, _, rb, _⟩ := begL_some hb
  obtain ⟨c0, _, rc, _⟩ := begL_some hc
  exact ordF_tri (begOk_of ra) (begOk_of rb) (begOk_of rc) _ _ _ _ _ _ (by omega) (by omega) (by omega) (by omega) (by omega) (by omega)
theorem ordW_zero {a b : List Nd} {fa fb : List Nat} (ha : begL a = some fa) (hb : begL b = some fb) : ordW a fa b fb = 0 ↔ a = b := by
  obtain ⟨a0, _, ra, ta⟩ := begL_some ha
  obtain ⟨b0, _, rb, tb⟩ := begL_some hb
  constructor
  · intro h
    have := ordF_same (begOk_of ra) (begOk_of rb) _ _ _ (by omega) (by omega) (by omega) h
    rw [ta, tb] at this
    unfold partL at this
    rw [show a.length - 1 + 1 - 0 = a.length from by omega, show b.length - 1 + 1 - 0 = b.length from by omega] at this
    simpa [map_mvN_zero] using this
  · intro h
    subst h
    rw [ha] at hb
    obtain rfl := Option.some.inj hb
    exact ordF_self (begOk_of ra) _ _ (by omega) (by omega)
theorem ordW_small {a b : List Nd} {fa fb : List Nat} (ha : begL a = some fa) (hb : begL b = some fb) (h : a.length < b.length) : ordW a fa b fb = -1 := by
  obtain ⟨a0, _, ra, ta⟩ := begL_some ha
  obtain ⟨b0, _, rb, tb⟩ := begL_some hb
  unfold ordW
  obtain ⟨n, hn⟩ : ∃ n, a.length = n + 1 := ⟨a.length - 1, by omega⟩
  have e : szA fa (a.length - 1) < szA fb (b.length - 1) := by unfold szA; rw [ta, tb]; omega
  rw [show ordF a fa b fb a.length (a.length - 1) (b.length - 1) = ordF a fa b fb (n + 1) (a.length - 1) (b.length - 1) from by rw [hn], ordF_succ, headC_lt _ _ e, ordK_nz _ (by decide)]
end Go.Proofs.YteaipdmbdcmmeaaDoor
