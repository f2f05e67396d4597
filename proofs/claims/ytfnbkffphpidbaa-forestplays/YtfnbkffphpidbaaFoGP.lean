/-
  Groups, plainly: they part the members; a joint makes of two groups one.
-/
import Derived.Test.YtfnbkffphpidbaaFoG
set_option linter.unusedSimpArgs false
set_option linter.unusedVariables false
namespace Go.Proofs.Ytfnbkffphpidbaa
open Go.RowKit Go.Lib

/-- The group of a number; none, where it is no member's. -/
def gpL (m : List Mv) (a : Int) : List Nat := if hasB m a = true then grpL m a.toNat else []
def hasE (m : List Mv) (a : Int) : Int := if hasB m a = true then 0 else 2
def sameB (m : List Mv) (a b : Int) : Bool := hasB m a && hasB m b && decide ((mA m a.toNat).rt = (mA m b.toNat).rt)
def leastA (m : List Mv) (a : Int) : Int := if hasB m a = true then ((mA m (mA m a.toNat).rt).ls : Int) else 0

theorem fogroup {w : World} {p : Nat} {v : Value} {J : List (Nat × Nat)} {V : List Value} {m : List Mv} (h : Fo w p v J V m) (a : Int) :
    Calls Try.prog 15 #[.pointer (some ⟨p, 0, none⟩), .int .i64 a] w fun e w' => ∃ u, e = .returned (.tuple #[u, .int .i64 (hasE m a)]) ∧ OwnZ w' w.heap.size u (gpL m a) ∧ Below w.heap.size w w' := by
  unfold hasE gpL
  by_cases hh : hasB m a = true
  · rw [if_pos hh, if_pos hh]
    obtain ⟨x, rfl, hx⟩ := hasB_iff.1 hh
    exact fgroup_ok w p v J V m x h.fo h.inv hx
  · rw [if_neg hh, if_neg hh]
    refine (fgroup_bad w p v m a h.fo (by simpa using hh)).mono fun e w' ⟨h1, h2⟩ => ?_
    subst h2
    exact ⟨_, h1, World.ownsRow_nil _ _ _ _, Below.refl _ _⟩
theorem fosame {w : World} {p : Nat} {v : Value} {J : List (Nat × Nat)} {V : List Value} {m : List Mv} (h : Fo w p v J V m) (a b : Int) :
    Calls Try.prog 14 #[.pointer (some ⟨p, 0, none⟩), .int .i64 a, .int .i64 b] w fun e w' => e = .returned (.tuple #[.bool (sameB m a b), .int .i64 (joinE m a b)]) ∧ w' = w := by
  unfold sameB joinE
  by_cases hh : (hasB m a && hasB m b) = true
  · have hh' := hh
    rw [Bool.and_eq_true] at hh'
    obtain ⟨x, rfl, hx⟩ := hasB_iff.1 hh'.1
    obtain ⟨y, rfl, hy⟩ := hasB_iff.1 hh'.2
    rw [if_pos hh, hh, Bool.true_and]
    exact fsame_ok w p v m x y h.fo hx hy
  · have hh2 : (hasB m a && hasB m b) = false := by simpa using hh
    rw [if_neg hh, hh2, Bool.false_and]
    exact fsame_bad w p v m a b h.fo hh2
theorem foleast {w : World} {p : Nat} {v : Value} {J : List (Nat × Nat)} {V : List Value} {m : List Mv} (h : Fo w p v J V m) (a : Int) :
    Calls Try.prog 16 #[.pointer (some ⟨p, 0, none⟩), .int .i64 a] w fun e w' => e = .returned (.tuple #[.int .i64 (leastA m a), .int .i64 (hasE m a)]) ∧ ∃ n, w' = w.drewN n := by
  unfold hasE leastA
  by_cases hh : hasB m a = true
  · rw [if_pos hh, if_pos hh]
    obtain ⟨x, rfl, hx⟩ := hasB_iff.1 hh
    exact fleast_ok w p v m x h.fo hx (h.inv.rt x hx).1
  · rw [if_neg hh, if_neg hh]
    exact (fleast_bad w p v m a h.fo (by simpa using hh)).mono fun e w' ⟨h1, h2⟩ => ⟨h1, 0, by rw [h2]; rfl⟩
theorem below_drew (w : World) (n : Nat) : Below w.heap.size w (w.drewN n) := ⟨rfl, rfl, rfl, Nat.le_refl _, fun _ _ => rfl⟩

/-- The least one is the first. -/
theorem FoI.first {J : List (Nat × Nat)} {V : List Value} {m : List Mv} (h : FoI J V m) {a : Nat} (ha : a < m.length) : 0 < (grpL m a).length ∧ (grpL m a).getD 0 0 = (mA m (mA m a).rt).ls := by
  obtain ⟨l1, l2, l3⟩ := h.least a ha
  have hm : (mA m (mA m a).rt).ls ∈ grpL m a := mem_grpL.2 ⟨l2, l3⟩
  have hp := grpL_pw m a
  have hmin : ∀ y ∈ grpL m a, (mA m (mA m a).rt).ls ≤ y := fun y hy => by
    have h1 := mem_grpL.1 hy
    have := (h.least y h1.1).1
    rw [h1.2] at this; exact this
  cases hg : grpL m a with
  | nil => rw [hg] at hm; cases hm
  | cons x l =>
    refine ⟨by simp, ?_⟩
    rw [hg] at hm hp hmin
    have e1 := hmin x (by simp)
    rcases List.mem_cons.1 hm with h2 | h2
    · exact h2.symm
    · have := (List.pairwise_cons.1 hp).1 _ h2
      omega
theorem grpL_le (m : List Mv) (a : Nat) : (grpL m a).length ≤ m.length := by
  unfold grpL
  have := List.length_filter_le (fun y => decide ((mA m y).rt = (mA m a).rt)) (List.range m.length)
  simpa using this
/-- How many have their least member below i. -/
def cntL (m : List Mv) (i : Nat) : Nat := ((List.range m.length).filter fun y => decide ((mA m (mA m y).rt).ls < i)).length
theorem cntL_zero (m : List Mv) : cntL m 0 = 0 := by
  unfold cntL
  have : (fun y => decide ((mA m (mA m y).rt).ls < 0)) = fun _ => false := by funext y; simp
  rw [this]; simp
theorem cntL_le (m : List Mv) (i : Nat) : cntL m i ≤ m.length := by
  unfold cntL
  have := List.length_filter_le (fun y => decide ((mA m (mA m y).rt).ls < i)) (List.range m.length)
  simpa using this
theorem FoI.cnt_all {J : List (Nat × Nat)} {V : List Value} {m : List Mv} (h : FoI J V m) : cntL m m.length = m.length := by
  unfold cntL
  rw [List.filter_eq_self.2 (fun y hy => ?_)]
  · simp
  · have hy : y < m.length := by simpa using hy
    have := (h.least y hy).1
    simp; omega
theorem filter_or {α : Type} (p q : α → Bool) : ∀ (l : List α), (∀ x ∈ l, ¬ (p x = true ∧ q x = true)) → (l.filter fun x => p x || q x).length = (l.filter p).length + (l.filter q).length
  | [], _ => rfl
  | x :: l, h => by
    have ih := filter_or p q l (fun y hy => h y (by simp [hy]))
    have hx := h x (by simp)
    simp only [List.filter_cons]
    cases hp : p x <;> cases hq : q x
    · simpa using ih
    · simp only [hp, hq, Bool.false_or, if_true, List.length_cons, ih]; simp; omega
    · simp only [hp, hq, Bool.true_or, if_true, List.length_cons, ih]; simp; omega
    · exact absurd ⟨hp, hq⟩ hx
theorem FoI.cnt_succ {J : List (Nat × Nat)} {V : List Value} {m : List Mv} (h : FoI J V m) {i : Nat} (hi : i < m.length) : cntL m (i + 1) = if (mA m (mA m i).rt).ls = i then cntL m i + (grpL m i).length else cntL m i := by
  have e1 : cntL m (i + 1) = cntL m i + ((List.range m.length).filter fun y => decide ((mA m (mA m y).rt).ls = i)).length := by
    unfold cntL
    rw [← filter_or]
    · congr 2
      funext y
      by_cases h1 : (mA m (mA m y).rt).ls < i
      · simp [h1]; omega
      · by_cases h2 : (mA m (mA m y).rt).ls = i
        · simp [h2]
        · simp [h1, h2]; omega
    · intro y _ ⟨h1, h2⟩
      simp only [decide_eq_true_eq] at h1 h2; omega
  rw [e1]
  by_cases hl : (mA m (mA m i).rt).ls = i
  · rw [if_pos hl]
    congr 1
    unfold grpL
    congr 1
    apply List.filter_congr
    intro y hy
    have hy : y < m.length := by simpa using hy
    congr 1
    apply propext
    constructor
    · intro e
      have := (h.least y hy).2.2
      rw [e] at this; exact this.symm
    · intro e
      rw [e]; exact hl
  · rw [if_neg hl, List.filter_eq_nil_iff.2 (fun y hy => ?_)]
    · simp
    · have hy : y < m.length := by simpa using hy
      simp only [decide_eq_true_eq]
      intro e
      have := (h.least y hy).2.2
      rw [e] at this
      apply hl
      rw [this]; exact e

/-- A joint makes of two groups one. -/
theorem cn_snoc {J : List (Nat × Nat)} {a b y : Nat} : Cn (J ++ [(a, b)]) y a ↔ Cn J y a ∨ Cn J y b := by
  have hedge : Cn (J ++ [(a, b)]) b a := by
    have := Cn.step (J := J ++ [(a, b)]) (e := (J.length, true)) (by simp)
    simpa [eA, eB] using this
  constructor
  · rintro ⟨p, hp⟩
    rcases hp.cross with hw | ⟨p1, e, p2, _, h1, h2, _⟩
    · exact .inl ⟨p, hw⟩
    · rcases end_last (a := a) (b := b) h2 with ⟨e1, _⟩ | ⟨e1, _⟩
      · rw [e1] at h1; exact .inl ⟨_, h1⟩
      · rw [e1] at h1; exact .inr ⟨_, h1⟩
  · rintro (h | h)
    · exact h.more
    · exact h.more.trans hedge
theorem FoI.joinLen {J : List (Nat × Nat)} {V V' : List Value} {m m' : List Mv} {a b : Nat} (h : FoI J V m) (h' : FoI (J ++ [(a, b)]) V' m') (hl : m'.length = m.length) (ha : a < m.length) (hb : b < m.length) (hne : (mA m a).rt ≠ (mA m b).rt) : (grpL m' a).length = (grpL m a).length + (grpL m b).length := by
  unfold grpL
  rw [hl, ← filter_or]
  · congr 1
    apply List.filter_congr
    intro y hy
    have hy : y < m.length := by simpa using hy
    have k1 := h'.cn_iff (x := y) (y := a) (by rw [hl]; exact hy) (by rw [hl]; exact ha)
    have k2 := h.cn_iff (x := y) (y := a) hy ha
    have k3 := h.cn_iff (x := y) (y := b) hy hb
    have : (mA m' y).rt = (mA m' a).rt ↔ ((mA m y).rt = (mA m a).rt ∨ (mA m y).rt = (mA m b).rt) := by rw [← k1, ← k2, ← k3]; exact cn_snoc
    by_cases c1 : (mA m y).rt = (mA m a).rt
    · simp [c1, this.2 (.inl c1)]
    · by_cases c2 : (mA m y).rt = (mA m b).rt
      · simp [c2, this.2 (.inr c2)]
      · have : ¬ (mA m' y).rt = (mA m' a).rt := fun e => by rcases this.1 e with h | h; exact c1 h; exact c2 h
        simp [c1, c2, this]
  · intro y _ ⟨h1, h2⟩
    simp only [decide_eq_true_eq] at h1 h2
    exact hne (h1.symm.trans h2)
end Go.Proofs.Ytfnbkffphpidbaa
