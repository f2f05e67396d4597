/-
  What the document's reach leaves, plain.
-/
import Derived.Test.YtfnbkffphpidbaaFoWy
set_option linter.unusedSimpArgs false
set_option linter.unusedVariables false
namespace Go.Proofs.Ytfnbkffphpidbaa

/-- The table, as far as it is: what is not 0 is reached, by the joint that begins its way to a. -/
structure RcI (J : List (Nat × Nat)) (a : Nat) (by_ : List Int) : Prop where
  at_ : by_.getD a 0 = -1
  al : a < by_.length
  way : ∀ x, x < by_.length → x ≠ a → by_.getD x 0 ≠ 0 → ∃ i d q, by_.getD x 0 = ((i + 1 : Nat) : Int) ∧ Pa J x ((i, d) :: q) a ∧ by_.getD (eB J (i, d)) 0 ≠ 0
theorem getD_setI (l : List Int) (x y : Nat) (u : Int) (hx : x < l.length) : (l.set x u).getD y 0 = if y = x then u else l.getD y 0 := by
  rw [List.getD_eq_getElem?_getD, List.getElem?_set, List.getD_eq_getElem?_getD]
  by_cases h : x = y
  · subst h; simp [hx]
  · have h2 : ¬ y = x := fun e => h e.symm
    simp [h, h2]
theorem RcI.start {J : List (Nat × Nat)} {a n : Nat} (ha : a < n) : RcI J a ((List.replicate n (0 : Int)).set a (-1)) := by
  have hl : a < (List.replicate n (0 : Int)).length := by simpa using ha
  refine ⟨by rw [getD_setI _ _ _ _ hl, if_pos rfl], by simpa using ha, fun x hx hne h0 => ?_⟩
  rw [getD_setI _ _ _ _ hl, if_neg hne] at h0
  refine absurd ?_ h0
  rw [List.getD_eq_getElem?_getD, List.getElem?_replicate]
  split <;> rfl
/-- The way of a member that is reached. -/
theorem RcI.pa {J : List (Nat × Nat)} {a : Nat} {l : List Int} (h : RcI J a l) {x : Nat} (hx : x < l.length) (h0 : l.getD x 0 ≠ 0) : ∃ q, Pa J x q a ∧ ∀ e r, q = e :: r → l.getD x 0 = ((e.1 + 1 : Nat) : Int) ∧ l.getD (eB J e) 0 ≠ 0 := by
  by_cases hxa : x = a
  · subst hxa; exact ⟨[], Pa.nil _ _, fun e r he => by cases he⟩
  · obtain ⟨i, d, q, h1, h2, h3⟩ := h.way x hx hxa h0
    exact ⟨_, h2, fun e r he => by cases he; exact ⟨h1, h3⟩⟩
/-- A joint, one end of it reached: the other end is now. -/
theorem RcI.step {J : List (Nat × Nat)} {a : Nat} {l : List Int} (hf : Fst J) (h : RcI J a l) {e : Ed} (he : e.1 < J.length) (hA : eA J e < l.length) (hB : eB J e < l.length) (h0 : l.getD (eA J e) 0 = 0) (h1 : l.getD (eB J e) 0 ≠ 0) : RcI J a (l.set (eA J e) ((e.1 + 1 : Nat) : Int)) := by
  have hne : eA J e ≠ a := fun e' => by rw [e', h.at_] at h0; cases h0
  have hBA : eB J e ≠ eA J e := fun e' => by rw [e'] at h1; exact h1 h0
  obtain ⟨q, hq, hq2⟩ := h.pa hB h1
  have hpa : Pa J (eA J e) (e :: q) a := by
    rcases hq.red1 he with h2 | ⟨r, h2, _⟩
    · exact h2
    · obtain ⟨_, h4⟩ := hq2 _ _ h2
      rw [eB_tn] at h4
      exact absurd h0 h4
  refine ⟨by rw [getD_setI _ _ _ _ hA, if_neg (fun e' => hne e'.symm)]; exact h.at_, by simpa using h.al, fun x hx hxa hx0 => ?_⟩
  rw [List.length_set] at hx
  rw [getD_setI _ _ _ _ hA] at hx0 ⊢
  by_cases hxe : x = eA J e
  · subst hxe
    rw [if_pos rfl]
    exact ⟨e.1, e.2, q, rfl, hpa, by rw [getD_setI _ _ _ _ hA, if_neg hBA]; exact h1⟩
  · rw [if_neg hxe] at hx0 ⊢
    obtain ⟨i, d, r, h2, h3, h4⟩ := h.way x hx hxa hx0
    refine ⟨i, d, r, h2, h3, ?_⟩
    rw [getD_setI _ _ _ _ hA]
    split
    · simp; omega
    · exact h4
/-- How many are not reached. -/
def zers (l : List Int) : Nat := l.countP (· == 0)
theorem zers_le (l : List Int) : zers l ≤ l.length := List.countP_le_length
theorem zers_set : ∀ (l : List Int) (x : Nat) (u : Int), x < l.length → l.getD x 0 = 0 → u ≠ 0 → zers (l.set x u) + 1 = zers l
  | [], x, u, h, _, _ => by simp at h
  | y :: l, 0, u, _, h0, hu => by
    have : y = 0 := by simpa using h0
    subst this
    simp [zers, List.countP_cons, hu]
  | y :: l, x + 1, u, h, h0, hu => by
    have ih := zers_set l x u (by simpa using h) (by simpa using h0) hu
    unfold zers at ih ⊢
    rw [List.set_cons_succ, List.countP_cons, List.countP_cons]
    omega
/-- Nothing more is to be reached. -/
def RcD (J : List (Nat × Nat)) (l : List Int) : Prop := ∀ e : Ed, e.1 < J.length → l.getD (eA J e) 0 ≠ 0 → l.getD (eB J e) 0 ≠ 0
theorem RcD.walk {J : List (Nat × Nat)} {l : List Int} (h : RcD J l) : ∀ {p : List Ed} {a b : Nat}, Wk J a p b → l.getD a 0 ≠ 0 → l.getD b 0 ≠ 0
  | [], a, b, hw, h0 => by have : a = b := hw; rw [← this]; exact h0
  | e :: p, a, b, ⟨h1, h2, h3⟩, h0 => by
    refine h.walk h3 (h e h1 ?_)
    rw [h2]; exact h0
/-- What reach answers. -/
structure Rch (J : List (Nat × Nat)) (n a : Nat) (l : List Int) : Prop where
  len : l.length = n
  iff_ : ∀ x, x < n → (l.getD x 0 ≠ 0 ↔ Cn J x a)
  way : ∀ x, x < n → x ≠ a → l.getD x 0 ≠ 0 → ∃ i d q, l.getD x 0 = ((i + 1 : Nat) : Int) ∧ Pa J x ((i, d) :: q) a
theorem RcI.done {J : List (Nat × Nat)} {a : Nat} {l : List Int} (h : RcI J a l) (hd : RcD J l) : Rch J l.length a l := by
  refine ⟨rfl, fun x hx => ⟨fun h0 => ?_, fun ⟨p, hp⟩ => ?_⟩, fun x hx hne h0 => ?_⟩
  · obtain ⟨q, hq, _⟩ := h.pa hx h0
    exact hq.cn
  · exact hd.walk hp.rev (by rw [h.at_]; decide)
  · obtain ⟨i, d, q, h1, h2, _⟩ := h.way x hx hne h0
    exact ⟨i, d, q, h1, h2⟩
/-- One joint of both ends: either both are reached or none. -/
theorem RcD.of {J : List (Nat × Nat)} {l : List Int} (h : ∀ i, i < J.length → (l.getD (eA J (i, false)) 0 ≠ 0 ↔ l.getD (eB J (i, false)) 0 ≠ 0)) : RcD J l := by
  intro e he h0
  obtain ⟨i, d⟩ := e
  cases d
  · exact (h i he).1 h0
  · have e1 : ((i, true) : Ed) = tn (i, false) := rfl
    rw [e1] at h0 ⊢
    rw [eA_tn] at h0
    rw [eB_tn]
    exact (h i he).2 h0

/-- The joints with their reasons' numbers, as cells. -/
abbrev Jt := Nat × Nat × Int
def jtC (t : Jt) : List Value := [.int .i64 t.1, .int .i64 t.2.1, .int .i64 t.2.2]
def jtCells : List Jt → List Value
  | [] => []
  | t :: r => jtC t ++ jtCells r
def jJ (L : List Jt) : List (Nat × Nat) := L.map fun t => (t.1, t.2.1)
theorem jJ_len (L : List Jt) : (jJ L).length = L.length := by simp [jJ]
def jt0 : Jt := (0, 0, 0)
theorem jtCells_append (a b : List Jt) : jtCells (a ++ b) = jtCells a ++ jtCells b := by
  induction a with
  | nil => rfl
  | cons t r ih => simp [jtCells, ih]
theorem jtCells_at : ∀ (L : List Jt) (i k : Nat), i < L.length → k < 3 → (jtCells L)[i * 3 + k]? = (jtC (L.getD i jt0))[k]?
  | [], i, k, h, _ => by simp at h
  | t :: r, 0, k, _, hk => by
    simp only [jtCells]
    rw [List.getElem?_append_left (by simp [jtC]; omega)]
    simp
  | t :: r, i + 1, k, h, hk => by
    simp only [jtCells]
    have e : (i + 1) * 3 + k = 3 + (i * 3 + k) := by omega
    rw [e, List.getElem?_append_right (by simp [jtC])]
    have e2 : 3 + (i * 3 + k) - (jtC t).length = i * 3 + k := by simp [jtC]
    rw [e2, jtCells_at r i k (by simpa using h) hk]
    rfl
theorem jJ_at (L : List Jt) (i : Nat) (h : i < L.length) : eA (jJ L) (i, false) = (L.getD i jt0).1 ∧ eB (jJ L) (i, false) = (L.getD i jt0).2.1 := by
  have : (jJ L).getD i (0, 0) = ((L.getD i jt0).1, (L.getD i jt0).2.1) := by
    unfold jJ
    rw [List.getD_eq_getElem?_getD, List.getElem?_map, List.getElem?_eq_getElem h, List.getD_eq_getElem?_getD, List.getElem?_eq_getElem h]
    rfl
  unfold eA eB
  rw [this]
  exact ⟨rfl, rfl⟩
end Go.Proofs.Ytfnbkffphpidbaa
