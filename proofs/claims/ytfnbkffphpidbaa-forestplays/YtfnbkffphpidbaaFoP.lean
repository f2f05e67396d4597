/-
  Joints between members, and the ways over them: of a list of joints each of which joins two groups there is one way without a step back between two members.
-/
set_option linter.unusedSimpArgs false
set_option linter.unusedVariables false
namespace Go.Proofs.Ytfnbkffphpidbaa

/-- A step: the joint's number, and whether it is gone against its direction. -/
abbrev Ed := Nat × Bool
def eA (J : List (Nat × Nat)) (e : Ed) : Nat := if e.2 then (J.getD e.1 (0, 0)).2 else (J.getD e.1 (0, 0)).1
def eB (J : List (Nat × Nat)) (e : Ed) : Nat := if e.2 then (J.getD e.1 (0, 0)).1 else (J.getD e.1 (0, 0)).2
def tn (e : Ed) : Ed := (e.1, !e.2)
def rv (l : List Ed) : List Ed := (l.map tn).reverse
theorem tn_tn (e : Ed) : tn (tn e) = e := by simp [tn]
theorem tn_ne (e : Ed) : tn e ≠ e := by intro h; have := congrArg Prod.snd h; simp [tn] at this
theorem tn_inj {e f : Ed} (h : tn e = tn f) : e = f := by rw [← tn_tn e, h, tn_tn]
theorem eA_tn (J : List (Nat × Nat)) (e : Ed) : eA J (tn e) = eB J e := by unfold eA eB tn; cases e.2 <;> simp
theorem eB_tn (J : List (Nat × Nat)) (e : Ed) : eB J (tn e) = eA J e := by unfold eA eB tn; cases e.2 <;> simp
theorem ed_two {e f : Ed} (h : e.1 = f.1) : f = e ∨ f = tn e := by
  obtain ⟨i, b⟩ := e; obtain ⟨j, c⟩ := f
  simp only at h; subst h
  cases b <;> cases c <;> simp [tn]
theorem rv_rv (l : List Ed) : rv (rv l) = l := by
  unfold rv; rw [List.map_reverse, List.reverse_reverse, List.map_map]
  have : (tn ∘ tn) = id := funext fun e => tn_tn e
  rw [this, List.map_id]
theorem rv_cons (e : Ed) (l : List Ed) : rv (e :: l) = rv l ++ [tn e] := by simp [rv]
theorem rv_append (l m : List Ed) : rv (l ++ m) = rv m ++ rv l := by simp [rv]
theorem rv_length (l : List Ed) : (rv l).length = l.length := by simp [rv]
theorem rv_nil : rv [] = [] := rfl

/-- A way from a to b. -/
def Wk (J : List (Nat × Nat)) : Nat → List Ed → Nat → Prop
  | a, [], b => a = b
  | a, e :: l, b => e.1 < J.length ∧ eA J e = a ∧ Wk J (eB J e) l b
theorem Wk.append {J : List (Nat × Nat)} : ∀ {p : List Ed} {a b c : Nat} {q : List Ed}, Wk J a p b → Wk J b q c → Wk J a (p ++ q) c
  | [], a, b, c, q, h, k => by cases h; exact k
  | e :: p, a, b, c, q, ⟨h1, h2, h3⟩, k => ⟨h1, h2, Wk.append h3 k⟩
theorem Wk.split {J : List (Nat × Nat)} : ∀ {p : List Ed} {a c : Nat} {q : List Ed}, Wk J a (p ++ q) c → ∃ b, Wk J a p b ∧ Wk J b q c
  | [], a, c, q, h => ⟨a, rfl, h⟩
  | e :: p, a, c, q, ⟨h1, h2, h3⟩ => let ⟨b, k1, k2⟩ := Wk.split h3; ⟨b, ⟨h1, h2, k1⟩, k2⟩
theorem Wk.one {J : List (Nat × Nat)} {e : Ed} (h : e.1 < J.length) : Wk J (eA J e) [e] (eB J e) := ⟨h, rfl, rfl⟩
theorem Wk.rev {J : List (Nat × Nat)} : ∀ {p : List Ed} {a b : Nat}, Wk J a p b → Wk J b (rv p) a
  | [], a, b, h => by cases h; exact rfl
  | e :: p, a, b, ⟨h1, h2, h3⟩ => by
    rw [rv_cons]
    refine (Wk.rev h3).append ?_
    have := Wk.one (J := J) (e := tn e) h1
    rw [eA_tn, eB_tn, h2] at this
    exact this
theorem Wk.fun {J : List (Nat × Nat)} : ∀ {p : List Ed} {a b c : Nat}, Wk J a p b → Wk J a p c → b = c
  | [], a, b, c, h, k => h.symm.trans k
  | e :: p, a, b, c, ⟨_, _, h⟩, ⟨_, _, k⟩ => Wk.fun h k

def Cn (J : List (Nat × Nat)) (a b : Nat) : Prop := ∃ p, Wk J a p b
theorem Cn.refl (J : List (Nat × Nat)) (a : Nat) : Cn J a a := ⟨[], rfl⟩
theorem Cn.symm {J : List (Nat × Nat)} {a b : Nat} (h : Cn J a b) : Cn J b a := let ⟨p, h⟩ := h; ⟨_, h.rev⟩
theorem Cn.trans {J : List (Nat × Nat)} {a b c : Nat} (h : Cn J a b) (k : Cn J b c) : Cn J a c := let ⟨p, h⟩ := h; let ⟨q, k⟩ := k; ⟨_, h.append k⟩
theorem Cn.step {J : List (Nat × Nat)} {e : Ed} (h : e.1 < J.length) : Cn J (eA J e) (eB J e) := ⟨_, Wk.one h⟩

/-- No step is gone back at once. -/
def Rdc : List Ed → Prop
  | [] => True
  | e :: l => l.head? ≠ some (tn e) ∧ Rdc l
theorem Rdc.append_iff : ∀ (p q : List Ed), Rdc (p ++ q) ↔ Rdc p ∧ Rdc q ∧ ∀ e f, p.getLast? = some e → q.head? = some f → f ≠ tn e
  | [], q => by simp [Rdc]
  | e :: p, q => by
    rw [List.cons_append, Rdc, Rdc, Rdc.append_iff p q]
    cases p with
    | nil =>
      simp only [List.nil_append, List.head?_nil, List.getLast?_nil, List.getLast?_singleton]
      constructor
      · rintro ⟨h, _, h2, _⟩
        refine ⟨⟨by simp, trivial⟩, h2, fun e' f h1 h3 h4 => ?_⟩
        cases h1; rw [h3, h4] at h; exact h rfl
      · rintro ⟨_, h2, h3⟩
        refine ⟨fun h => h3 e (tn e) rfl h rfl, trivial, h2, fun _ _ h => by cases h⟩
    | cons d p =>
      simp only [List.cons_append, List.head?_cons, List.getLast?_cons_cons]
      constructor
      · rintro ⟨h, h1, h2, h3⟩; exact ⟨⟨h, h1⟩, h2, h3⟩
      · rintro ⟨⟨h, h1⟩, h2, h3⟩; exact ⟨h, h1, h2, h3⟩
theorem Rdc.left {p q : List Ed} (h : Rdc (p ++ q)) : Rdc p := ((Rdc.append_iff p q).1 h).1
theorem Rdc.right {p q : List Ed} (h : Rdc (p ++ q)) : Rdc q := ((Rdc.append_iff p q).1 h).2.1
/-- What meets in a step is right at that step. -/
theorem Rdc.join {p q : List Ed} {e : Ed} (h : Rdc (p ++ [e])) (k : Rdc (e :: q)) : Rdc (p ++ e :: q) := by
  rw [Rdc.append_iff] at h ⊢
  exact ⟨h.1, k, fun x f h1 h2 => h.2.2 x f h1 (by simpa using h2)⟩
theorem Rdc.rev : ∀ {p : List Ed}, Rdc p → Rdc (rv p)
  | [], _ => trivial
  | e :: p, ⟨h, k⟩ => by
    rw [rv_cons, Rdc.append_iff]
    refine ⟨Rdc.rev k, ⟨by simp, trivial⟩, fun x f h1 h2 h3 => ?_⟩
    simp only [List.head?_cons, Option.some.injEq] at h2
    cases p with
    | nil => simp [rv] at h1
    | cons d p =>
      rw [rv_cons, List.getLast?_append] at h1
      simp only [List.getLast?_singleton, Option.some_or, Option.some.injEq] at h1
      subst h1; subst h2
      rw [tn_tn] at h3
      simp only [List.head?_cons] at h
      exact h (by rw [h3])

/-- The way from a to b. -/
def Pa (J : List (Nat × Nat)) (a : Nat) (p : List Ed) (b : Nat) : Prop := Wk J a p b ∧ Rdc p
theorem Pa.nil (J : List (Nat × Nat)) (a : Nat) : Pa J a [] a := ⟨rfl, trivial⟩
theorem Pa.rev {J : List (Nat × Nat)} {a b : Nat} {p : List Ed} (h : Pa J a p b) : Pa J b (rv p) a := ⟨h.1.rev, h.2.rev⟩
theorem Pa.cn {J : List (Nat × Nat)} {a b : Nat} {p : List Ed} (h : Pa J a p b) : Cn J a b := ⟨p, h.1⟩
theorem Pa.split {J : List (Nat × Nat)} {a b : Nat} {p q : List Ed} (h : Pa J a (p ++ q) b) : ∃ c, Pa J a p c ∧ Pa J c q b :=
  let ⟨c, h1, h2⟩ := h.1.split; ⟨c, ⟨h1, h.2.left⟩, ⟨h2, h.2.right⟩⟩
theorem Pa.tail {J : List (Nat × Nat)} {a b : Nat} {e : Ed} {p : List Ed} (h : Pa J a (e :: p) b) : Pa J (eB J e) p b := ⟨h.1.2.2, h.2.2⟩
theorem Pa.lt {J : List (Nat × Nat)} {a b : Nat} {e : Ed} {p : List Ed} (h : Pa J a (e :: p) b) : e.1 < J.length := h.1.1
theorem Pa.from_ {J : List (Nat × Nat)} {a b : Nat} {e : Ed} {p : List Ed} (h : Pa J a (e :: p) b) : eA J e = a := h.1.2.1

/-- A way with a step ahead of it: the step, or it is gone back. -/
theorem Pa.red1 {J : List (Nat × Nat)} {b : Nat} {e : Ed} {p : List Ed} (he : e.1 < J.length) (h : Pa J (eB J e) p b) : Pa J (eA J e) (e :: p) b ∨ ∃ q, p = tn e :: q ∧ Pa J (eA J e) q b := by
  by_cases hh : p.head? = some (tn e)
  · right
    cases p with
    | nil => cases hh
    | cons d q =>
      simp only [List.head?_cons, Option.some.injEq] at hh
      subst hh
      refine ⟨q, rfl, ?_⟩
      have := h.tail
      rw [eB_tn] at this
      exact this
  · exact .inl ⟨⟨he, rfl, h.1⟩, hh, h.2⟩
/-- A walk brought to a way. -/
theorem Wk.red {J : List (Nat × Nat)} : ∀ {w : List Ed} {a b : Nat}, Wk J a w b → ∃ p, Pa J a p b ∧ ∃ k, w.length = p.length + 2 * k
  | [], a, b, h => ⟨[], ⟨h, trivial⟩, 0, rfl⟩
  | e :: w, a, b, ⟨h1, h2, h3⟩ => by
    obtain ⟨p, hp, k, hk⟩ := Wk.red h3
    subst h2
    rcases hp.red1 h1 with h | ⟨q, rfl, h⟩
    · exact ⟨_, h, k, by simp [hk]; omega⟩
    · refine ⟨q, h, k + 1, ?_⟩
      simp only [List.length_cons] at hk ⊢; omega
theorem Cn.way {J : List (Nat × Nat)} {a b : Nat} (h : Cn J a b) : ∃ p, Pa J a p b := let ⟨w, h⟩ := h; let ⟨p, hp, _⟩ := h.red; ⟨p, hp⟩

/-- Each joint joins two groups of those that came ahead of it. -/
inductive Fst : List (Nat × Nat) → Prop
  | nil : Fst []
  | snoc {J : List (Nat × Nat)} {a b : Nat} : Fst J → ¬ Cn J a b → Fst (J ++ [(a, b)])

theorem getJ_lt {J K : List (Nat × Nat)} {i : Nat} (h : i < J.length) : (J ++ K).getD i (0, 0) = J.getD i (0, 0) := by
  simp only [List.getD_eq_getElem?_getD, List.getElem?_append, if_pos h]
theorem eA_more {J K : List (Nat × Nat)} {e : Ed} (h : e.1 < J.length) : eA (J ++ K) e = eA J e := by unfold eA; rw [getJ_lt h]
theorem eB_more {J K : List (Nat × Nat)} {e : Ed} (h : e.1 < J.length) : eB (J ++ K) e = eB J e := by unfold eB; rw [getJ_lt h]
theorem Wk.more {J K : List (Nat × Nat)} : ∀ {p : List Ed} {a b : Nat}, Wk J a p b → Wk (J ++ K) a p b
  | [], _, _, h => h
  | e :: p, a, b, ⟨h1, h2, h3⟩ => ⟨by rw [List.length_append]; omega, by rw [eA_more h1]; exact h2, by rw [eB_more h1]; exact Wk.more h3⟩
theorem Pa.more {J K : List (Nat × Nat)} {p : List Ed} {a b : Nat} (h : Pa J a p b) : Pa (J ++ K) a p b := ⟨h.1.more, h.2⟩
theorem Cn.more {J K : List (Nat × Nat)} {a b : Nat} (h : Cn J a b) : Cn (J ++ K) a b := let ⟨p, h⟩ := h; ⟨p, h.more⟩
/-- A way over the joints and one more: without the new one, or up to it. -/
theorem Wk.cross {J : List (Nat × Nat)} {j : Nat × Nat} : ∀ {p : List Ed} {a b : Nat}, Wk (J ++ [j]) a p b → Wk J a p b ∨ ∃ p1 e p2, p = p1 ++ e :: p2 ∧ Wk J a p1 (eA (J ++ [j]) e) ∧ e.1 = J.length ∧ Wk (J ++ [j]) (eB (J ++ [j]) e) p2 b
  | [], _, _, h => .inl h
  | e :: p, a, b, ⟨h1, h2, h3⟩ => by
    by_cases he : e.1 < J.length
    · have e1 : eA J e = a := by rw [← eA_more (K := [j]) he]; exact h2
      have e2 := eB_more (K := [j]) he
      rw [e2] at h3
      rcases Wk.cross h3 with h | ⟨p1, f, p2, rfl, h4, h5, h6⟩
      · exact .inl ⟨he, e1, h⟩
      · exact .inr ⟨e :: p1, f, p2, rfl, ⟨he, e1, h4⟩, h5, h6⟩
    · refine .inr ⟨[], e, p, rfl, h2.symm, ?_, h3⟩
      rw [List.length_append] at h1
      simp at h1; omega
theorem end_last {J : List (Nat × Nat)} {a b : Nat} {e : Ed} (h : e.1 = J.length) : (eA (J ++ [(a, b)]) e = a ∧ eB (J ++ [(a, b)]) e = b) ∨ (eA (J ++ [(a, b)]) e = b ∧ eB (J ++ [(a, b)]) e = a) := by
  unfold eA eB
  have : (J ++ [(a, b)]).getD e.1 (0, 0) = (a, b) := by simp [h]
  rw [this]
  cases e.2 <;> simp

theorem Pa.one_ {J : List (Nat × Nat)} (ih : ∀ a p q b, Pa J a p b → Pa J a q b → p = q) {A B : Nat} (hn : ¬ Cn J A B) {p : List Ed} {a b : Nat} (h : Pa (J ++ [(A, B)]) a p b) :
    Pa J a p b ∨ ∃ p1 e p2, p = p1 ++ e :: p2 ∧ Pa J a p1 (eA (J ++ [(A, B)]) e) ∧ e.1 = J.length ∧ Pa J (eB (J ++ [(A, B)]) e) p2 b := by
  rcases h.1.cross with hw | ⟨p1, e, p2, rfl, h1, h2, h3⟩
  · exact .inl ⟨hw, h.2⟩
  · have r1 := h.2.left
    have r2 := h.2.right
    rcases h3.cross with hw | ⟨v1, f, v2, rfl, k1, k2, k3⟩
    · exact .inr ⟨p1, e, p2, rfl, ⟨h1, r1⟩, h2, ⟨hw, r2.2⟩⟩
    · exfalso
      rcases ed_two (h2.trans k2.symm) with rfl | rfl
      · have hc : Cn J (eB (J ++ [(A, B)]) f) (eA (J ++ [(A, B)]) f) := ⟨v1, k1⟩
        rcases end_last (a := A) (b := B) h2 with ⟨e1, e2⟩ | ⟨e1, e2⟩
        · rw [e1, e2] at hc; exact hn hc.symm
        · rw [e1, e2] at hc; exact hn hc
      · rw [eA_tn] at k1
        have hv : v1 = [] := ih _ _ _ _ ⟨k1, r2.2.left⟩ (Pa.nil _ _)
        subst hv
        exact r2.1 rfl

/-- There is one way. -/
theorem Fst.uniq {J : List (Nat × Nat)} (hf : Fst J) : ∀ a p q b, Pa J a p b → Pa J a q b → p = q := by
  induction hf with
  | nil =>
    intro a p q b hp hq
    cases p with
    | nil => cases q with
      | nil => rfl
      | cons e q => exact absurd hq.lt (by simp)
    | cons e p => exact absurd hp.lt (by simp)
  | @snoc J A B hJ hn ih =>
    intro a p q b hp hq
    have key : ∀ p1 e p2, Pa J a p1 (eA (J ++ [(A, B)]) e) → e.1 = J.length → Pa J (eB (J ++ [(A, B)]) e) p2 b → ¬ Cn J a b := by
      intro p1 e p2 h1 h2 h3 hc
      have : Cn J (eA (J ++ [(A, B)]) e) (eB (J ++ [(A, B)]) e) := (h1.cn.symm.trans hc).trans h3.cn.symm
      rcases end_last (a := A) (b := B) h2 with ⟨e1, e2⟩ | ⟨e1, e2⟩
      · rw [e1, e2] at this; exact hn this
      · rw [e1, e2] at this; exact hn this.symm
    rcases Pa.one_ ih hn hp with h | ⟨p1, e, p2, rfl, h1, h2, h3⟩
    · rcases Pa.one_ ih hn hq with k | ⟨q1, f, q2, rfl, k1, k2, k3⟩
      · exact ih _ _ _ _ h k
      · exact absurd h.cn (key _ _ _ k1 k2 k3)
    · rcases Pa.one_ ih hn hq with k | ⟨q1, f, q2, rfl, k1, k2, k3⟩
      · exact absurd k.cn (key _ _ _ h1 h2 h3)
      · rcases ed_two (h2.trans k2.symm) with rfl | rfl
        · rw [ih _ _ _ _ h1 k1, ih _ _ _ _ h3 k3]
        · exfalso
          rw [eA_tn] at k1
          have : Cn J (eA (J ++ [(A, B)]) e) (eB (J ++ [(A, B)]) e) := h1.cn.symm.trans k1.cn
          rcases end_last (a := A) (b := B) h2 with ⟨e1, e2⟩ | ⟨e1, e2⟩
          · rw [e1, e2] at this; exact hn this
          · rw [e1, e2] at this; exact hn this.symm

theorem Fst.loop {J : List (Nat × Nat)} (hf : Fst J) {a : Nat} {p : List Ed} (h : Pa J a p a) : p = [] := hf.uniq _ _ _ _ h (Pa.nil _ _)
/-- What x meets on a way. -/
def On (J : List (Nat × Nat)) (a : Nat) (p : List Ed) (x : Nat) : Prop := ∃ p1 p2, p = p1 ++ p2 ∧ Wk J a p1 x
theorem On.start {J : List (Nat × Nat)} {a : Nat} {p : List Ed} : On J a p a := ⟨[], p, rfl, rfl⟩
theorem On.cons {J : List (Nat × Nat)} {a x : Nat} {e : Ed} {p : List Ed} (he : e.1 < J.length) (ha : eA J e = a) (h : On J (eB J e) p x) : On J a (e :: p) x :=
  let ⟨p1, p2, h1, h2⟩ := h; ⟨e :: p1, p2, by rw [h1]; rfl, he, ha, h2⟩
theorem On.cases {J : List (Nat × Nat)} {a x : Nat} {e : Ed} {p : List Ed} (h : On J a (e :: p) x) : x = a ∨ On J (eB J e) p x := by
  obtain ⟨p1, p2, h1, h2⟩ := h
  cases p1 with
  | nil => exact .inl h2.symm
  | cons d p1 =>
    simp only [List.cons_append, List.cons.injEq] at h1
    obtain ⟨rfl, rfl⟩ := h1
    exact .inr ⟨p1, p2, rfl, h2.2.2⟩
theorem On.nil {J : List (Nat × Nat)} {a x : Nat} (h : On J a [] x) : x = a := by
  obtain ⟨p1, p2, h1, h2⟩ := h
  have := List.append_eq_nil_iff.1 h1.symm
  rw [this.1] at h2
  exact h2.symm
theorem Fst.off {J : List (Nat × Nat)} (hf : Fst J) {a b : Nat} {e : Ed} {p : List Ed} (h : Pa J a (e :: p) b) : ¬ On J (eB J e) p a := by
  rintro ⟨p1, p2, rfl, h2⟩
  have : Pa J a (e :: p1) a := ⟨⟨h.lt, h.from_, h2⟩, by have := h.2; rw [← List.cons_append] at this; exact this.left⟩
  cases hf.loop this

/-- A step ahead, where it is not gone back. -/
theorem Fst.back {J : List (Nat × Nat)} (hf : Fst J) {x c r : Nat} {e : Ed} {p q s : List Ed} (hx : Pa J x (e :: p) r) (hq : Pa J x q c) (hs : Pa J (eB J e) s c) (hc : s = tn e :: q) :
    Pa J c (rv q ++ e :: p) r := by
  subst hc
  have h1 := hs.rev
  rw [rv_cons, tn_tn] at h1
  refine ⟨hq.rev.1.append hx.1, Rdc.join h1.2 hx.2⟩

/-- Of two members of one group the one that is as far from the root as the other begins the way with its own step. -/
theorem Fst.deeper {J : List (Nat × Nat)} (hf : Fst J) {a b r : Nat} {e : Ed} {p q s : List Ed} (ha : Pa J a (e :: p) r) (hb : Pa J b q r) (hd : q.length ≤ p.length + 1) (hne : a ≠ b) (hs : Pa J (eB J e) s b) : Pa J a (e :: s) b := by
  rcases hs.red1 ha.lt with h | ⟨s', rfl, h⟩
  · rw [ha.from_] at h; exact h
  · exfalso
    rw [ha.from_] at h
    have hk := hf.back ha h hs rfl
    have := hf.uniq _ _ _ _ hk hb
    have hl := congrArg List.length this
    simp only [List.length_append, rv_length, List.length_cons] at hl
    cases s' with
    | nil => exact hne h.1
    | cons d s' => simp only [List.length_cons] at hl; omega

/-- A member that is not on the way from c to the root begins the way to c with its own step. -/
theorem Fst.aside {J : List (Nat × Nat)} (hf : Fst J) {x c r : Nat} {e : Ed} {p q s : List Ed} (hx : Pa J x (e :: p) r) (hc : Pa J c q r) (hn : ¬ On J c q x) (hs : Pa J (eB J e) s c) : Pa J x (e :: s) c := by
  rcases hs.red1 hx.lt with h | ⟨s', rfl, h⟩
  · rw [hx.from_] at h; exact h
  · exfalso
    rw [hx.from_] at h
    have hk := hf.back hx h hs rfl
    have := hf.uniq _ _ _ _ hk hc
    subst this
    exact hn ⟨_, _, rfl, h.rev.1⟩
end Go.Proofs.Ytfnbkffphpidbaa
