/-
  A joint, plainly: the way up turned around, the two groups made one.
-/
import Derived.Test.YtfnbkffphpidbaaFoS
set_option linter.unusedSimpArgs false
set_option linter.unusedVariables false
namespace Go.Proofs.Ytfnbkffphpidbaa

/-- The new joint, gone from the smaller group's member A to B. -/
structure NewJ (J : List (Nat × Nat)) (m : List Mv) (a b : Nat) (e0 : Ed) (A B : Nat) : Prop where
  two : (A = a ∧ B = b ∧ e0 = (J.length, false)) ∨ (A = b ∧ B = a ∧ e0 = (J.length, true))
  ha : a < m.length
  hb : b < m.length
  ne : (mA m a).rt ≠ (mA m b).rt
theorem NewJ.idx {J : List (Nat × Nat)} {m : List Mv} {a b A B : Nat} {e0 : Ed} (h : NewJ J m a b e0 A B) : e0.1 = J.length := by rcases h.two with ⟨_, _, rfl⟩ | ⟨_, _, rfl⟩ <;> rfl
theorem NewJ.eA {J : List (Nat × Nat)} {m : List Mv} {a b A B : Nat} {e0 : Ed} (h : NewJ J m a b e0 A B) : eA (J ++ [(a, b)]) e0 = A := by rcases h.two with ⟨rfl, rfl, rfl⟩ | ⟨rfl, rfl, rfl⟩ <;> simp [Ytfnbkffphpidbaa.eA]
theorem NewJ.eB {J : List (Nat × Nat)} {m : List Mv} {a b A B : Nat} {e0 : Ed} (h : NewJ J m a b e0 A B) : eB (J ++ [(a, b)]) e0 = B := by rcases h.two with ⟨rfl, rfl, rfl⟩ | ⟨rfl, rfl, rfl⟩ <;> simp [Ytfnbkffphpidbaa.eB]
theorem NewJ.lA {J : List (Nat × Nat)} {m : List Mv} {a b A B : Nat} {e0 : Ed} (h : NewJ J m a b e0 A B) : A < m.length := by have := h.ha; have := h.hb; rcases h.two with ⟨rfl, rfl, rfl⟩ | ⟨rfl, rfl, rfl⟩ <;> assumption
theorem NewJ.lB {J : List (Nat × Nat)} {m : List Mv} {a b A B : Nat} {e0 : Ed} (h : NewJ J m a b e0 A B) : B < m.length := by have := h.ha; have := h.hb; rcases h.two with ⟨rfl, rfl, rfl⟩ | ⟨rfl, rfl, rfl⟩ <;> assumption
theorem NewJ.nAB {J : List (Nat × Nat)} {m : List Mv} {a b A B : Nat} {e0 : Ed} (h : NewJ J m a b e0 A B) : (mA m A).rt ≠ (mA m B).rt := by have := h.ne; rcases h.two with ⟨rfl, rfl, rfl⟩ | ⟨rfl, rfl, rfl⟩; exact this; exact this.symm
theorem NewJ.ed {J : List (Nat × Nat)} {m : List Mv} {a b A B : Nat} {e0 : Ed} (h : NewJ J m a b e0 A B) : e0.1 < (J ++ [(a, b)]).length := by rw [h.idx]; simp
theorem NewJ.fst {J : List (Nat × Nat)} {V : List Value} {m : List Mv} {a b A B : Nat} {e0 : Ed} (h : NewJ J m a b e0 A B) (hI : FoI J V m) : Fst (J ++ [(a, b)]) := hI.fst.snoc fun hc => h.ne (hI.cn a b h.ha hc)

/-- What leads up from x now: the first step of its way to the other group's root. -/
def NU (J : List (Nat × Nat)) (V : List Value) (R : Nat) (m1 : List Mv) (x : Nat) : Prop := ∃ e p, Pa J x (e :: p) R ∧ (mA m1 x).up = cz J V e
/-- Only ways up have turned. -/
structure UpOnly (m m1 : List Mv) : Prop where
  len : m1.length = m.length
  rt : ∀ x, (mA m1 x).rt = (mA m x).rt
  nx : ∀ x, (mA m1 x).nx = (mA m x).nx
  sz : ∀ x, (mA m1 x).sz = (mA m x).sz
  ls : ∀ x, (mA m1 x).ls = (mA m x).ls
theorem UpOnly.refl (m : List Mv) : UpOnly m m := ⟨rfl, fun _ => rfl, fun _ => rfl, fun _ => rfl, fun _ => rfl⟩
def setUp (m : List Mv) (c : Nat) (g : Eg) : List Mv := m.set c { mA m c with up := g }
theorem mA_set (m : List Mv) (c : Nat) (y : Mv) (hc : c < m.length) (x : Nat) : mA (m.set c y) x = if x = c then y else mA m x := by
  unfold mA
  simp only [List.getD_eq_getElem?_getD, List.getElem?_set]
  by_cases h : c = x
  · subst h; simp [hc]
  · rw [if_neg h, if_neg (Ne.symm h)]
theorem UpOnly.setUp {m m1 : List Mv} (h : UpOnly m m1) {c : Nat} (hc : c < m.length) (g : Eg) : UpOnly m (setUp m1 c g) := by
  have hc1 : c < m1.length := by rw [h.len]; exact hc
  refine ⟨by simp [Ytfnbkffphpidbaa.setUp, h.len], fun x => ?_, fun x => ?_, fun x => ?_, fun x => ?_⟩ <;> unfold Ytfnbkffphpidbaa.setUp <;> rw [mA_set _ _ _ hc1] <;> split
  · next e => subst e; exact h.rt _
  · exact h.rt x
  · next e => subst e; exact h.nx _
  · exact h.nx x
  · next e => subst e; exact h.sz _
  · exact h.sz x
  · next e => subst e; exact h.ls _
  · exact h.ls x

/-- hang, in mid-way: at c, about to hang it by ec. -/
structure HangI (J : List (Nat × Nat)) (V : List Value) (m : List Mv) (a b : Nat) (wv : Value) (A B : Nat) (m1 : List Mv) (c : Nat) (ec : Ed) (q : List Ed) : Prop where
  up : UpOnly m m1
  lt : c < m.length
  way : Pa J c q (mA m A).rt
  here : ∃ p, Pa (J ++ [(a, b)]) c (ec :: p) (mA m B).rt
  hd : q.head? ≠ some ec
  old : ∀ x, On J c q x → (mA m1 x).up = (mA m x).up
  far : ∀ x, x < m.length → (mA m x).rt ≠ (mA m A).rt → (mA m1 x).up = (mA m x).up
  new : ∀ x, x < m.length → (mA m x).rt = (mA m A).rt → ¬ On J c q x → NU (J ++ [(a, b)]) (V ++ [wv]) (mA m B).rt m1 x

theorem Pa.over {J : List (Nat × Nat)} {V : List Value} {m : List Mv} {a b A B : Nat} {e0 : Ed} (hI : FoI J V m) (hN : NewJ J m a b e0 A B) {x : Nat} {p : List Ed} (hp : Pa J x p A) : ∃ q, Pa (J ++ [(a, b)]) x (p ++ e0 :: q) (mA m B).rt := by
  obtain ⟨q, hq⟩ := hI.way hN.lB
  refine ⟨q, ?_, ?_⟩
  · refine (hp.more (K := [(a, b)])).1.append ⟨hN.ed, hN.eA, ?_⟩
    rw [hN.eB]; exact (hq.more (K := [(a, b)])).1
  · have lt : ∀ {l : List Ed} {c d : Nat}, Wk J c l d → ∀ e ∈ l, e.1 < J.length := by
      intro l
      induction l with
      | nil => intro c d _ e he; cases he
      | cons f l ih =>
        intro c d hw e he
        rcases List.mem_cons.1 he with rfl | he
        · exact hw.1
        · exact ih hw.2.2 e he
    rw [Rdc.append_iff]
    refine ⟨hp.2, ⟨fun h => ?_, hq.2⟩, fun e f h1 h2 h3 => ?_⟩
    · have hm : tn e0 ∈ q := List.mem_of_head? h
      have := lt hq.1 _ hm
      have h4 := hN.idx
      simp [tn] at this; omega
    · have hm : e ∈ p := List.mem_of_getLast? h1
      have := lt hp.1 _ hm
      simp only [List.head?_cons, Option.some.injEq] at h2
      subst h2
      have h4 := hN.idx
      rw [h3] at h4
      simp [tn] at h4; omega

theorem HangI.start {J : List (Nat × Nat)} {V : List Value} {m : List Mv} {a b A B : Nat} {e0 : Ed} (hI : FoI J V m) (hN : NewJ J m a b e0 A B) (wv : Value) : ∃ q, HangI J V m a b wv A B m A e0 q := by
  obtain ⟨q, hq⟩ := hI.way hN.lA
  refine ⟨q, UpOnly.refl m, hN.lA, hq, ?_, ?_, fun x _ => rfl, fun x _ _ => rfl, fun x hx hr hn => ?_⟩
  · obtain ⟨p, hp⟩ := Pa.over hI hN (Pa.nil J A)
    exact ⟨p, hp⟩
  · intro h
    cases q with
    | nil => cases h
    | cons d q =>
      simp only [List.head?_cons, Option.some.injEq] at h
      have h1 := hq.lt
      have h2 := hN.idx
      rw [h] at h1; omega
  · have hne : x ≠ (mA m x).rt := by
      intro e
      apply hn
      rw [hr] at e
      refine ⟨q, [], by simp, ?_⟩
      rw [e]; exact hq.1
    obtain ⟨px, hpx⟩ := hI.way hx
    obtain ⟨e, p, rfl, hu, hl, hr2, hp2⟩ := hI.step hx hpx hne
    have hc : Cn J (eB J e) A := (hI.cn_iff hl hN.lA).2 (hr2.trans hr)
    obtain ⟨s, hs⟩ := hc.way
    have := hI.fst.aside hpx (hr ▸ hq) hn hs
    obtain ⟨p', hp'⟩ := Pa.over hI hN this
    refine ⟨e, s ++ e0 :: p', by simpa using hp', ?_⟩
    rw [hu, cz_more hpx.lt hI.lenV]

theorem HangI.next {J : List (Nat × Nat)} {V : List Value} {m : List Mv} {a b A B : Nat} {e0 : Ed} (hI : FoI J V m) (hN : NewJ J m a b e0 A B) {wv : Value} {m1 : List Mv} {c : Nat} {ec : Ed} {q : List Ed} (h : HangI J V m a b wv A B m1 c ec q) (hne : c ≠ (mA m A).rt) :
    ∃ e q', q = e :: q' ∧ (mA m1 c).up = cz (J ++ [(a, b)]) (V ++ [wv]) e ∧ eB J e < m.length ∧ eB (J ++ [(a, b)]) e = eB J e ∧ HangI J V m a b wv A B (setUp m1 c (cz (J ++ [(a, b)]) (V ++ [wv]) ec)) (eB J e) (tn e) q' := by
  have hrc : (mA m c).rt = (mA m A).rt := by
    have h1 := hI.cn c _ h.lt h.way.cn
    rw [h1, hI.rtrt hN.lA]
  obtain ⟨e, q', rfl, hu, hl, hr2, hp2⟩ := hI.step h.lt (p := q) (by rw [hrc]; exact h.way) (by rw [hrc]; exact hne)
  have he := h.way.lt
  have hc1 : c < m1.length := by rw [h.up.len]; exact h.lt
  have hoff := hI.fst.off h.way
  have hset : ∀ x, (mA (setUp m1 c (cz (J ++ [(a, b)]) (V ++ [wv]) ec)) x).up = if x = c then cz (J ++ [(a, b)]) (V ++ [wv]) ec else (mA m1 x).up := fun x => by
    unfold setUp; rw [mA_set _ _ _ hc1]; split <;> rfl
  refine ⟨e, q', rfl, ?_, hl, eB_more he, ?_⟩
  · rw [h.old c On.start, hu, cz_more he hI.lenV]
  · obtain ⟨p, hp⟩ := h.here
    refine ⟨h.up.setUp h.lt _, hl, by rw [← hrc]; exact hp2, ⟨ec :: p, ⟨?_, ?_, ?_⟩, ?_, hp.2⟩, h.way.2.1, fun x hx => ?_, fun x hx hr => ?_, fun x hx hr hn => ?_⟩
    · show e.1 < _; rw [List.length_append]; omega
    · rw [eA_tn, eB_more he]
    · rw [eB_tn, eA_more he, h.way.from_]; exact hp.1
    · rw [tn_tn]
      intro h3
      simp only [List.head?_cons, Option.some.injEq] at h3
      exact h.hd (by rw [h3]; rfl)
    · rw [hset, if_neg (fun (e' : x = c) => hoff (e' ▸ hx))]
      exact h.old x (On.cons he h.way.from_ hx)
    · rw [hset, if_neg (fun e' => hr (by rw [e']; exact hrc))]
      exact h.far x hx hr
    · by_cases hxc : x = c
      · subst hxc
        exact ⟨ec, p, hp, by rw [hset, if_pos rfl]⟩
      · obtain ⟨e2, p2, h5, h6⟩ := h.new x hx hr (fun ho => by
          rcases ho.cases with h7 | h7
          · exact hxc h7
          · exact hn h7)
        exact ⟨e2, p2, h5, by rw [hset, if_neg hxc]; exact h6⟩

/-- What hang leaves. -/
structure HungI (J : List (Nat × Nat)) (V : List Value) (m : List Mv) (a b : Nat) (wv : Value) (A B : Nat) (m1 : List Mv) : Prop where
  up : UpOnly m m1
  far : ∀ x, x < m.length → (mA m x).rt ≠ (mA m A).rt → (mA m1 x).up = (mA m x).up
  new : ∀ x, x < m.length → (mA m x).rt = (mA m A).rt → NU (J ++ [(a, b)]) (V ++ [wv]) (mA m B).rt m1 x
theorem HangI.done {J : List (Nat × Nat)} {V : List Value} {m : List Mv} {a b A B : Nat} {e0 : Ed} (hI : FoI J V m) (hN : NewJ J m a b e0 A B) {wv : Value} {m1 : List Mv} {ec : Ed} {q : List Ed} (h : HangI J V m a b wv A B m1 (mA m A).rt ec q) :
    HungI J V m a b wv A B (setUp m1 (mA m A).rt (cz (J ++ [(a, b)]) (V ++ [wv]) ec)) := by
  have hq : q = [] := hI.fst.loop h.way
  subst hq
  have hc1 : (mA m A).rt < m1.length := by rw [h.up.len]; exact h.lt
  have hset : ∀ x, (mA (setUp m1 (mA m A).rt (cz (J ++ [(a, b)]) (V ++ [wv]) ec)) x).up = if x = (mA m A).rt then cz (J ++ [(a, b)]) (V ++ [wv]) ec else (mA m1 x).up := fun x => by
    unfold setUp; rw [mA_set _ _ _ hc1]; split <;> rfl
  obtain ⟨p, hp⟩ := h.here
  refine ⟨h.up.setUp h.lt _, fun x hx hr => ?_, fun x hx hr => ?_⟩
  · rw [hset, if_neg (fun e' => hr (by rw [e']; exact hI.rtrt hN.lA))]
    exact h.far x hx hr
  · by_cases hxc : x = (mA m A).rt
    · subst hxc
      exact ⟨ec, p, hp, by rw [hset, if_pos rfl]⟩
    · obtain ⟨e2, p2, h5, h6⟩ := h.new x hx hr (fun ho => hxc ho.nil)
      exact ⟨e2, p2, h5, by rw [hset, if_neg hxc]; exact h6⟩

/-- What gather leaves. -/
structure GathI (m m1 m2 : List Mv) (A B : Nat) : Prop where
  len : m2.length = m.length
  rt : ∀ x, x < m.length → (mA m2 x).rt = if (mA m x).rt = (mA m A).rt then (mA m B).rt else (mA m x).rt
  up : ∀ x, (mA m2 x).up = (mA m1 x).up
  nx : ∀ x, (mA m2 x).nx = if x = A then (mA m B).nx else if x = B then (mA m A).nx else (mA m x).nx
  sz : ∀ x, (mA m2 x).sz = if x = (mA m B).rt then (mA m (mA m B).rt).sz + (mA m (mA m A).rt).sz else (mA m x).sz
  ls : ∀ x, (mA m2 x).ls = if x = (mA m B).rt then min (mA m (mA m B).rt).ls (mA m (mA m A).rt).ls else (mA m x).ls

theorem ring_rot {nx : Nat → Nat} {z x : Nat} {l : List Nat} (h1 : RingC nx z l z) (h2 : (z :: l).Nodup) (hx : x ∈ z :: l) : ∃ l', RingC nx x l' x ∧ (x :: l').Nodup ∧ (∀ y, y ∈ x :: l' ↔ y ∈ z :: l) ∧ l'.length = l.length := by
  rcases List.mem_cons.1 hx with rfl | hx
  · exact ⟨l, h1, h2, fun _ => Iff.rfl, rfl⟩
  · obtain ⟨l1, l2, rfl⟩ := List.append_of_mem hx
    obtain ⟨k1, k2⟩ := h1.cut
    refine ⟨l2 ++ z :: l1, k2.append k1, ?_, fun y => ?_, by simp; omega⟩
    · have : List.Perm (x :: (l2 ++ z :: l1)) (z :: (l1 ++ x :: l2)) := by
        have p1 : List.Perm (x :: (l2 ++ z :: l1)) ((z :: l1) ++ (x :: l2)) := by
          have := List.perm_append_comm (l₁ := x :: l2) (l₂ := z :: l1)
          simpa using this
        simpa using p1
      exact this.nodup_iff.2 h2
    · simp only [List.mem_cons, List.mem_append]
      constructor
      · rintro (h | h | h | h) <;> simp [h]
      · rintro (h | h | h | h) <;> simp [h]

theorem FoI.joined {J : List (Nat × Nat)} {V : List Value} {m : List Mv} {a b A B : Nat} {e0 : Ed} (hI : FoI J V m) (hN : NewJ J m a b e0 A B) {wv : Value} {m1 m2 : List Mv} (h1 : HungI J V m a b wv A B m1) (h2 : GathI m m1 m2 A B) : FoI (J ++ [(a, b)]) (V ++ [wv]) m2 := by
  have hA := hN.lA
  have hB := hN.lB
  have hne := hN.nAB
  have ends : ∀ i, i < (J ++ [(a, b)]).length → ((J ++ [(a, b)]).getD i (0, 0)).1 < m.length ∧ ((J ++ [(a, b)]).getD i (0, 0)).2 < m.length := by
    intro i hi
    by_cases h : i < J.length
    · rw [getJ_lt h]; exact hI.ends i h
    · rw [List.length_append] at hi
      have : i = J.length := by simp at hi; omega
      subst this
      have : (J ++ [(a, b)]).getD J.length (0, 0) = (a, b) := by simp
      rw [this]; exact ⟨hN.ha, hN.hb⟩
  have edge : ∀ e : Ed, e.1 < (J ++ [(a, b)]).length → Cn (J ++ [(a, b)]) (eA (J ++ [(a, b)]) e) (eB (J ++ [(a, b)]) e) ∧ (mA m2 (eA (J ++ [(a, b)]) e)).rt = (mA m2 (eB (J ++ [(a, b)]) e)).rt := by
    intro e he
    refine ⟨Cn.step he, ?_⟩
    by_cases h : e.1 < J.length
    · rw [eA_more h, eB_more h, h2.rt _ (hI.endA h), h2.rt _ (hI.endB h), hI.cn _ _ (hI.endA h) (Cn.step h)]
    · have hi : e.1 = J.length := by rw [List.length_append] at he; simp at he; omega
      have rA : (mA m2 A).rt = (mA m B).rt := by rw [h2.rt _ hA, if_pos rfl]
      have rB : (mA m2 B).rt = (mA m B).rt := by rw [h2.rt _ hB, if_neg hne.symm]
      have rab : (mA m2 a).rt = (mA m2 b).rt := by
        rcases hN.two with ⟨rfl, rfl, _⟩ | ⟨rfl, rfl, _⟩
        · rw [rA, rB]
        · rw [rA, rB]
      rcases end_last (a := a) (b := b) hi with ⟨e1, e2⟩ | ⟨e1, e2⟩
      · rw [e1, e2, rab]
      · rw [e1, e2, rab]
  have rt2 : ∀ x, x < m.length → (mA m2 x).rt < m.length := by
    intro x hx
    rw [h2.rt x hx]; split
    · exact (hI.rt B hB).1
    · exact (hI.rt x hx).1
  have same : ∀ x y, x < m.length → y < m.length → ((mA m2 y).rt = (mA m2 x).rt ↔ ((mA m y).rt = (mA m x).rt ∨ (((mA m x).rt = (mA m A).rt ∨ (mA m x).rt = (mA m B).rt) ∧ ((mA m y).rt = (mA m A).rt ∨ (mA m y).rt = (mA m B).rt)))) := by
    intro x y hx hy
    rw [h2.rt x hx, h2.rt y hy]
    by_cases c1 : (mA m x).rt = (mA m A).rt
    · by_cases c2 : (mA m y).rt = (mA m A).rt
      · simp [c1, c2]
      · rw [if_pos c1, if_neg c2]
        constructor
        · intro e; exact .inr ⟨.inl c1, .inr e⟩
        · rintro (e | ⟨_, e | e⟩)
          · exact absurd (e.trans c1) c2
          · exact absurd e c2
          · exact e
    · by_cases c2 : (mA m y).rt = (mA m A).rt
      · rw [if_neg c1, if_pos c2]
        constructor
        · intro e; exact .inr ⟨.inr e.symm, .inl c2⟩
        · rintro (e | ⟨e | e, _⟩)
          · exact absurd (e.symm.trans c2) c1
          · exact absurd e c1
          · exact e.symm
      · rw [if_neg c1, if_neg c2]
        constructor
        · intro e; exact .inl e
        · rintro (e | ⟨e1 | e1, e2 | e2⟩)
          · exact e
          · exact absurd e1 c1
          · exact absurd e1 c1
          · exact absurd e2 c2
          · rw [e1, e2]
  refine ⟨hN.fst hI, by simp [hI.lenV], by rw [h2.len]; exact ends, ?_, ?_, ?_, ?_, ?_⟩
  · rw [h2.len]
    intro x hx
    refine ⟨rt2 x hx, ?_⟩
    rw [h2.rt x hx]
    split
    · next c =>
      have c1 : Cn (J ++ [(a, b)]) x A := ((hI.cn_iff hx hA).2 c).more
      have c2 : Cn (J ++ [(a, b)]) A B := by have := (edge e0 hN.ed).1; rw [hN.eA, hN.eB] at this; exact this
      exact (c1.trans c2).trans (hI.rt B hB).2.more
    · exact (hI.rt x hx).2.more
  · rw [h2.len]
    rintro x y hx ⟨p, hp⟩
    have key : ∀ (p : List Ed) (x y : Nat), Wk (J ++ [(a, b)]) x p y → (mA m2 x).rt = (mA m2 y).rt := by
      intro p
      induction p with
      | nil => intro x y hw; cases hw; rfl
      | cons e p ih =>
        intro x y hw
        rw [← ih _ _ hw.2.2, ← (edge e hw.1).2, hw.2.1]
    exact key p x y hp
  · rw [h2.len]
    intro x hx hn
    by_cases c : (mA m x).rt = (mA m A).rt
    · obtain ⟨e, p, k1, k2⟩ := h1.new x hx c
      refine ⟨e, p, ?_, by rw [h2.up x]; exact k2⟩
      rw [h2.rt x hx, if_pos c]; exact k1
    · rw [h2.rt x hx, if_neg c] at hn ⊢
      obtain ⟨e, p, k1, k2⟩ := hI.up x hx hn
      exact ⟨e, p, k1.more, by rw [h2.up, h1.far x hx c, k2, cz_more k1.lt hI.lenV]⟩
  · rw [h2.len]
    intro x hx
    by_cases c : (mA m x).rt = (mA m A).rt ∨ (mA m x).rt = (mA m B).rt
    · obtain ⟨la, a1, a2, a3, a4⟩ := hI.ring A hA
      obtain ⟨lb, b1, b2, b3, b4⟩ := hI.ring B hB
      have dis : ∀ y, y ∈ A :: la → y ∈ B :: lb → False := fun y h3 h4 => hne (((a3 y).1 h3).2.symm.trans ((b3 y).1 h4).2)
      have hAB : A ≠ B := fun e => hne (by rw [e])
      have r1 : RingC (fun y => (mA m2 y).nx) A lb B := b1.congr (by show (mA m2 A).nx = _; rw [h2.nx, if_pos rfl]) (fun y hy => by
        show (mA m2 y).nx = _
        rw [h2.nx, if_neg (fun e => dis A (by simp) (by rw [e] at hy; simp [hy])), if_neg (fun e => by rw [e] at hy; exact (List.nodup_cons.1 b2).1 hy)])
      have r2 : RingC (fun y => (mA m2 y).nx) B la A := a1.congr (by show (mA m2 B).nx = _; rw [h2.nx, if_neg hAB.symm, if_pos rfl]) (fun y hy => by
        show (mA m2 y).nx = _
        rw [h2.nx, if_neg (fun e => by rw [e] at hy; exact (List.nodup_cons.1 a2).1 hy), if_neg (fun e => dis B (by rw [e] at hy; simp [hy]) (by simp))])
      have rr := r1.append r2
      have hmem : ∀ y, y ∈ A :: (lb ++ B :: la) ↔ (y ∈ A :: la ∨ y ∈ B :: lb) := by
        intro y
        simp only [List.mem_cons, List.mem_append]
        constructor
        · rintro (h | h | h | h) <;> simp [h]
        · rintro ((h | h) | h | h) <;> simp [h]
      have nd : (A :: (lb ++ B :: la)).Nodup := by
        have p1 : List.Perm (A :: (lb ++ B :: la)) ((A :: la) ++ (B :: lb)) := by
          have h3 : List.Perm (lb ++ B :: la) (la ++ B :: lb) := by
            have q1 : List.Perm (lb ++ B :: la) (B :: (lb ++ la)) := List.perm_middle
            have q2 : List.Perm (la ++ B :: lb) (B :: (la ++ lb)) := List.perm_middle
            exact q1.trans ((List.Perm.cons B List.perm_append_comm).trans q2.symm)
          simpa using List.Perm.cons A h3
        refine p1.nodup_iff.2 ?_
        rw [List.nodup_append]
        exact ⟨a2, b2, fun y hy z hz e => dis y hy (e ▸ hz)⟩
      have hx2 : x ∈ A :: (lb ++ B :: la) := by
        rw [hmem]
        rcases c with c | c
        · exact .inl ((a3 x).2 ⟨hx, c⟩)
        · exact .inr ((b3 x).2 ⟨hx, c⟩)
      obtain ⟨l', k1, k2, k3, k4⟩ := ring_rot rr nd hx2
      refine ⟨l', k1, k2, fun y => ?_, ?_⟩
      · rw [k3, hmem, a3, b3]
        constructor
        · rintro (⟨h3, h4⟩ | ⟨h3, h4⟩)
          · exact ⟨h3, (same x y hx h3).2 (.inr ⟨c, .inl h4⟩)⟩
          · exact ⟨h3, (same x y hx h3).2 (.inr ⟨c, .inr h4⟩)⟩
        · rintro ⟨h3, h4⟩
          rcases (same x y hx h3).1 h4 with h5 | ⟨_, h5 | h5⟩
          · rcases c with c | c
            · exact .inl ⟨h3, h5.trans c⟩
            · exact .inr ⟨h3, h5.trans c⟩
          · exact .inl ⟨h3, h5⟩
          · exact .inr ⟨h3, h5⟩
      · have hr : (mA m2 x).rt = (mA m B).rt := by
          rw [h2.rt x hx]
          rcases c with c | c
          · rw [if_pos c]
          · rw [if_neg (fun e => hne (e.symm.trans c)), c]
        rw [hr, h2.sz, if_pos rfl, b4, a4, k4]
        simp; omega
    · have cA : ¬ (mA m x).rt = (mA m A).rt := fun e => c (.inl e)
      have cB : ¬ (mA m x).rt = (mA m B).rt := fun e => c (.inr e)
      obtain ⟨l, k1, k2, k3, k4⟩ := hI.ring x hx
      have nxe : ∀ y, y ∈ x :: l → (mA m2 y).nx = (mA m y).nx := fun y hy => by
        have := (k3 y).1 hy
        rw [h2.nx, if_neg (fun e => cA (by rw [e] at this; exact this.2.symm)), if_neg (fun e => cB (by rw [e] at this; exact this.2.symm))]
      have hr : (mA m2 x).rt = (mA m x).rt := by rw [h2.rt x hx, if_neg cA]
      refine ⟨l, k1.congr (nxe x (by simp)) (fun y hy => nxe y (by simp [hy])), k2, fun y => ?_, ?_⟩
      · rw [k3]
        constructor
        · rintro ⟨h3, h4⟩; exact ⟨h3, (same x y hx h3).2 (.inl h4)⟩
        · rintro ⟨h3, h4⟩
          rcases (same x y hx h3).1 h4 with h5 | ⟨h5, _⟩
          · exact ⟨h3, h5⟩
          · exact absurd h5 c
      · rw [hr, h2.sz, if_neg (fun e => cB e), k4]
  · rw [h2.len]
    intro x hx
    have lA := hI.least A hA
    have lB := hI.least B hB
    have lx := hI.least x hx
    by_cases c : (mA m x).rt = (mA m A).rt ∨ (mA m x).rt = (mA m B).rt
    · have hr : (mA m2 x).rt = (mA m B).rt := by
        rw [h2.rt x hx]
        rcases c with c | c
        · rw [if_pos c]
        · rw [if_neg (fun e => hne (e.symm.trans c)), c]
      rw [hr, h2.ls, if_pos rfl]
      refine ⟨?_, ?_, ?_⟩
      · rcases c with c | c
        · rw [c] at lx; exact Nat.le_trans (Nat.min_le_right _ _) lx.1
        · rw [c] at lx; exact Nat.le_trans (Nat.min_le_left _ _) lx.1
      · exact Nat.lt_of_le_of_lt (Nat.min_le_left _ _) lB.2.1
      · rcases Nat.le_total (mA m (mA m B).rt).ls (mA m (mA m A).rt).ls with h | h
        · rw [Nat.min_eq_left h, h2.rt _ lB.2.1, lB.2.2, if_neg hne.symm]
        · rw [Nat.min_eq_right h, h2.rt _ lA.2.1, lA.2.2, if_pos rfl]
    · have cA : ¬ (mA m x).rt = (mA m A).rt := fun e => c (.inl e)
      have cB : ¬ (mA m x).rt = (mA m B).rt := fun e => c (.inr e)
      have hr : (mA m2 x).rt = (mA m x).rt := by rw [h2.rt x hx, if_neg cA]
      rw [hr, h2.ls, if_neg cB]
      refine ⟨lx.1, lx.2.1, ?_⟩
      rw [h2.rt _ lx.2.1, lx.2.2, if_neg cA]
end Go.Proofs.Ytfnbkffphpidbaa
