/-
  A forest's members, plainly: what each knows of its group, and that a further member and a joint keep it.
-/
import Derived.Test.YtfnbkffphpidbaaFoP
import Derived.WalkKit
set_option linter.unusedSimpArgs false
set_option linter.unusedVariables false
namespace Go.Proofs.Ytfnbkffphpidbaa

/-- A step as the program tells it. -/
structure Eg where
  f : Nat
  t : Nat
  w : Value
  b : Bool
def Eg.tn (g : Eg) : Eg := ⟨g.t, g.f, g.w, !g.b⟩
structure Mv where
  rt : Nat
  up : Eg
  nx : Nat
  sz : Nat
  ls : Nat
def nilV : Value := .nilIface
def eg0 : Eg := ⟨0, 0, nilV, false⟩
def mv0 : Mv := ⟨0, eg0, 0, 0, 0⟩
def mA (m : List Mv) (x : Nat) : Mv := m.getD x mv0
def cz (J : List (Nat × Nat)) (V : List Value) (e : Ed) : Eg := ⟨eA J e, eB J e, V.getD e.1 nilV, e.2⟩
theorem cz_tn (J : List (Nat × Nat)) (V : List Value) (e : Ed) : (cz J V e).tn = cz J V (tn e) := by
  simp [cz, Eg.tn, eA_tn, eB_tn]; simp [tn]
theorem cz_more {J K : List (Nat × Nat)} {V L : List Value} {e : Ed} (h : e.1 < J.length) (hv : V.length = J.length) : cz (J ++ K) (V ++ L) e = cz J V e := by
  unfold cz
  rw [eA_more h, eB_more h]
  congr 1
  simp only [List.getD_eq_getElem?_getD, List.getElem?_append, if_pos (hv ▸ h)]

/-- From x on by nx over l to s. -/
def RingC (nx : Nat → Nat) : Nat → List Nat → Nat → Prop
  | x, [], s => nx x = s
  | x, y :: l, s => nx x = y ∧ RingC nx y l s
theorem RingC.append {nx : Nat → Nat} : ∀ {x y s : Nat} {l1 l2 : List Nat}, RingC nx x l1 y → RingC nx y l2 s → RingC nx x (l1 ++ y :: l2) s
  | x, y, s, [], l2, h, k => ⟨h, k⟩
  | x, y, s, z :: l1, l2, ⟨h1, h2⟩, k => ⟨h1, RingC.append h2 k⟩
theorem RingC.cut {nx : Nat → Nat} : ∀ {x y s : Nat} {l1 l2 : List Nat}, RingC nx x (l1 ++ y :: l2) s → RingC nx x l1 y ∧ RingC nx y l2 s
  | x, y, s, [], l2, ⟨h1, h2⟩ => ⟨h1, h2⟩
  | x, y, s, z :: l1, l2, ⟨h1, h2⟩ => let ⟨a, b⟩ := RingC.cut h2; ⟨⟨h1, a⟩, b⟩
theorem RingC.congr {nx nx' : Nat → Nat} : ∀ {x x' s : Nat} {l : List Nat}, RingC nx x l s → nx' x' = nx x → (∀ y ∈ l, nx' y = nx y) → RingC nx' x' l s
  | x, x', s, [], h, h1, _ => h1.trans h
  | x, x', s, y :: l, ⟨h, k⟩, h1, h2 => ⟨h1.trans h, RingC.congr k (h2 y (by simp)) (fun z hz => h2 z (by simp [hz]))⟩
/-- One step on: what is left. -/
theorem RingC.at_ {nx : Nat → Nat} : ∀ {x s : Nat} {l : List Nat} (k : Nat), RingC nx x l s → k ≤ l.length → nx ((x :: l).getD k 0) = if k = l.length then s else (x :: l).getD (k + 1) 0
  | x, s, [], k, h, hk => by
    have : k = 0 := by simpa using hk
    subst this; exact h
  | x, s, y :: l, 0, ⟨h, k⟩, hk => by simpa using h
  | x, s, y :: l, k + 1, ⟨h, h2⟩, hk => by
    have := RingC.at_ (x := y) k h2 (by simpa using hk)
    simpa using this

theorem nodup_le : ∀ (n : Nat) (l : List Nat), l.Nodup → (∀ x ∈ l, x < n) → l.length ≤ n
  | 0, [], _, _ => Nat.le_refl _
  | 0, x :: l, _, h => absurd (h x (by simp)) (by omega)
  | n + 1, l, hd, h => by
    have := nodup_le n (l.erase n) (hd.erase n) (fun x hx => by
      have h1 := (hd.mem_erase_iff).1 hx
      have h2 := h x h1.2
      omega)
    by_cases hn : n ∈ l
    · rw [List.length_erase_of_mem hn] at this; omega
    · rw [List.erase_of_not_mem hn] at this; omega

/-- What holds of a forest: its joints, the values of their reasons, its members. -/
structure FoI (J : List (Nat × Nat)) (V : List Value) (m : List Mv) : Prop where
  fst : Fst J
  lenV : V.length = J.length
  ends : ∀ i, i < J.length → (J.getD i (0, 0)).1 < m.length ∧ (J.getD i (0, 0)).2 < m.length
  rt : ∀ x, x < m.length → (mA m x).rt < m.length ∧ Cn J x (mA m x).rt
  cn : ∀ x y, x < m.length → Cn J x y → (mA m x).rt = (mA m y).rt
  up : ∀ x, x < m.length → (mA m x).rt ≠ x → ∃ e p, Pa J x (e :: p) (mA m x).rt ∧ (mA m x).up = cz J V e
  ring : ∀ x, x < m.length → ∃ l, RingC (fun y => (mA m y).nx) x l x ∧ (x :: l).Nodup ∧ (∀ y, y ∈ x :: l ↔ y < m.length ∧ (mA m y).rt = (mA m x).rt) ∧ (mA m (mA m x).rt).sz = l.length + 1
  least : ∀ x, x < m.length → (mA m (mA m x).rt).ls ≤ x ∧ (mA m (mA m x).rt).ls < m.length ∧ (mA m (mA m (mA m x).rt).ls).rt = (mA m x).rt

theorem FoI.endA {J : List (Nat × Nat)} {V : List Value} {m : List Mv} (h : FoI J V m) {e : Ed} (he : e.1 < J.length) : eA J e < m.length := by
  have := h.ends _ he; unfold eA; cases e.2
  · exact this.1
  · exact this.2
theorem FoI.endB {J : List (Nat × Nat)} {V : List Value} {m : List Mv} (h : FoI J V m) {e : Ed} (he : e.1 < J.length) : eB J e < m.length := by
  have := h.ends _ he; unfold eB; cases e.2
  · exact this.2
  · exact this.1
theorem FoI.lt {J : List (Nat × Nat)} {V : List Value} {m : List Mv} (h : FoI J V m) : ∀ {p : List Ed} {x y : Nat}, Wk J x p y → x < m.length → y < m.length
  | [], x, y, hw, hx => by cases hw; exact hx
  | e :: p, x, y, ⟨h1, _, h3⟩, _ => FoI.lt h h3 (h.endB h1)
theorem FoI.gt {J : List (Nat × Nat)} {V : List Value} {m : List Mv} (h : FoI J V m) {p : List Ed} {x y : Nat} (hw : Wk J x p y) (hx : ¬ x < m.length) : p = [] ∧ y = x := by
  cases p with
  | nil => exact ⟨rfl, hw.symm⟩
  | cons e p => exact absurd (hw.2.1 ▸ h.endA hw.1) hx
theorem FoI.cn_iff {J : List (Nat × Nat)} {V : List Value} {m : List Mv} (h : FoI J V m) {x y : Nat} (hx : x < m.length) (hy : y < m.length) : Cn J x y ↔ (mA m x).rt = (mA m y).rt :=
  ⟨h.cn x y hx, fun e => (h.rt x hx).2.trans (e ▸ (h.rt y hy).2.symm)⟩
theorem FoI.rtrt {J : List (Nat × Nat)} {V : List Value} {m : List Mv} (h : FoI J V m) {x : Nat} (hx : x < m.length) : (mA m (mA m x).rt).rt = (mA m x).rt := (h.cn x _ hx (h.rt x hx).2).symm
theorem FoI.way {J : List (Nat × Nat)} {V : List Value} {m : List Mv} (h : FoI J V m) {x : Nat} (hx : x < m.length) : ∃ p, Pa J x p (mA m x).rt := (h.rt x hx).2.way
/-- One step up. -/
theorem FoI.step {J : List (Nat × Nat)} {V : List Value} {m : List Mv} (h : FoI J V m) {x : Nat} (hx : x < m.length) {p : List Ed} (hp : Pa J x p (mA m x).rt) (hne : x ≠ (mA m x).rt) :
    ∃ e q, p = e :: q ∧ (mA m x).up = cz J V e ∧ eB J e < m.length ∧ (mA m (eB J e)).rt = (mA m x).rt ∧ Pa J (eB J e) q (mA m x).rt := by
  obtain ⟨e, q, h1, h2⟩ := h.up x hx (Ne.symm hne)
  have := h.fst.uniq _ _ _ _ hp h1
  subst this
  have hb := h.endB h1.lt
  refine ⟨e, q, rfl, h2, hb, ?_, h1.tail⟩
  exact (h.cn x _ hx (by have := Cn.step (J := J) h1.lt; rw [h1.from_] at this; exact this)).symm

theorem vis_nodup {J : List (Nat × Nat)} (hf : Fst J) : ∀ {p : List Ed} {a b : Nat}, Pa J a p b → (a :: p.map (eB J)).Nodup
  | [], a, b, _ => by simp
  | e :: p, a, b, h => by
    have ih := vis_nodup hf h.tail
    rw [List.map_cons, List.nodup_cons]
    refine ⟨fun hm => ?_, ih⟩
    have key : ∀ {q : List Ed} {c d : Nat} {x : Nat}, Wk J c q d → x ∈ c :: q.map (eB J) → On J c q x := by
      intro q
      induction q with
      | nil => intro c d x _ hx; simp at hx; subst hx; exact On.start
      | cons f q ih2 =>
        intro c d x hw hx
        rw [List.map_cons, List.mem_cons] at hx
        rcases hx with rfl | hx
        · exact On.start
        · exact On.cons hw.1 hw.2.1 (ih2 hw.2.2 hx)
    exact hf.off h (key h.tail.1 hm)
theorem FoI.short {J : List (Nat × Nat)} {V : List Value} {m : List Mv} (h : FoI J V m) {p : List Ed} {a b : Nat} (hp : Pa J a p b) (ha : a < m.length) : p.length < m.length := by
  have h1 := nodup_le m.length _ (vis_nodup h.fst hp) (fun x hx => by
    rcases List.mem_cons.1 hx with rfl | hx
    · exact ha
    · obtain ⟨e, he, rfl⟩ := List.mem_map.1 hx
      refine h.endB ?_
      have : ∀ {q : List Ed} {c d : Nat}, Wk J c q d → ∀ e ∈ q, e.1 < J.length := by
        intro q
        induction q with
        | nil => intro c d _ e he; cases he
        | cons f q ih =>
          intro c d hw e he
          rcases List.mem_cons.1 he with rfl | he
          · exact hw.1
          · exact ih hw.2.2 e he
      exact this hp.1 e he)
  simp at h1; omega

theorem FoI.empty : FoI [] [] [] := ⟨.nil, rfl, by simp, by simp, by simp, by simp, by simp, by simp⟩

theorem mA_snoc (m : List Mv) (y : Mv) (x : Nat) : mA (m ++ [y]) x = if x < m.length then mA m x else if x = m.length then y else mv0 := by
  unfold mA
  simp only [List.getD_eq_getElem?_getD, List.getElem?_append]
  split
  · rfl
  · split
    · next h => subst h; simp
    · next h1 h2 => rw [List.getElem?_eq_none (by simp; omega)]; rfl
def newM (n : Nat) : Mv := ⟨n, eg0, n, 1, n⟩
theorem FoI.add {J : List (Nat × Nat)} {V : List Value} {m : List Mv} (h : FoI J V m) : FoI J V (m ++ [newM m.length]) := by
  have hl : (m ++ [newM m.length]).length = m.length + 1 := by simp
  have old : ∀ x, x < m.length → mA (m ++ [newM m.length]) x = mA m x := fun x hx => by rw [mA_snoc, if_pos hx]
  have new : mA (m ++ [newM m.length]) m.length = newM m.length := by rw [mA_snoc, if_neg (by omega), if_pos rfl]
  refine ⟨h.fst, h.lenV, fun i hi => ?_, fun x hx => ?_, fun x y hx hc => ?_, fun x hx hn => ?_, fun x hx => ?_, fun x hx => ?_⟩
  · have := h.ends i hi; rw [hl]; omega
  · rw [hl] at hx ⊢
    by_cases hx' : x < m.length
    · rw [old x hx']; have := h.rt x hx'; exact ⟨by omega, this.2⟩
    · obtain rfl : x = m.length := by omega
      rw [new]; exact ⟨by simp [newM], Cn.refl _ _⟩
  · rw [hl] at hx
    by_cases hx' : x < m.length
    · obtain ⟨p, hp⟩ := hc
      have hy := h.lt hp hx'
      rw [old x hx', old y hy]
      exact h.cn x y hx' ⟨p, hp⟩
    · obtain ⟨p, hp⟩ := hc
      rw [(h.gt hp hx').2]
  · rw [hl] at hx
    by_cases hx' : x < m.length
    · rw [old x hx'] at hn ⊢; exact h.up x hx' hn
    · obtain rfl : x = m.length := by omega
      rw [new] at hn; exact absurd rfl hn
  · rw [hl] at hx
    by_cases hx' : x < m.length
    · obtain ⟨l, h1, h2, h3, h4⟩ := h.ring x hx'
      refine ⟨l, ?_, h2, fun y => ?_, ?_⟩
      · exact h1.congr (by show (mA _ x).nx = _; rw [old x hx']) (fun y hy => by show (mA _ y).nx = _; rw [old y ((h3 y).1 (by simp [hy])).1])
      · rw [h3 y, hl, old x hx']
        constructor
        · rintro ⟨a, b⟩; rw [old y a]; exact ⟨by omega, b⟩
        · rintro ⟨a, b⟩
          by_cases hy : y < m.length
          · rw [old y hy] at b; exact ⟨hy, b⟩
          · obtain rfl : y = m.length := by omega
            rw [new] at b
            have := (h.rt x hx').1
            rw [← b] at this; simp [newM] at this
      · rw [old x hx', old _ (h.rt x hx').1]; exact h4
    · obtain rfl : x = m.length := by omega
      refine ⟨[], by show (mA _ _).nx = _; rw [new]; rfl, by simp, fun y => ?_, by rw [new]; show (mA _ m.length).sz = _; rw [new]; rfl⟩
      rw [new, hl]
      constructor
      · intro hy; simp at hy; subst hy; rw [new]; exact ⟨by omega, rfl⟩
      · rintro ⟨a, b⟩
        by_cases hy : y < m.length
        · rw [old y hy] at b
          have := (h.rt y hy).1
          rw [b] at this; simp [newM] at this
        · simp; omega
  · rw [hl] at hx
    by_cases hx' : x < m.length
    · have := h.least x hx'
      rw [old x hx', old _ (h.rt x hx').1, old _ this.2.1, hl]
      exact ⟨this.1, by omega, this.2.2⟩
    · obtain rfl : x = m.length := by omega
      rw [new]
      have e1 : (mA (m ++ [newM m.length]) (newM m.length).rt) = newM m.length := new
      rw [e1]
      have e2 : (mA (m ++ [newM m.length]) (newM m.length).ls) = newM m.length := new
      rw [e2, hl]
      exact ⟨Nat.le_refl _, by simp [newM], rfl⟩
end Go.Proofs.Ytfnbkffphpidbaa
