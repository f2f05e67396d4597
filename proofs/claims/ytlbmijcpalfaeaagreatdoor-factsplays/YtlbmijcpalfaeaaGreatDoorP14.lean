/-
  PcA.
-/
import Derived.Test.YtlbmijcpalfaeaaGreatDoorP12
import Derived.Test.YtlbmijcpalfaeaaGreatDoorP13
set_option linter.unusedSimpArgs false
set_option linter.unusedVariables false
namespace Go.Proofs.YtlbmijcpalfaeaaGreatDoor
open Go.RowKit Go.Lib

theorem formL {x y : Nd} (hx : formB x = true) (hy : formB y = true) (h : x.op = y.op) : x.kids.length = y.kids.length := by
  unfold formB fitB at hx hy
  simp only [Bool.and_eq_true, decide_eq_true_eq] at hx hy
  rw [h] at hx
  omega
theorem formC {x : Nd} (hx : formB x = true) : (chk x.name).2 = 0 := by
  unfold formB fitB at hx
  simp only [Bool.and_eq_true] at hx
  have h := hx.2
  split at h
  · exact name_chk _ h
  · exact empty_chk _ h
theorem formN {x y : Nd} (hx : formB x = true) (hy : formB y = true) (h : ordI x.name y.name = 0) : x.name = y.name := name_eq (formC hx) (formC hy) h
theorem formR {x : Nd} (ks : List Int) (h : formB x = true) (hl : ks.length = x.kids.length) : formB { x with kids := ks } = true := by
  unfold formB at h ⊢
  simp only
  rw [hl]; exact h
/-- A comparison that is an order on what P holds of. -/
structure Cmp {α : Type} (P : α → Prop) (c : α → α → Int) : Prop where
  neg : ∀ a b, P a → P b → c a b = -c b a
  trans : ∀ a b d, P a → P b → P d → c a b ≤ 0 → c b d ≤ 0 → c a d ≤ 0
theorem Cmp.self {α : Type} {P : α → Prop} {c : α → α → Int} (h : Cmp P c) {a : α} (ha : P a) : c a a = 0 := by have := h.neg a a ha ha; omega
theorem Cmp.mono {α : Type} {P Q : α → Prop} {c : α → α → Int} (h : Cmp P c) (hq : ∀ a, Q a → P a) : Cmp Q c :=
  ⟨fun a b ha hb => h.neg a b (hq a ha) (hq b hb), fun a b d ha hb hd => h.trans a b d (hq a ha) (hq b hb) (hq d hd)⟩
def lexC {α : Type} (c d : α → α → Int) (a b : α) : Int := if c a b = 0 then d a b else c a b
theorem Cmp.lex {α : Type} {P : α → Prop} {c d : α → α → Int} (h : Cmp P c) (k1 : ∀ a b, P a → P b → c a b = 0 → d a b = -d b a) (k2 : ∀ a b e, P a → P b → P e → c a b = 0 → c b e = 0 → c a e = 0 → d a b ≤ 0 → d b e ≤ 0 → d a e ≤ 0) : Cmp P (lexC c d) := by
  refine ⟨fun a b ha hb => ?_, fun a b e ha hb he h1 h2 => ?_⟩
  · unfold lexC
    have := h.neg a b ha hb
    by_cases e : c a b = 0
    · rw [if_pos e, if_pos (by omega), k1 a b ha hb e]
    · rw [if_neg e, if_neg (by omega), this]
  · unfold lexC at *
    have n1 := h.neg a b ha hb
    have n2 := h.neg b e hb he
    have n3 := h.neg a e ha he
    by_cases e1 : c a b = 0
    · rw [if_pos e1] at h1
      by_cases e2 : c b e = 0
      · rw [if_pos e2] at h2
        have t1 := h.trans a b e ha hb he (by omega) (by omega)
        have t2 := h.trans e b a he hb ha (by omega) (by omega)
        rw [if_pos (by omega)]
        exact k2 a b e ha hb he e1 e2 (by omega) h1 h2
      · rw [if_neg e2] at h2
        have t1 := h.trans a b e ha hb he (by omega) (by omega)
        by_cases e3 : c a e = 0
        · have t2 := h.trans e a b he ha hb (by omega) (by omega)
          omega
        · rw [if_neg e3]; exact t1
    · rw [if_neg e1] at h1
      have h2' : c b e ≤ 0 := by
        by_cases e2 : c b e = 0
        · omega
        · rw [if_neg e2] at h2; exact h2
      have t1 := h.trans a b e ha hb he (by omega) h2'
      by_cases e3 : c a e = 0
      · have t2 := h.trans b e a hb he ha (by omega) (by omega)
        omega
      · rw [if_neg e3]; exact t1
theorem cmp_int {α : Type} (f : α → Int) (P : α → Prop) : Cmp P (fun a b => cmp3 (f a) (f b)) :=
  ⟨fun a b _ _ => cmp3_neg _ _, fun a b d _ _ _ h1 h2 => by unfold cmp3 at *; split at h1 <;> split at h2 <;> (try split at h1) <;> (try split at h2) <;> (split <;> (try split)) <;> omega⟩
theorem heads_lex (x y : Nd) : heads x y = lexC (fun x y : Nd => cmp3 x.op y.op) (lexC (fun x y : Nd => cmp3 x.n y.n) (fun x y => ordI x.name y.name)) x y := by
  unfold heads lexC
  simp only [orL]
  by_cases h1 : cmp3 x.op y.op = 0
  · rw [if_pos h1, if_pos h1]
    by_cases h2 : cmp3 x.n y.n = 0
    · rw [if_pos h2, if_pos h2]
      by_cases h3 : ordI x.name y.name = 0
      · rw [if_pos h3, h3]
      · rw [if_neg h3]
    · rw [if_neg h2, if_neg h2]
  · rw [if_neg h1, if_neg h1]
theorem cmp_name (P : Nd → Prop) : Cmp P (fun x y : Nd => ordI x.name y.name) := ⟨fun _ _ _ _ => ord_neg _ _, fun _ _ _ _ _ _ => ord_trans _ _ _⟩
theorem cmp_heads (P : Nd → Prop) : Cmp P heads := by
  have h := (cmp_int (fun x : Nd => x.op) P).lex (d := lexC (fun x y : Nd => cmp3 x.n y.n) (fun x y => ordI x.name y.name))
    (fun a b ha hb _ => (((cmp_int (fun x : Nd => x.n) P).lex (fun a b ha hb _ => (cmp_name P).neg a b ha hb) (fun a b e ha hb he _ _ _ => (cmp_name P).trans a b e ha hb he)).neg a b ha hb))
    (fun a b e ha hb he _ _ _ => (((cmp_int (fun x : Nd => x.n) P).lex (fun a b ha hb _ => (cmp_name P).neg a b ha hb) (fun a b e ha hb he _ _ _ => (cmp_name P).trans a b e ha hb he)).trans a b e ha hb he))
  refine ⟨fun a b ha hb => ?_, fun a b e ha hb he h1 h2 => ?_⟩
  · rw [heads_lex, heads_lex]; exact h.neg a b ha hb
  · rw [heads_lex] at *; exact h.trans a b e ha hb he h1 h2
theorem heads_zero {x y : Nd} (h : heads x y = 0) : x.op = y.op ∧ x.n = y.n ∧ ordI x.name y.name = 0 := by
  rw [heads_lex] at h
  unfold lexC at h
  by_cases h1 : cmp3 x.op y.op = 0
  · rw [if_pos h1] at h
    by_cases h2 : cmp3 x.n y.n = 0
    · rw [if_pos h2] at h
      exact ⟨(cmp3_zero _ _).1 h1, (cmp3_zero _ _).1 h2, h⟩
    · rw [if_neg h2] at h; exact absurd h h2
  · rw [if_neg h1] at h; exact absurd h h1
theorem ordK_if (F : Int → Int → Int) (c : Int) (ks ms : List Int) : ordK F c ks ms = if c = 0 then ordK F 0 ks ms else c := by
  by_cases h : c = 0
  · rw [if_pos h, h]
  · rw [if_neg h, ordK_nz F h]
/-- Kids, one after the other, of lists of one length. -/
theorem ordKN {P : Int → Prop} {F : Int → Int → Int} (h : Cmp P F) : ∀ ks ms : List Int, ks.length = ms.length → (∀ k ∈ ks, P k) → (∀ k ∈ ms, P k) → ordK F 0 ks ms = -ordK F 0 ms ks := by
  intro ks
  induction ks with
  | nil => intro ms hl _ _; cases ms with
    | nil => rfl
    | cons m ms => simp at hl
  | cons k ks ih =>
    intro ms hl h1 h2
    cases ms with
    | nil => simp at hl
    | cons m ms =>
      have hn := h.neg k m (h1 k (by simp)) (h2 m (by simp))
      rw [ordK_zero, ordK_zero, ordK_if, ordK_if F (F m k)]
      by_cases e : F k m = 0
      · rw [if_pos e, if_pos (by omega)]
        exact ih ms (by simpa using hl) (fun x hx => h1 x (by simp [hx])) (fun x hx => h2 x (by simp [hx]))
      · rw [if_neg e, if_neg (by omega), hn]
theorem ordKT {P : Int → Prop} {F : Int → Int → Int} (h : Cmp P F) : ∀ ks ms ls : List Int, ks.length = ms.length → ms.length = ls.length → (∀ k ∈ ks, P k) → (∀ k ∈ ms, P k) → (∀ k ∈ ls, P k) → ordK F 0 ks ms ≤ 0 → ordK F 0 ms ls ≤ 0 → ordK F 0 ks ls ≤ 0 := by
  intro ks
  induction ks with
  | nil => intro ms ls hl hm _ _ _ _ _; cases ls with
    | nil => simp [ordK]
    | cons m ls => cases ms with
      | nil => simp at hm
      | cons _ _ => simp at hl
  | cons k ks ih =>
    intro ms ls hl hm h1 h2 h3 h4 h5
    cases ms with
    | nil => simp at hl
    | cons m ms =>
      cases ls with
      | nil => simp at hm
      | cons l ls =>
        have p1 := h1 k (by simp)
        have p2 := h2 m (by simp)
        have p3 := h3 l (by simp)
        rw [ordK_zero, ordK_if] at h4 h5 ⊢
        have n1 := h.neg k m p1 p2
        have n2 := h.neg m l p2 p3
        have n3 := h.neg k l p1 p3
        by_cases e1 : F k m = 0
        · rw [if_pos e1] at h4
          by_cases e2 : F m l = 0
          · rw [if_pos e2] at h5
            have t1 := h.trans k m l p1 p2 p3 (by omega) (by omega)
            have t2 := h.trans l m k p3 p2 p1 (by omega) (by omega)
            rw [if_pos (by omega)]
            exact ih ms ls (by simpa using hl) (by simpa using hm) (fun x hx => h1 x (by simp [hx])) (fun x hx => h2 x (by simp [hx])) (fun x hx => h3 x (by simp [hx])) h4 h5
          · rw [if_neg e2] at h5
            have t1 := h.trans k m l p1 p2 p3 (by omega) (by omega)
            by_cases e3 : F k l = 0
            · have := h.trans l k m p3 p1 p2 (by omega) (by omega); omega
            · rw [if_neg e3]; exact t1
        · rw [if_neg e1] at h4
          have h5' : F m l ≤ 0 := by
            by_cases e2 : F m l = 0
            · omega
            · rw [if_neg e2] at h5; exact h5
          have t1 := h.trans k m l p1 p2 p3 (by omega) h5'
          by_cases e3 : F k l = 0
          · have := h.trans m l k p2 p3 p1 (by omega) (by omega); omega
          · rw [if_neg e3]; exact t1
theorem ordKE {P : Int → Prop} {F : Int → Int → Int} (h : ∀ a b, P a → P b → F a b = 0 → a = b) : ∀ ks ms : List Int, ks.length = ms.length → (∀ k ∈ ks, P k) → (∀ k ∈ ms, P k) → ordK F 0 ks ms = 0 → ks = ms := by
  intro ks
  induction ks with
  | nil => intro ms hl _ _ _; cases ms with
    | nil => rfl
    | cons m ms => simp at hl
  | cons k ks ih =>
    intro ms hl h1 h2 h3
    cases ms with
    | nil => simp at hl
    | cons m ms =>
      rw [ordK_zero, ordK_if] at h3
      by_cases e : F k m = 0
      · rw [if_pos e] at h3
        rw [h k m (h1 k (by simp)) (h2 m (by simp)) e, ih ms (by simpa using hl) (fun x hx => h1 x (by simp [hx])) (fun x hx => h2 x (by simp [hx])) h3]
      · rw [if_neg e] at h3; exact absurd h3 e
theorem ordKC {F F' : Int → Int → Int} : ∀ (ks ms : List Int) (c : Int), (∀ k ∈ ks, ∀ m ∈ ms, F k m = F' k m) → ordK F c ks ms = ordK F' c ks ms := by
  intro ks
  induction ks with
  | nil => intro ms c _; rw [ordK_nil, ordK_nil]
  | cons k ks ih =>
    intro ms c h
    cases ms with
    | nil => simp [ordK]
    | cons m ms =>
      simp only [ordK]
      rw [h k (by simp) m (by simp), ih ms _ (fun a ha b hb => h a (by simp [ha]) b (by simp [hb]))]
/-- Two nodes, their kids by F. -/
def nodC (F : Int → Int → Int) (a b : Nd) : Int := ordK F (heads a b) a.kids b.kids
theorem nodC_lex (F : Int → Int → Int) (a b : Nd) : nodC F a b = lexC heads (fun a b => ordK F 0 a.kids b.kids) a b := by
  unfold nodC lexC; rw [ordK_if]
theorem cmp_nod {P : Int → Prop} {F : Int → Int → Int} (h : Cmp P F) : Cmp (fun x : Nd => formB x = true ∧ ∀ k ∈ x.kids, P k) (nodC F) := by
  have key := (cmp_heads (fun x : Nd => formB x = true ∧ ∀ k ∈ x.kids, P k)).lex (d := fun a b => ordK F 0 a.kids b.kids)
    (fun a b ha hb e => ordKN h _ _ (formL ha.1 hb.1 (heads_zero e).1) ha.2 hb.2)
    (fun a b d ha hb hd e1 e2 _ => ordKT h _ _ _ (formL ha.1 hb.1 (heads_zero e1).1) (formL hb.1 hd.1 (heads_zero e2).1) ha.2 hb.2 hd.2)
  refine ⟨fun a b ha hb => ?_, fun a b e ha hb he h1 h2 => ?_⟩
  · rw [nodC_lex, nodC_lex]; exact key.neg a b ha hb
  · rw [nodC_lex] at *; exact key.trans a b e ha hb he h1 h2
theorem nodC_zero {P : Int → Prop} {F : Int → Int → Int} (h : ∀ a b, P a → P b → F a b = 0 → a = b) {x y : Nd} (hx : formB x = true ∧ ∀ k ∈ x.kids, P k) (hy : formB y = true ∧ ∀ k ∈ y.kids, P k) (e : nodC F x y = 0) : x = y := by
  rw [nodC_lex] at e
  unfold lexC at e
  by_cases e1 : heads x y = 0
  · rw [if_pos e1] at e
    obtain ⟨h1, h2, h3⟩ := heads_zero e1
    have h4 := formN hx.1 hy.1 h3
    have h5 := ordKE h _ _ (formL hx.1 hy.1 h1) hx.2 hy.2 e
    obtain ⟨a, b, c, d⟩ := x
    obtain ⟨a', b', c', d'⟩ := y
    simp only at h1 h2 h4 h5
    rw [h1, h2, h4, h5]
  · rw [if_neg e1] at e; exact absurd e e1
/-- The program's order of nodes is that by the kids' numbers. -/
theorem cmpI_ordK : ∀ ks ms : List Int, ks.length = ms.length → cmpI ks ms = ordK cmp3 0 ks ms := by
  intro ks
  induction ks with
  | nil => intro ms h; cases ms with
    | nil => rfl
    | cons m ms => simp at h
  | cons k ks ih =>
    intro ms h
    cases ms with
    | nil => simp at h
    | cons m ms =>
      rw [ordK_zero, ordK_if]
      simp only [cmpI]
      by_cases e : cmp3 k m = 0
      · rw [if_pos e, if_pos e, ih ms (by simpa using h)]
      · rw [if_neg e, if_neg e]
theorem ordN_nod {x y : Nd} (hx : formB x = true) (hy : formB y = true) : ordN x y = nodC cmp3 x y := by
  have e : ordN x y = if heads x y = 0 then cmpI x.kids y.kids else heads x y := by
    unfold ordN heads
    simp only [orL]
    by_cases h1 : cmp3 x.op y.op = 0 <;> by_cases h2 : cmp3 x.n y.n = 0 <;> by_cases h3 : ordI x.name y.name = 0 <;> simp [h1, h2, h3]
    intro h; rw [h]
  rw [e, nodC_lex]
  unfold lexC
  by_cases h : heads x y = 0
  · rw [if_pos h, if_pos h, cmpI_ordK _ _ (formL hx hy (heads_zero h).1)]
  · rw [if_neg h, if_neg h]
/-- The document's order of two classes, by their sizes and least nodes. -/
def ordO (sz : Int → Int) (ls : Int → Nd) : Nat → Int → Int → Int
  | 0, _, _ => 0
  | f + 1, p, q => if p = q then 0 else if sz p < sz q then -1 else if sz q < sz p then 1 else nodC (ordO sz ls f) (ls p) (ls q)
/-- A class below n with a size below s. -/
def InS (n : Nat) (sz : Int → Int) (s : Int) (q : Int) : Prop := 0 ≤ q ∧ q < (n : Int) ∧ sz q < s
/-- The classes with sizes below s have their least nodes. -/
structure LayO (n : Nat) (sz : Int → Int) (ls : Int → Nd) (s : Int) : Prop where
  pos : ∀ q, 0 ≤ q → q < (n : Int) → 0 ≤ sz q
  form : ∀ q, InS n sz s q → formB (ls q) = true
  kids : ∀ q, InS n sz s q → ∀ k ∈ (ls q).kids, 0 ≤ k ∧ k < (n : Int) ∧ sz k < sz q
  inj : ∀ p q, InS n sz s p → InS n sz s q → ls p = ls q → p = q
theorem LayO.mono {n : Nat} {sz : Int → Int} {ls : Int → Nd} {s t : Int} (h : LayO n sz ls s) (ht : t ≤ s) : LayO n sz ls t :=
  ⟨h.pos, fun q hq => h.form q ⟨hq.1, hq.2.1, by have := hq.2.2; omega⟩, fun q hq => h.kids q ⟨hq.1, hq.2.1, by have := hq.2.2; omega⟩, fun p q hp hq => h.inj p q ⟨hp.1, hp.2.1, by have := hp.2.2; omega⟩ ⟨hq.1, hq.2.1, by have := hq.2.2; omega⟩⟩
/-- Neither the fuel nor what stands at greater sizes counts. -/
theorem ordO_congr {n : Nat} {sz : Int → Int} {ls ls' : Int → Nd} : ∀ (f g : Nat) (s : Int) (p q : Int), LayO n sz ls s → (∀ r, InS n sz s r → ls r = ls' r) → InS n sz s p → InS n sz s q → sz p < (f : Int) → sz q < (f : Int) → sz p < (g : Int) → sz q < (g : Int) → ordO sz ls f p q = ordO sz ls' g p q := by
  intro f
  induction f with
  | zero => intro g s p q h _ hp _ h1 _ _ _; have := h.pos p hp.1 hp.2.1; omega
  | succ f ih =>
    intro g s p q h he hp hq h1 h2 h3 h4
    cases g with
    | zero => have := h.pos p hp.1 hp.2.1; omega
    | succ g =>
      simp only [ordO]
      split
      · rfl
      · split
        · rfl
        · split
          · rfl
          · rw [← he p hp, ← he q hq]
            unfold nodC
            refine ordKC _ _ _ fun k hk m hm => ?_
            obtain ⟨a1, a2, a3⟩ := h.kids p hp k hk
            obtain ⟨b1, b2, b3⟩ := h.kids q hq m hm
            have := hp.2.2
            have := hq.2.2
            exact ih g s k m h he ⟨a1, a2, by omega⟩ ⟨b1, b2, by omega⟩ (by omega) (by omega) (by omega) (by omega)
theorem ordO_lex {n : Nat} {sz : Int → Int} {ls : Int → Nd} {s : Int} {f : Nat} (h : LayO n sz ls s) (hc : Cmp (InS n sz s) (ordO sz ls f)) {p q : Int} (hp : InS n sz s p) (hq : InS n sz s q) : ordO sz ls (f + 1) p q = lexC (fun p q => cmp3 (sz p) (sz q)) (fun p q => nodC (ordO sz ls f) (ls p) (ls q)) p q := by
  unfold lexC
  have hk : ∀ r, InS n sz s r → formB (ls r) = true ∧ ∀ k ∈ (ls r).kids, InS n sz s k := fun r hr => ⟨h.form r hr, fun k hk => by
    obtain ⟨a1, a2, a3⟩ := h.kids r hr k hk
    have := hr.2.2
    exact ⟨a1, a2, by omega⟩⟩
  simp only [ordO]
  by_cases e : p = q
  · subst e
    rw [if_pos rfl, cmp3_self, if_pos rfl]
    exact ((cmp_nod hc).self (hk p hp)).symm
  · rw [if_neg e]
    unfold cmp3
    by_cases e1 : sz p < sz q
    · simp [e1]
    · by_cases e2 : sz q < sz p
      · simp [e1, e2]
      · simp [e1, e2]
theorem ordO_cmp {n : Nat} {sz : Int → Int} {ls : Int → Nd} : ∀ (f : Nat) (s : Int), LayO n sz ls s → Cmp (InS n sz s) (ordO sz ls f) := by
  intro f
  induction f with
  | zero => intro s _; exact ⟨fun _ _ _ _ => rfl, fun _ _ _ _ _ _ _ _ => by simp [ordO]⟩
  | succ f ih =>
    intro s h
    have hc := ih s h
    have hk : ∀ r, InS n sz s r → formB (ls r) = true ∧ ∀ k ∈ (ls r).kids, InS n sz s k := fun r hr => ⟨h.form r hr, fun k hk => by
      obtain ⟨a1, a2, a3⟩ := h.kids r hr k hk
      have := hr.2.2
      exact ⟨a1, a2, by omega⟩⟩
    have hn := cmp_nod hc
    have key := (cmp_int sz (InS n sz s)).lex (d := fun p q => nodC (ordO sz ls f) (ls p) (ls q)) (fun a b ha hb _ => hn.neg _ _ (hk a ha) (hk b hb)) (fun a b e ha hb he _ _ _ => hn.trans _ _ _ (hk a ha) (hk b hb) (hk e he))
    refine ⟨fun a b ha hb => ?_, fun a b e ha hb he h1 h2 => ?_⟩
    · rw [ordO_lex h hc ha hb, ordO_lex h hc hb ha]; exact key.neg a b ha hb
    · rw [ordO_lex h hc ha hb] at h1
      rw [ordO_lex h hc hb he] at h2
      rw [ordO_lex h hc ha he]
      exact key.trans a b e ha hb he h1 h2
theorem ordO_zero {n : Nat} {sz : Int → Int} {ls : Int → Nd} : ∀ (f : Nat) (s : Int), LayO n sz ls s → ∀ p q, InS n sz s p → InS n sz s q → sz p < (f : Int) → sz q < (f : Int) → ordO sz ls f p q = 0 → p = q := by
  intro f
  induction f with
  | zero => intro s h p q hp hq h1 _ _; have := h.pos p hp.1 hp.2.1; omega
  | succ f ih =>
    intro s h p q hp hq h1 h2 e
    simp only [ordO] at e
    by_cases e0 : p = q
    · exact e0
    · rw [if_neg e0] at e
      by_cases e1 : sz p < sz q
      · rw [if_pos e1] at e; omega
      · rw [if_neg e1] at e
        by_cases e2 : sz q < sz p
        · rw [if_pos e2] at e; omega
        · rw [if_neg e2] at e
          have hk : ∀ r, InS n sz s r → sz r < ((f : Int) + 1) → formB (ls r) = true ∧ ∀ k ∈ (ls r).kids, InS n sz s k ∧ sz k < (f : Int) := fun r hr hf => ⟨h.form r hr, fun k hk => by
            obtain ⟨a1, a2, a3⟩ := h.kids r hr k hk
            have := hr.2.2
            exact ⟨⟨a1, a2, by omega⟩, by omega⟩⟩
          exact h.inj p q hp hq (nodC_zero (P := fun k => InS n sz s k ∧ sz k < (f : Int)) (fun a b ha hb => ih s h a b ha.1 hb.1 ha.2 hb.2) (hk p hp (by omega)) (hk q hq (by omega)) e)
/-- If classes stand by size and then by least node, as the kids' numbers tell it, the document's order is that of the numbers. -/
theorem ordO_num {n : Nat} {sz : Int → Int} {ls : Int → Nd} {s : Int} (h : LayO n sz ls s) (hlt : ∀ p q, InS n sz s p → InS n sz s q → p < q → sz p < sz q ∨ sz p = sz q ∧ nodC cmp3 (ls p) (ls q) < 0) : ∀ (f : Nat) (p q : Int), InS n sz s p → InS n sz s q → sz p < (f : Int) → sz q < (f : Int) → (p < q → ordO sz ls f p q < 0) ∧ (q < p → 0 < ordO sz ls f p q) ∧ (p = q → ordO sz ls f p q = 0) := by
  intro f
  induction f with
  | zero => intro p q hp hq h1 _; have := h.pos p hp.1 hp.2.1; omega
  | succ f ih =>
    intro p q hp hq h1 h2
    have hk : ∀ r, InS n sz s r → sz r < ((f + 1 : Nat) : Int) → formB (ls r) = true ∧ ∀ k ∈ (ls r).kids, InS n sz s k ∧ sz k < (f : Int) := fun r hr hf => ⟨h.form r hr, fun k hk => by
      obtain ⟨a1, a2, a3⟩ := h.kids r hr k hk
      have := hr.2.2
      exact ⟨⟨a1, a2, by omega⟩, by omega⟩⟩
    have hsame : (nodC (ordO sz ls f) (ls p) (ls q) < 0 ↔ nodC cmp3 (ls p) (ls q) < 0) ∧ (0 < nodC (ordO sz ls f) (ls p) (ls q) ↔ 0 < nodC cmp3 (ls p) (ls q)) := by
      obtain ⟨_, kp⟩ := hk p hp h1
      obtain ⟨_, kq⟩ := hk q hq h2
      unfold nodC
      generalize heads (ls p) (ls q) = c
      revert kp kq
      generalize (ls p).kids = ks
      generalize (ls q).kids = ms
      intro kp kq
      have : ∀ (ks ms : List Int) (c d : Int), (∀ k ∈ ks, InS n sz s k ∧ sz k < (f : Int)) → (∀ k ∈ ms, InS n sz s k ∧ sz k < (f : Int)) → (c < 0 ↔ d < 0) → (0 < c ↔ 0 < d) → (ordK (ordO sz ls f) c ks ms < 0 ↔ ordK cmp3 d ks ms < 0) ∧ (0 < ordK (ordO sz ls f) c ks ms ↔ 0 < ordK cmp3 d ks ms) := by
        intro ks
        induction ks with
        | nil => intro ms c d _ _ h1 h2; rw [ordK_nil, ordK_nil]; exact ⟨h1, h2⟩
        | cons k ks ihk =>
          intro ms c d a1 a2 h1 h2
          cases ms with
          | nil => simp only [ordK]; exact ⟨h1, h2⟩
          | cons m ms =>
            by_cases hc : c = 0
            · have hd : d = 0 := by omega
              subst hc; subst hd
              rw [ordK_zero, ordK_zero]
              obtain ⟨b1, b2⟩ := a1 k (by simp)
              obtain ⟨b3, b4⟩ := a2 m (by simp)
              obtain ⟨i1, i2, i3⟩ := ih k m b1 b3 b2 b4
              refine ihk ms _ _ (fun x hx => a1 x (by simp [hx])) (fun x hx => a2 x (by simp [hx])) ?_ ?_
              · unfold cmp3
                rcases Int.lt_trichotomy k m with e | e | e
                · simp [e, i1 e]
                · have := i3 e; subst e; simp [this]
                · have := i2 e; simp [show ¬ k < m by omega, e]; omega
              · unfold cmp3
                rcases Int.lt_trichotomy k m with e | e | e
                · have := i1 e; simp [e]; omega
                · have := i3 e; subst e; simp [this]
                · have := i2 e; simp [show ¬ k < m by omega, e]; omega
            · have hd : ¬ d = 0 := by omega
              rw [ordK_nz _ hc, ordK_nz _ hd]
              exact ⟨h1, h2⟩
      exact this ks ms c c kp kq Iff.rfl Iff.rfl
    simp only [ordO]
    refine ⟨fun e => ?_, fun e => ?_, fun e => by rw [if_pos e]⟩
    · rw [if_neg (by omega)]
      rcases hlt p q hp hq e with h3 | ⟨h3, h4⟩
      · rw [if_pos h3]; omega
      · rw [if_neg (by omega), if_neg (by omega)]
        exact hsame.1.2 h4
    · rw [if_neg (by omega)]
      rcases hlt q p hq hp e with h3 | ⟨h3, h4⟩
      · rw [if_neg (by omega), if_pos h3]; omega
      · rw [if_neg (by omega), if_neg (by omega)]
        refine hsame.2.2 ?_
        have hc : Cmp (fun _ : Int => True) cmp3 := cmp_int (fun x : Int => x) _
        have := (cmp_nod hc).neg (ls q) (ls p) ⟨h.form q hq, fun _ _ => trivial⟩ ⟨h.form p hp, fun _ _ => trivial⟩
        omega
/-- What a node comes to by the classes' sizes, MaxSize at most: the document's. -/
def sizeD (sz : Int → Int) (ks : List Int) : Int := ks.foldl (fun s k => min 1073741824 (s + sz k)) 1
def sumK (sz : Int → Int) : List Int → Int
  | [] => 0
  | k :: ks => sz k + sumK sz ks
theorem sumK_nonneg {sz : Int → Int} : ∀ {ks : List Int}, (∀ k ∈ ks, 0 ≤ sz k) → 0 ≤ sumK sz ks := by
  intro ks
  induction ks with
  | nil => intro _; simp [sumK]
  | cons k ks ih => intro h; have := ih (fun x hx => h x (by simp [hx])); have := h k (by simp); simp only [sumK]; omega
theorem sumK_mem {sz : Int → Int} {k : Int} : ∀ {ks : List Int}, (∀ k ∈ ks, 0 ≤ sz k) → k ∈ ks → sz k ≤ sumK sz ks := by
  intro ks
  induction ks with
  | nil => intro _ h; cases h
  | cons a ks ih =>
    intro h hk
    have h0 := sumK_nonneg (sz := sz) (ks := ks) (fun x hx => h x (by simp [hx]))
    have := h a (by simp)
    simp only [sumK]
    rcases List.mem_cons.1 hk with rfl | hk
    · omega
    · have := ih (fun x hx => h x (by simp [hx])) hk; omega
theorem sizeD_fold {sz : Int → Int} : ∀ (ks : List Int) (s : Int), s ≤ 1073741824 → (∀ k ∈ ks, 0 ≤ sz k) → ks.foldl (fun s k => min 1073741824 (s + sz k)) s = min 1073741824 (s + sumK sz ks) := by
  intro ks
  induction ks with
  | nil => intro s hs _; simp only [List.foldl_nil, sumK]; omega
  | cons k ks ih =>
    intro s hs h
    have h0 := sumK_nonneg (sz := sz) (ks := ks) (fun x hx => h x (by simp [hx]))
    rw [List.foldl_cons, ih _ (by omega) (fun x hx => h x (by simp [hx]))]
    simp only [sumK]
    omega
theorem sizeD_eq {sz : Int → Int} {ks : List Int} (h : ∀ k ∈ ks, 0 ≤ sz k) : sizeD sz ks = min 1073741824 (1 + sumK sz ks) := sizeD_fold ks 1 (by omega) h
theorem sumK_congr {sz sz' : Int → Int} : ∀ {ks : List Int}, (∀ k ∈ ks, sz k = sz' k) → sumK sz ks = sumK sz' ks := by
  intro ks
  induction ks with
  | nil => intro _; rfl
  | cons k ks ih => intro h; simp only [sumK]; rw [h k (by simp), ih (fun x hx => h x (by simp [hx]))]
/-- Nodes and their classes, of n classes. -/
structure InCs (n : Nat) (cells : List (Nd × Int)) : Prop where
  cl : ∀ c ∈ cells, 0 ≤ c.2 ∧ c.2 < (n : Int)
  kids : ∀ c ∈ cells, ∀ k ∈ c.1.kids, 0 ≤ k ∧ k < (n : Int)
  form : ∀ c ∈ cells, formB c.1 = true
  one : ∀ c ∈ cells, ∀ d ∈ cells, c.1 = d.1 → c.2 = d.2
/-- The sizes that nothing makes less. -/
structure FixS (n : Nat) (cells : List (Nd × Int)) (sz : Int → Int) : Prop where
  le : ∀ c ∈ cells, sz c.2 ≤ sizeD sz c.1.kids
  hit : ∀ q : Int, 0 ≤ q → q < (n : Int) → sz q = 1073741824 ∨ ∃ c ∈ cells, c.2 = q ∧ sizeD sz c.1.kids ≤ sz q
  rng : ∀ q : Int, 0 ≤ q → q < (n : Int) → 1 ≤ sz q ∧ sz q ≤ 1073741824
theorem FixS.sum {n : Nat} {cells : List (Nd × Int)} {sz : Int → Int} (h : FixS n cells sz) (hc : InCs n cells) {c : Nd × Int} (hm : c ∈ cells) : sizeD sz c.1.kids = min 1073741824 (1 + sumK sz c.1.kids) ∧ (∀ k ∈ c.1.kids, sz k ≤ sumK sz c.1.kids) ∧ 0 ≤ sumK sz c.1.kids := by
  have h0 : ∀ k ∈ c.1.kids, 0 ≤ sz k := fun k hk => by have := h.rng k (hc.kids c hm k hk).1 (hc.kids c hm k hk).2; omega
  exact ⟨sizeD_eq h0, fun k hk => sumK_mem h0 hk, sumK_nonneg h0⟩
theorem FixS.half {n : Nat} {cells : List (Nd × Int)} {sz sz' : Int → Int} (h : FixS n cells sz) (h' : FixS n cells sz') (hc : InCs n cells) {v q : Int} (hq0 : 0 ≤ q) (hq : q < (n : Int)) (ih : ∀ k, 0 ≤ k → k < (n : Int) → sz' k < v → sz k = sz' k) (hv : sz' q ≤ v) : sz q ≤ sz' q := by
  rcases h'.hit q hq0 hq with e | ⟨c, hm, e, e2⟩
  · rw [e]; exact (h.rng q hq0 hq).2
  · obtain ⟨a1, a2, a3⟩ := h'.sum hc hm
    by_cases hM : sz' q = 1073741824
    · rw [hM]; exact (h.rng q hq0 hq).2
    · have hlt := (h'.rng q hq0 hq).2
      have hk : ∀ k ∈ c.1.kids, sz k = sz' k := fun k hk => ih k (hc.kids c hm k hk).1 (hc.kids c hm k hk).2 (by have := a2 k hk; omega)
      have h1 := h.le c hm
      rw [(h.sum hc hm).1, sumK_congr hk, e] at h1
      omega
theorem FixS.unique {n : Nat} {cells : List (Nd × Int)} {sz sz' : Int → Int} (h : FixS n cells sz) (h' : FixS n cells sz') (hc : InCs n cells) : ∀ q, 0 ≤ q → q < (n : Int) → sz q = sz' q := by
  have key : ∀ (v : Nat) (q : Int), 0 ≤ q → q < (n : Int) → sz q < (v : Int) ∨ sz' q < (v : Int) → sz q = sz' q := by
    intro v
    induction v with
    | zero => intro q h0 h1 h2; have := (h.rng q h0 h1).1; have := (h'.rng q h0 h1).1; omega
    | succ v ih =>
      intro q h0 h1 h2
      rcases h2 with h2 | h2
      · have a := h'.half h hc (v := (v : Int)) h0 h1 (fun k k0 k1 k2 => (ih k k0 k1 (.inl k2)).symm) (by omega)
        have b := h.half h' hc (v := (v : Int)) h0 h1 (fun k k0 k1 k2 => ih k k0 k1 (.inr k2)) (by omega)
        omega
      · have b := h.half h' hc (v := (v : Int)) h0 h1 (fun k k0 k1 k2 => ih k k0 k1 (.inr k2)) (by omega)
        have a := h'.half h hc (v := (v : Int)) h0 h1 (fun k k0 k1 k2 => (ih k k0 k1 (.inl k2)).symm) (by omega)
        omega
  intro q h0 h1
  exact key 1073741825 q h0 h1 (.inl (by have := (h.rng q h0 h1).2; omega))
/-- The least nodes of all classes. -/
structure LstO (n : Nat) (cells : List (Nd × Int)) (sz : Int → Int) (ls : Int → Nd) (F : Nat) : Prop where
  mem : ∀ q : Int, 0 ≤ q → q < (n : Int) → (ls q, q) ∈ cells ∧ sizeD sz (ls q).kids = sz q
  min : ∀ c ∈ cells, sizeD sz c.1.kids = sz c.2 → 0 ≤ nodC (ordO sz ls F) c.1 (ls c.2)
theorem LstO.lay {n : Nat} {cells : List (Nd × Int)} {sz : Int → Int} {ls : Int → Nd} {F : Nat} (h : LstO n cells sz ls F) (hc : InCs n cells) (hf : FixS n cells sz) (hM : ∀ q, 0 ≤ q → q < (n : Int) → sz q < 1073741824) : LayO n sz ls 1073741824 := by
  refine ⟨fun q h0 h1 => by have := (hf.rng q h0 h1).1; omega, fun q hq => hc.form _ (h.mem q hq.1 hq.2.1).1, fun q hq k hk => ?_, fun p q hp hq e => ?_⟩
  · obtain ⟨hm, he⟩ := h.mem q hq.1 hq.2.1
    obtain ⟨b1, b2, _⟩ := hf.sum hc hm
    have b3 := b2 k hk
    have := hM q hq.1 hq.2.1
    simp only at b1 b3
    exact ⟨(hc.kids _ hm k hk).1, (hc.kids _ hm k hk).2, by omega⟩
  · exact hc.one _ (h.mem p hp.1 hp.2.1).1 _ (h.mem q hq.1 hq.2.1).1 e
end Go.Proofs.YtlbmijcpalfaeaaGreatDoor
