/-
  ExSplPure.
-/
import Derived.Test.YtlbmijcpalfaeaaGreatDoorP04
set_option linter.unusedSimpArgs false
set_option linter.unusedVariables false
namespace Go.Proofs.YtlbmijcpalfaeaaGreatDoor

def chainO (os : List (Option Nat)) : List Int → Nat → Option Nat
  | [], c => some c
  | k :: ks, c => if c = 0 ∨ k ≠ (c : Int) - 1 then none else (os.getD (c - 1) none).bind fun b => chainO os ks b

def stsR (os : List (Option Nat)) : List Nd → List (Option Nat)
  | [] => os
  | x :: l => stsR (os ++ [chainO os x.kids.reverse os.length]) l

def sts (l : List Nd) : List (Option Nat) := stsR [] l

/-- No entry is above its place. -/
def LowO (os : List (Option Nat)) : Prop := ∀ j b, os.getD j none = some b → b ≤ j

theorem chainO_le {os : List (Option Nat)} (h : LowO os) : ∀ (ks : List Int) (c a : Nat), chainO os ks c = some a → a ≤ c := by
  intro ks
  induction ks with
  | nil => intro c a h; simp [chainO] at h; omega
  | cons k ks ih =>
    intro c a hh
    simp only [chainO] at hh
    split at hh
    · cases hh
    · cases hb : os.getD (c - 1) none with
      | none => rw [hb] at hh; cases hh
      | some b =>
        rw [hb] at hh
        simp only [Option.bind_some] at hh
        have := ih _ _ hh
        have := h _ _ hb
        omega

theorem getD_snocO (os : List (Option Nat)) (a : Option Nat) (j : Nat) : (os ++ [a]).getD j none = if j < os.length then os.getD j none else if j = os.length then a else none := by
  simp only [List.getD_eq_getElem?_getD, List.getElem?_append]
  split
  · rfl
  · split
    · subst_vars; simp
    · rw [List.getElem?_eq_none (by simp; omega)]; rfl

theorem LowO.snoc {os : List (Option Nat)} (h : LowO os) {a : Option Nat} (ha : ∀ b, a = some b → b ≤ os.length) : LowO (os ++ [a]) := by
  intro j b hj
  rw [getD_snocO] at hj
  split at hj
  · exact h j b hj
  · split at hj
    · have := ha b hj; omega
    · cases hj

/-- Only the entries below the cursor count. -/
theorem chainO_congr {os os' : List (Option Nat)} (h : LowO os) : ∀ (ks : List Int) (c : Nat), (∀ j, j < c → os'.getD j none = os.getD j none) → chainO os' ks c = chainO os ks c := by
  intro ks
  induction ks with
  | nil => intro c _; rfl
  | cons k ks ih =>
    intro c hc
    simp only [chainO]
    split
    · rfl
    · rename_i hn
      rw [hc (c - 1) (by omega)]
      cases hb : os.getD (c - 1) none with
      | none => rfl
      | some b =>
        simp only [Option.bind_some]
        have := h _ _ hb
        exact ih b (fun j hj => hc j (by omega))

theorem stsR_spec (l : List Nd) : ∀ (os : List (Option Nat)), LowO os → (stsR os l).length = os.length + l.length ∧ LowO (stsR os l) ∧ (∀ j, j < os.length → (stsR os l).getD j none = os.getD j none) ∧
    ∀ i, i < l.length → (stsR os l).getD (os.length + i) none = chainO (stsR os l) (l.getD i nd0).kids.reverse (os.length + i) := by
  induction l with
  | nil => intro os h; exact ⟨by simp [stsR], h, fun j hj => rfl, fun i hi => by simp at hi⟩
  | cons x l ih =>
    intro os h
    have hlow := h.snoc (a := chainO os x.kids.reverse os.length) (fun b hb => chainO_le h _ _ _ hb)
    obtain ⟨h1, h2, h3, h4⟩ := ih _ hlow
    simp only [List.length_append, List.length_cons, List.length_nil] at h1 h3 h4
    simp only [stsR]
    refine ⟨by simp; omega, h2, fun j hj => ?_, fun i hi => ?_⟩
    · rw [h3 j (by omega), getD_snocO, if_pos hj]
    · cases i with
      | zero =>
        rw [Nat.add_zero, h3 _ (by omega), getD_snocO, if_neg (by omega), if_pos rfl]
        show _ = chainO _ x.kids.reverse os.length
        refine (chainO_congr h _ _ ?_).symm
        intro j hj
        rw [h3 j (by omega), getD_snocO, if_pos hj]
      | succ i =>
        have := h4 i (by simp at hi; omega)
        have e : os.length + (0 + 1) + i = os.length + (i + 1) := by omega
        rw [e] at this
        rw [this]
        simp

theorem lowO_nil : LowO [] := by intro j b h; simp at h

theorem sts_at (l : List Nd) (i : Nat) (h : i < l.length) : (sts l).getD i none = chainO (sts l) (l.getD i nd0).kids.reverse i := by
  have := (stsR_spec l [] lowO_nil).2.2.2 i h
  simpa [sts] using this
theorem sts_low (l : List Nd) : LowO (sts l) := (stsR_spec l [] lowO_nil).2.1
/-- All inside an expression are some. -/
theorem cover (l : List Nd) : ∀ (i a : Nat), i < l.length → (sts l).getD i none = some a → ∀ j, a ≤ j → j ≤ i → (sts l).getD j none ≠ none := by
  intro i
  induction i using Nat.strongRecOn with
  | ind i IH =>
    intro a hi hs j haj hji
    by_cases hje : j = i
    · subst hje; rw [hs]; simp
    · rw [sts_at l i hi] at hs
      have key : ∀ (ks : List Int) (c : Nat), c ≤ i → chainO (sts l) ks c = some a → j < c → (sts l).getD j none ≠ none := by
        intro ks
        induction ks with
        | nil => intro c _ h hj; simp [chainO] at h; omega
        | cons k ks ih =>
          intro c hc h hj
          simp only [chainO] at h
          split at h
          · cases h
          · cases hb : (sts l).getD (c - 1) none with
            | none => rw [hb] at h; cases h
            | some b =>
              rw [hb] at h
              simp only [Option.bind_some] at h
              by_cases hjb : j < b
              · exact ih b (by have := sts_low l _ _ hb; omega) h hjb
              · exact IH (c - 1) (by omega) b (by omega) hb j (by omega) (by omega)
      exact key _ i (Nat.le_refl _) hs (by omega)

theorem chain_some {fr : List Nat} (hl : Low fr) : ∀ (ks : List Int) (c : Nat), c ≤ fr.length → chainO (fr.map some) ks c = chainL fr ks c := by
  intro ks
  induction ks with
  | nil => intro c _; rfl
  | cons k ks ih =>
    intro c hc
    simp only [chainO, chainL]
    split
    · rfl
    · rename_i hn
      have e : (fr.map some).getD (c - 1) none = some (fr.getD (c - 1) 0) := by
        have : c - 1 < fr.length := by omega
        simp [this]
      rw [e]
      simp only [Option.bind_some]
      exact ih _ (by have := hl (c - 1); omega)

theorem sts_of_beg (l : List Nd) : ∀ (fr fr' : List Nat), Low fr → begR fr l = some fr' → stsR (fr.map some) l = fr'.map some := by
  induction l with
  | nil => intro fr fr' _ h; simp [begR] at h; subst h; rfl
  | cons x l ih =>
    intro fr fr' hl h
    simp only [begR] at h
    cases hs : stp fr x with
    | none => rw [hs] at h; cases h
    | some f2 =>
      rw [hs] at h
      simp only [Option.bind_some] at h
      obtain ⟨hf, a, hc, rfl⟩ := stp_some hs
      have := ih _ _ (hl.snoc (chainL_le hl _ _ _ hc)) h
      simp only [stsR, List.length_map]
      rw [chain_some hl _ _ (Nat.le_refl _), hc]
      simpa using this

/-- The other way: all of the form, all some: begins goes through. -/
theorem beg_of_sts (l : List Nd) : ∀ (fr : List Nat), Low fr → (∀ x ∈ l, formB x = true) → (∀ j, j < fr.length + l.length → (stsR (fr.map some) l).getD j none ≠ none) → ∃ fr', begR fr l = some fr' := by
  induction l with
  | nil => intro fr _ _ _; exact ⟨fr, rfl⟩
  | cons x l ih =>
    intro fr hl hf hs
    have hfx := hf x (List.mem_cons_self ..)
    have hlo : LowO (fr.map some) := by
      intro j b hj
      by_cases h : j < fr.length
      · simp [h] at hj
        have := hl j
        simp [h] at this
        omega
      · rw [List.getD_eq_getElem?_getD, List.getElem?_eq_none (by simp; omega)] at hj
        cases hj
    cases hc : chainL fr x.kids.reverse fr.length with
    | none =>
      exfalso
      have h0 := (stsR_spec (x :: l) (fr.map some) hlo).2.2.2 0 (by simp)
      apply hs fr.length (by simp)
      simp only [List.length_map, Nat.add_zero] at h0
      rw [h0]
      have : (List.getD (x :: l) 0 nd0) = x := rfl
      rw [this, chainO_congr hlo, chain_some hl _ _ (Nat.le_refl _), hc]
      intro j hj
      exact (stsR_spec (x :: l) (fr.map some) hlo).2.2.1 j (by simpa using hj)
    | some a =>
      have hst : stp fr x = some (fr ++ [a]) := by simp [stp, hfx, hc]
      have hl2 := hl.snoc (chainL_le hl _ _ _ hc)
      obtain ⟨fr', h'⟩ := ih (fr ++ [a]) hl2 (fun y hy => hf y (List.mem_cons_of_mem _ hy)) (by
        intro j hj
        have := hs j (by simp at hj ⊢; omega)
        simp only [stsR, List.length_map] at this
        rw [chain_some hl _ _ (Nat.le_refl _), hc] at this
        simpa using this)
      exact ⟨fr', by simp [begR, hst, h']⟩

theorem snd_iff (l : List Nd) : sndB l = true ↔ 0 < l.length ∧ l.length ≤ 64 ∧ (∀ x ∈ l, formB x = true) ∧ (sts l).getD (l.length - 1) none = some 0 := by
  constructor
  · intro h
    obtain ⟨fr, h⟩ := Option.isSome_iff_exists.1 h
    obtain ⟨h1, h2, h3, h4⟩ := begL_some h
    have hlen := begR_len h3
    refine ⟨h1, h2, (begR_some h3 low_nil).2.2.2, ?_⟩
    have := sts_of_beg l [] fr low_nil h3
    show (stsR [] l).getD (l.length - 1) none = some 0
    rw [show ([] : List (Option Nat)) = ([] : List Nat).map some from rfl, this]
    have hlt : l.length - 1 < fr.length := by omega
    rw [← h4]
    simp [hlt]
  · rintro ⟨h1, h2, h3, h4⟩
    have hall : ∀ j, j < l.length → (sts l).getD j none ≠ none := fun j hj => cover l (l.length - 1) 0 (by omega) h4 j (by omega) (by omega)
    obtain ⟨fr, hfr⟩ := beg_of_sts l [] low_nil h3 (fun j hj => hall j (by simpa using hj))
    have hs := sts_of_beg l [] fr low_nil hfr
    have hlen := begR_len hfr
    have h0 : fr.getD (l.length - 1) 0 = 0 := by
      have h5 : (stsR [] l).getD (l.length - 1) none = some 0 := h4
      rw [show ([] : List (Option Nat)) = ([] : List Nat).map some from rfl, hs] at h5
      have hlt : l.length - 1 < fr.length := by omega
      simp [hlt] at h5 ⊢
      exact h5
    unfold sndB
    rw [begL_mk h1 h2 hfr h0]; rfl
end Go.Proofs.YtlbmijcpalfaeaaGreatDoor

namespace Go.Proofs.YtlbmijcpalfaeaaGreatDoor

theorem mvK_zero (k : Int) (f : Int) : mvK f 0 k = k := by unfold mvK; split <;> omega
theorem mvN_zero (f : Int) (x : Nd) : mvN f 0 x = x := by
  obtain ⟨a, b, c, d⟩ := x
  have : d.map (mvK f 0) = d := by
    conv => rhs; rw [← List.map_id d]
    exact List.map_congr_left (fun k _ => mvK_zero k f)
  simp [mvN, this]
theorem map_mvN_zero (f : Int) (l : List Nd) : l.map (mvN f 0) = l := by
  conv => rhs; rw [← List.map_id l]
  exact List.map_congr_left (fun x _ => mvN_zero f x)

/-- Where all begin, place by place. -/
structure BegOk (l : List Nd) (fr : List Nat) : Prop where
  len : fr.length = l.length
  low : Low fr
  at_ : ∀ j, j < l.length → formB (l.getD j nd0) = true ∧ chainL fr (l.getD j nd0).kids.reverse j = some (fr.getD j 0)

theorem begOk_of {l : List Nd} {fr : List Nat} (h : begR [] l = some fr) : BegOk l fr := by
  have hlen := begR_len h
  obtain ⟨_, hlow, _, hform⟩ := begR_some h low_nil
  refine ⟨hlen, hlow, fun j hj => ⟨hform _ (by simp [hj]), ?_⟩⟩
  have hs := sts_of_beg l [] fr low_nil h
  have h1 := sts_at l j hj
  have e : sts l = fr.map some := hs
  rw [e, chain_some hlow _ _ (by omega)] at h1
  rw [← h1]
  have : j < fr.length := by omega
  simp [this]

/-- What holds of the cursors of a chain. -/
theorem chain_inv {fr : List Nat} {P : Nat → Prop} (hstep : ∀ c, 0 < c → P c → P (fr.getD (c - 1) 0)) : ∀ (ks : List Int) (c r : Nat), P c → chainL fr ks c = some r → P r ∧ ∀ k ∈ ks, ∃ c', 0 < c' ∧ P c' ∧ k = (c' : Int) - 1 := by
  intro ks
  induction ks with
  | nil => intro c r hP h; simp [chainL] at h; subst h; exact ⟨hP, by simp⟩
  | cons k ks ih =>
    intro c r hP h
    simp only [chainL] at h
    split at h
    · cases h
    · rename_i hn
      obtain ⟨h1, h2⟩ := ih _ r (hstep c (by omega) hP) h
      refine ⟨h1, fun k' hk' => ?_⟩
      rcases List.mem_cons.1 hk' with rfl | hk'
      · exact ⟨c, by omega, hP, by omega⟩
      · exact h2 k' hk'

/-- Inside an expression all begin inside it. -/
theorem nest_inside {l : List Nd} {fr : List Nat} (h : BegOk l fr) : ∀ i, i < l.length → ∀ j, fr.getD i 0 ≤ j → j ≤ i → fr.getD i 0 ≤ fr.getD j 0 := by
  intro i
  induction i using Nat.strongRecOn with
  | ind i IH =>
    intro hi j hj hji
    by_cases he : j = i
    · subst he; exact Nat.le_refl _
    · have hc := (h.at_ i hi).2
      have key : ∀ (ks : List Int) (c : Nat), c ≤ i → chainL fr ks c = some (fr.getD i 0) → j < c → fr.getD i 0 ≤ fr.getD j 0 := by
        intro ks
        induction ks with
        | nil => intro c _ hh hjc; simp only [chainL, Option.some.injEq] at hh; omega
        | cons k ks ih =>
          intro c hci hh hjc
          simp only [chainL] at hh
          split at hh
          · cases hh
          · have hlo := h.low (c - 1)
            by_cases hb : j < fr.getD (c - 1) 0
            · exact ih _ (by omega) hh hb
            · have h1 := IH (c - 1) (by omega) (by omega) j (by omega) (by omega)
              have h2 := chainL_le h.low _ _ _ hh
              omega
      exact key _ i (Nat.le_refl _) hc (by omega)

theorem kids_inside {l : List Nd} {fr : List Nat} (h : BegOk l fr) (i : Nat) (hi : i < l.length) (j : Nat) (hj : fr.getD i 0 ≤ j) (hji : j ≤ i) : ∀ k ∈ (l.getD j nd0).kids, (fr.getD i 0 : Int) ≤ k := by
  intro k hk
  have hc := (h.at_ j (by omega)).2
  have hin := nest_inside h i hi j hj hji
  -- every cursor of the chain is above where the chain ends
  have key : ∀ (ks : List Int) (c : Nat), chainL fr ks c = some (fr.getD j 0) → ∀ k ∈ ks, (fr.getD j 0 : Int) ≤ k := by
    intro ks
    induction ks with
    | nil => intro c _ k hk; simp at hk
    | cons k0 ks ih =>
      intro c hh k hk
      simp only [chainL] at hh
      split at hh
      · cases hh
      · rename_i hn
        have h2 := chainL_le h.low _ _ _ hh
        have hlo := h.low (c - 1)
        rcases List.mem_cons.1 hk with rfl | hk
        · omega
        · exact ih _ hh k hk
  have := key _ j hc k (by simpa using hk)
  omega

theorem partL_len (l : List Nd) (a i : Nat) (hi : i < l.length) (hai : a ≤ i) : (partL l a i).length = i + 1 - a := by simp [partL]; omega
theorem ok_kids {l : List Nd} {fr : List Nat} (h : BegOk l fr) (j : Nat) (hj : j < l.length) : ∀ k ∈ (l.getD j nd0).kids, 0 ≤ k := by
  intro k hk
  obtain ⟨c, h0, _, rfl⟩ := (chain_inv (fr := fr) (P := fun _ => True) (fun _ _ _ => trivial) _ _ _ trivial (h.at_ j hj).2).2 k (by simpa using hk)
  omega

end Go.Proofs.YtlbmijcpalfaeaaGreatDoor
