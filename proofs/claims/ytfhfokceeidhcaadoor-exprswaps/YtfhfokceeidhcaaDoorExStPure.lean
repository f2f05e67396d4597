/-
  Where each node's expression begins, if it is one: the document's way, and that it says what the program's says.
-/
import Derived.Test.YtfhfokceeidhcaaDoorExPure
set_option linter.unusedSimpArgs false
set_option linter.unusedVariables false
namespace Go.Proofs.YtfhfokceeidhcaaDoor

def chainO (os : List (Option Nat)) : List Int → Nat → Option Nat
  | [], c => some c
  | k :: ks, c => if c = 0 ∨ k ≠ (c : Int) - 1 then none else (os.getD (c - 1) none).bind fun b => chainO os ks b

def stsR (os : List (Option Nat)) : List Nd → List (Option Nat)
  | [] => os
  | x :: l => stsR (os ++ [chainO os x.kids.reverse os.length]) l

def sts (l : List Nd) : List (Option Nat) := stsR [] l

/-- No entry is above its place. -/
def LowO (os : List (Option Nat)) : Prop := ∀ j b, os.getD j none = some b → b ≤ j

theorem chainO_le {os : List (Option Nat)} (h : LowO os) : ∀ (ks : List Int) (c a : Nat), chainO os ks c = some a → a ≤ c := by
  intro ks
  induction ks with
  | nil => intro c a h; simp [chainO] at h; omega
  | cons k ks ih =>
    intro c a hh
    simp only [chainO] at hh
    split at hh
    · cases hh
    · cases hb : os.getD (c - 1) none with
      | none => rw [hb] at hh; cases hh
      | some b =>
        rw [hb] at hh
        simp only [Option.bind_some] at hh
        have := ih _ _ hh
        have := h _ _ hb
        omega

theorem getD_snocO (os : List (Option Nat)) (a : Option Nat) (j : Nat) : (os ++ [a]).getD j none = if j < os.length then os.getD j none else if j = os.length then a else none := by
  simp only [List.getD_eq_getElem?_getD, List.getElem?_append]
  split
  · rfl
  · split
    · subst_vars; simp
    · rw [List.getElem?_eq_none (by simp; omega)]; rfl

theorem LowO.snoc {os : List (Option Nat)} (h : LowO os) {a : Option Nat} (ha : ∀ b, a = some b → b ≤ os.length) : LowO (os ++ [a]) := by
  intro j b hj
  rw [getD_snocO] at hj
  split at hj
  · exact h j b hj
  · split at hj
    · have := ha b hj; omega
    · cases hj

/-- Only the entries below the cursor count. -/
theorem chainO_congr {os os' : List (Option Nat)} (h : LowO os) : ∀ (ks : List Int) (c : Nat), (∀ j, j < c → os'.getD j none = os.getD j none) → chainO os' ks c = chainO os ks c := by
  intro ks
  induction ks with
  | nil => intro c _; rfl
  | cons k ks ih =>
    intro c hc
    simp only [chainO]
    split
    · rfl
    · rename_i hn
      rw [hc (c - 1) (by omega)]
      cases hb : os.getD (c - 1) none with
      | none => rfl
      | some b =>
        simp only [Option.bind_some]
        have := h _ _ hb
        exact ih b (fun j hj => hc j (by omega))

theorem stsR_spec (l : List Nd) : ∀ (os : List (Option Nat)), LowO os → (stsR os l).length = os.length + l.length ∧ LowO (stsR os l) ∧ (∀ j, j < os.length → (stsR os l).getD j none = os.getD j none) ∧
    ∀ i, i < l.length → (stsR os l).getD (os.length + i) none = chainO (stsR os l) (l.getD i nd0).kids.reverse (os.length + i) := by
  induction l with
  | nil => intro os h; exact ⟨by simp [stsR], h, fun j hj => rfl, fun i hi => by simp at hi⟩
  | cons x l ih =>
    intro os h
    have hlow := h.snoc (a := chainO os x.kids.reverse os.length) (fun b hb => chainO_le h _ _ _ hb)
    obtain ⟨h1, h2, h3, h4⟩ := ih _ hlow
    simp only [List.length_append, List.length_cons, List.length_nil] at h1 h3 h4
    simp only [stsR]
    refine ⟨by simp; omega, h2, fun j hj => ?_, fun i hi => ?_⟩
    · rw [h3 j (by omega), getD_snocO, if_pos hj]
    · cases i with
      | zero =>
        rw [Nat.add_zero, h3 _ (by omega), getD_snocO, if_neg (by omega), if_pos rfl]
        show _ = chainO _ x.kids.reverse os.length
        refine (chainO_congr h _ _ ?_).symm
        intro j hj
        rw [h3 j (by omega), getD_snocO, if_pos hj]
      | succ i =>
        have := h4 i (by simp at hi; omega)
        have e : os.length + (0 + 1) + i = os.length + (i + 1) := by omega
        rw [e] at this
        rw [this]
        simp

theorem lowO_nil : LowO [] := by intro j b h; simp at h

theorem sts_at (l : List Nd) (i : Nat) (h : i < l.length) : (sts l).getD i none = chainO (sts l) (l.getD i nd0).kids.reverse i := by
  have := (stsR_spec l [] lowO_nil).2.2.2 i h
  simpa [sts] using this
theorem sts_low (l : List Nd) : LowO (sts l) := (stsR_spec l [] lowO_nil).2.1
theorem sts_len (l : List Nd) : (sts l).length = l.length := by simpa [sts] using (stsR_spec l [] lowO_nil).1

/-- All inside an expression are some. -/
theorem cover (l : List Nd) : ∀ (i a : Nat), i < l.length → (sts l).getD i none = some a → ∀ j, a ≤ j → j ≤ i → (sts l).getD j none ≠ none := by
  intro i
  induction i using Nat.strongRecOn with
  | ind i IH =>
    intro a hi hs j haj hji
    by_cases hje : j = i
    · subst hje; rw [hs]; simp
    · rw [sts_at l i hi] at hs
      have key : ∀ (ks : List Int) (c : Nat), c ≤ i → chainO (sts l) ks c = some a → j < c → (sts l).getD j none ≠ none := by
        intro ks
        induction ks with
        | nil => intro c _ h hj; simp [chainO] at h; omega
        | cons k ks ih =>
          intro c hc h hj
          simp only [chainO] at h
          split at h
          · cases h
          · cases hb : (sts l).getD (c - 1) none with
            | none => rw [hb] at h; cases h
            | some b =>
              rw [hb] at h
              simp only [Option.bind_some] at h
              by_cases hjb : j < b
              · exact ih b (by have := sts_low l _ _ hb; omega) h hjb
              · exact IH (c - 1) (by omega) b (by omega) hb j (by omega) (by omega)
      exact key _ i (Nat.le_refl _) hs (by omega)

theorem chain_some {fr : List Nat} (hl : Low fr) : ∀ (ks : List Int) (c : Nat), c ≤ fr.length → chainO (fr.map some) ks c = chainL fr ks c := by
  intro ks
  induction ks with
  | nil => intro c _; rfl
  | cons k ks ih =>
    intro c hc
    simp only [chainO, chainL]
    split
    · rfl
    · rename_i hn
      have e : (fr.map some).getD (c - 1) none = some (fr.getD (c - 1) 0) := by
        have : c - 1 < fr.length := by omega
        simp [this]
      rw [e]
      simp only [Option.bind_some]
      exact ih _ (by have := hl (c - 1); omega)

theorem sts_of_beg (l : List Nd) : ∀ (fr fr' : List Nat), Low fr → begR fr l = some fr' → stsR (fr.map some) l = fr'.map some := by
  induction l with
  | nil => intro fr fr' _ h; simp [begR] at h; subst h; rfl
  | cons x l ih =>
    intro fr fr' hl h
    simp only [begR] at h
    cases hs : stp fr x with
    | none => rw [hs] at h; cases h
    | some f2 =>
      rw [hs] at h
      simp only [Option.bind_some] at h
      obtain ⟨hf, a, hc, rfl⟩ := stp_some hs
      have := ih _ _ (hl.snoc (chainL_le hl _ _ _ hc)) h
      simp only [stsR, List.length_map]
      rw [chain_some hl _ _ (Nat.le_refl _), hc]
      simpa using this

/-- The other way: all of the form, all some: begins goes through. -/
theorem beg_of_sts (l : List Nd) : ∀ (fr : List Nat), Low fr → (∀ x ∈ l, formB x = true) → (∀ j, j < fr.length + l.length → (stsR (fr.map some) l).getD j none ≠ none) → ∃ fr', begR fr l = some fr' := by
  induction l with
  | nil => intro fr _ _ _; exact ⟨fr, rfl⟩
  | cons x l ih =>
    intro fr hl hf hs
    have hfx := hf x (List.mem_cons_self ..)
    have hlo : LowO (fr.map some) := by
      intro j b hj
      by_cases h : j < fr.length
      · simp [h] at hj
        have := hl j
        simp [h] at this
        omega
      · rw [List.getD_eq_getElem?_getD, List.getElem?_eq_none (by simp; omega)] at hj
        cases hj
    cases hc : chainL fr x.kids.reverse fr.length with
    | none =>
      exfalso
      have h0 := (stsR_spec (x :: l) (fr.map some) hlo).2.2.2 0 (by simp)
      apply hs fr.length (by simp)
      simp only [List.length_map, Nat.add_zero] at h0
      rw [h0]
      have : (List.getD (x :: l) 0 nd0) = x := rfl
      rw [this, chainO_congr hlo, chain_some hl _ _ (Nat.le_refl _), hc]
      intro j hj
      exact (stsR_spec (x :: l) (fr.map some) hlo).2.2.1 j (by simpa using hj)
    | some a =>
      have hst : stp fr x = some (fr ++ [a]) := by simp [stp, hfx, hc]
      have hl2 := hl.snoc (chainL_le hl _ _ _ hc)
      obtain ⟨fr', h'⟩ := ih (fr ++ [a]) hl2 (fun y hy => hf y (List.mem_cons_of_mem _ hy)) (by
        intro j hj
        have := hs j (by simp at hj ⊢; omega)
        simp only [stsR, List.length_map] at this
        rw [chain_some hl _ _ (Nat.le_refl _), hc] at this
        simpa using this)
      exact ⟨fr', by simp [begR, hst, h']⟩

theorem snd_iff (l : List Nd) : sndB l = true ↔ 0 < l.length ∧ l.length ≤ 64 ∧ (∀ x ∈ l, formB x = true) ∧ (sts l).getD (l.length - 1) none = some 0 := by
  constructor
  · intro h
    obtain ⟨fr, h⟩ := Option.isSome_iff_exists.1 h
    obtain ⟨h1, h2, h3, h4⟩ := begL_some h
    have hlen := begR_len h3
    refine ⟨h1, h2, (begR_some h3 low_nil).2.2.2, ?_⟩
    have := sts_of_beg l [] fr low_nil h3
    show (stsR [] l).getD (l.length - 1) none = some 0
    rw [show ([] : List (Option Nat)) = ([] : List Nat).map some from rfl, this]
    have hlt : l.length - 1 < fr.length := by omega
    rw [← h4]
    simp [hlt]
  · rintro ⟨h1, h2, h3, h4⟩
    have hall : ∀ j, j < l.length → (sts l).getD j none ≠ none := fun j hj => cover l (l.length - 1) 0 (by omega) h4 j (by omega) (by omega)
    obtain ⟨fr, hfr⟩ := beg_of_sts l [] low_nil h3 (fun j hj => hall j (by simpa using hj))
    have hs := sts_of_beg l [] fr low_nil hfr
    have hlen := begR_len hfr
    have h0 : fr.getD (l.length - 1) 0 = 0 := by
      have h5 : (stsR [] l).getD (l.length - 1) none = some 0 := h4
      rw [show ([] : List (Option Nat)) = ([] : List Nat).map some from rfl, hs] at h5
      have hlt : l.length - 1 < fr.length := by omega
      simp [hlt] at h5 ⊢
      exact h5
    unfold sndB
    rw [begL_mk h1 h2 hfr h0]; rfl
end Go.Proofs.YtfhfokceeidhcaaDoor
