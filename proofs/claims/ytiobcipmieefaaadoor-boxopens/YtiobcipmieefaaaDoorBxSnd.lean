/-
  When what is made of parts is sound.
-/
import Derived.Test.YtiobcipmieefaaaDoorBxFlat
set_option linter.unusedSimpArgs false
set_option linter.unusedVariables false
namespace Go.Proofs.YtiobcipmieefaaaDoor
open Go.RowKit Go.Lib

theorem snocRec {α : Type} {P : List α → Prop} (nil : P []) (snoc : ∀ l a, P l → P (l ++ [a])) (l : List α) : P l := by
  rw [← List.reverse_reverse l]
  induction l.reverse with
  | nil => exact nil
  | cons a r ih => rw [List.reverse_cons]; exact snoc _ a ih

theorem chain_move (fr0 fq : List Nat) (hq : Low fq) : ∀ (ks : List Int) (c a : Nat), c ≤ fq.length → chainL fq ks c = some a → chainL (fr0 ++ fq.map (· + fr0.length)) (ks.map (mvK 0 fr0.length)) (fr0.length + c) = some (fr0.length + a) := by
  intro ks
  induction ks with
  | nil => intro c a _ h; simp [chainL] at h ⊢; exact h
  | cons k ks ih =>
    intro c a hc h
    simp only [chainL] at h
    split at h
    · cases h
    · rename_i hn
      obtain ⟨h0, hk⟩ : c ≠ 0 ∧ k = (c : Int) - 1 := by
        constructor
        · intro e; exact hn (.inl e)
        · by_cases e : k = (c : Int) - 1
          · exact e
          · exact absurd (.inr e) hn
      simp only [List.map_cons, chainL]
      have hkk : mvK 0 fr0.length k = ((fr0.length + c : Nat) : Int) - 1 := by unfold mvK; rw [if_pos (by omega)]; omega
      rw [if_neg (by rw [hkk]; simp; omega)]
      have hg : (fr0 ++ fq.map (· + fr0.length)).getD (fr0.length + c - 1) 0 = fr0.length + fq.getD (c - 1) 0 := by
        simp only [List.getD_eq_getElem?_getD]
        rw [List.getElem?_append_right (by omega), show fr0.length + c - 1 - fr0.length = c - 1 by omega, List.getElem?_map]
        rw [List.getElem?_eq_getElem (show c - 1 < fq.length by omega)]
        simp; omega
      rw [hg]
      exact ih _ _ (by have := hq (c - 1); omega) h

/-- Behind other nodes a list is gone through the same way. -/
theorem begR_move (fr0 : List Nat) : ∀ (p : List Nd) (fp : List Nat), begR [] p = some fp → begR fr0 (p.map (mvN 0 fr0.length)) = some (fr0 ++ fp.map (· + fr0.length)) := by
  intro p
  induction p using snocRec with
  | nil => intro fp h; simp [begR] at h; subst h; simp [begR]
  | snoc p x ih =>
    intro fp h
    rw [begR_snoc] at h
    cases hp : begR [] p with
    | none => rw [hp] at h; cases h
    | some fq =>
      rw [hp, Option.bind_some] at h
      obtain ⟨hf, a, hc, rfl⟩ := stp_some h
      have hlow := (begR_some hp low_nil).2.1
      rw [List.map_append, List.map_cons, List.map_nil, begR_snoc, ih fq hp, Option.bind_some]
      unfold stp
      rw [if_pos (by rw [mvN_form]; exact hf), mvN_kids_rev]
      have hm := chain_move fr0 fq hlow _ _ _ (Nat.le_refl _) hc
      have hl : (fr0 ++ fq.map (· + fr0.length)).length = fr0.length + fq.length := by simp
      rw [hl, hm]
      simp [Nat.add_comm]

theorem acc_beg (ps : List (List Nd)) : (∀ p ∈ ps, sndB p = true) → ∃ fr, begR [] (accS ps).1 = some fr ∧ chainL fr (accS ps).2.reverse (accS ps).1.length = some 0 := by
  induction ps using snocRec with
  | nil => intro _; exact ⟨[], by simp [accS_nil, begR], by simp [accS_nil, chainL]⟩
  | snoc ps p ih =>
    intro h
    obtain ⟨fr, h1, h2⟩ := ih (fun q hq => h q (by simp [hq]))
    obtain ⟨fp, hp⟩ := snd_some (h p (by simp))
    obtain ⟨hp0, _, hpr, hpt⟩ := begL_some hp
    obtain ⟨hlen, hlow, _, _⟩ := begR_some h1 low_nil
    simp only [List.length_nil, Nat.zero_add] at hlen
    obtain ⟨hlp, _, _, _⟩ := begR_some hpr low_nil
    simp only [List.length_nil, Nat.zero_add] at hlp
    rw [accS_snoc]
    have hm := begR_move fr p fp hpr
    rw [hlen] at hm
    refine ⟨fr ++ fp.map (· + (accS ps).1.length), by rw [begR_append, h1, Option.bind_some]; exact hm, ?_⟩
    simp only [List.reverse_append, List.reverse_cons, List.reverse_nil, List.nil_append, List.singleton_append, List.length_append, List.length_map, chainL]
    rw [if_neg (fun hh => by rcases hh with hh | hh
                             · omega
                             · exact hh rfl)]
    have hg : (fr ++ fp.map (· + (accS ps).1.length)).getD ((accS ps).1.length + p.length - 1) 0 = (accS ps).1.length := by
      simp only [List.getD_eq_getElem?_getD] at hpt ⊢
      rw [List.getElem?_append_right (by omega), show (accS ps).1.length + p.length - 1 - fr.length = p.length - 1 by omega, List.getElem?_map]
      rw [List.getElem?_eq_getElem (show p.length - 1 < fp.length by omega)] at hpt ⊢
      simp at hpt ⊢; omega
    rw [hg, chainL_congr hlow _ _ (fun j hj => by simp only [List.getD_eq_getElem?_getD]; rw [List.getElem?_append_left (by omega)]), h2]

theorem join_snd {op n : Int} {nm : ByteArray} {ps : List (List Nd)} (h : ∀ p ∈ ps, sndB p = true) (hf : fitB op n nm ps.length = true) (hl : 1 + (accS ps).1.length ≤ 64) : ∃ fr, begL (joinL op n nm ps) = some fr := by
  obtain ⟨fr, h1, h2⟩ := acc_beg ps h
  obtain ⟨hlen, hlow, _, _⟩ := begR_some h1 low_nil
  simp only [List.length_nil, Nat.zero_add] at hlen
  refine ⟨fr ++ [0], begL_mk ?_ ?_ ?_ ?_⟩
  · simp [joinL]
  · simp [joinL]; omega
  · unfold joinL
    rw [begR_snoc, h1, Option.bind_some]
    unfold stp
    rw [if_pos (by unfold formB; simp only [accS_len2]; exact hf), hlen]
    simp only
    rw [h2]; rfl
  · have e : (joinL op n nm ps).length - 1 = fr.length := by simp [joinL, hlen]
    rw [e]; simp

theorem acc_last (ps : List (List Nd)) : ((accS ps).1.length : Int) = match (accS ps).2.getLast? with | none => 0 | some k => k + 1 := by
  induction ps using snocRec with
  | nil => simp [accS_nil]
  | snoc ps p ih => rw [accS_snoc]; simp
theorem mvK_inj (m : Nat) {a b : Int} (h : mvK 0 m a = mvK 0 m b) : a = b := by
  unfold mvK at h
  split at h <;> split at h <;> omega
theorem map_inj' {α β : Type} {f : α → β} (hf : ∀ a b, f a = f b → a = b) : ∀ (l m : List α), l.map f = m.map f → l = m := by
  intro l
  induction l with
  | nil => intro m h; cases m with
    | nil => rfl
    | cons b m => simp at h
  | cons a l ih => intro m h; cases m with
    | nil => simp at h
    | cons b m => simp only [List.map_cons, List.cons.injEq] at h; rw [hf _ _ h.1, ih m h.2]
theorem mvN_inj (m : Nat) (x y : Nd) (h : mvN 0 m x = mvN 0 m y) : x = y := by
  obtain ⟨a, b, c, k⟩ := x
  obtain ⟨a', b', c', k'⟩ := y
  simp only [mvN, Nd.mk.injEq] at h ⊢
  exact ⟨h.1, h.2.1, h.2.2.1, map_inj' (fun _ _ e => mvK_inj m e) _ _ h.2.2.2⟩
theorem acc_inj (ps : List (List Nd)) : ∀ qs, accS ps = accS qs → ps = qs := by
  induction ps using snocRec with
  | nil =>
    intro qs h
    have := congrArg (fun s => s.2.length) h
    simp only [accS_len2, List.length_nil] at this
    exact (List.length_eq_zero_iff.1 this.symm).symm
  | snoc ps p ih =>
    intro qs h
    have hl := congrArg (fun s => s.2.length) h
    simp only [accS_len2, List.length_append, List.length_singleton] at hl
    obtain ⟨qs', q, rfl⟩ : ∃ qs' q, qs = qs' ++ [q] := ⟨qs.dropLast, qs.getLast (by intro e; subst e; simp at hl), (List.dropLast_concat_getLast _).symm⟩
    rw [accS_snoc, accS_snoc, Prod.mk.injEq] at h
    obtain ⟨h1, h2⟩ := h
    obtain ⟨h3, h4⟩ := List.append_inj' h2 rfl
    have hA : (accS ps).1.length = (accS qs').1.length := by
      have e1 := acc_last ps
      have e2 := acc_last qs'
      rw [h3] at e1
      omega
    obtain ⟨h5, h6⟩ := List.append_inj h1 hA
    rw [hA] at h6
    have hpq : p = q := map_inj' (fun x y e => mvN_inj _ x y e) _ _ h6
    rw [hpq, ih qs' (Prod.ext h5 h3)]

theorem join_inv {op n : Int} {nm : ByteArray} {ps : List (List Nd)} {fr : List Nat} (h : begL (joinL op n nm ps) = some fr) : (∀ p ∈ ps, sndB p = true) ∧ fitB op n nm ps.length = true ∧ 1 + (accS ps).1.length ≤ 64 := by
  obtain ⟨h0, h64, hr, ht⟩ := begL_some h
  have hok := begOk_of hr
  have hlast : (joinL op n nm ps).getD ((joinL op n nm ps).length - 1) nd0 = ⟨op, n, nm, (accS ps).2⟩ := by simp [joinL]
  have hlen : (joinL op n nm ps).length = (accS ps).1.length + 1 := by simp [joinL]
  have hform := (hok.at_ _ (show (joinL op n nm ps).length - 1 < (joinL op n nm ps).length by omega)).1
  have hkk := snd_kk h ((joinL op n nm ps).length - 1) (by omega)
  have hw := whole_join h
  rw [hlast] at hform hkk hw
  refine ⟨fun p hp => ?_, ?_, by omega⟩
  · have hacc : accS ((accS ps).2.map (kidPart (joinL op n nm ps) fr)) = accS ps := by
      simp only at hw
      conv at hw => rhs; unfold joinL
      conv at hw => lhs; rw [joinL]
      obtain ⟨h1, h2⟩ := List.append_inj' hw rfl
      simp at h2
      exact Prod.ext h1 h2
    have hps := acc_inj _ _ hacc
    rw [← hps] at hp
    obtain ⟨k, hk, rfl⟩ := List.mem_map.1 hp
    have := hkk k hk
    obtain ⟨fo, hfo⟩ := part_snd h k.toNat (by omega)
    unfold kidPart sndB
    rw [hfo]; rfl
  · unfold formB at hform; simp only [accS_len2] at hform; exact hform

theorem join_iff (op n : Int) (nm : ByteArray) (ps : List (List Nd)) : sndB (joinL op n nm ps) = true ↔ (∀ p ∈ ps, sndB p = true) ∧ fitB op n nm ps.length = true ∧ 1 + (accS ps).1.length ≤ 64 := by
  constructor
  · intro h
    obtain ⟨fr, hfr⟩ := snd_some h
    exact join_inv hfr
  · rintro ⟨h1, h2, h3⟩
    obtain ⟨fr, hfr⟩ := join_snd h1 h2 h3
    unfold sndB; rw [hfr]; rfl

/-- What the document makes of a term: its nodes, or none. -/
def wantT (t : Tm) : List Nd := if sndB (flatT t) = true then flatT t else []
theorem snd_nil : sndB [] = false := rfl
theorem want_snd (t : Tm) : sndB (wantT t) = sndB (flatT t) := by
  unfold wantT
  split
  · rfl
  · rename_i h; rw [snd_nil]; simpa using h
theorem want_pos (t : Tm) : 0 < (wantT t).length ↔ sndB (flatT t) = true := by
  unfold wantT
  split
  · rename_i h
    obtain ⟨fr, hfr⟩ := snd_some h
    exact ⟨fun _ => h, fun _ => (begL_some hfr).1⟩
  · rename_i h; simp [h]
/-- Made of what the parts come to. -/
theorem want_join (t : Tm) : ((∃ l ∈ (partsT t).map wantT, sndB l = false) → wantT t = []) ∧ ((∀ l ∈ (partsT t).map wantT, sndB l = true) → (fitB (opT t) (nT t) (nameT t) (partsT t).length = true ∧ 1 + (accS ((partsT t).map wantT)).1.length ≤ 64 → wantT t = joinL (opT t) (nT t) (nameT t) ((partsT t).map wantT)) ∧ (¬ (fitB (opT t) (nT t) (nameT t) (partsT t).length = true ∧ 1 + (accS ((partsT t).map wantT)).1.length ≤ 64) → wantT t = [])) := by
  have hj := join_iff (opT t) (nT t) (nameT t) ((partsT t).map flatT)
  rw [← flatT_eq] at hj
  refine ⟨?_, fun hall => ?_⟩
  · rintro ⟨l, hl, hs⟩
    obtain ⟨q, hq, rfl⟩ := List.mem_map.1 hl
    rw [want_snd] at hs
    unfold wantT
    rw [if_neg]
    intro h
    have := (hj.1 h).1 (flatT q) (List.mem_map_of_mem hq)
    rw [hs] at this; cases this
  · have hm : (partsT t).map wantT = (partsT t).map flatT := by
      apply List.map_congr_left
      intro q hq
      have := hall (wantT q) (List.mem_map_of_mem hq)
      rw [want_snd] at this
      unfold wantT; rw [if_pos this]
    rw [hm] at hall ⊢
    refine ⟨fun hf => ?_, fun hf => ?_⟩
    · unfold wantT
      rw [if_pos (hj.2 ⟨hall, by simpa using hf.1, hf.2⟩)]
      exact flatT_eq t
    · unfold wantT
      rw [if_neg]
      intro h
      obtain ⟨_, h2, h3⟩ := hj.1 h
      exact hf ⟨by simpa using h2, h3⟩
end Go.Proofs.YtiobcipmieefaaaDoor
