/-
  Plain facts: an expression, made of its parts again: its depth, its variables.
-/
import Derived.Test.YtkdcjkhpbbcncaaDoorExDecPure
import Derived.Test.YtkdcjkhpbbcncaaDoorExDepW
import Derived.Test.YtkdcjkhpbbcncaaDoorSwPure
import Derived.Test.YtkdcjkhpbbcncaaDoorNmPure
set_option linter.unusedSimpArgs false
set_option linter.unusedVariables false
namespace Go.Proofs.YtkdcjkhpbbcncaaDoor
open Go.Lib

/-! ### the variables -/
theorem vsL_append (a b : List Nd) : vsL (a ++ b) = vsL a ++ vsL b := by unfold vsL; rw [List.filter_append, List.map_append]
theorem vsL_mv (f b : Int) (l : List Nd) : vsL (l.map (mvN f b)) = vsL l := by
  induction l with
  | nil => rfl
  | cons x r ih =>
    have e1 : vsL ((x :: r).map (mvN f b)) = vsL [mvN f b x] ++ vsL (r.map (mvN f b)) := by rw [← vsL_append]; rfl
    have e2 : vsL (x :: r) = vsL [x] ++ vsL r := by rw [← vsL_append]; rfl
    rw [e1, e2, ih]
    congr 1
    have eo : (mvN f b x).op = x.op := rfl
    have en : (mvN f b x).name = x.name := rfl
    unfold vsL
    by_cases h2 : x.op = 2
    · simp [eo, en, h2]
    · simp [eo, h2]
theorem vsL_acc (ps : List (List Nd)) : ∀ s, s ∈ vsL (accS ps).1 ↔ ∃ p ∈ ps, s ∈ vsL p := by
  intro s
  have key : ∀ n, ∀ ps : List (List Nd), ps.length = n → (s ∈ vsL (accS ps).1 ↔ ∃ p ∈ ps, s ∈ vsL p) := by
    intro n
    induction n with
    | zero =>
      intro ps h
      have : ps = [] := List.length_eq_zero_iff.1 h
      subst this
      simp [accS_nil, vsL]
    | succ n ih =>
      intro ps h
      obtain ⟨qs, p, rfl⟩ : ∃ qs p, ps = qs ++ [p] := by
        have hne : ps ≠ [] := by intro e; subst e; simp at h
        exact ⟨ps.dropLast, ps.getLast hne, (List.dropLast_concat_getLast hne).symm⟩
      rw [accS_snoc]
      simp only
      rw [vsL_append, vsL_mv, List.mem_append, ih qs (by simp at h; omega)]
      constructor
      · rintro (⟨q, hq, hs⟩ | hs)
        · exact ⟨q, List.mem_append_left _ hq, hs⟩
        · exact ⟨p, by simp, hs⟩
      · rintro ⟨q, hq, hs⟩
        rcases List.mem_append.1 hq with hq | hq
        · exact .inl ⟨q, hq, hs⟩
        · simp at hq; subst hq; exact .inr hs
  exact key _ ps rfl

/-- The variables of the whole are those of the parts, and its own. -/
theorem vs_whole {l : List Nd} {fr : List Nat} (hb : begL l = some fr) (s : ByteArray) :
    s ∈ vsL l ↔ (∃ k ∈ (l.getD (l.length - 1) nd0).kids, s ∈ vsL (kidPart l fr k)) ∨ ((l.getD (l.length - 1) nd0).op = 2 ∧ s = (l.getD (l.length - 1) nd0).name) := by
  have h := whole_join hb
  generalize l.getD (l.length - 1) nd0 = x at h ⊢
  have e : vsL l = vsL (accS (x.kids.map (kidPart l fr))).1 ++ vsL [⟨x.op, x.n, x.name, (accS (x.kids.map (kidPart l fr))).2⟩] := by
    rw [← vsL_append]; exact congrArg vsL h.symm
  rw [e, List.mem_append, vsL_acc]
  constructor
  · rintro (⟨p, hp, hs⟩ | hs)
    · obtain ⟨k, hk, rfl⟩ := List.mem_map.1 hp
      exact .inl ⟨k, hk, hs⟩
    · right
      unfold vsL at hs
      by_cases h2 : x.op = 2
      · simp [h2] at hs; exact ⟨h2, hs⟩
      · simp [h2] at hs
  · rintro (⟨k, hk, hs⟩ | ⟨h2, hs⟩)
    · exact .inl ⟨_, List.mem_map.2 ⟨k, hk, rfl⟩, hs⟩
    · right
      unfold vsL
      simp [h2, hs]

/-! ### the depth -/
theorem mxF_map {ds ds' : List Nat} (g : Int → Int) : ∀ (ks : List Int) (m : Nat), (∀ k ∈ ks, ds'.getD (g k).toNat 0 = ds.getD k.toNat 0) → mxF ds' m (ks.map g) = mxF ds m ks := by
  intro ks
  induction ks with
  | nil => intro m _; rfl
  | cons k ks ih =>
    intro m hk
    unfold mxF
    simp only [List.map_cons, List.foldl_cons]
    rw [hk k (List.mem_cons_self ..)]
    exact ih _ (fun q hq => hk q (List.mem_cons_of_mem _ hq))
theorem ok_kids_lt {l : List Nd} {fr : List Nat} (h : BegOk l fr) (i : Nat) (hi : i < l.length) : ∀ k ∈ (l.getD i nd0).kids, 0 ≤ k ∧ k < (i : Int) := by
  intro k hk
  exact chainL_kids _ _ _ (h.at_ i hi).2 h.low k (by simpa using hk)

theorem dp_part {l : List Nd} {fr : List Nat} (h : BegOk l fr) (i : Nat) (hi : i < l.length) : ∀ j, fr.getD i 0 ≤ j → j ≤ i → (dpR [] (partL l (fr.getD i 0) i)).getD (j - fr.getD i 0) 0 = (dpR [] l).getD j 0 := by
  have hai : fr.getD i 0 ≤ i := h.low i
  have hp := part_ok h i hi
  intro j
  induction j using Nat.strongRecOn with
  | ind j IH =>
    intro haj hji
    have hjp : j - fr.getD i 0 < (partL l (fr.getD i 0) i).length := by rw [partL_len _ _ _ hi hai]; omega
    rw [dp_at (j - fr.getD i 0) hjp (ok_kids_lt hp _ hjp), dp_at j (by omega) (ok_kids_lt h j (by omega))]
    rw [partL_at _ _ _ _ hi hai (by omega), show fr.getD i 0 + (j - fr.getD i 0) = j by omega]
    congr 1
    have hk := kids_inside h i hi j haj hji
    have hk2 := ok_kids_lt h j (by omega)
    show mxF _ 0 ((l.getD j nd0).kids.map (mvK 0 (-(fr.getD i 0 : Int)))) = _
    refine mxF_map _ _ 0 fun k hkk => ?_
    have k1 := hk k hkk
    have k2 := hk2 k hkk
    have e : (mvK 0 (-(fr.getD i 0 : Int)) k).toNat = k.toNat - fr.getD i 0 := by
      unfold mvK; rw [if_pos (by omega)]; omega
    rw [e]
    exact IH k.toNat (by omega) (by omega) (by omega)

theorem dp_kid {l : List Nd} {fr : List Nat} (h : BegOk l fr) (i : Nat) (hi : i < l.length) : (dpR [] (partL l (fr.getD i 0) i)).getD ((partL l (fr.getD i 0) i).length - 1) 0 = (dpR [] l).getD i 0 := by
  have hai : fr.getD i 0 ≤ i := h.low i
  have := dp_part h i hi i hai (Nat.le_refl _)
  rw [partL_len _ _ _ hi hai, show i + 1 - fr.getD i 0 - 1 = i - fr.getD i 0 by omega]
  exact this

/-- What Make says of the parts of a sound expression. -/
theorem parts_snd {l : List Nd} {fr : List Nat} (hb : begL l = some fr) : ∀ p ∈ (l.getD (l.length - 1) nd0).kids.map (kidPart l fr), sndB p = true := by
  obtain ⟨h0, _, hr, _⟩ := begL_some hb
  have hok := begOk_of hr
  intro p hp
  obtain ⟨k, hk, rfl⟩ := List.mem_map.1 hp
  have h2 := ok_kids_lt hok (l.length - 1) (by omega) k hk
  obtain ⟨fo, hfo⟩ := part_snd hb k.toNat (by omega)
  unfold sndB kidPart
  rw [hfo]; rfl
theorem top_fit {l : List Nd} {fr : List Nat} (hb : begL l = some fr) : fitB (l.getD (l.length - 1) nd0).op (l.getD (l.length - 1) nd0).n (l.getD (l.length - 1) nd0).name (l.getD (l.length - 1) nd0).kids.length = true := by
  obtain ⟨h0, _, hr, _⟩ := begL_some hb
  exact ((begOk_of hr).at_ (l.length - 1) (by omega)).1
theorem parts_small {l : List Nd} {fr : List Nat} (hb : begL l = some fr) : 1 + (accS ((l.getD (l.length - 1) nd0).kids.map (kidPart l fr))).1.length ≤ 64 := by
  have h := congrArg List.length (whole_join hb)
  unfold joinL at h
  simp only [List.length_append, List.length_singleton] at h
  have := (snd_bounds hb).1
  omega
theorem snd_chk {l : List Nd} {fr : List Nat} (hb : begL l = some fr) : ∀ s ∈ vsL l, (chk s).2 = 0 ∧ s.size ≤ 64 := by
  obtain ⟨h0, _, hr, _⟩ := begL_some hb
  have hok := begOk_of hr
  intro s hs
  obtain ⟨x, hx, rfl⟩ := List.mem_map.1 hs
  rw [List.mem_filter] at hx
  obtain ⟨j, hj, e⟩ := List.mem_iff_getElem.1 hx.1
  have hf := (hok.at_ j hj).1
  have ej : l.getD j nd0 = x := by simp [hj, e]
  rw [ej] at hf
  exact form_name hf
theorem small_dpR (l : List Nd) : ∀ ds : List Nat, Small ds → (∀ j, j < l.length → ∀ k ∈ (l.getD j nd0).kids, 0 ≤ k ∧ k < ((ds.length + j : Nat) : Int)) → Small (dpR ds l) := by
  induction l with
  | nil => intro ds h _; exact h
  | cons x r ih =>
    intro ds h hk
    simp only [dpR]
    refine ih _ (h.snoc ?_) fun j hj k hkk => ?_
    · have := mxF_le h ds.length x.kids 0 (fun q hq => by have := hk 0 (by simp) q (by simpa using hq); simpa using this) (by omega)
      omega
    · have := hk (j + 1) (by simp; omega) k (by simpa using hkk)
      simp; omega
end Go.Proofs.YtkdcjkhpbbcncaaDoor
