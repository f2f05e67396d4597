/-
  The list of nodes that a term stands for; of a sound expression's term it is the expression.
-/
import Derived.Test.YtdcfjopmddaemaaDoorMBxAlkW
import Derived.Test.YtdcfjopmddaemaaDoorMGC
import Derived.Test.YtdcfjopmddaemaaDoorMExDecPure
set_option linter.unusedSimpArgs false
set_option linter.unusedVariables false
namespace Go.Proofs.YtdcfjopmddaemaaDoor
open Go.RowKit Go.Lib

/-- The term of one node; ts: the terms of the nodes ahead. -/
def ndT (x : Nd) (ts : List Tm) : Tm :=
  if x.op = 1 then .lit x.n else if x.op = 2 then .var x.name
  else match x.kids with
    | [a] => .un x.op (ts.getD a.toNat .nil)
    | [a, b] => .bin x.op (ts.getD a.toNat .nil) (ts.getD b.toNat .nil)
    | [c, a, b] => .ifs (ts.getD c.toNat .nil) (ts.getD a.toNat .nil) (ts.getD b.toNat .nil)
    | _ => .nil
/-- The terms of all nodes. -/
def tmR (ts : List Tm) : List Nd → List Tm
  | [] => ts
  | x :: l => tmR (ts ++ [ndT x ts]) l

theorem tmR_append (l m : List Nd) : ∀ ts, tmR ts (l ++ m) = tmR (tmR ts l) m := by
  induction l with
  | nil => intro ts; rfl
  | cons x l ih => intro ts; simp only [List.cons_append, tmR]; exact ih _
theorem tmR_len (l : List Nd) : ∀ ts, (tmR ts l).length = ts.length + l.length := by
  induction l with
  | nil => intro ts; simp [tmR]
  | cons x l ih => intro ts; simp only [tmR]; rw [ih]; simp; omega
theorem tmR_take {l : List Nd} {k : Nat} (h : k < l.length) : tmR [] (l.take (k + 1)) = tmR [] (l.take k) ++ [ndT (l.getD k nd0) (tmR [] (l.take k))] := by
  rw [List.take_succ_eq_append_getElem h, tmR_append]
  simp [tmR, h]
theorem tm_snoc (ts : List Tm) (t : Tm) (j : Nat) : (ts ++ [t]).getD j .nil = if j = ts.length then t else ts.getD j .nil := by
  by_cases hjk : j = ts.length
  · subst hjk; rw [if_pos rfl]; simp
  · rw [if_neg hjk]
    by_cases hj2 : j < ts.length
    · simp only [List.getD_eq_getElem?_getD]; rw [List.getElem?_append_left hj2]
    · rw [List.getD_eq_getElem?_getD, List.getD_eq_getElem?_getD, List.getElem?_eq_none (by rw [List.length_append, List.length_singleton]; omega), List.getElem?_eq_none (by omega)]
theorem tmR_old (l : List Nd) : ∀ (ts : List Tm) (j : Nat), j < ts.length → (tmR ts l).getD j .nil = ts.getD j .nil := by
  induction l with
  | nil => intro ts j _; rfl
  | cons x l ih =>
    intro ts j hj
    simp only [tmR]
    rw [ih _ j (by simp; omega), tm_snoc, if_neg (by omega)]
theorem ndT_congr {x : Nd} {ts ts' : List Tm} (h : ∀ k ∈ x.kids, ts'.getD k.toNat .nil = ts.getD k.toNat .nil) : ndT x ts' = ndT x ts := by
  obtain ⟨op, n, nm, kids⟩ := x
  unfold ndT
  simp only at h ⊢
  match kids, h with
  | [], _ => rfl
  | [a], h => simp only [h a (by simp)]
  | [a, b], h => simp only [h a (by simp), h b (by simp)]
  | [c, a, b], h => simp only [h c (by simp), h a (by simp), h b (by simp)]
  | _ :: _ :: _ :: _ :: _, _ => rfl
/-- A node's term is made of its parts' terms. -/
theorem tm_at {l : List Nd} (i : Nat) (hi : i < l.length) (hk : ∀ k ∈ (l.getD i nd0).kids, 0 ≤ k ∧ k < (i : Int)) : (tmR [] l).getD i .nil = ndT (l.getD i nd0) (tmR [] l) := by
  have hlen : (tmR [] (l.take i)).length = i := by rw [tmR_len]; simp; omega
  have hpre : ∀ j, j < i + 1 → (tmR [] l).getD j .nil = (tmR [] (l.take (i + 1))).getD j .nil := fun j hj => by
    conv => lhs; rw [← List.take_append_drop (i + 1) l, tmR_append]
    exact tmR_old _ _ j (by rw [tmR_len]; simp; omega)
  rw [hpre i (by omega), tmR_take hi, tm_snoc, hlen, if_pos rfl]
  refine (ndT_congr fun k hk' => ?_).symm
  have hki := hk k hk'
  rw [hpre k.toNat (by omega), tmR_take hi, tm_snoc, hlen, if_neg (by omega)]
/-- The forms of a sound node. -/
theorem form_cases {x : Nd} (h : formB x = true) : (x.op = 1 ∧ x.kids = []) ∨ (x.op = 2 ∧ x.kids = []) ∨ (x.op ≠ 1 ∧ x.op ≠ 2 ∧ ∃ a, x.kids = [a]) ∨ (x.op ≠ 1 ∧ x.op ≠ 2 ∧ ∃ a b, x.kids = [a, b]) ∨ (x.op = 17 ∧ ∃ c a b, x.kids = [c, a, b]) := by
  unfold formB fitB at h
  simp only [Bool.and_eq_true, decide_eq_true_eq] at h
  obtain ⟨⟨⟨h0, h1⟩, _⟩, _⟩ := h
  obtain ⟨op, n, nm, kids⟩ := x
  simp only at h0 h1 ⊢
  unfold aritI at h0 h1
  match kids, h1 with
  | [], h1 =>
    simp only [List.length_nil] at h1
    split at h1
    · rename_i h; rcases h with h | h
      · exact .inl ⟨h, rfl⟩
      · exact .inr (.inl ⟨h, rfl⟩)
    · exfalso; split at h1
      · omega
      · split at h1
        · omega
        · split at h1 <;> omega
  | [a], h1 =>
    simp only [List.length_cons, List.length_nil] at h1
    split at h1
    · omega
    · rename_i h; exact .inr (.inr (.inl ⟨fun e => h (.inl e), fun e => h (.inr e), a, rfl⟩))
  | [a, b], h1 =>
    simp only [List.length_cons, List.length_nil] at h1
    split at h1
    · omega
    · rename_i h; exact .inr (.inr (.inr (.inl ⟨fun e => h (.inl e), fun e => h (.inr e), a, b, rfl⟩)))
  | [c, a, b], h1 =>
    simp only [List.length_cons, List.length_nil] at h1
    refine .inr (.inr (.inr (.inr ⟨?_, c, a, b, rfl⟩)))
    split at h1
    · omega
    · split at h1
      · omega
      · split at h1
        · omega
        · split at h1
          · assumption
          · omega
  | _ :: _ :: _ :: _ :: l, h1 =>
    exfalso
    simp only [List.length_cons] at h1
    split at h1
    · omega
    · split at h1
      · omega
      · split at h1
        · omega
        · split at h1 <;> omega
theorem five_at {l : List Nd} {fr : List Nat} (hok : BegOk l fr) (hkk : ∀ i, i < l.length → ∀ k ∈ (l.getD i nd0).kids, 0 ≤ k ∧ k < (i : Int)) : ∀ i, i < l.length → Five ((tmR [] l).getD i .nil) := by
  intro i
  induction i using Nat.strongRecOn with
  | ind i IH =>
    intro hi
    rw [tm_at i hi (hkk i hi)]
    have hform := (hok.at_ i hi).1
    have hks := hkk i hi
    have hI : ∀ k ∈ (l.getD i nd0).kids, Five ((tmR [] l).getD k.toNat .nil) := fun k hk => IH k.toNat (by have := hks k hk; omega) (by have := hks k hk; omega)
    generalize l.getD i nd0 = x at *
    have hc := form_cases hform
    obtain ⟨op, n, nm, kids⟩ := x
    unfold ndT
    simp only at hI hc ⊢
    rcases hc with ⟨h, _⟩ | ⟨h, _⟩ | ⟨h1, h2, a, rfl⟩ | ⟨h1, h2, a, b, rfl⟩ | ⟨h, c, a, b, rfl⟩
    · rw [if_pos h]; trivial
    · rw [if_neg (by omega), if_pos h]; trivial
    · rw [if_neg h1, if_neg h2]; exact hI a (by simp)
    · rw [if_neg h1, if_neg h2]; exact ⟨hI a (by simp), hI b (by simp)⟩
    · rw [if_neg (by omega), if_neg (by omega)]; exact ⟨hI c (by simp), hI a (by simp), hI b (by simp)⟩

/-- The term of the expression at a place. -/
def tmA (l : List Nd) (i : Nat) : Tm := (tmR [] l).getD i .nil
theorem tmA_lit {l : List Nd} {i : Nat} (hi : i < l.length) (h : (l.getD i nd0).op = 1) (hk : ∀ k ∈ (l.getD i nd0).kids, 0 ≤ k ∧ k < (i : Int)) : tmA l i = .lit (l.getD i nd0).n := by
  unfold tmA; rw [tm_at i hi hk]; unfold ndT; rw [if_pos h]
theorem tmA_var {l : List Nd} {i : Nat} (hi : i < l.length) (h : (l.getD i nd0).op = 2) (hk : ∀ k ∈ (l.getD i nd0).kids, 0 ≤ k ∧ k < (i : Int)) : tmA l i = .var (l.getD i nd0).name := by
  unfold tmA; rw [tm_at i hi hk]; unfold ndT; rw [if_neg (by omega), if_pos h]
theorem tmA_un {l : List Nd} {i : Nat} (hi : i < l.length) (h1 : (l.getD i nd0).op ≠ 1) (h2 : (l.getD i nd0).op ≠ 2) (a : Nat) (h : (l.getD i nd0).kids = [(a : Int)]) (hk : ∀ k ∈ (l.getD i nd0).kids, 0 ≤ k ∧ k < (i : Int)) : tmA l i = .un (l.getD i nd0).op (tmA l a) := by
  unfold tmA; rw [tm_at i hi hk]; unfold ndT; rw [if_neg h1, if_neg h2, h]; simp only [Int.toNat_natCast]
theorem tmA_bin {l : List Nd} {i : Nat} (hi : i < l.length) (h1 : (l.getD i nd0).op ≠ 1) (h2 : (l.getD i nd0).op ≠ 2) (a b : Nat) (h : (l.getD i nd0).kids = [(a : Int), (b : Int)]) (hk : ∀ k ∈ (l.getD i nd0).kids, 0 ≤ k ∧ k < (i : Int)) : tmA l i = .bin (l.getD i nd0).op (tmA l a) (tmA l b) := by
  unfold tmA; rw [tm_at i hi hk]; unfold ndT; rw [if_neg h1, if_neg h2, h]; simp only [Int.toNat_natCast]
theorem tmA_ifs {l : List Nd} {i : Nat} (hi : i < l.length) (h1 : (l.getD i nd0).op = 17) (c a b : Nat) (h : (l.getD i nd0).kids = [(c : Int), (a : Int), (b : Int)]) (hk : ∀ k ∈ (l.getD i nd0).kids, 0 ≤ k ∧ k < (i : Int)) : tmA l i = .ifs (tmA l c) (tmA l a) (tmA l b) := by
  unfold tmA; rw [tm_at i hi hk]; unfold ndT; rw [if_neg (by omega), if_neg (by omega), h]; simp only [Int.toNat_natCast]
theorem snd_kk {l : List Nd} {fr : List Nat} (h : begL l = some fr) : ∀ i, i < l.length → ∀ k ∈ (l.getD i nd0).kids, 0 ≤ k ∧ k < (i : Int) := by
  have hok := begOk_of (begL_some h).2.2.1
  intro i hi k hk
  obtain ⟨c, h0, h1, rfl⟩ := (chain_inv (fr := fr) (P := fun c => c ≤ i) (fun c h0 hc => by have := hok.low (c - 1); omega) _ _ _ (Nat.le_refl i) (hok.at_ i hi).2).2 k (by simpa using hk)
  omega
theorem five_tm {l : List Nd} {fr : List Nat} (h : begL l = some fr) {i : Nat} (hi : i < l.length) : Five (tmA l i) := five_at (begOk_of (begL_some h).2.2.1) (snd_kk h) i hi
end Go.Proofs.YtdcfjopmddaemaaDoor

namespace Go.Proofs.YtdcfjopmddaemaaDoor
open Go.RowKit Go.Lib

def flatT : Tm → List Nd
  | .lit n => joinL 1 n ⟨#[]⟩ []
  | .var s => joinL 2 0 s []
  | .un op a => joinL op 0 ⟨#[]⟩ [flatT a]
  | .bin op a b => joinL op 0 ⟨#[]⟩ [flatT a, flatT b]
  | .ifs c a b => joinL 17 0 ⟨#[]⟩ [flatT c, flatT a, flatT b]
  | _ => joinL 0 0 ⟨#[]⟩ []
theorem flatT_eq (t : Tm) : flatT t = joinL (opT t) (nT t) (nameT t) ((partsT t).map flatT) := by
  cases t <;> simp [flatT, opT, nT, nameT, partsT]

/-- What a sound node has not. -/
theorem form_rest {x : Nd} (h : formB x = true) : (x.op ≠ 1 → x.n = 0) ∧ (x.op ≠ 2 → x.name = ⟨#[]⟩) := by
  unfold formB fitB at h
  simp only [Bool.and_eq_true, Bool.or_eq_true, decide_eq_true_eq] at h
  obtain ⟨⟨_, h2⟩, h3⟩ := h
  refine ⟨fun hn => ?_, fun hn => ?_⟩
  · rcases h2 with h2 | h2
    · exact h2
    · exact absurd h2 hn
  · rw [if_neg hn] at h3
    have h4 : x.name.data.toList = [] := by simpa [toList_data] using h3
    exact ByteArray.ext (Array.toList_eq_nil_iff.1 h4)

theorem flat_tm {l : List Nd} {fr : List Nat} (hs : begL l = some fr) : ∀ i, i < l.length → flatT (tmA l i) = partL l (fr.getD i 0) i := by
  have hok := begOk_of (begL_some hs).2.2.1
  intro i
  induction i using Nat.strongRecOn with
  | ind i IH =>
    intro hi
    have hkk := snd_kk hs i hi
    have hform := (hok.at_ i hi).1
    have hcs := form_cases hform
    obtain ⟨hr1, hr2⟩ := form_rest hform
    rw [part_join hok i hi]
    have L1 := @tmA_lit l i hi
    have L2 := @tmA_var l i hi
    have L3 := @tmA_un l i hi
    have L4 := @tmA_bin l i hi
    have L5 := @tmA_ifs l i hi
    have IK : ∀ z : Nat, z < i → flatT (tmA l z) = kidPart l fr (z : Int) := fun z hz => by
      rw [IH z hz (by omega)]; unfold kidPart; rw [Int.toNat_natCast]
    generalize l.getD i nd0 = x at *
    obtain ⟨op, n, nm, kids⟩ := x
    simp only at hcs hkk hr1 hr2 L1 L2 L3 L4 L5 ⊢
    rcases hcs with ⟨h, rfl⟩ | ⟨h, rfl⟩ | ⟨h1, h2, a, rfl⟩ | ⟨h1, h2, a, b, rfl⟩ | ⟨h, c, a, b, rfl⟩
    · rw [L1 h hkk, hr2 (by omega), h]; rfl
    · rw [L2 h hkk, hr1 (by omega), h]; rfl
    · have ha := hkk a (by simp)
      obtain ⟨a, rfl⟩ : ∃ z : Nat, a = (z : Int) := ⟨a.toNat, by omega⟩
      rw [L3 h1 h2 a rfl hkk, hr1 h1, hr2 h2]
      simp only [flatT, List.map_cons, List.map_nil]
      rw [IK a (by omega)]
    · have ha := hkk a (by simp)
      have hb := hkk b (by simp)
      obtain ⟨a, rfl⟩ : ∃ z : Nat, a = (z : Int) := ⟨a.toNat, by omega⟩
      obtain ⟨b, rfl⟩ : ∃ z : Nat, b = (z : Int) := ⟨b.toNat, by omega⟩
      rw [L4 h1 h2 a b rfl hkk, hr1 h1, hr2 h2]
      simp only [flatT, List.map_cons, List.map_nil]
      rw [IK a (by omega), IK b (by omega)]
    · have hc := hkk c (by simp)
      have ha := hkk a (by simp)
      have hb := hkk b (by simp)
      obtain ⟨c, rfl⟩ : ∃ z : Nat, c = (z : Int) := ⟨c.toNat, by omega⟩
      obtain ⟨a, rfl⟩ : ∃ z : Nat, a = (z : Int) := ⟨a.toNat, by omega⟩
      obtain ⟨b, rfl⟩ : ∃ z : Nat, b = (z : Int) := ⟨b.toNat, by omega⟩
      rw [L5 h c a b rfl hkk, hr1 (by omega), hr2 (by omega), h]
      simp only [flatT, List.map_cons, List.map_nil]
      rw [IK c (by omega), IK a (by omega), IK b (by omega)]

/-- The whole, there and back. -/
theorem flat_whole {l : List Nd} {fr : List Nat} (hs : begL l = some fr) : flatT (tmA l (l.length - 1)) = l := by
  obtain ⟨h0, _, hr, ht⟩ := begL_some hs
  rw [flat_tm hs _ (by omega), ht]
  unfold partL
  have e : l.length - 1 + 1 - 0 = l.length := by omega
  rw [e]
  simp [map_mvN_zero]
end Go.Proofs.YtdcfjopmddaemaaDoor

namespace Go.Proofs.YtdcfjopmddaemaaDoor
open Go.RowKit Go.Lib

theorem snocRec {α : Type} {P : List α → Prop} (nil : P []) (snoc : ∀ l a, P l → P (l ++ [a])) (l : List α) : P l := by
  rw [← List.reverse_reverse l]
  induction l.reverse with
  | nil => exact nil
  | cons a r ih => rw [List.reverse_cons]; exact snoc _ a ih

theorem chain_move (fr0 fq : List Nat) (hq : Low fq) : ∀ (ks : List Int) (c a : Nat), c ≤ fq.length → chainL fq ks c = some a → chainL (fr0 ++ fq.map (· + fr0.length)) (ks.map (mvK 0 fr0.length)) (fr0.length + c) = some (fr0.length + a) := by
  intro ks
  induction ks with
  | nil => intro c a _ h; simp [chainL] at h ⊢; exact h
  | cons k ks ih =>
    intro c a hc h
    simp only [chainL] at h
    split at h
    · cases h
    · rename_i hn
      obtain ⟨h0, hk⟩ : c ≠ 0 ∧ k = (c : Int) - 1 := by
        constructor
        · intro e; exact hn (.inl e)
        · by_cases e : k = (c : Int) - 1
          · exact e
          · exact absurd (.inr e) hn
      simp only [List.map_cons, chainL]
      have hkk : mvK 0 fr0.length k = ((fr0.length + c : Nat) : Int) - 1 := by unfold mvK; rw [if_pos (by omega)]; omega
      rw [if_neg (by rw [hkk]; simp; omega)]
      have hg : (fr0 ++ fq.map (· + fr0.length)).getD (fr0.length + c - 1) 0 = fr0.length + fq.getD (c - 1) 0 := by
        simp only [List.getD_eq_getElem?_getD]
        rw [List.getElem?_append_right (by omega), show fr0.length + c - 1 - fr0.length = c - 1 by omega, List.getElem?_map]
        rw [List.getElem?_eq_getElem (show c - 1 < fq.length by omega)]
        simp; omega
      rw [hg]
      exact ih _ _ (by have := hq (c - 1); omega) h

/-- Behind other nodes a list is gone through the same way. -/
theorem begR_move (fr0 : List Nat) : ∀ (p : List Nd) (fp : List Nat), begR [] p = some fp → begR fr0 (p.map (mvN 0 fr0.length)) = some (fr0 ++ fp.map (· + fr0.length)) := by
  intro p
  induction p using snocRec with
  | nil => intro fp h; simp [begR] at h; subst h; simp [begR]
  | snoc p x ih =>
    intro fp h
    rw [begR_snoc] at h
    cases hp : begR [] p with
    | none => rw [hp] at h; cases h
    | some fq =>
      rw [hp, Option.bind_some] at h
      obtain ⟨hf, a, hc, rfl⟩ := stp_some h
      have hlow := (begR_some hp low_nil).2.1
      rw [List.map_append, List.map_cons, List.map_nil, begR_snoc, ih fq hp, Option.bind_some]
      unfold stp
      rw [if_pos (by rw [mvN_form]; exact hf), mvN_kids_rev]
      have hm := chain_move fr0 fq hlow _ _ _ (Nat.le_refl _) hc
      have hl : (fr0 ++ fq.map (· + fr0.length)).length = fr0.length + fq.length := by simp
      rw [hl, hm]
      simp [Nat.add_comm]

theorem acc_beg (ps : List (List Nd)) : (∀ p ∈ ps, sndB p = true) → ∃ fr, begR [] (accS ps).1 = some fr ∧ chainL fr (accS ps).2.reverse (accS ps).1.length = some 0 := by
  induction ps using snocRec with
  | nil => intro _; exact ⟨[], by simp [accS_nil, begR], by simp [accS_nil, chainL]⟩
  | snoc ps p ih =>
    intro h
    obtain ⟨fr, h1, h2⟩ := ih (fun q hq => h q (by simp [hq]))
    obtain ⟨fp, hp⟩ := snd_some (h p (by simp))
    obtain ⟨hp0, _, hpr, hpt⟩ := begL_some hp
    obtain ⟨hlen, hlow, _, _⟩ := begR_some h1 low_nil
    simp only [List.length_nil, Nat.zero_add] at hlen
    obtain ⟨hlp, _, _, _⟩ := begR_some hpr low_nil
    simp only [List.length_nil, Nat.zero_add] at hlp
    rw [accS_snoc]
    have hm := begR_move fr p fp hpr
    rw [hlen] at hm
    refine ⟨fr ++ fp.map (· + (accS ps).1.length), by rw [begR_append, h1, Option.bind_some]; exact hm, ?_⟩
    simp only [List.reverse_append, List.reverse_cons, List.reverse_nil, List.nil_append, List.singleton_append, List.length_append, List.length_map, chainL]
    rw [if_neg (fun hh => by rcases hh with hh | hh
                             · omega
                             · exact hh rfl)]
    have hg : (fr ++ fp.map (· + (accS ps).1.length)).getD ((accS ps).1.length + p.length - 1) 0 = (accS ps).1.length := by
      simp only [List.getD_eq_getElem?_getD] at hpt ⊢
      rw [List.getElem?_append_right (by omega), show (accS ps).1.length + p.length - 1 - fr.length = p.length - 1 by omega, List.getElem?_map]
      rw [List.getElem?_eq_getElem (show p.length - 1 < fp.length by omega)] at hpt ⊢
      simp at hpt ⊢; omega
    rw [hg, chainL_congr hlow _ _ (fun j hj => by simp only [List.getD_eq_getElem?_getD]; rw [List.getElem?_append_left (by omega)]), h2]

theorem join_snd {op n : Int} {nm : ByteArray} {ps : List (List Nd)} (h : ∀ p ∈ ps, sndB p = true) (hf : fitB op n nm ps.length = true) (hl : 1 + (accS ps).1.length ≤ 64) : ∃ fr, begL (joinL op n nm ps) = some fr := by
  obtain ⟨fr, h1, h2⟩ := acc_beg ps h
  obtain ⟨hlen, hlow, _, _⟩ := begR_some h1 low_nil
  simp only [List.length_nil, Nat.zero_add] at hlen
  refine ⟨fr ++ [0], begL_mk ?_ ?_ ?_ ?_⟩
  · simp [joinL]
  · simp [joinL]; omega
  · unfold joinL
    rw [begR_snoc, h1, Option.bind_some]
    unfold stp
    rw [if_pos (by unfold formB; simp only [accS_len2]; exact hf), hlen]
    simp only
    rw [h2]; rfl
  · have e : (joinL op n nm ps).length - 1 = fr.length := by simp [joinL, hlen]
    rw [e]; simp

theorem acc_last (ps : List (List Nd)) : ((accS ps).1.length : Int) = match (accS ps).2.getLast? with | none => 0 | some k => k + 1 := by
  induction ps using snocRec with
  | nil => simp [accS_nil]
  | snoc ps p ih => rw [accS_snoc]; simp
theorem mvK_inj (m : Nat) {a b : Int} (h : mvK 0 m a = mvK 0 m b) : a = b := by
  unfold mvK at h
  split at h <;> split at h <;> omega
theorem map_inj' {α β : Type} {f : α → β} (hf : ∀ a b, f a = f b → a = b) : ∀ (l m : List α), l.map f = m.map f → l = m := by
  intro l
  induction l with
  | nil => intro m h; cases m with
    | nil => rfl
    | cons b m => simp at h
  | cons a l ih => intro m h; cases m with
    | nil => simp at h
    | cons b m => simp only [List.map_cons, List.cons.injEq] at h; rw [hf _ _ h.1, ih m h.2]
theorem mvN_inj (m : Nat) (x y : Nd) (h : mvN 0 m x = mvN 0 m y) : x = y := by
  obtain ⟨a, b, c, k⟩ := x
  obtain ⟨a', b', c', k'⟩ := y
  simp only [mvN, Nd.mk.injEq] at h ⊢
  exact ⟨h.1, h.2.1, h.2.2.1, map_inj' (fun _ _ e => mvK_inj m e) _ _ h.2.2.2⟩
theorem acc_inj (ps : List (List Nd)) : ∀ qs, accS ps = accS qs → ps = qs := by
  induction ps using snocRec with
  | nil =>
    intro qs h
    have := congrArg (fun s => s.2.length) h
    simp only [accS_len2, List.length_nil] at this
    exact (List.length_eq_zero_iff.1 this.symm).symm
  | snoc ps p ih =>
    intro qs h
    have hl := congrArg (fun s => s.2.length) h
    simp only [accS_len2, List.length_append, List.length_singleton] at hl
    obtain ⟨qs', q, rfl⟩ : ∃ qs' q, qs = qs' ++ [q] := ⟨qs.dropLast, qs.getLast (by intro e; subst e; simp at hl), (List.dropLast_concat_getLast _).symm⟩
    rw [accS_snoc, accS_snoc, Prod.mk.injEq] at h
    obtain ⟨h1, h2⟩ := h
    obtain ⟨h3, h4⟩ := List.append_inj' h2 rfl
    have hA : (accS ps).1.length = (accS qs').1.length := by
      have e1 := acc_last ps
      have e2 := acc_last qs'
      rw [h3] at e1
      omega
    obtain ⟨h5, h6⟩ := List.append_inj h1 hA
    rw [hA] at h6
    have hpq : p = q := map_inj' (fun x y e => mvN_inj _ x y e) _ _ h6
    rw [hpq, ih qs' (Prod.ext h5 h3)]

theorem join_inv {op n : Int} {nm : ByteArray} {ps : List (List Nd)} {fr : List Nat} (h : begL (joinL op n nm ps) = some fr) : (∀ p ∈ ps, sndB p = true) ∧ fitB op n nm ps.length = true ∧ 1 + (accS ps).1.length ≤ 64 := by
  obtain ⟨h0, h64, hr, ht⟩ := begL_some h
  have hok := begOk_of hr
  have hlast : (joinL op n nm ps).getD ((joinL op n nm ps).length - 1) nd0 = ⟨op, n, nm, (accS ps).2⟩ := by simp [joinL]
  have hlen : (joinL op n nm ps).length = (accS ps).1.length + 1 := by simp [joinL]
  have hform := (hok.at_ _ (show (joinL op n nm ps).length - 1 < (joinL op n nm ps).length by omega)).1
  have hkk := snd_kk h ((joinL op n nm ps).length - 1) (by omega)
  have hw := whole_join h
  rw [hlast] at hform hkk hw
  refine ⟨fun p hp => ?_, ?_, by omega⟩
  · have hacc : accS ((accS ps).2.map (kidPart (joinL op n nm ps) fr)) = accS ps := by
      simp only at hw
      conv at hw => rhs; unfold joinL
      conv at hw => lhs; rw [joinL]
      obtain ⟨h1, h2⟩ := List.append_inj' hw rfl
      simp at h2
      exact Prod.ext h1 h2
    have hps := acc_inj _ _ hacc
    rw [← hps] at hp
    obtain ⟨k, hk, rfl⟩ := List.mem_map.1 hp
    have := hkk k hk
    obtain ⟨fo, hfo⟩ := part_snd h k.toNat (by omega)
    unfold kidPart sndB
    rw [hfo]; rfl
  · unfold formB at hform; simp only [accS_len2] at hform; exact hform

theorem join_iff (op n : Int) (nm : ByteArray) (ps : List (List Nd)) : sndB (joinL op n nm ps) = true ↔ (∀ p ∈ ps, sndB p = true) ∧ fitB op n nm ps.length = true ∧ 1 + (accS ps).1.length ≤ 64 := by
  constructor
  · intro h
    obtain ⟨fr, hfr⟩ := snd_some h
    exact join_inv hfr
  · rintro ⟨h1, h2, h3⟩
    obtain ⟨fr, hfr⟩ := join_snd h1 h2 h3
    unfold sndB; rw [hfr]; rfl

/-- What the document makes of a term: its nodes, or none. -/
def wantT (t : Tm) : List Nd := if sndB (flatT t) = true then flatT t else []
theorem snd_nil : sndB [] = false := rfl
theorem want_snd (t : Tm) : sndB (wantT t) = sndB (flatT t) := by
  unfold wantT
  split
  · rfl
  · rename_i h; rw [snd_nil]; simpa using h
theorem want_pos (t : Tm) : 0 < (wantT t).length ↔ sndB (flatT t) = true := by
  unfold wantT
  split
  · rename_i h
    obtain ⟨fr, hfr⟩ := snd_some h
    exact ⟨fun _ => h, fun _ => (begL_some hfr).1⟩
  · rename_i h; simp [h]
/-- Made of what the parts come to. -/
theorem want_join (t : Tm) : ((∃ l ∈ (partsT t).map wantT, sndB l = false) → wantT t = []) ∧ ((∀ l ∈ (partsT t).map wantT, sndB l = true) → (fitB (opT t) (nT t) (nameT t) (partsT t).length = true ∧ 1 + (accS ((partsT t).map wantT)).1.length ≤ 64 → wantT t = joinL (opT t) (nT t) (nameT t) ((partsT t).map wantT)) ∧ (¬ (fitB (opT t) (nT t) (nameT t) (partsT t).length = true ∧ 1 + (accS ((partsT t).map wantT)).1.length ≤ 64) → wantT t = [])) := by
  have hj := join_iff (opT t) (nT t) (nameT t) ((partsT t).map flatT)
  rw [← flatT_eq] at hj
  refine ⟨?_, fun hall => ?_⟩
  · rintro ⟨l, hl, hs⟩
    obtain ⟨q, hq, rfl⟩ := List.mem_map.1 hl
    rw [want_snd] at hs
    unfold wantT
    rw [if_neg]
    intro h
    have := (hj.1 h).1 (flatT q) (List.mem_map_of_mem hq)
    rw [hs] at this; cases this
  · have hm : (partsT t).map wantT = (partsT t).map flatT := by
      apply List.map_congr_left
      intro q hq
      have := hall (wantT q) (List.mem_map_of_mem hq)
      rw [want_snd] at this
      unfold wantT; rw [if_pos this]
    rw [hm] at hall ⊢
    refine ⟨fun hf => ?_, fun hf => ?_⟩
    · unfold wantT
      rw [if_pos (hj.2 ⟨hall, by simpa using hf.1, hf.2⟩)]
      exact flatT_eq t
    · unfold wantT
      rw [if_neg]
      intro h
      obtain ⟨_, h2, h3⟩ := hj.1 h
      exact hf ⟨by simpa using h2, h3⟩
end Go.Proofs.YtdcfjopmddaemaaDoor
