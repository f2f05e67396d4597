/-
  ExSplPure, ExRefW, ExRdW, ExOpen.
-/
import Derived.Test.YtjkcbigmebbkkaaDoorChecked
import GoSem.PinnedTables
import GoSem.Claim
import GoSem.ClaimJoined
import GoSem.ClaimMapViews
import Derived.JoinedTies
import Derived.KernelRfl
import Derived.Shelf.Unicode.DecodeSlow
import Derived.Laws.RangeAny
import Derived.Shelf.Strconv.Itoa0
import Derived.Shelf.Unicode.DecodeAny
import Derived.Test.YtjkcbigmebbkkaaDoorProg
import Derived.WalkKit
import Derived.Deep.DeepFit
import Derived.Lib.OthersKept
import Derived.Lib.RuneCountTail
import Derived.Lib.LaidU8
import Derived.MakeChecks
import Derived.ProofKit
import Derived.OpenShut
import Derived.Deep.DeepHandedRow
import Derived.Deep.AppendLies
import Derived.Deep.OwnRows
import Derived.Laws.AppendOwnNone
import Derived.Deep.QuietTactic
import Derived.BigQuiet
import Derived.Deep.RegionWith
import Derived.Laws.DeepStrings4
import Derived.Deep.Slices
import Derived.SizedLaws
import Derived.Test.YtjkcbigmebbkkaaDoorRows
import Derived.Test.YtjkcbigmebbkkaaDoorY01
import Derived.Test.YtjkcbigmebbkkaaDoorY02
import Derived.Test.YtjkcbigmebbkkaaDoorY03
set_option linter.unusedSimpArgs false
set_option linter.unusedVariables false
namespace Go.Proofs.YtjkcbigmebbkkaaDoor

def chainO (os : List (Option Nat)) : List Int → Nat → Option Nat
  | [], c => some c
  | k :: ks, c => if c = 0 ∨ k ≠ (c : Int) - 1 then none else (os.getD (c - 1) none).bind fun b => chainO os ks b

def stsR (os : List (Option Nat)) : List Nd → List (Option Nat)
  | [] => os
  | x :: l => stsR (os ++ [chainO os x.kids.reverse os.length]) l

def sts (l : List Nd) : List (Option Nat) := stsR [] l

/-- No entry is above its place. -/
def LowO (os : List (Option Nat)) : Prop := ∀ j b, os.getD j none = some b → b ≤ j

theorem chainO_le {os : List (Option Nat)} (h : LowO os) : ∀ (ks : List Int) (c a : Nat), chainO os ks c = some a → a ≤ c := by
  intro ks
  induction ks with
  | nil => intro c a h; simp [chainO] at h; omega
  | cons k ks ih =>
    intro c a hh
    simp only [chainO] at hh
    split at hh
    · cases hh
    · cases hb : os.getD (c - 1) none with
      | none => rw [hb] at hh; cases hh
      | some b =>
        rw [hb] at hh
        simp only [Option.bind_some] at hh
        have := ih _ _ hh
        have := h _ _ hb
        omega

theorem getD_snocO (os : List (Option Nat)) (a : Option Nat) (j : Nat) : (os ++ [a]).getD j none = if j < os.length then os.getD j none else if j = os.length then a else none := by
  simp only [List.getD_eq_getElem?_getD, List.getElem?_append]
  split
  · rfl
  · split
    · subst_vars; simp
    · rw [List.getElem?_eq_none (by simp; omega)]; rfl

theorem LowO.snoc {os : List (Option Nat)} (h : LowO os) {a : Option Nat} (ha : ∀ b, a = some b → b ≤ os.length) : LowO (os ++ [a]) := by
  intro j b hj
  rw [getD_snocO] at hj
  split at hj
  · exact h j b hj
  · split at hj
    · have := ha b hj; omega
    · cases hj

/-- Only the entries below the cursor count. -/
theorem chainO_congr {os os' : List (Option Nat)} (h : LowO os) : ∀ (ks : List Int) (c : Nat), (∀ j, j < c → os'.getD j none = os.getD j none) → chainO os' ks c = chainO os ks c := by
  intro ks
  induction ks with
  | nil => intro c _; rfl
  | cons k ks ih =>
    intro c hc
    simp only [chainO]
    split
    · rfl
    · rename_i hn
      rw [hc (c - 1) (by omega)]
      cases hb : os.getD (c - 1) none with
      | none => rfl
      | some b =>
        simp only [Option.bind_some]
        have := h _ _ hb
        exact ih b (fun j hj => hc j (by omega))

theorem stsR_spec (l : List Nd) : ∀ (os : List (Option Nat)), LowO os → (stsR os l).length = os.length + l.length ∧ LowO (stsR os l) ∧ (∀ j, j < os.length → (stsR os l).getD j none = os.getD j none) ∧
    ∀ i, i < l.length → (stsR os l).getD (os.length + i) none = chainO (stsR os l) (l.getD i nd0).kids.reverse (os.length + i) := by
  induction l with
  | nil => intro os h; exact ⟨by simp [stsR], h, fun j hj => rfl, fun i hi => by simp at hi⟩
  | cons x l ih =>
    intro os h
    have hlow := h.snoc (a := chainO os x.kids.reverse os.length) (fun b hb => chainO_le h _ _ _ hb)
    obtain ⟨h1, h2, h3, h4⟩ := ih _ hlow
    simp only [List.length_append, List.length_cons, List.length_nil] at h1 h3 h4
    simp only [stsR]
    refine ⟨by simp; omega, h2, fun j hj => ?_, fun i hi => ?_⟩
    · rw [h3 j (by omega), getD_snocO, if_pos hj]
    · cases i with
      | zero =>
        rw [Nat.add_zero, h3 _ (by omega), getD_snocO, if_neg (by omega), if_pos rfl]
        show _ = chainO _ x.kids.reverse os.length
        refine (chainO_congr h _ _ ?_).symm
        intro j hj
        rw [h3 j (by omega), getD_snocO, if_pos hj]
      | succ i =>
        have := h4 i (by simp at hi; omega)
        have e : os.length + (0 + 1) + i = os.length + (i + 1) := by omega
        rw [e] at this
        rw [this]
        simp

theorem lowO_nil : LowO [] := by intro j b h; simp at h

theorem sts_at (l : List Nd) (i : Nat) (h : i < l.length) : (sts l).getD i none = chainO (sts l) (l.getD i nd0).kids.reverse i := by
  have := (stsR_spec l [] lowO_nil).2.2.2 i h
  simpa [sts] using this
theorem chain_some {fr : List Nat} (hl : Low fr) : ∀ (ks : List Int) (c : Nat), c ≤ fr.length → chainO (fr.map some) ks c = chainL fr ks c := by
  intro ks
  induction ks with
  | nil => intro c _; rfl
  | cons k ks ih =>
    intro c hc
    simp only [chainO, chainL]
    split
    · rfl
    · rename_i hn
      have e : (fr.map some).getD (c - 1) none = some (fr.getD (c - 1) 0) := by
        have : c - 1 < fr.length := by omega
        simp [this]
      rw [e]
      simp only [Option.bind_some]
      exact ih _ (by have := hl (c - 1); omega)

theorem sts_of_beg (l : List Nd) : ∀ (fr fr' : List Nat), Low fr → begR fr l = some fr' → stsR (fr.map some) l = fr'.map some := by
  induction l with
  | nil => intro fr fr' _ h; simp [begR] at h; subst h; rfl
  | cons x l ih =>
    intro fr fr' hl h
    simp only [begR] at h
    cases hs : stp fr x with
    | none => rw [hs] at h; cases h
    | some f2 =>
      rw [hs] at h
      simp only [Option.bind_some] at h
      obtain ⟨hf, a, hc, rfl⟩ := stp_some hs
      have := ih _ _ (hl.snoc (chainL_le hl _ _ _ hc)) h
      simp only [stsR, List.length_map]
      rw [chain_some hl _ _ (Nat.le_refl _), hc]
      simpa using this

end Go.Proofs.YtjkcbigmebbkkaaDoor

namespace Go.Proofs.YtjkcbigmebbkkaaDoor

theorem mvN_form (f b : Int) (x : Nd) : formB (mvN f b x) = formB x := by
  simp [formB, mvN]
theorem mvK_zero (k : Int) (f : Int) : mvK f 0 k = k := by unfold mvK; split <;> omega
theorem mvN_zero (f : Int) (x : Nd) : mvN f 0 x = x := by
  obtain ⟨a, b, c, d⟩ := x
  have : d.map (mvK f 0) = d := by
    conv => rhs; rw [← List.map_id d]
    exact List.map_congr_left (fun k _ => mvK_zero k f)
  simp [mvN, this]
theorem map_mvN_zero (f : Int) (l : List Nd) : l.map (mvN f 0) = l := by
  conv => rhs; rw [← List.map_id l]
  exact List.map_congr_left (fun x _ => mvN_zero f x)

theorem mvN_kids_rev (f b : Int) (x : Nd) : (mvN f b x).kids.reverse = x.kids.reverse.map (mvK f b) := by simp [mvN]

/-- Where all begin, place by place. -/
structure BegOk (l : List Nd) (fr : List Nat) : Prop where
  len : fr.length = l.length
  low : Low fr
  at_ : ∀ j, j < l.length → formB (l.getD j nd0) = true ∧ chainL fr (l.getD j nd0).kids.reverse j = some (fr.getD j 0)

theorem begOk_of {l : List Nd} {fr : List Nat} (h : begR [] l = some fr) : BegOk l fr := by
  have hlen := begR_len h
  obtain ⟨_, hlow, _, hform⟩ := begR_some h low_nil
  refine ⟨hlen, hlow, fun j hj => ⟨hform _ (by simp [hj]), ?_⟩⟩
  have hs := sts_of_beg l [] fr low_nil h
  have h1 := sts_at l j hj
  have e : sts l = fr.map some := hs
  rw [e, chain_some hlow _ _ (by omega)] at h1
  rw [← h1]
  have : j < fr.length := by omega
  simp [this]

theorem chainL_congr {fr fr' : List Nat} (h : Low fr) : ∀ (ks : List Int) (c : Nat), (∀ j, j < c → fr'.getD j 0 = fr.getD j 0) → chainL fr' ks c = chainL fr ks c := by
  intro ks
  induction ks with
  | nil => intro c _; rfl
  | cons k ks ih =>
    intro c hc
    simp only [chainL]
    split
    · rfl
    · rw [hc (c - 1) (by omega)]
      have := h (c - 1)
      exact ih _ (fun j hj => hc j (by omega))

theorem beg_of_ok {l : List Nd} {fr : List Nat} (h : BegOk l fr) : begR [] l = some fr := by
  have key : ∀ j, j ≤ l.length → begR [] (l.take j) = some (fr.take j) := by
    intro j
    induction j with
    | zero => intro _; simp [begR]
    | succ j ih =>
      intro hj
      obtain ⟨hf, hc⟩ := h.at_ j (by omega)
      have hfl := h.len
      rw [List.take_succ_eq_append_getElem (by omega), begR_snoc, ih (by omega), Option.bind_some]
      have hg : l.getD j nd0 = l[j] := by simp [show j < l.length by omega]
      rw [hg] at hf hc
      unfold stp
      rw [if_pos hf]
      have hl : (fr.take j).length = j := by simp; omega
      rw [hl, chainL_congr h.low _ _ (fun q hq => by simp [List.getElem?_take, hq]), hc]
      simp only [Option.map_some]
      rw [List.take_succ_eq_append_getElem (show j < fr.length by omega)]
      simp [show j < fr.length by omega]
  have := key l.length (Nat.le_refl _)
  rw [List.take_length, ← h.len, List.take_length] at this
  exact this

/-- What holds of the cursors of a chain. -/
theorem chain_inv {fr : List Nat} {P : Nat → Prop} (hstep : ∀ c, 0 < c → P c → P (fr.getD (c - 1) 0)) : ∀ (ks : List Int) (c r : Nat), P c → chainL fr ks c = some r → P r ∧ ∀ k ∈ ks, ∃ c', 0 < c' ∧ P c' ∧ k = (c' : Int) - 1 := by
  intro ks
  induction ks with
  | nil => intro c r hP h; simp [chainL] at h; subst h; exact ⟨hP, by simp⟩
  | cons k ks ih =>
    intro c r hP h
    simp only [chainL] at h
    split at h
    · cases h
    · rename_i hn
      obtain ⟨h1, h2⟩ := ih _ r (hstep c (by omega) hP) h
      refine ⟨h1, fun k' hk' => ?_⟩
      rcases List.mem_cons.1 hk' with rfl | hk'
      · exact ⟨c, by omega, hP, by omega⟩
      · exact h2 k' hk'

/-- Behind an expression nothing begins inside it. -/
theorem nest_behind {l : List Nd} {fr : List Nat} (h : BegOk l fr) {i : Nat} (hi : i < l.length) : ∀ j, i < j → j < l.length → fr.getD j 0 ≤ fr.getD i 0 ∨ i + 1 ≤ fr.getD j 0 := by
  intro j
  induction j using Nat.strongRecOn with
  | ind j IH =>
    intro hij hj
    have hc := (h.at_ j hj).2
    have := chain_inv (fr := fr) (P := fun c => c ≤ j ∧ (c ≤ fr.getD i 0 ∨ i + 1 ≤ c)) (fun c h0 hP => by
      have hlo := h.low (c - 1)
      refine ⟨by omega, ?_⟩
      rcases hP.2 with hP2 | hP2
      · left; omega
      · by_cases he : c = i + 1
        · left; subst he; simp
        · exact IH (c - 1) (by omega) (by omega) (by omega)) _ j _ ⟨Nat.le_refl _, .inr (by omega)⟩ hc
    exact this.1.2

/-- Inside an expression all begin inside it. -/
theorem nest_inside {l : List Nd} {fr : List Nat} (h : BegOk l fr) : ∀ i, i < l.length → ∀ j, fr.getD i 0 ≤ j → j ≤ i → fr.getD i 0 ≤ fr.getD j 0 := by
  intro i
  induction i using Nat.strongRecOn with
  | ind i IH =>
    intro hi j hj hji
    by_cases he : j = i
    · subst he; exact Nat.le_refl _
    · have hc := (h.at_ i hi).2
      have key : ∀ (ks : List Int) (c : Nat), c ≤ i → chainL fr ks c = some (fr.getD i 0) → j < c → fr.getD i 0 ≤ fr.getD j 0 := by
        intro ks
        induction ks with
        | nil => intro c _ hh hjc; simp only [chainL, Option.some.injEq] at hh; omega
        | cons k ks ih =>
          intro c hci hh hjc
          simp only [chainL] at hh
          split at hh
          · cases hh
          · have hlo := h.low (c - 1)
            by_cases hb : j < fr.getD (c - 1) 0
            · exact ih _ (by omega) hh hb
            · have h1 := IH (c - 1) (by omega) (by omega) j (by omega) (by omega)
              have h2 := chainL_le h.low _ _ _ hh
              omega
      exact key _ i (Nat.le_refl _) hc (by omega)

def tab (n : Nat) (f : Nat → Nat) : List Nat := (List.range n).map f
theorem tab_len (n : Nat) (f : Nat → Nat) : (tab n f).length = n := by simp [tab]
theorem tab_getD (n : Nat) (f : Nat → Nat) (j : Nat) : (tab n f).getD j 0 = if j < n then f j else 0 := by
  unfold tab
  split
  · rename_i h; simp [h]
  · rename_i h; rw [List.getD_eq_getElem?_getD, List.getElem?_eq_none (by simp; omega)]; rfl

theorem getD_map_mvN (f b : Int) (l : List Nd) (j : Nat) (h : j < l.length) : (l.map (mvN f b)).getD j nd0 = mvN f b (l.getD j nd0) := by simp [h]

theorem partL_len (l : List Nd) (a i : Nat) (hi : i < l.length) (hai : a ≤ i) : (partL l a i).length = i + 1 - a := by simp [partL]; omega
theorem partL_at (l : List Nd) (a i j : Nat) (hi : i < l.length) (hai : a ≤ i) (hj : j < i + 1 - a) : (partL l a i).getD j nd0 = mvN 0 (-(a : Int)) (l.getD (a + j) nd0) := by
  unfold partL
  rw [getD_map_mvN _ _ _ _ (by simp; omega), getD_sub l a _ j hj]

/-- A part of a sound expression is sound. -/
theorem part_ok {l : List Nd} {fr : List Nat} (h : BegOk l fr) (i : Nat) (hi : i < l.length) : BegOk (partL l (fr.getD i 0) i) (tab (i + 1 - fr.getD i 0) fun p => fr.getD (p + fr.getD i 0) 0 - fr.getD i 0) := by
  have hai := h.low i
  have hlen := partL_len l (fr.getD i 0) i hi hai
  have hin := nest_inside h i hi
  generalize ha : fr.getD i 0 = a at *
  refine ⟨by rw [tab_len, hlen], fun j => ?_, fun j hj => ?_⟩
  · rw [tab_getD]
    split
    · have := h.low (j + a); omega
    · omega
  · rw [hlen] at hj
    rw [partL_at l a i j hi hai hj, mvN_form, mvN_kids_rev, tab_getD, if_pos hj]
    obtain ⟨hf, hc⟩ := h.at_ (a + j) (by omega)
    refine ⟨hf, ?_⟩
    have hr := hin (a + j) (by omega) (by omega)
    have key : ∀ (ks : List Int) (c r : Nat), a ≤ r → c ≤ i → chainL fr ks c = some r → chainL (tab (i + 1 - a) fun p => fr.getD (p + a) 0 - a) (ks.map (mvK 0 (-(a : Int)))) (c - a) = some (r - a) := by
      intro ks
      induction ks with
      | nil => intro c r _ _ hh; simp [chainL] at hh ⊢; omega
      | cons k ks ih =>
        intro c r hr hci hh
        simp only [chainL] at hh
        split at hh
        · cases hh
        · rename_i hn
          have h2 := chainL_le h.low _ _ _ hh
          have hlo := h.low (c - 1)
          have hm : mvK 0 (-(a : Int)) k = (c : Int) - 1 - a := by unfold mvK; rw [if_pos (by omega)]; omega
          simp only [List.map_cons, chainL]
          rw [if_neg (by rw [hm]; omega), tab_getD, if_pos (by omega)]
          have e : c - a - 1 + a = c - 1 := by omega
          rw [e]
          exact ih _ r hr (by omega) hh
    have := key _ (a + j) _ hr (by omega) hc
    have e1 : a + j - a = j := by omega
    have e2 : j + a = a + j := by omega
    rw [e1] at this
    rw [e2]; exact this

/-- Where a place behind the part lies in the new list. -/
def phi (a i m c : Nat) : Nat := if c ≤ a then c else c - (i + 1) + (a + m)

theorem putL_len (l m : List Nd) (a i : Nat) (hi : i < l.length) (hai : a ≤ i) : (putL l a i m).length = l.length - (i + 1) + (a + m.length) := by simp [putL]; omega
theorem putL_at1 (l m : List Nd) (a i j : Nat) (hi : i < l.length) (hai : a ≤ i) (hj : j < a) : (putL l a i m).getD j nd0 = l.getD j nd0 := by
  unfold putL
  rw [map_mvN_zero]
  simp only [List.getD_eq_getElem?_getD]
  rw [List.append_assoc, List.getElem?_append_left (by simp; omega), List.getElem?_take, if_pos hj]
theorem putL_at2 (l m : List Nd) (a i j : Nat) (hi : i < l.length) (hai : a ≤ i) (hj : j < m.length) : (putL l a i m).getD (a + j) nd0 = mvN 0 a (m.getD j nd0) := by
  unfold putL
  rw [map_mvN_zero]
  have hl : (l.take a).length = a := by simp; omega
  rw [← getD_map_mvN 0 a m j hj]
  simp only [List.getD_eq_getElem?_getD]
  rw [List.append_assoc, List.getElem?_append_right (by omega), hl, Nat.add_sub_cancel_left, List.getElem?_append_left (by simpa using hj)]
theorem putL_at3 (l m : List Nd) (a i j : Nat) (hi : i < l.length) (hai : a ≤ i) (hj : i + 1 + j < l.length) : (putL l a i m).getD (a + m.length + j) nd0 = mvN i ((m.length : Int) - ((i : Int) + 1 - a)) (l.getD (i + 1 + j) nd0) := by
  unfold putL
  rw [map_mvN_zero]
  have hl : (l.take a ++ m.map (mvN 0 a)).length = a + m.length := by simp; omega
  have hd : (l.drop (i + 1)).getD j nd0 = l.getD (i + 1 + j) nd0 := by simp
  rw [← hd, ← getD_map_mvN _ _ (l.drop (i + 1)) j (by simp; omega)]
  simp only [List.getD_eq_getElem?_getD]
  rw [List.getElem?_append_right (by omega), hl, Nat.add_sub_cancel_left]

/-- With another sound expression in the place of a part it is sound. -/
theorem put_ok {l m : List Nd} {fr fm : List Nat} (h : BegOk l fr) (hm : BegOk m fm) (i : Nat) (hi : i < l.length) (hm0 : 0 < m.length) (htop : fm.getD (m.length - 1) 0 = 0) :
    BegOk (putL l (fr.getD i 0) i m) (tab (l.length - (i + 1) + (fr.getD i 0 + m.length)) fun p => if p < fr.getD i 0 then fr.getD p 0 else if p < fr.getD i 0 + m.length then fm.getD (p - fr.getD i 0) 0 + fr.getD i 0 else phi (fr.getD i 0) i m.length (fr.getD (p - (fr.getD i 0 + m.length) + (i + 1)) 0)) := by
  have hai := h.low i
  have hlen := putL_len l m (fr.getD i 0) i hi hai
  have hnb := nest_behind h hi
  have hgi : fr.getD i 0 = fr.getD i 0 := rfl
  generalize ha : fr.getD i 0 = a at *
  clear hgi
  refine ⟨by rw [tab_len, hlen], fun j => ?_, fun j hj => ?_⟩
  · rw [tab_getD]
    split
    · split
      · exact h.low j
      · split
        · have := hm.low (j - a); omega
        · rename_i h1 h2 h3
          have h4 := h.low (j - (a + m.length) + (i + 1))
          have h5 := hnb (j - (a + m.length) + (i + 1)) (by omega) (by omega)
          unfold phi
          split <;> omega
    · omega
  · rw [hlen] at hj
    rw [tab_getD, if_pos hj]
    by_cases h1 : j < a
    · rw [if_pos h1, putL_at1 l m a i j hi hai h1]
      obtain ⟨hf, hc⟩ := h.at_ j (by omega)
      refine ⟨hf, ?_⟩
      rw [chainL_congr h.low _ _ (fun q hq => by rw [tab_getD, if_pos (by omega), if_pos (by omega)])]
      exact hc
    · rw [if_neg h1]
      by_cases h2 : j < a + m.length
      · rw [if_pos h2]
        obtain ⟨q, rfl⟩ : ∃ q, j = a + q := ⟨j - a, by omega⟩
        rw [putL_at2 l m a i q hi hai (by omega), mvN_form, mvN_kids_rev]
        obtain ⟨hf, hc⟩ := hm.at_ q (by omega)
        refine ⟨hf, ?_⟩
        have key : ∀ (ks : List Int) (c r : Nat), c ≤ m.length → chainL fm ks c = some r → chainL (tab (l.length - (i + 1) + (a + m.length)) fun p => if p < a then fr.getD p 0 else if p < a + m.length then fm.getD (p - a) 0 + a else phi a i m.length (fr.getD (p - (a + m.length) + (i + 1)) 0)) (ks.map (mvK 0 a)) (a + c) = some (r + a) := by
          intro ks
          induction ks with
          | nil => intro c r _ hh; simp only [chainL, Option.some.injEq, List.map_nil] at hh ⊢; omega
          | cons k ks ih =>
            intro c r hcm hh
            simp only [chainL] at hh
            split at hh
            · cases hh
            · have hlo := hm.low (c - 1)
              have hmk : mvK 0 (a : Int) k = (c : Int) - 1 + a := by unfold mvK; rw [if_pos (by omega)]; omega
              simp only [List.map_cons, chainL]
              rw [if_neg (by rw [hmk]; omega), tab_getD, if_pos (by omega), if_neg (by omega), if_pos (by omega)]
              have e : a + c - 1 - a = c - 1 := by omega
              rw [e, Nat.add_comm (fm.getD (c - 1) 0) a]
              exact ih _ r (by omega) hh
        have := key _ q _ (by omega) hc
        rw [Nat.add_sub_cancel_left]; exact this
      · rw [if_neg h2]
        obtain ⟨q, rfl⟩ : ∃ q, j = a + m.length + q := ⟨j - (a + m.length), by omega⟩
        rw [putL_at3 l m a i q hi hai (by omega), mvN_form, mvN_kids_rev]
        obtain ⟨hf, hc⟩ := h.at_ (i + 1 + q) (by omega)
        refine ⟨hf, ?_⟩
        have key : ∀ (ks : List Int) (c r : Nat), c ≤ i + 1 + q → (c ≤ a ∨ i + 1 ≤ c) → chainL fr ks c = some r → chainL (tab (l.length - (i + 1) + (a + m.length)) fun p => if p < a then fr.getD p 0 else if p < a + m.length then fm.getD (p - a) 0 + a else phi a i m.length (fr.getD (p - (a + m.length) + (i + 1)) 0)) (ks.map (mvK i ((m.length : Int) - ((i : Int) + 1 - a)))) (phi a i m.length c) = some (phi a i m.length r) := by
          intro ks
          induction ks with
          | nil => intro c r _ _ hh; simp only [chainL, Option.some.injEq, List.map_nil] at hh ⊢; rw [hh]
          | cons k ks ih =>
            intro c r hcq hca hh
            simp only [chainL] at hh
            split at hh
            · cases hh
            · have hlo := h.low (c - 1)
              simp only [List.map_cons, chainL]
              by_cases hcl : c ≤ a
              · have hmk : mvK i ((m.length : Int) - ((i : Int) + 1 - a)) k = k := by unfold mvK; rw [if_neg (by omega)]
                have hph : phi a i m.length c = c := by unfold phi; rw [if_pos hcl]
                have hp2 : phi a i m.length (fr.getD (c - 1) 0) = fr.getD (c - 1) 0 := by unfold phi; rw [if_pos (by omega)]
                have := ih (fr.getD (c - 1) 0) r (by omega) (.inl (by omega)) hh
                rw [hp2] at this
                rw [hph, hmk, if_neg (by omega), tab_getD, if_pos (by omega), if_pos (by omega)]
                exact this
              · have hmk : mvK i ((m.length : Int) - ((i : Int) + 1 - a)) k = k + ((m.length : Int) - ((i : Int) + 1 - a)) := by unfold mvK; rw [if_pos (by omega)]
                have hph : phi a i m.length c = c - (i + 1) + (a + m.length) := by unfold phi; rw [if_neg hcl]
                rw [hph, hmk, if_neg (by omega), tab_getD, if_pos (by omega), if_neg (by omega)]
                by_cases hce : c = i + 1
                · have e1 : c - (i + 1) + (a + m.length) - 1 = a + m.length - 1 := by omega
                  rw [e1, if_pos (by omega)]
                  have e2 : a + m.length - 1 - a = m.length - 1 := by omega
                  rw [e2, htop, Nat.zero_add]
                  have e3 : fr.getD (c - 1) 0 = a := by rw [hce]; exact ha
                  rw [e3] at hh
                  have := ih a r (by omega) (.inl (Nat.le_refl _)) hh
                  have hp3 : phi a i m.length a = a := by unfold phi; rw [if_pos (Nat.le_refl _)]
                  rw [hp3] at this
                  exact this
                · rw [if_neg (by omega)]
                  have e1 : c - (i + 1) + (a + m.length) - 1 - (a + m.length) + (i + 1) = c - 1 := by omega
                  rw [e1]
                  exact ih _ r (by omega) (hnb (c - 1) (by omega) (by omega)) hh
        have := key _ (i + 1 + q) _ (Nat.le_refl _) (.inr (by omega)) hc
        have hph : phi a i m.length (i + 1 + q) = a + m.length + q := by unfold phi; rw [if_neg (by omega)]; omega
        have e2 : a + m.length + q - (a + m.length) + (i + 1) = i + 1 + q := by omega
        rw [hph] at this
        rw [e2]; exact this

theorem part_snd {l : List Nd} {fr : List Nat} (hn : begL l = some fr) (i : Nat) (hi : i < l.length) : ∃ fo, begL (partL l (fr.getD i 0) i) = some fo := by
  have h64 := (snd_bounds hn).1
  have hok := begOk_of (begL_some hn).2.2.1
  have hai := hok.low i
  have hpl := partL_len l (fr.getD i 0) i hi hai
  refine ⟨_, begL_mk (by omega) (by omega) (beg_of_ok (part_ok hok i hi)) ?_⟩
  rw [tab_getD, hpl, if_pos (by omega)]
  have e : i + 1 - fr.getD i 0 - 1 + fr.getD i 0 = i := by omega
  rw [e]; omega

theorem put_snd {l m : List Nd} {fr fm : List Nat} (hn : begL l = some fr) (hm : begL m = some fm) (i : Nat) (hi : i < l.length) (hlg : l.length + m.length + fr.getD i 0 ≤ 64 + (i + 1)) :
    ∃ fx, begL (putL l (fr.getD i 0) i m) = some fx ∧ fx.getD (fr.getD i 0 + m.length - 1) 0 = fr.getD i 0 := by
  have hok := begOk_of (begL_some hn).2.2.1
  have hai := hok.low i
  have hmok := begOk_of (begL_some hm).2.2.1
  have hm0 := (begL_some hm).1
  have hmtop := (begL_some hm).2.2.2
  have hltop := (begL_some hn).2.2.2
  have hxo := put_ok hok hmok i hi hm0 hmtop
  have hxl := putL_len l m (fr.getD i 0) i hi hai
  refine ⟨_, begL_mk (by omega) (by omega) (beg_of_ok hxo) ?_, ?_⟩
  · rw [tab_getD, if_pos (by omega), hxl]
    by_cases hil : i + 1 = l.length
    · have e0 : l.length - 1 = i := by omega
      rw [e0] at hltop
      rw [if_neg (by omega), if_pos (by omega), hltop]
      have e : l.length - (i + 1) + (0 + m.length) - 1 - 0 = m.length - 1 := by omega
      rw [e, hmtop]
    · rw [if_neg (by omega), if_neg (by omega)]
      have e : l.length - (i + 1) + (fr.getD i 0 + m.length) - 1 - (fr.getD i 0 + m.length) + (i + 1) = l.length - 1 := by omega
      rw [e, hltop]; unfold phi; rw [if_pos (by omega)]
  · rw [tab_getD, if_pos (by omega), if_neg (by omega), if_pos (by omega)]
    have e : fr.getD i 0 + m.length - 1 - fr.getD i 0 = m.length - 1 := by omega
    rw [e, hmtop, Nat.zero_add]
end Go.Proofs.YtjkcbigmebbkkaaDoor

set_option linter.unusedSimpArgs false
set_option linter.unusedVariables false
namespace Go.Proofs.YtjkcbigmebbkkaaDoor
open Go.RowKit Go.Lib

theorem below_drewN' {B : Nat} {w w' : World} (h : Below B w w') (n : Nat) : Below B w (w'.drewN n) := ⟨h.os, h.tape, h.output, h.size, h.block⟩

end Go.Proofs.YtjkcbigmebbkkaaDoor

set_option linter.unusedSimpArgs false
set_option linter.unusedVariables false
namespace Go.Proofs.YtjkcbigmebbkkaaDoor
open Go.RowKit Go.Lib

/-- The slice reads as l, anywhere in memory. -/
def Rd (w : World) (ao : Option Addr) (cap : Nat) (l : List Nd) : Prop := Nodes w w.heap.size (.slice ao l.length cap) l
theorem Rd.below {w w' : World} {ao : Option Addr} {cap : Nat} {l : List Nd} (h : Rd w ao cap l) (hb : Below w.heap.size w w') (hs : w.heap.size ≤ w'.heap.size) : Rd w' ao cap l := Nodes.below h hb hs
theorem Rd.bound {w : World} {ao : Option Addr} {cap : Nat} {l : List Nd} (h : Rd w ao cap l) : l.length ≤ cap ∧ cap ≤ maxLen := by
  obtain ⟨ao', cap', h1, h2, h3, _⟩ := h
  cases h1; exact ⟨h2, h3⟩

end Go.Proofs.YtjkcbigmebbkkaaDoor

set_option linter.unusedSimpArgs false
set_option linter.unusedVariables false
namespace Go.Proofs.YtjkcbigmebbkkaaDoor
open Go.RowKit Go.Lib Go.ChangeShapes Go.WideShapes Go.Deep

theorem Tryd.laidOut : laidOutB Tryd.prog = true := by kernel_rfl
theorem Tryd.cells3 : Tryd.prog.cellsOf 3 = 1 := by kernel_rfl
theorem Tryd.cells2 : Tryd.prog.cellsOf 2 = 1 := by kernel_rfl
theorem Tryd.cellsStr : Tryd.prog.cellsOf 9 = 1 := by kernel_rfl
theorem Tryd.cellsInts : Tryd.prog.cellsOf 61 = 1 := by kernel_rfl
theorem len4 {α : Type} (l : List α) (h : l.length = 4) : ∃ a b c d, l = [a, b, c, d] := by
  match l, h with
  | [a, b, c, d], _ => exact ⟨a, b, c, d, rfl⟩

theorem spot_none {w : World} {a : Addr} {v : Value} (h : w.cell? a = some v) : a.spot = none := by
  unfold World.cell? at h
  split at h
  · split at h
    · cases h
    · rename_i hs; simpa using hs
  · cases h

section
variable {H : Type} {enc : TypeId × Value → H} {w : World}

end

theorem spans_of_laid {W : World} (h : laidMetH Tryd.prog [("sorrel/runes.spans", Rows.laid_sorrel_runes_spans)] W) : SpanCells W := by
  rw [MakeChecks.laidMetH_plain _ _ _ (by kernel_rfl)] at h
  have r2 := laidMet.reads h (n := "sorrel/runes.spans") (d := Rows.laid_sorrel_runes_spans) (by simp)
  rw [spansData_eq] at r2
  exact spans_of_reads r2
end Go.Proofs.YtjkcbigmebbkkaaDoor
