/-
  ExSplPure, ExRdW, ExOpen.
-/
import Derived.Test.YtkbcgcempchoaaaDoorChecked
import GoSem.PinnedTables
import GoSem.Claim
import GoSem.ClaimJoined
import GoSem.ClaimMapViews
import Derived.JoinedTies
import Derived.KernelRfl
import Derived.Shelf.Unicode.DecodeSlow
import Derived.Laws.RangeAny
import Derived.Shelf.Small.Bits
import Derived.Shelf.Strconv.Itoa0
import Derived.Shelf.LaysM
import Derived.Shelf.Strconv.Clone
import Derived.Shelf.Unicode.DecodeAny
import Derived.Ground.SlsfProg
import Derived.Shelf.SlSortCmp.Insertion
import Derived.Shelf.SlSortCmp.SiftDown1
import Derived.Shelf.SlSortCmp.HeapSort1
import Derived.Shelf.SlSortCmp.Insertion1
import Derived.Shelf.SlSortCmp.Median1
import Derived.Shelf.SlSortCmp.Pivot1
import Derived.Shelf.SlSortCmp.ReverseRange1
import Derived.Shelf.SlSortCmp.PartitionEqual1
import Derived.Test.YtkbcgcempchoaaaDoorProg
import Derived.WalkKit
import Derived.Deep.DeepFit
import Derived.Lib.OthersKept
import Derived.Lib.RuneCountTail
import Derived.Lib.LaidU8
import Derived.MakeChecks
import Derived.ProofKit
import Derived.OpenShut
import Derived.Deep.DeepHandedRow
import Derived.Deep.AppendLies
import Derived.Deep.OwnRows
import Derived.Laws.AppendOwnNone
import Derived.Deep.QuietTactic
import Derived.BigQuiet
import Derived.Deep.RegionWith
import Derived.Laws.DeepStrings4
import Derived.Deep.Slices
import Derived.SizedLaws
import Derived.Test.YtkbcgcempchoaaaDoorRows
import Derived.Test.YtkbcgcempchoaaaDoorP01
import Derived.Test.YtkbcgcempchoaaaDoorP02
import Derived.Test.YtkbcgcempchoaaaDoorP03
import Derived.Test.YtkbcgcempchoaaaDoorP04
set_option linter.unusedSimpArgs false
set_option linter.unusedVariables false
namespace Go.Proofs.YtkbcgcempchoaaaDoor

def chainO (os : List (Option Nat)) : List Int → Nat → Option Nat
  | [], c => some c
  | k :: ks, c => if c = 0 ∨ k ≠ (c : Int) - 1 then none else (os.getD (c - 1) none).bind fun b => chainO os ks b

def stsR (os : List (Option Nat)) : List Nd → List (Option Nat)
  | [] => os
  | x :: l => stsR (os ++ [chainO os x.kids.reverse os.length]) l

def sts (l : List Nd) : List (Option Nat) := stsR [] l

/-- No entry is above its place. -/
def LowO (os : List (Option Nat)) : Prop := ∀ j b, os.getD j none = some b → b ≤ j

theorem chainO_le {os : List (Option Nat)} (h : LowO os) : ∀ (ks : List Int) (c a : Nat), chainO os ks c = some a → a ≤ c := by
  intro ks
  induction ks with
  | nil => intro c a h; simp [chainO] at h; omega
  | cons k ks ih =>
    intro c a hh
    simp only [chainO] at hh
    split at hh
    · cases hh
    · cases hb : os.getD (c - 1) none with
      | none => rw [hb] at hh; cases hh
      | some b =>
        rw [hb] at hh
        simp only [Option.bind_some] at hh
        have := ih _ _ hh
        have := h _ _ hb
        omega

theorem getD_snocO (os : List (Option Nat)) (a : Option Nat) (j : Nat) : (os ++ [a]).getD j none = if j < os.length then os.getD j none else if j = os.length then a else none := by
  simp only [List.getD_eq_getElem?_getD, List.getElem?_append]
  split
  · rfl
  · split
    · subst_vars; simp
    · rw [List.getElem?_eq_none (by simp; omega)]; rfl

theorem LowO.snoc {os : List (Option Nat)} (h : LowO os) {a : Option Nat} (ha : ∀ b, a = some b → b ≤ os.length) : LowO (os ++ [a]) := by
  intro j b hj
  rw [getD_snocO] at hj
  split at hj
  · exact h j b hj
  · split at hj
    · have := ha b hj; omega
    · cases hj

/-- Only the entries below the cursor count. -/
theorem chainO_congr {os os' : List (Option Nat)} (h : LowO os) : ∀ (ks : List Int) (c : Nat), (∀ j, j < c → os'.getD j none = os.getD j none) → chainO os' ks c = chainO os ks c := by
  intro ks
  induction ks with
  | nil => intro c _; rfl
  | cons k ks ih =>
    intro c hc
    simp only [chainO]
    split
    · rfl
    · rename_i hn
      rw [hc (c - 1) (by omega)]
      cases hb : os.getD (c - 1) none with
      | none => rfl
      | some b =>
        simp only [Option.bind_some]
        have := h _ _ hb
        exact ih b (fun j hj => hc j (by omega))

theorem stsR_spec (l : List Nd) : ∀ (os : List (Option Nat)), LowO os → (stsR os l).length = os.length + l.length ∧ LowO (stsR os l) ∧ (∀ j, j < os.length → (stsR os l).getD j none = os.getD j none) ∧
    ∀ i, i < l.length → (stsR os l).getD (os.length + i) none = chainO (stsR os l) (l.getD i nd0).kids.reverse (os.length + i) := by
  induction l with
  | nil => intro os h; exact ⟨by simp [stsR], h, fun j hj => rfl, fun i hi => by simp at hi⟩
  | cons x l ih =>
    intro os h
    have hlow := h.snoc (a := chainO os x.kids.reverse os.length) (fun b hb => chainO_le h _ _ _ hb)
    obtain ⟨h1, h2, h3, h4⟩ := ih _ hlow
    simp only [List.length_append, List.length_cons, List.length_nil] at h1 h3 h4
    simp only [stsR]
    refine ⟨by simp; omega, h2, fun j hj => ?_, fun i hi => ?_⟩
    · rw [h3 j (by omega), getD_snocO, if_pos hj]
    · cases i with
      | zero =>
        rw [Nat.add_zero, h3 _ (by omega), getD_snocO, if_neg (by omega), if_pos rfl]
        show _ = chainO _ x.kids.reverse os.length
        refine (chainO_congr h _ _ ?_).symm
        intro j hj
        rw [h3 j (by omega), getD_snocO, if_pos hj]
      | succ i =>
        have := h4 i (by simp at hi; omega)
        have e : os.length + (0 + 1) + i = os.length + (i + 1) := by omega
        rw [e] at this
        rw [this]
        simp

theorem lowO_nil : LowO [] := by intro j b h; simp at h

theorem sts_at (l : List Nd) (i : Nat) (h : i < l.length) : (sts l).getD i none = chainO (sts l) (l.getD i nd0).kids.reverse i := by
  have := (stsR_spec l [] lowO_nil).2.2.2 i h
  simpa [sts] using this
theorem chain_some {fr : List Nat} (hl : Low fr) : ∀ (ks : List Int) (c : Nat), c ≤ fr.length → chainO (fr.map some) ks c = chainL fr ks c := by
  intro ks
  induction ks with
  | nil => intro c _; rfl
  | cons k ks ih =>
    intro c hc
    simp only [chainO, chainL]
    split
    · rfl
    · rename_i hn
      have e : (fr.map some).getD (c - 1) none = some (fr.getD (c - 1) 0) := by
        have : c - 1 < fr.length := by omega
        simp [this]
      rw [e]
      simp only [Option.bind_some]
      exact ih _ (by have := hl (c - 1); omega)

theorem sts_of_beg (l : List Nd) : ∀ (fr fr' : List Nat), Low fr → begR fr l = some fr' → stsR (fr.map some) l = fr'.map some := by
  induction l with
  | nil => intro fr fr' _ h; simp [begR] at h; subst h; rfl
  | cons x l ih =>
    intro fr fr' hl h
    simp only [begR] at h
    cases hs : stp fr x with
    | none => rw [hs] at h; cases h
    | some f2 =>
      rw [hs] at h
      simp only [Option.bind_some] at h
      obtain ⟨hf, a, hc, rfl⟩ := stp_some hs
      have := ih _ _ (hl.snoc (chainL_le hl _ _ _ hc)) h
      simp only [stsR, List.length_map]
      rw [chain_some hl _ _ (Nat.le_refl _), hc]
      simpa using this

end Go.Proofs.YtkbcgcempchoaaaDoor

namespace Go.Proofs.YtkbcgcempchoaaaDoor

theorem mvN_form (f b : Int) (x : Nd) : formB (mvN f b x) = formB x := by
  simp [formB, mvN]
theorem mvN_kids_rev (f b : Int) (x : Nd) : (mvN f b x).kids.reverse = x.kids.reverse.map (mvK f b) := by simp [mvN]

/-- Where all begin, place by place. -/
structure BegOk (l : List Nd) (fr : List Nat) : Prop where
  len : fr.length = l.length
  low : Low fr
  at_ : ∀ j, j < l.length → formB (l.getD j nd0) = true ∧ chainL fr (l.getD j nd0).kids.reverse j = some (fr.getD j 0)

theorem begOk_of {l : List Nd} {fr : List Nat} (h : begR [] l = some fr) : BegOk l fr := by
  have hlen := begR_len h
  obtain ⟨_, hlow, _, hform⟩ := begR_some h low_nil
  refine ⟨hlen, hlow, fun j hj => ⟨hform _ (by simp [hj]), ?_⟩⟩
  have hs := sts_of_beg l [] fr low_nil h
  have h1 := sts_at l j hj
  have e : sts l = fr.map some := hs
  rw [e, chain_some hlow _ _ (by omega)] at h1
  rw [← h1]
  have : j < fr.length := by omega
  simp [this]

theorem chainL_congr {fr fr' : List Nat} (h : Low fr) : ∀ (ks : List Int) (c : Nat), (∀ j, j < c → fr'.getD j 0 = fr.getD j 0) → chainL fr' ks c = chainL fr ks c := by
  intro ks
  induction ks with
  | nil => intro c _; rfl
  | cons k ks ih =>
    intro c hc
    simp only [chainL]
    split
    · rfl
    · rw [hc (c - 1) (by omega)]
      have := h (c - 1)
      exact ih _ (fun j hj => hc j (by omega))

theorem beg_of_ok {l : List Nd} {fr : List Nat} (h : BegOk l fr) : begR [] l = some fr := by
  have key : ∀ j, j ≤ l.length → begR [] (l.take j) = some (fr.take j) := by
    intro j
    induction j with
    | zero => intro _; simp [begR]
    | succ j ih =>
      intro hj
      obtain ⟨hf, hc⟩ := h.at_ j (by omega)
      have hfl := h.len
      rw [List.take_succ_eq_append_getElem (by omega), begR_snoc, ih (by omega), Option.bind_some]
      have hg : l.getD j nd0 = l[j] := by simp [show j < l.length by omega]
      rw [hg] at hf hc
      unfold stp
      rw [if_pos hf]
      have hl : (fr.take j).length = j := by simp; omega
      rw [hl, chainL_congr h.low _ _ (fun q hq => by simp [List.getElem?_take, hq]), hc]
      simp only [Option.map_some]
      rw [List.take_succ_eq_append_getElem (show j < fr.length by omega)]
      simp [show j < fr.length by omega]
  have := key l.length (Nat.le_refl _)
  rw [List.take_length, ← h.len, List.take_length] at this
  exact this

/-- Inside an expression all begin inside it. -/
theorem nest_inside {l : List Nd} {fr : List Nat} (h : BegOk l fr) : ∀ i, i < l.length → ∀ j, fr.getD i 0 ≤ j → j ≤ i → fr.getD i 0 ≤ fr.getD j 0 := by
  intro i
  induction i using Nat.strongRecOn with
  | ind i IH =>
    intro hi j hj hji
    by_cases he : j = i
    · subst he; exact Nat.le_refl _
    · have hc := (h.at_ i hi).2
      have key : ∀ (ks : List Int) (c : Nat), c ≤ i → chainL fr ks c = some (fr.getD i 0) → j < c → fr.getD i 0 ≤ fr.getD j 0 := by
        intro ks
        induction ks with
        | nil => intro c _ hh hjc; simp only [chainL, Option.some.injEq] at hh; omega
        | cons k ks ih =>
          intro c hci hh hjc
          simp only [chainL] at hh
          split at hh
          · cases hh
          · have hlo := h.low (c - 1)
            by_cases hb : j < fr.getD (c - 1) 0
            · exact ih _ (by omega) hh hb
            · have h1 := IH (c - 1) (by omega) (by omega) j (by omega) (by omega)
              have h2 := chainL_le h.low _ _ _ hh
              omega
      exact key _ i (Nat.le_refl _) hc (by omega)

theorem kids_inside {l : List Nd} {fr : List Nat} (h : BegOk l fr) (i : Nat) (hi : i < l.length) (j : Nat) (hj : fr.getD i 0 ≤ j) (hji : j ≤ i) : ∀ k ∈ (l.getD j nd0).kids, (fr.getD i 0 : Int) ≤ k := by
  intro k hk
  have hc := (h.at_ j (by omega)).2
  have hin := nest_inside h i hi j hj hji
  -- every cursor of the chain is above where the chain ends
  have key : ∀ (ks : List Int) (c : Nat), chainL fr ks c = some (fr.getD j 0) → ∀ k ∈ ks, (fr.getD j 0 : Int) ≤ k := by
    intro ks
    induction ks with
    | nil => intro c _ k hk; simp at hk
    | cons k0 ks ih =>
      intro c hh k hk
      simp only [chainL] at hh
      split at hh
      · cases hh
      · rename_i hn
        have h2 := chainL_le h.low _ _ _ hh
        have hlo := h.low (c - 1)
        rcases List.mem_cons.1 hk with rfl | hk
        · omega
        · exact ih _ hh k hk
  have := key _ j hc k (by simpa using hk)
  omega

def tab (n : Nat) (f : Nat → Nat) : List Nat := (List.range n).map f
theorem tab_len (n : Nat) (f : Nat → Nat) : (tab n f).length = n := by simp [tab]
theorem tab_getD (n : Nat) (f : Nat → Nat) (j : Nat) : (tab n f).getD j 0 = if j < n then f j else 0 := by
  unfold tab
  split
  · rename_i h; simp [h]
  · rename_i h; rw [List.getD_eq_getElem?_getD, List.getElem?_eq_none (by simp; omega)]; rfl

theorem getD_map_mvN (f b : Int) (l : List Nd) (j : Nat) (h : j < l.length) : (l.map (mvN f b)).getD j nd0 = mvN f b (l.getD j nd0) := by simp [h]

theorem partL_len (l : List Nd) (a i : Nat) (hi : i < l.length) (hai : a ≤ i) : (partL l a i).length = i + 1 - a := by simp [partL]; omega
theorem partL_at (l : List Nd) (a i j : Nat) (hi : i < l.length) (hai : a ≤ i) (hj : j < i + 1 - a) : (partL l a i).getD j nd0 = mvN 0 (-(a : Int)) (l.getD (a + j) nd0) := by
  unfold partL
  rw [getD_map_mvN _ _ _ _ (by simp; omega), getD_sub l a _ j hj]

/-- A part of a sound expression is sound. -/
theorem part_ok {l : List Nd} {fr : List Nat} (h : BegOk l fr) (i : Nat) (hi : i < l.length) : BegOk (partL l (fr.getD i 0) i) (tab (i + 1 - fr.getD i 0) fun p => fr.getD (p + fr.getD i 0) 0 - fr.getD i 0) := by
  have hai := h.low i
  have hlen := partL_len l (fr.getD i 0) i hi hai
  have hin := nest_inside h i hi
  generalize ha : fr.getD i 0 = a at *
  refine ⟨by rw [tab_len, hlen], fun j => ?_, fun j hj => ?_⟩
  · rw [tab_getD]
    split
    · have := h.low (j + a); omega
    · omega
  · rw [hlen] at hj
    rw [partL_at l a i j hi hai hj, mvN_form, mvN_kids_rev, tab_getD, if_pos hj]
    obtain ⟨hf, hc⟩ := h.at_ (a + j) (by omega)
    refine ⟨hf, ?_⟩
    have hr := hin (a + j) (by omega) (by omega)
    have key : ∀ (ks : List Int) (c r : Nat), a ≤ r → c ≤ i → chainL fr ks c = some r → chainL (tab (i + 1 - a) fun p => fr.getD (p + a) 0 - a) (ks.map (mvK 0 (-(a : Int)))) (c - a) = some (r - a) := by
      intro ks
      induction ks with
      | nil => intro c r _ _ hh; simp [chainL] at hh ⊢; omega
      | cons k ks ih =>
        intro c r hr hci hh
        simp only [chainL] at hh
        split at hh
        · cases hh
        · rename_i hn
          have h2 := chainL_le h.low _ _ _ hh
          have hlo := h.low (c - 1)
          have hm : mvK 0 (-(a : Int)) k = (c : Int) - 1 - a := by unfold mvK; rw [if_pos (by omega)]; omega
          simp only [List.map_cons, chainL]
          rw [if_neg (by rw [hm]; omega), tab_getD, if_pos (by omega)]
          have e : c - a - 1 + a = c - 1 := by omega
          rw [e]
          exact ih _ r hr (by omega) hh
    have := key _ (a + j) _ hr (by omega) hc
    have e1 : a + j - a = j := by omega
    have e2 : j + a = a + j := by omega
    rw [e1] at this
    rw [e2]; exact this

theorem part_snd {l : List Nd} {fr : List Nat} (hn : begL l = some fr) (i : Nat) (hi : i < l.length) : ∃ fo, begL (partL l (fr.getD i 0) i) = some fo := by
  have h64 := (snd_bounds hn).1
  have hok := begOk_of (begL_some hn).2.2.1
  have hai := hok.low i
  have hpl := partL_len l (fr.getD i 0) i hi hai
  refine ⟨_, begL_mk (by omega) (by omega) (beg_of_ok (part_ok hok i hi)) ?_⟩
  rw [tab_getD, hpl, if_pos (by omega)]
  have e : i + 1 - fr.getD i 0 - 1 + fr.getD i 0 = i := by omega
  rw [e]; omega

end Go.Proofs.YtkbcgcempchoaaaDoor

set_option linter.unusedSimpArgs false
set_option linter.unusedVariables false
namespace Go.Proofs.YtkbcgcempchoaaaDoor
open Go.RowKit Go.Lib

/-- Within the reach. -/
structure Fit (l : List Nd) : Prop where
  len : l.length * 56 ≤ 140737488355328
  kids : ∀ x ∈ l, x.kids.length * 8 ≤ 140737488355328
  name : ∀ x ∈ l, x.name.size ≤ maxLen

/-- The slice reads as l, anywhere in memory. -/
def Rd (w : World) (ao : Option Addr) (cap : Nat) (l : List Nd) : Prop := Nodes w w.heap.size (.slice ao l.length cap) l
theorem Rd.below {w w' : World} {ao : Option Addr} {cap : Nat} {l : List Nd} (h : Rd w ao cap l) (hb : Below w.heap.size w w') (hs : w.heap.size ≤ w'.heap.size) : Rd w' ao cap l := Nodes.below h hb hs
theorem Rd_of_own {w : World} {base : Nat} {v : Value} {l : List Nd} (h : OwnN w base v l) : ∃ ao cap, v = .slice ao l.length cap ∧ Rd w ao cap l := by
  have hN := Nodes_of_own h (Nat.le_refl _)
  obtain ⟨ao, cap, rfl, _⟩ := id hN
  exact ⟨ao, cap, rfl, hN⟩
theorem Rd.bound {w : World} {ao : Option Addr} {cap : Nat} {l : List Nd} (h : Rd w ao cap l) : l.length ≤ cap ∧ cap ≤ maxLen := by
  obtain ⟨ao', cap', h1, h2, h3, _⟩ := h
  cases h1; exact ⟨h2, h3⟩

theorem copyR {w : World} {ao : Option Addr} {cap : Nat} {l : List Nd} (h : Rd w ao cap l) (hF : Fit l) :
    Calls Tryd.prog 10 #[.slice ao l.length cap] w fun e w' => ∃ ao' cap', e = .returned (.slice ao' l.length cap') ∧ Rd w' ao' cap' l ∧ Below w.heap.size w w' := by
  refine (copy_any _ l w _ (Nat.le_refl _) h hF.len hF.kids).mono ?_
  rintro e w' ⟨v', rfl, hO, hb⟩
  obtain ⟨ao', cap', rfl, hR⟩ := Rd_of_own hO
  exact ⟨ao', cap', rfl, hR, hb⟩
theorem partR {w : World} {ao : Option Addr} {cap : Nat} {l old : List Nd} {fr : List Nat} (T : SpanCells w) (h : Rd w ao cap l) (hb : begL l = some fr) (i : Nat) (at_ : Int) (hat : at_ = (i : Int)) (hi : i < l.length) (ho : partL l (fr.getD i 0) i = old) :
    Calls Tryd.prog 12 #[.slice ao l.length cap, .int .i64 at_] w fun e w' => ∃ ao' cap', e = .returned (.tuple #[.slice ao' old.length cap', .int .i64 0]) ∧ Rd w' ao' cap' old ∧ Below w.heap.size w w' := by
  subst hat ho
  refine (part_in _ l fr i _ w _ (Nat.le_refl _) T h hb hi rfl).mono ?_
  rintro e w' ⟨v', rfl, hO, hbl⟩
  obtain ⟨ao', cap', rfl, hR⟩ := Rd_of_own hO
  exact ⟨ao', cap', rfl, hR, hbl⟩
end Go.Proofs.YtkbcgcempchoaaaDoor

set_option linter.unusedSimpArgs false
set_option linter.unusedVariables false
namespace Go.Proofs.YtkbcgcempchoaaaDoor
open Go.RowKit Go.Lib Go.ChangeShapes Go.WideShapes Go.Deep

theorem Tryd.laidOut : laidOutB Tryd.prog = true := by kernel_rfl
theorem Tryd.cells3 : Tryd.prog.cellsOf 3 = 1 := by kernel_rfl
theorem Tryd.cells2 : Tryd.prog.cellsOf 2 = 1 := by kernel_rfl
theorem Tryd.cellsStr : Tryd.prog.cellsOf 9 = 1 := by kernel_rfl
theorem Tryd.cellsInts : Tryd.prog.cellsOf 48 = 1 := by kernel_rfl
theorem Tryd.cellsNode : Tryd.prog.cellsOf 50 = 4 := by kernel_rfl
theorem Tryd.bytes3 : Tryd.prog.bytesOf 3 = 8 := by kernel_rfl
theorem Tryd.bytesNode : Tryd.prog.bytesOf 50 = 56 := by kernel_rfl

theorem len4 {α : Type} (l : List α) (h : l.length = 4) : ∃ a b c d, l = [a, b, c, d] := by
  match l, h with
  | [a, b, c, d], _ => exact ⟨a, b, c, d, rfl⟩

theorem spot_none {w : World} {a : Addr} {v : Value} (h : w.cell? a = some v) : a.spot = none := by
  unfold World.cell? at h
  split at h
  · split at h
    · cases h
    · rename_i hs; simpa using hs
  · cases h

section
variable {H : Type} {enc : TypeId × Value → H} {w : World}

/-- The kids' slice. -/
theorem open_kids {fuel : Nat} {v : Value} {x : DataW H × List MemPlace} (h : DataW.trod enc Tryd.prog w 0 (fun _ => true) true fuel 48 [v] = some x) :
    ∃ ks, Ints w w.heap.size v ks ∧ ((∀ n ∈ x.1.weights Tryd.prog 48, n ≤ reachBytes) → ks.length * 8 ≤ 140737488351232) := by
  rcases open_ints Tryd.underlying48 Tryd.underlying3 Tryd.cells3 h with ⟨hcs, rfl⟩ | ⟨a, len, cap, zs, hcs, _, hl, hm, hz, rfl, hc, _⟩
  · simp only [List.cons.injEq, and_true] at hcs
    subst hcs
    exact ⟨[], ⟨none, 0, rfl, by simp, ⟨by simp [maxLen], fun _ => rfl⟩, .inl rfl⟩, fun _ => by simp⟩
  · simp only [List.cons.injEq, and_true] at hcs
    subst hcs
    simp only [if_true] at hz
    have hlen : (zs.take len).length = len := by simp; omega
    refine ⟨zs.take len, ⟨some a, cap, by rw [hlen], by omega, ⟨hm, by simp⟩, ?_⟩, fun hw => ?_⟩
    · by_cases h0 : len = 0
      · left; exact List.length_eq_zero_iff.1 (by omega)
      · right
        have hc0 := hc 0 (by omega)
        obtain ⟨b, o, sp⟩ := a
        have hsp : sp = none := by
          have e : (⟨b, o, sp⟩ : Addr).add 0 = ⟨b, o, sp⟩ := rfl
          rw [e] at hc0; exact spot_none hc0
        subst hsp
        refine ⟨b, o, rfl, World.block_lt_of_cell? _ _ hc0, fun j hj => ?_⟩
        rw [hlen] at hj
        have := hc j (by omega)
        rw [Go.WideShapes.add_plain] at this
        rw [this]
        simp [List.getElem?_take, hj]
    · have := hw ((((lits .i64 (zs.take len)).length : Nat) + (lits .i64 (zs.drop len)).length) * Tryd.prog.bytesOf 3) (by simp only [DataW.weights, Tryd.underlying48 ]; exact List.mem_cons_self ..)
      rw [Tryd.bytes3] at this
      simp only [lits, List.length_map, List.length_take, List.length_drop, reachBytes] at this
      rw [hlen]; omega

/-- One node. -/
theorem open_node {fuel : Nat} {cs : List Value} {x : DataW H × List MemPlace} (h : DataW.trod enc Tryd.prog w 0 (fun _ => true) true fuel 50 cs = some x) :
    ∃ (y : Nd) (kv : Value), cs = [.int .i64 y.op, .int .i64 y.n, .string y.name, kv] ∧ Ints w w.heap.size kv y.kids ∧ (y.name.size ≤ maxLen ∧ (Lit.int .i64 y.n).wf = true) ∧ ((∀ n ∈ x.1.weights Tryd.prog 50, n ≤ reachBytes) → y.kids.length * 8 ≤ 140737488351232) := by
  obtain ⟨xs, n, _, rfl, hl, hxl, hall⟩ := DataW.trod_struct Tryd.underlying50 h
  rw [Tryd.cellsNode] at hl
  obtain ⟨v0, v1, v2, v3, rfl⟩ := len4 cs hl
  obtain ⟨x0, x1, x2, x3, rfl⟩ := len4 xs hxl
  have g0 : DataW.trod enc Tryd.prog w 0 (fun _ => true) true n 3 (([v0, v1, v2, v3].drop 0).take (Tryd.prog.cellsOf 3)) = some x0 := hall 0 _ rfl
  have g1 : DataW.trod enc Tryd.prog w 0 (fun _ => true) true n 2 (([v0, v1, v2, v3].drop 1).take (Tryd.prog.cellsOf 2)) = some x1 := hall 1 _ rfl
  have g2 : DataW.trod enc Tryd.prog w 0 (fun _ => true) true n 9 (([v0, v1, v2, v3].drop 2).take (Tryd.prog.cellsOf 9)) = some x2 := hall 2 _ rfl
  have g3 : DataW.trod enc Tryd.prog w 0 (fun _ => true) true n 48 (([v0, v1, v2, v3].drop 3).take (Tryd.prog.cellsOf 48)) = some x3 := hall 3 _ rfl
  rw [Tryd.cells3] at g0
  rw [Tryd.cells2] at g1
  rw [Tryd.cellsStr] at g2
  rw [Tryd.cellsInts] at g3
  obtain ⟨z0, k0, _, _⟩ := DataW.trod_int Tryd.underlying3 g0
  obtain ⟨z1, k1, _, hz1⟩ := DataW.trod_int Tryd.underlying2 g1
  obtain ⟨s, k2, _, hs⟩ := DataW.trod_string Tryd.underlying9 g2
  simp at k0 k1 k2
  subst k0; subst k1; subst k2
  obtain ⟨ks, hI, hw⟩ := open_kids (v := v3) g3
  refine ⟨⟨z0, z1, s, ks⟩, v3, rfl, hI, ⟨hs, hz1⟩, fun hh => hw fun q hq => hh q ?_⟩
  simp only [DataW.weights, Tryd.underlying50 ]
  exact DataW.weights_mem_each (j := 3) (t := 48) (d := x3.1) rfl rfl q hq

theorem mem_weightsAll {P : Program} {e : TypeId} {d : DataW H} {n : Nat} : ∀ {ds : List (DataW H)}, d ∈ ds → n ∈ d.weights P e → n ∈ DataW.weightsAll P e ds
  | d0 :: ds, hd, hn => by
    simp only [DataW.weightsAll, List.mem_append]
    rcases List.mem_cons.1 hd with rfl | hd
    · exact .inl hn
    · exact .inr (mem_weightsAll hd hn)

/-- Within the reach, marks and all; the numbers are numbers of 64 bits. -/
structure FitX (l : List Nd) : Prop where
  len : l.length * 56 ≤ 140737488351232
  kids : ∀ x ∈ l, x.kids.length * 8 ≤ 140737488351232
  name : ∀ x ∈ l, x.name.size ≤ maxLen
  num : ∀ x ∈ l, (Lit.int .i64 x.n).wf = true
theorem FitX.fit {l : List Nd} (h : FitX l) : Fit l := ⟨by have := h.len; omega, fun x hx => by have := h.kids x hx; omega, h.name⟩

/-- The whole argument. -/
theorem open_nodesX {fuel : Nat} {v : Value} {x : DataW H × List MemPlace} (h : DataW.trod enc Tryd.prog w 0 (fun _ => true) true fuel 22 [v] = some x) :
    ∃ (ao : Option Addr) (cap : Nat) (l : List Nd), v = .slice ao l.length cap ∧ Rd w ao cap l ∧ ((∀ n ∈ x.1.weights Tryd.prog 22, n ≤ reachBytes) → FitX l) := by
  rcases open_slice Tryd.underlying22 h with ⟨hcs, rfl⟩ | ⟨a, len, cap, m, n, D, Pl, hcs, _, hl, hm, hmm, rfl, hx⟩
  · simp only [List.cons.injEq, and_true] at hcs
    subst hcs
    exact ⟨none, 0, [], rfl, ⟨none, 0, rfl, by simp, by simp, .inl rfl⟩, fun _ => ⟨by simp, by simp, by simp, by simp⟩⟩
  · simp only [List.cons.injEq, and_true] at hcs
    subst hcs
    simp only [if_true] at hmm
    subst hmm
    have each : ∀ i, i < m → ∃ y : Nd × Value, ∃ cs', w.cells? 0 (a.add (i * 4)) 4 = some cs' ∧ cs' = [.int .i64 y.1.op, .int .i64 y.1.n, .string y.1.name, y.2] ∧ Ints w w.heap.size y.2 y.1.kids ∧ (y.1.name.size ≤ maxLen ∧ (Lit.int .i64 y.1.n).wf = true) ∧ ((∀ n ∈ (D i).weights Tryd.prog 50, n ≤ reachBytes) → y.1.kids.length * 8 ≤ 140737488351232) := by
      intro i hi
      obtain ⟨cs', h1, h2⟩ := hx i hi
      rw [Tryd.cellsNode] at h1
      obtain ⟨y, kv, e, h3, h4, h5⟩ := open_node h2
      exact ⟨(y, kv), cs', h1, e, h3, h4, h5⟩
    have : Inhabited (Nd × Value) := ⟨(nd0, .slice none 0 0)⟩
    obtain ⟨q, hq⟩ := choose_lt each
    have hlen : ((List.range len).map fun i => (q i).1).length = len := by simp
    have hget : ∀ i, i < len → ((List.range len).map fun i => (q i).1).getD i nd0 = (q i).1 := fun i hi => by simp [hi]
    refine ⟨some a, m, (List.range len).map fun i => (q i).1, by rw [hlen], ⟨some a, m, rfl, by rw [hlen]; exact hl, hm, ?_⟩, fun hw => ⟨?_, ?_, ?_, ?_⟩⟩
    · by_cases h0 : len = 0
      · left; subst h0; rfl
      · right
        have hc0 : w.cell? a = some (.int .i64 (q 0).1.op) := by
          obtain ⟨cs', h1, rfl, _⟩ := hq 0 (by omega)
          have := (World.cells?_some h1).2.2 0 (by omega)
          rw [Nat.zero_mul] at this
          exact this
        obtain ⟨b, o, sp⟩ := a
        have hsp : sp = none := spot_none hc0
        subst hsp
        refine ⟨b, o, rfl, World.block_lt_of_cell? _ _ hc0, fun i hi => ?_⟩
        rw [hlen] at hi
        rw [hget i hi]
        obtain ⟨cs', h1, rfl, h3, _⟩ := hq i (by omega)
        have hcell := (World.cells?_some h1).2.2
        rw [Go.WideShapes.add_plain] at hcell
        refine ⟨(q i).2, ?_, ?_, ?_, ?_, h3⟩
        · have := hcell 0 (by omega); rw [Go.WideShapes.add_plain] at this; exact this
        · have := hcell 1 (by omega); rw [Go.WideShapes.add_plain] at this; exact this
        · have := hcell 2 (by omega); rw [Go.WideShapes.add_plain] at this; exact this
        · have := hcell 3 (by omega); rw [Go.WideShapes.add_plain] at this; exact this
    · have := hw ((((List.range len).map D).length + ((List.range (m - len)).map fun j => D (len + j)).length) * Tryd.prog.bytesOf 50) (by simp only [DataW.weights, Tryd.underlying22 ]; exact List.mem_cons_self ..)
      rw [Tryd.bytesNode] at this
      simp only [List.length_map, List.length_range, reachBytes] at this
      rw [hlen]; omega
    · intro y hy
      obtain ⟨i, hi, rfl⟩ := List.mem_map.1 hy
      rw [List.mem_range] at hi
      obtain ⟨cs', _, _, _, _, h5⟩ := hq i (by omega)
      have := h5 fun n hn => hw n (by
        simp only [DataW.weights, Tryd.underlying22, List.mem_cons, List.mem_append]
        exact .inr (.inl (mem_weightsAll (List.mem_map.2 ⟨i, List.mem_range.2 hi, rfl⟩) hn)))
      exact this
    · intro y hy
      obtain ⟨i, hi, rfl⟩ := List.mem_map.1 hy
      rw [List.mem_range] at hi
      obtain ⟨cs', _, _, _, h4, _⟩ := hq i (by omega)
      exact h4.1
    · intro y hy
      obtain ⟨i, hi, rfl⟩ := List.mem_map.1 hy
      rw [List.mem_range] at hi
      obtain ⟨cs', _, _, _, h4, _⟩ := hq i (by omega)
      exact h4.2
end

end Go.Proofs.YtkbcgcempchoaaaDoor
