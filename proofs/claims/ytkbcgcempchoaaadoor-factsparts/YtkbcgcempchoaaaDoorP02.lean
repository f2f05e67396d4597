/-
  EvMem, ExPure, ExArW, ExMem.
-/
import Derived.Shelf.Unicode.DecodeSlow
import Derived.Laws.RangeAny
import Derived.Shelf.Small.Bits
import Derived.Shelf.Strconv.Itoa0
import Derived.Shelf.LaysM
import Derived.Shelf.Strconv.Clone
import Derived.Shelf.Unicode.DecodeAny
import Derived.Ground.SlsfProg
import Derived.Shelf.SlSortCmp.Insertion
import Derived.Shelf.SlSortCmp.SiftDown1
import Derived.Shelf.SlSortCmp.HeapSort1
import Derived.Shelf.SlSortCmp.Insertion1
import Derived.Shelf.SlSortCmp.Median1
import Derived.Shelf.SlSortCmp.Pivot1
import Derived.Shelf.SlSortCmp.ReverseRange1
import Derived.Shelf.SlSortCmp.PartitionEqual1
import Derived.Test.YtkbcgcempchoaaaDoorProg
import Derived.WalkKit
import Derived.Deep.DeepFit
import Derived.Lib.OthersKept
import Derived.RowKit
import Derived.Laws.Entries
import Derived.Below
import Derived.Deep.AppendLies
import Derived.Deep.OwnRows
import Derived.Laws.AppendOwnNone
import Derived.Test.YtkbcgcempchoaaaDoorP01
set_option linter.unusedSimpArgs false
set_option linter.unusedVariables false
namespace Go.Proofs.YtkbcgcempchoaaaDoor
open Go.RowKit Go.Lib

structure BdAt (w : World) (b o : Nat) (x : Bd) : Prop where
  c0 : w.cell? ⟨b, o, none⟩ = some (.string x.1)
  c1 : w.cell? ⟨b, o + 1, none⟩ = some (.int .i64 x.2)
/-- A list of bindings, read. -/
def Bds (w : World) (ao : Option Addr) (cap : Nat) (l : List Bd) : Prop :=
  (l.length ≤ cap ∧ cap ≤ maxLen ∧ (ao = none → cap = 0)) ∧ (l = [] ∨ ∃ b o, ao = some ⟨b, o, none⟩ ∧ b < w.heap.size ∧ ∀ i, i < l.length → BdAt w b (o + i * 2) (l.getD i bd0))
theorem BdAt.below {w w' : World} {b o : Nat} {x : Bd} (h : BdAt w b o x) (hlt : b < w.heap.size) (hb : Below w.heap.size w w') : BdAt w' b o x :=
  ⟨(hb.cell (p := ⟨b, o, none⟩) hlt).trans h.c0, (hb.cell (p := ⟨b, o + 1, none⟩) hlt).trans h.c1⟩
theorem Bds.below {w w' : World} {ao : Option Addr} {cap : Nat} {l : List Bd} (h : Bds w ao cap l) (hb : Below w.heap.size w w') : Bds w' ao cap l := by
  obtain ⟨h1, h2⟩ := h
  refine ⟨h1, ?_⟩
  rcases h2 with h2 | ⟨b, o, rfl, hlt, hc⟩
  · exact .inl h2
  · exact .inr ⟨b, o, rfl, by have := hb.size; omega, fun i hi => (hc i hi).below hlt hb⟩
theorem Bds.at_ {w : World} {ao : Option Addr} {cap : Nat} {l : List Bd} (h : Bds w ao cap l) {i : Nat} (hi : i < l.length) : ∃ b o, ao = some ⟨b, o, none⟩ ∧ b < w.heap.size ∧ BdAt w b (o + i * 2) (l.getD i bd0) := by
  rcases h.2 with h | ⟨b, o, rfl, hb, hc⟩
  · subst h; simp at hi
  · exact ⟨b, o, rfl, hb, hc i hi⟩

def bdCells : List Bd → List Value
  | [] => []
  | x :: r => .string x.1 :: .int .i64 x.2 :: bdCells r
theorem bdCells_length (l : List Bd) : (bdCells l).length = l.length * 2 := by
  induction l with
  | nil => rfl
  | cons a r ih => simp [bdCells, ih]; omega
theorem bdCells_at (l : List Bd) (i : Nat) (x : Bd) (h : l[i]? = some x) : (bdCells l)[i * 2]? = some (.string x.1) ∧ (bdCells l)[i * 2 + 1]? = some (.int .i64 x.2) := by
  induction l generalizing i with
  | nil => simp at h
  | cons a r ih =>
    cases i with
    | zero => simp at h; subst h; simp [bdCells]
    | succ i =>
      have := ih i (by simpa using h)
      have e : (i + 1) * 2 = i * 2 + 2 := by omega
      rw [e]
      simpa [bdCells] using this
theorem bdCells_set (l : List Bd) (i : Nat) (n : Int) (hi : i < l.length) : bdCells (l.set i ((l.getD i bd0).1, n)) = (bdCells l).set (i * 2 + 1) (.int .i64 n) := by
  induction l generalizing i with
  | nil => simp at hi
  | cons a r ih =>
    cases i with
    | zero => simp [bdCells]
    | succ i =>
      have := ih i (by simpa using hi)
      have e : (i + 1) * 2 + 1 = (i * 2 + 1) + 2 := by omega
      rw [e]
      simp [bdCells] at this ⊢
      exact this
/-- Bindings of the call's own. -/
def OwnB (w : World) (base : Nat) (v : Value) (l : List Bd) : Prop := w.ownsRow base 163 2 v l.length (bdCells l)
theorem own_below {w w' : World} {base : Nat} {e : TypeId} {size : Nat} {v : Value} {n : Nat} {xs : List Value} (h : w.ownsRow base e size v n xs) (hb : Below w.heap.size w w') : w'.ownsRow base e size v n xs :=
  World.ownsRow.kept (row := none) h ⟨hb.os, hb.tape, hb.output, hb.size, fun k hk _ => hb.block k hk⟩ (by
    cases hv : v.ownBlock
    · exact .inl rfl
    · exact .inr (by simp))
theorem OwnB.below {w w' : World} {base : Nat} {v : Value} {l : List Bd} (h : OwnB w base v l) (hb : Below w.heap.size w w') : OwnB w' base v l := own_below h hb
theorem OwnB.mono {w : World} {base base' : Nat} {v : Value} {l : List Bd} (h : OwnB w base v l) (hb : base' ≤ base) : OwnB w base' v l := by
  obtain ⟨h1, h2⟩ := h
  refine ⟨h1, ?_⟩
  rcases h2 with h2 | ⟨g, cap, cur, hv, hg, r⟩
  · exact .inl h2
  · exact .inr ⟨g, cap, cur, hv, by omega, r⟩
theorem OwnB.read {w : World} {base : Nat} {v : Value} {l : List Bd} (h : OwnB w base v l) : ∃ ao cap, v = .slice ao l.length cap ∧ Bds w ao cap l ∧ (∀ a, ao = some a → a.off = 0 ∧ a.spot = none ∧ base ≤ a.block) := by
  obtain ⟨h1, h2⟩ := h
  rcases h2 with ⟨rfl, h0⟩ | ⟨g, cap, cur, rfl, hb, hg, hn, hm, hs, ht⟩
  · have : l = [] := List.length_eq_zero_iff.1 h0
    subst this
    exact ⟨none, 0, rfl, ⟨⟨by simp, by simp [maxLen], fun _ => rfl⟩, .inl rfl⟩, by simp⟩
  · refine ⟨_, cap, rfl, ⟨⟨hn, hm, by simp⟩, .inr ⟨g, 0, rfl, lt_of_block hg, fun i hi => ?_⟩⟩, fun a ha => by cases ha; exact ⟨rfl, rfl, hb⟩⟩
    have hx : l[i]? = some (l.getD i bd0) := by simp [hi]
    obtain ⟨a0, a1⟩ := bdCells_at l i _ hx
    have hc : ∀ j, j < l.length * 2 → w.cell? ⟨g, j, none⟩ = (bdCells l)[j]? := by
      intro j hj
      have : w.cell? ⟨g, j, none⟩ = cur[j]? := by simp [World.cell?, hg]
      rw [this, ← Array.getElem?_toList, ← ht, List.getElem?_take, if_pos (by omega)]
    exact ⟨by rw [Nat.zero_add, hc _ (by omega), a0], by rw [Nat.zero_add, hc _ (by omega), a1]⟩
theorem OwnB.form {w : World} {base : Nat} {v : Value} {l : List Bd} (h : OwnB w base v l) : ∃ ao cap, v = .slice ao l.length cap := let ⟨ao, cap, h1, _⟩ := h.read; ⟨ao, cap, h1⟩
/-- Behind a store into one binding's number. -/
theorem OwnB.put {w : World} {base g cap : Nat} {l : List Bd} (h : OwnB w base (.slice (some ⟨g, 0, none⟩) l.length cap) l) (i : Nat) (hi : i < l.length) (n : Int) :
    OwnB (w.setCell ⟨g, i * 2 + 1, none⟩ (.int .i64 n)) base (.slice (some ⟨g, 0, none⟩) l.length cap) (l.set i ((l.getD i bd0).1, n)) := by
  obtain ⟨h1, h2⟩ := h
  refine ⟨by rw [bdCells_length, List.length_set], ?_⟩
  rcases h2 with ⟨h2, _⟩ | ⟨g', cap', cur, h3, hb, hg, hn, hm, hs, ht⟩
  · cases h2
  · cases h3
    refine .inr ⟨g, cap, cur.setIfInBounds (i * 2 + 1) (.int .i64 n), by simp, hb, heap_setCell_same w g _ cur _ _ hg, by simpa using hn, hm, by simpa using hs, ?_⟩
    rw [bdCells_set l i n hi, ← ht]
    simp [List.take_set]
end Go.Proofs.YtkbcgcempchoaaaDoor

set_option linter.unusedSimpArgs false
set_option linter.unusedVariables false
namespace Go.Proofs.YtkbcgcempchoaaaDoor

structure Nd where
  op : Int
  n : Int
  name : ByteArray
  kids : List Int
  deriving DecidableEq

def nd0 : Nd := ⟨0, 0, ⟨#[]⟩, []⟩

def aritI (op : Int) : Int := if op = 1 ∨ op = 2 then 0 else if op = 3 ∨ op = 4 then 1 else if 5 ≤ op ∧ op ≤ 16 then 2 else if op = 17 then 3 else -1

theorem aritI_le (op : Int) : aritI op ≤ 3 := by
  unfold aritI; split <;> (try split) <;> (try split) <;> (try split) <;> omega
theorem aritI_ge (op : Int) : -1 ≤ aritI op := by
  unfold aritI; split <;> (try split) <;> (try split) <;> (try split) <;> omega

/-- May a node have all these together? -/
def fitB (op n : Int) (name : ByteArray) (parts : Int) : Bool :=
  decide (0 ≤ aritI op) && decide (parts = aritI op) && (decide (n = 0) || decide (op = 1)) && (if op = 2 then nameB name else name.toList.isEmpty)

def formB (x : Nd) : Bool := fitB x.op x.n x.name x.kids.length

theorem formB_kids {x : Nd} (h : formB x = true) : x.kids.length ≤ 3 := by
  unfold formB fitB at h
  simp only [Bool.and_eq_true, decide_eq_true_eq] at h
  have := aritI_le x.op
  omega

/-- From a cursor down through the kids, the last first. -/
def chainL (fr : List Nat) : List Int → Nat → Option Nat
  | [], c => some c
  | k :: ks, c => if c = 0 ∨ k ≠ (c : Int) - 1 then none else chainL fr ks (fr.getD (c - 1) 0)

def stp (fr : List Nat) (x : Nd) : Option (List Nat) := if formB x = true then (chainL fr x.kids.reverse fr.length).map (fun a => fr ++ [a]) else none

def begR (fr : List Nat) : List Nd → Option (List Nat)
  | [] => some fr
  | x :: l => (stp fr x).bind fun fr' => begR fr' l

def begL (l : List Nd) : Option (List Nat) :=
  if l.length = 0 ∨ 64 < l.length then none else (begR [] l).bind fun fr => if fr.getD (l.length - 1) 0 = 0 then some fr else none

/-- No entry is above its place. -/
def Low (fr : List Nat) : Prop := ∀ j, fr.getD j 0 ≤ j

theorem chainL_le {fr : List Nat} (h : Low fr) : ∀ (ks : List Int) (c a : Nat), chainL fr ks c = some a → a ≤ c := by
  intro ks
  induction ks with
  | nil => intro c a h; simp [chainL] at h; omega
  | cons k ks ih =>
    intro c a hh
    simp only [chainL] at hh
    split at hh
    · cases hh
    · have := ih _ _ hh
      have := h (c - 1)
      omega

theorem stp_some {fr fr' : List Nat} {x : Nd} (h : stp fr x = some fr') : formB x = true ∧ ∃ a, chainL fr x.kids.reverse fr.length = some a ∧ fr' = fr ++ [a] := by
  unfold stp at h
  split at h
  · rename_i hf
    cases hc : chainL fr x.kids.reverse fr.length with
    | none => rw [hc] at h; cases h
    | some a => rw [hc] at h; simp at h; exact ⟨hf, a, rfl, h.symm⟩
  · cases h

theorem getD_snoc (fr : List Nat) (a j : Nat) : (fr ++ [a]).getD j 0 = if j < fr.length then fr.getD j 0 else if j = fr.length then a else 0 := by
  simp only [List.getD_eq_getElem?_getD, List.getElem?_append]
  split
  · rfl
  · split
    · subst_vars; simp
    · rw [List.getElem?_eq_none (by simp; omega)]; rfl

theorem Low.snoc {fr : List Nat} (h : Low fr) {a : Nat} (ha : a ≤ fr.length) : Low (fr ++ [a]) := by
  intro j
  rw [getD_snoc]
  split
  · exact h j
  · split <;> omega

theorem begR_append (fr : List Nat) (l m : List Nd) : begR fr (l ++ m) = (begR fr l).bind fun fr' => begR fr' m := by
  induction l generalizing fr with
  | nil => simp [begR]
  | cons x l ih =>
    simp only [List.cons_append, begR]
    cases stp fr x with
    | none => rfl
    | some fr' => simp [ih]

theorem begR_snoc (fr : List Nat) (l : List Nd) (x : Nd) : begR fr (l ++ [x]) = (begR fr l).bind fun fr' => stp fr' x := by
  rw [begR_append]
  congr
  funext fr'
  simp [begR]

theorem begR_some {l : List Nd} : ∀ {fr fr' : List Nat}, begR fr l = some fr' → Low fr → fr'.length = fr.length + l.length ∧ Low fr' ∧ (∀ j, j < fr.length → fr'.getD j 0 = fr.getD j 0) ∧ ∀ x ∈ l, formB x = true := by
  induction l with
  | nil => intro fr fr' h hl; simp [begR] at h; subst h; simp [hl]
  | cons x l ih =>
    intro fr fr' h hl
    simp only [begR] at h
    cases hs : stp fr x with
    | none => rw [hs] at h; cases h
    | some f2 =>
      rw [hs] at h
      simp only [Option.bind_some] at h
      obtain ⟨hf, a, hc, rfl⟩ := stp_some hs
      obtain ⟨h1, h2, h3, h4⟩ := ih h (hl.snoc (chainL_le hl _ _ _ hc))
      refine ⟨by simp at h1 ⊢; omega, h2, fun j hj => ?_, ?_⟩
      · rw [h3 j (by simp; omega), getD_snoc, if_pos hj]
      · intro y hy
        rcases List.mem_cons.1 hy with rfl | hy
        · exact hf
        · exact h4 y hy

theorem low_nil : Low [] := by intro j; simp

theorem begR_take_none {l : List Nd} {i : Nat} (h : begR [] (l.take i) = none) : begR [] l = none := by
  rw [← List.take_append_drop i l, begR_append, h]; rfl

theorem begL_some {l : List Nd} {fr : List Nat} (h : begL l = some fr) : 0 < l.length ∧ l.length ≤ 64 ∧ begR [] l = some fr ∧ fr.getD (l.length - 1) 0 = 0 := by
  unfold begL at h
  split at h
  · cases h
  · rename_i hl
    cases hr : begR [] l with
    | none => rw [hr] at h; cases h
    | some f =>
      rw [hr] at h
      simp only [Option.bind_some] at h
      split at h
      · cases h; exact ⟨by omega, by omega, rfl, by assumption⟩
      · cases h

theorem begL_mk {l : List Nd} {fr : List Nat} (h0 : 0 < l.length) (h1 : l.length ≤ 64) (hr : begR [] l = some fr) (h2 : fr.getD (l.length - 1) 0 = 0) : begL l = some fr := by
  unfold begL
  rw [if_neg (by omega), hr, Option.bind_some, if_pos h2]

theorem begR_len {l : List Nd} {fr : List Nat} (h : begR [] l = some fr) : fr.length = l.length := by
  have := (begR_some h low_nil).1
  simpa using this
end Go.Proofs.YtkbcgcempchoaaaDoor

set_option linter.unusedSimpArgs false
set_option linter.unusedVariables false
namespace Go.Proofs.YtkbcgcempchoaaaDoor
open Go.RowKit Go.Lib

theorem ret2' {k l : IntKind} {a b c d : Int} (h : a = c) (h' : b = d) : Ending.returned (.tuple #[.int k a, .int l b]) = .returned (.tuple #[.int k c, .int l d]) := by rw [h, h']

def arK (op : Int) : Int := max (aritI op) 0
def arE (op : Int) : Int := if aritI op < 0 then 2 else 0
theorem ar_of {op a : Int} (h : aritI op = a) (h0 : 0 ≤ a) : arK op = a ∧ arE op = 0 := by
  unfold arK arE; rw [h, if_neg (by omega)]; exact ⟨by omega, rfl⟩
theorem ar_none {op : Int} (h : aritI op = -1) : arK op = 0 ∧ arE op = 2 := by
  unfold arK arE; rw [h]; exact ⟨by decide, by decide⟩

theorem ar_spec (op : Int) : (arK op = 0 ∧ arE op = 0 ∧ (op = 1 ∨ op = 2)) ∨ (arK op = 1 ∧ arE op = 0 ∧ (op = 3 ∨ op = 4)) ∨ (arK op = 2 ∧ arE op = 0 ∧ 5 ≤ op ∧ op ≤ 16) ∨ (arK op = 3 ∧ arE op = 0 ∧ op = 17) ∨ (arK op = 0 ∧ arE op = 2 ∧ (op < 1 ∨ 17 < op)) := by
  by_cases h1 : op = 1 ∨ op = 2
  · have := ar_of (op := op) (a := 0) (by simp [aritI, h1]) (by omega); omega
  by_cases h2 : op = 3 ∨ op = 4
  · have := ar_of (op := op) (a := 1) (by simp [aritI, h1, h2]) (by omega); omega
  by_cases h3 : 5 ≤ op ∧ op ≤ 16
  · have := ar_of (op := op) (a := 2) (by simp [aritI, h1, h2, h3]) (by omega); omega
  by_cases h4 : op = 17
  · have := ar_of (op := op) (a := 3) (by simp [aritI, h4]) (by omega); omega
  · have := ar_none (op := op) (by simp [aritI, h1, h2, h3, h4]); omega

set_option maxHeartbeats 400000 in
theorem arity_any (op : Int) (w : World) :
    Calls Tryd.prog 54 #[.int .i64 op] w fun e w' => e = .returned (.tuple #[.int .i64 (arK op), .int .i64 (arE op)]) ∧ w' = w := by
  go_enter Tryd.func54, Tryd.ntmps54
  go_wp2
  all_goals
    go_ret2
    have hs := ar_spec op
    simp only [beq_iff_eq, beq_eq_false_iff_ne, ne_eq] at *
    exact ⟨ret2' (by omega) (by omega), trivial⟩

set_option maxHeartbeats 400000 in
theorem fits_any (op n : Int) (name : ByteArray) (parts : Int) (w : World) (hT : SpanCells w) :
    Calls Tryd.prog 63 #[.int .i64 op, .int .i64 n, .string name, .int .i64 parts] w fun e w' => e = .returned (.bool (fitB op n name parts)) ∧ Below w.heap.size w w' := by
  have HF : Hid (fitB op n name parts = (!(arE op != 0) && !(parts != arK op) && !(n != 0 && op != 1) && (if op = 2 then nameB name else name.toList.isEmpty))) := by
    show _ = _
    by_cases h : 0 ≤ aritI op
    · rw [(ar_of rfl h).1, (ar_of rfl h).2]
      unfold fitB
      rw [Bool.eq_iff_iff]
      simp [h]
    · have h1 : aritI op = -1 := by have := aritI_ge op; omega
      rw [(ar_none h1).1, (ar_none h1).2]
      unfold fitB
      simp [h1]
  have ca : Hid (∀ W, Calls Tryd.prog 54 #[.int .i64 op] W fun e w' => e = .returned (.tuple #[.int .i64 (arK op), .int .i64 (arE op)]) ∧ w' = W) := arity_any op
  generalize arK op = k at *
  generalize arE op = x at *
  go_enter Tryd.func63, Tryd.ntmps63
  go_wp2_with (first | (go_at_call 54; refine (ca.out _).mono ?_; rintro e w' ⟨rfl, rfl⟩) | (go_at_call 95; refine (name_spans _ _ hT).mono ?_; rintro e w' ⟨rfl, hb⟩))
  all_goals
    go_ret
    first
    | exact ⟨ret_bool (by rw [HF.out]; simp_all), hb⟩
    | exact ⟨ret_bool (by rw [HF.out]; simp_all), Below.refl _ _⟩
end Go.Proofs.YtkbcgcempchoaaaDoor

set_option linter.unusedSimpArgs false
set_option linter.unusedVariables false
namespace Go.Proofs.YtkbcgcempchoaaaDoor
open Go.RowKit Go.Lib

/-- The slice v reads as the numbers ks, in blocks below B. -/
def Ints (w : World) (B : Nat) (v : Value) (ks : List Int) : Prop :=
  ∃ ao cap, v = .slice ao ks.length cap ∧ ks.length ≤ cap ∧ (cap ≤ maxLen ∧ (ao = none → cap = 0)) ∧ (ks = [] ∨ ∃ b o, ao = some ⟨b, o, none⟩ ∧ b < B ∧ ∀ j, j < ks.length → w.cell? ⟨b, o + j, none⟩ = some (.int .i64 (ks.getD j 0)))

/-- The four cells of a node at b, o. -/
structure NodeAt (w : World) (B b o : Nat) (x : Nd) (kv : Value) : Prop where
  c0 : w.cell? ⟨b, o, none⟩ = some (.int .i64 x.op)
  c1 : w.cell? ⟨b, o + 1, none⟩ = some (.int .i64 x.n)
  c2 : w.cell? ⟨b, o + 2, none⟩ = some (.string x.name)
  c3 : w.cell? ⟨b, o + 3, none⟩ = some kv
  kids : Ints w B kv x.kids

/-- The slice v reads as the nodes l, in blocks below B. -/
def Nodes (w : World) (B : Nat) (v : Value) (l : List Nd) : Prop :=
  ∃ ao cap, v = .slice ao l.length cap ∧ l.length ≤ cap ∧ cap ≤ maxLen ∧ (l = [] ∨ ∃ b o, ao = some ⟨b, o, none⟩ ∧ b < B ∧ ∀ i, i < l.length → ∃ kv, NodeAt w B b (o + i * 4) (l.getD i nd0) kv)

theorem Ints.below {w w' : World} {B B' : Nat} {v : Value} {ks : List Int} (h : Ints w B v ks) (hb : Below B w w') (hB : B ≤ B') : Ints w' B' v ks := by
  obtain ⟨ao, cap, rfl, h1, h2, h3⟩ := h
  refine ⟨ao, cap, rfl, h1, h2, ?_⟩
  rcases h3 with h3 | ⟨b, o, rfl, hlt, hc⟩
  · exact .inl h3
  · exact .inr ⟨b, o, rfl, by omega, fun j hj => (hb.cell (p := ⟨b, o + j, none⟩) hlt).trans (hc j hj)⟩

theorem NodeAt.below {w w' : World} {B B' b o : Nat} {x : Nd} {kv : Value} (h : NodeAt w B b o x kv) (hb : Below B w w') (hB : B ≤ B') (hlt : b < B) : NodeAt w' B' b o x kv :=
  ⟨(hb.cell (p := ⟨b, o, none⟩) hlt).trans h.c0, (hb.cell (p := ⟨b, o + 1, none⟩) hlt).trans h.c1, (hb.cell (p := ⟨b, o + 2, none⟩) hlt).trans h.c2, (hb.cell (p := ⟨b, o + 3, none⟩) hlt).trans h.c3, h.kids.below hb hB⟩

theorem Nodes.below {w w' : World} {B B' : Nat} {v : Value} {l : List Nd} (h : Nodes w B v l) (hb : Below B w w') (hB : B ≤ B') : Nodes w' B' v l := by
  obtain ⟨ao, cap, rfl, h1, h2, h3⟩ := h
  refine ⟨ao, cap, rfl, h1, h2, ?_⟩
  rcases h3 with h3 | ⟨b, o, rfl, hlt, hc⟩
  · exact .inl h3
  · exact .inr ⟨b, o, rfl, by omega, fun i hi => let ⟨kv, hk⟩ := hc i hi; ⟨kv, hk.below hb hB hlt⟩⟩

theorem Ints.mono {w : World} {B B' : Nat} {v : Value} {ks : List Int} (h : Ints w B v ks) (hB : B ≤ B') : Ints w B' v ks := h.below (Below.refl _ _) hB
theorem Nodes.mono {w : World} {B B' : Nat} {v : Value} {l : List Nd} (h : Nodes w B v l) (hB : B ≤ B') : Nodes w B' v l := h.below (Below.refl _ _) hB

/-- Numbers of the call's own. -/
def OwnI (w : World) (base : Nat) (v : Value) (ks : List Int) : Prop := w.ownsRow base 3 1 v ks.length (ks.map (Value.int .i64))

def ndCells : List (Nd × Value) → List Value
  | [] => []
  | (x, kv) :: r => .int .i64 x.op :: .int .i64 x.n :: .string x.name :: kv :: ndCells r

theorem ndCells_append (l m : List (Nd × Value)) : ndCells (l ++ m) = ndCells l ++ ndCells m := by
  induction l with
  | nil => rfl
  | cons a r ih => obtain ⟨x, kv⟩ := a; simp [ndCells, ih]
theorem ndCells_at (l : List (Nd × Value)) (i : Nat) (x : Nd) (kv : Value) (h : l[i]? = some (x, kv)) :
    (ndCells l)[i * 4]? = some (.int .i64 x.op) ∧ (ndCells l)[i * 4 + 1]? = some (.int .i64 x.n) ∧ (ndCells l)[i * 4 + 2]? = some (.string x.name) ∧ (ndCells l)[i * 4 + 3]? = some kv := by
  induction l generalizing i with
  | nil => simp at h
  | cons a r ih =>
    obtain ⟨y, kw⟩ := a
    cases i with
    | zero => simp at h; obtain ⟨rfl, rfl⟩ := h; simp [ndCells]
    | succ i =>
      have := ih i (by simpa using h)
      have e : (i + 1) * 4 = i * 4 + 4 := by omega
      rw [e]
      simpa [ndCells] using this

/-- Nodes of the call's own; 'p' tells the kids' slices. -/
structure OwnP (w : World) (base : Nat) (v : Value) (p : List (Nd × Value)) : Prop where
  row : w.ownsRow base 50 4 v p.length (ndCells p)
  kids : ∀ q ∈ p, OwnI w base q.2 q.1.kids

def OwnN (w : World) (base : Nat) (v : Value) (l : List Nd) : Prop := ∃ p : List (Nd × Value), p.map (·.1) = l ∧ OwnP w base v p

theorem OwnN_nil (w : World) (base : Nat) : OwnN w base (.slice none 0 0) [] := ⟨[], rfl, World.ownsRow_nil _ _ _ _, by simp⟩
theorem OwnI_nil (w : World) (base : Nat) : OwnI w base (.slice none 0 0) [] := World.ownsRow_nil _ _ _ _

theorem ownsRow_mono {w : World} {base base' : Nat} {e : TypeId} {size : Nat} {v : Value} {n : Nat} {xs : List Value} (h : w.ownsRow base e size v n xs) (hb : base' ≤ base) : w.ownsRow base' e size v n xs := by
  obtain ⟨h1, h2⟩ := h
  refine ⟨h1, ?_⟩
  rcases h2 with h2 | ⟨g, cap, cur, hv, hg, r⟩
  · exact .inl h2
  · exact .inr ⟨g, cap, cur, hv, by omega, r⟩

/-- A row is another's block only if the elements' types are one. -/
theorem ownBlock_ne {w : World} {base base' : Nat} {e e' : TypeId} {s s' n n' : Nat} {v v' : Value} {xs xs' : List Value} (h : w.ownsRow base e s v n xs) (h' : w.ownsRow base' e' s' v' n' xs') (hne : e ≠ e') : v.ownBlock = none ∨ v.ownBlock ≠ v'.ownBlock := by
  rcases h.2 with ⟨rfl, _⟩ | ⟨g, cap, cur, rfl, _, hg, _⟩
  · exact .inl rfl
  · right
    rcases h'.2 with ⟨rfl, _⟩ | ⟨g', cap', cur', rfl, _, hg', _⟩
    · simp [Value.ownBlock]
    · intro hh
      simp [Value.ownBlock] at hh
      subst hh
      rw [hg] at hg'
      simp at hg'
      exact hne hg'.2

theorem OwnI.below {w w' : World} {base : Nat} {v : Value} {ks : List Int} (h : OwnI w base v ks) (hb : Below w.heap.size w w') : OwnI w' base v ks :=
  World.ownsRow.kept (row := none) h ⟨hb.os, hb.tape, hb.output, hb.size, fun k hk _ => hb.block k hk⟩ (by
    cases hv : v.ownBlock
    · exact .inl rfl
    · exact .inr (by simp))
theorem ownsRow_below {w w' : World} {base : Nat} {e : TypeId} {size : Nat} {v : Value} {n : Nat} {xs : List Value} (h : w.ownsRow base e size v n xs) (hb : Below w.heap.size w w') : w'.ownsRow base e size v n xs :=
  World.ownsRow.kept (row := none) h ⟨hb.os, hb.tape, hb.output, hb.size, fun k hk _ => hb.block k hk⟩ (by
    cases hv : v.ownBlock
    · exact .inl rfl
    · exact .inr (by simp))
theorem OwnP.below {w w' : World} {base : Nat} {v : Value} {p : List (Nd × Value)} (h : OwnP w base v p) (hb : Below w.heap.size w w') : OwnP w' base v p :=
  ⟨ownsRow_below h.row hb, fun q hq => (h.kids q hq).below hb⟩
theorem OwnN.below {w w' : World} {base : Nat} {v : Value} {l : List Nd} (h : OwnN w base v l) (hb : Below w.heap.size w w') : OwnN w' base v l := let ⟨p, h1, h2⟩ := h; ⟨p, h1, h2.below hb⟩

/-- Behind an append of one node (its kids owned) onto owned nodes. -/
theorem OwnP.snoc {w w1 : World} {base : Nat} {v v' : Value} {p : List (Nd × Value)} {x : Nd} {kv : Value} (h : OwnP w base v p) (hk : OwnI w base kv x.kids)
    (hown : w1.ownsRow base 50 4 v' (p.length + 1) (ndCells p ++ [.int .i64 x.op, .int .i64 x.n, .string x.name, kv])) (hg : w.grownBy w1 v.ownBlock) : OwnP w1 base v' (p ++ [(x, kv)]) := by
  refine ⟨?_, fun q hq => ?_⟩
  · rw [ndCells_append]; simpa [ndCells] using hown
  · rcases List.mem_append.1 hq with hq | hq
    · exact World.ownsRow.kept (h.kids q hq) hg (ownBlock_ne (h.kids q hq) h.row (by decide))
    · simp at hq; subst hq
      exact World.ownsRow.kept hk hg (ownBlock_ne hk h.row (by decide))

theorem Ints_of_own {w : World} {base B : Nat} {v : Value} {ks : List Int} (h : OwnI w base v ks) (hB : w.heap.size ≤ B) : Ints w B v ks := by
  obtain ⟨h1, h2⟩ := h
  rcases h2 with ⟨rfl, h0⟩ | ⟨g, cap, cur, rfl, hb, hg, hn, hm, hs, ht⟩
  · have : ks = [] := List.length_eq_zero_iff.1 h0
    subst this
    exact ⟨none, 0, rfl, by simp, by simp, .inl rfl⟩
  · refine ⟨_, cap, rfl, hn, ⟨hm, by simp⟩, .inr ⟨g, 0, rfl, ?_, fun j hj => ?_⟩⟩
    · have := lt_of_block hg; omega
    · have hc : w.cell? ⟨g, 0 + j, none⟩ = cur[j]? := by simp [World.cell?, hg]
      rw [hc]
      have : cur.toList[j]? = (cur.toList.take (ks.length * 1))[j]? := by rw [List.getElem?_take, if_pos (by omega)]
      rw [← Array.getElem?_toList, this, ht]
      simp [hj]

theorem Nodes_of_ownP {w : World} {base B : Nat} {v : Value} {p : List (Nd × Value)} (h : OwnP w base v p) (hB : w.heap.size ≤ B) : Nodes w B v (p.map (·.1)) := by
  obtain ⟨h1, h2⟩ := h.row
  rcases h2 with ⟨rfl, h0⟩ | ⟨g, cap, cur, rfl, hb, hg, hn, hm, hs, ht⟩
  · have : p = [] := List.length_eq_zero_iff.1 h0
    subst this
    exact ⟨none, 0, rfl, by simp, by simp, .inl rfl⟩
  · refine ⟨_, cap, by simp, by simpa using hn, hm, .inr ⟨g, 0, rfl, ?_, fun i hi => ?_⟩⟩
    · have := lt_of_block hg; omega
    · simp at hi
      have hp : p[i]? = some (p[i].1, p[i].2) := by simp [hi]
      have hx : (p.map (·.1)).getD i nd0 = p[i].1 := by simp [hi]
      obtain ⟨a0, a1, a2, a3⟩ := ndCells_at p i _ _ hp
      have hc : ∀ j, j < p.length * 4 → w.cell? ⟨g, j, none⟩ = (ndCells p)[j]? := by
        intro j hj
        have : w.cell? ⟨g, j, none⟩ = cur[j]? := by simp [World.cell?, hg]
        rw [this, ← Array.getElem?_toList, ← ht, List.getElem?_take, if_pos (by omega)]
      rw [hx]
      refine ⟨p[i].2, ?_, ?_, ?_, ?_, ?_⟩
      · rw [Nat.zero_add, hc _ (by omega), a0]
      · rw [Nat.zero_add, hc _ (by omega), a1]
      · rw [Nat.zero_add, hc _ (by omega), a2]
      · rw [Nat.zero_add, hc _ (by omega), a3]
      · exact Ints_of_own (h.kids p[i] (by simp)) hB

theorem Nodes_of_own {w : World} {base B : Nat} {v : Value} {l : List Nd} (h : OwnN w base v l) (hB : w.heap.size ≤ B) : Nodes w B v l := by
  obtain ⟨p, rfl, h⟩ := h
  exact Nodes_of_ownP h hB

theorem Tryd.info3 : (Tryd.prog.info? 3).map (fun i => (i.zero, i.size, i.bytes)) = some (some (.int .i64 0), 1, 8) := by kernel_rfl
theorem Tryd.infoNode : (Tryd.prog.info? 50).map (fun i => (i.zero, i.size, i.bytes)) = some (some (.agg #[.int .i64 0, .int .i64 0, .string ⟨#[]⟩, .slice none 0 0]), 4, 56) := by kernel_rfl
end Go.Proofs.YtkbcgcempchoaaaDoor
