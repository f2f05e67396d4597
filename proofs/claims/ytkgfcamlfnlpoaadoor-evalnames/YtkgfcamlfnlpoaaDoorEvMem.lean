/-
  Environments in memory: read, and owned.
-/
import Derived.Test.YtkgfcamlfnlpoaaDoorEvP0
import Derived.Test.YtkgfcamlfnlpoaaDoorProg
import Derived.Below
import Derived.Lib.OthersKept
import Derived.WalkKit
import Derived.Deep.AppendLies
import Derived.Deep.OwnRows
import Derived.Laws.AppendOwnNone
set_option linter.unusedSimpArgs false
set_option linter.unusedVariables false
namespace Go.Proofs.YtkgfcamlfnlpoaaDoor
open Go.RowKit Go.Lib

structure BdAt (w : World) (b o : Nat) (x : Bd) : Prop where
  c0 : w.cell? ⟨b, o, none⟩ = some (.string x.1)
  c1 : w.cell? ⟨b, o + 1, none⟩ = some (.int .i64 x.2)
/-- A list of bindings, read. -/
def Bds (w : World) (ao : Option Addr) (cap : Nat) (l : List Bd) : Prop :=
  (l.length ≤ cap ∧ cap ≤ maxLen ∧ (ao = none → cap = 0)) ∧ (l = [] ∨ ∃ b o, ao = some ⟨b, o, none⟩ ∧ b < w.heap.size ∧ ∀ i, i < l.length → BdAt w b (o + i * 2) (l.getD i bd0))
theorem BdAt.below {w w' : World} {b o : Nat} {x : Bd} (h : BdAt w b o x) (hlt : b < w.heap.size) (hb : Below w.heap.size w w') : BdAt w' b o x :=
  ⟨(hb.cell (p := ⟨b, o, none⟩) hlt).trans h.c0, (hb.cell (p := ⟨b, o + 1, none⟩) hlt).trans h.c1⟩
theorem Bds.below {w w' : World} {ao : Option Addr} {cap : Nat} {l : List Bd} (h : Bds w ao cap l) (hb : Below w.heap.size w w') : Bds w' ao cap l := by
  obtain ⟨h1, h2⟩ := h
  refine ⟨h1, ?_⟩
  rcases h2 with h2 | ⟨b, o, rfl, hlt, hc⟩
  · exact .inl h2
  · exact .inr ⟨b, o, rfl, by have := hb.size; omega, fun i hi => (hc i hi).below hlt hb⟩
theorem Bds.at_ {w : World} {ao : Option Addr} {cap : Nat} {l : List Bd} (h : Bds w ao cap l) {i : Nat} (hi : i < l.length) : ∃ b o, ao = some ⟨b, o, none⟩ ∧ b < w.heap.size ∧ BdAt w b (o + i * 2) (l.getD i bd0) := by
  rcases h.2 with h | ⟨b, o, rfl, hb, hc⟩
  · subst h; simp at hi
  · exact ⟨b, o, rfl, hb, hc i hi⟩

def bdCells : List Bd → List Value
  | [] => []
  | x :: r => .string x.1 :: .int .i64 x.2 :: bdCells r
theorem bdCells_length (l : List Bd) : (bdCells l).length = l.length * 2 := by
  induction l with
  | nil => rfl
  | cons a r ih => simp [bdCells, ih]; omega
theorem bdCells_append (l m : List Bd) : bdCells (l ++ m) = bdCells l ++ bdCells m := by
  induction l with
  | nil => rfl
  | cons a r ih => simp [bdCells, ih]
theorem bdCells_at (l : List Bd) (i : Nat) (x : Bd) (h : l[i]? = some x) : (bdCells l)[i * 2]? = some (.string x.1) ∧ (bdCells l)[i * 2 + 1]? = some (.int .i64 x.2) := by
  induction l generalizing i with
  | nil => simp at h
  | cons a r ih =>
    cases i with
    | zero => simp at h; subst h; simp [bdCells]
    | succ i =>
      have := ih i (by simpa using h)
      have e : (i + 1) * 2 = i * 2 + 2 := by omega
      rw [e]
      simpa [bdCells] using this
theorem bdCells_set (l : List Bd) (i : Nat) (n : Int) (hi : i < l.length) : bdCells (l.set i ((l.getD i bd0).1, n)) = (bdCells l).set (i * 2 + 1) (.int .i64 n) := by
  induction l generalizing i with
  | nil => simp at hi
  | cons a r ih =>
    cases i with
    | zero => simp [bdCells]
    | succ i =>
      have := ih i (by simpa using hi)
      have e : (i + 1) * 2 + 1 = (i * 2 + 1) + 2 := by omega
      rw [e]
      simp [bdCells] at this ⊢
      exact this
theorem bdCells_one (l : List Bd) : ∀ u ∈ bdCells l, u.oneCell' = true := by
  induction l with
  | nil => simp [bdCells]
  | cons a r ih =>
    intro u hu
    simp only [bdCells, List.mem_cons] at hu
    rcases hu with rfl | rfl | hu
    · rfl
    · rfl
    · exact ih u hu

/-- Bindings of the call's own. -/
def OwnB (w : World) (base : Nat) (v : Value) (l : List Bd) : Prop := w.ownsRow base 51 2 v l.length (bdCells l)
theorem own_below {w w' : World} {base : Nat} {e : TypeId} {size : Nat} {v : Value} {n : Nat} {xs : List Value} (h : w.ownsRow base e size v n xs) (hb : Below w.heap.size w w') : w'.ownsRow base e size v n xs :=
  World.ownsRow.kept (row := none) h ⟨hb.os, hb.tape, hb.output, hb.size, fun k hk _ => hb.block k hk⟩ (by
    cases hv : v.ownBlock
    · exact .inl rfl
    · exact .inr (by simp))
theorem OwnB.below {w w' : World} {base : Nat} {v : Value} {l : List Bd} (h : OwnB w base v l) (hb : Below w.heap.size w w') : OwnB w' base v l := own_below h hb
theorem OwnB.mono {w : World} {base base' : Nat} {v : Value} {l : List Bd} (h : OwnB w base v l) (hb : base' ≤ base) : OwnB w base' v l := by
  obtain ⟨h1, h2⟩ := h
  refine ⟨h1, ?_⟩
  rcases h2 with h2 | ⟨g, cap, cur, hv, hg, r⟩
  · exact .inl h2
  · exact .inr ⟨g, cap, cur, hv, by omega, r⟩
theorem OwnB_nil (w : World) (base : Nat) : OwnB w base (.slice none 0 0) [] := World.ownsRow_nil _ _ _ _
theorem OwnB.read {w : World} {base : Nat} {v : Value} {l : List Bd} (h : OwnB w base v l) : ∃ ao cap, v = .slice ao l.length cap ∧ Bds w ao cap l ∧ (∀ a, ao = some a → a.off = 0 ∧ a.spot = none ∧ base ≤ a.block) := by
  obtain ⟨h1, h2⟩ := h
  rcases h2 with ⟨rfl, h0⟩ | ⟨g, cap, cur, rfl, hb, hg, hn, hm, hs, ht⟩
  · have : l = [] := List.length_eq_zero_iff.1 h0
    subst this
    exact ⟨none, 0, rfl, ⟨⟨by simp, by simp [maxLen], fun _ => rfl⟩, .inl rfl⟩, by simp⟩
  · refine ⟨_, cap, rfl, ⟨⟨hn, hm, by simp⟩, .inr ⟨g, 0, rfl, lt_of_block hg, fun i hi => ?_⟩⟩, fun a ha => by cases ha; exact ⟨rfl, rfl, hb⟩⟩
    have hx : l[i]? = some (l.getD i bd0) := by simp [hi]
    obtain ⟨a0, a1⟩ := bdCells_at l i _ hx
    have hc : ∀ j, j < l.length * 2 → w.cell? ⟨g, j, none⟩ = (bdCells l)[j]? := by
      intro j hj
      have : w.cell? ⟨g, j, none⟩ = cur[j]? := by simp [World.cell?, hg]
      rw [this, ← Array.getElem?_toList, ← ht, List.getElem?_take, if_pos (by omega)]
    exact ⟨by rw [Nat.zero_add, hc _ (by omega), a0], by rw [Nat.zero_add, hc _ (by omega), a1]⟩
theorem Tryd.infoBind : (Tryd.prog.info? 51).map (fun i => (i.zero, i.size, i.bytes)) = some (some (.agg #[.string ⟨#[]⟩, .int .i64 0]), 2, 24) := by kernel_rfl
/-- The cells of a list that is read, as a source of append. -/
theorem Bds.src {w : World} {ao : Option Addr} {cap : Nat} {l : List Bd} (h : Bds w ao cap l) : ∀ ad, ao = some ad → ∀ j u, (bdCells l)[j]? = some u → w.cell? (ad.add j) = some u := by
  intro ad had j u hj
  have hjl : j < l.length * 2 := by
    have := (List.getElem?_eq_some_iff.1 hj).1
    rw [bdCells_length] at this; exact this
  obtain ⟨b, o, h1, hb, hc⟩ := h.at_ (i := j / 2) (by omega)
  rw [had] at h1
  cases h1
  have hx : l[j / 2]? = some (l.getD (j / 2) bd0) := by
    have : j / 2 < l.length := by omega
    simp [this]
  obtain ⟨a0, a1⟩ := bdCells_at l _ _ hx
  rw [Go.WideShapes.add_plain]
  rcases Nat.mod_two_eq_zero_or_one j with hr | hr
  · have e : j = j / 2 * 2 := by omega
    rw [← e] at a0
    have e' : o + j / 2 * 2 = o + j := by omega
    have := hc.c0
    rw [e'] at this
    rw [this, ← hj, a0]
  · have e : j = j / 2 * 2 + 1 := by omega
    rw [← e] at a1
    have e' : o + j / 2 * 2 + 1 = o + j := by omega
    have := hc.c1
    rw [e'] at this
    rw [this, ← hj, a1]
theorem OwnB.form {w : World} {base : Nat} {v : Value} {l : List Bd} (h : OwnB w base v l) : ∃ ao cap, v = .slice ao l.length cap := let ⟨ao, cap, h1, _⟩ := h.read; ⟨ao, cap, h1⟩
/-- Behind a store into one binding's number. -/
theorem OwnB.put {w : World} {base g cap : Nat} {l : List Bd} (h : OwnB w base (.slice (some ⟨g, 0, none⟩) l.length cap) l) (i : Nat) (hi : i < l.length) (n : Int) :
    OwnB (w.setCell ⟨g, i * 2 + 1, none⟩ (.int .i64 n)) base (.slice (some ⟨g, 0, none⟩) l.length cap) (l.set i ((l.getD i bd0).1, n)) := by
  obtain ⟨h1, h2⟩ := h
  refine ⟨by rw [bdCells_length, List.length_set], ?_⟩
  rcases h2 with ⟨h2, _⟩ | ⟨g', cap', cur, h3, hb, hg, hn, hm, hs, ht⟩
  · cases h2
  · cases h3
    refine .inr ⟨g, cap, cur.setIfInBounds (i * 2 + 1) (.int .i64 n), by simp, hb, heap_setCell_same w g _ cur _ _ hg, by simpa using hn, hm, by simpa using hs, ?_⟩
    rw [bdCells_set l i n hi, ← ht]
    simp [List.take_set]
end Go.Proofs.YtkgfcamlfnlpoaaDoor
