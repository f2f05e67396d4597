/-
  EvP0, EvMem.
-/
import Derived.Test.YtdcfjopmddaemaaDoorMArPure
import Derived.Test.YtdcfjopmddaemaaDoorProg
import Derived.Below
import Derived.Lib.OthersKept
import Derived.WalkKit
import Derived.Deep.AppendLies
import Derived.Deep.OwnRows
import Derived.Laws.AppendOwnNone
set_option linter.unusedSimpArgs false
set_option linter.unusedVariables false
namespace Go.Proofs.YtdcfjopmddaemaaDoor
open Go.RowKit

abbrev Bd := ByteArray × Int
def bd0 : Bd := (⟨#[]⟩, 0)
/-- The last of the first k bindings whose name is nm; -1. -/
def lastN (l : List Bd) (nm : ByteArray) : Nat → Int
  | 0 => -1
  | k + 1 => if (l.getD k bd0).1 = nm then (k : Int) else lastN l nm k
def lastB (l : List Bd) (nm : ByteArray) : Int := lastN l nm l.length
def getN (l : List Bd) (nm : ByteArray) : Nat → Int
  | 0 => 0
  | k + 1 => if (l.getD k bd0).1 = nm then (l.getD k bd0).2 else getN l nm k
def getB (l : List Bd) (nm : ByteArray) : Int := getN l nm l.length
theorem lastN_range (l : List Bd) (nm : ByteArray) : ∀ k : Nat, -1 ≤ lastN l nm k ∧ lastN l nm k < k
  | 0 => by simp [lastN]
  | k + 1 => by
    have := lastN_range l nm k
    unfold lastN
    split <;> omega
theorem lastB_range (l : List Bd) (nm : ByteArray) : -1 ≤ lastB l nm ∧ lastB l nm < l.length := lastN_range l nm _
theorem getN_last (l : List Bd) (nm : ByteArray) : ∀ k : Nat, getN l nm k = if lastN l nm k < 0 then 0 else (l.getD (lastN l nm k).toNat bd0).2
  | 0 => by simp [getN, lastN]
  | k + 1 => by
    unfold getN lastN
    by_cases h : (l.getD k bd0).1 = nm
    · rw [if_pos h, if_pos h, if_neg (by omega)]; simp
    · rw [if_neg h, if_neg h]; exact getN_last l nm k
theorem getB_last (l : List Bd) (nm : ByteArray) : getB l nm = if lastB l nm < 0 then 0 else (l.getD (lastB l nm).toNat bd0).2 := getN_last l nm _
theorem lastN_name (l : List Bd) (nm : ByteArray) : ∀ k : Nat, 0 ≤ lastN l nm k → (l.getD (lastN l nm k).toNat bd0).1 = nm
  | 0, h => by simp [lastN] at h
  | k + 1, h => by
    unfold lastN at h ⊢
    by_cases h' : (l.getD k bd0).1 = nm
    · rw [if_pos h']; simpa using h'
    · rw [if_neg h'] at h ⊢; exact lastN_name l nm k h
theorem lastB_name (l : List Bd) (nm : ByteArray) (h : 0 ≤ lastB l nm) : (l.getD (lastB l nm).toNat bd0).1 = nm := lastN_name l nm _ h

def setB (l : List Bd) (nm : ByteArray) (n : Int) : List Bd := if lastB l nm < 0 then l ++ [(nm, n)] else l.set (lastB l nm).toNat ((l.getD (lastB l nm).toNat bd0).1, n)
/-- All numbers are of 64 bits. -/
def BdOk (l : List Bd) : Prop := ∀ x ∈ l, i6 x.2 ∧ x.1.size ≤ maxLen
theorem BdOk.getD {l : List Bd} (h : BdOk l) (i : Nat) : i6 (l.getD i bd0).2 ∧ (l.getD i bd0).1.size ≤ maxLen := by
  by_cases hi : i < l.length
  · have : l.getD i bd0 = l[i] := by simp [hi]
    rw [this]; exact h _ (by simp)
  · have : l.getD i bd0 = bd0 := by simp [hi]
    rw [this]; exact ⟨by simp [bd0, i6], by show (0 : Nat) ≤ _; omega⟩

/-! ### What the laws of Set ask -/
theorem lastN_congr {l m : List Bd} {nm : ByteArray} : ∀ k : Nat, (∀ i, i < k → (l.getD i bd0).1 = (m.getD i bd0).1) → lastN l nm k = lastN m nm k
  | 0, _ => rfl
  | k + 1, h => by
    unfold lastN
    rw [h k (by omega), lastN_congr k (fun i hi => h i (by omega))]
theorem getN_congr {l m : List Bd} {nm : ByteArray} : ∀ k : Nat, (∀ i, i < k → (l.getD i bd0) = (m.getD i bd0)) → getN l nm k = getN m nm k
  | 0, _ => rfl
  | k + 1, h => by
    unfold getN
    rw [h k (by omega), getN_congr k (fun i hi => h i (by omega))]
theorem setB_len (l : List Bd) (nm : ByteArray) (n : Int) : (setB l nm n).length = if lastB l nm < 0 then l.length + 1 else l.length := by
  unfold setB; split <;> simp
theorem setB_name (l : List Bd) (nm : ByteArray) (n : Int) (i : Nat) (hi : i < l.length) : ((setB l nm n).getD i bd0).1 = (l.getD i bd0).1 := by
  unfold setB
  split
  · simp [List.getElem?_append_left hi]
  · by_cases h : (lastB l nm).toNat = i
    · simp [h, hi]
    · simp [h, hi, List.getElem?_set]
theorem setB_last (l : List Bd) (nm o : ByteArray) (n : Int) : lastB (setB l nm n) o = if lastB l nm < 0 ∧ o = nm then (l.length : Int) else lastB l o := by
  unfold lastB
  rw [setB_len]
  by_cases h : lastB l nm < 0
  · have h' : lastN l nm l.length < 0 := h
    simp only [h, h', if_true, true_and]
    have e : ((setB l nm n).getD l.length bd0).1 = nm := by unfold setB; rw [if_pos h]; simp
    show (if _ then _ else _) = _
    rw [e]
    by_cases ho : nm = o
    · rw [if_pos ho, if_pos ho.symm]
    · rw [if_neg ho, if_neg (fun h => ho h.symm)]
      exact lastN_congr _ (fun i hi => setB_name l nm n i hi)
  · have h' : ¬ lastN l nm l.length < 0 := h
    simp only [h, h', if_false, false_and]
    exact lastN_congr _ (fun i hi => setB_name l nm n i hi)
theorem setB_get (l : List Bd) (nm o : ByteArray) (n : Int) : getB (setB l nm n) o = if o = nm then n else getB l o := by
  have hr := lastB_range l nm
  rw [getB_last, setB_last]
  by_cases h : lastB l nm < 0
  · by_cases ho : o = nm
    · simp only [h, ho, and_self, if_true]
      rw [if_neg (by omega)]
      unfold setB; rw [if_pos h]; simp
    · simp only [h, ho, and_false, if_false]
      rw [getB_last]
      have hro := lastB_range l o
      by_cases h2 : lastB l o < 0
      · rw [if_pos h2, if_pos h2]
      · rw [if_neg h2, if_neg h2]
        unfold setB
        rw [if_pos h]
        have : (lastB l o).toNat < l.length := by omega
        simp [List.getElem?_append_left this]
  · simp only [h, false_and, if_false]
    rw [getB_last l o]
    by_cases ho : o = nm
    · subst ho
      rw [if_neg h, if_pos rfl]
      unfold setB
      rw [if_neg h]
      have : (lastB l o).toNat < l.length := by omega
      simp [this]
    · rw [if_neg ho]
      by_cases h2 : lastB l o < 0
      · rw [if_pos h2, if_pos h2]
      · rw [if_neg h2, if_neg h2]
        unfold setB
        rw [if_neg h]
        have hne : (lastB l nm).toNat ≠ (lastB l o).toNat := by
          intro he
          have h1 := lastB_name l nm (by omega)
          have h3 := lastB_name l o (by omega)
          rw [he] at h1
          exact ho (h3.symm.trans h1)
        have : (lastB l o).toNat < l.length := by have := lastB_range l o; omega
        simp [List.getElem?_set, hne, this]
theorem setB_pos (l : List Bd) (nm : ByteArray) (n : Int) (k : Nat) (h : lastB l nm = k) : setB l nm n = l.set k ((l.getD k bd0).1, n) := by
  unfold setB
  rw [h, if_neg (by omega)]; simp
theorem setB_again (l : List Bd) (nm : ByteArray) (n : Int) : setB (setB l nm n) nm n = setB l nm n := by
  have hr := lastB_range l nm
  have hl := setB_last l nm nm n
  by_cases h : lastB l nm < 0
  · simp only [h, and_self, if_true] at hl
    rw [setB_pos _ _ _ _ hl]
    unfold setB; rw [if_pos h]; simp
  · simp only [h, false_and, if_false] at hl
    obtain ⟨k, hk⟩ : ∃ k : Nat, lastB l nm = k := ⟨(lastB l nm).toNat, by omega⟩
    rw [setB_pos _ _ _ _ (hl.trans hk), setB_name l nm n _ (by omega), setB_pos _ _ _ _ hk]
    simp
end Go.Proofs.YtdcfjopmddaemaaDoor

set_option linter.unusedSimpArgs false
set_option linter.unusedVariables false
namespace Go.Proofs.YtdcfjopmddaemaaDoor
open Go.RowKit Go.Lib

structure BdAt (w : World) (b o : Nat) (x : Bd) : Prop where
  c0 : w.cell? ⟨b, o, none⟩ = some (.string x.1)
  c1 : w.cell? ⟨b, o + 1, none⟩ = some (.int .i64 x.2)
/-- A list of bindings, read. -/
def Bds (w : World) (ao : Option Addr) (cap : Nat) (l : List Bd) : Prop :=
  (l.length ≤ cap ∧ cap ≤ maxLen ∧ (ao = none → cap = 0)) ∧ (l = [] ∨ ∃ b o, ao = some ⟨b, o, none⟩ ∧ b < w.heap.size ∧ ∀ i, i < l.length → BdAt w b (o + i * 2) (l.getD i bd0))
theorem BdAt.below {w w' : World} {b o : Nat} {x : Bd} (h : BdAt w b o x) (hlt : b < w.heap.size) (hb : Below w.heap.size w w') : BdAt w' b o x :=
  ⟨(hb.cell (p := ⟨b, o, none⟩) hlt).trans h.c0, (hb.cell (p := ⟨b, o + 1, none⟩) hlt).trans h.c1⟩
theorem Bds.below {w w' : World} {ao : Option Addr} {cap : Nat} {l : List Bd} (h : Bds w ao cap l) (hb : Below w.heap.size w w') : Bds w' ao cap l := by
  obtain ⟨h1, h2⟩ := h
  refine ⟨h1, ?_⟩
  rcases h2 with h2 | ⟨b, o, rfl, hlt, hc⟩
  · exact .inl h2
  · exact .inr ⟨b, o, rfl, by have := hb.size; omega, fun i hi => (hc i hi).below hlt hb⟩
theorem Bds.at_ {w : World} {ao : Option Addr} {cap : Nat} {l : List Bd} (h : Bds w ao cap l) {i : Nat} (hi : i < l.length) : ∃ b o, ao = some ⟨b, o, none⟩ ∧ b < w.heap.size ∧ BdAt w b (o + i * 2) (l.getD i bd0) := by
  rcases h.2 with h | ⟨b, o, rfl, hb, hc⟩
  · subst h; simp at hi
  · exact ⟨b, o, rfl, hb, hc i hi⟩

def bdCells : List Bd → List Value
  | [] => []
  | x :: r => .string x.1 :: .int .i64 x.2 :: bdCells r
theorem bdCells_length (l : List Bd) : (bdCells l).length = l.length * 2 := by
  induction l with
  | nil => rfl
  | cons a r ih => simp [bdCells, ih]; omega
theorem bdCells_append (l m : List Bd) : bdCells (l ++ m) = bdCells l ++ bdCells m := by
  induction l with
  | nil => rfl
  | cons a r ih => simp [bdCells, ih]
theorem bdCells_at (l : List Bd) (i : Nat) (x : Bd) (h : l[i]? = some x) : (bdCells l)[i * 2]? = some (.string x.1) ∧ (bdCells l)[i * 2 + 1]? = some (.int .i64 x.2) := by
  induction l generalizing i with
  | nil => simp at h
  | cons a r ih =>
    cases i with
    | zero => simp at h; subst h; simp [bdCells]
    | succ i =>
      have := ih i (by simpa using h)
      have e : (i + 1) * 2 = i * 2 + 2 := by omega
      rw [e]
      simpa [bdCells] using this
theorem bdCells_set (l : List Bd) (i : Nat) (n : Int) (hi : i < l.length) : bdCells (l.set i ((l.getD i bd0).1, n)) = (bdCells l).set (i * 2 + 1) (.int .i64 n) := by
  induction l generalizing i with
  | nil => simp at hi
  | cons a r ih =>
    cases i with
    | zero => simp [bdCells]
    | succ i =>
      have := ih i (by simpa using hi)
      have e : (i + 1) * 2 + 1 = (i * 2 + 1) + 2 := by omega
      rw [e]
      simp [bdCells] at this ⊢
      exact this
theorem bdCells_one (l : List Bd) : ∀ u ∈ bdCells l, u.oneCell' = true := by
  induction l with
  | nil => simp [bdCells]
  | cons a r ih =>
    intro u hu
    simp only [bdCells, List.mem_cons] at hu
    rcases hu with rfl | rfl | hu
    · rfl
    · rfl
    · exact ih u hu

/-- Bindings of the call's own. -/
def OwnB (w : World) (base : Nat) (v : Value) (l : List Bd) : Prop := w.ownsRow base 156 2 v l.length (bdCells l)
theorem own_below {w w' : World} {base : Nat} {e : TypeId} {size : Nat} {v : Value} {n : Nat} {xs : List Value} (h : w.ownsRow base e size v n xs) (hb : Below w.heap.size w w') : w'.ownsRow base e size v n xs :=
  World.ownsRow.kept (row := none) h ⟨hb.os, hb.tape, hb.output, hb.size, fun k hk _ => hb.block k hk⟩ (by
    cases hv : v.ownBlock
    · exact .inl rfl
    · exact .inr (by simp))
theorem OwnB.below {w w' : World} {base : Nat} {v : Value} {l : List Bd} (h : OwnB w base v l) (hb : Below w.heap.size w w') : OwnB w' base v l := own_below h hb
theorem OwnB.mono {w : World} {base base' : Nat} {v : Value} {l : List Bd} (h : OwnB w base v l) (hb : base' ≤ base) : OwnB w base' v l := by
  obtain ⟨h1, h2⟩ := h
  refine ⟨h1, ?_⟩
  rcases h2 with h2 | ⟨g, cap, cur, hv, hg, r⟩
  · exact .inl h2
  · exact .inr ⟨g, cap, cur, hv, by omega, r⟩
theorem OwnB_nil (w : World) (base : Nat) : OwnB w base (.slice none 0 0) [] := World.ownsRow_nil _ _ _ _
theorem OwnB.read {w : World} {base : Nat} {v : Value} {l : List Bd} (h : OwnB w base v l) : ∃ ao cap, v = .slice ao l.length cap ∧ Bds w ao cap l ∧ (∀ a, ao = some a → a.off = 0 ∧ a.spot = none ∧ base ≤ a.block) := by
  obtain ⟨h1, h2⟩ := h
  rcases h2 with ⟨rfl, h0⟩ | ⟨g, cap, cur, rfl, hb, hg, hn, hm, hs, ht⟩
  · have : l = [] := List.length_eq_zero_iff.1 h0
    subst this
    exact ⟨none, 0, rfl, ⟨⟨by simp, by simp [maxLen], fun _ => rfl⟩, .inl rfl⟩, by simp⟩
  · refine ⟨_, cap, rfl, ⟨⟨hn, hm, by simp⟩, .inr ⟨g, 0, rfl, lt_of_block hg, fun i hi => ?_⟩⟩, fun a ha => by cases ha; exact ⟨rfl, rfl, hb⟩⟩
    have hx : l[i]? = some (l.getD i bd0) := by simp [hi]
    obtain ⟨a0, a1⟩ := bdCells_at l i _ hx
    have hc : ∀ j, j < l.length * 2 → w.cell? ⟨g, j, none⟩ = (bdCells l)[j]? := by
      intro j hj
      have : w.cell? ⟨g, j, none⟩ = cur[j]? := by simp [World.cell?, hg]
      rw [this, ← Array.getElem?_toList, ← ht, List.getElem?_take, if_pos (by omega)]
    exact ⟨by rw [Nat.zero_add, hc _ (by omega), a0], by rw [Nat.zero_add, hc _ (by omega), a1]⟩
theorem Tryd.infoBind : (Tryd.prog.info? 156).map (fun i => (i.zero, i.size, i.bytes)) = some (some (.agg #[.string ⟨#[]⟩, .int .i64 0]), 2, 24) := by kernel_rfl
/-- The cells of a list that is read, as a source of append. -/
theorem Bds.src {w : World} {ao : Option Addr} {cap : Nat} {l : List Bd} (h : Bds w ao cap l) : ∀ ad, ao = some ad → ∀ j u, (bdCells l)[j]? = some u → w.cell? (ad.add j) = some u := by
  intro ad had j u hj
  have hjl : j < l.length * 2 := by
    have := (List.getElem?_eq_some_iff.1 hj).1
    rw [bdCells_length] at this; exact this
  obtain ⟨b, o, h1, hb, hc⟩ := h.at_ (i := j / 2) (by omega)
  rw [had] at h1
  cases h1
  have hx : l[j / 2]? = some (l.getD (j / 2) bd0) := by
    have : j / 2 < l.length := by omega
    simp [this]
  obtain ⟨a0, a1⟩ := bdCells_at l _ _ hx
  rw [Go.WideShapes.add_plain]
  rcases Nat.mod_two_eq_zero_or_one j with hr | hr
  · have e : j = j / 2 * 2 := by omega
    rw [← e] at a0
    have e' : o + j / 2 * 2 = o + j := by omega
    have := hc.c0
    rw [e'] at this
    rw [this, ← hj, a0]
  · have e : j = j / 2 * 2 + 1 := by omega
    rw [← e] at a1
    have e' : o + j / 2 * 2 + 1 = o + j := by omega
    have := hc.c1
    rw [e'] at this
    rw [this, ← hj, a1]
theorem OwnB.form {w : World} {base : Nat} {v : Value} {l : List Bd} (h : OwnB w base v l) : ∃ ao cap, v = .slice ao l.length cap := let ⟨ao, cap, h1, _⟩ := h.read; ⟨ao, cap, h1⟩
/-- Behind a store into one binding's number. -/
theorem OwnB.put {w : World} {base g cap : Nat} {l : List Bd} (h : OwnB w base (.slice (some ⟨g, 0, none⟩) l.length cap) l) (i : Nat) (hi : i < l.length) (n : Int) :
    OwnB (w.setCell ⟨g, i * 2 + 1, none⟩ (.int .i64 n)) base (.slice (some ⟨g, 0, none⟩) l.length cap) (l.set i ((l.getD i bd0).1, n)) := by
  obtain ⟨h1, h2⟩ := h
  refine ⟨by rw [bdCells_length, List.length_set], ?_⟩
  rcases h2 with ⟨h2, _⟩ | ⟨g', cap', cur, h3, hb, hg, hn, hm, hs, ht⟩
  · cases h2
  · cases h3
    refine .inr ⟨g, cap, cur.setIfInBounds (i * 2 + 1) (.int .i64 n), by simp, hb, heap_setCell_same w g _ cur _ _ hg, by simpa using hn, hm, by simpa using hs, ?_⟩
    rw [bdCells_set l i n hi, ← ht]
    simp [List.take_set]
end Go.Proofs.YtdcfjopmddaemaaDoor
