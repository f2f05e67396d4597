/-
  What a Swap comes to, and rows whose cells are set.
-/
import Derived.Test.YtkdcjkhpbbcncaaDoorExRdW
import Derived.Test.YtkdcjkhpbbcncaaDoorExAddP
set_option linter.unusedSimpArgs false
set_option linter.unusedVariables false
namespace Go.Proofs.YtkdcjkhpbbcncaaDoor
open Go.RowKit Go.Lib

/-- The names of the variables, in the order of the nodes. -/
def vsL (l : List Nd) : List ByteArray := (l.filter (fun x => decide (x.op = 2))).map (·.name)
def cntV (l : List Nd) (k : Nat) : Nat := (vsL (l.take k)).length
/-- The answer at question number n. -/
def ansS (names : List ByteArray) (n : Nat) (nm : ByteArray) : ByteArray := if n ≤ names.length then names.getD (n - 1) ⟨#[]⟩ else nm
def FineAt (l : List Nd) (names : List ByteArray) (stop : Int) (j : Nat) : Prop :=
  (l.getD j nd0).op = 2 → ((cntV l j + 1 : Nat) : Int) ≠ stop ∧ nameB (ansS names (cntV l j + 1) (l.getD j nd0).name) = true
def swN (names : List ByteArray) (n : Nat) (x : Nd) : Nd := if x.op = 2 then { x with name := ansS names (n + 1) x.name } else x
/-- With the first k places asked for. -/
def swL (l : List Nd) (names : List ByteArray) (k : Nat) : List Nd := (List.range l.length).map fun j => if j < k then swN names (cntV l j) (l.getD j nd0) else l.getD j nd0

theorem swL_len (l : List Nd) (names : List ByteArray) (k : Nat) : (swL l names k).length = l.length := by simp [swL]
theorem swL_at (l : List Nd) (names : List ByteArray) (k j : Nat) (h : j < l.length) : (swL l names k).getD j nd0 = if j < k then swN names (cntV l j) (l.getD j nd0) else l.getD j nd0 := by
  simp [swL, h]
theorem swL_zero (l : List Nd) (names : List ByteArray) : swL l names 0 = l := by
  apply ext_getD (by simp [swL])
  intro j hj
  rw [swL_len] at hj
  rw [swL_at _ _ _ _ hj, if_neg (by omega)]
theorem swL_succ (l : List Nd) (names : List ByteArray) (k : Nat) (h : k < l.length) : swL l names (k + 1) = (swL l names k).set k (swN names (cntV l k) (l.getD k nd0)) := by
  apply ext_getD (by simp [swL])
  intro j hj
  rw [swL_len] at hj
  rw [swL_at _ _ _ _ hj]
  by_cases e : j = k
  · subst e
    rw [if_pos (by omega)]
    simp [swL_len, hj]
  · have h1 : ((swL l names k).set k (swN names (cntV l k) (l.getD k nd0))).getD j nd0 = (swL l names k).getD j nd0 := by
      simp only [List.getD_eq_getElem?_getD]; rw [List.getElem?_set_ne (by omega)]
    rw [h1, swL_at _ _ _ _ hj]
    by_cases h2 : j < k
    · rw [if_pos (by omega), if_pos h2]
    · rw [if_neg (by omega), if_neg h2]
theorem swL_not (l : List Nd) (names : List ByteArray) (k : Nat) (h : k < l.length) (hn : (l.getD k nd0).op ≠ 2) : swL l names (k + 1) = swL l names k := by
  apply ext_getD (by simp [swL])
  intro j hj
  rw [swL_len] at hj
  rw [swL_at _ _ _ _ hj, swL_at _ _ _ _ hj]
  by_cases e : j = k
  · subst e
    rw [if_pos (by omega), if_neg (by omega)]
    unfold swN; rw [if_neg hn]
  · by_cases h2 : j < k
    · rw [if_pos (by omega), if_pos h2]
    · rw [if_neg (by omega), if_neg h2]

theorem vsL_succ (l : List Nd) (k : Nat) (h : k < l.length) : vsL (l.take (k + 1)) = vsL (l.take k) ++ (if (l.getD k nd0).op = 2 then [(l.getD k nd0).name] else []) := by
  have e : l.take (k + 1) = l.take k ++ [l.getD k nd0] := by rw [List.take_succ_eq_append_getElem h]; simp [h]
  rw [e]
  unfold vsL
  rw [List.filter_append, List.map_append]
  congr 1
  generalize l.getD k nd0 = x
  by_cases h2 : x.op = 2
  · rw [if_pos h2]; simp [h2]
  · rw [if_neg h2]; simp [h2]
theorem vsL_le (l : List Nd) : (vsL l).length ≤ l.length := by
  unfold vsL; rw [List.length_map]; exact List.length_filter_le _ _
theorem cntV_le (l : List Nd) (k : Nat) : cntV l k ≤ k := by
  unfold cntV
  have := vsL_le (l.take k)
  simp at this; omega

/-- One cell of an owned row is set. -/
theorem own_put {w : World} {base : Nat} {e : TypeId} {s n g cap : Nat} {xs : List Value} {i : Nat} {u : Value} (h : w.ownsRow base e s (.slice (some ⟨g, 0, none⟩) n cap) n xs) (hi : i < xs.length) : (w.setCell ⟨g, i, none⟩ u).ownsRow base e s (.slice (some ⟨g, 0, none⟩) n cap) n (xs.set i u) := by
  obtain ⟨h1, h2⟩ := h
  refine ⟨by simpa using h1, ?_⟩
  rcases h2 with ⟨h2, _⟩ | ⟨g', cap', cur, h3, hb, hg, hn, hm, hs, ht⟩
  · cases h2
  · cases h3
    refine .inr ⟨g, cap, cur.setIfInBounds i u, rfl, hb, heap_setCell_same w g i cur e u hg, hn, hm, by simpa using hs, ?_⟩
    rw [← ht]
    simp [List.take_set]

theorem ndCells_set (p : List (Nd × Value)) (k : Nat) (x : Nd) (kv : Value) (s : ByteArray) (h : p[k]? = some (x, kv)) : ndCells (p.set k ({ x with name := s }, kv)) = (ndCells p).set (k * 4 + 2) (.string s) := by
  induction p generalizing k with
  | nil => simp at h
  | cons a r ih =>
    obtain ⟨y, kw⟩ := a
    cases k with
    | zero =>
      simp at h
      obtain ⟨rfl, rfl⟩ := h
      simp [ndCells]
    | succ k =>
      have := ih k (by simpa using h)
      have e : (k + 1) * 4 + 2 = (k * 4 + 2) + 4 := by omega
      rw [e]
      simp [ndCells, this]

theorem own_block' {w : World} {base : Nat} {e : TypeId} {s n : Nat} {v : Value} {xs : List Value} (h : w.ownsRow base e s v n xs) : ∀ b, v.ownBlock = some b → base ≤ b ∧ b < w.heap.size := by
  intro b hb
  rcases h.2 with ⟨rfl, _⟩ | ⟨g, cap, cur, rfl, h1, h2, _⟩
  · cases hb
  · simp [Value.ownBlock] at hb; subst hb; exact ⟨h1, lt_of_block h2⟩
theorem own_same' {w w' : World} {base : Nat} {e : TypeId} {s n : Nat} {v : Value} {xs : List Value} (h : w.ownsRow base e s v n xs) (hb : ∀ b, v.ownBlock = some b → w'.heap[b]? = w.heap[b]?) : w'.ownsRow base e s v n xs := by
  rcases h with ⟨h1, h2⟩
  refine ⟨h1, ?_⟩
  rcases h2 with h2 | ⟨g, cap, cur, rfl, hg, h3, r⟩
  · exact .inl h2
  · exact .inr ⟨g, cap, cur, rfl, hg, (hb g rfl).trans h3, r⟩
theorem row_form' {w : World} {base : Nat} {e : TypeId} {s n : Nat} {v : Value} {xs : List Value} (h : w.ownsRow base e s v n xs) : ∃ ao cap, v = .slice ao n cap := by
  rcases h.2 with ⟨rfl, h0⟩ | ⟨g', cap', cur, rfl, _⟩
  · exact ⟨none, 0, by rw [h0]⟩
  · exact ⟨_, _, rfl⟩

theorem own_set' {w : World} {base p o : Nat} {e : TypeId} {s n : Nat} {v u : Value} {xs : List Value} (h : w.ownsRow base e s v n xs) (hp : v.ownBlock ≠ some p) : (w.setCell ⟨p, o, none⟩ u).ownsRow base e s v n xs :=
  own_same' h fun b hb => Deep.blk_setCell_other _ _ _ _ (by show b ≠ p; intro e; subst e; exact hp hb)

/-- The names' list, the number to stop at: where the function finds them. -/
structure Cst (w : World) (A Sb Nb : Nat) (stop : Int) (na : Option Addr) (nc : Nat) (names : List ByteArray) : Prop where
  sb : Sb < A
  nb : Nb < A
  stopC : w.cell? ⟨Sb, 0, none⟩ = some (.int .i64 stop)
  namesC : w.cell? ⟨Nb, 0, none⟩ = some (.slice na names.length nc)
  len : names.length ≤ nc ∧ nc ≤ maxLen
  row : names = [] ∨ ∃ b o, na = some ⟨b, o, none⟩ ∧ b < A ∧ ∀ j, j < names.length → w.cell? ⟨b, o + j, none⟩ = some (.string (names.getD j ⟨#[]⟩))
theorem Cst.below {w w' : World} {A Sb Nb : Nat} {stop : Int} {na : Option Addr} {nc : Nat} {names : List ByteArray} (h : Cst w A Sb Nb stop na nc names) (hb : Below A w w') : Cst w' A Sb Nb stop na nc names :=
  ⟨h.sb, h.nb, (hb.cell (p := ⟨Sb, 0, none⟩) h.sb).trans h.stopC, (hb.cell (p := ⟨Nb, 0, none⟩) h.nb).trans h.namesC, h.len, by
    rcases h.row with h | ⟨b, o, e, hlt, hc⟩
    · exact .inl h
    · exact .inr ⟨b, o, e, hlt, fun j hj => (hb.cell (p := ⟨b, o + j, none⟩) hlt).trans (hc j hj)⟩⟩

/-- What has been asked. -/
structure AskAt (w : World) (A : Nat) (va : Value) (qs : List ByteArray) : Prop where
  blk : w.heap[A]? = some (.cells #[va] 33 (0, 0))
  row : w.ownsRow (A + 1) 9 1 va qs.length (qs.map Value.string)
theorem AskAt.below {w w' : World} {A : Nat} {va : Value} {qs : List ByteArray} (h : AskAt w A va qs) (hb : Below w.heap.size w w') : AskAt w' A va qs :=
  ⟨(hb.block _ (lt_of_block h.blk)).trans h.blk, ownsRow_below h.row hb⟩

/-- What a question leaves. -/
structure FrA (w w' : World) (A : Nat) (va va' : Value) : Prop where
  os : w'.os = w.os
  tape : w'.tape = w.tape
  output : w'.output = w.output
  size : w.heap.size ≤ w'.heap.size
  same : ∀ b, b < w.heap.size → b ≠ A → va.ownBlock ≠ some b → w'.heap[b]? = w.heap[b]?
  yo : ∀ b, va'.ownBlock = some b → va.ownBlock = some b ∨ w.heap.size ≤ b
theorem FrA.under {w w' : World} {A : Nat} {va va' : Value} {qs : List ByteArray} (h : FrA w w' A va va') (ha : AskAt w A va qs) : Below A w w' :=
  ⟨h.os, h.tape, h.output, h.size, fun b hb => h.same b (by have := lt_of_block ha.blk; omega) (by omega) (fun e => by have := (own_block' ha.row b e).1; omega)⟩

theorem row_cell {w : World} {base : Nat} {e : TypeId} {v : Value} {n : Nat} {xs : List Value} (h : w.ownsRow base e 1 v n xs) {i : Nat} (hi : i < n) {d : Value} : ∃ g cap, v = .slice (some ⟨g, 0, none⟩) n cap ∧ g < w.heap.size ∧ n ≤ cap ∧ cap ≤ maxLen ∧ w.cell? ⟨g, i, none⟩ = some (xs.getD i d) := by
  obtain ⟨h1, h2⟩ := h
  rcases h2 with ⟨rfl, h0⟩ | ⟨g, cap, cur, rfl, hb, hg, hn, hm, hs, ht⟩
  · omega
  · refine ⟨g, cap, rfl, lt_of_block hg, hn, hm, ?_⟩
    have hc : w.cell? ⟨g, i, none⟩ = cur[i]? := by simp [World.cell?, hg]
    rw [hc, ← Array.getElem?_toList]
    have e : cur.toList[i]? = (cur.toList.take (n * 1))[i]? := by rw [List.getElem?_take, if_pos (by omega)]
    rw [e, ht]
    simp [show i < xs.length by omega]
end Go.Proofs.YtkdcjkhpbbcncaaDoor
