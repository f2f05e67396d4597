/-
  SwPure, SnW, StrMem.
-/
import Derived.Shelf.Unicode.DecodeSlow
import Derived.Laws.RangeAny
import Derived.Shelf.Strconv.Itoa0
import Derived.Shelf.Unicode.DecodeAny
import Derived.Test.YtfdghbbanokopaaDoorProg
import Derived.WalkKit
import Derived.Deep.DeepFit
import Derived.Lib.OthersKept
import Derived.Lib.RuneCountTail
import Derived.Deep.AppendLies
import Derived.Deep.OwnRows
import Derived.Laws.AppendOwnNone
import Derived.Deep.QuietTactic
import Derived.BigQuiet
import Derived.Deep.RegionWith
import Derived.Laws.DeepStrings4
import Derived.Lib.MapLaws
import Derived.Sort.Walk0
import Derived.Lib.ItoaNum
import Derived.Maps.OwnSet
import Derived.StringKeys
import Derived.Deep.Slices
import Derived.Test.YtfdghbbanokopaaDoorD01
import Derived.Test.YtfdghbbanokopaaDoorD02
import Derived.Test.YtfdghbbanokopaaDoorD03
import Derived.Test.YtfdghbbanokopaaDoorD04
import Derived.Test.YtfdghbbanokopaaDoorD05
import Derived.Test.YtfdghbbanokopaaDoorD06
import Derived.Test.YtfdghbbanokopaaDoorD08
import Derived.Test.YtfdghbbanokopaaDoorD09
set_option linter.unusedSimpArgs false
set_option linter.unusedVariables false
namespace Go.Proofs.YtfdghbbanokopaaDoor
open Go.RowKit Go.Lib

/-- One cell of an owned row is set. -/
theorem own_put {w : World} {base : Nat} {e : TypeId} {s n g cap : Nat} {xs : List Value} {i : Nat} {u : Value} (h : w.ownsRow base e s (.slice (some ⟨g, 0, none⟩) n cap) n xs) (hi : i < xs.length) : (w.setCell ⟨g, i, none⟩ u).ownsRow base e s (.slice (some ⟨g, 0, none⟩) n cap) n (xs.set i u) := by
  obtain ⟨h1, h2⟩ := h
  refine ⟨by simpa using h1, ?_⟩
  rcases h2 with ⟨h2, _⟩ | ⟨g', cap', cur, h3, hb, hg, hn, hm, hs, ht⟩
  · cases h2
  · cases h3
    refine .inr ⟨g, cap, cur.setIfInBounds i u, rfl, hb, heap_setCell_same w g i cur e u hg, hn, hm, by simpa using hs, ?_⟩
    rw [← ht]
    simp [List.take_set]

theorem own_block' {w : World} {base : Nat} {e : TypeId} {s n : Nat} {v : Value} {xs : List Value} (h : w.ownsRow base e s v n xs) : ∀ b, v.ownBlock = some b → base ≤ b ∧ b < w.heap.size := by
  intro b hb
  rcases h.2 with ⟨rfl, _⟩ | ⟨g, cap, cur, rfl, h1, h2, _⟩
  · cases hb
  · simp [Value.ownBlock] at hb; subst hb; exact ⟨h1, lt_of_block h2⟩
theorem own_same' {w w' : World} {base : Nat} {e : TypeId} {s n : Nat} {v : Value} {xs : List Value} (h : w.ownsRow base e s v n xs) (hb : ∀ b, v.ownBlock = some b → w'.heap[b]? = w.heap[b]?) : w'.ownsRow base e s v n xs := by
  rcases h with ⟨h1, h2⟩
  refine ⟨h1, ?_⟩
  rcases h2 with h2 | ⟨g, cap, cur, rfl, hg, h3, r⟩
  · exact .inl h2
  · exact .inr ⟨g, cap, cur, rfl, hg, (hb g rfl).trans h3, r⟩
theorem row_form' {w : World} {base : Nat} {e : TypeId} {s n : Nat} {v : Value} {xs : List Value} (h : w.ownsRow base e s v n xs) : ∃ ao cap, v = .slice ao n cap := by
  rcases h.2 with ⟨rfl, h0⟩ | ⟨g', cap', cur, rfl, _⟩
  · exact ⟨none, 0, by rw [h0]⟩
  · exact ⟨_, _, rfl⟩

theorem own_set' {w : World} {base p o : Nat} {e : TypeId} {s n : Nat} {v u : Value} {xs : List Value} (h : w.ownsRow base e s v n xs) (hp : v.ownBlock ≠ some p) : (w.setCell ⟨p, o, none⟩ u).ownsRow base e s v n xs :=
  own_same' h fun b hb => Deep.blk_setCell_other _ _ _ _ (by show b ≠ p; intro e; subst e; exact hp hb)

/-- The names' list, the number to stop at: where the function finds them. -/
structure Cst (w : World) (A Sb Nb : Nat) (stop : Int) (na : Option Addr) (nc : Nat) (names : List ByteArray) : Prop where
  sb : Sb < A
  nb : Nb < A
  stopC : w.cell? ⟨Sb, 0, none⟩ = some (.int .i64 stop)
  namesC : w.cell? ⟨Nb, 0, none⟩ = some (.slice na names.length nc)
  len : names.length ≤ nc ∧ nc ≤ maxLen
  row : names = [] ∨ ∃ b o, na = some ⟨b, o, none⟩ ∧ b < A ∧ ∀ j, j < names.length → w.cell? ⟨b, o + j, none⟩ = some (.string (names.getD j ⟨#[]⟩))
theorem Cst.below {w w' : World} {A Sb Nb : Nat} {stop : Int} {na : Option Addr} {nc : Nat} {names : List ByteArray} (h : Cst w A Sb Nb stop na nc names) (hb : Below A w w') : Cst w' A Sb Nb stop na nc names :=
  ⟨h.sb, h.nb, (hb.cell (p := ⟨Sb, 0, none⟩) h.sb).trans h.stopC, (hb.cell (p := ⟨Nb, 0, none⟩) h.nb).trans h.namesC, h.len, by
    rcases h.row with h | ⟨b, o, e, hlt, hc⟩
    · exact .inl h
    · exact .inr ⟨b, o, e, hlt, fun j hj => (hb.cell (p := ⟨b, o + j, none⟩) hlt).trans (hc j hj)⟩⟩

/-- What has been asked. -/
structure AskAt (w : World) (A : Nat) (va : Value) (qs : List ByteArray) : Prop where
  blk : w.heap[A]? = some (.cells #[va] 33 (0, 0))
  row : w.ownsRow (A + 1) 9 1 va qs.length (qs.map Value.string)
theorem AskAt.below {w w' : World} {A : Nat} {va : Value} {qs : List ByteArray} (h : AskAt w A va qs) (hb : Below w.heap.size w w') : AskAt w' A va qs :=
  ⟨(hb.block _ (lt_of_block h.blk)).trans h.blk, ownsRow_below h.row hb⟩

theorem row_cell {w : World} {base : Nat} {e : TypeId} {v : Value} {n : Nat} {xs : List Value} (h : w.ownsRow base e 1 v n xs) {i : Nat} (hi : i < n) {d : Value} : ∃ g cap, v = .slice (some ⟨g, 0, none⟩) n cap ∧ g < w.heap.size ∧ n ≤ cap ∧ cap ≤ maxLen ∧ w.cell? ⟨g, i, none⟩ = some (xs.getD i d) := by
  obtain ⟨h1, h2⟩ := h
  rcases h2 with ⟨rfl, h0⟩ | ⟨g, cap, cur, rfl, hb, hg, hn, hm, hs, ht⟩
  · omega
  · refine ⟨g, cap, rfl, lt_of_block hg, hn, hm, ?_⟩
    have hc : w.cell? ⟨g, i, none⟩ = cur[i]? := by simp [World.cell?, hg]
    rw [hc, ← Array.getElem?_toList]
    have e : cur.toList[i]? = (cur.toList.take (n * 1))[i]? := by rw [List.getElem?_take, if_pos (by omega)]
    rw [e, ht]
    simp [show i < xs.length by omega]
end Go.Proofs.YtfdghbbanokopaaDoor

set_option linter.unusedSimpArgs false
set_option linter.unusedVariables false
namespace Go.Proofs.YtfdghbbanokopaaDoor
open Go.RowKit Go.Lib Go.Maps Go.Deep

/-- Nodes of the call's own whose kids are others'. -/
structure ClN (w : World) (base B : Nat) (v : Value) (p : List (Nd × Value)) : Prop where
  row : w.ownsRow base 50 4 v p.length (ndCells p)
  kids : ∀ q ∈ p, Ints w B q.2 q.1.kids
theorem ClN.nodes {w : World} {base B C : Nat} {v : Value} {p : List (Nd × Value)} (h : ClN w base B v p) (hB : w.heap.size ≤ C) (hC : B ≤ C) : Nodes w C v (p.map (·.1)) := by
  obtain ⟨h1, h2⟩ := h.row
  rcases h2 with ⟨rfl, h0⟩ | ⟨g, cap, cur, rfl, hb, hg, hn, hm, hs, ht⟩
  · have : p = [] := List.length_eq_zero_iff.1 h0
    subst this
    exact ⟨none, 0, rfl, by simp, by simp, .inl rfl⟩
  · refine ⟨_, cap, by simp, by simpa using hn, hm, .inr ⟨g, 0, rfl, ?_, fun i hi => ?_⟩⟩
    · have := lt_of_block hg; omega
    · simp at hi
      have hp : p[i]? = some (p[i].1, p[i].2) := by simp [hi]
      have hx : (p.map (·.1)).getD i nd0 = p[i].1 := by simp [hi]
      obtain ⟨a0, a1, a2, a3⟩ := ndCells_at p i _ _ hp
      have hc : ∀ j, j < p.length * 4 → w.cell? ⟨g, j, none⟩ = (ndCells p)[j]? := by
        intro j hj
        have : w.cell? ⟨g, j, none⟩ = cur[j]? := by simp [World.cell?, hg]
        rw [this, ← Array.getElem?_toList, ← ht, List.getElem?_take, if_pos (by omega)]
      rw [hx]
      refine ⟨p[i].2, ?_, ?_, ?_, ?_, ?_⟩
      · rw [Nat.zero_add, hc _ (by omega), a0]
      · rw [Nat.zero_add, hc _ (by omega), a1]
      · rw [Nat.zero_add, hc _ (by omega), a2]
      · rw [Nat.zero_add, hc _ (by omega), a3]
      · exact (h.kids p[i] (by simp)).mono hC

theorem eql_nilN (ao : Option Addr) (n c : Nat) (w : World) : (binOp .eql 22 (.slice ao n c) (.slice none 0 0)).run Tryd.prog w = .ok (.bool ao.isNone) w := by
  cases ao <;> kernel_rfl

theorem nd_one {w : World} {B b o : Nat} {l : List Nd} (h : ∀ i, i < l.length → ∃ kv, NodeAt w B b (o + i * 4) (l.getD i nd0) kv) : ∃ p : List (Nd × Value), p.map (·.1) = l ∧ (∀ q ∈ p, Ints w B q.2 q.1.kids) ∧ ∀ j u, (ndCells p)[j]? = some u → w.cell? ⟨b, o + j, none⟩ = some u := by
  have : Inhabited Value := ⟨.slice none 0 0⟩
  obtain ⟨kf, hk⟩ := choose_lt h
  refine ⟨(List.range l.length).map fun i => (l.getD i nd0, kf i), ?_, ?_, ?_⟩
  · apply List.ext_getElem?
    intro i
    by_cases hi : i < l.length
    · simp [hi]
    · simp [hi]
  · intro q hq
    obtain ⟨i, hi, rfl⟩ := List.mem_map.1 hq
    rw [List.mem_range] at hi
    exact (hk i hi).kids
  · intro j u hj
    have hjl : j < l.length * 4 := by
      have := (List.getElem?_eq_some_iff.1 hj).1
      rw [ndCells_length] at this; simpa using this
    have hi : j / 4 < l.length := by omega
    have hp : ((List.range l.length).map fun i => (l.getD i nd0, kf i))[j / 4]? = some (l.getD (j / 4) nd0, kf (j / 4)) := by simp [hi]
    obtain ⟨a0, a1, a2, a3⟩ := ndCells_at _ _ _ _ hp
    have hN := hk (j / 4) hi
    have hr : j % 4 = 0 ∨ j % 4 = 1 ∨ j % 4 = 2 ∨ j % 4 = 3 := by omega
    rcases hr with hr | hr | hr | hr
    · have e : j = j / 4 * 4 := by omega
      rw [← e] at a0
      rw [a0] at hj; cases hj
      have := hN.c0; rw [← e] at this; exact this
    · have e : j = j / 4 * 4 + 1 := by omega
      rw [← e] at a1
      rw [a1] at hj; cases hj
      have := hN.c1; rw [Nat.add_assoc, ← e] at this; exact this
    · have e : j = j / 4 * 4 + 2 := by omega
      rw [← e] at a2
      rw [a2] at hj; cases hj
      have := hN.c2; rw [Nat.add_assoc, ← e] at this; exact this
    · have e : j = j / 4 * 4 + 3 := by omega
      rw [← e] at a3
      rw [a3] at hj; cases hj
      have := hN.c3; rw [Nat.add_assoc, ← e] at this; exact this

theorem nd_cell1 {p : List (Nd × Value)} (h : ∀ q ∈ p, ∃ a n c, q.2 = .slice a n c) : ∀ u ∈ ndCells p, u.oneCell' = true := by
  induction p with
  | nil => simp [ndCells]
  | cons a r ih =>
    obtain ⟨x, kv⟩ := a
    obtain ⟨ka, kn, kc, rfl⟩ := h (x, kv) (by simp)
    intro u hu
    simp only [ndCells, List.mem_cons] at hu
    rcases hu with rfl | rfl | rfl | rfl | hu
    · rfl
    · rfl
    · rfl
    · rfl
    · exact ih (fun q hq => h q (List.mem_cons_of_mem _ hq)) u hu

theorem ndCells_op (p : List (Nd × Value)) (k : Nat) (x : Nd) (kv : Value) (z : Int) (h : p[k]? = some (x, kv)) : ndCells (p.set k ({ x with op := z }, kv)) = (ndCells p).set (k * 4) (.int .i64 z) := by
  induction p generalizing k with
  | nil => simp at h
  | cons a r ih =>
    obtain ⟨y, kw⟩ := a
    cases k with
    | zero =>
      simp at h
      obtain ⟨rfl, rfl⟩ := h
      simp [ndCells]
    | succ k =>
      have := ih k (by simpa using h)
      have e : (k + 1) * 4 = k * 4 + 4 := by omega
      rw [e]
      simp [ndCells, this]

/-- Between two nodes: those ahead of k are filled. -/
structure SnMid (w : World) (l : List Nd) (M : Nat) (v : Value) (k : Nat) (wr : World) : Prop where
  p : ∃ p, p.map (·.1) = (l.take k).map fillN ++ l.drop k ∧ ClN wr w.heap.size w.heap.size v p
  map : ∃ n, n ≤ k ∧ CntM wr M n (hlsL (l.take k))
  below : Below w.heap.size w wr
  le : w.heap.size ≤ M

theorem fill_step {l : List Nd} {k : Nat} (hk : k < l.length) (h : (l.getD k nd0).op ≠ 18) : (l.take (k + 1)).map fillN ++ l.drop (k + 1) = (l.take k).map fillN ++ l.drop k := by
  rw [List.take_succ_eq_append_getElem hk, List.map_append, List.drop_eq_getElem_cons hk]
  have e : l.getD k nd0 = l[k] := by simp [hk]
  rw [e] at h
  simp [fillN, h]
theorem SnMid.skip {w : World} {l : List Nd} {M : Nat} {v : Value} {k : Nat} {wr : World} (h : SnMid w l M v k wr) (hk : k < l.length) (hop : (l.getD k nd0).op ≠ 18) (o : Obj) : SnMid w l M v (k + 1) (wr.alloc o) := by
  obtain ⟨⟨p, hp, hc⟩, ⟨n, hn, hm⟩, hb, hle⟩ := h
  have hs := hb.size
  refine ⟨⟨p, by rw [fill_step hk hop]; exact hp, hc.row.alloc _, fun q hq => (hc.kids q hq).below (((Below.refl _ _).alloc hs _)) (Nat.le_refl _)⟩, ⟨n, by omega, ?_⟩, hb.alloc hs _, hle⟩
  have e : hlsL (l.take (k + 1)) = hlsL (l.take k) := by
    rw [List.take_succ_eq_append_getElem hk, hlsL_snoc]
    have e : l.getD k nd0 = l[k] := by simp [hk]
    rw [e] at hop
    simp [addNm, hop]
  rw [e]; exact hm.alloc _

/-- The cell that is set. -/
theorem SnMid.at_ {w : World} {l : List Nd} {M : Nat} {v : Value} {k : Nat} {wr : World} (h : SnMid w l M v k wr) (hk : k < l.length) : ∃ g cap, v = .slice (some ⟨g, 0, none⟩) l.length cap ∧ w.heap.size ≤ g ∧ g < wr.heap.size ∧ g ≠ M ∧ l.length ≤ cap ∧ cap ≤ maxLen ∧ (∃ c, wr.cell? ⟨g, k * 4, none⟩ = some (.int .i64 c)) ∧ wr.frozen? ⟨g, k * 4, none⟩ = false := by
  obtain ⟨⟨p, hp, hc⟩, ⟨n, hn, hm⟩, hb, hle⟩ := h
  have hpl : p.length = l.length := by have := congrArg List.length hp; simp at this; omega
  rcases hc.row.2 with ⟨rfl, h0⟩ | ⟨g, cap, cur, rfl, hg0, hg, h1, h2, h3, h4⟩
  · omega
  · refine ⟨g, cap, by rw [hpl], hg0, lt_of_block hg, ?_, by omega, h2, ?_, frozen_of_heap hg _⟩
    · rintro rfl
      obtain ⟨D, ⟨es, c, h5, _⟩, _⟩ := hm
      rw [hg] at h5; cases h5
    · have hp2 : p[k]? = some (p[k].1, p[k].2) := by simp [hpl, hk]
      have := (ndCells_at p k _ _ hp2).1
      refine ⟨p[k].1.op, ?_⟩
      rw [cell_of_heap hg, ← Array.getElem?_toList, ← this, ← h4, List.getElem?_take, if_pos (by omega)]

theorem SnMid.fill {w : World} {l : List Nd} {M : Nat} {g cap : Nat} {k : Nat} {wr w' : World} {o : Obj} {n : Nat} (h : SnMid w l M (.slice (some ⟨g, 0, none⟩) l.length cap) k wr) (hk : k < l.length) (hop : (l.getD k nd0).op = 18) (hn : n ≤ k)
    (hm : CntM w' M (n + 1) (if (hlsL (l.take k)).any (fun y => decide (y = (l.getD k nd0).name)) = true then hlsL (l.take k) else hlsL (l.take k) ++ [(l.getD k nd0).name])) (hg : (wr.alloc o).grownBy w' (some M)) : SnMid w l M (.slice (some ⟨g, 0, none⟩) l.length cap) (k + 1) (w'.setCell ⟨g, k * 4, none⟩ (.int .i64 2)) := by
  obtain ⟨g', cap', e1, hg0, hgl, hgM, _⟩ := h.at_ hk
  cases e1
  obtain ⟨⟨p, hp, hc⟩, _, hb, hle⟩ := h
  have hs := hb.size
  have hpl : p.length = l.length := by have := congrArg List.length hp; simp at this; omega
  have hbA : Below w.heap.size w (wr.alloc o) := hb.alloc hs _
  have hb' : Below w.heap.size w w' := hbA.grown hg (by simp; omega) (fun k hk => by cases hk; exact hle)
  have hb2 : Below w.heap.size wr w' := ((Below.refl _ _).alloc hs _).grown hg (by simp; omega) (fun k hk => by cases hk; exact hle)
  have e : l.getD k nd0 = l[k] := by simp [hk]
  have hx : ((l.take k).map fillN ++ l.drop k)[k]? = some l[k] := by
    rw [List.getElem?_append_right (by simp; omega)]
    have : k - ((l.take k).map fillN).length = 0 := by simp; omega
    rw [this]; simp [hk]
  have hpk : p[k]? = some (l[k], (p.getD k (nd0, .slice none 0 0)).2) := by
    have hkp : k < p.length := by omega
    have : (p.map (·.1))[k]? = some l[k] := by rw [hp]; exact hx
    simp [hkp] at this
    simp [hkp, ← this]
  have hrow : w'.ownsRow w.heap.size 50 4 (.slice (some ⟨g, 0, none⟩) l.length cap) l.length (ndCells p) := by
    have h1 := World.ownsRow.kept (hc.row.alloc o) hg (.inr (by simp [Value.ownBlock]; exact hgM))
    rw [hpl] at h1; exact h1
  have hfl : fillN l[k] = { l[k] with op := 2 } := by rw [e] at hop; simp [fillN, hop]
  refine ⟨⟨p.set k ({ l[k] with op := 2 }, (p.getD k (nd0, .slice none 0 0)).2), ?_, ?_, ?_⟩, ⟨n + 1, by omega, ?_⟩, hb'.setCell (p := ⟨g, k * 4, none⟩) hg0 _, hle⟩
  · rw [List.map_set, hp, ← hfl]
    rw [List.take_succ_eq_append_getElem hk, List.map_append, List.set_append_right _ _ (by simp; omega)]
    have : k - ((l.take k).map fillN).length = 0 := by simp; omega
    rw [this, List.drop_eq_getElem_cons hk, List.set_cons_zero, List.append_assoc]
    rfl
  · rw [ndCells_op p k _ _ 2 hpk, List.length_set, hpl]
    exact own_put hrow (by rw [ndCells_length]; omega)
  · intro q hq
    have hin : ∀ q ∈ p, Ints (w'.setCell ⟨g, k * 4, none⟩ (.int .i64 2)) w.heap.size q.2 q.1.kids := fun q hq => (hc.kids q hq).below (hb2.setCell (p := ⟨g, k * 4, none⟩) hg0 _) (Nat.le_refl _)
    rcases List.mem_or_eq_of_mem_set hq with hq | rfl
    · exact hin q hq
    · exact hin (l[k], _) (List.mem_of_getElem? hpk)
  · have e2 : hlsL (l.take (k + 1)) = addNm (hlsL (l.take k)) (l.getD k nd0) := by rw [List.take_succ_eq_append_getElem hk, hlsL_snoc, e]
    have e3 : addNm (hlsL (l.take k)) (l.getD k nd0) = if (hlsL (l.take k)).any (fun y => decide (y = (l.getD k nd0).name)) = true then hlsL (l.take k) else hlsL (l.take k) ++ [(l.getD k nd0).name] := by unfold addNm; rw [if_pos hop]
    rw [e2, e3]
    exact hm.setCell (by show M ≠ g; omega) _
end Go.Proofs.YtfdghbbanokopaaDoor

set_option linter.unusedSimpArgs false
set_option linter.unusedVariables false
namespace Go.Proofs.YtfdghbbanokopaaDoor
open Go.RowKit Go.Lib

/-- The slice reads as the texts qs. -/
def Strs (w : World) (ao : Option Addr) (cap : Nat) (qs : List ByteArray) : Prop :=
  qs.length ≤ cap ∧ cap ≤ maxLen ∧ (qs = [] ∨ ∃ b o, ao = some ⟨b, o, none⟩ ∧ b < w.heap.size ∧ ∀ j, j < qs.length → w.cell? ⟨b, o + j, none⟩ = some (.string (qs.getD j ⟨#[]⟩)))
theorem Strs.below {w w' : World} {ao : Option Addr} {cap : Nat} {qs : List ByteArray} (h : Strs w ao cap qs) (hb : Below w.heap.size w w') : Strs w' ao cap qs := by
  obtain ⟨h1, h2, h3⟩ := h
  refine ⟨h1, h2, ?_⟩
  rcases h3 with h3 | ⟨b, o, e, hlt, hc⟩
  · exact .inl h3
  · exact .inr ⟨b, o, e, Nat.lt_of_lt_of_le hlt hb.size, fun j hj => (hb.cell (p := ⟨b, o + j, none⟩) hlt).trans (hc j hj)⟩
theorem Strs_of_own {w : World} {base : Nat} {v : Value} {qs : List ByteArray} (h : w.ownsRow base 9 1 v qs.length (qs.map Value.string)) : ∃ ao cap, v = .slice ao qs.length cap ∧ Strs w ao cap qs := by
  obtain ⟨h1, h2⟩ := h
  rcases h2 with ⟨rfl, h0⟩ | ⟨g, cap, cur, rfl, hb, hg, hn, hm, hs, ht⟩
  · have : qs = [] := List.length_eq_zero_iff.1 h0
    subst this
    exact ⟨none, 0, rfl, by simp, by simp, .inl rfl⟩
  · refine ⟨_, cap, rfl, hn, hm, .inr ⟨g, 0, rfl, lt_of_block hg, fun j hj => ?_⟩⟩
    have hc : w.cell? ⟨g, 0 + j, none⟩ = cur[j]? := by simp [World.cell?, hg]
    rw [hc, ← Array.getElem?_toList]
    have e : cur.toList[j]? = (cur.toList.take (qs.length * 1))[j]? := by rw [List.getElem?_take, if_pos (by omega)]
    rw [e, ht]
    simp [hj]

theorem Strs.same {w w' : World} {ao : Option Addr} {cap : Nat} {qs : List ByteArray} (h : Strs w ao cap qs) (hs : w.heap.size ≤ w'.heap.size) (hb : ∀ b : Nat, b < w.heap.size → w'.heap[b]? = w.heap[b]?) : Strs w' ao cap qs := by
  obtain ⟨h1, h2, h3⟩ := h
  refine ⟨h1, h2, ?_⟩
  rcases h3 with h3 | ⟨b, o, e, hlt, hc⟩
  · exact .inl h3
  · exact .inr ⟨b, o, e, by omega, fun j hj => (World.cell?_of_block (a := ⟨b, o + j, none⟩) (hb b hlt)).trans (hc j hj)⟩

theorem Strs.cell {w : World} {ao : Option Addr} {cap : Nat} {qs : List ByteArray} (h : Strs w ao cap qs) {j : Nat} (hj : j < qs.length) : ∃ b o, ao = some ⟨b, o, none⟩ ∧ b < w.heap.size ∧ w.cell? ⟨b, o + j, none⟩ = some (.string (qs.getD j ⟨#[]⟩)) := by
  rcases h.2.2 with h | ⟨b, o, e, hlt, hc⟩
  · subst h; simp at hj
  · exact ⟨b, o, e, hlt, hc j hj⟩
theorem Rd.cell {w : World} {ao : Option Addr} {cap : Nat} {l : List Nd} (h : Rd w ao cap l) {k : Nat} (hk : k < l.length) : ∃ b o kv, ao = some ⟨b, o, none⟩ ∧ b < w.heap.size ∧ NodeAt w w.heap.size b (o + k * 4) (l.getD k nd0) kv := by
  obtain ⟨ao', cap', e1, _, _, hc⟩ := h
  cases e1
  rcases hc with h | ⟨b, o, e, hlt, hc⟩
  · subst h; simp at hk
  · obtain ⟨kv, hn⟩ := hc k hk
    exact ⟨b, o, kv, e, hlt, hn⟩

end Go.Proofs.YtfdghbbanokopaaDoor
