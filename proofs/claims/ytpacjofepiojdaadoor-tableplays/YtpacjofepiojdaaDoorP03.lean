/-
  ExMem, ExBegW, ExMovW, ExPartW.
-/
import Derived.Shelf.Unicode.DecodeSlow
import Derived.Laws.RangeAny
import Derived.Shelf.Small.Bits
import Derived.Shelf.Strconv.Itoa0
import Derived.Shelf.LaysM
import Derived.Shelf.Strconv.Clone
import Derived.Shelf.Unicode.DecodeAny
import Derived.Shelf.Slices.CompactS
import Derived.Ground.SlsfProg
import Derived.Shelf.SlSortCmp.Insertion
import Derived.Shelf.SlSortCmp.SiftDown1
import Derived.Shelf.SlSortCmp.HeapSort1
import Derived.Shelf.SlSortCmp.Insertion1
import Derived.Shelf.SlSortCmp.Median1
import Derived.Shelf.SlSortCmp.Pivot1
import Derived.Shelf.SlSortCmp.ReverseRange1
import Derived.Shelf.SlSortCmp.PartialInsertion1
import Derived.Shelf.SlSortCmp.PartitionEqual1
import Derived.Shelf.SlSortCmp.Partition1
import Derived.Shelf.SlSortCmp.Pdq1
import Derived.Shelf.SlSortCmp.Whole1
import Derived.Test.YtpacjofepiojdaaDoorProg
import Derived.WalkKit
import Derived.Deep.DeepFit
import Derived.Lib.OthersKept
import Derived.Deep.AppendLies
import Derived.Deep.OwnRows
import Derived.Laws.AppendOwnNone
import Derived.Test.YtpacjofepiojdaaDoorP01
import Derived.Test.YtpacjofepiojdaaDoorP02
set_option linter.unusedSimpArgs false
set_option linter.unusedVariables false
namespace Go.Proofs.YtpacjofepiojdaaDoor
open Go.RowKit Go.Lib

/-- The slice v reads as the numbers ks, in blocks below B. -/
def Ints (w : World) (B : Nat) (v : Value) (ks : List Int) : Prop :=
  ∃ ao cap, v = .slice ao ks.length cap ∧ ks.length ≤ cap ∧ (cap ≤ maxLen ∧ (ao = none → cap = 0)) ∧ (ks = [] ∨ ∃ b o, ao = some ⟨b, o, none⟩ ∧ b < B ∧ ∀ j, j < ks.length → w.cell? ⟨b, o + j, none⟩ = some (.int .i64 (ks.getD j 0)))

/-- The four cells of a node at b, o. -/
structure NodeAt (w : World) (B b o : Nat) (x : Nd) (kv : Value) : Prop where
  c0 : w.cell? ⟨b, o, none⟩ = some (.int .i64 x.op)
  c1 : w.cell? ⟨b, o + 1, none⟩ = some (.int .i64 x.n)
  c2 : w.cell? ⟨b, o + 2, none⟩ = some (.string x.name)
  c3 : w.cell? ⟨b, o + 3, none⟩ = some kv
  kids : Ints w B kv x.kids

/-- The slice v reads as the nodes l, in blocks below B. -/
def Nodes (w : World) (B : Nat) (v : Value) (l : List Nd) : Prop :=
  ∃ ao cap, v = .slice ao l.length cap ∧ l.length ≤ cap ∧ cap ≤ maxLen ∧ (l = [] ∨ ∃ b o, ao = some ⟨b, o, none⟩ ∧ b < B ∧ ∀ i, i < l.length → ∃ kv, NodeAt w B b (o + i * 4) (l.getD i nd0) kv)

theorem Ints.below {w w' : World} {B B' : Nat} {v : Value} {ks : List Int} (h : Ints w B v ks) (hb : Below B w w') (hB : B ≤ B') : Ints w' B' v ks := by
  obtain ⟨ao, cap, rfl, h1, h2, h3⟩ := h
  refine ⟨ao, cap, rfl, h1, h2, ?_⟩
  rcases h3 with h3 | ⟨b, o, rfl, hlt, hc⟩
  · exact .inl h3
  · exact .inr ⟨b, o, rfl, by omega, fun j hj => (hb.cell (p := ⟨b, o + j, none⟩) hlt).trans (hc j hj)⟩

theorem NodeAt.below {w w' : World} {B B' b o : Nat} {x : Nd} {kv : Value} (h : NodeAt w B b o x kv) (hb : Below B w w') (hB : B ≤ B') (hlt : b < B) : NodeAt w' B' b o x kv :=
  ⟨(hb.cell (p := ⟨b, o, none⟩) hlt).trans h.c0, (hb.cell (p := ⟨b, o + 1, none⟩) hlt).trans h.c1, (hb.cell (p := ⟨b, o + 2, none⟩) hlt).trans h.c2, (hb.cell (p := ⟨b, o + 3, none⟩) hlt).trans h.c3, h.kids.below hb hB⟩

theorem Nodes.below {w w' : World} {B B' : Nat} {v : Value} {l : List Nd} (h : Nodes w B v l) (hb : Below B w w') (hB : B ≤ B') : Nodes w' B' v l := by
  obtain ⟨ao, cap, rfl, h1, h2, h3⟩ := h
  refine ⟨ao, cap, rfl, h1, h2, ?_⟩
  rcases h3 with h3 | ⟨b, o, rfl, hlt, hc⟩
  · exact .inl h3
  · exact .inr ⟨b, o, rfl, by omega, fun i hi => let ⟨kv, hk⟩ := hc i hi; ⟨kv, hk.below hb hB hlt⟩⟩

theorem Ints.mono {w : World} {B B' : Nat} {v : Value} {ks : List Int} (h : Ints w B v ks) (hB : B ≤ B') : Ints w B' v ks := h.below (Below.refl _ _) hB
theorem Nodes.mono {w : World} {B B' : Nat} {v : Value} {l : List Nd} (h : Nodes w B v l) (hB : B ≤ B') : Nodes w B' v l := h.below (Below.refl _ _) hB

/-- Numbers of the call's own. -/
def OwnI (w : World) (base : Nat) (v : Value) (ks : List Int) : Prop := w.ownsRow base 3 1 v ks.length (ks.map (Value.int .i64))

def ndCells : List (Nd × Value) → List Value
  | [] => []
  | (x, kv) :: r => .int .i64 x.op :: .int .i64 x.n :: .string x.name :: kv :: ndCells r

theorem ndCells_append (l m : List (Nd × Value)) : ndCells (l ++ m) = ndCells l ++ ndCells m := by
  induction l with
  | nil => rfl
  | cons a r ih => obtain ⟨x, kv⟩ := a; simp [ndCells, ih]
theorem ndCells_at (l : List (Nd × Value)) (i : Nat) (x : Nd) (kv : Value) (h : l[i]? = some (x, kv)) :
    (ndCells l)[i * 4]? = some (.int .i64 x.op) ∧ (ndCells l)[i * 4 + 1]? = some (.int .i64 x.n) ∧ (ndCells l)[i * 4 + 2]? = some (.string x.name) ∧ (ndCells l)[i * 4 + 3]? = some kv := by
  induction l generalizing i with
  | nil => simp at h
  | cons a r ih =>
    obtain ⟨y, kw⟩ := a
    cases i with
    | zero => simp at h; obtain ⟨rfl, rfl⟩ := h; simp [ndCells]
    | succ i =>
      have := ih i (by simpa using h)
      have e : (i + 1) * 4 = i * 4 + 4 := by omega
      rw [e]
      simpa [ndCells] using this

/-- Nodes of the call's own; 'p' tells the kids' slices. -/
structure OwnP (w : World) (base : Nat) (v : Value) (p : List (Nd × Value)) : Prop where
  row : w.ownsRow base 63 4 v p.length (ndCells p)
  kids : ∀ q ∈ p, OwnI w base q.2 q.1.kids

def OwnN (w : World) (base : Nat) (v : Value) (l : List Nd) : Prop := ∃ p : List (Nd × Value), p.map (·.1) = l ∧ OwnP w base v p

theorem OwnN_nil (w : World) (base : Nat) : OwnN w base (.slice none 0 0) [] := ⟨[], rfl, World.ownsRow_nil _ _ _ _, by simp⟩
theorem OwnI_nil (w : World) (base : Nat) : OwnI w base (.slice none 0 0) [] := World.ownsRow_nil _ _ _ _

theorem ownsRow_mono {w : World} {base base' : Nat} {e : TypeId} {size : Nat} {v : Value} {n : Nat} {xs : List Value} (h : w.ownsRow base e size v n xs) (hb : base' ≤ base) : w.ownsRow base' e size v n xs := by
  obtain ⟨h1, h2⟩ := h
  refine ⟨h1, ?_⟩
  rcases h2 with h2 | ⟨g, cap, cur, hv, hg, r⟩
  · exact .inl h2
  · exact .inr ⟨g, cap, cur, hv, by omega, r⟩

/-- A row is another's block only if the elements' types are one. -/
theorem ownBlock_ne {w : World} {base base' : Nat} {e e' : TypeId} {s s' n n' : Nat} {v v' : Value} {xs xs' : List Value} (h : w.ownsRow base e s v n xs) (h' : w.ownsRow base' e' s' v' n' xs') (hne : e ≠ e') : v.ownBlock = none ∨ v.ownBlock ≠ v'.ownBlock := by
  rcases h.2 with ⟨rfl, _⟩ | ⟨g, cap, cur, rfl, _, hg, _⟩
  · exact .inl rfl
  · right
    rcases h'.2 with ⟨rfl, _⟩ | ⟨g', cap', cur', rfl, _, hg', _⟩
    · simp [Value.ownBlock]
    · intro hh
      simp [Value.ownBlock] at hh
      subst hh
      rw [hg] at hg'
      simp at hg'
      exact hne hg'.2

theorem OwnI.below {w w' : World} {base : Nat} {v : Value} {ks : List Int} (h : OwnI w base v ks) (hb : Below w.heap.size w w') : OwnI w' base v ks :=
  World.ownsRow.kept (row := none) h ⟨hb.os, hb.tape, hb.output, hb.size, fun k hk _ => hb.block k hk⟩ (by
    cases hv : v.ownBlock
    · exact .inl rfl
    · exact .inr (by simp))
theorem ownsRow_below {w w' : World} {base : Nat} {e : TypeId} {size : Nat} {v : Value} {n : Nat} {xs : List Value} (h : w.ownsRow base e size v n xs) (hb : Below w.heap.size w w') : w'.ownsRow base e size v n xs :=
  World.ownsRow.kept (row := none) h ⟨hb.os, hb.tape, hb.output, hb.size, fun k hk _ => hb.block k hk⟩ (by
    cases hv : v.ownBlock
    · exact .inl rfl
    · exact .inr (by simp))
theorem OwnP.below {w w' : World} {base : Nat} {v : Value} {p : List (Nd × Value)} (h : OwnP w base v p) (hb : Below w.heap.size w w') : OwnP w' base v p :=
  ⟨ownsRow_below h.row hb, fun q hq => (h.kids q hq).below hb⟩
theorem OwnN.below {w w' : World} {base : Nat} {v : Value} {l : List Nd} (h : OwnN w base v l) (hb : Below w.heap.size w w') : OwnN w' base v l := let ⟨p, h1, h2⟩ := h; ⟨p, h1, h2.below hb⟩

/-- Behind an append of one node (its kids owned) onto owned nodes. -/
theorem OwnP.snoc {w w1 : World} {base : Nat} {v v' : Value} {p : List (Nd × Value)} {x : Nd} {kv : Value} (h : OwnP w base v p) (hk : OwnI w base kv x.kids)
    (hown : w1.ownsRow base 63 4 v' (p.length + 1) (ndCells p ++ [.int .i64 x.op, .int .i64 x.n, .string x.name, kv])) (hg : w.grownBy w1 v.ownBlock) : OwnP w1 base v' (p ++ [(x, kv)]) := by
  refine ⟨?_, fun q hq => ?_⟩
  · rw [ndCells_append]; simpa [ndCells] using hown
  · rcases List.mem_append.1 hq with hq | hq
    · exact World.ownsRow.kept (h.kids q hq) hg (ownBlock_ne (h.kids q hq) h.row (by decide))
    · simp at hq; subst hq
      exact World.ownsRow.kept hk hg (ownBlock_ne hk h.row (by decide))

theorem Ints_of_own {w : World} {base B : Nat} {v : Value} {ks : List Int} (h : OwnI w base v ks) (hB : w.heap.size ≤ B) : Ints w B v ks := by
  obtain ⟨h1, h2⟩ := h
  rcases h2 with ⟨rfl, h0⟩ | ⟨g, cap, cur, rfl, hb, hg, hn, hm, hs, ht⟩
  · have : ks = [] := List.length_eq_zero_iff.1 h0
    subst this
    exact ⟨none, 0, rfl, by simp, by simp, .inl rfl⟩
  · refine ⟨_, cap, rfl, hn, ⟨hm, by simp⟩, .inr ⟨g, 0, rfl, ?_, fun j hj => ?_⟩⟩
    · have := lt_of_block hg; omega
    · have hc : w.cell? ⟨g, 0 + j, none⟩ = cur[j]? := by simp [World.cell?, hg]
      rw [hc]
      have : cur.toList[j]? = (cur.toList.take (ks.length * 1))[j]? := by rw [List.getElem?_take, if_pos (by omega)]
      rw [← Array.getElem?_toList, this, ht]
      simp [hj]

theorem Nodes_of_ownP {w : World} {base B : Nat} {v : Value} {p : List (Nd × Value)} (h : OwnP w base v p) (hB : w.heap.size ≤ B) : Nodes w B v (p.map (·.1)) := by
  obtain ⟨h1, h2⟩ := h.row
  rcases h2 with ⟨rfl, h0⟩ | ⟨g, cap, cur, rfl, hb, hg, hn, hm, hs, ht⟩
  · have : p = [] := List.length_eq_zero_iff.1 h0
    subst this
    exact ⟨none, 0, rfl, by simp, by simp, .inl rfl⟩
  · refine ⟨_, cap, by simp, by simpa using hn, hm, .inr ⟨g, 0, rfl, ?_, fun i hi => ?_⟩⟩
    · have := lt_of_block hg; omega
    · simp at hi
      have hp : p[i]? = some (p[i].1, p[i].2) := by simp [hi]
      have hx : (p.map (·.1)).getD i nd0 = p[i].1 := by simp [hi]
      obtain ⟨a0, a1, a2, a3⟩ := ndCells_at p i _ _ hp
      have hc : ∀ j, j < p.length * 4 → w.cell? ⟨g, j, none⟩ = (ndCells p)[j]? := by
        intro j hj
        have : w.cell? ⟨g, j, none⟩ = cur[j]? := by simp [World.cell?, hg]
        rw [this, ← Array.getElem?_toList, ← ht, List.getElem?_take, if_pos (by omega)]
      rw [hx]
      refine ⟨p[i].2, ?_, ?_, ?_, ?_, ?_⟩
      · rw [Nat.zero_add, hc _ (by omega), a0]
      · rw [Nat.zero_add, hc _ (by omega), a1]
      · rw [Nat.zero_add, hc _ (by omega), a2]
      · rw [Nat.zero_add, hc _ (by omega), a3]
      · exact Ints_of_own (h.kids p[i] (by simp)) hB

theorem Nodes_of_own {w : World} {base B : Nat} {v : Value} {l : List Nd} (h : OwnN w base v l) (hB : w.heap.size ≤ B) : Nodes w B v l := by
  obtain ⟨p, rfl, h⟩ := h
  exact Nodes_of_ownP h hB

theorem Tryd.info3 : (Tryd.prog.info? 3).map (fun i => (i.zero, i.size, i.bytes)) = some (some (.int .i64 0), 1, 8) := by kernel_rfl
theorem Tryd.infoNode : (Tryd.prog.info? 63).map (fun i => (i.zero, i.size, i.bytes)) = some (some (.agg #[.int .i64 0, .int .i64 0, .string ⟨#[]⟩, .slice none 0 0]), 4, 56) := by kernel_rfl
end Go.Proofs.YtpacjofepiojdaaDoor

set_option linter.unusedSimpArgs false
set_option linter.unusedVariables false
namespace Go.Proofs.YtpacjofepiojdaaDoor
open Go.RowKit Go.Lib

theorem rowIs_below {w w' : World} {b : Nat} {t : TypeId} {n : Nat} {f : Nat → Value} (h : w.rowIs b t n f) (hb : Below w.heap.size w w') : w'.rowIs b t n f := by
  have hlt := h.lt
  unfold World.rowIs at h ⊢
  rw [hb.block b hlt]; exact h

theorem begR_take_succ {l : List Nd} {k : Nat} {fr : List Nat} (hlt : k < l.length) (h : begR [] (l.take k) = some fr) : begR [] (l.take (k + 1)) = stp fr (l.getD k nd0) := by
  rw [List.take_succ_eq_append_getElem hlt, begR_snoc, h]; simp [hlt]

theorem begL_none_of {l : List Nd} {k : Nat} {fr : List Nat} (hlt : k < l.length) (h : begR [] (l.take k) = some fr) (hs : stp fr (l.getD k nd0) = none) : begL l = none := by
  unfold begL
  split
  · rfl
  · rw [begR_take_none (i := k + 1) (by rw [begR_take_succ hlt h, hs])]; rfl

theorem node_kid {wr w2 : World} {a b c d : Value} {t : TypeId} (h : Below (wr.alloc (.cells #[a, b, c, d] t)).heap.size (wr.alloc (.cells #[a, b, c, d] t)) w2) : w2.cell? ⟨wr.heap.size, 3, none⟩ = some d := by
  rw [h.cell (p := ⟨wr.heap.size, 3, none⟩) (by simp)]; simp

def BegPost (w : World) (l : List Nd) (e : Ending) (w' : World) : Prop :=
  Below w.heap.size w w' ∧ ((begL l = none ∧ e = .returned (.slice none 0 0)) ∨ ∃ fr, begL l = some fr ∧ ∃ g, e = .returned (.slice (some ⟨g, 0, none⟩) l.length l.length) ∧ w.heap.size ≤ g ∧ g < w'.heap.size ∧ ∀ j, j < l.length → w'.cell? ⟨g, j, none⟩ = some (.int .i64 (fr.getD j 0 : Nat)))

set_option maxHeartbeats 2000000 in
theorem begins_any (vs : Value) (l : List Nd) (w : World) (B : Nat) (hBw : B ≤ w.heap.size) (hT : SpanCells w) (hN : Nodes w B vs l) :
    Calls Tryd.prog 40 #[vs] w fun e w' => BegPost w l e w' := by
  obtain ⟨ao, cap0, rfl, hl, hm, hc⟩ := hN
  unfold maxLen at hm
  by_cases h0 : l.length = 0
  · have hb : Hid (begL l = none) := by show begL l = none; unfold begL; simp [h0]
    have hz : l = [] := List.length_eq_zero_iff.1 h0
    subst hz
    go_enter Tryd.func40, Tryd.ntmps40
    go_wp2
    go_ret
    exact ⟨Below.refl _ _, .inl ⟨hb.out, rfl⟩⟩
  by_cases h64 : 64 < l.length
  · have hb : Hid (begL l = none) := by show begL l = none; unfold begL; simp [h64]
    have g1 : ((l.length : Int) == 0) = false := by rw [beq_eq_false_iff_ne]; omega
    have g2 : (64 : Int) < (l.length : Int) := by omega
    go_enter Tryd.func40, Tryd.ntmps40
    go_wp2
    go_ret
    exact ⟨Below.refl _ _, .inl ⟨hb.out, rfl⟩⟩
  obtain ⟨b, o, rfl, hbl, hc'⟩ : ∃ b o, ao = some ⟨b, o, none⟩ ∧ b < B ∧ ∀ i, i < l.length → ∃ kv, NodeAt w B b (o + i * 4) (l.getD i nd0) kv := by
    rcases hc with h | h
    · subst h; simp at h0
    · exact h
  have HC : Hid (∀ i, i < l.length → ∃ kv, NodeAt w B b (o + i * 4) (l.getD i nd0) kv) := hc'
  clear hc hc'
  have g1 : ((l.length : Int) == 0) = false := by rw [beq_eq_false_iff_ne]; omega
  have g2 : ¬ (64 : Int) < (l.length : Int) := by omega
  have hmk := run_make_row' (P := Tryd.prog) 61 3 (.int .i64 0) 8 Tryd.underlying61 Tryd.info3 rfl .i64 .i64 l.length (by omega) (by omega)
  have HT : Hid (SpanCells w) := hT
  clear hT
  go_enter Tryd.func40, Tryd.ntmps40
  go_wp2
  go_loopw [21] (fun i wr => ∃ (k : Nat) (fr : List Nat), k ≤ l.length ∧ i = .int .i64 k ∧ Hid (begR [] (l.take k) = some fr) ∧ wr.rowIs w.heap.size 3 l.length (fun j => .int .i64 (fr.getD j 0 : Nat)) ∧ Below w.heap.size w wr) (fun i _ => l.length - (RowKit.intOf i).toNat)
  case atStart => exact ⟨0, [], by omega, rfl, rfl, World.rowIs_made _ _ _ _, (Below.refl _ _).alloc (Nat.le_refl _) _⟩
  case round =>
    obtain ⟨k, fr, hk, rfl, hbr, hrow, hB⟩ := hrel
    have hsz := hB.size
    have hgl := hrow.lt
    clear hmk
    by_cases hlt : k < l.length
    · obtain ⟨kv, hNA⟩ := HC.out k hlt
      have hNA := hNA.below (hB.mono hBw) (Nat.le_refl _) hbl
      have HS : Hid (stp fr (l.getD k nd0) = none → begL l = none) := begL_none_of hlt hbr.out
      have HS2 : Hid (begR [] (l.take (k + 1)) = stp fr (l.getD k nd0)) := begR_take_succ hlt hbr.out
      have hfl : fr.length = k := by have := begR_len hbr.out; simp at this; omega
      have hlow := (begR_some hbr.out low_nil).2.1
      generalize l.getD k nd0 = x at *
      obtain ⟨op, n, nm, kids⟩ := x
      obtain ⟨c0, c1, c2, c3, hki⟩ := hNA
      simp only at c0 c1 c2 c3 hki
      obtain ⟨ka, kc, rfl, hkl, ⟨hkm, _⟩, hkc⟩ := hki
      unfold maxLen at hkm
      have HKC : Hid (kids = [] ∨ ∃ b o, ka = some ⟨b, o, none⟩ ∧ b < B ∧ ∀ j, j < kids.length → wr.cell? ⟨b, o + j, none⟩ = some (.int .i64 (kids.getD j 0))) := hkc
      clear hkc
      have hb9 : b < wr.heap.size := by omega
      have hb8 : b ≠ wr.heap.size := by omega
      have hTr : SpanCells (wr.alloc (.cells #[.int .i64 op, .int .i64 n, .string nm, .slice ka kids.length kc] 63)) := HT.out.below (hB.alloc hsz _)
      have HFL : Hid (fr.length = k) := hfl
      clear hfl
      cases hf : fitB op n nm kids.length
      · have hnone : Hid (begL l = none) := HS.out (by simp [stp, formB, hf])
        go_wp2_with (go_at_call 52; refine (fits_any _ _ _ _ _ hTr).mono ?_; rintro e w2 ⟨rfl, hb2⟩)
        go_ret
        exact ⟨(hB.alloc hsz _).trans (hb2.mono (by simp; omega)), .inl ⟨hnone.out, rfl⟩⟩
      · have HF : Hid (stp fr ⟨op, n, nm, kids⟩ = (chainL fr kids.reverse k).map (fun a => fr ++ [a])) := by show stp fr ⟨op, n, nm, kids⟩ = _; simp [stp, formB, hf, HFL.out]
        go_wp2_with (go_at_call 52; refine (fits_any _ _ _ _ _ hTr).mono ?_; rintro e w2 ⟨rfl, hb2⟩; rw [hf]; have d3 : w2.cell? ⟨wr.heap.size, 3, none⟩ = some (.slice ka kids.length kc) := node_kid hb2)
        have hz2 : wr.heap.size + 1 ≤ w2.heap.size := by have := hb2.size; simpa using this
        have hrow2 := rowIs_below (hrow.alloc _) hb2
        have hBw2 : Below wr.heap.size wr w2 := ((Below.refl _ _).alloc (Nat.le_refl _) _).trans (hb2.mono (by simp))
        have HB2 : Hid (Below w.heap.size w w2) := hB.trans (hBw2.mono hsz)
        have HKC2 : Hid (kids = [] ∨ ∃ b o, ka = some ⟨b, o, none⟩ ∧ ∀ j, j < kids.length → w2.cell? ⟨b, o + j, none⟩ = some (.int .i64 (kids.getD j 0))) := by
          rcases HKC.out with h | ⟨b, o, h1, h2, h3⟩
          · exact .inl h
          · exact .inr ⟨b, o, h1, fun j hj => (hBw2.cell (p := ⟨b, o + j, none⟩) (by show b < wr.heap.size; omega)).trans (h3 j hj)⟩
        have HL : Hid (Low fr) := hlow
        have HR2 : Hid (w2.rowIs w.heap.size 3 l.length fun j => .int .i64 (fr.getD j 0 : Nat)) := hrow2
        clear hb2 hrow hrow2 hB hBw2 HKC hTr hf hlow c0 c1 c2 c3
        go_loop [6, 7] (fun a q => ∃ (c m : Nat) (z : Int), a = .int .i64 c ∧ q = .int .i64 z ∧ Hid (z = (m : Int) - 1) ∧ c ≤ k ∧ m ≤ kids.length ∧ Hid (chainL fr (kids.take m).reverse c = chainL fr kids.reverse k)) (fun _ q => (RowKit.intOf q + 1).toNat)
        case atStart => exact ⟨k, kids.length, _, rfl, rfl, rfl, Nat.le_refl _, Nat.le_refl _, by rw [List.take_length]; rfl⟩
        case round =>
          obtain ⟨c, m, z, rfl, rfl, hz, hck, hmk, hch⟩ := hrel
          cases m with
          | zero =>
            have hz1 : z = -1 := by have := hz.out; omega
            subst hz1
            have hcc : chainL fr kids.reverse k = some c := by rw [← hch.out]; simp [chainL]
            have HCC : Hid (stp fr ⟨op, n, nm, kids⟩ = some (fr ++ [c])) := by show stp fr ⟨op, n, nm, kids⟩ = _; rw [HF.out, hcc]; rfl
            clear hcc
            have f0 := HR2.out.frozen k
            have e0 := HR2.out.cell hlt
            have hgl2 : w.heap.size < w2.heap.size := by omega
            go_wp2
            refine ⟨⟨k + 1, fr ++ [c], by omega, by go_num, ?_, ?_, HB2.out.setCell (Nat.le_refl _) _⟩, by simp [RowKit.intOf]; omega⟩
            · show begR [] (l.take (k + 1)) = some (fr ++ [c])
              rw [HS2.out, HCC.out]
            · exact (HR2.out.set k _).congr (fun j hj => by
                show (if j = k then Value.int .i64 (c : Nat) else .int .i64 (fr.getD j 0 : Nat)) = .int .i64 ((fr ++ [c]).getD j 0 : Nat)
                rw [getD_snoc, HFL.out]
                by_cases hjk : j < k
                · rw [if_neg (by omega), if_pos hjk]
                · by_cases hje : j = k
                  · rw [if_pos hje, if_neg hjk, if_pos hje]
                  · rw [if_neg hje, if_neg hjk, if_neg hje]
                    have : fr.getD j 0 = 0 := by rw [List.getD_eq_getElem?_getD, List.getElem?_eq_none (by rw [HFL.out]; omega)]; rfl
                    rw [this])
          | succ m =>
            have hz1 : z = (m : Int) := by have := hz.out; omega
            subst hz1
            have hmlt : m < kids.length := by omega
            obtain ⟨kb, ko, rfl, hkc⟩ : ∃ b o, ka = some ⟨b, o, none⟩ ∧ ∀ j, j < kids.length → w2.cell? ⟨b, o + j, none⟩ = some (.int .i64 (kids.getD j 0)) := by
              rcases HKC2.out with h | h
              · subst h; simp at hmlt
              · exact h
            have hcm := hkc m hmlt
            clear hkc HKC2
            have hch2 : chainL fr (kids.take (m + 1)).reverse c = if c = 0 ∨ kids.getD m 0 ≠ (c : Int) - 1 then none else chainL fr (kids.take m).reverse (fr.getD (c - 1) 0) := by
              rw [List.take_succ_eq_append_getElem hmlt, List.reverse_append]
              simp [chainL, hmlt]
            generalize kids.getD m 0 = y at *
            have HCH : Hid (chainL fr kids.reverse k = if c = 0 ∨ y ≠ (c : Int) - 1 then none else chainL fr (kids.take m).reverse (fr.getD (c - 1) 0)) := by show chainL fr kids.reverse k = _; rw [← hch.out, hch2]
            clear hch hch2 hz
            by_cases hc0 : c = 0
            · subst hc0
              have hnone : Hid (begL l = none) := HS.out (by rw [HF.out, HCH.out]; simp)
              go_wp2
              go_ret
              exact ⟨HB2.out, .inl ⟨hnone.out, rfl⟩⟩
            · obtain ⟨c, rfl⟩ : ∃ d, c = d + 1 := ⟨c - 1, by omega⟩
              by_cases hy : y = (c : Int)
              · subst hy
                have e0 := HR2.out.cell (i := c) (by omega)
                have hle := HL.out c
                go_wp2
                refine ⟨⟨fr.getD c 0, m, _, rfl, rfl, rfl, by omega, by omega, ?_⟩, by simp [RowKit.intOf]⟩
                show chainL fr (kids.take m).reverse (fr.getD c 0) = chainL fr kids.reverse k
                rw [HCH.out, if_neg (by omega)]; rfl
              · have hnone : Hid (begL l = none) := HS.out (by rw [HF.out, HCH.out, if_pos (.inr (by omega)), Option.map_none])
                have hy2 : (y != (c : Int)) = true := by rw [bne_iff_ne]; exact hy
                go_wp2
                go_ret
                exact ⟨HB2.out, .inl ⟨hnone.out, rfl⟩⟩
    · have hke : k = l.length := by omega
      subst hke
      have hbr' : begR [] l = some fr := by have := hbr.out; rw [List.take_length] at this; exact this
      have HBR : Hid (begR [] l = some fr) := hbr'
      clear hbr hbr'
      have e0 := hrow.cell (i := l.length - 1) (by omega)
      have HR : Hid (wr.rowIs w.heap.size 3 l.length fun j => .int .i64 (fr.getD j 0 : Nat)) := hrow
      clear hrow
      by_cases hz : fr.getD (l.length - 1) 0 = 0
      · have hs : Hid (begL l = some fr) := begL_mk (by omega) (by omega) HBR.out hz
        simp only [hz] at e0
        clear hz
        go_wp2
        go_ret
        exact ⟨hB, .inr ⟨fr, hs.out, w.heap.size, rfl, Nat.le_refl _, hgl, fun j hj => HR.out.cell hj⟩⟩
      · have hs : Hid (begL l = none) := by
          show begL l = none
          unfold begL
          rw [if_neg (by omega), HBR.out, Option.bind_some, if_neg hz]
        generalize fr.getD (l.length - 1) 0 = y at e0 hz
        have hy : ((y : Int) != 0) = true := by rw [bne_iff_ne]; omega
        go_wp2
        go_ret
        exact ⟨hB, .inl ⟨hs.out, rfl⟩⟩

theorem begins_none (vs : Value) (l : List Nd) (w : World) (B : Nat) (hBw : B ≤ w.heap.size) (hT : SpanCells w) (hN : Nodes w B vs l) (h : begL l = none) :
    Calls Tryd.prog 40 #[vs] w fun e w' => e = .returned (.slice none 0 0) ∧ Below w.heap.size w w' := by
  refine (begins_any vs l w B hBw hT hN).mono ?_
  rintro e w' ⟨hb, ⟨_, he⟩ | ⟨fr, hf, _⟩⟩
  · exact ⟨he, hb⟩
  · rw [h] at hf; cases hf
theorem begins_some (vs : Value) (l : List Nd) (fr : List Nat) (w : World) (B : Nat) (hBw : B ≤ w.heap.size) (hT : SpanCells w) (hN : Nodes w B vs l) (h : begL l = some fr) :
    Calls Tryd.prog 40 #[vs] w fun e w' => ∃ g, e = .returned (.slice (some ⟨g, 0, none⟩) l.length l.length) ∧ w.heap.size ≤ g ∧ g < w'.heap.size ∧ (∀ j, j < l.length → w'.cell? ⟨g, j, none⟩ = some (.int .i64 (fr.getD j 0 : Nat))) ∧ Below w.heap.size w w' := by
  refine (begins_any vs l w B hBw hT hN).mono ?_
  rintro e w' ⟨hb, ⟨hf, _⟩ | ⟨fr', hf, g, he, h1, h2, h3⟩⟩
  · rw [h] at hf; cases hf
  · rw [h] at hf; cases hf
    exact ⟨g, he, h1, h2, h3, hb⟩

theorem eql_nil (ao : Option Addr) (n c : Nat) (w : World) : (binOp .eql 61 (.slice ao n c) (.slice none 0 0)).run Tryd.prog w = .ok (.bool ao.isNone) w := by
  cases ao <;> kernel_rfl

set_option maxHeartbeats 400000 in
theorem check_none (vs : Value) (l : List Nd) (w : World) (B : Nat) (hBw : B ≤ w.heap.size) (hT : SpanCells w) (hN : Nodes w B vs l) (h : begL l = none) :
    Calls Tryd.prog 8 #[vs] w fun e w' => e = .returned (.int .i64 1) ∧ Below w.heap.size w w' := by
  have HS : Hid (begL l = none) := h
  clear h
  have hnil := eql_nil
  go_enter Tryd.func8, Tryd.ntmps8
  go_wp2_with (go_at_call 40; refine (begins_none vs l _ B hBw hT hN HS.out).mono ?_; rintro e w2 ⟨rfl, hb2⟩)
  go_ret
  exact ⟨rfl, hb2⟩
set_option maxHeartbeats 400000 in
theorem check_some (vs : Value) (l : List Nd) (fr : List Nat) (w : World) (B : Nat) (hBw : B ≤ w.heap.size) (hT : SpanCells w) (hN : Nodes w B vs l) (h : begL l = some fr) :
    Calls Tryd.prog 8 #[vs] w fun e w' => e = .returned (.int .i64 0) ∧ Below w.heap.size w w' := by
  have HS : Hid (begL l = some fr) := h
  clear h
  have hnil := eql_nil
  go_enter Tryd.func8, Tryd.ntmps8
  go_wp2_with (go_at_call 40; refine (begins_some vs l fr _ B hBw hT hN HS.out).mono ?_; rintro e w2 ⟨g, rfl, hg1, hg2, hg3, hb2⟩)
  go_ret
  exact ⟨rfl, hb2⟩
end Go.Proofs.YtpacjofepiojdaaDoor

set_option linter.unusedSimpArgs false
set_option linter.unusedVariables false
namespace Go.Proofs.YtpacjofepiojdaaDoor
open Go.RowKit Go.Lib

def mvK (from_ by_ k : Int) : Int := if from_ ≤ k then k + by_ else k

theorem take_map_snoc {α β : Type} (f : α → β) (d : α) (l : List α) (k : Nat) (h : k < l.length) : (l.take (k + 1)).map f = (l.take k).map f ++ [f (l.getD k d)] := by
  rw [List.take_succ_eq_append_getElem h, List.map_append]; simp only [List.map_cons, List.map_nil, List.getD_eq_getElem?_getD, List.getElem?_eq_getElem h, Option.getD_some]

theorem cell_news_one (w : World) (v : Value) (t : TypeId) : ∀ j u, [v][j]? = some u → (w.alloc (.cells #[v] t)).cell? ((⟨w.heap.size, 0, none⟩ : Addr).add j) = some u := by
  intro j u hj
  match j, hj with
  | 0, hj => simp at hj; subst hj; simp [Addr.add]

theorem cell_news4 (w : World) (a b c d : Value) (t : TypeId) (H : Nat) (hH : w.heap.size = H) : ∀ j u, [a, b, c, d][j]? = some u → (w.alloc (.cells #[a, b, c, d] t)).cell? ((⟨H, 0, none⟩ : Addr).add j) = some u := by
  intro j u hj
  subst hH
  match j, hj with
  | 0, hj => simp at hj; subst hj; simp [Addr.add]
  | 1, hj => simp at hj; subst hj; simp [Addr.add]
  | 2, hj => simp at hj; subst hj; simp [Addr.add]
  | 3, hj => simp at hj; subst hj; simp [Addr.add]

theorem OwnI_snoc {w : World} {base : Nat} {v : Value} {M : List Int} {z : Int} (h : w.ownsRow base 3 1 v (M.length + 1) (M.map (Value.int .i64) ++ [.int .i64 z])) : OwnI w base v (M ++ [z]) := by
  unfold OwnI; simpa using h

theorem OwnI.form {w : World} {base : Nat} {v : Value} {ks : List Int} (h : OwnI w base v ks) : ∃ ao cap, v = .slice ao ks.length cap := by
  obtain ⟨ao, cap, h, _⟩ := Ints_of_own h (Nat.le_refl _)
  exact ⟨ao, cap, h⟩

def mvN (from_ by_ : Int) (x : Nd) : Nd := { x with kids := x.kids.map (mvK from_ by_) }

end Go.Proofs.YtpacjofepiojdaaDoor

set_option linter.unusedSimpArgs false
set_option linter.unusedVariables false
namespace Go.Proofs.YtpacjofepiojdaaDoor
open Go.RowKit Go.Lib

theorem OwnN_mono {w : World} {base base' : Nat} {v : Value} {l : List Nd} (h : OwnN w base v l) (hb : base' ≤ base) : OwnN w base' v l :=
  let ⟨p, h1, h2⟩ := h; ⟨p, h1, ownsRow_mono h2.row hb, fun q hq => ownsRow_mono (h2.kids q hq) hb⟩
theorem OwnN.form {w : World} {base : Nat} {v : Value} {l : List Nd} (h : OwnN w base v l) : ∃ ao n cap, v = .slice ao n cap := by
  obtain ⟨ao, cap, h, _⟩ := Nodes_of_own h (Nat.le_refl _)
  exact ⟨ao, _, cap, h⟩
theorem OwnN.len {w : World} {base : Nat} {ao : Option Addr} {n cap : Nat} {l : List Nd} (h : OwnN w base (.slice ao n cap) l) : n = l.length := by
  obtain ⟨ao', cap', h, _⟩ := Nodes_of_own h (Nat.le_refl _)
  cases h; rfl

def partL (l : List Nd) (a b : Nat) : List Nd := ((l.drop a).take (b + 1 - a)).map (mvN 0 (-(a : Int)))
theorem getD_sub (l : List Nd) (a m i : Nat) (h : i < m) : ((l.drop a).take m).getD i nd0 = l.getD (a + i) nd0 := by
  simp only [List.getD_eq_getElem?_getD, List.getElem?_take, if_pos h, List.getElem?_drop]

/-- A cut of a list that is read. -/
theorem Nodes.cut {w : World} {B b o cap : Nat} {l : List Nd} (hc : ∀ i, i < l.length → ∃ kv, NodeAt w B b (o + i * 4) (l.getD i nd0) kv) (hb : b < B) (a m cap' : Nat) (ham : a + m ≤ l.length) (hm : m ≤ cap') (hcap : cap' ≤ maxLen)
    (ao : Option Addr) (hao : m ≠ 0 → ao = some ⟨b, o + a * 4, none⟩) : Nodes w B (.slice ao m cap') ((l.drop a).take m) := by
  have hl : ((l.drop a).take m).length = m := by simp; omega
  refine ⟨ao, cap', by rw [hl], by omega, hcap, ?_⟩
  by_cases h0 : m = 0
  · left; exact List.length_eq_zero_iff.1 (by omega)
  · right
    refine ⟨b, o + a * 4, hao h0, hb, fun i hi => ?_⟩
    rw [hl] at hi
    obtain ⟨kv, hk⟩ := hc (a + i) (by omega)
    rw [getD_sub l a m i hi]
    have e : o + a * 4 + i * 4 = o + (a + i) * 4 := by omega
    rw [e]; exact ⟨kv, hk⟩

end Go.Proofs.YtpacjofepiojdaaDoor
