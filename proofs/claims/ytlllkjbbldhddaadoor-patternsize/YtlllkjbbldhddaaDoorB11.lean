/-
  ApRows, PoB.
-/
import Derived.Shelf.Unicode.DecodeSlow
import Derived.Laws.RangeAny
import Derived.Shelf.Unicode.DecodeAny
import Derived.Test.YtlllkjbbldhddaaDoorProg
import Derived.WalkKit
import Derived.Deep.DeepFit
import Derived.Lib.OthersKept
import Derived.Deep.AppendLies
import Derived.Deep.OwnRows
import Derived.Laws.AppendOwnNone
import Derived.Below
import Derived.Test.YtlllkjbbldhddaaDoorB01
import Derived.Test.YtlllkjbbldhddaaDoorB02
import Derived.Test.YtlllkjbbldhddaaDoorB03
import Derived.Test.YtlllkjbbldhddaaDoorB04
import Derived.Test.YtlllkjbbldhddaaDoorB05
set_option linter.unusedSimpArgs false
set_option linter.unusedVariables false
namespace Go.Proofs.YtlllkjbbldhddaaDoor
open Go.RowKit

section
variable {w w' : World} {base : Nat} {e e' : TypeId} {size size' n n' : Nat} {v v' : Value} {xs xs' : List Value}
theorem rw_block (h : w.ownsRow base e size v n xs) {b : Nat} (hb : v.ownBlock = some b) : base ≤ b ∧ b < w.heap.size ∧ ∃ cap cur, v = .slice (some ⟨b, 0, none⟩) n cap ∧ w.heap[b]? = some (.cells cur e (0, 0)) ∧ cur.toList.take (n * size) = xs := by
  rcases h.2 with ⟨rfl, _⟩ | ⟨g, cap, cur, rfl, h1, h2, _, _, _, h3⟩
  · cases hb
  · cases hb
    refine ⟨h1, ?_, cap, cur, rfl, h2, h3⟩
    rcases Nat.lt_or_ge g w.heap.size with h | h
    · exact h
    · rw [Array.getElem?_eq_none h] at h2; cases h2
theorem rw_same (h : w.ownsRow base e size v n xs) (hs : ∀ b, v.ownBlock = some b → w'.heap[b]? = w.heap[b]?) : w'.ownsRow base e size v n xs := by
  refine ⟨h.1, ?_⟩
  rcases h.2 with h | ⟨g, cap, cur, rfl, h1, h2, h3⟩
  · exact .inl h
  · exact .inr ⟨g, cap, cur, rfl, h1, (hs g rfl).trans h2, h3⟩
theorem rw_form (h : w.ownsRow base e size v n xs) : ∃ ao cap, v = .slice ao n cap := by
  rcases h.2 with ⟨rfl, rfl⟩ | ⟨g, cap, cur, rfl, _⟩
  · exact ⟨none, 0, rfl⟩
  · exact ⟨_, cap, rfl⟩
theorem rw_put {g cap : Nat} (h : w.ownsRow base e size (.slice (some ⟨g, 0, none⟩) n cap) n xs) (i : Nat) (x : Value) : (w.setCell ⟨g, i, none⟩ x).ownsRow base e size (.slice (some ⟨g, 0, none⟩) n cap) n (xs.set i x) := by
  obtain ⟨h1, h2⟩ := h
  refine ⟨by rw [List.length_set]; exact h1, ?_⟩
  rcases h2 with ⟨h2, _⟩ | ⟨g', cap', cur, h3, hb, hg, hn, hm, hs, ht⟩
  · cases h2
  · cases h3
    refine .inr ⟨g, cap, cur.setIfInBounds i x, rfl, hb, heap_setCell_same w g _ cur _ _ hg, hn, hm, by simpa using hs, ?_⟩
    rw [← ht]
    simp [List.take_set]
/-- What a row reads as, whoever owns it. -/
def Rdr (w : World) (e : TypeId) (v : Value) (xs : List Value) : Prop := ∀ b, v.ownBlock = some b → ∃ cur fr, w.heap[b]? = some (.cells cur e fr) ∧ cur.toList.take xs.length = xs
theorem rdr_own (h : w.ownsRow base e size v n xs) : Rdr w e v xs := fun b hb => by
  obtain ⟨_, _, cap, cur, _, h1, h2⟩ := rw_block h hb
  exact ⟨cur, _, h1, by rw [h.1]; exact h2⟩
theorem Rdr.same (h : Rdr w e v xs) (hs : ∀ b, v.ownBlock = some b → w'.heap[b]? = w.heap[b]?) : Rdr w' e v xs := fun b hb => by
  obtain ⟨cur, fr, h1, h2⟩ := h b hb
  exact ⟨cur, fr, (hs b hb).trans h1, h2⟩
theorem Rdr.lt (h : Rdr w e v xs) {b : Nat} (hb : v.ownBlock = some b) : b < w.heap.size := by
  obtain ⟨cur, fr, h1, _⟩ := h b hb
  rcases Nat.lt_or_ge b w.heap.size with h | h
  · exact h
  · rw [Array.getElem?_eq_none h] at h1; cases h1
theorem Rdr.cell (h : Rdr w e v xs) {b : Nat} (hb : v.ownBlock = some b) {i : Nat} {u : Value} (hu : xs[i]? = some u) : w.cell? ⟨b, i, none⟩ = some u := by
  obtain ⟨cur, fr, h1, h2⟩ := h b hb
  have hl : i < xs.length := (List.getElem?_eq_some_iff.1 hu).1
  have : w.cell? ⟨b, i, none⟩ = cur[i]? := by simp [World.cell?, h1]
  rw [this, ← hu, ← Array.getElem?_toList]
  conv => rhs; rw [← h2]
  rw [List.getElem?_take, if_pos hl]
end

/-- No two of the rows lie in one block, none in the list's own. -/
structure RwsAp (n B : Nat) (A : Nat → Option Addr) : Prop where
  ap : ∀ k k', k < n → k' < n → k ≠ k' → ∀ a a', A k = some a → A k' = some a' → a.block ≠ a'.block
  out : ∀ k, k < n → ∀ a, A k = some a → a.block ≠ B
theorem own_blk {ao : Option Addr} {n c b : Nat} : (Value.slice ao n c).ownBlock = some b ↔ ∃ a, ao = some a ∧ a.block = b := by
  cases ao <;> simp [Value.ownBlock]

/-- The first m of a row bear their marks. -/
def Mk (size fld : Nat) (xs : List Value) (from_ m : Nat) : Prop := ∀ j, j < m → xs[j * size + fld]? = some (.int .i64 ((1000000 + from_ + j : Nat) : Int))

/-- The rows, the first i of them marked, and the first j of row i. -/
structure P1 (w : World) (base : Nat) (e : TypeId) (size fld n B : Nat) (A : Nat → Option Addr) (C len off : Nat → Nat) (X : Nat → List Value) (i j : Nat) (wr : World) : Prop where
  own : ∀ k, k < n → wr.ownsRow base e size (.slice (A k) (len k) (C k)) (len k) (X k)
  cel : ∀ k, k < n → wr.cell? ⟨B, k, none⟩ = some (.slice (A k) (len k) (C k))
  mks : ∀ k, k < i → Mk size fld (X k) (off k) (len k)
  mi : Mk size fld (X i) (off i) j
  bel : Below base w wr
  hB : B < w.heap.size
  oth : ∀ q, q < w.heap.size → (∀ k, k < n → ∀ a, A k = some a → a.block ≠ q) → wr.heap[q]? = w.heap[q]?
theorem P1.next {w : World} {base : Nat} {e : TypeId} {size fld n B : Nat} {A : Nat → Option Addr} {C len off : Nat → Nat} {X : Nat → List Value} {i : Nat} {wr : World} (h : P1 w base e size fld n B A C len off X i (len i) wr) : P1 w base e size fld n B A C len off X (i + 1) 0 wr := by
  refine ⟨h.own, h.cel, fun k hk => ?_, fun j hj => by omega, h.bel, h.hB, h.oth⟩
  by_cases hki : k = i
  · subst hki; exact h.mi
  · exact h.mks k (by omega)
/-- A cell of row i is written. -/
theorem P1.put {w : World} {base : Nat} {e : TypeId} {size fld n B : Nat} {A : Nat → Option Addr} {C len off : Nat → Nat} {X : Nat → List Value} {i j : Nat} {wr : World} (h : P1 w base e size fld n B A C len off X i j wr) (hap : RwsAp n B A) (hi : i < n) {g : Nat} (hA : A i = some ⟨g, 0, none⟩) (hf : fld < size) (q : Nat) (hq : j * size ≤ q) (x : Value) :
    P1 w base e size fld n B A C len off (fun k => if k = i then (X i).set q x else X k) i j (wr.setCell ⟨g, q, none⟩ x) := by
  have hoi := h.own i hi
  rw [hA] at hoi
  have hb := rw_block hoi (b := g) rfl
  have hlow : ∀ j', j' < j → j' * size + fld < q := by
    intro j' hj'
    have : (j' + 1) * size ≤ j * size := Nat.mul_le_mul_right _ (by omega)
    rw [Nat.succ_mul] at this
    omega
  refine ⟨fun k hk => ?_, fun k hk => ?_, fun k hk => ?_, fun j' hj' => ?_, h.bel.setCell hb.1 _, h.hB, fun p hp hk => ?_⟩
  · by_cases hki : k = i
    · subst hki
      rw [if_pos rfl, hA]
      exact rw_put hoi q x
    · rw [if_neg hki]
      refine rw_same (h.own k hk) fun b hbk => ?_
      obtain ⟨a, ha, rfl⟩ := own_blk.1 hbk
      exact Deep.blk_setCell_other _ _ _ _ (show a.block ≠ g from hap.ap k i hk hi hki a ⟨g, 0, none⟩ ha hA)
  · rw [World.cell?_of_block (w := wr) (Deep.blk_setCell_other _ _ _ _ (fun e => hap.out i hi _ hA e.symm))]
    exact h.cel k hk
  · have hki : k ≠ i := by omega
    simp only [if_neg hki]
    exact h.mks k hk
  · have := hlow j' hj'
    simp only [if_true]
    rw [List.getElem?_set_ne (by omega)]
    exact h.mi j' hj'
  · rw [Deep.blk_setCell_other _ _ _ _ (show p ≠ g from fun e' => hk i hi _ hA e'.symm)]
    exact h.oth p hp hk
/-- The rows marked, the first i of them grown. -/
structure P2 (w : World) (base : Nat) (e eL : TypeId) (size fld n B : Nat) (A : Nat → Option Addr) (C len off : Nat → Nat) (X : Nat → List Value) (i : Nat) (vg : Value) (gs : List Value) (wr : World) : Prop where
  own : ∀ k, i ≤ k → k < n → wr.ownsRow base e size (.slice (A k) (len k) (C k)) (len k) (X k)
  rdr : ∀ k, k < n → Rdr wr e (.slice (A k) (len k) (C k)) (X k)
  cel : ∀ k, k < n → wr.cell? ⟨B, k, none⟩ = some (.slice (A k) (len k) (C k))
  gro : wr.ownsRow base eL 1 vg i gs
  gfr : ∀ b, vg.ownBlock = some b → w.heap.size ≤ b
  row : ∀ k, k < i → ∃ h c Y, gs[k]? = some (.slice (some ⟨h, 0, none⟩) (len k + 12) c) ∧ wr.ownsRow base e size (.slice (some ⟨h, 0, none⟩) (len k + 12) c) (len k + 12) Y ∧
    (∀ j, j < 12 → Y[(len k + j) * size + fld]? = some (.int .i64 ((1000000 + off n + 12 * k + j : Nat) : Int))) ∧ ∀ k', i ≤ k' → k' < n → ∀ a, A k' = some a → a.block ≠ h
  bel : Below base w wr
  hB : B < w.heap.size
  oth : ∀ q, q < w.heap.size → (∀ k, k < n → ∀ a, A k = some a → a.block ≠ q) → wr.heap[q]? = w.heap[q]?
theorem P1.done {w : World} {base : Nat} {e eL : TypeId} {size fld n B : Nat} {A : Nat → Option Addr} {C len off : Nat → Nat} {X : Nat → List Value} {j : Nat} {wr : World} (h : P1 w base e size fld n B A C len off X n j wr) : P2 w base e eL size fld n B A C len off X 0 (.slice none 0 0) [] wr :=
  ⟨fun k _ hk => h.own k hk, fun k hk => rdr_own (h.own k hk), h.cel, World.ownsRow_nil _ _ _ _, (fun b hb => by cases hb), (fun k hk => by omega), h.bel, h.hB, h.oth⟩

/-- Row i, grown by j. -/
structure P3 (wr : World) (base : Nat) (e : TypeId) (size fld : Nat) (A : Option Addr) (c m : Nat) (xs : List Value) (from_ j : Nat) (vq : Value) (Z : List Value) (wq : World) : Prop where
  own : wq.ownsRow base e size vq (m + j) (xs ++ Z)
  mks : ∀ t, t < j → Z[t * size + fld]? = some (.int .i64 ((1000000 + from_ + t : Nat) : Int))
  gb : wr.grownBy wq (Value.slice A m c).ownBlock
  blk : vq.ownBlock = (Value.slice A m c).ownBlock ∨ ∃ h, vq.ownBlock = some h ∧ wr.heap.size ≤ h
  old : Rdr wq e (.slice A m c) xs
  alt : ∀ b, (Value.slice A m c).ownBlock = some b → b < wr.heap.size
theorem P3.start {wr : World} {base : Nat} {e : TypeId} {size fld : Nat} {A : Option Addr} {c m : Nat} {xs : List Value} {from_ : Nat} (h : wr.ownsRow base e size (.slice A m c) m xs) : P3 wr base e size fld A c m xs from_ 0 (.slice A m c) [] wr :=
  ⟨by simpa using h, fun t ht => by omega, ⟨rfl, rfl, rfl, Nat.le_refl _, fun _ _ _ => rfl⟩, .inl rfl, rdr_own h, fun b hb => (rw_block h hb).2.1⟩
end Go.Proofs.YtlllkjbbldhddaaDoor

set_option linter.unusedSimpArgs false
set_option linter.unusedVariables false
namespace Go.Proofs.YtlllkjbbldhddaaDoor
open Go.RowKit Go.Lib

/-- No two rows of kids are one. -/
def KdAp (q : List (Nd × Value)) : Prop := q.Pairwise fun a b => ∀ g, a.2.ownBlock = some g → b.2.ownBlock ≠ some g
/-- An expression that is answered: all of its memory is young, no two rows of kids are one. -/
structure ExO (w : World) (v : Value) (l : List Nd) (w' : World) : Prop where
  ex : ∃ q : List (Nd × Value), q.map (·.1) = l ∧ OwnP w' w.heap.size v q ∧ KdAp q
  below : Below w.heap.size w w'
theorem ExO.own {w w' : World} {v : Value} {l : List Nd} (h : ExO w v l w') : OwnN w' w.heap.size v l := let ⟨q, h1, h2, _⟩ := h.ex; ⟨q, h1, h2⟩
end Go.Proofs.YtlllkjbbldhddaaDoor
