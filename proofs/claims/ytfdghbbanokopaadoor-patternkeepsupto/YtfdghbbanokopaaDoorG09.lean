/-
  BkX, ApRowT, ApTxW.
-/
import Derived.Shelf.Unicode.DecodeSlow
import Derived.Laws.RangeAny
import Derived.Shelf.Strconv.Itoa0
import Derived.Shelf.Unicode.DecodeAny
import Derived.Test.YtfdghbbanokopaaDoorProg
import Derived.WalkKit
import Derived.Deep.DeepFit
import Derived.Lib.OthersKept
import Derived.Deep.AppendLies
import Derived.Deep.OwnRows
import Derived.Laws.AppendOwnNone
import Derived.Below
import Derived.Deep.RegionLaw
import Derived.Lib.SlBytesRow
import Derived.Test.YtfdghbbanokopaaDoorG01
import Derived.Test.YtfdghbbanokopaaDoorG02
import Derived.Test.YtfdghbbanokopaaDoorG03
import Derived.Test.YtfdghbbanokopaaDoorG06
import Derived.Test.YtfdghbbanokopaaDoorG07
import Derived.Test.YtfdghbbanokopaaDoorG08
set_option linter.unusedSimpArgs false
set_option linter.unusedVariables false
namespace Go.Proofs.YtfdghbbanokopaaDoor
open Go.RowKit Go.Lib

/-- A row: its value, how many it holds, its cells. -/
abbrev Rw := Value × Nat × List Value
def vA : Value → Option Addr
  | .slice a _ _ => a
  | _ => none
def vC : Value → Nat
  | .slice _ _ c => c
  | _ => 0
def rw0 : Rw := (.slice none 0 0, 0, [])
structure RwL (w : World) (base : Nat) (e : TypeId) (size : Nat) (R : List Rw) : Prop where
  own : ∀ r ∈ R, w.ownsRow base e size r.1 r.2.1 r.2.2
  ap : R.Pairwise fun r s => ∀ b, r.1.ownBlock = some b → s.1.ownBlock ≠ some b
theorem rw_eta {w : World} {base : Nat} {e : TypeId} {size n : Nat} {v : Value} {xs : List Value} (h : w.ownsRow base e size v n xs) : v = .slice (vA v) n (vC v) := by
  obtain ⟨ao, cap, rfl⟩ := rw_form h
  rfl
theorem vA_blk {v : Value} {n c : Nat} (hv : v = .slice (vA v) n c) {a : Addr} (h : vA v = some a) : v.ownBlock = some a.block := by
  rw [hv, h]; rfl
theorem gd_rw {R : List Rw} {k : Nat} (hk : k < R.length) : R.getD k rw0 = R[k] := by simp [hk]
theorem offN_bd (len : Nat → Nat) (M n : Nat) (h : ∀ k, k < n → len k ≤ M) : offN len n ≤ M * n := by
  induction n with
  | zero => simp [offN]
  | succ n ih =>
    have h1 := ih fun k hk => h k (by omega)
    have h2 := h n (by omega)
    have e1 : offN len (n + 1) = offN len n + len n := rfl
    rw [e1, Nat.mul_succ]; omega
theorem RwL.rows {w : World} {base : Nat} {e eL : TypeId} {size : Nat} {R : List Rw} (h : RwL w base e size R) {B : Nat} {cs : Array Value} {fr : Nat × Nat} (hB : w.heap[B]? = some (.cells cs eL fr)) (hne : e ≠ eL) : RwsAp R.length B (fun k => vA (R.getD k rw0).1) := by
  refine ⟨fun k k' hk hk' hkk a a' ha ha' he => ?_, fun k hk a ha he => ?_⟩
  · simp only [gd_rw hk] at ha
    simp only [gd_rw hk'] at ha'
    have o1 := vA_blk (rw_eta (h.own _ (List.getElem_mem hk))) ha
    have o2 := vA_blk (rw_eta (h.own _ (List.getElem_mem hk'))) ha'
    have hp := List.pairwise_iff_getElem.1 h.ap
    rcases Nat.lt_or_gt_of_ne hkk with hl | hl
    · exact hp k k' hk hk' hl _ o1 (by rw [he]; exact o2)
    · exact hp k' k hk' hk hl _ o2 (by rw [← he]; exact o1)
  · simp only [gd_rw hk] at ha
    have o1 := vA_blk (rw_eta (h.own _ (List.getElem_mem hk))) ha
    obtain ⟨_, _, cap, cur, _, hc, _⟩ := rw_block (h.own _ (List.getElem_mem hk)) o1
    rw [he, hB] at hc
    injection hc with hc
    injection hc with _ hc _
    exact hne hc.symm
theorem RwL.p1 {w : World} {base : Nat} {e : TypeId} {size fld : Nat} {R : List Rw} (h : RwL w base e size R) {B : Nat} (hB : B < w.heap.size) (hc : ∀ k, k < R.length → w.cell? ⟨B, k, none⟩ = some (R.getD k rw0).1) :
    P1 w base e size fld R.length B (fun k => vA (R.getD k rw0).1) (fun k => vC (R.getD k rw0).1) (fun k => (R.getD k rw0).2.1) (offN fun k => (R.getD k rw0).2.1) (fun k => (R.getD k rw0).2.2) 0 0 w := by
  refine ⟨fun k hk => ?_, fun k hk => ?_, fun k hk => by omega, fun j hj => by omega, Below.refl _ _, hB, fun q _ _ => rfl⟩
  · have ho := h.own _ (List.getElem_mem hk)
    have := rw_eta ho
    rw [gd_rw hk, ← this]; exact ho
  · have := rw_eta (h.own _ (List.getElem_mem hk))
    rw [hc k hk, gd_rw hk, ← this]
theorem hdr_cell {w : World} {base : Nat} {eL : TypeId} {R : List Rw} {B cp : Nat} (hh : w.ownsRow base eL 1 (.slice (some ⟨B, 0, none⟩) R.length cp) R.length (R.map (·.1))) : ∀ k, k < R.length → w.cell? ⟨B, k, none⟩ = some (R.getD k rw0).1 := fun k hk => by
  have := (rdr_own hh).cell (b := B) rfl (i := k) (u := (R.getD k rw0).1) (by rw [List.getElem?_map, List.getElem?_eq_getElem hk, gd_rw hk]; rfl)
  exact this
/-- What a call of Apart's parts keeps. -/
def Kpt (R : List Rw) (w w' : World) : Prop := ∀ q, q < w.heap.size → (∀ r ∈ R, r.1.ownBlock ≠ some q) → w'.heap[q]? = w.heap[q]?
theorem kpt_of {w w' : World} {base : Nat} {e : TypeId} {size : Nat} {R : List Rw} (h : RwL w base e size R) (ho : ∀ q, q < w.heap.size → (∀ k, k < R.length → ∀ a, vA (R.getD k rw0).1 = some a → a.block ≠ q) → w'.heap[q]? = w.heap[q]?) : Kpt R w w' := fun q hq hr => ho q hq fun k hk a ha he => by
  rw [gd_rw hk] at ha
  have o1 := vA_blk (rw_eta (h.own _ (List.getElem_mem hk))) ha
  exact hr _ (List.getElem_mem hk) (he ▸ o1)
/-- The book's own memory. -/
structure BkH (w : World) (base Q : Nat) (hn hi : Value) (VN VI : List Value) : Prop where
  blk : w.heap[Q]? = some (.cells #[hn, hi, .slice none 0 0, .slice none 0 0, .slice none 0 0, .slice none 0 0] 67 (0, 0))
  hN : w.ownsRow base 22 1 hn VN.length VN
  hI : w.ownsRow base 48 1 hi VI.length VI
/-- A row is not in a block of another type. -/
theorem own_typ {w : World} {base : Nat} {e T : TypeId} {s n : Nat} {v : Value} {xs : List Value} {c : Array Value} {fr : Nat × Nat} {M : Nat} (h : w.ownsRow base e s v n xs) (hb : w.heap[M]? = some (.cells c T fr)) (hne : e ≠ T) : v.ownBlock ≠ some M := fun hv => by
  obtain ⟨_, _, cap, cur, _, hc, _⟩ := rw_block h hv
  rw [hb] at hc
  injection hc with hc
  injection hc with _ hc _
  exact hne hc.symm
theorem RwL.keep {w w' : World} {base : Nat} {e : TypeId} {size : Nat} {R : List Rw} (h : RwL w base e size R) (hk : ∀ r ∈ R, ∀ b, r.1.ownBlock = some b → w'.heap[b]? = w.heap[b]?) : RwL w' base e size R :=
  ⟨fun r hr => rw_same (h.own r hr) (hk r hr), h.ap⟩

end Go.Proofs.YtfdghbbanokopaaDoor

namespace Go.Proofs.YtfdghbbanokopaaDoor
open Go.RowKit Go.Lib

structure Slb (p : Prop) : Prop where
  out : p
/-- What Book.Expr keeps: all but its own memory. -/
def BkK (w w' : World) : Prop := ∀ (b : Nat) (o : Obj), w.heap[b]? = some o → (∀ cs e fr, o = .cells cs e fr → e ≠ 67 ∧ e ≠ 22 ∧ e ≠ 48) → w'.heap[b]? = some o
theorem BkK.refl (w : World) : BkK w w := fun _ _ h _ => h
theorem BkK.trans {a b c : World} (h : BkK a b) (k : BkK b c) : BkK a c := fun n o h1 h2 => k n o (h n o h1 h2) h2
theorem BkK.alloc (w : World) (o : Obj) : BkK w (w.alloc o) := fun b o' h _ => (Deep.blk_alloc_lt _ _ _ (lt_of_block h)).trans h
theorem BkK.row {w w' : World} (h : BkK w w') {base : Nat} {e : TypeId} {s n : Nat} {v : Value} {xs : List Value} (ho : w.ownsRow base e s v n xs) (h1 : e ≠ 67) (h2 : e ≠ 22) (h3 : e ≠ 48) : w'.ownsRow base e s v n xs :=
  rw_same ho fun b hb => by
    obtain ⟨_, _, cap, cur, _, hc, _⟩ := rw_block ho hb
    rw [hc]
    exact h b _ hc fun cs e' fr he => by cases he; exact ⟨h1, h2, h3⟩
theorem BkK.ownP {w w' : World} (h : BkK w w') {base : Nat} {v : Value} {q : List (Nd × Value)} (ho : OwnP w base v q) : OwnP w' base v q :=
  ⟨h.row ho.row (by decide) (by decide) (by decide), fun y hy => h.row (ho.kids y hy) (by decide) (by decide) (by decide)⟩
theorem BkK.rwl {w w' : World} (h : BkK w w') {base : Nat} {e : TypeId} {s : Nat} {R : List Rw} (ho : RwL w base e s R) (h1 : e ≠ 67) (h2 : e ≠ 22) (h3 : e ≠ 48) : RwL w' base e s R :=
  ⟨fun r hr => h.row (ho.own r hr) h1 h2 h3, ho.ap⟩
/-- A header that has grown, then the book's cell set. -/
theorem BkH.putI {w w7 : World} {base Q : Nat} {hn hi : Value} {VN VI : List Value} (h : BkH w base Q hn hi VN VI) (hQ : base ≤ Q) {o : Obj} {u : Value} {g cap : Nat} (hg : (w.alloc o).grownBy w7 hi.ownBlock) (ho : w7.ownsRow base 48 1 (.slice (some ⟨g, 0, none⟩) (VI.length + 1) cap) (VI.length + 1) (VI ++ [u])) :
    BkH (w7.setCell ⟨Q, 1, none⟩ (.slice (some ⟨g, 0, none⟩) (VI.length + 1) cap)) base Q hn (.slice (some ⟨g, 0, none⟩) (VI.length + 1) cap) VN (VI ++ [u]) ∧ Below base w (w7.setCell ⟨Q, 1, none⟩ (.slice (some ⟨g, 0, none⟩) (VI.length + 1) cap)) ∧ BkK w (w7.setCell ⟨Q, 1, none⟩ (.slice (some ⟨g, 0, none⟩) (VI.length + 1) cap)) := by
  have hl := lt_of_block h.blk
  have hk : ∀ b, b < w.heap.size → hi.ownBlock ≠ some b → w7.heap[b]? = w.heap[b]? := fun b hb hne => (hg.block b (by rw [World.size_alloc]; omega) (fun e => hne e.symm)).trans (Deep.blk_alloc_lt _ _ _ hb)
  have hb7 := (hk Q hl (own_typ h.hI h.blk (by decide))).trans h.blk
  have hb8 := heap_setCell_same w7 Q 1 _ _ (.slice (some ⟨g, 0, none⟩) (VI.length + 1) cap) hb7
  have oth : ∀ b, b ≠ Q → (w7.setCell ⟨Q, 1, none⟩ (.slice (some ⟨g, 0, none⟩) (VI.length + 1) cap)).heap[b]? = w7.heap[b]? := fun b hb => Deep.blk_setCell_other _ _ _ _ hb
  refine ⟨⟨by simpa using hb8, ?_, ?_⟩, ?_, fun b o' hb hty => ?_⟩
  · refine rw_same h.hN fun b hb => ?_
    obtain ⟨_, hlb, cap', cur, _, hc, _⟩ := rw_block h.hN hb
    rw [oth b (fun e => by subst e; exact own_typ h.hN h.blk (by decide) hb), hk b hlb (own_typ h.hI hc (by decide))]
  · rw [show (VI ++ [u]).length = VI.length + 1 by simp]
    exact rw_same ho fun b hb => oth b (fun e => by subst e; exact own_typ ho hb7 (by decide) hb)
  · have hb1 : Below base w w7 := by
      have hb0 : base ≤ w.heap.size := by omega
      exact (((Below.refl base w).alloc hb0 o).trans (Below.grown (Below.refl base _) hg (by rw [World.size_alloc]; omega) (fun j hj => by have := rw_block h.hI hj; exact this.1)))
    exact hb1.setCell (p := ⟨Q, 1, none⟩) hQ _
  · have hlb := lt_of_block hb
    have h1 : b ≠ Q := fun e => by
      subst e
      rw [h.blk] at hb
      injection hb with hb
      exact (hty _ _ _ hb.symm).1 rfl
    rw [oth b h1, hk b hlb (fun e => ?_)]
    · exact hb
    · obtain ⟨_, _, cap', cur, _, hc, _⟩ := rw_block h.hI e
      rw [hc] at hb
      injection hb with hb
      exact (hty _ _ _ hb.symm).2.2 rfl
theorem BkH.putN {w w7 : World} {base Q : Nat} {hn hi : Value} {VN VI : List Value} (h : BkH w base Q hn hi VN VI) (hQ : base ≤ Q) {o : Obj} {u : Value} {g cap : Nat} (hg : (w.alloc o).grownBy w7 hn.ownBlock) (ho : w7.ownsRow base 22 1 (.slice (some ⟨g, 0, none⟩) (VN.length + 1) cap) (VN.length + 1) (VN ++ [u])) :
    BkH (w7.setCell ⟨Q, 0, none⟩ (.slice (some ⟨g, 0, none⟩) (VN.length + 1) cap)) base Q (.slice (some ⟨g, 0, none⟩) (VN.length + 1) cap) hi (VN ++ [u]) VI ∧ Below base w (w7.setCell ⟨Q, 0, none⟩ (.slice (some ⟨g, 0, none⟩) (VN.length + 1) cap)) ∧ BkK w (w7.setCell ⟨Q, 0, none⟩ (.slice (some ⟨g, 0, none⟩) (VN.length + 1) cap)) := by
  have hl := lt_of_block h.blk
  have hk : ∀ b, b < w.heap.size → hn.ownBlock ≠ some b → w7.heap[b]? = w.heap[b]? := fun b hb hne => (hg.block b (by rw [World.size_alloc]; omega) (fun e => hne e.symm)).trans (Deep.blk_alloc_lt _ _ _ hb)
  have hb7 := (hk Q hl (own_typ h.hN h.blk (by decide))).trans h.blk
  have hb8 := heap_setCell_same w7 Q 0 _ _ (.slice (some ⟨g, 0, none⟩) (VN.length + 1) cap) hb7
  have oth : ∀ b, b ≠ Q → (w7.setCell ⟨Q, 0, none⟩ (.slice (some ⟨g, 0, none⟩) (VN.length + 1) cap)).heap[b]? = w7.heap[b]? := fun b hb => Deep.blk_setCell_other _ _ _ _ hb
  refine ⟨⟨by simpa using hb8, ?_, ?_⟩, ?_, fun b o' hb hty => ?_⟩
  · rw [show (VN ++ [u]).length = VN.length + 1 by simp]
    exact rw_same ho fun b hb => oth b (fun e => by subst e; exact own_typ ho hb7 (by decide) hb)
  · refine rw_same h.hI fun b hb => ?_
    obtain ⟨_, hlb, cap', cur, _, hc, _⟩ := rw_block h.hI hb
    rw [oth b (fun e => by subst e; exact own_typ h.hI h.blk (by decide) hb), hk b hlb (own_typ h.hN hc (by decide))]
  · have hb1 : Below base w w7 := by
      have hb0 : base ≤ w.heap.size := by omega
      exact (((Below.refl base w).alloc hb0 o).trans (Below.grown (Below.refl base _) hg (by rw [World.size_alloc]; omega) (fun j hj => by have := rw_block h.hN hj; exact this.1)))
    exact hb1.setCell (p := ⟨Q, 0, none⟩) hQ _
  · have hlb := lt_of_block hb
    have h1 : b ≠ Q := fun e => by
      subst e
      rw [h.blk] at hb
      injection hb with hb
      exact (hty _ _ _ hb.symm).1 rfl
    rw [oth b h1, hk b hlb (fun e => ?_)]
    · exact hb
    · obtain ⟨_, _, cap', cur, _, hc, _⟩ := rw_block h.hN e
      rw [hc] at hb
      injection hb with hb
      exact (hty _ _ _ hb.symm).2.1 rfl
end Go.Proofs.YtfdghbbanokopaaDoor

set_option linter.unusedSimpArgs false
set_option linter.unusedVariables false
namespace Go.Proofs.YtfdghbbanokopaaDoor
open Go.RowKit

/-- The first m of a row bear their marks. -/
def MkT (V : Nat → Value) (size fld : Nat) (xs : List Value) (from_ m : Nat) : Prop := ∀ j, j < m → xs[j * size + fld]? = some (V (from_ + j))

/-- The rows, the first i of them marked, and the first j of row i. -/
structure T1 (V : Nat → Value) (w : World) (base : Nat) (e : TypeId) (size fld n B : Nat) (A : Nat → Option Addr) (C len off : Nat → Nat) (X : Nat → List Value) (i j : Nat) (wr : World) : Prop where
  own : ∀ k, k < n → wr.ownsRow base e size (.slice (A k) (len k) (C k)) (len k) (X k)
  cel : ∀ k, k < n → wr.cell? ⟨B, k, none⟩ = some (.slice (A k) (len k) (C k))
  mks : ∀ k, k < i → MkT V size fld (X k) (off k) (len k)
  mi : MkT V size fld (X i) (off i) j
  bel : Below base w wr
  hB : B < w.heap.size
  oth : ∀ q, q < w.heap.size → (∀ k, k < n → ∀ a, A k = some a → a.block ≠ q) → wr.heap[q]? = w.heap[q]?
theorem T1.next {V : Nat → Value} {w : World} {base : Nat} {e : TypeId} {size fld n B : Nat} {A : Nat → Option Addr} {C len off : Nat → Nat} {X : Nat → List Value} {i : Nat} {wr : World} (h : T1 V w base e size fld n B A C len off X i (len i) wr) : T1 V w base e size fld n B A C len off X (i + 1) 0 wr := by
  refine ⟨h.own, h.cel, fun k hk => ?_, fun j hj => by omega, h.bel, h.hB, h.oth⟩
  by_cases hki : k = i
  · subst hki; exact h.mi
  · exact h.mks k (by omega)
/-- A cell of row i is written. -/
theorem T1.put {V : Nat → Value} {w : World} {base : Nat} {e : TypeId} {size fld n B : Nat} {A : Nat → Option Addr} {C len off : Nat → Nat} {X : Nat → List Value} {i j : Nat} {wr : World} (h : T1 V w base e size fld n B A C len off X i j wr) (hap : RwsAp n B A) (hi : i < n) {g : Nat} (hA : A i = some ⟨g, 0, none⟩) (hf : fld < size) (q : Nat) (hq : j * size ≤ q) (x : Value) :
    T1 V w base e size fld n B A C len off (fun k => if k = i then (X i).set q x else X k) i j (wr.setCell ⟨g, q, none⟩ x) := by
  have hoi := h.own i hi
  rw [hA] at hoi
  have hb := rw_block hoi (b := g) rfl
  have hlow : ∀ j', j' < j → j' * size + fld < q := by
    intro j' hj'
    have : (j' + 1) * size ≤ j * size := Nat.mul_le_mul_right _ (by omega)
    rw [Nat.succ_mul] at this
    omega
  refine ⟨fun k hk => ?_, fun k hk => ?_, fun k hk => ?_, fun j' hj' => ?_, h.bel.setCell hb.1 _, h.hB, fun p hp hk => ?_⟩
  · by_cases hki : k = i
    · subst hki
      rw [if_pos rfl, hA]
      exact rw_put hoi q x
    · rw [if_neg hki]
      refine rw_same (h.own k hk) fun b hbk => ?_
      obtain ⟨a, ha, rfl⟩ := own_blk.1 hbk
      exact Deep.blk_setCell_other _ _ _ _ (show a.block ≠ g from hap.ap k i hk hi hki a ⟨g, 0, none⟩ ha hA)
  · rw [World.cell?_of_block (w := wr) (Deep.blk_setCell_other _ _ _ _ (fun e => hap.out i hi _ hA e.symm))]
    exact h.cel k hk
  · have hki : k ≠ i := by omega
    simp only [if_neg hki]
    exact h.mks k hk
  · have := hlow j' hj'
    simp only [if_true]
    rw [List.getElem?_set_ne (by omega)]
    exact h.mi j' hj'
  · rw [Deep.blk_setCell_other _ _ _ _ (show p ≠ g from fun e' => hk i hi _ hA e'.symm)]
    exact h.oth p hp hk
theorem T1.mark {V : Nat → Value} {w : World} {base : Nat} {e : TypeId} {size fld n B : Nat} {A : Nat → Option Addr} {C len off : Nat → Nat} {X : Nat → List Value} {i j : Nat} {wr : World} (h : T1 V w base e size fld n B A C len off X i j wr) (hv : (X i)[j * size + fld]? = some (V (off i + j))) : T1 V w base e size fld n B A C len off X i (j + 1) wr := by
  refine ⟨h.own, h.cel, h.mks, fun j' hj' => ?_, h.bel, h.hB, h.oth⟩
  by_cases hjj : j' = j
  · subst hjj; exact hv
  · exact h.mi j' (by omega)

/-- The rows marked, the first i of them grown. -/
structure T2 (V : Nat → Value) (w : World) (base : Nat) (e eL : TypeId) (size fld n B : Nat) (A : Nat → Option Addr) (C len off : Nat → Nat) (X : Nat → List Value) (i : Nat) (vg : Value) (gs : List Value) (wr : World) : Prop where
  own : ∀ k, i ≤ k → k < n → wr.ownsRow base e size (.slice (A k) (len k) (C k)) (len k) (X k)
  rdr : ∀ k, k < n → Rdr wr e (.slice (A k) (len k) (C k)) (X k)
  cel : ∀ k, k < n → wr.cell? ⟨B, k, none⟩ = some (.slice (A k) (len k) (C k))
  gro : wr.ownsRow base eL 1 vg i gs
  gfr : ∀ b, vg.ownBlock = some b → w.heap.size ≤ b
  row : ∀ k, k < i → ∃ h c Y, gs[k]? = some (.slice (some ⟨h, 0, none⟩) (len k + 12) c) ∧ wr.ownsRow base e size (.slice (some ⟨h, 0, none⟩) (len k + 12) c) (len k + 12) Y ∧
    (∀ j, j < 12 → Y[(len k + j) * size + fld]? = some (V (off n + 12 * k + j))) ∧ ∀ k', i ≤ k' → k' < n → ∀ a, A k' = some a → a.block ≠ h
  bel : Below base w wr
  hB : B < w.heap.size
  oth : ∀ q, q < w.heap.size → (∀ k, k < n → ∀ a, A k = some a → a.block ≠ q) → wr.heap[q]? = w.heap[q]?
theorem T1.done {V : Nat → Value} {w : World} {base : Nat} {e eL : TypeId} {size fld n B : Nat} {A : Nat → Option Addr} {C len off : Nat → Nat} {X : Nat → List Value} {j : Nat} {wr : World} (h : T1 V w base e size fld n B A C len off X n j wr) : T2 V w base e eL size fld n B A C len off X 0 (.slice none 0 0) [] wr :=
  ⟨fun k _ hk => h.own k hk, fun k hk => rdr_own (h.own k hk), h.cel, World.ownsRow_nil _ _ _ _, (fun b hb => by cases hb), (fun k hk => by omega), h.bel, h.hB, h.oth⟩

/-- Row i, grown by j. -/
structure T3 (V : Nat → Value) (wr : World) (base : Nat) (e : TypeId) (size fld : Nat) (A : Option Addr) (c m : Nat) (xs : List Value) (from_ j : Nat) (vq : Value) (Z : List Value) (wq : World) : Prop where
  own : wq.ownsRow base e size vq (m + j) (xs ++ Z)
  mks : ∀ t, t < j → Z[t * size + fld]? = some (V (from_ + t))
  gb : wr.grownBy wq (Value.slice A m c).ownBlock
  blk : vq.ownBlock = (Value.slice A m c).ownBlock ∨ ∃ h, vq.ownBlock = some h ∧ wr.heap.size ≤ h
  old : Rdr wq e (.slice A m c) xs
  alt : ∀ b, (Value.slice A m c).ownBlock = some b → b < wr.heap.size
theorem T3.start {V : Nat → Value} {wr : World} {base : Nat} {e : TypeId} {size fld : Nat} {A : Option Addr} {c m : Nat} {xs : List Value} {from_ : Nat} (h : wr.ownsRow base e size (.slice A m c) m xs) : T3 V wr base e size fld A c m xs from_ 0 (.slice A m c) [] wr :=
  ⟨by simpa using h, fun t ht => by omega, ⟨rfl, rfl, rfl, Nat.le_refl _, fun _ _ _ => rfl⟩, .inl rfl, rdr_own h, fun b hb => (rw_block h hb).2.1⟩
theorem T3.step {V : Nat → Value} {wr : World} {base : Nat} {e : TypeId} {size fld : Nat} {A : Option Addr} {c m : Nat} {xs : List Value} {from_ j : Nat} {vq : Value} {Z : List Value} {wq w6 : World} {o : Obj} {g6 cap6 : Nat} {news : List Value} (h : T3 V wr base e size fld A c m xs from_ j vq Z wq) (hlx : xs.length = m * size)
    (hown : w6.ownsRow base e size (.slice (some ⟨g6, 0, none⟩) (m + j + 1) cap6) (m + j + 1) (xs ++ Z ++ news)) (hg : (wq.alloc o).grownBy w6 vq.ownBlock) (hd : vq.ownBlock = some g6 ∨ (g6 = (wq.alloc o).heap.size ∧ (wq.alloc o).grownBy w6 none))
    (hn : news[fld]? = some (V (from_ + j))) : T3 V wr base e size fld A c m xs from_ (j + 1) (.slice (some ⟨g6, 0, none⟩) (m + j + 1) cap6) (Z ++ news) w6 := by
  have hZ : Z.length = j * size := by
    have := h.own.1
    rw [List.length_append, hlx, Nat.add_mul] at this
    omega
  have hsz := h.gb.size
  have hb6 : ∀ k, k < wq.heap.size → some k ≠ vq.ownBlock → w6.heap[k]? = wq.heap[k]? := fun k hk hne => by
    rw [hg.block k (by rw [World.size_alloc]; omega) hne]
    exact Deep.blk_alloc_lt _ _ _ hk
  refine ⟨by rw [← List.append_assoc]; exact hown, fun t ht => ?_, ⟨hg.os.trans h.gb.os, hg.tape.trans h.gb.tape, hg.output.trans h.gb.output, ?_, fun k hk hne => ?_⟩, ?_, ?_, h.alt⟩
  · by_cases htj : t = j
    · subst htj
      rw [List.getElem?_append_right (by omega), hZ]
      rw [Nat.add_sub_cancel_left]
      exact hn
    · have h1 := h.mks t (by omega)
      have : t * size + fld < Z.length := (List.getElem?_eq_some_iff.1 h1).1
      rw [List.getElem?_append_left this]
      exact h1
  · have := hg.size; rw [World.size_alloc] at this; omega
  · rw [hb6 k (by omega) ?_]
    · exact h.gb.block k hk hne
    · rcases h.blk with h1 | ⟨q, h1, h2⟩
      · rw [h1]; exact hne
      · rw [h1]; intro e; cases e; omega
  · rcases hd with hd | ⟨hd, _⟩
    · have e : (Value.slice (some ⟨g6, 0, none⟩) (m + j + 1) cap6).ownBlock = vq.ownBlock := hd.symm
      rw [e]; exact h.blk
    · exact .inr ⟨g6, rfl, by rw [hd, World.size_alloc]; omega⟩
  · rcases hd with hd | ⟨hd, hg0⟩
    · rcases h.blk with h1 | ⟨q, h1, h2⟩
      · refine rdr_prefix (ys := Z ++ news) (b := 0) (c := 0) (m := 0) (by rw [← List.append_assoc]; exact hown) ?_
        exact hd.symm.trans h1
      · refine h.old.same fun b hb => hb6 b (h.old.lt hb) ?_
        intro e
        rw [h1] at e
        cases e
        have := h.alt _ hb
        omega
    · refine h.old.same fun b hb => ?_
      rw [hg0.block b (by rw [World.size_alloc]; have := h.old.lt hb; omega) (by simp)]
      exact Deep.blk_alloc_lt _ _ _ (h.old.lt hb)

/-- Row i is grown by twelve, and put into the list of the grown. -/
theorem T2.step {V : Nat → Value} {w : World} {base : Nat} {e eL : TypeId} {size fld n B : Nat} {A : Nat → Option Addr} {C len off : Nat → Nat} {X : Nat → List Value} {i : Nat} {vg : Value} {gs : List Value} {wr wq w7 : World} {h9 c9 g7 cap7 : Nat} {Z : List Value} {o : Obj}
    (h : T2 V w base e eL size fld n B A C len off X i vg gs wr) (hap : RwsAp n B A) (hne : e ≠ eL) (hi : i < n) (hbase : base ≤ wr.heap.size)
    (h3 : T3 V wr base e size fld (A i) (C i) (len i) (X i) (off n + 12 * i) 12 (.slice (some ⟨h9, 0, none⟩) (len i + 12) c9) Z wq)
    (hown : w7.ownsRow base eL 1 (.slice (some ⟨g7, 0, none⟩) (i + 1) cap7) (i + 1) (gs ++ [.slice (some ⟨h9, 0, none⟩) (len i + 12) c9])) (hg : (wq.alloc o).grownBy w7 vg.ownBlock) (hd : vg.ownBlock = some g7 ∨ (g7 = (wq.alloc o).heap.size ∧ (wq.alloc o).grownBy w7 none)) :
    T2 V w base e eL size fld n B A C len off X (i + 1) (.slice (some ⟨g7, 0, none⟩) (i + 1) cap7) (gs ++ [.slice (some ⟨h9, 0, none⟩) (len i + 12) c9]) w7 := by
  have hs1 := h3.gb.size
  have hs2 := hg.size
  rw [World.size_alloc] at hs2
  have hgl : gs.length = i := by have := h.gro.1; omega
  -- the list of the grown, behind the growth of row i
  have hgq : wq.ownsRow base eL 1 vg i gs := by
    refine rw_same h.gro fun b hb => h3.gb.block b (rw_block h.gro hb).2.1 ?_
    intro e'
    exact (h.rdr i hi).ne h.gro hne e'.symm hb.symm
  have st : ∀ b, b < wr.heap.size → some b ≠ (Value.slice (A i) (len i) (C i)).ownBlock → some b ≠ vg.ownBlock → w7.heap[b]? = wr.heap[b]? := fun b hb h1 h2 => by
    rw [hg.block b (by rw [World.size_alloc]; omega) h2, Deep.blk_alloc_lt _ _ _ (by omega)]
    exact h3.gb.block b hb h1
  have st2 : ∀ b, b < wq.heap.size → some b ≠ vg.ownBlock → w7.heap[b]? = wq.heap[b]? := fun b hb h2 => by
    rw [hg.block b (by rw [World.size_alloc]; omega) h2, Deep.blk_alloc_lt _ _ _ hb]
  have apart : ∀ k, k < n → k ≠ i → ∀ b, (Value.slice (A k) (len k) (C k)).ownBlock = some b → some b ≠ (Value.slice (A i) (len i) (C i)).ownBlock := fun k hk hki b hb e' => by
    obtain ⟨a, ha, rfl⟩ := own_blk.1 hb
    obtain ⟨a', ha', hb'⟩ := own_blk.1 e'.symm
    exact hap.ap k i hk hi hki a a' ha ha' hb'.symm
  have hX : (X i).length = len i * size := (h.own i (Nat.le_refl _) hi).1
  refine ⟨fun k hk hkn => ?_, fun k hk => ?_, fun k hk => ?_, hown, fun b hb => ?_, fun k hk => ?_, ?_, h.hB, fun q hq hk => ?_⟩
  · exact rw_same (h.own k (by omega) hkn) fun b hb => st b ((h.rdr k hkn).lt hb) (apart k hkn (by omega) b hb) ((h.rdr k hkn).ne h.gro hne hb)
  · by_cases hki : k = i
    · subst hki
      exact h3.old.same fun b hb => st2 b (h3.old.lt hb) (h3.old.ne hgq hne hb)
    · exact (h.rdr k hk).same fun b hb => st b ((h.rdr k hk).lt hb) (apart k hk hki b hb) ((h.rdr k hk).ne h.gro hne hb)
  · have n1 : some B ≠ (Value.slice (A i) (len i) (C i)).ownBlock := by
      intro e'
      obtain ⟨a, ha, hb⟩ := own_blk.1 e'.symm
      exact hap.out i hi a ha hb
    have n2 : some B ≠ vg.ownBlock := fun e' => by have := h.gfr B e'.symm; have := h.hB; omega
    exact (World.cell?_of_block (w := wr) (a := ⟨B, k, none⟩) (st B (by have := h.hB; have := h.bel.size; omega) n1 n2)).trans (h.cel k hk)
  · cases hb
    rcases hd with hd | ⟨hd, _⟩
    · exact h.gfr _ hd
    · have := h.bel.size
      have e9 : g7 = wq.heap.size + 1 := by rw [hd, World.size_alloc]
      show w.heap.size ≤ g7
      omega
  · by_cases hki : k = i
    · subst hki
      refine ⟨h9, c9, X k ++ Z, by rw [List.getElem?_append_right (by omega), hgl]; simp, ?_, fun j hj => ?_, fun k' hk1 hk2 a ha e' => ?_⟩
      · exact rw_same h3.own fun b hb => st2 b (rw_block h3.own hb).2.1 (rw_ne h3.own hgq hne hb)
      · rw [List.getElem?_append_right (by rw [hX, Nat.add_mul]; omega), hX]
        have e1 : (len k + j) * size + fld - len k * size = j * size + fld := by rw [Nat.add_mul]; omega
        rw [e1, h3.mks j hj]
      · have hb : (Value.slice (A k') (len k') (C k')).ownBlock = some h9 := own_blk.2 ⟨a, ha, e'⟩
        rcases h3.blk with h1 | ⟨q, h1, h2⟩
        · exact apart k' hk2 (by omega) h9 hb h1
        · cases h1
          have h2 : wr.heap.size ≤ h9 := h2
          have := (h.rdr k' hk2).lt hb
          omega
    · obtain ⟨hh, c, Y, h1, h2, h4, h5⟩ := h.row k (by omega)
      refine ⟨hh, c, Y, by rw [List.getElem?_append_left (by omega)]; exact h1, ?_, h4, fun k' hk1 hk2 a ha => h5 k' (by omega) hk2 a ha⟩
      refine rw_same h2 fun b hb => st b (rw_block h2 hb).2.1 ?_ (rw_ne h2 h.gro hne hb)
      cases hb
      intro e'
      obtain ⟨a, ha, hb⟩ := own_blk.1 e'.symm
      exact h5 i (Nat.le_refl _) hi a ha hb
  · have b1 : Below base w wq := h.bel.grown h3.gb hbase (fun k hk => (rw_block (h.own i (Nat.le_refl _) hi) hk).1)
    exact (b1.alloc (by omega) _).grown hg (by rw [World.size_alloc]; omega) (fun k hk => (rw_block h.gro hk).1)
  · rw [st q (by have := h.bel.size; omega) ?_ (fun e' => by have := h.gfr q e'.symm; omega)]
    · exact h.oth q hq hk
    · intro e'
      obtain ⟨a, ha, hb⟩ := own_blk.1 e'.symm
      exact hk i hi a ha hb
/-- Something has been made beside it. -/
theorem T1.far {V : Nat → Value} {w : World} {base : Nat} {e : TypeId} {size fld n B : Nat} {A : Nat → Option Addr} {C len off : Nat → Nat} {X : Nat → List Value} {i j : Nat} {wr wq : World} (h : T1 V w base e size fld n B A C len off X i j wr) (hbase : base ≤ w.heap.size) (hb : Below wr.heap.size wr wq) : T1 V w base e size fld n B A C len off X i j wq := by
  have hs := h.bel.size
  refine ⟨fun k hk => ?_, fun k hk => ?_, h.mks, h.mi, h.bel.trans (hb.mono (by omega)), h.hB, fun q hq hk => ?_⟩
  · exact rw_same (h.own k hk) fun b hbk => hb.block b (rw_block (h.own k hk) hbk).2.1
  · rw [World.cell?_of_block (w := wr) (hb.block B (by have := h.hB; omega))]
    exact h.cel k hk
  · rw [hb.block q (by omega)]
    exact h.oth q hq hk
end Go.Proofs.YtfdghbbanokopaaDoor

set_option linter.unusedSimpArgs false
set_option linter.unusedVariables false
namespace Go.Proofs.YtfdghbbanokopaaDoor
open Go.RowKit Go.Lib

/-- The text that a number has. -/
def txB (k : Nat) : ByteArray := ⟨#[35, UInt8.ofNat (k % 256), UInt8.ofNat (k / 256 % 256), UInt8.ofNat (k / 65536 % 256)]⟩
theorem u8_mod (k : Nat) : (((UInt8.ofNat (k % 256)).toNat : Nat) : Int) = (k : Int) % 256 := by
  rw [UInt8.toNat_ofNat_of_lt' (by omega : k % 256 < 256)]; omega
theorem txB_conv (k : Nat) (b : Nat) (W : World) (hb : W.heap[b]? = some (.cells #[.int .u8 35, .int .u8 ((k : Int) % 256), .int .u8 ((k : Int) / 256 % 256), .int .u8 ((k : Int) / 65536 % 256)] 5 (0, 0))) : (convert 153 9 (.slice (some ⟨b, 0, none⟩) 4 4)).run Tryd.prog W = .ok (.string (txB k)) W := by
  have := Lib.run_convert_whole (P := Tryd.prog) W 153 5 9 Tryd.underlying153 Tryd.underlying5 Tryd.underlying9 b 0 (txB k) (fun i hi => ?_) 4
  · exact this
  · have h2 : i < 4 := hi
    have e1 := u8_mod k
    have e2 := u8_mod (k / 256)
    have e3 := u8_mod (k / 65536)
    match i, h2 with
    | 0, _ => simp [World.cell?, hb]; rfl
    | 1, _ => simp [World.cell?, hb]; show _ = (((UInt8.ofNat (k % 256)).toNat : Nat) : Int); rw [e1]
    | 2, _ => simp [World.cell?, hb]; show _ = (((UInt8.ofNat (k / 256 % 256)).toNat : Nat) : Int); rw [e2]; omega
    | 3, _ => simp [World.cell?, hb]; show _ = (((UInt8.ofNat (k / 65536 % 256)).toNat : Nat) : Int); rw [e3]; omega

set_option maxRecDepth 100000 in
set_option maxHeartbeats 1000000 in
theorem text_any (n : Nat) (hn : n ≤ 4611686018427387904) (w : World) :
    Calls Tryd.prog 83 #[.int .i64 n] w fun e w' => e = .returned (.string (txB n)) ∧ Below w.heap.size w w' := by
  have hcv := txB_conv n w.heap.size (w.alloc (.cells #[.int .u8 35, .int .u8 ((n : Int) % 256), .int .u8 ((n : Int) / 256 % 256), .int .u8 ((n : Int) / 65536 % 256)] 5)) (Deep.blk_alloc_new _ _)
  go_enter Tryd.func83, Tryd.ntmps83
  go_wp2
  go_ret
  exact ⟨rfl, (Below.refl _ _).alloc (Nat.le_refl _) _⟩
end Go.Proofs.YtfdghbbanokopaaDoor
