/-
  RmPure, SwPure, RmRd, BkX, BkR, RmE.
-/
import Derived.Shelf.Unicode.DecodeSlow
import Derived.Laws.RangeAny
import Derived.Shelf.Small.Bits
import Derived.Shelf.Strconv.Itoa0
import Derived.Shelf.LaysM
import Derived.Shelf.Strconv.Clone
import Derived.Shelf.Unicode.DecodeAny
import Derived.Shelf.Slices.CompactS
import Derived.Ground.SlsfProg
import Derived.Shelf.SlSortCmp.Insertion
import Derived.Shelf.SlSortCmp.SiftDown1
import Derived.Shelf.SlSortCmp.HeapSort1
import Derived.Shelf.SlSortCmp.Insertion1
import Derived.Shelf.SlSortCmp.Median1
import Derived.Shelf.SlSortCmp.Pivot1
import Derived.Shelf.SlSortCmp.ReverseRange1
import Derived.Shelf.SlSortCmp.PartialInsertion1
import Derived.Shelf.SlSortCmp.PartitionEqual1
import Derived.Shelf.SlSortCmp.Partition1
import Derived.Shelf.SlSortCmp.Pdq1
import Derived.Shelf.SlSortCmp.Whole1
import Derived.Test.YtpacjofepiojdaaDoorProg
import Derived.WalkKit
import Derived.Deep.DeepFit
import Derived.Lib.OthersKept
import Derived.Lib.RuneCountTail
import Derived.Deep.AppendLies
import Derived.Deep.OwnRows
import Derived.Laws.AppendOwnNone
import Derived.Deep.QuietTactic
import Derived.BigQuiet
import Derived.Deep.RegionWith
import Derived.Laws.DeepStrings4
import Derived.Below
import Derived.Deep.RegionLaw
import Derived.Test.YtpacjofepiojdaaDoorP01
import Derived.Test.YtpacjofepiojdaaDoorP02
import Derived.Test.YtpacjofepiojdaaDoorP03
import Derived.Test.YtpacjofepiojdaaDoorP04
import Derived.Test.YtpacjofepiojdaaDoorP05
import Derived.Test.YtpacjofepiojdaaDoorP06
import Derived.Test.YtpacjofepiojdaaDoorP07
import Derived.Test.YtpacjofepiojdaaDoorP08
set_option linter.unusedSimpArgs false
set_option linter.unusedVariables false
namespace Go.Proofs.YtpacjofepiojdaaDoor
open Go.RowKit Go.Lib

/-- The marks behind a list of numbers, and behind a list of nodes. -/
def spL (k : Nat) : List Int := (List.range k).map fun (j : Nat) => 7000 + (j : Int)
theorem spL_len (k : Nat) : (spL k).length = k := by simp [spL]
def exL (k : Nat) : List Nd := (List.range k).map fun (j : Nat) => ⟨7000 + (j : Int), 0, ⟨#[]⟩, []⟩
theorem exL_succ (k : Nat) : exL (k + 1) = exL k ++ [⟨7000 + (k : Int), 0, ⟨#[]⟩, []⟩] := by simp [exL, List.range_succ]
theorem exL_len (k : Nat) : (exL k).length = k := by simp [exL]

/-- Within the reach, with the marks. -/
structure FitR (l : List Nd) : Prop where
  len : l.length * 56 ≤ 140737488351232
  kids : ∀ x ∈ l, x.kids.length * 8 ≤ 140737488351232
  name : ∀ x ∈ l, x.name.size ≤ maxLen
theorem FitR.fit {l : List Nd} (h : FitR l) : Fit l := ⟨by have := h.len; omega, fun x hx => by have := h.kids x hx; omega, h.name⟩

theorem rm_block {w : World} {base : Nat} {e : TypeId} {s n : Nat} {v : Value} {xs : List Value} (h : w.ownsRow base e s v n xs) : ∀ b, v.ownBlock = some b → base ≤ b ∧ b < w.heap.size := by
  intro b hb
  rcases h.2 with ⟨rfl, _⟩ | ⟨g, cap, cur, rfl, h1, h2, _⟩
  · cases hb
  · simp [Value.ownBlock] at hb; subst hb; exact ⟨h1, lt_of_block h2⟩
theorem rm_same {w w' : World} {base : Nat} {e : TypeId} {s n : Nat} {v : Value} {xs : List Value} (h : w.ownsRow base e s v n xs) (hb : ∀ b, v.ownBlock = some b → w'.heap[b]? = w.heap[b]?) : w'.ownsRow base e s v n xs := by
  rcases h with ⟨h1, h2⟩
  refine ⟨h1, ?_⟩
  rcases h2 with h2 | ⟨g, cap, cur, rfl, hg, h3, r⟩
  · exact .inl h2
  · exact .inr ⟨g, cap, cur, rfl, hg, (hb g rfl).trans h3, r⟩
theorem rm_form {w : World} {base : Nat} {e : TypeId} {s n : Nat} {v : Value} {xs : List Value} (h : w.ownsRow base e s v n xs) : ∃ ao cap, v = .slice ao n cap := by
  rcases h.2 with ⟨rfl, h0⟩ | ⟨g', cap', cur, rfl, _⟩
  · exact ⟨none, 0, by rw [h0]⟩
  · exact ⟨_, _, rfl⟩
/-- In Roomy's first loop; the room's block is the first behind wC. -/
structure RMid (wC : World) (l : List Nd) (k : Nat) (vw vf vk : Value) (p : List (Nd × Value)) (ks : List Value) (wr : World) : Prop where
  blk : wr.heap[wC.heap.size]? = some (.cells #[vw, vf, vk] 88 (0, 0))
  full : OwnP wr (wC.heap.size + 1) vf p
  nodes : p.map (·.1) = l.take k
  klist : wr.ownsRow (wC.heap.size + 1) 61 1 vk k ks
  kids : ∀ i, i < k → OwnI wr (wC.heap.size + 1) (ks.getD i (.slice none 0 0)) ((l.getD i nd0).kids ++ spL 7)
  bel : Below wC.heap.size wC wr
  ap : KdAp p

theorem RMid.below {wC wr w' : World} {l : List Nd} {k : Nat} {vw vf vk : Value} {p : List (Nd × Value)} {ks : List Value} (h : RMid wC l k vw vf vk p ks wr) (hb : Below wr.heap.size wr w') : RMid wC l k vw vf vk p ks w' :=
  ⟨(hb.block _ (lt_of_block h.blk)).trans h.blk, h.full.below hb, h.nodes, ownsRow_below h.klist hb, fun i hi => (h.kids i hi).below hb, h.bel.trans (hb.mono h.bel.size), h.ap⟩

theorem ownP_same {w w' : World} {base R : Nat} {v : Value} {p : List (Nd × Value)} {u : Value} {o : Nat} (h : OwnP w base v p) (hR : R < base) (hw : w' = w.setCell ⟨R, o, none⟩ u) : OwnP w' base v p := by
  subst hw
  exact ⟨rm_same h.row fun b hb => Deep.blk_setCell_other _ _ _ _ (by have := (rm_block h.row b hb).1; show b ≠ R; omega), fun q hq => rm_same (h.kids q hq) fun b hb => Deep.blk_setCell_other _ _ _ _ (by have := (rm_block (h.kids q hq) b hb).1; show b ≠ R; omega)⟩

end Go.Proofs.YtpacjofepiojdaaDoor

set_option linter.unusedSimpArgs false
set_option linter.unusedVariables false
namespace Go.Proofs.YtpacjofepiojdaaDoor
open Go.RowKit Go.Lib

theorem own_block' {w : World} {base : Nat} {e : TypeId} {s n : Nat} {v : Value} {xs : List Value} (h : w.ownsRow base e s v n xs) : ∀ b, v.ownBlock = some b → base ≤ b ∧ b < w.heap.size := by
  intro b hb
  rcases h.2 with ⟨rfl, _⟩ | ⟨g, cap, cur, rfl, h1, h2, _⟩
  · cases hb
  · simp [Value.ownBlock] at hb; subst hb; exact ⟨h1, lt_of_block h2⟩
theorem row_form' {w : World} {base : Nat} {e : TypeId} {s n : Nat} {v : Value} {xs : List Value} (h : w.ownsRow base e s v n xs) : ∃ ao cap, v = .slice ao n cap := by
  rcases h.2 with ⟨rfl, h0⟩ | ⟨g', cap', cur, rfl, _⟩
  · exact ⟨none, 0, by rw [h0]⟩
  · exact ⟨_, _, rfl⟩

/-- The names' list, the number to stop at: where the function finds them. -/
structure Cst (w : World) (A Sb Nb : Nat) (stop : Int) (na : Option Addr) (nc : Nat) (names : List ByteArray) : Prop where
  sb : Sb < A
  nb : Nb < A
  stopC : w.cell? ⟨Sb, 0, none⟩ = some (.int .i64 stop)
  namesC : w.cell? ⟨Nb, 0, none⟩ = some (.slice na names.length nc)
  len : names.length ≤ nc ∧ nc ≤ maxLen
  row : names = [] ∨ ∃ b o, na = some ⟨b, o, none⟩ ∧ b < A ∧ ∀ j, j < names.length → w.cell? ⟨b, o + j, none⟩ = some (.string (names.getD j ⟨#[]⟩))
theorem Cst.below {w w' : World} {A Sb Nb : Nat} {stop : Int} {na : Option Addr} {nc : Nat} {names : List ByteArray} (h : Cst w A Sb Nb stop na nc names) (hb : Below A w w') : Cst w' A Sb Nb stop na nc names :=
  ⟨h.sb, h.nb, (hb.cell (p := ⟨Sb, 0, none⟩) h.sb).trans h.stopC, (hb.cell (p := ⟨Nb, 0, none⟩) h.nb).trans h.namesC, h.len, by
    rcases h.row with h | ⟨b, o, e, hlt, hc⟩
    · exact .inl h
    · exact .inr ⟨b, o, e, hlt, fun j hj => (hb.cell (p := ⟨b, o + j, none⟩) hlt).trans (hc j hj)⟩⟩

/-- What has been asked. -/
structure AskAt (w : World) (A : Nat) (va : Value) (qs : List ByteArray) : Prop where
  blk : w.heap[A]? = some (.cells #[va] 33 (0, 0))
  row : w.ownsRow (A + 1) 9 1 va qs.length (qs.map Value.string)
theorem AskAt.below {w w' : World} {A : Nat} {va : Value} {qs : List ByteArray} (h : AskAt w A va qs) (hb : Below w.heap.size w w') : AskAt w' A va qs :=
  ⟨(hb.block _ (lt_of_block h.blk)).trans h.blk, ownsRow_below h.row hb⟩

theorem row_cell {w : World} {base : Nat} {e : TypeId} {v : Value} {n : Nat} {xs : List Value} (h : w.ownsRow base e 1 v n xs) {i : Nat} (hi : i < n) {d : Value} : ∃ g cap, v = .slice (some ⟨g, 0, none⟩) n cap ∧ g < w.heap.size ∧ n ≤ cap ∧ cap ≤ maxLen ∧ w.cell? ⟨g, i, none⟩ = some (xs.getD i d) := by
  obtain ⟨h1, h2⟩ := h
  rcases h2 with ⟨rfl, h0⟩ | ⟨g, cap, cur, rfl, hb, hg, hn, hm, hs, ht⟩
  · omega
  · refine ⟨g, cap, rfl, lt_of_block hg, hn, hm, ?_⟩
    have hc : w.cell? ⟨g, i, none⟩ = cur[i]? := by simp [World.cell?, hg]
    rw [hc, ← Array.getElem?_toList]
    have e : cur.toList[i]? = (cur.toList.take (n * 1))[i]? := by rw [List.getElem?_take, if_pos (by omega)]
    rw [e, ht]
    simp [show i < xs.length by omega]
end Go.Proofs.YtpacjofepiojdaaDoor

set_option linter.unusedSimpArgs false
set_option linter.unusedVariables false
namespace Go.Proofs.YtpacjofepiojdaaDoor
open Go.RowKit Go.Lib

/-- In Roomy's last loop. -/
structure R3 (wC : World) (l : List Nd) (vw vk : Value) (ks : List Value) (j : Nat) (vf : Value) (p : List (Nd × Value)) (wr : World) : Prop where
  blk : wr.heap[wC.heap.size]? = some (.cells #[vw, vf, vk] 88 (0, 0))
  full : OwnP wr (wC.heap.size + 1) vf p
  nodes : p.map (·.1) = l ++ exL j
  klist : wr.ownsRow (wC.heap.size + 1) 61 1 vk l.length ks
  kids : ∀ i, i < l.length → OwnI wr (wC.heap.size + 1) (ks.getD i (.slice none 0 0)) ((l.getD i nd0).kids ++ spL 7)
  bel : Below wC.heap.size wC wr
  ap : KdAp p
theorem kdAp_nil {p : List (Nd × Value)} (h : KdAp p) (x : Nd) : KdAp (p ++ [(x, .slice none 0 0)]) := by
  unfold KdAp
  rw [List.pairwise_append]
  refine ⟨h, List.pairwise_singleton _ _, fun a ha b hb g _ h6 => ?_⟩
  rw [List.mem_singleton.1 hb] at h6
  cases h6
theorem R3.add {wC w6 w7 : World} {l : List Nd} {j : Nat} {vw vf vf' vk : Value} {p : List (Nd × Value)} {ks : List Value} {o : Obj} (h : R3 wC l vw vk ks j vf p w6)
    (hown : w7.ownsRow (wC.heap.size + 1) 63 4 vf' (p.length + 1) (ndCells p ++ [.int .i64 (7000 + (j : Int)), .int .i64 0, .string ⟨#[]⟩, .slice none 0 0])) (hg : (w6.alloc o).grownBy w7 vf.ownBlock) :
    R3 wC l vw vk ks (j + 1) vf' (p ++ [(⟨7000 + (j : Int), 0, ⟨#[]⟩, []⟩, .slice none 0 0)]) (w7.setCell ⟨wC.heap.size, 1, none⟩ vf') := by
  have hR := lt_of_block h.blk
  have b0 : Below w6.heap.size w6 (w6.alloc o) := (Below.refl _ _).alloc (Nat.le_refl _) _
  have full0 := h.full.below b0
  have hf7 := OwnP.snoc full0 (x := ⟨7000 + (j : Int), 0, ⟨#[]⟩, []⟩) (kv := .slice none 0 0) (OwnI_nil _ _) hown hg
  have hneT : ∀ {e : TypeId} {s n : Nat} {v : Value} {xs : List Value}, w6.ownsRow (wC.heap.size + 1) e s v n xs → e ≠ 63 → (w7.setCell ⟨wC.heap.size, 1, none⟩ vf').ownsRow (wC.heap.size + 1) e s v n xs := fun hr hne => by
    have h1 := World.ownsRow.kept (ownsRow_below hr b0) hg (ownBlock_ne (ownsRow_below hr b0) full0.row hne)
    refine rm_same h1 fun b hb => Deep.blk_setCell_other _ _ _ _ ?_
    have := (rm_block h1 b hb).1
    show b ≠ wC.heap.size
    omega
  have hb7 : w7.heap[wC.heap.size]? = w6.heap[wC.heap.size]? := by
    rw [hg.block wC.heap.size (by rw [World.size_alloc]; omega) (fun e => by have := (rm_block h.full.row _ e.symm).1; omega)]
    exact Deep.blk_alloc_lt _ _ _ hR
  refine ⟨?_, ownP_same hf7 (by omega) rfl, ?_, hneT h.klist (by decide), fun i hi => hneT (h.kids i hi) (by decide), ?_, kdAp_nil h.ap _⟩
  · have := heap_setCell_same w7 wC.heap.size 1 _ _ vf' (hb7.trans h.blk)
    simpa using this
  · rw [List.map_append, h.nodes, exL_succ, List.append_assoc]; rfl
  · have hb2 : Below wC.heap.size wC w7 := (h.bel.trans (b0.mono h.bel.size)).grown hg (by rw [World.size_alloc]; have := h.bel.size; omega) (fun b hb => by have := (rm_block h.full.row b hb).1; omega)
    exact hb2.setCell (Nat.le_refl _) _

/-- The room, made. -/
structure RoomOk (w : World) (R : Nat) (l : List Nd) (vw vf vk : Value) (p : List (Nd × Value)) (ks : List Value) (w' : World) : Prop where
  lo : w.heap.size ≤ R
  blk : w'.heap[R]? = some (.cells #[vw, vf, vk] 88 (0, 0))
  was : OwnN w' w.heap.size vw l
  full : OwnP w' (R + 1) vf p
  nodes : p.map (·.1) = l ++ exL 7
  klist : w'.ownsRow (R + 1) 61 1 vk l.length ks
  kids : ∀ i, i < l.length → OwnI w' (R + 1) (ks.getD i (.slice none 0 0)) ((l.getD i nd0).kids ++ spL 7)
  below : Below w.heap.size w w'
  ap : KdAp p

end Go.Proofs.YtpacjofepiojdaaDoor

namespace Go.Proofs.YtpacjofepiojdaaDoor
open Go.RowKit Go.Lib

structure RoomRd (w : World) (R : Nat) (l : List Nd) (wa : Option Addr) (wc fb fc : Nat) (ka : Option Addr) (kc : Nat) : Prop where
  lt : R < w.heap.size
  c0 : w.cell? ⟨R, 0, none⟩ = some (.slice wa l.length wc)
  c1 : w.cell? ⟨R, 1, none⟩ = some (.slice (some ⟨fb, 0, none⟩) (l.length + 7) fc)
  c2 : w.cell? ⟨R, 2, none⟩ = some (.slice ka l.length kc)
  was : Rd w wa wc l
  full : Rd w (some ⟨fb, 0, none⟩) fc (l ++ exL 7)
  kcap : l.length ≤ kc ∧ kc ≤ maxLen
  kids : ∀ i, i < l.length → ∃ kb gi ci, ka = some ⟨kb, 0, none⟩ ∧ kb < w.heap.size ∧ w.cell? ⟨kb, i, none⟩ = some (.slice (some ⟨gi, 0, none⟩) ((l.getD i nd0).kids.length + 7) ci) ∧ gi < w.heap.size ∧ (l.getD i nd0).kids.length + 7 ≤ ci ∧ ci ≤ maxLen ∧ ∀ j, j < 7 → w.cell? ⟨gi, (l.getD i nd0).kids.length + j, none⟩ = some (.int .i64 (7000 + (j : Int)))

theorem RoomRd.below {w w' : World} {R : Nat} {l : List Nd} {wa : Option Addr} {wc fb fc : Nat} {ka : Option Addr} {kc : Nat} (h : RoomRd w R l wa wc fb fc ka kc) (hb : Below w.heap.size w w') : RoomRd w' R l wa wc fb fc ka kc :=
  ⟨Nat.lt_of_lt_of_le h.lt hb.size, (hb.cell (p := ⟨R, 0, none⟩) h.lt).trans h.c0, (hb.cell (p := ⟨R, 1, none⟩) h.lt).trans h.c1, (hb.cell (p := ⟨R, 2, none⟩) h.lt).trans h.c2, h.was.below hb hb.size, h.full.below hb hb.size, h.kcap, fun i hi => by
    obtain ⟨kb, gi, ci, h1, h2, h3, h4, h5, h6, h7⟩ := h.kids i hi
    exact ⟨kb, gi, ci, h1, Nat.lt_of_lt_of_le h2 hb.size, (hb.cell (p := ⟨kb, i, none⟩) h2).trans h3, Nat.lt_of_lt_of_le h4 hb.size, h5, h6, fun j hj => (hb.cell (p := ⟨gi, _, none⟩) h4).trans (h7 j hj)⟩⟩

theorem RoomOk.rd {w w' : World} {R : Nat} {l : List Nd} {vw vf vk : Value} {p : List (Nd × Value)} {ks : List Value} (h : RoomOk w R l vw vf vk p ks w') : ∃ wa wc fb fc ka kc, RoomRd w' R l wa wc fb fc ka kc := by
  obtain ⟨wa, wc, rfl, hW⟩ := Rd_of_own h.was
  have hfo : OwnN w' (R + 1) vf (l ++ exL 7) := ⟨p, h.nodes, h.full⟩
  obtain ⟨fa, fc, rfl, hFu⟩ := Rd_of_own hfo
  obtain ⟨fb, rfl⟩ : ∃ fb, fa = some ⟨fb, 0, none⟩ := by
    rcases h.full.row.2 with ⟨e, _⟩ | ⟨g, c, cur, e, _⟩
    · simp [exL_len] at e
    · simp only [Value.slice.injEq] at e; exact ⟨g, e.1⟩
  obtain ⟨ka, kc, hvk⟩ := rm_form h.klist
  have hkc : l.length ≤ kc ∧ kc ≤ maxLen := by
    rw [hvk] at h
    rcases h.klist.2 with ⟨e, h0⟩ | ⟨g, c, cur, e, _, _, hn, hm, _⟩
    · simp only [Value.slice.injEq] at e; exact ⟨by omega, by rw [e.2.2]; exact Nat.zero_le _⟩
    · simp only [Value.slice.injEq] at e; exact ⟨by omega, by rw [e.2.2]; exact hm⟩
  subst hvk
  have hlen : (l ++ exL 7).length = l.length + 7 := by rw [List.length_append, exL_len]
  refine ⟨wa, wc, fb, fc, ka, kc, lt_of_block h.blk, by simp [World.cell?, h.blk], ?_, by simp [World.cell?, h.blk], hW, hFu, hkc, fun i hi => ?_⟩
  · have : w'.cell? ⟨R, 1, none⟩ = some (.slice (some ⟨fb, 0, none⟩) (l ++ exL 7).length fc) := by simp [World.cell?, h.blk]
    rw [hlen] at this; exact this
  · obtain ⟨kb, kcap, e1, h1, _, _, h2⟩ := row_cell h.klist hi (d := .slice none 0 0)
    cases e1
    have hI := h.kids i hi
    unfold OwnI at hI
    have hL : ((l.getD i nd0).kids ++ spL 7).length = (l.getD i nd0).kids.length + 7 := by rw [List.length_append, spL_len]
    rw [hL] at hI
    obtain ⟨gi, ci, e2, h3, h4, h5, _⟩ := row_cell hI (i := 0) (by omega) (d := .slice none 0 0)
    rw [e2] at h2
    refine ⟨kb, gi, ci, rfl, h1, h2, h3, h4, h5, fun j hj => ?_⟩
    obtain ⟨g', c', e3, _, _, _, h6⟩ := row_cell hI (i := (l.getD i nd0).kids.length + j) (by omega) (d := .slice none 0 0)
    rw [e2] at e3
    cases e3
    rw [h6]
    generalize (l.getD i nd0).kids = kk
    have e4 : (((kk ++ spL 7).map (Value.int .i64)).getD (kk.length + j) (.slice none 0 0)) = .int .i64 (7000 + (j : Int)) := by
      rw [List.map_append]
      simp only [List.getD_eq_getElem?_getD]
      rw [List.getElem?_append_right (by simp)]
      simp [spL, hj]
    rw [e4]

end Go.Proofs.YtpacjofepiojdaaDoor

set_option linter.unusedSimpArgs false
set_option linter.unusedVariables false
namespace Go.Proofs.YtpacjofepiojdaaDoor
open Go.RowKit Go.Lib

/-- A row: its value, how many it holds, its cells. -/
abbrev Rw := Value × Nat × List Value
def vA : Value → Option Addr
  | .slice a _ _ => a
  | _ => none
def vC : Value → Nat
  | .slice _ _ c => c
  | _ => 0
def rw0 : Rw := (.slice none 0 0, 0, [])
structure RwL (w : World) (base : Nat) (e : TypeId) (size : Nat) (R : List Rw) : Prop where
  own : ∀ r ∈ R, w.ownsRow base e size r.1 r.2.1 r.2.2
  ap : R.Pairwise fun r s => ∀ b, r.1.ownBlock = some b → s.1.ownBlock ≠ some b
theorem rw_eta {w : World} {base : Nat} {e : TypeId} {size n : Nat} {v : Value} {xs : List Value} (h : w.ownsRow base e size v n xs) : v = .slice (vA v) n (vC v) := by
  obtain ⟨ao, cap, rfl⟩ := rw_form h
  rfl
theorem vA_blk {v : Value} {n c : Nat} (hv : v = .slice (vA v) n c) {a : Addr} (h : vA v = some a) : v.ownBlock = some a.block := by
  rw [hv, h]; rfl
theorem gd_rw {R : List Rw} {k : Nat} (hk : k < R.length) : R.getD k rw0 = R[k] := by simp [hk]
theorem RwL.rows {w : World} {base : Nat} {e eL : TypeId} {size : Nat} {R : List Rw} (h : RwL w base e size R) {B : Nat} {cs : Array Value} {fr : Nat × Nat} (hB : w.heap[B]? = some (.cells cs eL fr)) (hne : e ≠ eL) : RwsAp R.length B (fun k => vA (R.getD k rw0).1) := by
  refine ⟨fun k k' hk hk' hkk a a' ha ha' he => ?_, fun k hk a ha he => ?_⟩
  · simp only [gd_rw hk] at ha
    simp only [gd_rw hk'] at ha'
    have o1 := vA_blk (rw_eta (h.own _ (List.getElem_mem hk))) ha
    have o2 := vA_blk (rw_eta (h.own _ (List.getElem_mem hk'))) ha'
    have hp := List.pairwise_iff_getElem.1 h.ap
    rcases Nat.lt_or_gt_of_ne hkk with hl | hl
    · exact hp k k' hk hk' hl _ o1 (by rw [he]; exact o2)
    · exact hp k' k hk' hk hl _ o2 (by rw [← he]; exact o1)
  · simp only [gd_rw hk] at ha
    have o1 := vA_blk (rw_eta (h.own _ (List.getElem_mem hk))) ha
    obtain ⟨_, _, cap, cur, _, hc, _⟩ := rw_block (h.own _ (List.getElem_mem hk)) o1
    rw [he, hB] at hc
    injection hc with hc
    injection hc with _ hc _
    exact hne hc.symm
theorem RwL.keep {w w' : World} {base : Nat} {e : TypeId} {size : Nat} {R : List Rw} (h : RwL w base e size R) (hk : ∀ r ∈ R, ∀ b, r.1.ownBlock = some b → w'.heap[b]? = w.heap[b]?) : RwL w' base e size R :=
  ⟨fun r hr => rw_same (h.own r hr) (hk r hr), h.ap⟩

end Go.Proofs.YtpacjofepiojdaaDoor

namespace Go.Proofs.YtpacjofepiojdaaDoor
open Go.RowKit Go.Lib

/-- What Book.Expr keeps: all but its own memory. -/
def BkK (w w' : World) : Prop := ∀ (b : Nat) (o : Obj), w.heap[b]? = some o → (∀ cs e fr, o = .cells cs e fr → e ≠ 52 ∧ e ≠ 22 ∧ e ≠ 61) → w'.heap[b]? = some o
theorem BkK.refl (w : World) : BkK w w := fun _ _ h _ => h
theorem BkK.trans {a b c : World} (h : BkK a b) (k : BkK b c) : BkK a c := fun n o h1 h2 => k n o (h n o h1 h2) h2
theorem BkK.alloc (w : World) (o : Obj) : BkK w (w.alloc o) := fun b o' h _ => (Deep.blk_alloc_lt _ _ _ (lt_of_block h)).trans h
theorem BkK.row {w w' : World} (h : BkK w w') {base : Nat} {e : TypeId} {s n : Nat} {v : Value} {xs : List Value} (ho : w.ownsRow base e s v n xs) (h1 : e ≠ 52) (h2 : e ≠ 22) (h3 : e ≠ 61) : w'.ownsRow base e s v n xs :=
  rw_same ho fun b hb => by
    obtain ⟨_, _, cap, cur, _, hc, _⟩ := rw_block ho hb
    rw [hc]
    exact h b _ hc fun cs e' fr he => by cases he; exact ⟨h1, h2, h3⟩
end Go.Proofs.YtpacjofepiojdaaDoor

set_option linter.unusedSimpArgs false
set_option linter.unusedVariables false
namespace Go.Proofs.YtpacjofepiojdaaDoor
open Go.RowKit Go.Lib Go.Sort

theorem own_low {w : World} {base base' : Nat} {e : TypeId} {s n : Nat} {v : Value} {xs : List Value} (h : w.ownsRow base e s v n xs) (hb : base' ≤ base) : w.ownsRow base' e s v n xs :=
  ⟨h.1, h.2.imp id fun ⟨g, cap, cur, h1, h2, h3⟩ => ⟨g, cap, cur, h1, by omega, h3⟩⟩
/-- The rows of kids. -/
def kR (q : List (Nd × Value)) : List Rw := q.map fun y => (y.2, y.1.kids.length, y.1.kids.map (Value.int .i64))
/-- Rows one after the other. -/
def LiesR (R : List Rw) (lo hi : Nat) : Prop := ∀ r ∈ R, ∀ b, r.1.ownBlock = some b → lo ≤ b ∧ b < hi
theorem RwL.app {w : World} {base : Nat} {e : TypeId} {s : Nat} {R S : List Rw} (h : RwL w base e s R) (k : RwL w base e s S) (hd : ∀ r ∈ R, ∀ t ∈ S, ∀ b, r.1.ownBlock = some b → t.1.ownBlock ≠ some b) : RwL w base e s (R ++ S) :=
  ⟨fun r hr => (List.mem_append.1 hr).elim (h.own r) (k.own r), List.pairwise_append.2 ⟨h.ap, k.ap, hd⟩⟩
theorem lies_apart {R S : List Rw} {a b c d : Nat} (h : LiesR R a b) (k : LiesR S c d) (hbc : b ≤ c ∨ d ≤ a) : ∀ r ∈ R, ∀ t ∈ S, ∀ g, r.1.ownBlock = some g → t.1.ownBlock ≠ some g := fun r hr t ht g h1 h2 => by
  have := h r hr g h1; have := k t ht g h2; omega
theorem RwL.one {w : World} {base : Nat} {e : TypeId} {s : Nat} {r : Rw} (h : w.ownsRow base e s r.1 r.2.1 r.2.2) : RwL w base e s [r] := ⟨fun x hx => by simp at hx; subst hx; exact h, List.pairwise_singleton _ _⟩
theorem RwL.lies {w : World} {base : Nat} {e : TypeId} {s : Nat} {R : List Rw} (h : RwL w base e s R) : LiesR R base w.heap.size := fun r hr b hb => by
  obtain ⟨h1, h2, _⟩ := rw_block (h.own r hr) hb
  exact ⟨h1, h2⟩
theorem RwL.low {w : World} {base base' : Nat} {e : TypeId} {s : Nat} {R : List Rw} (h : RwL w base e s R) (hb : base' ≤ base) : RwL w base' e s R := ⟨fun r hr => own_low (h.own r hr) hb, h.ap⟩
theorem RwL.bel {w w' : World} {base : Nat} {e : TypeId} {s : Nat} {R : List Rw} (h : RwL w base e s R) (hb : Below w.heap.size w w') : RwL w' base e s R := h.keep fun r hr b hv => hb.block b (rw_block (h.own r hr) hv).2.1
theorem LiesR.app {R S : List Rw} {a b : Nat} (h : LiesR R a b) (k : LiesR S a b) : LiesR (R ++ S) a b := fun r hr => (List.mem_append.1 hr).elim (h r) (k r)
theorem LiesR.wide {R : List Rw} {a b a' b' : Nat} (h : LiesR R a b) (h1 : a' ≤ a) (h2 : b ≤ b') : LiesR R a' b' := fun r hr g hg => by have := h r hr g hg; omega
theorem kR_own {w : World} {base : Nat} {v : Value} {q : List (Nd × Value)} (h : OwnP w base v q) (ha : KdAp q) : RwL w base 3 1 (kR q) :=
  ⟨fun r hr => by
    obtain ⟨y, hy, rfl⟩ := List.mem_map.1 hr
    exact h.kids y hy, List.pairwise_map.2 ha⟩
/-- Answers: expressions that were made one after the other, from lo to hi. -/
structure Anss (W : World) (lo hi : Nat) (A : List (Value × List (Nd × Value))) : Prop where
  kids : RwL W lo 3 1 (A.flatMap fun a => kR a.2)
  rows : RwL W lo 63 4 (A.map fun a => (a.1, a.2.length, ndCells a.2))
  lk : LiesR (A.flatMap fun a => kR a.2) lo hi
  lr : LiesR (A.map fun a => (a.1, a.2.length, ndCells a.2)) lo hi
  le : lo ≤ hi
theorem Anss.nil (W : World) (z : Nat) : Anss W z z [] := ⟨⟨by simp, List.Pairwise.nil⟩, ⟨by simp, List.Pairwise.nil⟩, (by intro r hr; simp at hr), (by intro r hr; simp at hr), Nat.le_refl _⟩
theorem Anss.below {W W' : World} {lo hi : Nat} {A : List (Value × List (Nd × Value))} (h : Anss W lo hi A) (hb : Below W.heap.size W W') : Anss W' lo hi A :=
  ⟨h.kids.bel hb, h.rows.bel hb, h.lk, h.lr, h.le⟩
theorem Anss.wide {W : World} {lo hi hi' : Nat} {A : List (Value × List (Nd × Value))} (h : Anss W lo hi A) (hb : hi ≤ hi') : Anss W lo hi' A :=
  ⟨h.kids, h.rows, h.lk.wide (Nat.le_refl _) hb, h.lr.wide (Nat.le_refl _) hb, Nat.le_trans h.le hb⟩
theorem Anss.snoc {W : World} {lo hi : Nat} {A : List (Value × List (Nd × Value))} {v : Value} {q : List (Nd × Value)} (h : Anss W lo hi A) (ho : OwnP W hi v q) (ha : KdAp q) (hw : hi ≤ W.heap.size) : Anss W lo W.heap.size (A ++ [(v, q)]) := by
  have k1 := kR_own ho ha
  have r1 : RwL W hi 63 4 [((v, q.length, ndCells q) : Rw)] := RwL.one ho.row
  have e1 : ((A ++ [(v, q)]).flatMap fun a => kR a.2) = (A.flatMap fun a => kR a.2) ++ kR q := by simp
  have e2 : ((A ++ [(v, q)]).map fun a => ((a.1, a.2.length, ndCells a.2) : Rw)) = (A.map fun a => (a.1, a.2.length, ndCells a.2)) ++ [(v, q.length, ndCells q)] := by simp
  refine ⟨?_, ?_, ?_, ?_, Nat.le_trans h.le hw⟩
  · rw [e1]; exact h.kids.app (k1.low h.le) (lies_apart h.lk k1.lies (.inl (Nat.le_refl _)))
  · rw [e2]; exact h.rows.app (r1.low h.le) (lies_apart h.lr r1.lies (.inl (Nat.le_refl _)))
  · rw [e1]; exact (h.lk.wide (Nat.le_refl _) hw).app (k1.lies.wide h.le (Nat.le_refl _))
  · rw [e2]; exact (h.lr.wide (Nat.le_refl _) hw).app (r1.lies.wide h.le (Nat.le_refl _))
end Go.Proofs.YtpacjofepiojdaaDoor

set_option linter.unusedSimpArgs false
set_option linter.unusedVariables false
namespace Go.Proofs.YtpacjofepiojdaaDoor
open Go.RowKit Go.Lib Go.Sort

theorem own_pre {w : World} {base : Nat} {e : TypeId} {s n n' g cap : Nat} {xs : List Value} (h : w.ownsRow base e s (.slice (some ⟨g, 0, none⟩) n cap) n xs) (hn : n' ≤ n) : w.ownsRow base e s (.slice (some ⟨g, 0, none⟩) n' cap) n' (xs.take (n' * s)) := by
  obtain ⟨h1, h2⟩ := h
  have hm := Nat.mul_le_mul_right s hn
  refine ⟨by rw [List.length_take, h1]; exact Nat.min_eq_left hm, ?_⟩
  rcases h2 with ⟨h2, _⟩ | ⟨g', cap', cur, e1, hb, hg, hc, hx, hs, ht⟩
  · cases h2
  · cases e1
    exact .inr ⟨g, cap, cur, rfl, hb, hg, by omega, hx, hs, by rw [← ht, List.take_take, Nat.min_eq_left hm]⟩
theorem ndCells_take : ∀ (p : List (Nd × Value)) (n : Nat), (ndCells p).take (n * 4) = ndCells (p.take n)
  | [], n => by simp [ndCells]
  | y :: p, 0 => by simp [ndCells]
  | y :: p, n + 1 => by
    have ih := ndCells_take p n
    have e : (n + 1) * 4 = n * 4 + 4 := by omega
    rw [e]
    simp only [List.take_succ_cons, ndCells, List.flatMap_cons] at ih ⊢
    simp [ih]
end Go.Proofs.YtpacjofepiojdaaDoor
