/-
  PaR.
-/
import Derived.Shelf.Unicode.DecodeSlow
import Derived.Laws.RangeAny
import Derived.Shelf.Strconv.Itoa0
import Derived.Shelf.Unicode.DecodeAny
import Derived.Test.YtjkcbigmebbkkaaDoorProg
import Derived.WalkKit
import Derived.Deep.DeepFit
import Derived.Lib.OthersKept
import Derived.Lib.RuneCountTail
import Derived.Deep.AppendLies
import Derived.Deep.OwnRows
import Derived.Laws.AppendOwnNone
import Derived.Deep.QuietTactic
import Derived.BigQuiet
import Derived.Deep.RegionWith
import Derived.Laws.DeepStrings4
import Derived.Lib.MapLaws
import Derived.Sort.Walk0
import Derived.Lib.ItoaNum
import Derived.Maps.OwnSet
import Derived.StringKeys
import Derived.Deep.Slices
import Derived.Test.YtjkcbigmebbkkaaDoorZ01
import Derived.Test.YtjkcbigmebbkkaaDoorZ02
import Derived.Test.YtjkcbigmebbkkaaDoorZ03
import Derived.Test.YtjkcbigmebbkkaaDoorZ04
import Derived.Test.YtjkcbigmebbkkaaDoorZ05
import Derived.Test.YtjkcbigmebbkkaaDoorZ06
import Derived.Test.YtjkcbigmebbkkaaDoorZ07
import Derived.Test.YtjkcbigmebbkkaaDoorZ09
import Derived.Test.YtjkcbigmebbkkaaDoorZ10
import Derived.Test.YtjkcbigmebbkkaaDoorZ11
import Derived.Test.YtjkcbigmebbkkaaDoorZ16
import Derived.Test.YtjkcbigmebbkkaaDoorZ17
import Derived.Test.YtjkcbigmebbkkaaDoorZ18
set_option linter.unusedSimpArgs false
set_option linter.unusedVariables false
namespace Go.Proofs.YtjkcbigmebbkkaaDoor
open Go.RowKit Go.Lib Go.Maps Go.Deep

structure PrM (w : World) (q : List Nd) (hs ms : List ByteArray) (n R M : Nat) (v nv : Value) (wr : World) : Prop where
  p : ∃ p, p.map (·.1) = q ∧ ClN wr w.heap.size w.heap.size v p
  row : wr.ownsRow w.heap.size 9 1 nv hs.length (hs.map Value.string)
  map : NumM wr M n ms
  blk : wr.heap[R]? = some (.cells #[v, nv, .map (some M)] 135)
  below : Below w.heap.size w wr
  leM : w.heap.size ≤ M
  leR : w.heap.size < R
  res : wr.heap[w.heap.size]? = some (.cells #[.slice none 0 0, .slice none 0 0, .map none] 135)

theorem row_ne_reading {w : World} {base : Nat} {e : TypeId} {s n R : Nat} {v : Value} {xs : List Value} {cs : Array Value} (h : w.ownsRow base e s v n xs) (hR : w.heap[R]? = some (.cells cs 135)) (hne : e ≠ 135) : v.ownBlock ≠ some R := by
  rcases h.2 with ⟨rfl, _⟩ | ⟨g, cap, cur, rfl, _, hg, _⟩
  · simp [Value.ownBlock]
  · intro hh
    simp [Value.ownBlock] at hh
    subst hh
    rw [hR] at hg
    simp at hg
    exact hne hg.2.symm
theorem row_ne_map {w : World} {base : Nat} {e : TypeId} {s n M k : Nat} {v : Value} {xs : List Value} {ms : List ByteArray} (h : w.ownsRow base e s v n xs) (hM : NumM w M k ms) : v.ownBlock ≠ some M := by
  rcases h.2 with ⟨rfl, _⟩ | ⟨g, cap, cur, rfl, _, hg, _⟩
  · simp [Value.ownBlock]
  · intro hh
    simp [Value.ownBlock] at hh
    subst hh
    obtain ⟨D, ⟨es, c, h5, _⟩, _⟩ := hM
    rw [hg] at h5; cases h5
theorem PrM.neRM {w : World} {q : List Nd} {hs ms : List ByteArray} {n R M : Nat} {v nv : Value} {wr : World} (h : PrM w q hs ms n R M v nv wr) : R ≠ M := by
  rintro rfl
  obtain ⟨D, ⟨es, c, h5, _⟩, _⟩ := h.map
  rw [h.blk] at h5; cases h5
theorem PrM.ltR {w : World} {q : List Nd} {hs ms : List ByteArray} {n R M : Nat} {v nv : Value} {wr : World} (h : PrM w q hs ms n R M v nv wr) : R < wr.heap.size := lt_of_block h.blk

/-- Whatever is written elsewhere. -/
theorem PrM.grow {w : World} {q : List Nd} {hs ms : List ByteArray} {n R M : Nat} {v nv : Value} {wr w' : World} (h : PrM w q hs ms n R M v nv wr) (hb : Below wr.heap.size wr w') : PrM w q hs ms n R M v nv w' := by
  obtain ⟨⟨p, hp, hc⟩, hr, hm, hk, hbw, h1, h2, h3⟩ := h
  have hs' := hbw.size
  exact ⟨⟨p, hp, ownsRow_below hc.row hb, fun x hx => (hc.kids x hx).below (hb.mono hs') (Nat.le_refl _)⟩, ownsRow_below hr hb, hm.below hb, (hb.block R (lt_of_block hk)).trans hk, hbw.trans (hb.mono hs'), h1, h2, (hb.block _ (lt_of_block h3)).trans h3⟩
theorem PrM.alloc {w : World} {q : List Nd} {hs ms : List ByteArray} {n R M : Nat} {v nv : Value} {wr : World} (h : PrM w q hs ms n R M v nv wr) (o : Obj) : PrM w q hs ms n R M v nv (wr.alloc o) := h.grow ((Below.refl _ _).alloc (Nat.le_refl _) _)

theorem PrM.at_ {w : World} {q : List Nd} {hs ms : List ByteArray} {n R M : Nat} {v nv : Value} {wr : World} (h : PrM w q hs ms n R M v nv wr) {k : Nat} (hk : k < q.length) : ∃ g cap, v = .slice (some ⟨g, 0, none⟩) q.length cap ∧ w.heap.size ≤ g ∧ g < wr.heap.size ∧ g ≠ M ∧ g ≠ R ∧ q.length ≤ cap ∧ cap ≤ maxLen ∧ wr.cell? ⟨g, k * 4, none⟩ = some (.int .i64 (q.getD k nd0).op) ∧ wr.frozen? ⟨g, k * 4, none⟩ = false := by
  obtain ⟨⟨p, hp, hc⟩, hr, hm, hR, hb, hM1, hR1, hres⟩ := h
  have hpl : p.length = q.length := by rw [← hp]; simp
  have hnM := row_ne_map hc.row hm
  have hnR := row_ne_reading hc.row hR (by decide)
  rcases hc.row.2 with ⟨rfl, h0⟩ | ⟨g, cap, cur, rfl, hg0, hg, h1, h2, h3, h4⟩
  · omega
  · refine ⟨g, cap, by rw [hpl], hg0, lt_of_block hg, fun e => hnM (by rw [e]; rfl), fun e => hnR (by rw [e]; rfl), by omega, h2, ?_, frozen_of_heap hg _⟩
    have hp2 : p[k]? = some (p[k].1, p[k].2) := by simp [hpl, hk]
    have := (ndCells_at p k _ _ hp2).1
    have e : q.getD k nd0 = p[k].1 := by subst hp; simp [show k < p.length by omega]
    rw [cell_of_heap hg, ← Array.getElem?_toList, e, ← this, ← h4, List.getElem?_take, if_pos (by omega)]
theorem PrM.cells {w : World} {q : List Nd} {hs ms : List ByteArray} {n R M : Nat} {v nv : Value} {wr : World} (h : PrM w q hs ms n R M v nv wr) : wr.cell? ⟨R, 0, none⟩ = some v ∧ wr.cell? ⟨R, 1, none⟩ = some nv ∧ wr.cell? ⟨R, 2, none⟩ = some (.map (some M)) ∧ (∀ j, wr.frozen? ⟨R, j, none⟩ = false) := by
  refine ⟨?_, ?_, ?_, fun j => frozen_of_heap h.blk _⟩ <;> rw [cell_of_heap h.blk] <;> rfl

theorem PrM.setOp {w : World} {q : List Nd} {hs ms : List ByteArray} {n R M : Nat} {g cap : Nat} {nv : Value} {wr : World} (h : PrM w q hs ms n R M (.slice (some ⟨g, 0, none⟩) q.length cap) nv wr) {k : Nat} (hk : k < q.length) (z : Int) :
    PrM w (q.set k { q.getD k nd0 with op := z }) hs ms n R M (.slice (some ⟨g, 0, none⟩) q.length cap) nv (wr.setCell ⟨g, k * 4, none⟩ (.int .i64 z)) := by
  obtain ⟨g', cap', e1, hg0, hgl, hgM, hgR, _⟩ := h.at_ hk
  cases e1
  obtain ⟨⟨p, hp, hc⟩, hr, hm, hR, hb, hM1, hR1, hres⟩ := h
  have hpl : p.length = q.length := by rw [← hp]; simp
  have hpk : p[k]? = some (q.getD k nd0, (p.getD k (nd0, .slice none 0 0)).2) := by
    have hkp : k < p.length := by omega
    subst hp; simp [hkp]
  have hrow : wr.ownsRow w.heap.size 71 4 (.slice (some ⟨g, 0, none⟩) q.length cap) q.length (ndCells p) := by have := hc.row; rwa [hpl] at this
  have hbs : Below w.heap.size wr (wr.setCell ⟨g, k * 4, none⟩ (.int .i64 z)) := (Below.refl _ _).setCell (p := ⟨g, k * 4, none⟩) hg0 _
  refine ⟨⟨p.set k ({ q.getD k nd0 with op := z }, (p.getD k (nd0, .slice none 0 0)).2), ?_, ?_, ?_⟩, ?_, hm.setCell (by show M ≠ g; omega) _, ?_, hb.setCell (p := ⟨g, k * 4, none⟩) hg0 _, hM1, hR1, ?_⟩
  · rw [List.map_set, hp]
  · rw [ndCells_op p k _ _ z hpk, List.length_set, hpl]
    exact own_put hrow (by rw [ndCells_length]; omega)
  · intro x hx
    have hin : ∀ x ∈ p, Ints (wr.setCell ⟨g, k * 4, none⟩ (.int .i64 z)) w.heap.size x.2 x.1.kids := fun x hx => (hc.kids x hx).below hbs (Nat.le_refl _)
    rcases List.mem_or_eq_of_mem_set hx with hx | rfl
    · exact hin x hx
    · exact hin (q.getD k nd0, _) (List.mem_of_getElem? hpk)
  · refine own_set' hr (fun e => ?_)
    rcases ownBlock_ne hr hc.row (by decide) with h | h
    · rw [h] at e; cases e
    · exact h (by rw [e]; rfl)
  · rw [Deep.blk_setCell_other _ _ _ _ (by show R ≠ g; omega)]; exact hR
  · rw [Deep.blk_setCell_other _ _ _ _ (by
      show w.heap.size ≠ g
      intro e
      exact row_ne_reading hc.row hres (by decide) (by rw [e]; rfl))]; exact hres
/-- The map has turned. -/
theorem PrM.mapped {w : World} {q : List Nd} {hs ms ms' : List ByteArray} {n n' R M : Nat} {v nv : Value} {wr w' : World} (h : PrM w q hs ms n R M v nv wr) (hm' : NumM w' M n' ms') (hg : wr.grownBy w' (some M)) : PrM w q hs ms' n' R M v nv w' := by
  have hne := h.neRM
  obtain ⟨⟨p, hp, hc⟩, hr, hm, hR, hb, hM1, hR1, hres⟩ := h
  have hs' := hb.size
  have hb2 : Below w.heap.size wr w' := (Below.refl _ _).grown hg hs' (fun k hk => by cases hk; exact hM1)
  refine ⟨⟨p, hp, World.ownsRow.kept hc.row hg (.inr (row_ne_map hc.row hm)), fun x hx => (hc.kids x hx).below hb2 (Nat.le_refl _)⟩, World.ownsRow.kept hr hg (.inr (row_ne_map hr hm)), hm', ?_, hb.trans hb2, hM1, hR1, (hg.block _ (lt_of_block hres) (fun e => by
    simp at e
    obtain ⟨D, ⟨es, c, h5, _⟩, _⟩ := hm
    rw [← e, hres] at h5; cases h5)).trans hres⟩
  exact (hg.block R (lt_of_block hR) (by simpa using hne)).trans hR
/-- A name more. -/
theorem PrM.named {w : World} {q : List Nd} {hs ms : List ByteArray} {n R M : Nat} {v nv nv' : Value} {wr w' : World} {s : ByteArray} (h : PrM w q hs ms n R M v nv wr)
    (hown : w'.ownsRow w.heap.size 9 1 nv' (hs.length + 1) (hs.map Value.string ++ [.string s])) (hg : wr.grownBy w' nv.ownBlock) : PrM w q (hs ++ [s]) ms n R M v nv' (w'.setCell ⟨R, 1, none⟩ nv') := by
  have hltR := h.ltR
  obtain ⟨⟨p, hp, hc⟩, hr, hm, hR, hb, hM1, hR1, hres⟩ := h
  have hs' := hb.size
  have hb2 : Below w.heap.size wr w' := (Below.refl _ _).grown hg hs' (fun k hk => (own_block' hr k hk).1)
  have hnR := row_ne_reading hr hR (by decide)
  have hnM := row_ne_map hr hm
  have hR' : w'.heap[R]? = some (.cells #[v, nv, .map (some M)] 135) := (hg.block R hltR (Ne.symm hnR)).trans hR
  have hc' : w'.ownsRow w.heap.size 71 4 v p.length (ndCells p) := World.ownsRow.kept hc.row hg (ownBlock_ne hc.row hr (by decide))
  have hm' : NumM w' M n ms := hm.kept hg (Ne.symm hnM)
  have hMR : M ≠ R := by
    rintro rfl
    obtain ⟨D, ⟨es, c, h5, _⟩, _⟩ := hm
    rw [hR] at h5; cases h5
  refine ⟨⟨p, hp, own_set' hc' (row_ne_reading hc' hR' (by decide)), fun x hx => ((hc.kids x hx).below hb2 (Nat.le_refl _)).below ((Below.refl _ _).setCell (p := ⟨R, 1, none⟩) (Nat.le_of_lt hR1) _) (Nat.le_refl _)⟩, ?_, hm'.setCell (by show M ≠ R; exact hMR) _, ?_, (hb.trans hb2).setCell (p := ⟨R, 1, none⟩) (Nat.le_of_lt hR1) _, hM1, hR1, ?_⟩
  · have e : (hs ++ [s]).length = hs.length + 1 := by simp
    rw [e, List.map_append]
    exact own_set' hown (row_ne_reading hown hR' (by decide))
  · rw [heap_setCell_same w' R 1 _ _ _ hR']; rfl
  · rw [Deep.blk_setCell_other _ _ _ _ (by show w.heap.size ≠ R; omega)]
    exact (hg.block _ (lt_of_block hres) (Ne.symm (row_ne_reading hr hres (by decide)))).trans hres
def CloneB (w : World) (B : Nat) (l : List Nd) (e : Ending) (w' : World) : Prop := ∃ v' p, e = .returned v' ∧ p.map (·.1) = l ∧ ClN w' w.heap.size B v' p ∧ Below w.heap.size w w'

set_option maxRecDepth 20000 in
set_option maxHeartbeats 1000000 in
theorem clone_anyB {w : World} {B : Nat} {ao : Option Addr} {cap : Nat} {l : List Nd} (hN : Nodes w B (.slice ao l.length cap) l) (hB : B ≤ w.heap.size) (hlen : l.length * 56 ≤ 140737488355328) :
    Calls Tryd.prog 108 #[.slice ao l.length cap] w fun e w' => CloneB w B l e w' := by
  have hnil := eql_nilN
  obtain ⟨i0, hi, hz0, hz1, hz2⟩ := info_parts Tryd.infoNode
  obtain ⟨ao', cap', e1, hl, hm, hc⟩ := hN
  cases e1
  cases ao with
  | none =>
    have hz : l = [] := by
      rcases hc with h | ⟨b, o, h, _⟩
      · exact h
      · cases h
    subst hz
    go_enter Tryd.func108, Tryd.ntmps108
    go_wp2
    go_ret
    exact ⟨_, [], rfl, rfl, ⟨World.ownsRow_nil _ _ _ _, by simp⟩, Below.refl _ _⟩
  | some ad =>
    obtain ⟨p, hp1, hp2, hp3⟩ : ∃ p : List (Nd × Value), p.map (·.1) = l ∧ (∀ q ∈ p, Ints w B q.2 q.1.kids) ∧ ∀ j u, (ndCells p)[j]? = some u → w.cell? (ad.add j) = some u := by
      rcases hc with h | ⟨b, o, h, _, hc⟩
      · subst h; exact ⟨[], rfl, by simp, by simp [ndCells]⟩
      · cases h
        obtain ⟨p, h1, h2, h3⟩ := nd_one hc
        exact ⟨p, h1, h2, fun j u hj => by rw [Go.WideShapes.add_plain]; exact h3 j u hj⟩
    have hpl : p.length = l.length := by rw [← hp1]; simp
    have HP1 : Hid (p.map (·.1) = l) := hp1
    have HP2 : Hid (∀ q ∈ p, Ints w B q.2 q.1.kids) := hp2
    have hone : ∀ u ∈ ndCells p, u.oneCell' = true := nd_cell1 fun q hq => by
      obtain ⟨a, c, h, _⟩ := hp2 q hq
      exact ⟨a, _, c, h⟩
    have HN : ∀ j u, (ndCells p)[j]? = some u → (w.alloc (.cells #[] 71)).cell? (ad.add j) = some u := fun j u hj => (((Below.refl w.heap.size w).alloc (Nat.le_refl _) _).cell (World.block_lt_of_cell? w _ (hp3 j u hj))).trans (hp3 j u hj)
    have hnl : (ndCells p).length = l.length * 4 := by rw [ndCells_length, hpl]
    have hm2 : 0 + l.length ≤ maxLen := by omega
    clear hc hp1 hp2 hp3
    go_enter Tryd.func108, Tryd.ntmps108
    go_wp2_with (at_builtin; refine wpList_append_own _ rfl _ _ 22 rfl w.heap.size 71 i0 (.agg #[.int .i64 0, .int .i64 0, .string ⟨#[]⟩, .slice none 0 0]) 4 56 Tryd.underlying22 hi hz0 hz1 hz2 rfl (by decide) _ _ _ rfl (World.ownsRow_made w #[] 0 (Nat.le_refl _) (Nat.zero_le _) (by simp)) ad l.length cap (ndCells p) rfl hnl HN hone hm2 (by omega) (by simp) ?_; intro v' w1 hown hgrow hnil')
    go_ret
    have hbb : Below w.heap.size w w1 := ((Below.refl w.heap.size w).alloc (Nat.le_refl _) _).grown hgrow (by simp) (fun k hk => by have e : some w.heap.size = some k := hk; cases e; exact Nat.le_refl _)
    refine ⟨v', p, rfl, HP1.out, ⟨?_, fun q hq => (HP2.out q hq).below (hbb.mono hB) (Nat.le_refl _)⟩, hbb⟩
    rw [hpl]; simpa using hown

end Go.Proofs.YtjkcbigmebbkkaaDoor
