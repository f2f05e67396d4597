/-
  MaE, MaF.
-/
import Derived.Shelf.Unicode.DecodeSlow
import Derived.Laws.RangeAny
import Derived.Shelf.Strconv.Itoa0
import Derived.Shelf.Unicode.DecodeAny
import Derived.Test.YtjkcbigmebbkkaaDoorProg
import Derived.WalkKit
import Derived.Deep.DeepFit
import Derived.Lib.OthersKept
import Derived.Lib.RuneCountTail
import Derived.Deep.AppendLies
import Derived.Deep.OwnRows
import Derived.Laws.AppendOwnNone
import Derived.Deep.QuietTactic
import Derived.BigQuiet
import Derived.Deep.RegionWith
import Derived.Laws.DeepStrings4
import Derived.Laws.CopyOwn
import Derived.Laws.MakeOwn
import Derived.Deep.RegionLaw
import Derived.Below
import Derived.Deep.RegionHeld3
import Derived.Test.YtjkcbigmebbkkaaDoorZ01
import Derived.Test.YtjkcbigmebbkkaaDoorZ02
import Derived.Test.YtjkcbigmebbkkaaDoorZ03
import Derived.Test.YtjkcbigmebbkkaaDoorZ04
import Derived.Test.YtjkcbigmebbkkaaDoorZ05
import Derived.Test.YtjkcbigmebbkkaaDoorZ06
import Derived.Test.YtjkcbigmebbkkaaDoorZ07
import Derived.Test.YtjkcbigmebbkkaaDoorZ08
import Derived.Test.YtjkcbigmebbkkaaDoorZ09
import Derived.Test.YtjkcbigmebbkkaaDoorZ10
import Derived.Test.YtjkcbigmebbkkaaDoorZ11
import Derived.Test.YtjkcbigmebbkkaaDoorZ12
set_option linter.unusedSimpArgs false
set_option linter.unusedVariables false
namespace Go.Proofs.YtjkcbigmebbkkaaDoor
open Go.RowKit Go.Lib

theorem row_ne_ty {w : World} {base : Nat} {e T : TypeId} {s n R : Nat} {v : Value} {xs : List Value} {cs : Array Value} {fr : Nat × Nat} (h : w.ownsRow base e s v n xs) (hR : w.heap[R]? = some (.cells cs T fr)) (hne : e ≠ T) : v.ownBlock ≠ some R := by
  rcases h.2 with ⟨rfl, _⟩ | ⟨g, cap, cur, rfl, _, hg, _⟩
  · simp [Value.ownBlock]
  · intro hh
    simp [Value.ownBlock] at hh
    subst hh
    rw [hR] at hg
    simp at hg
    exact hne hg.2.1.symm
/-- While a look is made: the look's own block lb, its Kids ks. -/
structure LkI (w : World) (base R lb : Nat) (g : Rg) (x : Int × Nd) (kv sv lv hv : Value) (q : List Lk) : Prop where
  blk : w.heap[R]? = some (.cells #[sv, lv, hv] 105 (0, 0))
  leR : base ≤ R
  lk : q.map (·.1) = g.looks
  row : w.ownsRow base 185 5 lv q.length (lkCells q)
  hl : w.heap[lb]? = some (.cells #[.int .i64 x.1, .int .i64 x.2.op, .int .i64 x.2.n, .string x.2.name, kv] 185 (0, 0))
  leB : base ≤ lb
  ne : lv.ownBlock ≠ some lb
  rows : OwR w base ((kv, x.2.kids) :: (sv, g.slots) :: (hv, g.holes) :: lkRows q)
theorem LkI.below {w w' : World} {base R lb : Nat} {g : Rg} {x : Int × Nd} {kv sv lv hv : Value} {q : List Lk} (h : LkI w base R lb g x kv sv lv hv q) (hb : Below w.heap.size w w') : LkI w' base R lb g x kv sv lv hv q :=
  ⟨(hb.block R (lt_of_block h.blk)).trans h.blk, h.leR, h.lk, ownsRow_below h.row hb, (hb.block lb (lt_of_block h.hl)).trans h.hl, h.leB, h.ne, h.rows.below hb⟩
theorem LkI.cells {w : World} {base R lb : Nat} {g : Rg} {x : Int × Nd} {kv sv lv hv : Value} {q : List Lk} (h : LkI w base R lb g x kv sv lv hv q) : w.cell? ⟨R, 0, none⟩ = some sv ∧ w.cell? ⟨R, 1, none⟩ = some lv ∧ w.cell? ⟨lb, 4, none⟩ = some kv ∧ (∀ j, w.frozen? ⟨R, j, none⟩ = false) ∧ (∀ j, w.frozen? ⟨lb, j, none⟩ = false) := by
  refine ⟨?_, ?_, ?_, fun j => frozen_of_heap h.blk _, fun j => frozen_of_heap h.hl _⟩
  · rw [cell_of_heap h.blk]; rfl
  · rw [cell_of_heap h.blk]; rfl
  · rw [cell_of_heap h.hl]; rfl
theorem LkI.neR {w : World} {base R lb : Nat} {g : Rg} {x : Int × Nd} {kv sv lv hv : Value} {q : List Lk} (h : LkI w base R lb g x kv sv lv hv q) : R ≠ lb := by
  rintro rfl
  have h1 := h.blk
  rw [h.hl] at h1
  simp at h1
theorem LkI.neK {w : World} {base R lb : Nat} {g : Rg} {x : Int × Nd} {kv sv lv hv : Value} {q : List Lk} (h : LkI w base R lb g x kv sv lv hv q) {r : Value × List Int} (hr : r ∈ (kv, x.2.kids) :: (sv, g.slots) :: (hv, g.holes) :: lkRows q) : r.1.ownBlock ≠ some lb ∧ r.1.ownBlock ≠ some R ∧ (r.1.ownBlock = none ∨ r.1.ownBlock ≠ lv.ownBlock) :=
  ⟨row_ne_ty (h.rows.own r hr) h.hl (by decide), row_ne_ty (h.rows.own r hr) h.blk (by decide), ownBlock_ne (h.rows.own r hr) h.row (by decide)⟩
/-- A part more among its Kids. -/
theorem LkI.kid {w w6 : World} {base R lb g6 c6 : Nat} {g : Rg} {x : Int × Nd} {kv sv lv hv : Value} {q : List Lk} (h : LkI w base R lb g x kv sv lv hv q) {z : Int} {k : Nat} (hk : x.2.kids.length = k)
    (hown : w6.ownsRow base 3 1 (.slice (some ⟨g6, 0, none⟩) (k + 1) c6) (k + 1) (x.2.kids.map (Value.int .i64) ++ [.int .i64 z])) (hg : w.grownBy w6 kv.ownBlock) (hat : kv.ownBlock = some g6 ∨ g6 = w.heap.size) :
    LkI (w6.setCell ⟨lb, 4, none⟩ (.slice (some ⟨g6, 0, none⟩) (k + 1) c6)) base R lb g (x.1, { x.2 with kids := x.2.kids ++ [z] }) (.slice (some ⟨g6, 0, none⟩) (k + 1) c6) sv lv hv q ∧ Below base w (w6.setCell ⟨lb, 4, none⟩ (.slice (some ⟨g6, 0, none⟩) (k + 1) c6)) := by
  have hnR := h.neR
  obtain ⟨n1, n2, n3⟩ := h.neK (r := (kv, x.2.kids)) (by simp)
  have ho : OwnI w6 base (.slice (some ⟨g6, 0, none⟩) (k + 1) c6) (x.2.kids ++ [z]) := by
    unfold OwnI
    rw [List.length_append, hk, List.map_append]; exact hown
  have hR6 := h.rows.turn (v' := .slice (some ⟨g6, 0, none⟩) (k + 1) c6) hg ho (by
    rcases hat with hat | hat
    · exact .inl hat.symm
    · exact .inr fun b hb => by simp [Value.ownBlock] at hb; omega)
  have hlb6 : w6.heap[lb]? = _ := (hg.block lb (lt_of_block h.hl) (Ne.symm n1)).trans h.hl
  have hbR : w6.heap[R]? = _ := (hg.block R (lt_of_block h.blk) (Ne.symm n2)).trans h.blk
  have hrow : w6.ownsRow base 185 5 lv q.length (lkCells q) := World.ownsRow.kept h.row hg (ownBlock_ne h.row (h.rows.own (kv, x.2.kids) (by simp)) (by decide))
  have hB : base ≤ w.heap.size := Nat.le_trans h.leB (Nat.le_of_lt (lt_of_block h.hl))
  refine ⟨⟨?_, h.leR, h.lk, own_set' hrow h.ne, ?_, h.leB, h.ne, hR6.kept (grown_set _ _ _ _) fun r hr b hb e => ?_⟩, ?_⟩
  · rw [Deep.blk_setCell_other _ _ _ _ (by show R ≠ lb; exact hnR)]; exact hbR
  · rw [heap_setCell_same w6 lb 4 _ _ _ hlb6]; rfl
  · rw [← e] at hb
    exact row_ne_ty (hR6.own r hr) hlb6 (by decide) hb
  · have h1 : Below base w w6 := (Below.refl _ _).grown hg hB (fun j hj => (own_lt (h.rows.own (kv, x.2.kids) (by simp)) hj).1)
    exact h1.setCell (p := ⟨lb, 4, none⟩) h.leB _
/-- A register more. -/
theorem LkI.slot {w w6 : World} {base R lb g6 c6 : Nat} {g : Rg} {x : Int × Nd} {kv sv lv hv : Value} {q : List Lk} (h : LkI w base R lb g x kv sv lv hv q) {z : Int} {k : Nat} (hk : g.slots.length = k)
    (hown : w6.ownsRow base 3 1 (.slice (some ⟨g6, 0, none⟩) (k + 1) c6) (k + 1) (g.slots.map (Value.int .i64) ++ [.int .i64 z])) (hg : w.grownBy w6 sv.ownBlock) (hat : sv.ownBlock = some g6 ∨ g6 = w.heap.size) :
    LkI (w6.setCell ⟨R, 0, none⟩ (.slice (some ⟨g6, 0, none⟩) (k + 1) c6)) base R lb { g with slots := g.slots ++ [z] } x kv (.slice (some ⟨g6, 0, none⟩) (k + 1) c6) lv hv q ∧ Below base w (w6.setCell ⟨R, 0, none⟩ (.slice (some ⟨g6, 0, none⟩) (k + 1) c6)) := by
  have hnR := h.neR
  obtain ⟨n1, n2, n3⟩ := h.neK (r := (sv, g.slots)) (by simp)
  have ho : OwnI w6 base (.slice (some ⟨g6, 0, none⟩) (k + 1) c6) (g.slots ++ [z]) := by
    unfold OwnI
    rw [List.length_append, hk, List.map_append]; exact hown
  have hR6 := (h.rows.perm (List.Perm.swap (sv, g.slots) (kv, x.2.kids) _)).turn (v' := .slice (some ⟨g6, 0, none⟩) (k + 1) c6) hg ho (by
    rcases hat with hat | hat
    · exact .inl hat.symm
    · exact .inr fun b hb => by simp [Value.ownBlock] at hb; omega)
  have hR7 := hR6.perm (List.Perm.swap (kv, x.2.kids) (.slice (some ⟨g6, 0, none⟩) (k + 1) c6, g.slots ++ [z]) _)
  have hlb6 : w6.heap[lb]? = _ := (hg.block lb (lt_of_block h.hl) (Ne.symm n1)).trans h.hl
  have hbR : w6.heap[R]? = _ := (hg.block R (lt_of_block h.blk) (Ne.symm n2)).trans h.blk
  have hrow : w6.ownsRow base 185 5 lv q.length (lkCells q) := World.ownsRow.kept h.row hg (ownBlock_ne h.row (h.rows.own (sv, g.slots) (by simp)) (by decide))
  have hB : base ≤ w.heap.size := Nat.le_trans h.leB (Nat.le_of_lt (lt_of_block h.hl))
  refine ⟨⟨?_, h.leR, h.lk, own_set' hrow (row_ne_ty hrow hbR (by decide)), ?_, h.leB, h.ne, hR7.kept (grown_set _ _ _ _) fun r hr b hb e => ?_⟩, ?_⟩
  · rw [heap_setCell_same w6 R 0 _ _ _ hbR]; rfl
  · rw [Deep.blk_setCell_other _ _ _ _ (by show lb ≠ R; exact Ne.symm hnR)]; exact hlb6
  · rw [← e] at hb
    exact row_ne_ty (hR7.own r hr) hbR (by decide) hb
  · have h1 : Below base w w6 := (Below.refl _ _).grown hg hB (fun j hj => (own_lt (h.rows.own (sv, g.slots) (by simp)) hj).1)
    exact h1.setCell (p := ⟨R, 0, none⟩) h.leR _
/-- The look stands behind the rest. -/
theorem LkI.put {w w6 : World} {base R lb g6 c6 : Nat} {g : Rg} {x : Int × Nd} {kv sv lv hv : Value} {q : List Lk} (h : LkI w base R lb g x kv sv lv hv q) {k : Nat} (hk : q.length = k)
    (hown : w6.ownsRow base 185 5 (.slice (some ⟨g6, 0, none⟩) (k + 1) c6) (k + 1) (lkCells q ++ [.int .i64 x.1, .int .i64 x.2.op, .int .i64 x.2.n, .string x.2.name, kv])) (hg : w.grownBy w6 lv.ownBlock) :
    RdG (w6.setCell ⟨R, 1, none⟩ (.slice (some ⟨g6, 0, none⟩) (k + 1) c6)) base R { g with looks := g.looks ++ [x] } sv (.slice (some ⟨g6, 0, none⟩) (k + 1) c6) hv (q ++ [(x, kv)]) ∧ Below base w (w6.setCell ⟨R, 1, none⟩ (.slice (some ⟨g6, 0, none⟩) (k + 1) c6)) := by
  have hR6 : OwR w6 base _ := h.rows.kept hg fun r hr b hb e => by
    obtain ⟨_, _, n3⟩ := h.neK hr
    rcases n3 with n3 | n3
    · rw [n3] at hb; cases hb
    · rw [hb] at n3; exact n3 e.symm
  have hbR : w6.heap[R]? = _ := (hg.block R (lt_of_block h.blk) (Ne.symm (row_ne_ty h.row h.blk (by decide)))).trans h.blk
  have hB : base ≤ w.heap.size := Nat.le_trans h.leB (Nat.le_of_lt (lt_of_block h.hl))
  have hown' : w6.ownsRow base 185 5 (.slice (some ⟨g6, 0, none⟩) (k + 1) c6) (q ++ [(x, kv)]).length (lkCells (q ++ [(x, kv)])) := by
    rw [lkCells_app, List.length_append, hk]; exact hown
  refine ⟨⟨?_, h.leR, by simp [h.lk], own_set' hown' (row_ne_ty hown' hbR (by decide)), ?_⟩, ?_⟩
  · rw [heap_setCell_same w6 R 1 _ _ _ hbR]; rfl
  · have h7 := hR6.kept (grown_set w6 R 1 (.slice (some ⟨g6, 0, none⟩) (k + 1) c6)) fun r hr b hb e => by
      rw [← e] at hb
      exact row_ne_ty (hR6.own r hr) hbR (by decide) hb
    refine h7.perm ?_
    have : lkRows (q ++ [(x, kv)]) = lkRows q ++ [(kv, x.2.kids)] := by simp [lkRows]
    rw [this]
    exact (List.perm_append_singleton (kv, x.2.kids) ((sv, g.slots) :: (hv, g.holes) :: lkRows q)).symm
  · have h1 : Below base w w6 := (Below.refl _ _).grown hg hB (fun j hj => (own_lt h.row hj).1)
    exact h1.setCell (p := ⟨R, 1, none⟩) h.leR _
/-- A look is begun. -/
theorem RdG.begin_ {w : World} {base R : Nat} {g : Rg} {sv lv hv : Value} {q : List Lk} (h : RdG w base R g sv lv hv q) (of op n : Int) (nm : ByteArray) : LkI (w.alloc (.cells #[.int .i64 of, .int .i64 op, .int .i64 n, .string nm, .slice none 0 0] 185)) base R w.heap.size g (of, ⟨op, n, nm, []⟩) (.slice none 0 0) sv lv hv q := by
  have hb : Below w.heap.size w (w.alloc (.cells #[.int .i64 of, .int .i64 op, .int .i64 n, .string nm, .slice none 0 0] 185)) := (Below.refl _ _).alloc (Nat.le_refl _) _
  have h' := h.below hb
  refine ⟨h'.blk, h.leR, h.lk, h'.row, (MapKept.heap_alloc w _).1, Nat.le_trans h.leR (Nat.le_of_lt (lt_of_block h.blk)), fun e => ?_, h'.rows.cons (OwnI_nil _ _) (fun r _ b _ => by simp [Value.ownBlock])⟩
  have := (own_lt h.row e).2
  omega
end Go.Proofs.YtjkcbigmebbkkaaDoor

set_option linter.unusedSimpArgs false
set_option linter.unusedVariables false
namespace Go.Proofs.YtjkcbigmebbkkaaDoor
open Go.RowKit Go.Lib

theorem Tryd.infoLook : (Tryd.prog.info? 185).map (fun i => (i.zero, i.size, i.bytes)) = some (some (.agg #[.int .i64 0, .int .i64 0, .int .i64 0, .string ⟨#[]⟩, .slice none 0 0]), 5, 64) := by kernel_rfl
theorem upL_snoc (n j : Nat) : upL n (j + 1) = upL n j ++ [((n + j : Nat) : Int)] := by
  unfold upL
  rw [List.range_succ, List.map_append]; rfl
/-- Behind j rounds. -/
def LkJ (w : World) (base R lb : Nat) (g : Rg) (of op n : Int) (nm : ByteArray) (lv hv : Value) (q : List Lk) (j : Nat) (wr : World) : Prop :=
  ∃ kv sv, LkI wr base R lb { g with slots := g.slots ++ upL g.slots.length j } (of, ⟨op, n, nm, upL g.slots.length j⟩) kv sv lv hv q ∧ Below base w wr
theorem cell_new1 {w : World} {u : Value} {T : TypeId} : ∀ j v, [u][j]? = some v → (w.alloc (.cells #[u] T)).drew.cell? ((⟨w.heap.size, 0, none⟩ : Addr).add j) = some v := fun j v h => by
  have hb : (w.alloc (.cells #[u] T)).drew.heap[w.heap.size]? = some (.cells #[u] T (0, 0)) := (MapKept.heap_alloc w _).1
  exact World.news_of_block hb j v h
theorem cell_new5 {w : World} {a b c d e : Value} {T : TypeId} : ∀ j v, [a, b, c, d, e][j]? = some v → (w.alloc (.cells #[a, b, c, d, e] T)).drew.cell? ((⟨w.heap.size, 0, none⟩ : Addr).add j) = some v := fun j v h => by
  have hb : (w.alloc (.cells #[a, b, c, d, e] T)).drew.heap[w.heap.size]? = some (.cells #[a, b, c, d, e] T (0, 0)) := (MapKept.heap_alloc w _).1
  exact World.news_of_block hb j v h

set_option maxRecDepth 20000 in
set_option maxHeartbeats 4000000 in
theorem look_any {w : World} {base R : Nat} {g : Rg} {sv lv hv : Value} {q : List Lk} (h : RdG w base R g sv lv hv q) (c : Cm) (k : Nat) (hk : k ≤ 3) (hr : 0 ≤ c.r ∧ c.r < (g.slots.length : Nat)) (hS : g.slots.length ≤ 1000) (hq : q.length ≤ 1000) :
    Calls Tryd.prog 111 #[.pointer (some ⟨R, 0, none⟩), cmV c, .int .i64 (k : Int)] w fun e w' => e = .returned (.tuple #[]) ∧ Below base w w' ∧ ∃ sv' lv' q', RdG w' base R (lookG g c k) sv' lv' hv q' := by
  obtain ⟨kind, r, to, op, n, name⟩ := c
  simp only at hr
  obtain ⟨i0, hi, hz0, hz1, hz2⟩ := info_parts Tryd.info3
  obtain ⟨j0, hjj, hy0, hy1, hy2⟩ := info_parts Tryd.infoLook
  have hbA : Below w.heap.size w (w.alloc (.cells #[.int .i64 kind, .int .i64 r, .int .i64 to, .int .i64 op, .int .i64 n, .string name] 68)) := (Below.refl _ _).alloc (Nat.le_refl _) _
  have hblkA : (w.alloc (.cells #[.int .i64 kind, .int .i64 r, .int .i64 to, .int .i64 op, .int .i64 n, .string name] 68)).heap[w.heap.size]? = some (.cells #[.int .i64 kind, .int .i64 r, .int .i64 to, .int .i64 op, .int .i64 n, .string name] 68 (0, 0)) := (MapKept.heap_alloc w _).1
  obtain ⟨wA, hwA⟩ : ∃ wA, w.alloc (.cells #[.int .i64 kind, .int .i64 r, .int .i64 to, .int .i64 op, .int .i64 n, .string name] 68) = wA := ⟨_, rfl⟩
  rw [hwA] at hbA hblkA
  have hA := h.below hbA
  obtain ⟨c0, _, _, _⟩ := hA.cells
  obtain ⟨so, sc, rfl, hs1, hs2, hs3⟩ := ownI_form hA.slots
  unfold maxLen at hs2
  have hk0 : r.toNat < g.slots.length := by omega
  rcases hs3 with hs3 | ⟨sg, rfl, _, _, hsc⟩
  · rw [hs3] at hk0; simp at hk0
  obtain ⟨cs, _⟩ := hsc r.toNat hk0
  obtain ⟨of, hof⟩ : ∃ of, g.slots.getD r.toNat 0 = of := ⟨_, rfl⟩
  rw [hof] at cs
  have a1 : wA.cell? ⟨w.heap.size, 1, none⟩ = some (.int .i64 r) := by rw [cell_of_heap hblkA]; rfl
  have a3 : wA.cell? ⟨w.heap.size, 3, none⟩ = some (.int .i64 op) := by rw [cell_of_heap hblkA]; rfl
  have a4 : wA.cell? ⟨w.heap.size, 4, none⟩ = some (.int .i64 n) := by rw [cell_of_heap hblkA]; rfl
  have a5 : wA.cell? ⟨w.heap.size, 5, none⟩ = some (.string name) := by rw [cell_of_heap hblkA]; rfl
  have hB := hA.begin_ of op n name
  have hb0 : base ≤ w.heap.size := Nat.le_trans h.leR (Nat.le_of_lt (lt_of_block h.blk))
  obtain ⟨wB, hwB⟩ : ∃ wB, (wA.alloc (.cells #[.int .i64 of, .int .i64 op, .int .i64 n, .string name, .slice none 0 0] 185)).drew = wB := ⟨_, rfl⟩
  have HST : Hid (LkJ w base R wA.heap.size g of op n name lv hv q 0 wB) := by
    refine ⟨.slice none 0 0, .slice (some ⟨sg, 0, none⟩) g.slots.length sc, ?_, ?_⟩
    · rw [← hwB]; simpa [upL] using hB.below (Below.refl _ _).drew
    · rw [← hwB]; exact ((hbA.mono hb0).alloc (Nat.le_trans hb0 hbA.size) _).drew
  have HWB : Hid (_) := hwB
  clear hA hB hsc hbA hblkA hwB
  unfold cmV
  simp only
  go_enter Tryd.func111, Tryd.ntmps111
  go_wp2_with (rw [hwA])
  go_region_held3 (fun W => W.cell? ⟨R, 0, none⟩ = some (.slice (some ⟨sg, 0, none⟩) g.slots.length sc) ∧ W.cell? ⟨sg, r.toNat, none⟩ = some (.int .i64 of) ∧ W.cell? ⟨w.heap.size, 1, none⟩ = some (.int .i64 r) ∧ W.cell? ⟨w.heap.size, 3, none⟩ = some (.int .i64 op) ∧ W.cell? ⟨w.heap.size, 4, none⟩ = some (.int .i64 n) ∧ W.cell? ⟨w.heap.size, 5, none⟩ = some (.string name)) (go_keep) (fail)
  rw [HWB.out]
  generalize wA.heap.size = lb at *
  clear HWB a1 a3 a4 a5 cs c0 hwA
  go_wp2_with fail
  go_loopw [24] (fun i wr => ∃ j : Nat, j ≤ k ∧ i = .int .i64 j ∧ LkJ w base R lb g of op n name lv hv q j wr) (fun i _ => k - (RowKit.intOf i).toNat)
  case atStart => exact ⟨0, by omega, rfl, HST.out⟩
  case round =>
    obtain ⟨j, hj, rfl, kv, sv, hI, hbw⟩ := hrel
    obtain ⟨c0, _, c4, fR, fB⟩ := hI.cells
    have HI : Hid (_) := hI
    have HBW : Hid (_) := hbw
    by_cases hlt : j < k
    · have hsl : (g.slots ++ upL g.slots.length j).length = g.slots.length + j := by rw [List.length_append, upL_len]
      obtain ⟨so, sc', hsv, hsv1, hsv2, _⟩ := ownI_form (hI.rows.own (sv, g.slots ++ upL g.slots.length j) (by simp))
      rw [hsl] at hsv hsv1
      simp only at hsv
      obtain ⟨N, hN⟩ : ∃ N, g.slots.length + j = N := ⟨_, rfl⟩
      rw [hN] at hsv hsv1
      have hN2 : N ≤ 1003 := by omega
      subst hsv
      have n1 := (hI.neK (r := (kv, upL g.slots.length j)) (by simp)).1
      have hlR := lt_of_block hI.blk
      have hlB := lt_of_block hI.hl
      have zB : ∀ o, (wr.alloc o).cell? ⟨lb, 4, none⟩ = some kv := fun o => (World.cell?_alloc_past _ _ _ hlB).trans c4
      have zR : ∀ o, (wr.alloc o).cell? ⟨R, 0, none⟩ = some (.slice so N sc') := fun o => (World.cell?_alloc_past _ _ _ hlR).trans c0
      have hrow := hI.rows.own (kv, upL g.slots.length j) (by simp)
      unfold OwnI at hrow
      simp only [upL_len] at hrow
      have fB4 := fB 4
      have HP6 : Hid (∀ (o : Obj) (w6 : World), (wr.alloc o).drew.grownBy w6 kv.ownBlock → w6.heap[lb]? = wr.heap[lb]?) := fun o w6 hg => by
        have h1 := hg.block lb (by show lb < (wr.alloc o).heap.size; rw [World.size_alloc]; omega) (Ne.symm n1)
        exact h1.trans (alloc_old _ _ _ hlB)
      have hbb : base ≤ wr.heap.size := Nat.le_trans hI.leR (Nat.le_of_lt hlR)
      clear hI hbw n1 fB fR
      go_wp2_with fail
      go_region_law (refine step_append_lies _ rfl (.tmp 28) (.tmp 34) 61 rfl base 3 i0 (.int .i64 0) 1 8 Tryd.underlying61 hi hz0 hz1 hz2 rfl (by decide) _ _ _ (by simp [Act.eval, Act.put]) (hrow.alloc _) ⟨wr.heap.size, 0, none⟩ 1 1 [.int .i64 (N : Int)] (by simp [Act.eval, Act.put]) rfl (cell_new1) (by simp [Value.oneCell']) (by omega) (by unfold maxLen; omega) (by omega) (by simp; omega) _ rfl ?_; intro g6 cap6 w6 hown6 hg6 hat6 hl6; have hnd6 := HP6.out _ w6 hg6; have m6 : w6.cell? ⟨lb, 4, none⟩ = some kv := (World.cell?_of_block (a := ⟨lb, 4, none⟩) hnd6).trans c4; have m6f : w6.frozen? ⟨lb, 4, none⟩ = false := (World.frozen?_of_block (a := ⟨lb, 4, none⟩) hnd6).trans fB4)
      all_goals
        have hIa := HI.out.below ((Below.refl _ _).alloc (Nat.le_refl _) (.cells #[.int .i64 (N : Int)] 3)).drew
        obtain ⟨hI7, hB7⟩ := hIa.kid (z := (N : Int)) (k := j) (upL_len _ _) hown6 hg6 (by rcases hat6 with h | h; exact .inl h; exact .inr (by rw [h]))
        have hB7' : Below base w _ := HBW.out.trans ((((Below.refl _ _).alloc hbb (.cells #[.int .i64 (N : Int)] 3)).drew).trans hB7)
        have hkk : upL g.slots.length j ++ [(N : Int)] = upL g.slots.length (j + 1) := by rw [upL_snoc, hN]
        simp only [hkk] at hI7
        obtain ⟨w7, hw7⟩ : ∃ w7, w6.setCell ⟨lb, 4, none⟩ (.slice (some ⟨g6, 0, none⟩) (j + 1) cap6) = w7 := ⟨_, rfl⟩
        rw [hw7] at hI7 hB7'
        rw [hw7]
        clear hIa hB7 hown6 hg6 hat6 hl6 hnd6 m6 m6f hw7 zB zR c0 c4 hrow fB4 HP6
        obtain ⟨d0, _, d4, eR, eB⟩ := hI7.cells
        have HI7 : Hid (_) := hI7
        have HB7 : Hid (_) := hB7'
        have n2 := (hI7.neK (r := (.slice so N sc', g.slots ++ upL g.slots.length j)) (by simp)).2.1
        have hlR7 := lt_of_block hI7.blk
        have zR7 : ∀ o, (w7.alloc o).cell? ⟨R, 0, none⟩ = some (.slice so N sc') := fun o => (World.cell?_alloc_past _ _ _ hlR7).trans d0
        have hrow7 := hI7.rows.own (.slice so N sc', g.slots ++ upL g.slots.length j) (by simp)
        unfold OwnI at hrow7
        simp only [hsl, hN] at hrow7
        have eR0 := eR 0
        have HP7 : Hid (∀ (o : Obj) (w8 : World), (w7.alloc o).drew.grownBy w8 (Value.slice so N sc').ownBlock → w8.heap[R]? = w7.heap[R]?) := fun o w8 hg => by
          have h1 := hg.block R (by show R < (w7.alloc o).heap.size; rw [World.size_alloc]; omega) (Ne.symm n2)
          exact h1.trans (alloc_old _ _ _ hlR7)
        have hbb7 : base ≤ w7.heap.size := Nat.le_trans hI7.leR (Nat.le_of_lt hlR7)
        clear hI7 hB7' n2 eR eB
        go_wp2_with fail
        go_region_law (refine step_append_lies _ rfl (.tmp 42) (.tmp 48) 61 rfl base 3 i0 (.int .i64 0) 1 8 Tryd.underlying61 hi hz0 hz1 hz2 rfl (by decide) _ _ _ (by simp [Act.eval, Act.put]) (hrow7.alloc _) ⟨w7.heap.size, 0, none⟩ 1 1 [.int .i64 (N : Int)] (by simp [Act.eval, Act.put]) rfl (cell_new1) (by simp [Value.oneCell']) (by omega) (by unfold maxLen; omega) (by omega) (by simp; omega) _ rfl ?_; intro g8 cap8 w8 hown8 hg8 hat8 hl8; have hnd8 := HP7.out _ w8 hg8; have m8 : w8.cell? ⟨R, 0, none⟩ = some (.slice so N sc') := (World.cell?_of_block (a := ⟨R, 0, none⟩) hnd8).trans d0; have m8f : w8.frozen? ⟨R, 0, none⟩ = false := (World.frozen?_of_block (a := ⟨R, 0, none⟩) hnd8).trans eR0)
        all_goals
          have hIa := HI7.out.below ((Below.refl _ _).alloc (Nat.le_refl _) (.cells #[.int .i64 (N : Int)] 3)).drew
          obtain ⟨hI9, hB9⟩ := hIa.slot (z := (N : Int)) (k := N) (by rw [← hN]; exact hsl) hown8 hg8 (by rcases hat8 with h | h; exact .inl h; exact .inr (by rw [h]))
          have hB9' : Below base w _ := HB7.out.trans ((((Below.refl _ _).alloc hbb7 (.cells #[.int .i64 (N : Int)] 3)).drew).trans hB9)
          have hss : g.slots ++ upL g.slots.length j ++ [(N : Int)] = g.slots ++ upL g.slots.length (j + 1) := by rw [List.append_assoc, hkk]
          simp only [hss] at hI9
          obtain ⟨w9, hw9⟩ : ∃ w9, w8.setCell ⟨R, 0, none⟩ (.slice (some ⟨g8, 0, none⟩) (N + 1) cap8) = w9 := ⟨_, rfl⟩
          rw [hw9] at hI9 hB9'
          rw [hw9]
          have HE : Hid (LkJ w base R lb g of op n name lv hv q (j + 1) w9) := ⟨_, _, hI9, hB9'⟩
          clear hIa hI9 hB9 hB9' hown8 hg8 hat8 hl8 hnd8 m8 m8f hw9 zR7 d0 d4 hrow7 eR0 HP7
          go_wp2_with fail
          exact ⟨⟨j + 1, by omega, by go_num, HE.out⟩, by simp [RowKit.intOf]; omega⟩
    · have hke : j = k := by omega
      subst hke
      obtain ⟨ka, kc, hkv, _, _, _⟩ := ownI_form (hI.rows.own (kv, upL g.slots.length j) (by simp))
      simp only at hkv
      subst hkv
      obtain ⟨la, lc, hlv⟩ := row_form' hI.row
      obtain ⟨Q, hQ⟩ : ∃ Q, q.length = Q := ⟨_, rfl⟩
      have HQ : Hid (q.length = Q) := hQ
      rw [hQ] at hlv hq
      subst hlv
      obtain ⟨_, c1, _, fR, _⟩ := hI.cells
      have hblk := hI.hl
      have b0 : wr.cell? ⟨lb, 0, none⟩ = some (.int .i64 of) := by rw [cell_of_heap hblk]; rfl
      have b1 : wr.cell? ⟨lb, 1, none⟩ = some (.int .i64 op) := by rw [cell_of_heap hblk]; rfl
      have b2 : wr.cell? ⟨lb, 2, none⟩ = some (.int .i64 n) := by rw [cell_of_heap hblk]; rfl
      have b3 : wr.cell? ⟨lb, 3, none⟩ = some (.string name) := by rw [cell_of_heap hblk]; rfl
      have b4 := c4
      have hlR := lt_of_block hI.blk
      have hlB := lt_of_block hI.hl
      have hrow := hI.row
      rw [hQ] at hrow
      have fR1 := fR 1
      have z1 : ∀ o, (wr.alloc o).cell? ⟨R, 1, none⟩ = some (.slice la Q lc) := fun o => (World.cell?_alloc_past _ _ _ hlR).trans c1
      have zb0 : ∀ o, (wr.alloc o).cell? ⟨lb, 0, none⟩ = some (.int .i64 of) := fun o => (World.cell?_alloc_past _ _ _ hlB).trans b0
      have n3 := row_ne_ty hI.row hI.blk (by decide)
      have HP6 : Hid (∀ (o : Obj) (w6 : World), (wr.alloc o).drew.grownBy w6 (Value.slice la Q lc).ownBlock → w6.heap[R]? = wr.heap[R]?) := fun o w6 hg => by
        have h1 := hg.block R (by show R < (wr.alloc o).heap.size; rw [World.size_alloc]; omega) (Ne.symm n3)
        exact h1.trans (alloc_old _ _ _ hlR)
      have hbb : base ≤ wr.heap.size := Nat.le_trans hI.leR (Nat.le_of_lt hlR)
      clear hI hbw n3 fR c0 fB hblk zb0
      go_wp2_with fail
      go_region_law (refine step_append_lies _ rfl (.tmp 57) (.tmp 59) 103 rfl base 185 j0 (.agg #[.int .i64 0, .int .i64 0, .int .i64 0, .string ⟨#[]⟩, .slice none 0 0]) 5 64 Tryd.underlying103 hjj hy0 hy1 hy2 rfl (by decide) _ _ _ (by simp [Act.eval, Act.put]) (hrow.alloc _) ⟨wr.heap.size, 0, none⟩ 1 1 [.int .i64 of, .int .i64 op, .int .i64 n, .string name, .slice ka (upL g.slots.length j).length kc] (by simp [Act.eval, Act.put]) rfl (cell_new5) (by simp [Value.oneCell']) (by omega) (by unfold maxLen; omega) (by omega) (by simp; omega) _ rfl ?_; intro g6 cap6 w6 hown6 hg6 hat6 hl6; have hnd6 := HP6.out _ w6 hg6; have m6 : w6.cell? ⟨R, 1, none⟩ = some (.slice la Q lc) := (World.cell?_of_block (a := ⟨R, 1, none⟩) hnd6).trans c1; have m6f : w6.frozen? ⟨R, 1, none⟩ = false := (World.frozen?_of_block (a := ⟨R, 1, none⟩) hnd6).trans fR1)
      all_goals
        have hIa := HI.out.below ((Below.refl _ _).alloc (Nat.le_refl _) (.cells #[.int .i64 of, .int .i64 op, .int .i64 n, .string name, .slice ka (upL g.slots.length j).length kc] 185)).drew
        obtain ⟨hI7, hB7⟩ := hIa.put (k := Q) HQ.out hown6 hg6
        have hB7' : Below base w _ := HBW.out.trans ((((Below.refl _ _).alloc hbb (.cells #[.int .i64 of, .int .i64 op, .int .i64 n, .string name, .slice ka (upL g.slots.length j).length kc] 185)).drew).trans hB7)
        have hI8 : RdG (w6.setCell ⟨R, 1, none⟩ (.slice (some ⟨g6, 0, none⟩) (Q + 1) cap6)) base R (lookG g ⟨kind, r, to, op, n, name⟩ j) sv (.slice (some ⟨g6, 0, none⟩) (Q + 1) cap6) hv (q ++ [((of, ⟨op, n, name, upL g.slots.length j⟩), .slice ka (upL g.slots.length j).length kc)]) := by subst hof; exact hI7
        have HE : Hid (_) := hI8
        have HB : Hid (_) := hB7'
        clear hIa hI7 hI8 hB7 hB7' hown6 hg6 hat6 hl6 hnd6 m6 m6f
        go_wp2_with fail
        go_end0
        exact ⟨rfl, HB.out, _, _, _, HE.out⟩
end Go.Proofs.YtjkcbigmebbkkaaDoor
