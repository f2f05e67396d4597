/-
  MaR, PaSm.
-/
import Derived.Shelf.Unicode.DecodeSlow
import Derived.Laws.RangeAny
import Derived.Shelf.Strconv.Itoa0
import Derived.Shelf.Unicode.DecodeAny
import Derived.Test.YtjkcbigmebbkkaaDoorProg
import Derived.WalkKit
import Derived.Deep.DeepFit
import Derived.Lib.OthersKept
import Derived.Lib.RuneCountTail
import Derived.Deep.AppendLies
import Derived.Deep.OwnRows
import Derived.Laws.AppendOwnNone
import Derived.Deep.QuietTactic
import Derived.BigQuiet
import Derived.Deep.RegionWith
import Derived.Laws.DeepStrings4
import Derived.Laws.CopyOwn
import Derived.Laws.MakeOwn
import Derived.Deep.RegionLaw
import Derived.Below
import Derived.Deep.RegionHeld3
import Derived.Lib.QuietBelow
import Derived.StillTail
import Derived.Lib.MapLaws
import Derived.Sort.Walk0
import Derived.Lib.ItoaNum
import Derived.Maps.OwnSet
import Derived.StringKeys
import Derived.Deep.Slices
import Derived.Laws.ResultCell
import Derived.Test.YtjkcbigmebbkkaaDoorZ01
import Derived.Test.YtjkcbigmebbkkaaDoorZ02
import Derived.Test.YtjkcbigmebbkkaaDoorZ03
import Derived.Test.YtjkcbigmebbkkaaDoorZ04
import Derived.Test.YtjkcbigmebbkkaaDoorZ05
import Derived.Test.YtjkcbigmebbkkaaDoorZ06
import Derived.Test.YtjkcbigmebbkkaaDoorZ07
import Derived.Test.YtjkcbigmebbkkaaDoorZ08
import Derived.Test.YtjkcbigmebbkkaaDoorZ09
import Derived.Test.YtjkcbigmebbkkaaDoorZ10
import Derived.Test.YtjkcbigmebbkkaaDoorZ11
import Derived.Test.YtjkcbigmebbkkaaDoorZ12
import Derived.Test.YtjkcbigmebbkkaaDoorZ13
import Derived.Test.YtjkcbigmebbkkaaDoorZ14
import Derived.Test.YtjkcbigmebbkkaaDoorZ15
import Derived.Test.YtjkcbigmebbkkaaDoorZ16
import Derived.Test.YtjkcbigmebbkkaaDoorZ17
import Derived.Test.YtjkcbigmebbkkaaDoorZ18
import Derived.Test.YtjkcbigmebbkkaaDoorZ19
import Derived.Test.YtjkcbigmebbkkaaDoorZ20
import Derived.Test.YtjkcbigmebbkkaaDoorZ21
set_option linter.unusedSimpArgs false
set_option linter.unusedVariables false
namespace Go.Proofs.YtjkcbigmebbkkaaDoor
open Go.RowKit Go.Lib Go.Maps

def cmCells : List Cm → List Value
  | [] => []
  | c :: r => .int .i64 c.kind :: .int .i64 c.r :: .int .i64 c.to :: .int .i64 c.op :: .int .i64 c.n :: .string c.name :: cmCells r
theorem cmCells_app : ∀ l m : List Cm, cmCells (l ++ m) = cmCells l ++ cmCells m
  | [], _ => rfl
  | c :: r, m => by simp [cmCells, cmCells_app r m]
theorem cmCells_at : ∀ (l : List Cm) (i : Nat) (c : Cm), l[i]? = some c → (cmCells l)[i * 6]? = some (.int .i64 c.kind) ∧ (cmCells l)[i * 6 + 1]? = some (.int .i64 c.r) ∧ (cmCells l)[i * 6 + 2]? = some (.int .i64 c.to) ∧ (cmCells l)[i * 6 + 3]? = some (.int .i64 c.op) ∧ (cmCells l)[i * 6 + 4]? = some (.int .i64 c.n) ∧ (cmCells l)[i * 6 + 5]? = some (.string c.name)
  | [], i, c, h => by simp at h
  | d :: r, 0, c, h => by simp at h; subst h; simp [cmCells]
  | d :: r, i + 1, c, h => by
    have h2 := cmCells_at r i c (by simpa using h)
    have e : (i + 1) * 6 = i * 6 + 6 := by omega
    rw [e]
    simpa [cmCells] using h2
/-- An owned program is read. -/
theorem Cms_of_own {w : World} {base : Nat} {v : Value} {l : List Cm} (h : w.ownsRow base 68 6 v l.length (cmCells l)) : ∃ ao cap, v = .slice ao l.length cap ∧ Cms w ao cap l := by
  rcases h.2 with ⟨rfl, h0⟩ | ⟨g, cap, cur, rfl, hb, hg, hn, hm, hs, ht⟩
  · have : l = [] := List.length_eq_zero_iff.1 h0
    subst this
    exact ⟨none, 0, rfl, by simp, by simp, .inl rfl⟩
  · refine ⟨_, cap, rfl, hn, hm, .inr ⟨g, 0, rfl, lt_of_block hg, fun i hi => ?_⟩⟩
    have hcell : ∀ (j : Nat), j < l.length * 6 → w.cell? ⟨g, j, none⟩ = (cmCells l)[j]? := by
      intro j hj
      rw [cell_of_heap hg, ← Array.getElem?_toList]
      have : cur.toList[j]? = (cur.toList.take (l.length * 6))[j]? := by rw [List.getElem?_take, if_pos hj]
      rw [this, ht]
    have e : l[i]? = some (l.getD i cm0) := by simp [hi]
    obtain ⟨k0, k1, k2, k3, k4, k5⟩ := cmCells_at l i _ e
    rw [Nat.zero_add]
    exact ⟨(hcell _ (by omega)).trans k0, (hcell _ (by omega)).trans k1, (hcell _ (by omega)).trans k2, (hcell _ (by omega)).trans k3, (hcell _ (by omega)).trans k4, (hcell _ (by omega)).trans k5⟩

/-- Compile's memory: the program so far, the registers of the nodes (block pg), the map of the holes' (block M). -/
structure CpM (base L : Nat) (s : Cp) (pv : Value) (pg M k : Nat) (w : World) : Prop where
  prow : w.ownsRow base 68 6 pv s.prog.length (cmCells s.prog)
  place : OwnI w base (.slice (some ⟨pg, 0, none⟩) L L) s.place
  len : s.place.length = L
  map : MapF w M k s.first
  leM : base ≤ M
theorem row_ne_mapF {w : World} {base : Nat} {e : TypeId} {s n M k : Nat} {v : Value} {xs : List Value} {f : ByteArray → Option Int} (h : w.ownsRow base e s v n xs) (hM : MapF w M k f) : v.ownBlock ≠ some M := by
  rcases h.2 with ⟨rfl, _⟩ | ⟨g, cap, cur, rfl, _, hg, _⟩
  · simp [Value.ownBlock]
  · intro hh
    simp [Value.ownBlock] at hh
    subst hh
    exact hM.isMap _ _ _ hg
theorem CpM.below {base L : Nat} {s : Cp} {pv : Value} {pg M k : Nat} {w w' : World} (h : CpM base L s pv pg M k w) (hb : Below w.heap.size w w') : CpM base L s pv pg M k w' :=
  ⟨ownsRow_below h.prow hb, h.place.below hb, h.len, h.map.below hb, h.leM⟩
theorem CpM.pg {base L : Nat} {s : Cp} {pv : Value} {pg M k : Nat} {w : World} (h : CpM base L s pv pg M k w) : base ≤ pg ∧ pg < w.heap.size := own_lt h.place rfl
theorem CpM.at_ {base L : Nat} {s : Cp} {pv : Value} {pg M k : Nat} {w : World} (h : CpM base L s pv pg M k w) {i : Nat} (hi : i < L) : w.cell? ⟨pg, i, none⟩ = some (.int .i64 (s.place.getD i 0)) ∧ w.frozen? ⟨pg, i, none⟩ = false := by
  obtain ⟨ao, cap, e, _, _, h3⟩ := ownI_form h.place
  simp only [Value.slice.injEq] at e
  obtain ⟨rfl, e2, rfl⟩ := e
  rcases h3 with h3 | ⟨g, e3, _, _, hc⟩
  · have := h.len; rw [h3] at this; simp at this; omega
  · injection e3 with e3
    injection e3 with e3
    subst e3
    exact hc i (by rw [h.len]; exact hi)
/-- A command more. -/
theorem CpM.cmd {base L : Nat} {s : Cp} {pv pv' : Value} {pg M k n : Nat} {w w' : World} (h : CpM base L s pv pg M k w) (c : Cm) (hn : s.prog.length = n)
    (hown : w'.ownsRow base 68 6 pv' (n + 1) (cmCells s.prog ++ [.int .i64 c.kind, .int .i64 c.r, .int .i64 c.to, .int .i64 c.op, .int .i64 c.n, .string c.name])) (hg : w.grownBy w' pv.ownBlock) (hB : base ≤ w.heap.size) : CpM base L { s with prog := s.prog ++ [c] } pv' pg M k w' ∧ Below base w w' := by
  refine ⟨⟨?_, World.ownsRow.kept h.place hg (ownBlock_ne h.place h.prow (by decide)), h.len, h.map.kept hg (Ne.symm (row_ne_mapF h.prow h.map)), h.leM⟩, (Below.refl _ _).grown hg hB (fun j hj => (own_lt h.prow hj).1)⟩
  rw [cmCells_app, List.length_append, hn]; exact hown
/-- A node's register. -/
theorem CpM.set {base L : Nat} {s : Cp} {pv : Value} {pg M k i : Nat} {w : World} (h : CpM base L s pv pg M k w) (hi : i < L) (z : Int) : CpM base L { s with place := s.place.set i z } pv pg M k (w.setCell ⟨pg, i, none⟩ (.int .i64 z)) ∧ Below base w (w.setCell ⟨pg, i, none⟩ (.int .i64 z)) := by
  have hrow := h.place
  unfold OwnI at hrow
  rw [h.len] at hrow
  refine ⟨⟨own_set' h.prow (fun e => ?_), ?_, by simp [h.len], h.map.setCell (fun e => ?_) _, h.leM⟩, (Below.refl _ _).setCell (p := ⟨pg, i, none⟩) h.pg.1 _⟩
  · rcases ownBlock_ne h.prow h.place (by decide) with n | n
    · rw [n] at e; cases e
    · exact n e
  · unfold OwnI
    rw [List.length_set, h.len, List.map_set]
    exact own_put hrow (by simp [h.len]; omega)
  · have e : M = pg := e
    exact row_ne_mapF h.place h.map (by rw [e]; rfl)
/-- A hole's register. -/
theorem CpM.put {base L : Nat} {s : Cp} {pv : Value} {pg M k : Nat} {w w' : World} {f : ByteArray → Option Int} (h : CpM base L s pv pg M k w) (hm : MapF w' M (k + 1) f) (hg : w.grownBy w' (some M)) (hB : base ≤ w.heap.size) : CpM base L { s with first := f } pv pg M (k + 1) w' ∧ Below base w w' :=
  ⟨⟨World.ownsRow.kept h.prow hg (.inr (row_ne_mapF h.prow h.map)), World.ownsRow.kept h.place hg (.inr (row_ne_mapF h.place h.map)), h.len, hm, h.leM⟩, (Below.refl _ _).grown hg hB (fun j hj => by cases hj; exact h.leM)⟩
theorem kidsC_app (n : Nat) (pl : List Int) : ∀ (a b : List Int), kidsC (a ++ b) n pl = kidsC b (n + a.length) (kidsC a n pl) := by
  intro a
  induction a generalizing n pl with
  | nil => intro b; rfl
  | cons k r ih =>
    intro b
    simp only [List.cons_append, kidsC, ih, List.length_cons]
    congr 1
    omega
theorem kidsC_next {ks : List Int} {t : Nat} (ht : t < ks.length) (n : Nat) (pl : List Int) : kidsC (ks.take (t + 1)) n pl = (kidsC (ks.take t) n pl).set (ks.getD t 0).toNat ((n + t : Nat) : Int) := by
  have e : ks.take (t + 1) = ks.take t ++ [ks.getD t 0] := by rw [List.take_succ_eq_append_getElem ht]; simp [ht]
  rw [e, kidsC_app]
  simp only [kidsC, List.length_take, Nat.min_eq_left (Nat.le_of_lt ht)]
/-- Compile's memory at the start. -/
theorem CpM.start {w : World} (l : List Nd) (hl : l.length ≤ 1000) : CpM w.heap.size l.length (cpF l 0) (.slice none 0 0) w.heap.size (w.heap.size + 1) 0 ((w.alloc (.cells (madeCells #[.int .i64 0] l.length) 3)).alloc (.map #[] 0)) := by
  have hb : Below (w.alloc (.cells (madeCells #[.int .i64 0] l.length) 3)).heap.size (w.alloc (.cells (madeCells #[.int .i64 0] l.length) 3)) ((w.alloc (.cells (madeCells #[.int .i64 0] l.length) 3)).alloc (.map #[] 0)) := (Below.refl _ _).alloc (Nat.le_refl _) _
  have hm := MapF.made (w.alloc (.cells (madeCells #[.int .i64 0] l.length) 3))
  rw [show (w.alloc (.cells (madeCells #[.int .i64 0] l.length) 3)).heap.size = w.heap.size + 1 by simp] at hm
  refine ⟨World.ownsRow_nil _ _ _ _, ?_, by simp [cpF], hm, by omega⟩
  refine OwnI.below ?_ hb
  have hg : (w.alloc (.cells (madeCells #[.int .i64 0] l.length) 3)).heap[w.heap.size]? = some (.cells (List.replicate l.length (.int .i64 0)).toArray 3 (0, 0)) := by
    rw [made_one]; exact (MapKept.heap_alloc w _).1
  exact own_rep hg (Nat.le_refl _) hl
end Go.Proofs.YtjkcbigmebbkkaaDoor

set_option linter.unusedSimpArgs false
set_option linter.unusedVariables false
namespace Go.Proofs.YtjkcbigmebbkkaaDoor
open Go.RowKit Go.Lib Go.Maps Go.Deep

theorem read_ok {w : World} {ao : Option Addr} {cap : Nat} {l : List Nd} (hT : SpanCells w) (hN : Rd w ao cap l) (hnm : ∀ x ∈ l, x.name.size ≤ maxLen) (hp : patB l = true) :
    Calls Tryd.prog 83 #[.slice ao l.length cap] w fun e w' => ∃ va vc na nc M, e = .returned (.tuple #[.agg #[.slice va l.length vc, .slice na (hlsL l).length nc, .map (some M)], .int .i64 0]) ∧ RdO w l (.slice va l.length vc) (.slice na (hlsL l).length nc) M w' ∧ Below w.heap.size w w' := by
  refine (read_any hT hN hnm).mono ?_
  rintro e w' ⟨hb, ⟨_, v, nv, M, rfl, hO⟩ | ⟨hf, _⟩⟩
  · obtain ⟨na, nc, rfl⟩ := row_form' hO.row
    obtain ⟨p, hp1, hc⟩ := hO.p
    obtain ⟨va, vc, hv⟩ := row_form' hc.row
    have hpl : p.length = l.length := by have := congrArg List.length hp1; simpa using this
    rw [hpl] at hv
    subst hv
    exact ⟨va, vc, na, nc, M, rfl, hO, hb⟩
  · rw [hp] at hf; cases hf
theorem read_bad {w : World} {ao : Option Addr} {cap : Nat} {l : List Nd} (hT : SpanCells w) (hN : Rd w ao cap l) (hnm : ∀ x ∈ l, x.name.size ≤ maxLen) (hp : patB l = false) :
    Calls Tryd.prog 83 #[.slice ao l.length cap] w fun e w' => e = .returned (.tuple #[.agg #[.slice none 0 0, .slice none 0 0, .map none], .int .i64 1]) ∧ Below w.heap.size w w' := by
  refine (read_any hT hN hnm).mono ?_
  rintro e w' ⟨hb, ⟨hf, _⟩ | ⟨_, rfl⟩⟩
  · rw [hp] at hf; cases hf
  · exact ⟨rfl, hb⟩

set_option maxRecDepth 20000 in
set_option maxHeartbeats 2000000 in
theorem holes14_ok {w : World} {ao : Option Addr} {cap : Nat} {l : List Nd} (hT : SpanCells w) (hN : Rd w ao cap l) (hnm : ∀ x ∈ l, x.name.size ≤ maxLen) (hp : patB l = true) :
    Calls Tryd.prog 59 #[.slice ao l.length cap] w fun e w' => ∃ na nc, e = .returned (.tuple #[.slice na (hlsL l).length nc, .int .i64 0]) ∧ w'.ownsRow w.heap.size 9 1 (.slice na (hlsL l).length nc) (hlsL l).length ((hlsL l).map Value.string) ∧ Below w.heap.size w w' := by
  have cR := read_ok hT hN hnm hp
  clear hN hT hnm hp
  have hhl := hlsL_len l
  obtain ⟨P, hP⟩ : ∃ P : Value → World → Prop, ∀ v W, P v W ↔ W.ownsRow w.heap.size 9 1 v (hlsL l).length ((hlsL l).map Value.string) := ⟨fun v W => _, fun v W => Iff.rfl⟩
  have HP : Hid (∀ v W, P v W ↔ W.ownsRow w.heap.size 9 1 v (hlsL l).length ((hlsL l).map Value.string)) := hP
  suffices hh : Calls Tryd.prog 59 #[.slice ao l.length cap] w fun e w' => ∃ na nc, e = .returned (.tuple #[.slice na (hlsL l).length nc, .int .i64 0]) ∧ P (.slice na (hlsL l).length nc) w' ∧ Below w.heap.size w w' from
    hh.mono fun e w' ⟨na, nc, h1, h2, h3⟩ => ⟨na, nc, h1, (HP.out _ _).1 h2, h3⟩
  clear hP
  go_enter Tryd.func59, Tryd.ntmps59
  go_wp2_with (go_at_call 83; refine cR.mono ?_; rintro e w1 ⟨va, vc, na, nc, M, rfl, hO, hb⟩; have HB : Hid (_) := hb; have HO : Hid (w1.ownsRow w.heap.size 9 1 (.slice na (hlsL l).length nc) (hlsL l).length ((hlsL l).map Value.string)) := hO.row; clear hO hb)
  go_ret2
  exact ⟨na, nc, rfl, (HP.out _ _).2 (ownsRow_below HO.out ((Below.refl _ _).alloc (Nat.le_refl _) _)), HB.out.alloc HB.out.size _⟩

set_option maxRecDepth 20000 in
set_option maxHeartbeats 2000000 in
theorem holes14_bad {w : World} {ao : Option Addr} {cap : Nat} {l : List Nd} (hT : SpanCells w) (hN : Rd w ao cap l) (hnm : ∀ x ∈ l, x.name.size ≤ maxLen) (hp : patB l = false) :
    Calls Tryd.prog 59 #[.slice ao l.length cap] w fun e w' => e = .returned (.tuple #[.slice none 0 0, .int .i64 1]) ∧ Below w.heap.size w w' := by
  have cR := read_bad hT hN hnm hp
  clear hN hT hnm hp
  go_enter Tryd.func59, Tryd.ntmps59
  go_wp2_with (go_at_call 83; refine cR.mono ?_; rintro e w1 ⟨rfl, hb⟩; have HB : Hid (_) := hb; clear hb)
  go_ret2
  exact ⟨rfl, HB.out.alloc HB.out.size _⟩

end Go.Proofs.YtjkcbigmebbkkaaDoor
