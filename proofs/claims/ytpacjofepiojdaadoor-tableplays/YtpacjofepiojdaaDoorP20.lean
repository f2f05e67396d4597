/-
  TbE3.
-/
import Derived.Shelf.Unicode.DecodeSlow
import Derived.Laws.RangeAny
import Derived.Shelf.Small.Bits
import Derived.Shelf.Strconv.Itoa0
import Derived.Shelf.LaysM
import Derived.Shelf.Strconv.Clone
import Derived.Shelf.Unicode.DecodeAny
import Derived.Shelf.Slices.CompactS
import Derived.Ground.SlsfProg
import Derived.Shelf.SlSortCmp.Insertion
import Derived.Shelf.SlSortCmp.SiftDown1
import Derived.Shelf.SlSortCmp.HeapSort1
import Derived.Shelf.SlSortCmp.Insertion1
import Derived.Shelf.SlSortCmp.Median1
import Derived.Shelf.SlSortCmp.Pivot1
import Derived.Shelf.SlSortCmp.ReverseRange1
import Derived.Shelf.SlSortCmp.PartialInsertion1
import Derived.Shelf.SlSortCmp.PartitionEqual1
import Derived.Shelf.SlSortCmp.Partition1
import Derived.Shelf.SlSortCmp.Pdq1
import Derived.Shelf.SlSortCmp.Whole1
import Derived.Test.YtpacjofepiojdaaDoorProg
import Derived.WalkKit
import Derived.Deep.DeepFit
import Derived.Lib.OthersKept
import Derived.Lib.RuneCountTail
import Derived.Deep.AppendLies
import Derived.Deep.OwnRows
import Derived.Laws.AppendOwnNone
import Derived.Deep.QuietTactic
import Derived.BigQuiet
import Derived.Deep.RegionWith
import Derived.Laws.DeepStrings4
import Derived.Below
import Derived.Maps.OwnSet
import Derived.Maps.Keyed
import Derived.DeepKeys4
import Derived.Lib.QuietBelow
import Derived.StillTail
import Derived.Deep.RegionHeld3
import Derived.Laws.ResultCell
import Derived.Laws.CopyOwn
import Derived.Laws.OwnMore
import Derived.Test.YtpacjofepiojdaaDoorP01
import Derived.Test.YtpacjofepiojdaaDoorP02
import Derived.Test.YtpacjofepiojdaaDoorP03
import Derived.Test.YtpacjofepiojdaaDoorP04
import Derived.Test.YtpacjofepiojdaaDoorP05
import Derived.Test.YtpacjofepiojdaaDoorP06
import Derived.Test.YtpacjofepiojdaaDoorP07
import Derived.Test.YtpacjofepiojdaaDoorP08
import Derived.Test.YtpacjofepiojdaaDoorP09
import Derived.Test.YtpacjofepiojdaaDoorP10
import Derived.Test.YtpacjofepiojdaaDoorP11
import Derived.Test.YtpacjofepiojdaaDoorP12
import Derived.Test.YtpacjofepiojdaaDoorP13
import Derived.Test.YtpacjofepiojdaaDoorP14
import Derived.Test.YtpacjofepiojdaaDoorP15
import Derived.Test.YtpacjofepiojdaaDoorP16
import Derived.Test.YtpacjofepiojdaaDoorP19
set_option linter.unusedSimpArgs false
set_option linter.unusedVariables false
namespace Go.Proofs.YtpacjofepiojdaaDoor
open Go.RowKit Go.Lib Go.Sort Go.Maps

def KUp (l : List Nd) : Prop := ∀ x ∈ l, ∀ k ∈ x.kids, 0 ≤ k
theorem mvN_up {x : Nd} {m d : Nat} (h : ∀ k ∈ x.kids, 0 ≤ k) : mvN 0 (d : Int) (mvN 0 (m : Int) x) = mvN 0 ((d + m : Nat) : Int) x := by
  unfold mvN
  simp only [List.map_map, Nd.mk.injEq, true_and]
  refine List.map_congr_left fun k hk => ?_
  have := h k hk
  simp only [Function.comp]
  unfold mvK
  rw [if_pos this, if_pos (by omega), if_pos this]
  omega
theorem map_up {l : List Nd} {m d : Nat} (h : KUp l) : (l.map (mvN 0 (m : Int))).map (mvN 0 (d : Int)) = l.map (mvN 0 ((d + m : Nat) : Int)) := by
  rw [List.map_map]
  exact List.map_congr_left fun x hx => mvN_up (h x hx)
theorem kup_mv {l : List Nd} {m : Nat} (h : KUp l) : KUp (l.map (mvN 0 (m : Int))) := by
  intro x hx k hk
  simp only [List.mem_map] at hx
  obtain ⟨y, hy, rfl⟩ := hx
  unfold mvN at hk
  simp only [List.mem_map] at hk
  obtain ⟨j, hj, rfl⟩ := hk
  have := h y hy j hj
  unfold mvK
  rw [if_pos this]; omega
theorem acc_up (ps : List (List Nd)) (h : ∀ p ∈ ps, KUp p ∧ 1 ≤ p.length) : KUp (accS ps).1 ∧ ∀ k ∈ (accS ps).2, 0 ≤ k := by
  have key : ∀ (qs rs : List (List Nd)), (∀ p ∈ qs, KUp p ∧ 1 ≤ p.length) → (KUp (accS rs).1 ∧ ∀ k ∈ (accS rs).2, 0 ≤ k) → (KUp (accS (rs ++ qs)).1 ∧ ∀ k ∈ (accS (rs ++ qs)).2, 0 ≤ k) := by
    intro qs
    induction qs with
    | nil => intro rs _ h; simpa using h
    | cons q qs ih =>
      intro rs hq h
      have e : rs ++ q :: qs = (rs ++ [q]) ++ qs := by simp
      rw [e]
      refine ih (rs ++ [q]) (fun p hp => hq p (by simp [hp])) ?_
      rw [accS_snoc]
      refine ⟨fun x hx => ?_, fun k hk => ?_⟩
      · rcases List.mem_append.1 hx with hx | hx
        · exact h.1 x hx
        · exact kup_mv (hq q (by simp)).1 x hx
      · rcases List.mem_append.1 hk with hk | hk
        · exact h.2 k hk
        · simp at hk
          have := (hq q (by simp)).2
          omega
  simpa using key ps [] h ⟨by intro x hx; simp [accS_nil] at hx, by intro k hk; simp [accS_nil] at hk⟩
theorem join_mv (op n : Int) (nm : ByteArray) (ps : List (List Nd)) (d : Nat) (h : ∀ k ∈ (accS ps).2, 0 ≤ k) : (joinL op n nm ps).map (mvN 0 (d : Int)) = (accS ps).1.map (mvN 0 (d : Int)) ++ [⟨op, n, nm, (accS ps).2.map (· + (d : Int))⟩] := by
  unfold joinL
  rw [List.map_append]
  congr 1
  simp only [List.map_cons, List.map_nil, mvN, List.cons.injEq, and_true, Nd.mk.injEq, true_and]
  refine List.map_congr_left fun k hk => ?_
  have := h k hk
  unfold mvK
  rw [if_pos this]
theorem exA_up {L : List Nd} (h : TbI L) : ∀ i, i < L.length → KUp (exA L i) ∧ 1 ≤ (exA L i).length := by
  intro i
  induction i using Nat.strongRecOn with
  | ind i ih =>
    intro hi
    rw [exA_at h hi]
    have hp : ∀ p ∈ (edA L i).kids.map (fun k => exA L k.toNat), KUp p ∧ 1 ≤ p.length := fun p hp => by
      simp only [List.mem_map] at hp
      obtain ⟨k, hk, rfl⟩ := hp
      have := h.kids i hi k hk
      exact ih k.toNat (by omega) (by omega)
    obtain ⟨h1, h2⟩ := acc_up _ hp
    refine ⟨fun x hx => ?_, by rw [joinL_len]; omega⟩
    unfold joinL at hx
    rcases List.mem_append.1 hx with hx | hx
    · exact h1 x hx
    · simp at hx
      subst hx
      exact h2
/-- The parts of an entry. -/
def ptL (L : List Nd) (i : Nat) : List (List Nd) := (edA L i).kids.map fun k => exA L k.toNat
theorem ptL_len (L : List Nd) (i : Nat) : (ptL L i).length = (edA L i).kids.length := by simp [ptL]
theorem ptL_at (L : List Nd) {i j : Nat} (hj : j < (edA L i).kids.length) : (ptL L i).getD j [] = exA L ((edA L i).kids.getD j 0).toNat := by
  simp [ptL, hj]
theorem ptL_up {L : List Nd} (h : TbI L) {i : Nat} (hi : i < L.length) : ∀ p ∈ ptL L i, KUp p ∧ 1 ≤ p.length := fun p hp => by
  unfold ptL at hp
  simp only [List.mem_map] at hp
  obtain ⟨k, hk, rfl⟩ := hp
  have := h.kids i hi k hk
  exact exA_up h k.toNat (by omega)
theorem exA_pt {L : List Nd} (h : TbI L) {i : Nat} (hi : i < L.length) (d : Nat) : (exA L i).map (mvN 0 (d : Int)) = (accS (ptL L i)).1.map (mvN 0 (d : Int)) ++ [⟨(edA L i).op, (edA L i).n, (edA L i).name, (accS (ptL L i)).2.map (· + (d : Int))⟩] := by
  rw [exA_at h hi]
  exact join_mv _ _ _ _ _ (acc_up _ (ptL_up h hi)).2
/-- One part more. -/
theorem acc_next {ps : List (List Nd)} {j : Nat} (hj : j < ps.length) (d : Nat) (hu : KUp (ps.getD j [])) :
    (accS (ps.take (j + 1))).1.map (mvN 0 (d : Int)) = (accS (ps.take j)).1.map (mvN 0 (d : Int)) ++ (ps.getD j []).map (mvN 0 ((d + (accS (ps.take j)).1.length : Nat) : Int)) ∧
    (accS (ps.take (j + 1))).2.map (· + (d : Int)) = (accS (ps.take j)).2.map (· + (d : Int)) ++ [((d + (accS (ps.take j)).1.length + (ps.getD j []).length : Nat) : Int) - 1] := by
  have e : ps.take (j + 1) = ps.take j ++ [ps.getD j []] := by rw [List.take_succ_eq_append_getElem hj]; simp [hj]
  rw [e, accS_snoc]
  refine ⟨?_, ?_⟩
  · rw [List.map_append, map_up hu]
  · rw [List.map_append]
    simp
    omega
theorem acc_less {L : List Nd} (h : TbI L) {i j : Nat} (hi : i < L.length) (hj : j < (edA L i).kids.length) : (accS ((ptL L i).take j)).1.length + ((ptL L i).getD j []).length ≤ (exA L i).length := by
  rw [exA_at h hi, joinL_len, accS_sum]
  show _ ≤ 1 + ((ptL L i).map List.length).sum
  have hj2 : j < (ptL L i).length := by rw [ptL_len]; exact hj
  have e : (ptL L i).map List.length = ((ptL L i).take j).map List.length ++ (((ptL L i).getD j []).length :: ((ptL L i).drop (j + 1)).map List.length) := by
    conv => lhs; rw [← List.take_append_drop j (ptL L i)]
    rw [List.map_append, List.drop_eq_getElem_cons hj2, List.map_cons]
    simp [hj2]
  rw [e, List.sum_append, List.sum_cons]
  omega

/-- What is written behind a list: in wr, since w; kids in rows from z on. -/
def WEx (w : World) (z base : Nat) (v : Value) (q : List (Nd × Value)) (ms : List Nd) (x : Value) (wr : World) : Prop :=
  ∃ p' : List (Nd × Value), OwnP wr base x (q ++ p') ∧ p'.map (·.1) = ms ∧ (∀ y ∈ p', OwnI wr z y.2 y.1.kids) ∧ w.grownBy wr v.ownBlock ∧ (x.ownBlock = v.ownBlock ∨ ∀ g, x.ownBlock = some g → z ≤ g) ∧ Below base w wr ∧ KdAp p'
theorem WEx.start {w w1 : World} {base : Nat} {v : Value} {q : List (Nd × Value)} (h : OwnP w base v q) (hb : Below w.heap.size w w1) (hs : base ≤ w.heap.size) : WEx w w1.heap.size base v q [] v w1 :=
  ⟨[], by simpa using h.below hb, rfl, by simp, grown_of_below hb _, .inl rfl, hb.mono hs, List.Pairwise.nil⟩
theorem WEx.call {w wr w2 : World} {z base : Nat} {v x x2 : Value} {q p' : List (Nd × Value)} {ms ms2 : List Nd} (h0 : OwnP wr base x (q ++ p')) (h1 : p'.map (·.1) = ms) (h2 : ∀ y ∈ p', OwnI wr z y.2 y.1.kids) (h3 : w.grownBy wr v.ownBlock) (h4 : x.ownBlock = v.ownBlock ∨ ∀ g, x.ownBlock = some g → z ≤ g) (h5 : Below base w wr) (h6 : KdAp p')
    (hz : w.heap.size ≤ z) (hzr : z ≤ wr.heap.size) (hc : WEx wr wr.heap.size base x (q ++ p') ms2 x2 w2) : WEx w z base v q (ms ++ ms2) x2 w2 := by
  obtain ⟨p2, g0, g1, g2, g3, g4, g5, g6⟩ := hc
  have hkeep : ∀ y ∈ p', OwnI w2 z y.2 y.1.kids := fun y hy => World.ownsRow.kept (h2 y hy) g3 (ownBlock_ne (h2 y hy) h0.row (by decide))
  refine ⟨p' ++ p2, by rw [← List.append_assoc]; exact g0, by rw [List.map_append, h1, g1], fun y hy => ?_, ⟨g3.os.trans h3.os, g3.tape.trans h3.tape, g3.output.trans h3.output, Nat.le_trans h3.size g3.size, fun k hk1 hk2 => ?_⟩, ?_, h5.trans g5, ?_⟩
  · rcases List.mem_append.1 hy with hy | hy
    · exact hkeep y hy
    · exact ownsRow_mono (g2 y hy) hzr
  · rw [g3.block k (Nat.lt_of_lt_of_le hk1 h3.size) (fun e => by
      rcases h4 with h4 | h4
      · rw [h4] at e; exact hk2 e
      · have := h4 k e.symm; omega)]
    exact h3.block k hk1 hk2
  · rcases g4 with g4 | g4
    · rw [g4]; exact h4
    · exact .inr fun g hg => by have := g4 g hg; omega
  · unfold KdAp
    rw [List.pairwise_append]
    refine ⟨h6, g6, fun a ha b hb g hg hg2 => ?_⟩
    have e1 := (rw_block (h2 a ha) hg).2.1
    have e2 := (rw_block (g2 b hb) hg2).1
    omega
/-- A cell of a row of numbers is set that is none of these. -/
theorem WEx.set {w wr : World} {z base kb o : Nat} {v x u : Value} {q : List (Nd × Value)} {ms : List Nd} (h : WEx w z base v q ms x wr) (hq : ∀ y ∈ q, ∀ g, y.2.ownBlock = some g → g < w.heap.size) (hk1 : w.heap.size ≤ kb) (hk2 : kb < z) (hb : base ≤ kb) {cur : Array Value} {f : Nat × Nat} (hkb : wr.heap[kb]? = some (.cells cur 3 f)) : WEx w z base v q ms x (wr.setCell ⟨kb, o, none⟩ u) := by
  obtain ⟨p', g0, g1, g2, g3, g4, g5, g6⟩ := h
  have hoth : ∀ k, k ≠ kb → (wr.setCell ⟨kb, o, none⟩ u).heap[k]? = wr.heap[k]? := fun k hk => Deep.blk_setCell_other _ _ _ _ hk
  have hb1 := g5.setCell (p := ⟨kb, o, none⟩) hb u
  refine ⟨p', ⟨rw_same g0.row (fun b hb' => hoth b (fun e => ?_)), fun y hy => ?_⟩, g1, fun y hy => rw_same (g2 y hy) (fun b hb' => hoth b (fun e => by have := (rw_block (g2 y hy) hb').1; omega)), ⟨hb1.os, hb1.tape, hb1.output, hb1.size, fun k h1 h2 => (hoth k (by omega)).trans (g3.block k h1 h2)⟩, g4, hb1, g6⟩
  · subst e
    obtain ⟨_, _, c, cu, _, h3, _⟩ := rw_block g0.row hb'
    rw [h3] at hkb
    simp at hkb
  · refine rw_same (g0.kids y hy) (fun b hb' => hoth b (fun e => ?_))
    subst e
    rcases List.mem_append.1 hy with hy | hy
    · have := hq y hy b hb'; omega
    · have := (rw_block (g2 y hy) hb').1; omega
/-- The node itself, at the end. -/
theorem WEx.last {w wr W w1 : World} {z base : Nat} {v x : Value} {q p' : List (Nd × Value)} {ms : List Nd} {y : Nd} {kv : Value} {g n cap : Nat} (g0 : OwnP wr base x (q ++ p')) (g1 : p'.map (·.1) = ms) (g2 : ∀ y ∈ p', OwnI wr z y.2 y.1.kids) (g3 : w.grownBy wr v.ownBlock) (g4 : x.ownBlock = v.ownBlock ∨ ∀ g, x.ownBlock = some g → z ≤ g) (g5 : Below base w wr) (g6 : KdAp p')
    (hz : w.heap.size ≤ z) (hbase : base ≤ w.heap.size) (hBW : Below wr.heap.size wr W) (hk : OwnI W w.heap.size kv y.kids) (hkz : ∀ g, kv.ownBlock = some g → g < z) (hlen : n = (q ++ p').length)
    (hown' : w1.ownsRow base 63 4 (.slice (some ⟨g, 0, none⟩) (n + 1) cap) (n + 1) (ndCells (q ++ p') ++ [.int .i64 y.op, .int .i64 y.n, .string y.name, kv])) (hg : W.grownBy w1 x.ownBlock) (hat : x.ownBlock = some g ∨ g = W.heap.size) :
    WEx w w.heap.size base v q (ms ++ [y]) (.slice (some ⟨g, 0, none⟩) (n + 1) cap) w1 := by
  have hsz : w.heap.size ≤ wr.heap.size := g3.size
  have hPW := g0.below hBW
  have hkb : OwnI W base kv y.kids := ownsRow_mono hk hbase
  refine ⟨p' ++ [(y, kv)], ?_, by simp [g1], fun a ha => ?_, ⟨hg.os.trans (hBW.os.trans g3.os), hg.tape.trans (hBW.tape.trans g3.tape), hg.output.trans (hBW.output.trans g3.output), Nat.le_trans hsz (Nat.le_trans hBW.size hg.size), fun k hk1 hk2 => ?_⟩, ?_, ?_, ?_⟩
  · rw [← List.append_assoc]
    subst hlen
    exact hPW.snoc hkb hown' hg
  · rcases List.mem_append.1 ha with ha | ha
    · have h1 := (g2 a ha).below hBW
      exact ownsRow_mono (World.ownsRow.kept h1 hg (ownBlock_ne h1 hPW.row (by decide))) hz
    · simp at ha; subst ha
      exact World.ownsRow.kept hk hg (ownBlock_ne hk hPW.row (by decide))
  · rw [hg.block k (by have := hBW.size; omega) (fun he => by
      rcases g4 with hx | hx
      · rw [hx] at he; exact hk2 he
      · have := hx k he.symm; omega), hBW.block k (by omega), g3.block k hk1 hk2]
  · rcases hat with hat | hat
    · rcases g4 with hx | hx
      · left; show some g = v.ownBlock; rw [← hx, hat]
      · right; intro g' hg'; have e : g = g' := Option.some.inj hg'; have := hx g hat; omega
    · right; intro g' hg'; have e : g = g' := Option.some.inj hg'; have := hBW.size; omega
  · exact (g5.trans (hBW.mono (by omega))).grown hg (by have := hBW.size; omega) (fun k hk => (hPW.row.lt k hk).1)
  · unfold KdAp
    rw [List.pairwise_append]
    refine ⟨g6, List.pairwise_singleton _ _, fun a ha b hb g' hg' hg2 => ?_⟩
    simp at hb
    subst hb
    have := (rw_block (g2 a ha) hg').1
    have := hkz g' hg2
    omega
/-- A table stays through what is written. -/
theorem TbM.grown {w w' : World} {p : Nat} {ev mv : Value} {L : List Nd} (h : TbM w p ev mv L) {base : Nat} {v : Value} {q : List (Nd × Value)} (ho : OwnP w base v q) (hg : w.grownBy w' v.ownBlock) : TbM w' p ev mv L := h.same fun b hb hs => hg.block b hb (fun e => by
  obtain ⟨_, _, c, cu, _, h3, _⟩ := rw_block ho.row e.symm
  exact h.typed h3 (by decide) (by decide) hs)
end Go.Proofs.YtpacjofepiojdaaDoor

namespace Go.Proofs.YtpacjofepiojdaaDoor
open Go.RowKit Go.Lib Go.Sort Go.Maps

theorem drop_next {ks : List Int} {a : List Int} {j : Nat} {u : Int} (hl : a.length = j) (hj : j < ks.length) : (a ++ ks.drop j).set j u = (a ++ [u]) ++ ks.drop (j + 1) := by
  have e : (ks.drop j).set 0 u = u :: ks.drop (j + 1) := by rw [List.drop_eq_getElem_cons hj]; rfl
  rw [List.set_append_right _ _ (by omega), hl, Nat.sub_self, e]
  simp
theorem drop_at {ks : List Int} {a : List Int} {j : Nat} (hl : a.length = j) (hj : j < ks.length) : (a ++ ks.drop j).getD j 0 = ks.getD j 0 := by
  rw [List.getD_eq_getElem?_getD, List.getElem?_append_right (by omega), hl, Nat.sub_self, List.getElem?_drop]
  simp [hj]

set_option maxRecDepth 20000 in
set_option maxHeartbeats 16000000 in
theorem twrite_any (p : Nat) (ev mv : Value) (L : List Nd) (hI : TbI L) : ∀ i, i < L.length → ∀ (w : World) (base : Nat) (v : Value) (q : List (Nd × Value)), TbM w p ev mv L → OwnP w base v q → base ≤ w.heap.size → q.length + (exA L i).length ≤ 5000 →
    Calls Tryd.prog 77 #[.pointer (some ⟨p, 0, none⟩), v, .int .i64 i] w fun e w' => ∃ v', e = .returned v' ∧ WEx w w.heap.size base v q ((exA L i).map (mvN 0 (q.length : Nat))) v' w' := by
  intro i
  induction i using Nat.strongRecOn with
  | ind i ih =>
    intro hi w base v q hM hO hbase hlen
    obtain ⟨i0, hi0, hz0, hz1, hz2⟩ := info_parts Tryd.infoNode
    have IH : Sld (∀ k, k < i → k < L.length → ∀ (w : World) (base : Nat) (v : Value) (q : List (Nd × Value)), TbM w p ev mv L → OwnP w base v q → base ≤ w.heap.size → q.length + (exA L k).length ≤ 5000 → Calls Tryd.prog 77 #[.pointer (some ⟨p, 0, none⟩), v, .int .i64 k] w fun e w' => ∃ v', e = .returned v' ∧ WEx w w.heap.size base v q ((exA L k).map (mvN 0 (q.length : Nat))) v' w') := ⟨fun k h1 h2 => ih k h1 h2⟩
    clear ih
    have HM : Sld (TbM w p ev mv L) := ⟨hM⟩
    have HO : Sld (OwnP w base v q) := ⟨hO⟩
    have HQ : Sld (∀ y ∈ q, ∀ g, y.2.ownBlock = some g → g < w.heap.size) := ⟨fun y hy g hg => (rw_block (hO.kids y hy) hg).2.1⟩
    have HV : Sld (∀ g, v.ownBlock = some g → g < w.heap.size) := ⟨fun g hg => (rw_block hO.row hg).2.1⟩
    have HEX : Sld ((exA L i).map (mvN 0 (q.length : Nat)) = (accS (ptL L i)).1.map (mvN 0 (q.length : Nat)) ++ [⟨(edA L i).op, (edA L i).n, (edA L i).name, (accS (ptL L i)).2.map (· + ((q.length : Nat) : Int))⟩]) := ⟨exA_pt hI hi q.length⟩
    have HLEN : Sld (q.length + (exA L i).length ≤ 5000) := ⟨hlen⟩
    have HPT : Sld (∀ j, j < (edA L i).kids.length → (ptL L i).getD j [] = exA L ((edA L i).kids.getD j 0).toNat ∧ KUp ((ptL L i).getD j []) ∧ 1 ≤ ((ptL L i).getD j []).length ∧ (accS ((ptL L i).take j)).1.length + ((ptL L i).getD j []).length ≤ (exA L i).length) := ⟨fun j hj => by
      have h1 := ptL_at L hj
      have hj2 : j < (ptL L i).length := by rw [ptL_len]; exact hj
      have h2 := ptL_up hI hi ((ptL L i).getD j []) (by simp [hj2])
      exact ⟨h1, h2.1, h2.2, acc_less hI hi hj⟩⟩
    have HNX : Sld (∀ j, j < (edA L i).kids.length → (accS ((ptL L i).take (j + 1))).1.map (mvN 0 (q.length : Nat)) = (accS ((ptL L i).take j)).1.map (mvN 0 (q.length : Nat)) ++ ((ptL L i).getD j []).map (mvN 0 ((q.length + (accS ((ptL L i).take j)).1.length : Nat) : Int)) ∧ (accS ((ptL L i).take (j + 1))).2.map (· + ((q.length : Nat) : Int)) = (accS ((ptL L i).take j)).2.map (· + ((q.length : Nat) : Int)) ++ [((q.length + (accS ((ptL L i).take j)).1.length + ((ptL L i).getD j []).length : Nat) : Int) - 1]) := ⟨fun j hj => acc_next (by rw [ptL_len]; exact hj) q.length (HPT.out j hj).2.1⟩
    have HA2 : Sld (∀ j, j ≤ (edA L i).kids.length → (accS ((ptL L i).take j)).2.length = j) := ⟨fun j hj => by rw [accS_len2, List.length_take, ptL_len]; omega⟩
    have HTK : Sld ((ptL L i).take (edA L i).kids.length = ptL L i) := ⟨by rw [← ptL_len]; exact List.take_length⟩
    have HKK : Sld (∀ k ∈ (edA L i).kids, 0 ≤ k ∧ k < (i : Int)) := ⟨hI.kids i hi⟩
    have hk3 := formB_kids (hI.form i hi)
    have cn : Sld (∀ W, Calls Tryd.prog 72 #[shV (edA L i)] W fun e w' => ∃ ao cap, e = .returned (.agg #[.int .i64 (edA L i).op, .int .i64 (edA L i).n, .string (edA L i).name, .slice ao (edA L i).kids.length cap]) ∧ OwnI w' W.heap.size (.slice ao (edA L i).kids.length cap) (edA L i).kids ∧ Below W.heap.size W w') := ⟨fun W => tnode_any _ W (hI.form i hi)⟩
    obtain ⟨g, cap, hev, hg, hgl, hcc, hcm⟩ := hM.row hi
    have t0 := hM.c0
    have hM2 := hM
    rw [hev] at hM2 t0
    obtain ⟨e0, e1, e2, e3, e4, e5, e6⟩ := hM2.at_ hi
    have hiI : (i : Int) < (L.length : Int) := by omega
    unfold maxLen at hcm
    clear hM hO hM2 hlen hev
    generalize edA L i = X at *
    obtain ⟨op, n, nm, ks⟩ := X
    rw [shV_eq] at cn
    simp only at e0 e1 e2 e3 e4 e5 cn HEX HPT HNX HA2 HTK HKK hk3 ⊢
    generalize ks.getD 0 0 = k0 at *
    generalize ks.getD 1 0 = k1 at *
    generalize ks.getD 2 0 = k2 at *
    go_enter Tryd.func77, Tryd.ntmps77
    go_wp2_with fail
    refine (cn.out _).mono ?_
    rintro e wn ⟨ka, kc, rfl, hKn, hbn⟩
    obtain ⟨w1, hw1⟩ : ∃ w1, wn.alloc (.cells #[.int .i64 op, .int .i64 n, .string nm, .slice ka ks.length kc] 63) = w1 := ⟨_, rfl⟩
    have HB1 : Sld (Below w.heap.size w w1) := ⟨by rw [← hw1]; exact hbn.alloc hbn.size _⟩
    have hsz1 : w1.heap.size = wn.heap.size + 1 := by rw [← hw1]; simp
    have hnb : w1.heap[wn.heap.size]? = some (.cells #[.int .i64 op, .int .i64 n, .string nm, .slice ka ks.length kc] 63 (0, 0)) := by rw [← hw1, Deep.blk_alloc_new]
    have HK1 : Sld (OwnI w1 w.heap.size (.slice ka ks.length kc) ks) := ⟨by rw [← hw1]; exact hKn.below ((Below.refl _ _).alloc (Nat.le_refl _) _)⟩
    have HKZ : Sld (∀ gg, (Value.slice ka ks.length kc).ownBlock = some gg → w.heap.size ≤ gg ∧ gg < wn.heap.size) := ⟨fun gg hgg => ⟨(rw_block hKn hgg).1, (rw_block hKn hgg).2.1⟩⟩
    have HW0 : Sld (WEx w w1.heap.size base v q [] v w1) := ⟨WEx.start HO.out HB1.out hbase⟩
    have HSZ1 : Hid (w1.heap.size = wn.heap.size + 1) := hsz1
    have hwn := hbn.size
    obtain ⟨y0, y1, y2, y3, yf⟩ := blk4 hnb
    have HNB : Sld (w1.heap[wn.heap.size]? = some (.cells #[.int .i64 op, .int .i64 n, .string nm, .slice ka ks.length kc] 63 (0, 0))) := ⟨hnb⟩
    clear hbn hKn hsz1 hnb e0 e1 e2 e3 e4 e5 e6 t0 cn
    go_wp2_with fail
    try rw [hw1]
    clear hw1
    go_loopw [1, 22] (fun x ii wr => ∃ j : Nat, j ≤ ks.length ∧ ii = .int .i64 j ∧ WEx w w1.heap.size base v q ((accS ((ptL L i).take j)).1.map (mvN 0 (q.length : Nat))) x wr ∧ OwnI wr w.heap.size (.slice ka ks.length kc) ((accS ((ptL L i).take j)).2.map (· + ((q.length : Nat) : Int)) ++ ks.drop j) ∧ wr.heap[wn.heap.size]? = some (.cells #[.int .i64 op, .int .i64 n, .string nm, .slice ka ks.length kc] 63 (0, 0)) ∧ w1.heap.size ≤ wr.heap.size) (fun _ ii _ => ks.length - (RowKit.intOf ii).toNat)
    case atStart => exact ⟨0, by omega, rfl, by simpa [accS_nil] using HW0.out, by simpa [accS_nil] using HK1.out, HNB.out, Nat.le_refl _⟩
    case round =>
      obtain ⟨j, hj, rfl, hW, hK, hN, hzr⟩ := hrel
      have HN : Sld (wr.heap[wn.heap.size]? = some (.cells #[.int .i64 op, .int .i64 n, .string nm, .slice ka ks.length kc] 63 (0, 0))) := ⟨hN⟩
      have HK : Sld (OwnI wr w.heap.size (.slice ka ks.length kc) ((accS ((ptL L i).take j)).2.map (· + ((q.length : Nat) : Int)) ++ ks.drop j)) := ⟨hK⟩
      have hkl : ((accS ((ptL L i).take j)).2.map (· + ((q.length : Nat) : Int)) ++ ks.drop j).length = ks.length := by
        have := HA2.out j hj
        simp [this]; omega
      have HKL : Sld (((accS ((ptL L i).take j)).2.map (· + ((q.length : Nat) : Int)) ++ ks.drop j).length = ks.length) := ⟨hkl⟩
      obtain ⟨n0, n1, n2, n3, nf⟩ := blk4 hN
      obtain ⟨p', g0, g1, g2, g3, g4, g5, g6⟩ := hW
      obtain ⟨xa, xc, rfl⟩ := rw_form g0.row
      have hpl : (q ++ p').length = q.length + (accS ((ptL L i).take j)).1.length := by
        rw [List.length_append]
        have := congrArg List.length g1
        simp only [List.length_map] at this
        omega
      obtain ⟨QL, hQL⟩ : ∃ QL, (q ++ p').length = QL := ⟨_, rfl⟩
      have HQL : Sld ((q ++ p').length = QL) := ⟨hQL⟩
      rw [hQL] at g0 g4 hpl ⊢
      have HPL : Sld (QL = q.length + (accS ((ptL L i).take j)).1.length) := ⟨hpl⟩
      have H0 : Sld (OwnP wr base (.slice xa QL xc) (q ++ p')) := ⟨g0⟩
      have H1 : Sld (p'.map (·.1) = (accS ((ptL L i).take j)).1.map (mvN 0 (q.length : Nat))) := ⟨g1⟩
      have H2 : Sld (∀ y ∈ p', OwnI wr w1.heap.size y.2 y.1.kids) := ⟨g2⟩
      have H3 : Sld (w.grownBy wr v.ownBlock) := ⟨g3⟩
      have H4 : Sld ((Value.slice xa QL xc).ownBlock = v.ownBlock ∨ ∀ g, (Value.slice xa QL xc).ownBlock = some g → w1.heap.size ≤ g) := ⟨g4⟩
      have H5 : Sld (Below base w wr) := ⟨g5⟩
      have H6 : Sld (KdAp p') := ⟨g6⟩
      have hwsz := g3.size
      have HNBX : Sld ((Value.slice xa QL xc).ownBlock ≠ some wn.heap.size) := ⟨fun e => by
        rcases g4 with h | h
        · rw [h] at e; have := HV.out _ e; omega
        · have := h _ e; have := HSZ1.out; omega⟩
      clear hN hK g0 g1 g2 g3 g4 g5 g6 hQL hpl hkl
      by_cases hjl : j < ks.length
      · have hjlI : (j : Int) < (ks.length : Int) := by omega
        obtain ⟨kb, kcap, hka, hkb1, hkb2⟩ := rw_some (show wr.ownsRow w.heap.size 3 1 (.slice ka ks.length kc) _ _ from HK.out) (by rw [HKL.out]; omega)
        rw [HKL.out] at hka
        simp only [Value.slice.injEq, true_and] at hka
        obtain ⟨rfl, rfl⟩ := hka
        have hkz := (HKZ.out kb rfl).2
        have kc1 := HK.out.cellT HKL.out hjl
        rw [drop_at (by rw [List.length_map]; exact HA2.out j hj) hjl] at kc1
        obtain ⟨hk1, hk2⟩ := HKK.out (ks.getD j 0) (by simp [hjl])
        obtain ⟨hp1, hp2, hp3, hp4⟩ := HPT.out j hjl
        obtain ⟨q0, hq0⟩ : ∃ q0 : Nat, ks.getD j 0 = q0 := ⟨(ks.getD j 0).toNat, by omega⟩
        rw [hq0] at kc1 hk2 hp1
        simp only [Int.toNat_natCast] at hp1
        have hlen := HLEN.out
        have hql := HPL.out
        have CW := IH.out q0 (by omega) (by omega) wr base (.slice xa QL xc) (q ++ p') (HM.out.grown HO.out H3.out) H0.out (by omega) (by rw [HQL.out, ← hp1]; omega)
        rw [HQL.out, ← hp1] at CW
        obtain ⟨hn1, hn2⟩ := HNX.out j hjl
        have HCW : Sld (Calls Tryd.prog 77 #[.pointer (some ⟨p, 0, none⟩), .slice xa QL xc, .int .i64 q0] wr fun e w' => ∃ v', e = .returned v' ∧ WEx wr wr.heap.size base (.slice xa QL xc) (q ++ p') (((ptL L i).getD j []).map (mvN 0 (QL : Nat))) v' w') := ⟨CW⟩
        rw [← hql] at hn1 hn2
        have HN1 : Sld ((accS ((ptL L i).take (j + 1))).1.map (mvN 0 (q.length : Nat)) = (accS ((ptL L i).take j)).1.map (mvN 0 (q.length : Nat)) ++ ((ptL L i).getD j []).map (mvN 0 (QL : Nat))) := ⟨hn1⟩
        have HN2 : Sld ((accS ((ptL L i).take (j + 1))).2.map (· + ((q.length : Nat) : Int)) = (accS ((ptL L i).take j)).2.map (· + ((q.length : Nat) : Int)) ++ [((QL + ((ptL L i).getD j []).length : Nat) : Int) - 1]) := ⟨hn2⟩
        obtain ⟨EL, hEL⟩ : ∃ EL, ((ptL L i).getD j []).length = EL := ⟨_, rfl⟩
        have HEL : Sld (((ptL L i).getD j []).length = EL) := ⟨hEL⟩
        rw [hEL] at hp3 hp4
        have HB7 : Sld (QL + EL ≤ 5000) := ⟨by omega⟩
        clear CW hn1 hn2 hp1 hp2 hq0 hk1 hEL hql hlen hp4
        go_wp2_with fail
        refine HCW.out.mono ?_
        rintro e w2 ⟨x2, rfl, hW2⟩
        have hWC := WEx.call H0.out H1.out H2.out H3.out H4.out H5.out H6.out (by have := HSZ1.out; omega) hzr hW2
        obtain ⟨p2, f0, f1, f2, f3, f4, f5, f6⟩ := hW2
        obtain ⟨x2a, x2c, rfl⟩ := rw_form f0.row
        have hl2 : (q ++ p' ++ p2).length = QL + EL := by
          rw [List.length_append, HQL.out]
          have := congrArg List.length f1
          simp only [List.length_map, HEL.out] at this
          omega
        rw [hl2] at hWC ⊢
        have hK2 : OwnI w2 w.heap.size (.slice (some ⟨kb, 0, none⟩) ks.length kc) ((accS ((ptL L i).take j)).2.map (· + ((q.length : Nat) : Int)) ++ ks.drop j) := World.ownsRow.kept HK.out f3 (ownBlock_ne HK.out H0.out.row (by decide))
        have hN2 : w2.heap[wn.heap.size]? = some (.cells #[.int .i64 op, .int .i64 n, .string nm, .slice (some ⟨kb, 0, none⟩) ks.length kc] 63 (0, 0)) := (f3.block _ (lt_of_block HN.out) (fun e => HNBX.out e.symm)).trans HN.out
        obtain ⟨m0, m1, m2, m3, mf⟩ := blk4 hN2
        have kc2 := hK2.cellT HKL.out hjl
        have kf2 := hK2.frT HKL.out j
        obtain ⟨u2, hu2⟩ : ∃ u2, ((accS ((ptL L i).take j)).2.map (· + ((q.length : Nat) : Int)) ++ ks.drop j).getD j 0 = u2 := ⟨_, rfl⟩
        rw [hu2] at kc2
        obtain ⟨hcc7, hcc8, ccap, ccur, hcc9, hkblk, hcc6⟩ := rw_block hK2 (b := kb) rfl
        clear hcc7 hcc8 hcc9 hcc6
        rw [← HN1.out] at hWC
        have HW3 : Sld (WEx w w1.heap.size base v q ((accS ((ptL L i).take (j + 1))).1.map (mvN 0 (q.length : Nat))) (.slice x2a (QL + EL) x2c) (w2.setCell ⟨kb, j, none⟩ (.int .i64 (((QL + EL : Nat) : Int) - 1)))) := ⟨hWC.set HQ.out hkb1 (by have := HSZ1.out; omega) (by omega) hkblk⟩
        have HK3 : Sld (OwnI (w2.setCell ⟨kb, j, none⟩ (.int .i64 (((QL + EL : Nat) : Int) - 1))) w.heap.size (.slice (some ⟨kb, 0, none⟩) ks.length kc) ((accS ((ptL L i).take (j + 1))).2.map (· + ((q.length : Nat) : Int)) ++ ks.drop (j + 1))) := ⟨by
          have := hK2.putT HKL.out j (((QL + EL : Nat) : Int) - 1)
          rw [drop_next (by rw [List.length_map]; exact HA2.out j hj) hjl, ← HEL.out, ← HN2.out] at this
          rw [← HEL.out]
          exact this⟩
        have HN3 : Sld ((w2.setCell ⟨kb, j, none⟩ (.int .i64 (((QL + EL : Nat) : Int) - 1))).heap[wn.heap.size]? = some (.cells #[.int .i64 op, .int .i64 n, .string nm, .slice (some ⟨kb, 0, none⟩) ks.length kc] 63 (0, 0))) := ⟨(Deep.blk_setCell_other _ _ _ _ (by show wn.heap.size ≠ kb; omega)).trans hN2⟩
        have hsz2 := f3.size
        have hqe : ((QL + EL : Nat) : Int) ≤ 5000 := by have := HB7.out; omega
        have hqe0 : (1 : Int) ≤ ((QL + EL : Nat) : Int) := by omega
        obtain ⟨T, hT⟩ : ∃ T : Nat, QL + EL = T := ⟨_, rfl⟩
        rw [hT] at HW3 HK3 HN3 hqe hqe0 ⊢
        clear hWC hK2 hN2 f0 f1 f2 f3 f4 f5 f6 hkblk hl2 hu2 hT
        go_wp2_with fail
        exact ⟨⟨j + 1, by omega, by go_num, HW3.out, HK3.out, HN3.out, by rw [World.size_setCell]; omega⟩, by simp [RowKit.intOf]; omega⟩
      · have hje : j = ks.length := by omega
        subst hje
        have hK := HK.out
        rw [List.drop_length, List.append_nil] at hK
        have hl4 := HPL.out
        have hlen := HLEN.out
        have hq5 : QL ≤ 5000 := by
          have := congrArg List.length HEX.out
          rw [HTK.out] at hl4
          simp at this
          omega
        have hrow := H0.out.row
        rw [HQL.out] at hrow
        have HEND : Sld (∀ {g cap : Nat} {w5 : World}, w5.ownsRow base 63 4 (.slice (some ⟨g, 0, none⟩) (QL + 1) cap) (QL + 1) (ndCells (q ++ p') ++ [.int .i64 op, .int .i64 n, .string nm, .slice ka ks.length kc]) → (wr.alloc (.cells #[.int .i64 op, .int .i64 n, .string nm, .slice ka ks.length kc] 63)).grownBy w5 (Value.slice xa QL xc).ownBlock → ((Value.slice xa QL xc).ownBlock = some g ∨ g = (wr.alloc (.cells #[.int .i64 op, .int .i64 n, .string nm, .slice ka ks.length kc] 63)).heap.size) → WEx w w.heap.size base v q ((exA L i).map (mvN 0 (q.length : Nat))) (.slice (some ⟨g, 0, none⟩) (QL + 1) cap) w5) := ⟨fun {g cap w5} h1 h2 h3 => by
          rw [HEX.out, ← HTK.out]
          have hba : Below wr.heap.size wr (wr.alloc (.cells #[.int .i64 op, .int .i64 n, .string nm, .slice ka ks.length kc] 63)) := (Below.refl _ _).alloc (Nat.le_refl _) _
          exact WEx.last (y := ⟨op, n, nm, _⟩) (kv := .slice ka ks.length kc) H0.out H1.out H2.out H3.out H4.out H5.out H6.out (by have := HSZ1.out; omega) hbase hba (hK.below hba) (fun gg hgg => by have := (HKZ.out gg hgg).2; have := HSZ1.out; omega) HQL.out.symm h1 h2 h3⟩
        clear hK hlen hl4
        go_wp2_with (at_builtin; refine wpList_append_lies _ rfl (.tmp 39) (.tmp 41) 22 rfl base 63 i0 (.agg #[.int .i64 0, .int .i64 0, .string ⟨#[]⟩, .slice none 0 0]) 4 56 Tryd.underlying22 hi0 hz0 hz1 hz2 rfl (by decide) _ _ _ (by simp [Act.eval, Act.put]) (hrow.alloc _) ⟨wr.heap.size, 0, none⟩ 1 1 [.int .i64 op, .int .i64 n, .string nm, .slice ka ks.length kc] (by simp [Act.eval, Act.put]) rfl (cell_news4 _ _ _ _ _ _ _ rfl) (by simp [Value.oneCell']) (by omega) (by unfold maxLen; omega) (by omega) (by simp; omega) _ rfl ?_; intro g5 cap5 w5 hown5 hg5 hat5 hl5)
        have HE := HEND.out hown5 hg5 hat5
        have HEE : Sld (WEx w w.heap.size base v q ((exA L i).map (mvN 0 (q.length : Nat))) (.slice (some ⟨g5, 0, none⟩) (QL + 1) cap5) w5) := ⟨HE⟩
        clear HE hown5 hg5 hat5
        go_wp2_with fail
        go_ret
        exact ⟨_, rfl, HEE.out⟩
end Go.Proofs.YtpacjofepiojdaaDoor

namespace Go.Proofs.YtpacjofepiojdaaDoor
open Go.RowKit Go.Lib Go.Sort Go.Maps

theorem ExO.of {w w' : World} {v : Value} {l : List Nd} (h : WEx w w.heap.size w.heap.size (.slice none 0 0) [] (l.map (mvN 0 ((([] : List (Nd × Value)).length : Nat) : Int))) v w') : ExO w v l w' := by
  obtain ⟨p', g0, g1, g2, g3, g4, g5, g6⟩ := h
  refine ⟨⟨p', ?_, by simpa using g0, g6⟩, g5⟩
  rw [g1]
  exact map_mvN_zero 0 l
set_option maxRecDepth 20000 in
set_option maxHeartbeats 4000000 in
theorem tExpr_ok (w : World) (p : Nat) (ev mv : Value) (L : List Nd) (i : Nat) (h : TbM w p ev mv L) (hi : i < L.length) (hs : (exA L i).length ≤ 64) :
    Calls Tryd.prog 39 #[.pointer (some ⟨p, 0, none⟩), .int .i64 i] w fun e w' => ∃ ao cap, e = .returned (.tuple #[.slice ao (exA L i).length cap, .int .i64 0]) ∧ ExO w (.slice ao (exA L i).length cap) (exA L i) w' := by
  have ch : Sld (Calls Tryd.prog 76 #[.pointer (some ⟨p, 0, none⟩), .int .i64 i] w fun e w' => e = .returned (.bool true) ∧ w' = w) := ⟨by
    have := thas_any w p ev mv L i h
    rw [hasT_iff.2 ⟨i, rfl, hi⟩] at this
    exact this⟩
  have cw : Sld (Calls Tryd.prog 77 #[.pointer (some ⟨p, 0, none⟩), .slice none 0 0, .int .i64 i] w fun e w' => ∃ ao cap, e = .returned (.slice ao (exA L i).length cap) ∧ ExO w (.slice ao (exA L i).length cap) (exA L i) w') := ⟨(twrite_any p ev mv L h.inv i hi w w.heap.size (.slice none 0 0) [] h ⟨World.ownsRow_nil _ _ _ _, by simp⟩ (Nat.le_refl _) (by simp; omega)).mono fun e w' ⟨v', h1, h2⟩ => by
    have h3 := ExO.of h2
    obtain ⟨q, hq1, hq2, _⟩ := h3.ex
    obtain ⟨ao, cap, hv⟩ := rw_form hq2.row
    have : q.length = (exA L i).length := by rw [← hq1]; simp
    rw [this] at hv
    subst hv
    exact ⟨ao, cap, h1, h3⟩⟩
  obtain ⟨g, cap, hev, hg, hgl, hcc, hcm⟩ := h.row hi
  have t0 := h.c0
  have hM2 := h
  rw [hev] at hM2 t0
  have e6 := (hM2.at_ hi).c6
  have hsz := szA_ex h.inv i hi
  have hiI : (i : Int) < (L.length : Int) := by omega
  have hzI : ((szL L).getD i 0 : Int) ≤ 64 := by omega
  unfold maxLen at hcm
  generalize (szL L).getD i 0 = Z at *
  generalize exA L i = X at *
  clear h hM2 hev hsz
  go_enter Tryd.func39, Tryd.ntmps39
  go_wp2_with fail
  refine ch.out.mono ?_
  rintro e w4 ⟨rfl, hw4⟩
  subst hw4
  go_wp2_with fail
  refine cw.out.mono ?_
  rintro e w5 ⟨ao, cap5, rfl, hX⟩
  have HX : Sld (ExO w4 (.slice ao X.length cap5) X w5) := ⟨hX⟩
  clear hX
  go_wp2_with fail
  go_ret2
  exact ⟨ao, cap5, rfl, HX.out⟩
set_option maxRecDepth 20000 in
set_option maxHeartbeats 4000000 in
theorem tExpr_large (w : World) (p : Nat) (ev mv : Value) (L : List Nd) (i : Nat) (h : TbM w p ev mv L) (hi : i < L.length) (hs : 64 < (szL L).getD i 0) :
    Calls Tryd.prog 39 #[.pointer (some ⟨p, 0, none⟩), .int .i64 i] w fun e w' => e = .returned (.tuple #[.slice none 0 0, .int .i64 10]) ∧ w' = w := by
  have ch : Sld (Calls Tryd.prog 76 #[.pointer (some ⟨p, 0, none⟩), .int .i64 i] w fun e w' => e = .returned (.bool true) ∧ w' = w) := ⟨by
    have := thas_any w p ev mv L i h
    rw [hasT_iff.2 ⟨i, rfl, hi⟩] at this
    exact this⟩
  obtain ⟨g, cap, hev, hg, hgl, hcc, hcm⟩ := h.row hi
  have t0 := h.c0
  have hM2 := h
  rw [hev] at hM2 t0
  have e6 := (hM2.at_ hi).c6
  have hiI : (i : Int) < (L.length : Int) := by omega
  have hzI : (64 : Int) < ((szL L).getD i 0 : Nat) := by omega
  unfold maxLen at hcm
  generalize (szL L).getD i 0 = Z at *
  clear h hM2 hev
  go_enter Tryd.func39, Tryd.ntmps39
  go_wp2_with fail
  refine ch.out.mono ?_
  rintro e w4 ⟨rfl, hw4⟩
  subst hw4
  go_wp2_with fail
  go_ret2
  exact ⟨rfl, rfl⟩
set_option maxRecDepth 20000 in
set_option maxHeartbeats 4000000 in
theorem tExpr_bad (w : World) (p : Nat) (ev mv : Value) (L : List Nd) (a : Int) (h : TbM w p ev mv L) (hi : hasT L a = false) :
    Calls Tryd.prog 39 #[.pointer (some ⟨p, 0, none⟩), .int .i64 a] w fun e w' => e = .returned (.tuple #[.slice none 0 0, .int .i64 2]) ∧ w' = w := by
  have ch : Sld (Calls Tryd.prog 76 #[.pointer (some ⟨p, 0, none⟩), .int .i64 a] w fun e w' => e = .returned (.bool false) ∧ w' = w) := ⟨by
    have := thas_any w p ev mv L a h
    rw [hi] at this
    exact this⟩
  clear h
  go_enter Tryd.func39, Tryd.ntmps39
  go_wp2_with fail
  refine ch.out.mono ?_
  rintro e w4 ⟨rfl, hw4⟩
  subst hw4
  go_wp2_with fail
  go_ret2
  exact ⟨rfl, rfl⟩
end Go.Proofs.YtpacjofepiojdaaDoor
