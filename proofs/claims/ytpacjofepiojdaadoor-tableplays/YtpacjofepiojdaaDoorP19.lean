/-
  TbA2.
-/
import Derived.Shelf.Unicode.DecodeSlow
import Derived.Laws.RangeAny
import Derived.Shelf.Small.Bits
import Derived.Shelf.Strconv.Itoa0
import Derived.Shelf.LaysM
import Derived.Shelf.Strconv.Clone
import Derived.Shelf.Unicode.DecodeAny
import Derived.Shelf.Slices.CompactS
import Derived.Ground.SlsfProg
import Derived.Shelf.SlSortCmp.Insertion
import Derived.Shelf.SlSortCmp.SiftDown1
import Derived.Shelf.SlSortCmp.HeapSort1
import Derived.Shelf.SlSortCmp.Insertion1
import Derived.Shelf.SlSortCmp.Median1
import Derived.Shelf.SlSortCmp.Pivot1
import Derived.Shelf.SlSortCmp.ReverseRange1
import Derived.Shelf.SlSortCmp.PartialInsertion1
import Derived.Shelf.SlSortCmp.PartitionEqual1
import Derived.Shelf.SlSortCmp.Partition1
import Derived.Shelf.SlSortCmp.Pdq1
import Derived.Shelf.SlSortCmp.Whole1
import Derived.Test.YtpacjofepiojdaaDoorProg
import Derived.WalkKit
import Derived.Deep.DeepFit
import Derived.Lib.OthersKept
import Derived.Lib.RuneCountTail
import Derived.Deep.AppendLies
import Derived.Deep.OwnRows
import Derived.Laws.AppendOwnNone
import Derived.Deep.QuietTactic
import Derived.BigQuiet
import Derived.Deep.RegionWith
import Derived.Laws.DeepStrings4
import Derived.Below
import Derived.Maps.OwnSet
import Derived.Maps.Keyed
import Derived.DeepKeys4
import Derived.Lib.QuietBelow
import Derived.StillTail
import Derived.Deep.RegionHeld3
import Derived.Laws.ResultCell
import Derived.Laws.CopyOwn
import Derived.Laws.OwnMore
import Derived.Test.YtpacjofepiojdaaDoorP01
import Derived.Test.YtpacjofepiojdaaDoorP02
import Derived.Test.YtpacjofepiojdaaDoorP03
import Derived.Test.YtpacjofepiojdaaDoorP04
import Derived.Test.YtpacjofepiojdaaDoorP05
import Derived.Test.YtpacjofepiojdaaDoorP06
import Derived.Test.YtpacjofepiojdaaDoorP07
import Derived.Test.YtpacjofepiojdaaDoorP08
import Derived.Test.YtpacjofepiojdaaDoorP09
import Derived.Test.YtpacjofepiojdaaDoorP10
import Derived.Test.YtpacjofepiojdaaDoorP11
import Derived.Test.YtpacjofepiojdaaDoorP12
import Derived.Test.YtpacjofepiojdaaDoorP13
import Derived.Test.YtpacjofepiojdaaDoorP14
import Derived.Test.YtpacjofepiojdaaDoorP15
import Derived.Test.YtpacjofepiojdaaDoorP16
set_option linter.unusedSimpArgs false
set_option linter.unusedVariables false
namespace Go.Proofs.YtpacjofepiojdaaDoor
open Go.RowKit Go.Lib Go.Sort Go.Maps

theorem stA_putS (L : List Nd) (ids : List Nat) (x : Nd) : stA (L, ids) x = if (putS L (adN ids x)).2.1 = 0 then some ((putS L (adN ids x)).2.2, ids ++ [(putS L (adN ids x)).1]) else none := by
  unfold stA putS
  simp only
  cases ixL L (adN ids x) with
  | some i => simp
  | none =>
    simp only
    split <;> simp
theorem putS_err (L : List Nd) (x : Nd) : (putS L x).2.1 = 0 ∨ (putS L x).2.1 = 10 ∧ (putS L x).2.2 = L ∧ 1048576 ≤ L.length := by
  unfold putS
  cases ixL L x with
  | some i => simp
  | none =>
    simp only
    split
    · simp
    · right; exact ⟨rfl, rfl, by omega⟩
theorem TbM.typed {w : World} {p : Nat} {ev mv : Value} {L : List Nd} (h : TbM w p ev mv L) {b : Nat} {cur : Array Value} {e : TypeId} {fr : Nat × Nat} (hb : w.heap[b]? = some (.cells cur e fr)) (h1 : e ≠ 104) (h2 : e ≠ 118) : ¬ TbS p ev mv b := by
  rintro (rfl | hr | hm)
  · rw [h.blk] at hb
    injection hb with hb
    injection hb with _ hb
    exact h1 hb.symm
  · obtain ⟨_, _, cap, cu, _, h3, _⟩ := rw_block h.on hr
    rw [h3] at hb
    injection hb with hb
    injection hb with _ hb
    exact h2 hb.symm
  · rcases h.ids with ⟨h3, _⟩ | ⟨B, h3, _, h4⟩
    · rw [h3] at hm; cases hm
    · rw [h3] at hm
      cases hm
      obtain ⟨es, c, h5⟩ := h4.obj
      rw [h5] at hb; cases hb
theorem own_tb {w w' : World} {p : Nat} {ev mv : Value} {L : List Nd} (h : TbM w p ev mv L) (ht : Tk (TbS p ev mv) w w') {base : Nat} {e : TypeId} {s n : Nat} {v : Value} {xs : List Value} (ho : w.ownsRow base e s v n xs) (h1 : e ≠ 104) (h2 : e ≠ 118) : w'.ownsRow base e s v n xs :=
  rw_same ho (fun b hb => by
    obtain ⟨_, h3, cap, cu, _, h4, _⟩ := rw_block ho hb
    exact ht.same b h3 (h.typed h4 h1 h2))
theorem OwnI.tb {w w' : World} {p : Nat} {ev mv : Value} {L : List Nd} (h : TbM w p ev mv L) (ht : Tk (TbS p ev mv) w w') {base : Nat} {v : Value} {ks : List Int} (ho : OwnI w base v ks) : OwnI w' base v ks := own_tb h ht ho (by decide) (by decide)
theorem OwnP.tb {w w' : World} {p : Nat} {ev mv : Value} {L : List Nd} (h : TbM w p ev mv L) (ht : Tk (TbS p ev mv) w w') {base : Nat} {v : Value} {q : List (Nd × Value)} (ho : OwnP w base v q) : OwnP w' base v q :=
  ⟨own_tb h ht ho.row (by decide) (by decide), fun y hy => (ho.kids y hy).tb h ht⟩
theorem OwnN.tb {w w' : World} {p : Nat} {ev mv : Value} {L : List Nd} (h : TbM w p ev mv L) (ht : Tk (TbS p ev mv) w w') {base : Nat} {v : Value} {l : List Nd} (ho : OwnN w base v l) : OwnN w' base v l := let ⟨q, h1, h2⟩ := ho; ⟨q, h1, h2.tb h ht⟩
theorem made_zerosT (n : Nat) : (madeCells (Value.int .i64 0).cells (n * 1)).toList = (List.replicate n (0 : Int)).map (Value.int .i64) := by
  apply List.ext_getElem
  · simp [madeCells]
  · intro i h1 h2
    simp [madeCells, Value.cells, Nat.mod_one]

/-- The kids of a shape while they are turned into numbers. -/
def mixK (ids : List Nat) (ks : List Int) (k j : Nat) : Int := if j < k then ((ids.getD (ks.getD j 0).toNat 0 : Nat) : Int) else ks.getD j 0
theorem mixK_zero (ids : List Nat) (ks : List Int) (j : Nat) : mixK ids ks 0 j = ks.getD j 0 := by simp [mixK]
theorem mixK_end (ids : List Nat) (x : Nd) (j : Nat) : mixK ids x.kids x.kids.length j = (adN ids x).kids.getD j 0 := by
  unfold mixK adN
  simp only
  split
  · rename_i h; simp [h]
  · rename_i h
    rw [List.getD_eq_getElem?_getD, List.getElem?_eq_none (by omega), List.getD_eq_getElem?_getD, List.getElem?_eq_none (by simp; omega)]
def mixC (op n : Int) (nm : ByteArray) (ids : List Nat) (ks : List Int) (k : Nat) : Array Value := #[.int .i64 op, .int .i64 n, .string nm, .int .i64 (mixK ids ks k 0), .int .i64 (mixK ids ks k 1), .int .i64 (mixK ids ks k 2)]
theorem mixC_set (op n : Int) (nm : ByteArray) (ids : List Nat) (ks : List Int) (k : Nat) (hk : k < 3) : (mixC op n nm ids ks k).setIfInBounds (3 + k) (.int .i64 ((ids.getD (ks.getD k 0).toNat 0 : Nat) : Int)) = mixC op n nm ids ks (k + 1) := by
  match k, hk with
  | 0, _ => simp [mixC, mixK]
  | 1, _ => simp [mixC, mixK]
  | 2, _ => simp [mixC, mixK]
  | k + 3, h => omega
/-- The inner loop of Add. -/
structure MixM (wc : World) (sb : Nat) (op n : Int) (nm : ByteArray) (ids : List Nat) (ks : List Int) (k : Nat) (wk : World) : Prop where
  blk : wk.heap[sb]? = some (.cells (mixC op n nm ids ks k) 116 (0, 0))
  bel : Below sb wc wk
theorem MixM.step {wc : World} {sb : Nat} {op n : Int} {nm : ByteArray} {ids : List Nat} {ks : List Int} {k : Nat} {wk : World} (h : MixM wc sb op n nm ids ks k wk) (hk : k < 3) : MixM wc sb op n nm ids ks (k + 1) (wk.setCell ⟨sb, 3 + k, none⟩ (.int .i64 ((ids.getD (ks.getD k 0).toNat 0 : Nat) : Int))) := by
  refine ⟨?_, h.bel.setCell (p := ⟨sb, 3 + k, none⟩) (Nat.le_refl _) _⟩
  have := heap_setCell_same wk sb (3 + k) _ 116 (.int .i64 ((ids.getD (ks.getD k 0).toNat 0 : Nat) : Int)) h.blk
  rw [mixC_set _ _ _ _ _ _ hk] at this
  exact this
theorem MixM.cell {wc : World} {sb : Nat} {op n : Int} {nm : ByteArray} {ids : List Nat} {ks : List Int} {k : Nat} {wk : World} (h : MixM wc sb op n nm ids ks k wk) (hk : k < 3) : wk.cell? ⟨sb, 3 + k, none⟩ = some (.int .i64 (ks.getD k 0)) ∧ wk.frozen? ⟨sb, 3 + k, none⟩ = false := by
  have hb := h.blk
  refine ⟨?_, by simp [World.frozen?, hb]⟩
  match k, hk with
  | 0, _ => simp [World.cell?, hb, mixC, mixK]
  | 1, _ => simp [World.cell?, hb, mixC, mixK]
  | 2, _ => simp [World.cell?, hb, mixC, mixK]
  | k + 3, h => omega

/-- Nodes whose kids lie below a block. -/
def ArgO (z : Nat) (w : World) (base : Nat) (vs : Value) (l : List Nd) : Prop := ∃ q : List (Nd × Value), q.map (·.1) = l ∧ OwnP w base vs q ∧ ∀ y ∈ q, ∀ b, y.2.ownBlock = some b → b < z
theorem ArgO.of {w : World} {base : Nat} {vs : Value} {l : List Nd} (h : OwnN w base vs l) : ArgO w.heap.size w base vs l := by
  obtain ⟨q, h1, h2⟩ := h
  exact ⟨q, h1, h2, fun y hy b hb => (rw_block (h2.kids y hy) hb).2.1⟩
theorem ArgO.own {z : Nat} {w : World} {base : Nat} {vs : Value} {l : List Nd} (h : ArgO z w base vs l) : OwnN w base vs l := let ⟨q, h1, h2, _⟩ := h; ⟨q, h1, h2⟩
theorem ArgO.below {z : Nat} {w w' : World} {base : Nat} {vs : Value} {l : List Nd} (h : ArgO z w base vs l) (hb : Below w.heap.size w w') : ArgO z w' base vs l := let ⟨q, h1, h2, h3⟩ := h; ⟨q, h1, h2.below hb, h3⟩
theorem ArgO.tb {w w' : World} {p : Nat} {ev mv : Value} {L : List Nd} (h : TbM w p ev mv L) (ht : Tk (TbS p ev mv) w w') {z base : Nat} {v : Value} {l : List Nd} (ho : ArgO z w base v l) : ArgO z w' base v l := let ⟨q, h1, h2, h3⟩ := ho; ⟨q, h1, h2.tb h ht, h3⟩
/-- Add between two rounds. -/
structure AdMid (w : World) (p : Nat) (ev mv : Value) (L l : List Nd) (base : Nat) (vs : Value) (G : Nat) (k : Nat) (wr : World) (Lk : List Nd) (ids : List Nat) : Prop where
  run : addR (L, []) (l.take k) = some (Lk, ids)
  len : ids.length = k
  tb : ∃ ev' mv', TbT w p ev mv ev' mv' Lk wr
  arg : ArgO w.heap.size wr base vs l
  row : OwnI wr w.heap.size (.slice (some ⟨G, 0, none⟩) l.length l.length) (ids.map (fun i => ((i : Nat) : Int)) ++ List.replicate (l.length - k) 0)
theorem adm_ids {ids : List Nat} {n k j : Nat} (hl : ids.length = k) (hj : j < k) : (ids.map (fun i => ((i : Nat) : Int)) ++ List.replicate (n - k) 0).getD j 0 = ((ids.getD j 0 : Nat) : Int) := by
  rw [List.getD_eq_getElem?_getD, List.getElem?_append_left (by simp; omega)]
  simp [show j < ids.length by omega]
theorem adm_set {ids : List Nat} {n k : Nat} (i : Nat) (hl : ids.length = k) (hk : k < n) : (ids.map (fun i => ((i : Nat) : Int)) ++ List.replicate (n - k) 0).set k ((i : Nat) : Int) = (ids ++ [i]).map (fun i => ((i : Nat) : Int)) ++ List.replicate (n - (k + 1)) 0 := by
  rw [List.set_append_right _ _ (by simp; omega)]
  have e : n - k = (n - (k + 1)) + 1 := by omega
  simp [hl, e, List.replicate_succ]
theorem adm_len {ids : List Nat} {n k : Nat} (hl : ids.length = k) (hk : k ≤ n) : (ids.map (fun i => ((i : Nat) : Int)) ++ List.replicate (n - k) 0).length = n := by simp; omega
/-- A round that put its node in. -/
theorem AdMid.next {w wr wk w' : World} {p : Nat} {ev mv : Value} {L l : List Nd} {base : Nat} {vs : Value} {G k : Nat} {Lk : List Nd} {ids : List Nat} {ev' mv' ev'' mv'' : Value} {L' : List Nd} {i : Nat} (h : AdMid w p ev mv L l base vs G k wr Lk ids) (hk : k < l.length) (ht : TbT w p ev mv ev' mv' Lk wr) (hb : Below wr.heap.size wr wk) (hp : TbT wk p ev' mv' ev'' mv'' L' w') (hs : stA (Lk, ids) (l.getD k nd0) = some (L', ids ++ [i])) :
    AdMid w p ev mv L l base vs G (k + 1) (w'.setCell ⟨G, k, none⟩ (.int .i64 (i : Nat))) L' (ids ++ [i]) := by
  have htk := ht.tb.below hb
  have hrow : OwnI w' w.heap.size (.slice (some ⟨G, 0, none⟩) l.length l.length) (ids.map (fun i => ((i : Nat) : Int)) ++ List.replicate (l.length - k) 0) := (h.row.below hb).tb htk hp.tk
  have hG := rw_block hrow (b := G) rfl
  obtain ⟨hG1, hG2, capG, curG, _, hG3, _⟩ := hG
  refine ⟨?_, by simp [h.len], ⟨ev'', mv'', ?_⟩, ?_, ?_⟩
  · rw [addR_snoc _ _ hk, h.run]; exact hs
  · have h1 := (ht.trans (TbT.of_below ht.tb hb)).trans hp
    refine ⟨h1.tb.same fun b hb' hs' => ?_, h1.tk.trans (Tk.set (S := fun b => b = G) (b := G) (o := k) rfl) (fun b e => .inr (by have : b = G := e; omega)), h1.yo, h1.mp, h1.gr, fun g hg hpg j u hj hu => by
      have h2 := h1.st g hg hpg j u hj hu
      have h3 := World.block_lt_of_cell? w _ hu
      have h4 : (w'.setCell ⟨G, k, none⟩ (.int .i64 (i : Nat))).heap[g]? = w'.heap[g]? := Deep.blk_setCell_other _ _ _ _ (by show g ≠ G; have : g < w.heap.size := h3; omega)
      simp only [World.cell?] at h2 ⊢
      rw [h4]
      exact h2⟩
    exact Deep.blk_setCell_other _ _ _ _ (fun e => by
      have e2 : b = G := e
      subst e2
      exact h1.tb.typed hG3 (by decide) (by decide) hs')
  · have h1 := (h.arg.below hb).tb htk hp.tk
    obtain ⟨q, hq1, hq2, hq3⟩ := h1
    refine ⟨q, hq1, ⟨rw_same hq2.row (fun b hb' => ?_), fun y hy => ?_⟩, hq3⟩
    · obtain ⟨_, _, c, cu, _, h3, _⟩ := rw_block hq2.row hb'
      exact Deep.blk_setCell_other _ _ _ _ (fun e => by
        have e2 : b = G := e
        subst e2
        rw [hG3] at h3
        simp at h3)
    · refine rw_same (hq2.kids y hy) (fun b hb' => Deep.blk_setCell_other _ _ _ _ (fun e => ?_))
      have e2 : b = G := e
      have := hq3 y hy b hb'
      omega
  · have := hrow.putT (adm_len h.len (by omega)) k ((i : Nat) : Int)
    rw [adm_set i h.len hk] at this
    exact this
end Go.Proofs.YtpacjofepiojdaaDoor

namespace Go.Proofs.YtpacjofepiojdaaDoor
open Go.RowKit Go.Lib Go.Sort Go.Maps

theorem adN_ndk {L l : List Nd} {ids : List Nat} {j : Nat} {x : Nd} (hI : TbI L) (hf : formB x = true) (hn : N6 x.n) (hs : x.name.size ≤ 281474976710656) (hk : ∀ k ∈ (adN ids x).kids, 0 ≤ k ∧ k < (L.length : Int)) : NdK (adN ids x) :=
  NdK.of (by rw [adN_form]; exact hf) hn (by show x.name.size ≤ _; unfold maxLen; omega) fun k h => by have := hk k h; have := hI.le; omega
theorem adN_kids {L l : List Nd} {ids : List Nat} {j : Nat} (hl : KidsLo l) (hj : j < l.length) (h : Fnd L (l.take j) ids) : ∀ k ∈ (adN ids (l.getD j nd0)).kids, 0 ≤ k ∧ k < (L.length : Int) := by
  intro k hk
  unfold adN at hk
  simp only [List.mem_map] at hk
  obtain ⟨q, hq, rfl⟩ := hk
  have h1 := hl j hj q hq
  have ht : (l.take j).length = j := by simp; omega
  have := (h.at_ q.toNat (by omega)).1
  omega
set_option maxRecDepth 20000 in
set_option maxHeartbeats 16000000 in
theorem tAdd_walk (w : World) (p : Nat) (ev mv : Value) (L l : List Nd) (fr : List Nat) (base : Nat) (vs : Value) (h : TbM w p ev mv L) (hT : SpanCells w) (ho : OwnN w base vs l) (hb : begL l = some fr) (hn6 : ∀ x ∈ l, N6 x.n ∧ x.name.size ≤ 281474976710656)
    (r : Nat) (er : Int) (L' : List Nd) (hres : (∃ ids, addR (L, []) l = some (L', ids) ∧ r = ids.getD (l.length - 1) 0 ∧ er = 0) ∨ (addR (L, []) l = none ∧ r = 0 ∧ er = 10 ∧ L' = L))
    (hcut : addR (L, []) l = none → ∀ W ev1 mv1 L1, TbT w p ev mv ev1 mv1 L1 W → (∃ M, L1 = L ++ M) → 0 < L1.length → Calls Tryd.prog 97 #[.pointer (some ⟨p, 0, none⟩), .int .i64 L.length] W fun e w' => e = .returned (.tuple #[]) ∧ ∃ ev' mv', TbT w p ev mv ev' mv' L w') :
    Calls Tryd.prog 61 #[.pointer (some ⟨p, 0, none⟩), vs] w fun e w' => e = .returned (.tuple #[.int .i64 (r : Nat), .int .i64 er]) ∧ ∃ ev' mv', TbT w p ev mv ev' mv' L' w' := by
  obtain ⟨i0, hi, hz0, hz1, hz2⟩ := info_parts Tryd.info3
  obtain ⟨hl0, hl64, hbr, _⟩ := begL_some hb
  have hok := begOk_of hbr
  have HKL : Sld (KidsLo l) := ⟨kidsLo_ok hok⟩
  have HFM : Sld (∀ j, j < l.length → formB (l.getD j nd0) = true) := ⟨fun j hj => (hok.at_ j hj).1⟩
  have HN6 : Sld (∀ x ∈ l, N6 x.n ∧ x.name.size ≤ 281474976710656) := ⟨hn6⟩
  have HRES : Sld ((∃ ids, addR (L, []) l = some (L', ids) ∧ r = ids.getD (l.length - 1) 0 ∧ er = 0) ∨ (addR (L, []) l = none ∧ r = 0 ∧ er = 10 ∧ L' = L)) := ⟨hres⟩
  have HCUT : Sld (addR (L, []) l = none → ∀ W ev1 mv1 L1, TbT w p ev mv ev1 mv1 L1 W → (∃ M, L1 = L ++ M) → 0 < L1.length → Calls Tryd.prog 97 #[.pointer (some ⟨p, 0, none⟩), .int .i64 L.length] W fun e w' => e = .returned (.tuple #[]) ∧ ∃ ev' mv', TbT w p ev mv ev' mv' L w') := ⟨hcut⟩
  have HM : Sld (TbM w p ev mv L) := ⟨h⟩
  have HI : Sld (TbI L) := ⟨h.inv⟩
  have hC : Sld (Calls Tryd.prog 8 #[vs] w fun e w' => e = .returned (.int .i64 0) ∧ Below w.heap.size w w') := ⟨check_some vs l fr w w.heap.size (Nat.le_refl _) hT (Nodes_of_own ho (Nat.le_refl _)) hb⟩
  obtain ⟨q0, hq01, hq02⟩ := ho
  obtain ⟨sa, sc, hvs⟩ := rw_form hq02.row
  have hql : q0.length = l.length := by rw [← hq01]; simp
  rw [hql] at hvs
  have HO : Sld (OwnN w base vs l) := ⟨⟨q0, hq01, hq02⟩⟩
  have HVS : Sld (vs = .slice sa l.length sc) := ⟨hvs⟩
  have HL0 : Sld (0 < l.length) := ⟨by omega⟩
  have hlI : (l.length : Int) ≤ 64 := by omega
  clear h hT hb hn6 hres hcut hok hbr hq01 hq02 hql
  subst hvs
  go_enter Tryd.func61, Tryd.ntmps61
  go_wp2_with fail
  refine hC.out.mono ?_
  rintro e w1 ⟨rfl, hb1⟩
  have HB1 : Sld (Below w.heap.size w w1) := ⟨hb1⟩
  obtain ⟨ea, ec, hev⟩ := HM.out.form
  have c0 : w1.cell? ⟨p, 0, none⟩ = some (.slice ea L.length ec) := by rw [← hev]; exact (HM.out.below hb1).c0
  obtain ⟨w2, hmk, hown2, hg2⟩ := run_make_full (P := Tryd.prog) w1 w.heap.size 61 3 i0 (.int .i64 0) 1 Tryd.underlying61 hi hz0 hz1 .i64 .i64 l.length (by rw [hz2]; omega) (by unfold maxLen; omega) hb1.size
  rw [made_zerosT] at hown2
  have hO2 : OwnI w2 w.heap.size (.slice (some ⟨w1.heap.size, 0, none⟩) l.length l.length) (List.replicate l.length 0) := by
    unfold OwnI; rw [List.length_replicate]; exact hown2
  have hB2 : Below w.heap.size w w2 := hb1.grown hg2 hb1.size (fun j hj => by cases hj)
  have HA2 : Sld (AdMid w p ev mv L l base (.slice sa l.length sc) w1.heap.size 0 w2 L []) := ⟨⟨rfl, rfl, ⟨ev, mv, TbT.of_below HM.out hB2⟩, (ArgO.of HO.out).below hB2, by simpa using hO2⟩⟩
  clear hb1 hown2 hg2 hO2 hB2 hev
  go_wp2_with fail
  generalize w1.heap.size = G at *
  clear hmk c0 HB1 hC
  go_loopw [30] (fun i wr => ∃ (k : Nat) (Lk : List Nd) (ids : List Nat), k ≤ l.length ∧ i = .int .i64 k ∧ AdMid w p ev mv L l base (.slice sa l.length sc) G k wr Lk ids) (fun i _ => l.length - (RowKit.intOf i).toNat)
  case atStart => exact ⟨0, L, [], by omega, rfl, HA2.out⟩
  case round =>
    obtain ⟨k, Lk, ids, hk, rfl, hmid⟩ := hrel
    have HMID : Sld (AdMid w p ev mv L l base (.slice sa l.length sc) G k wr Lk ids) := ⟨hmid⟩
    clear hmid HA2
    obtain ⟨ev1, mv1, hT1⟩ := HMID.out.tb
    have HT1 : Sld (TbT w p ev mv ev1 mv1 Lk wr) := ⟨hT1⟩
    clear hT1
    by_cases hlt : k < l.length
    · have hltI : (k : Int) < (l.length : Int) := by omega
      obtain ⟨ao', cap', hv, hl1, hm1, hc⟩ := Nodes_of_own HMID.out.arg.own (Nat.le_refl _)
      simp only [Value.slice.injEq, true_and] at hv
      obtain ⟨rfl, rfl⟩ := hv
      obtain ⟨b, o, rfl, hbl, hc⟩ : ∃ b o, sa = some ⟨b, o, none⟩ ∧ b < wr.heap.size ∧ ∀ i, i < l.length → ∃ kv, NodeAt wr wr.heap.size b (o + i * 4) (l.getD i nd0) kv := by
        rcases hc with h | h
        · subst h; simp at hlt
        · exact h
      obtain ⟨kv, hNA⟩ := hc k hlt
      obtain ⟨d0, d1, d2, d3, hki⟩ := hNA
      obtain ⟨ka, kc, hkv, hkl, hkm, hkc⟩ := id hki
      subst hkv
      have hxn := HN6.out (l.getD k nd0) (by simp [hlt])
      have hfm := HFM.out k hlt
      have hk3 := formB_kids hfm
      obtain ⟨hIk, ⟨M, hM, _⟩, hFk⟩ := addR_ok HKL.out HFM.out HI.out k hk Lk ids HMID.out.run
      have hkids := adN_kids HKL.out hlt hFk
      have hkl2 := HKL.out k hlt
      have HNX : Sld (∀ {wk w' : World} {ev'' mv'' : Value} {L2 : List Nd} {i : Nat}, Below wr.heap.size wr wk → TbT wk p ev1 mv1 ev'' mv'' L2 w' → stA (Lk, ids) (l.getD k nd0) = some (L2, ids ++ [i]) → AdMid w p ev mv L l base (.slice (some ⟨b, o, none⟩) l.length sc) G (k + 1) (w'.setCell ⟨G, k, none⟩ (.int .i64 (i : Nat))) L2 (ids ++ [i])) := ⟨fun h1 h2 h3 => HMID.out.next hlt HT1.out h1 h2 h3⟩
      have HST := stA_putS Lk ids (l.getD k nd0)
      have CP : Sld (∀ W, Below wr.heap.size wr W → Calls Tryd.prog 75 #[.pointer (some ⟨p, 0, none⟩), shV (adN ids (l.getD k nd0))] W fun e w' => e = .returned (.tuple #[.int .i64 ((putS Lk (adN ids (l.getD k nd0))).1 : Nat), .int .i64 (putS Lk (adN ids (l.getD k nd0))).2.1]) ∧ ∃ ev' mv', TbT W p ev1 mv1 ev' mv' (putS Lk (adN ids (l.getD k nd0))).2.2 w') := ⟨fun W hW => tput_any W p ev1 mv1 Lk _ (HT1.out.tb.below hW) (adN_ndk (l := l) (j := k) hIk hfm hxn.1 hxn.2 hkids) hkids hxn.2⟩
      have HER := putS_err Lk (adN ids (l.getD k nd0))
      have HNONE : Sld (stA (Lk, ids) (l.getD k nd0) = none → addR (L, []) l = none) := ⟨fun hs => addR_none _ _ (j := k + 1) (by rw [addR_snoc _ _ hlt, HMID.out.run]; exact hs)⟩
      have HSV : shV (adN ids (l.getD k nd0)) = .agg (mixC (l.getD k nd0).op (l.getD k nd0).n (l.getD k nd0).name ids (l.getD k nd0).kids (l.getD k nd0).kids.length) := by
        unfold shV mixC
        rw [mixK_end, mixK_end, mixK_end]
        rfl
      rw [HSV] at CP
      have HIC : Sld (∀ j, j < k → wr.cell? ⟨G, j, none⟩ = some (.int .i64 ((ids.getD j 0 : Nat) : Int))) := ⟨fun j hj => by
        have := HMID.out.row.cellT (adm_len HMID.out.len (by omega)) (i := j) (by omega)
        rw [adm_ids HMID.out.len hj] at this
        exact this⟩
      have hGl : G < wr.heap.size := (rw_block HMID.out.row (b := G) rfl).2.1
      obtain ⟨E2, hE2⟩ : ∃ E2, (putS Lk (adN ids (l.getD k nd0))).2.1 = E2 := ⟨_, rfl⟩
      obtain ⟨R2, hR2⟩ : ∃ R2, (putS Lk (adN ids (l.getD k nd0))).1 = R2 := ⟨_, rfl⟩
      obtain ⟨L2, hL2⟩ : ∃ L2, (putS Lk (adN ids (l.getD k nd0))).2.2 = L2 := ⟨_, rfl⟩
      rw [hE2, hR2, hL2] at CP HST
      rw [hE2, hL2] at HER
      have HST' : Sld (stA (Lk, ids) (l.getD k nd0) = if E2 = 0 then some (L2, ids ++ [R2]) else none) := ⟨HST⟩
      have HER' : Sld (E2 = 0 ∨ E2 = 10 ∧ L2 = Lk ∧ 1048576 ≤ Lk.length) := ⟨HER⟩
      have HLM : Sld (∃ M, Lk = L ++ M) := ⟨⟨M, hM⟩⟩
      have HGC : Sld (∀ {wk w' : World} {ev'' mv'' : Value} {L2 : List Nd}, Below wr.heap.size wr wk → TbT wk p ev1 mv1 ev'' mv'' L2 w' → ∃ u, w'.cell? ⟨G, k, none⟩ = some u ∧ w'.frozen? ⟨G, k, none⟩ = false) := ⟨fun h1 h2 => by
        have h3 := (HMID.out.row.below h1).tb (HT1.out.tb.below h1) h2.tk
        exact ⟨_, h3.cellT (adm_len HMID.out.len (by omega)) hlt, h3.frT (adm_len HMID.out.len (by omega)) k⟩⟩
      clear HST HER hE2 hR2 hL2 HSV hFk hIk hc hkids hxn hM
      generalize l.getD k nd0 = x at *
      obtain ⟨op, n, nm, ks⟩ := x
      simp only at d0 d1 d2 d3 hki hkl hkm hkc hk3 hkl2 CP
      have HKI : Sld (Ints wr wr.heap.size (.slice ka ks.length kc) ks) := ⟨hki⟩
      have HK2 : Sld (∀ q ∈ ks, 0 ≤ q ∧ q < (k : Int)) := ⟨hkl2⟩
      have hkm1 := hkm.1
      unfold maxLen at hkm1
      obtain ⟨wa, hwa⟩ : ∃ wa, wr.alloc (.cells #[.int .i64 op, .int .i64 n, .string nm, .slice ka ks.length kc] 63) = wa := ⟨_, rfl⟩
      have HBa : Sld (Below wr.heap.size wr wa) := ⟨by rw [← hwa]; exact (Below.refl _ _).alloc (Nat.le_refl _) _⟩
      have hba : wa.heap[wr.heap.size]? = some (.cells #[.int .i64 op, .int .i64 n, .string nm, .slice ka ks.length kc] 63 (0, 0)) := by rw [← hwa, Deep.blk_alloc_new]
      have HBA : Sld (wa.heap[wr.heap.size]? = some (.cells #[.int .i64 op, .int .i64 n, .string nm, .slice ka ks.length kc] 63 (0, 0))) := ⟨hba⟩
      obtain ⟨a0, a1, a2, a3, _⟩ := blk4 hba
      have CSh : Sld (Calls Tryd.prog 96 #[.agg #[.int .i64 op, .int .i64 n, .string nm, .slice ka ks.length kc]] wa fun e w' => e = .returned (.agg (mixC op n nm ids ks 0)) ∧ Below wa.heap.size wa w') := ⟨by
        have := shaped_any op n nm ks ka kc wa (HKI.out.below HBa.out HBa.out.size) hk3
        unfold mixC
        rw [mixK_zero, mixK_zero, mixK_zero]
        exact this⟩
      have HWA : Hid (wr.alloc (.cells #[.int .i64 op, .int .i64 n, .string nm, .slice ka ks.length kc] 63) = wa) := hwa
      have hasz : wr.heap.size < wa.heap.size := lt_of_block hba
      clear hwa hba hki hkc hkm hkl2
      go_wp2_with fail
      rw [HWA.out]
      go_wp2_with fail
      refine CSh.out.mono ?_
      rintro e wb ⟨rfl, hbb⟩
      have HBb : Sld (Below wr.heap.size wr wb) := ⟨HBa.out.trans (hbb.mono HBa.out.size)⟩
      have hnb : wb.heap[wr.heap.size]? = some (.cells #[.int .i64 op, .int .i64 n, .string nm, .slice ka ks.length kc] 63 (0, 0)) := (hbb.block _ hasz).trans HBA.out
      have HNB : Sld (wb.heap[wr.heap.size]? = some (.cells #[.int .i64 op, .int .i64 n, .string nm, .slice ka ks.length kc] 63 (0, 0))) := ⟨hnb⟩
      have hbsz : wr.heap.size < wb.heap.size := lt_of_block hnb
      obtain ⟨wc, hwc⟩ : ∃ wc, wb.alloc (.cells (mixC op n nm ids ks 0) 116) = wc := ⟨_, rfl⟩
      have HM0 : Sld (MixM wb wb.heap.size op n nm ids ks 0 wc) := ⟨⟨by rw [← hwc, Deep.blk_alloc_new], by rw [← hwc]; exact (Below.refl _ _).alloc (Nat.le_refl _) _⟩⟩
      have hnc : wc.cell? ⟨wr.heap.size, 3, none⟩ = some (.slice ka ks.length kc) := (HM0.out.bel.cell (p := ⟨wr.heap.size, 3, none⟩) hbsz).trans (blk4 hnb).2.2.2.1
      clear hbb hnb a0 a1 a2 a3
      unfold mixC at hwc ⊢
      go_wp2_with fail
      clear hwc
      obtain ⟨wo, hwo⟩ : ∃ wo, wo = wr := ⟨_, rfl⟩
      subst hwo
      go_loopw [40] (fun i wk => ∃ j : Nat, j ≤ ks.length ∧ i = .int .i64 j ∧ MixM wb wb.heap.size op n nm ids ks j wk) (fun i _ => ks.length - (RowKit.intOf i).toNat)
      case atStart => exact ⟨0, by omega, rfl, HM0.out⟩
      case round =>
        obtain ⟨j, hj, rfl, hmx⟩ := hrel
        have HMX : Sld (MixM wb wb.heap.size op n nm ids ks j wr) := ⟨hmx⟩
        have hB5 : Below wo.heap.size wo wr := HBb.out.trans (hmx.bel.mono (by omega))
        have HB5 : Sld (Below wo.heap.size wo wr) := ⟨hB5⟩
        by_cases hjl : j < ks.length
        · have hjlI : (j : Int) < (ks.length : Int) := by omega
          have hj3 : (j : Int) < 3 := by omega
          obtain ⟨ao', cap', hv, _, _, hc⟩ := HKI.out
          simp only [Value.slice.injEq, true_and] at hv
          obtain ⟨rfl, rfl⟩ := hv
          obtain ⟨kb, ko, rfl, hkb, hc⟩ : ∃ b o, ka = some ⟨b, o, none⟩ ∧ b < wo.heap.size ∧ ∀ j, j < ks.length → wo.cell? ⟨b, o + j, none⟩ = some (.int .i64 (ks.getD j 0)) := by
            rcases hc with h | h
            · subst h; simp at hjl
            · exact h
          have kc1 := (hB5.cell (p := ⟨kb, ko + j, none⟩) hkb).trans (hc j hjl)
          obtain ⟨hq1, hq2⟩ := HK2.out (ks.getD j 0) (by simp [hjl])
          obtain ⟨sc1, sf1⟩ := hmx.cell (by omega)
          have hstep := hmx.step (by omega)
          obtain ⟨q, hq⟩ : ∃ q : Nat, ks.getD j 0 = q := ⟨(ks.getD j 0).toNat, by omega⟩
          have kc2 := (hB5.cell (p := ⟨G, q, none⟩) hGl).trans (HIC.out q (by omega))
          rw [hq] at kc1 sc1 hq2 hstep
          simp only [Int.toNat_natCast] at hstep
          have HSTEP : Sld (MixM wb wb.heap.size op n nm ids ks (j + 1) (wr.setCell ⟨wb.heap.size, 3 + j, none⟩ (.int .i64 ((ids.getD q 0 : Nat) : Int)))) := ⟨hstep⟩
          have hqI : (q : Int) < (l.length : Int) := by omega
          clear hc hmx hB5 hstep hq hq1
          generalize ids.getD q 0 = z at *
          go_wp2_with fail
          exact ⟨⟨j + 1, by omega, by go_num, HSTEP.out⟩, by simp [RowKit.intOf]; omega⟩
        · have hje : j = ks.length := by omega
          subst hje
          have CP5 := CP.out wr hB5
          have hbk := hmx.blk
          unfold mixC at CP5 hbk
          generalize mixK ids ks ks.length 0 = m0 at *
          generalize mixK ids ks ks.length 1 = m1 at *
          generalize mixK ids ks ks.length 2 = m2 at *
          obtain ⟨g0, g1, g2, g3, g4, g5, _⟩ := blk6 hbk
          have HCP5 : Sld (Calls Tryd.prog 75 #[.pointer (some ⟨p, 0, none⟩), .agg #[.int .i64 op, .int .i64 n, .string nm, .int .i64 m0, .int .i64 m1, .int .i64 m2]] wr fun e w' => e = .returned (.tuple #[.int .i64 (R2 : Nat), .int .i64 E2]) ∧ ∃ ev' mv', TbT wr p ev1 mv1 ev' mv' L2 w') := ⟨CP5⟩
          clear hmx hB5 CP5 hbk CP HMX
          go_wp2_with fail
          refine HCP5.out.mono ?_
          rintro e w6 ⟨rfl, ev6, mv6, hT6⟩
          have HT6 : Sld (TbT wr p ev1 mv1 ev6 mv6 L2 w6) := ⟨hT6⟩
          clear hT6
          rcases HER'.out with hE | ⟨hE, hLL, hfull⟩
          · have hst := HST'.out
            rw [if_pos hE] at hst
            have HNX2 := HNX.out HB5.out HT6.out hst
            have HN2 : Sld (AdMid w p ev mv L l base (.slice (some ⟨b, o, none⟩) l.length sc) G (k + 1) (w6.setCell ⟨G, k, none⟩ (.int .i64 (R2 : Nat))) L2 (ids ++ [R2])) := ⟨HNX2⟩
            obtain ⟨u6, hu6, hf6⟩ := HGC.out HB5.out HT6.out
            subst hE
            clear hst HNX2 g0 g1 g2 g3 g4 g5
            go_wp2_with fail
            exact ⟨⟨k + 1, L2, ids ++ [R2], by omega, by go_num, HN2.out⟩, by simp [RowKit.intOf]; omega⟩
          · have hst := HST'.out
            rw [if_neg (by omega)] at hst
            have hnone := HNONE.out hst
            have hT7 : TbT w p ev mv ev6 mv6 Lk w6 := by
              have := (HT1.out.trans (TbT.of_below HT1.out.tb HB5.out)).trans HT6.out
              rw [hLL] at this
              exact this
            have hcc := HCUT.out hnone w6 ev6 mv6 Lk hT7 HLM.out (by omega)
            have HCC : Sld (Calls Tryd.prog 97 #[.pointer (some ⟨p, 0, none⟩), .int .i64 L.length] w6 fun e w' => e = .returned (.tuple #[]) ∧ ∃ ev' mv', TbT w p ev mv ev' mv' L w') := ⟨hcc⟩
            have HEND : Sld (r = 0 ∧ er = 10 ∧ L' = L) := ⟨by
              rcases HRES.out with ⟨ids', h1, _⟩ | ⟨_, h2⟩
              · rw [hnone] at h1; cases h1
              · exact h2⟩
            subst hE
            clear hst hnone hT7 hcc g0 g1 g2 g3 g4 g5 hfull
            go_wp2_with fail
            refine HCC.out.mono ?_
            rintro e w7 ⟨rfl, hT7⟩
            have HT7 : Sld (∃ ev' mv', TbT w p ev mv ev' mv' L w7) := ⟨hT7⟩
            clear hT7
            go_wp2_with fail
            go_ret2
            exact ⟨by rw [HEND.out.1, HEND.out.2.1]; rfl, by rw [HEND.out.2.2]; exact HT7.out⟩
    · have hke : k = l.length := by omega
      subst hke
      have hrun := HMID.out.run
      rw [List.take_length] at hrun
      obtain ⟨hr1, her1, hL1⟩ : r = ids.getD (l.length - 1) 0 ∧ er = 0 ∧ L' = Lk := by
        rcases HRES.out with ⟨ids', h1, h2, h3⟩ | ⟨h1, _⟩
        · rw [hrun] at h1
          simp only [Option.some.injEq, Prod.mk.injEq] at h1
          obtain ⟨rfl, rfl⟩ := h1
          exact ⟨h2, h3, rfl⟩
        · rw [hrun] at h1; cases h1
      have hl0' := HL0.out
      have kc2 := HMID.out.row.cellT (adm_len HMID.out.len (by omega)) (i := l.length - 1) (by omega)
      rw [adm_ids HMID.out.len (by omega)] at kc2
      have HEND : Sld (r = ids.getD (l.length - 1) 0 ∧ er = 0 ∧ L' = Lk) := ⟨hr1, her1, hL1⟩
      have hGl : G < wr.heap.size := (rw_block HMID.out.row (b := G) rfl).2.1
      obtain ⟨N1, hN1⟩ : ∃ N1 : Nat, l.length = N1 + 1 := ⟨l.length - 1, by omega⟩
      have e1 : l.length - 1 = N1 := by omega
      rw [e1] at kc2 HEND
      have HN1 : Sld (l.length = N1 + 1) := ⟨hN1⟩
      rw [hN1] at hlI ⊢
      generalize ids.getD N1 0 = z at *
      clear hrun hr1 her1 hL1 e1
      go_wp2_with fail
      go_ret2
      exact ⟨by rw [HEND.out.1, HEND.out.2.1]; rfl, ev1, mv1, by rw [HEND.out.2.2]; exact HT1.out⟩

theorem tAdd_ok (w : World) (p : Nat) (ev mv : Value) (L l : List Nd) (fr : List Nat) (base : Nat) (vs : Value) (h : TbM w p ev mv L) (hT : SpanCells w) (ho : OwnN w base vs l) (hb : begL l = some fr) (hn6 : ∀ x ∈ l, N6 x.n ∧ x.name.size ≤ 281474976710656) (L' : List Nd) (ids : List Nat) (hr : addR (L, []) l = some (L', ids)) :
    Calls Tryd.prog 61 #[.pointer (some ⟨p, 0, none⟩), vs] w fun e w' => e = .returned (.tuple #[.int .i64 (ids.getD (l.length - 1) 0 : Nat), .int .i64 0]) ∧ ∃ ev' mv', TbT w p ev mv ev' mv' L' w' :=
  tAdd_walk w p ev mv L l fr base vs h hT ho hb hn6 _ 0 L' (.inl ⟨ids, hr, rfl, rfl⟩) (fun h0 => by rw [hr] at h0; cases h0)
set_option maxRecDepth 20000 in
set_option maxHeartbeats 4000000 in
theorem tAdd_bad (w : World) (p : Nat) (l : List Nd) (vs : Value) (hT : SpanCells w) (hN : Nodes w w.heap.size vs l) (hb : begL l = none) :
    Calls Tryd.prog 61 #[.pointer (some ⟨p, 0, none⟩), vs] w fun e w' => e = .returned (.tuple #[.int .i64 0, .int .i64 1]) ∧ Below w.heap.size w w' := by
  have hC : Sld (Calls Tryd.prog 8 #[vs] w fun e w' => e = .returned (.int .i64 1) ∧ Below w.heap.size w w') := ⟨check_none vs l w w.heap.size (Nat.le_refl _) hT hN hb⟩
  clear hN
  go_enter Tryd.func61, Tryd.ntmps61
  go_wp2_with fail
  refine hC.out.mono ?_
  rintro e w1 ⟨rfl, hb1⟩
  have HB1 : Sld (Below w.heap.size w w1) := ⟨hb1⟩
  clear hb1
  go_wp2_with fail
  go_ret2
  exact ⟨rfl, HB1.out⟩
end Go.Proofs.YtpacjofepiojdaaDoor
