/-
  PaCk, PaAw, EvLastW.
-/
import Derived.Shelf.Unicode.DecodeSlow
import Derived.Laws.RangeAny
import Derived.Shelf.Strconv.Itoa0
import Derived.Shelf.Unicode.DecodeAny
import Derived.Test.YtfdghbbanokopaaDoorProg
import Derived.WalkKit
import Derived.Deep.DeepFit
import Derived.Lib.OthersKept
import Derived.Lib.RuneCountTail
import Derived.Deep.AppendLies
import Derived.Deep.OwnRows
import Derived.Laws.AppendOwnNone
import Derived.Deep.QuietTactic
import Derived.BigQuiet
import Derived.Deep.RegionWith
import Derived.Laws.DeepStrings4
import Derived.RowKit
import Derived.Laws.Entries
import Derived.Below
import Derived.Lib.MapLaws
import Derived.Sort.Walk0
import Derived.Lib.ItoaNum
import Derived.Maps.OwnSet
import Derived.StringKeys
import Derived.Deep.Slices
import Derived.Laws.ResultCell
import Derived.Deep.RegionHeld3
import Derived.RangeFuncNested
import Derived.RangeFuncBound
import Derived.RangeFuncCalls
import Derived.RangeFuncLeaves
import Derived.RangeFuncBox
import Derived.Shelf.Abstract
import Derived.Shelf.RegionOpen
import Derived.OwnWalkIn
import Derived.TacticsInMore
import Derived.LoopNIn
import Derived.LoopIn
import Derived.Lib.Strings
import Derived.Test.YtfdghbbanokopaaDoorD01
import Derived.Test.YtfdghbbanokopaaDoorD02
import Derived.Test.YtfdghbbanokopaaDoorD03
import Derived.Test.YtfdghbbanokopaaDoorD04
import Derived.Test.YtfdghbbanokopaaDoorD05
import Derived.Test.YtfdghbbanokopaaDoorD06
import Derived.Test.YtfdghbbanokopaaDoorD07
import Derived.Test.YtfdghbbanokopaaDoorD08
import Derived.Test.YtfdghbbanokopaaDoorD09
import Derived.Test.YtfdghbbanokopaaDoorD10
import Derived.Test.YtfdghbbanokopaaDoorD11
import Derived.Test.YtfdghbbanokopaaDoorD12
import Derived.Test.YtfdghbbanokopaaDoorD13
import Derived.Test.YtfdghbbanokopaaDoorD14
import Derived.Test.YtfdghbbanokopaaDoorD15
set_option linter.unusedSimpArgs false
set_option linter.unusedVariables false
namespace Go.Proofs.YtfdghbbanokopaaDoor
open Go.RowKit Go.Lib

/-- Between two nodes of the copy. -/
structure PcMid (w : World) (l : List Nd) (v : Value) (k : Nat) (wr : World) : Prop where
  p : ∃ p, p.map (·.1) = (l.take k).map fillN ++ l.drop k ∧ OwnP wr w.heap.size v p
  below : Below w.heap.size w wr
theorem PcMid.at_ {w : World} {l : List Nd} {v : Value} {k : Nat} {wr : World} (h : PcMid w l v k wr) (hk : k < l.length) : ∃ g cap, v = .slice (some ⟨g, 0, none⟩) l.length cap ∧ w.heap.size ≤ g ∧ g < wr.heap.size ∧ l.length ≤ cap ∧ cap ≤ maxLen ∧ wr.cell? ⟨g, k * 4, none⟩ = some (.int .i64 (l.getD k nd0).op) ∧ wr.frozen? ⟨g, k * 4, none⟩ = false := by
  obtain ⟨⟨p, hp, hc⟩, hb⟩ := h
  have hpl : p.length = l.length := by have := congrArg List.length hp; simp at this; omega
  rcases hc.row.2 with ⟨rfl, h0⟩ | ⟨g, cap, cur, rfl, hg0, hg, h1, h2, h3, h4⟩
  · omega
  · refine ⟨g, cap, by rw [hpl], hg0, lt_of_block hg, by omega, h2, ?_, frozen_of_heap hg _⟩
    have hp2 : p[k]? = some (p[k].1, p[k].2) := by simp [hpl, hk]
    have := (ndCells_at p k _ _ hp2).1
    have hx : ((l.take k).map fillN ++ l.drop k)[k]? = some l[k] := by
      rw [List.getElem?_append_right (by simp; omega)]
      have : k - ((l.take k).map fillN).length = 0 := by simp; omega
      rw [this]; simp [hk]
    have hkp : k < p.length := by omega
    have e : p[k].1 = l.getD k nd0 := by
      have h5 : (p.map (·.1))[k]? = some l[k] := by rw [hp]; exact hx
      simp [hkp] at h5
      simp [hk, h5]
    rw [cell_of_heap hg, ← Array.getElem?_toList, ← e, ← this, ← h4, List.getElem?_take, if_pos (by omega)]
theorem PcMid.skip {w : World} {l : List Nd} {v : Value} {k : Nat} {wr : World} (h : PcMid w l v k wr) (hk : k < l.length) (hop : (l.getD k nd0).op ≠ 18) : PcMid w l v (k + 1) wr := by
  obtain ⟨⟨p, hp, hc⟩, hb⟩ := h
  exact ⟨⟨p, by rw [fill_step hk hop]; exact hp, hc⟩, hb⟩
theorem PcMid.fill {w : World} {l : List Nd} {g cap k : Nat} {wr : World} (h : PcMid w l (.slice (some ⟨g, 0, none⟩) l.length cap) k wr) (hk : k < l.length) (hop : (l.getD k nd0).op = 18) : PcMid w l (.slice (some ⟨g, 0, none⟩) l.length cap) (k + 1) (wr.setCell ⟨g, k * 4, none⟩ (.int .i64 2)) := by
  obtain ⟨g', cap', e1, hg0, _⟩ := h.at_ hk
  cases e1
  obtain ⟨⟨p, hp, hc⟩, hb⟩ := h
  have hpl : p.length = l.length := by have := congrArg List.length hp; simp at this; omega
  have e : l.getD k nd0 = l[k] := by simp [hk]
  have hx : ((l.take k).map fillN ++ l.drop k)[k]? = some l[k] := by
    rw [List.getElem?_append_right (by simp; omega)]
    have : k - ((l.take k).map fillN).length = 0 := by simp; omega
    rw [this]; simp [hk]
  have hpk : p[k]? = some (l[k], (p.getD k (nd0, .slice none 0 0)).2) := by
    have hkp : k < p.length := by omega
    have : (p.map (·.1))[k]? = some l[k] := by rw [hp]; exact hx
    simp [hkp] at this
    simp [hkp, ← this]
  have hfl : fillN l[k] = { l[k] with op := 2 } := by rw [e] at hop; simp [fillN, hop]
  have hrow : wr.ownsRow w.heap.size 50 4 (.slice (some ⟨g, 0, none⟩) l.length cap) l.length (ndCells p) := by have := hc.row; rwa [hpl] at this
  refine ⟨⟨p.set k ({ l[k] with op := 2 }, (p.getD k (nd0, .slice none 0 0)).2), ?_, ?_, ?_⟩, hb.setCell (p := ⟨g, k * 4, none⟩) hg0 _⟩
  · rw [List.map_set, hp, ← hfl]
    rw [List.take_succ_eq_append_getElem hk, List.map_append, List.set_append_right _ _ (by simp; omega)]
    have : k - ((l.take k).map fillN).length = 0 := by simp; omega
    rw [this, List.drop_eq_getElem_cons hk, List.set_cons_zero, List.append_assoc]
    rfl
  · rw [ndCells_op p k _ _ 2 hpk, List.length_set, hpl]
    exact own_put hrow (by rw [ndCells_length]; omega)
  · intro q hq
    have hin : ∀ q ∈ p, OwnI (wr.setCell ⟨g, k * 4, none⟩ (.int .i64 2)) w.heap.size q.2 q.1.kids := fun q hq => own_set' (hc.kids q hq) (fun e => by
      rcases ownBlock_ne (hc.kids q hq) hc.row (by decide) with h | h
      · rw [h] at e; cases e
      · exact h (by rw [e]; rfl))
    rcases List.mem_or_eq_of_mem_set hq with hq | rfl
    · exact hin q hq
    · exact hin (l[k], _) (List.mem_of_getElem? hpk)


end Go.Proofs.YtfdghbbanokopaaDoor

set_option linter.unusedSimpArgs false
set_option linter.unusedVariables false
namespace Go.Proofs.YtfdghbbanokopaaDoor
open Go.RowKit Go.Lib Go.Maps Go.Deep

def hole1 : Nd := ⟨18, 0, ⟨#[97]⟩, []⟩
theorem hole1_pat : patB [hole1] = true := by decide +kernel
theorem hole1_hls : hlsL [hole1] = [⟨#[97]⟩] := by decide +kernel
theorem Rd_hole1 (w : World) : Rd (w.alloc (.cells #[.int .i64 18, .int .i64 0, .string ⟨#[97]⟩, .slice none 0 0] 50)) (some ⟨w.heap.size, 0, none⟩) 1 [hole1] := by
  refine ⟨_, _, rfl, by simp, by unfold maxLen; omega, .inr ⟨_, _, rfl, by simp, fun i hi => ?_⟩⟩
  have : i = 0 := by simp at hi; omega
  subst this
  refine ⟨.slice none 0 0, ?_, ?_, ?_, ?_, ⟨none, 0, rfl, by simp [hole1], by simp [hole1, maxLen], .inl rfl⟩⟩ <;> simp [hole1, World.cell?_alloc_at]

set_option maxRecDepth 20000 in
set_option maxHeartbeats 2000000 in
theorem awake14_any (w : World) (hT : SpanCells w) :
    Calls Tryd.prog 27 #[] w fun e W' => e = .returned (.bool true) ∧ Below w.heap.size w W' := by
  have hb1 : Below w.heap.size w (w.alloc (.cells #[.int .i64 18, .int .i64 0, .string ⟨#[97]⟩, .slice none 0 0] 50)) := (Below.refl _ _).alloc (Nat.le_refl _) _
  have cE : Hid (Calls Tryd.prog 34 #[.slice (some ⟨w.heap.size, 0, none⟩) 1 1] (w.alloc (.cells #[.int .i64 18, .int .i64 0, .string ⟨#[97]⟩, .slice none 0 0] 50)) fun e w' => ∃ g nc, e = .returned (.tuple #[.slice (some ⟨g, 0, none⟩) 1 nc, .int .i64 0]) ∧ w'.cell? ⟨g, 0, none⟩ = some (.string ⟨#[97]⟩) ∧ Below w.heap.size w w') := by
    have := holes14_ok (l := [hole1]) (hT.below hb1) (Rd_hole1 w) (by simp [hole1]; decide) hole1_pat
    refine this.mono ?_
    rintro e w' ⟨na, nc, rfl, ho, hb⟩
    have ho := row_cell ho (i := 0) (by rw [hole1_hls]; simp) (d := .string ⟨#[97]⟩)
    obtain ⟨g, cap, he, _, _, _, hc⟩ := ho
    cases he
    rw [hole1_hls] at hc
    exact ⟨g, nc, rfl, hc, hb1.trans (hb.mono (by simp))⟩
  clear hb1
  go_enter Tryd.func27, Tryd.ntmps27
  go_wp2_with fail
  refine cE.out.mono ?_
  rintro e w2 ⟨g, nc, rfl, hc, hb2⟩
  have HB2 : Hid (_) := hb2
  clear hb2
  go_wp2_with fail
  go_ret
  exact ⟨rfl, HB2.out⟩

end Go.Proofs.YtfdghbbanokopaaDoor

set_option linter.unusedSimpArgs false
set_option linter.unusedVariables false
namespace Go.Proofs.YtfdghbbanokopaaDoor
open Go.RowKit Go.Shelf
attribute [local go_sem] Oper.semAt_some

/-- What has come from the back when k are left. -/
def fromBack (l : List Bd) (k : Nat) : List (Nat × Bd) := (List.range (l.length - k)).map fun j => (l.length - 1 - j, l.getD (l.length - 1 - j) bd0)
theorem fromBack_all (l : List Bd) : fromBack l l.length = [] := by simp [fromBack]
theorem fromBack_succ (l : List Bd) (k : Nat) (hk : k + 1 ≤ l.length) : fromBack l k = fromBack l (k + 1) ++ [(k, l.getD k bd0)] := by
  unfold fromBack
  have e : l.length - k = (l.length - (k + 1)) + 1 := by omega
  rw [e, List.range_succ, List.map_append]
  have e2 : l.length - 1 - (l.length - (k + 1)) = k := by omega
  simp [e2]
theorem fromBack_len (l : List Bd) (k : Nat) : (fromBack l k).length = l.length - k := by simp [fromBack]
abbrev bdV (x : Bd) : Value := .agg #[.string x.1, .int .i64 x.2]

set_option maxRecDepth 100000 in
set_option maxHeartbeats 2000000 in
theorem back1_in (F : Fence) (n : Nat) (h8 : F.fn 142) (hro : F.round = none) (hn : 1 ≤ n) (l Bs n₀ b off cap : Nat) (zs : List Bd) (hreach : zs.length * 24 ≤ 140737488355328) (hb : b < n₀) (J Jx : List (Nat × Bd) → World → Prop)
    (hY : ∀ pre x W, J pre W → pre.length < zs.length → YieldAt F (n - 1) Tryd.prog l #[.int .i64 (x.1 : Int), bdV x.2] W fun e W' =>
      (e = .returned (.bool true) ∧ J (pre ++ [x]) W' ∧ Below n₀ W W') ∨ (e = .returned (.bool false) ∧ Jx (pre ++ [x]) W'))
    (W : World) (hBs : W.cell? ⟨Bs, 0, none⟩ = some (.slice (some ⟨b, off, none⟩) zs.length cap)) (hBn : Bs < n₀) (hc : ∀ j, j < zs.length → BdAt W b (off + j * 2) (zs.getD j bd0)) (h0 : J [] W) :
    CallsIn F n Tryd.prog 142 #[.func (.yield l) #[] #[], .pointer (some ⟨Bs, 0, none⟩)] W fun e W' => (∃ v, e = .returned v) ∧
      ((∃ ys, ys = fromBack zs 0 ∧ J ys W') ∨ (∃ pre, (∃ k, k < zs.length ∧ pre = fromBack zs k) ∧ Jx pre W')) := by
  refine callsIn_of_wp Tryd.func142 rfl h8 ?_ hro
  simp only [Tryd.ntmps142, List.size_toArray, List.length_cons, List.length_nil, Nat.reduceAdd, Nat.reduceSub, Array.replicate_succ, Array.replicate_zero, List.push_toArray, List.append_toArray, List.nil_append, List.cons_append]
  gi_wp2
  gi_loopw [3] (fun i wr => ∃ k : Nat, k ≤ zs.length ∧ i = .int .i64 ((k : Int) - 1) ∧ J (fromBack zs k) wr ∧ Below n₀ W wr)
    (fun i _ => (intOf i + 1).toNat)
  case atStart => exact ⟨zs.length, Nat.le_refl _, by simp, by rw [fromBack_all]; exact h0, Below.refl _ _⟩
  case round =>
    obtain ⟨k, hk, rfl, hJs, hnx⟩ := hrel
    have hbs : wr.cell? ⟨Bs, 0, none⟩ = some (.slice (some ⟨b, off, none⟩) zs.length cap) := (hnx.cell (p := ⟨Bs, 0, none⟩) hBn).trans hBs
    cases k with
    | zero =>
      gi_wp2
      go_end0
      exact ⟨⟨_, rfl⟩, .inl ⟨_, rfl, hJs⟩⟩
    | succ k =>
      have hcx := hc k (by omega)
      have c0 : wr.cell? ⟨b, off + k * 2, none⟩ = some (.string (zs.getD k bd0).1) := (hnx.cell (p := ⟨b, off + k * 2, none⟩) hb).trans hcx.c0
      have c1 : wr.cell? ⟨b, off + k * 2 + 1, none⟩ = some (.int .i64 (zs.getD k bd0).2) := (hnx.cell (p := ⟨b, off + k * 2 + 1, none⟩) hb).trans hcx.c1
      obtain ⟨x, hx⟩ : ∃ x, zs.getD k bd0 = x := ⟨_, rfl⟩
      rw [hx] at c0 c1
      obtain ⟨fn, tmps, assign, body, hy, hR⟩ := hY _ (k, x) wr hJs (by rw [fromBack_len]; omega)
      dsimp only at hy
      have e1 : (((k + 1 : Nat) : Int) - 1) = (k : Int) := by omega
      rw [e1]
      have hkl : (k : Int) < (zs.length : Int) := by omega
      have hk0 : (0 : Int) ≤ (k : Int) := by omega
      gi_wp2
      refine hR.mono ?_
      rintro e W3 (⟨rfl, hJ3, hk3⟩ | ⟨rfl, hJx3⟩)
      · gi_wp2
        go_roundw
        case rel => exact ⟨k, by omega, rfl, by rw [fromBack_succ zs k hk, hx]; exact hJ3, hnx.trans hk3⟩
        case measure => simp [intOf]
      · gi_wp2
        refine bodyPost_ret (results_none rfl _ _ _) rfl ?_
        exact ⟨⟨_, rfl⟩, .inr ⟨_, ⟨k, by omega, by rw [fromBack_succ zs k hk, hx]⟩, hJx3⟩⟩

set_option maxRecDepth 100000 in
set_option maxHeartbeats 1000000 in
theorem back1_nil (F : Fence) (n : Nat) (h8 : F.fn 142) (hro : F.round = none) (l Bs : Nat) (ao : Option Addr) (cap : Nat) (J : List (Nat × Bd) → World → Prop) (W : World) (hBs : W.cell? ⟨Bs, 0, none⟩ = some (.slice ao 0 cap)) (h0 : J [] W) :
    CallsIn F n Tryd.prog 142 #[.func (.yield l) #[] #[], .pointer (some ⟨Bs, 0, none⟩)] W fun e W' => (∃ v, e = .returned v) ∧ J [] W' := by
  refine callsIn_of_wp Tryd.func142 rfl h8 ?_ hro
  simp only [Tryd.ntmps142, List.size_toArray, List.length_cons, List.length_nil, Nat.reduceAdd, Nat.reduceSub, Array.replicate_succ, Array.replicate_zero, List.push_toArray, List.append_toArray, List.nil_append, List.cons_append]
  gi_wp2
  gi_loopw [3] (fun i wr => i = .int .i64 (-1) ∧ J [] wr) (fun _ _ => 0)
  case atStart => exact ⟨rfl, h0⟩
  case round =>
    obtain ⟨rfl, hJs⟩ := hrel
    gi_wp2
    go_end0
    exact ⟨⟨_, rfl⟩, hJs⟩

set_option maxHeartbeats 1000000 in
theorem back_in (F : Fence) (n : Nat) (h6 : F.fn 135) (hro : F.round = none) (a : Option Addr) (len cap : Nat) (w : World) :
    CallsIn F n Tryd.prog 135 #[.slice a len cap] w fun e w' => e = .returned (.func (.func 142) #[] #[.pointer (some ⟨w.heap.size, 0, none⟩)]) ∧ w' = w.alloc (.cells #[.slice a len cap] 38) := by
  refine callsIn_of_wp Tryd.func135 rfl h6 ?_ hro
  simp only [Tryd.ntmps135, List.size_toArray, List.length_cons, List.length_nil, Nat.reduceAdd, Nat.reduceSub, Array.replicate_succ, Array.replicate_zero, List.push_toArray, List.append_toArray, List.nil_append, List.cons_append]
  gi_wp2
  go_ret
  exact ⟨rfl, rfl⟩

theorem back_stops (F : Fence) (n : Nat) (h8 : F.fn 142) (hro : F.round = none) (hn : 1 ≤ n) (Bs n₀ : Nat) (ao : Option Addr) (cap : Nat) (zs : List Bd) (hreach : zs.length * 24 ≤ 140737488355328) (w : World) (hBs : Bs < n₀) (hn₀ : n₀ ≤ w.heap.size)
    (hc : w.cell? ⟨Bs, 0, none⟩ = some (.slice ao zs.length cap)) (hI : zs = [] ∨ ∃ b o, ao = some ⟨b, o, none⟩ ∧ b < n₀ ∧ ∀ i, i < zs.length → BdAt w b (o + i * 2) (zs.getD i bd0)) :
    SeqStopsK F n Tryd.prog 142 #[.pointer (some ⟨Bs, 0, none⟩)] (fun x : Nat × Bd => #[Value.int .i64 (x.1 : Int), bdV x.2]) (Below n₀) (fun ys => ys = fromBack zs 0)
      (fun pre => ∃ k, k < zs.length ∧ pre = fromBack zs k) zs.length w := fun l J Jx W hW _ _ hY h0 => by
  have hc' := (hW.cell (p := ⟨Bs, 0, none⟩) (by show Bs < _; omega)).trans hc
  rcases hI with rfl | ⟨b, off, rfl, hb, hcs⟩
  · exact (back1_nil F n h8 hro l Bs ao cap J W hc' h0).mono fun e W' ⟨he, hj⟩ => ⟨he, .inl ⟨_, rfl, hj⟩⟩
  · exact back1_in F n h8 hro hn l Bs n₀ b off cap zs hreach hb J Jx hY W hc' hBs (fun j hj => ⟨(hW.cell (p := ⟨b, off + j * 2, none⟩) (by show b < _; omega)).trans (hcs j hj).c0, (hW.cell (p := ⟨b, off + j * 2 + 1, none⟩) (by show b < _; omega)).trans (hcs j hj).c1⟩) h0

theorem lastN_none (l : List Bd) (nm : ByteArray) : ∀ k : Nat, (∀ j, j < k → (l.getD j bd0).1 ≠ nm) → lastN l nm k = -1
  | 0, _ => rfl
  | k + 1, h => by unfold lastN; rw [if_neg (h k (by omega))]; exact lastN_none l nm k (fun j hj => h j (by omega))
theorem lastN_at (l : List Bd) (nm : ByteArray) (i : Nat) (hi : (l.getD i bd0).1 = nm) : ∀ k : Nat, i < k → (∀ j, i < j → j < k → (l.getD j bd0).1 ≠ nm) → lastN l nm k = i
  | 0, h, _ => by omega
  | k + 1, h, hj => by
    unfold lastN
    by_cases e : i = k
    · subst e; rw [if_pos hi]
    · rw [if_neg (hj k (by omega) (by omega))]; exact lastN_at l nm i hi k (by omega) (fun j h1 h2 => hj j h1 (by omega))
theorem mem_fromBack (l : List Bd) (k j : Nat) (h1 : k ≤ j) (h2 : j < l.length) : (j, l.getD j bd0) ∈ fromBack l k := by
  unfold fromBack
  rw [List.mem_map]
  refine ⟨l.length - 1 - j, by rw [List.mem_range]; omega, ?_⟩
  have : l.length - 1 - (l.length - 1 - j) = j := by omega
  rw [this]
theorem cellA {W : World} {a : Addr} {v : Value} (o : Obj) (h : W.cell? a = some v) : (W.alloc o).cell? a = some v := cell_kept h (World.grownBy_alloc W o none) (fun _ e => by cases e)
theorem frozenA {W : World} {a : Addr} {v : Value} (o : Obj) (h : W.cell? a = some v) (hf : W.frozen? a = false) : (W.alloc o).frozen? a = false := (frozen_kept h (World.grownBy_alloc W o none) (fun _ e => by cases e)).trans hf
theorem eq_toList (a b : ByteArray) : (a.toList == b.toList) = decide (a = b) := by
  rw [Go.Lib.toList_data, Go.Lib.toList_data]
  by_cases h : a = b
  · subst h; simp
  · rw [decide_eq_false h, beq_eq_false_iff_ne]
    exact fun e => h (by cases a; cases b; simpa using e)

set_option maxRecDepth 100000 in
set_option maxHeartbeats 2000000 in
theorem last_in (F : Fence) (n : Nat) (h4 : F.fn 119) (h6 : F.fn 135) (h8 : F.fn 142) (hro : F.round = none) (hn : 3 ≤ n) (ao : Option Addr) (cap : Nat) (zs : List Bd) (nm : ByteArray) (hreach : zs.length * 24 ≤ 140737488355328) (w : World) (hI : Bds w ao cap zs) :
    CallsIn F n Tryd.prog 119 #[.slice ao zs.length cap, .string nm] w fun e W' => e = .returned (.int .i64 (lastB zs nm)) ∧ Below w.heap.size w W' := by
  have h1 : 1 ≤ n := by omega
  obtain ⟨R, hR⟩ : ∃ R, lastB zs nm = R := ⟨_, rfl⟩
  have HR : Hid (lastN zs nm zs.length = R) := hR
  rw [hR]
  clear hR
  refine callsIn_of_wp_marks Tryd.func119 rfl h4 ?_ hro
  simp only [Tryd.ntmps119, List.size_toArray, List.length_cons, List.length_nil, Nat.reduceAdd, Nat.reduceSub, Array.replicate_succ, Array.replicate_zero, List.push_toArray, List.append_toArray, List.nil_append, List.cons_append]
  gi_wp2_with (gi_at_call 135; refine (back_in F (n - 1) h6 hro _ _ _ _).mono ?_; rintro e w' ⟨rfl, rfl⟩)
  have c0 := Boxed.new w 9 (.string nm)
  have c1 := Boxed.new (w.alloc (.cells #[.string nm] 9)) 3 (.int .i64 0)
  have c2 := Boxed.new ((w.alloc (.cells #[.string nm] 9)).alloc (.cells #[.int .i64 0] 3)) 38 (.slice ao zs.length cap)
  simp only [World.size_alloc] at c1 c2
  have hB0 : Below w.heap.size w (((w.alloc (.cells #[.string nm] 9)).alloc (.cells #[.int .i64 0] 3)).alloc (.cells #[.slice ao zs.length cap] 38)) := (((Below.refl _ w).alloc (Nat.le_refl _) _).alloc (by simp) _).alloc (by simp; omega) _
  have hsz : (((w.alloc (.cells #[.string nm] 9)).alloc (.cells #[.int .i64 0] 3)).alloc (.cells #[.slice ao zs.length cap] 38)).heap.size = w.heap.size + 3 := by simp
  have d0 := cellA (.cells #[.slice ao zs.length cap] 38) (cellA (.cells #[.int .i64 0] 3) c0.cell)
  have d1 := cellA (.cells #[.slice ao zs.length cap] 38) c1.cell
  have f1 := frozenA (.cells #[.slice ao zs.length cap] 38) c1.cell c1.frozen
  obtain ⟨W0, hW0⟩ : ∃ W0, ((w.alloc (.cells #[.string nm] 9)).alloc (.cells #[.int .i64 0] 3)).alloc (.cells #[.slice ao zs.length cap] 38) = W0 := ⟨_, rfl⟩
  rw [hW0] at d0 d1 f1 c2 hB0 hsz ⊢
  clear hW0 c0 c1
  have hI0 := hI.below hB0
  refine wpIn_rangeFunc_ownH hro h1 (gf := 142) (lb := #[.pointer (some ⟨w.heap.size + 1 + 1, 0, none⟩)]) rfl h8 (enters_of Tryd.func142 (by kernel_rfl) rfl)
    (back_stops F (n - 1) h8 hro (by omega) (w.heap.size + 1 + 1) (w.heap.size + 3) ao cap zs hreach W0 (by omega) (by omega) c2.cell (hI0.2.imp id fun ⟨b, o, e, hb, hc⟩ => ⟨b, o, e, by omega, hc⟩)) belowK_t (belowK_b (by omega)) (Below.refl _ _) (fun _ => rfl)
    (fun pre W => ((∀ p ∈ pre, p.2.1 ≠ nm) ∧ W.cell? ⟨w.heap.size, 0, none⟩ = some (.string nm) ∧ W.cell? ⟨w.heap.size + 1, 0, none⟩ = some (.int .i64 0) ∧ W.frozen? ⟨w.heap.size + 1, 0, none⟩ = false) ∧ Below w.heap.size w W ∧ w.heap.size + 3 ≤ W.heap.size)
    (fun c pre W => (c = .ret ∧ ∃ ini last, pre = ini ++ [last] ∧ (∀ p ∈ ini, p.2.1 ≠ nm) ∧ last.2.1 = nm ∧ W.cell? ⟨w.heap.size + 1, 0, none⟩ = some (.int .i64 (last.1 : Int))) ∧ Below w.heap.size w W)
    (OwnFrom.and (Own.from (fun s A B row hs hg hr => ⟨hs.1, cell_kept hs.2.1 hg hr, cell_kept hs.2.2.1 hg hr, (frozen_kept hs.2.2.1 hg hr).trans hs.2.2.2⟩) _) (OwnFrom.and (ownFrom_below (Nat.le_refl _) (by omega)) (fun _ _ _ _ hs hg _ => Nat.le_trans hs hg.size)))
    (fun c => OwnFrom.and (Own.from (fun s A B row hs hg hr => by obtain ⟨hc, ini, last, e1, e2, e3, e4⟩ := hs; exact ⟨hc, ini, last, e1, e2, e3, cell_kept e4 hg hr⟩) _) (ownFrom_below (Nat.le_refl _) (by omega)))
    ⟨⟨by simp, d0, d1, f1⟩, hB0, by omega⟩
    (fun x a' W => ∃ Bx, w.heap.size + 2 < Bx ∧ W.cell? ⟨Bx, 0, none⟩ = some (.string x.2.1) ∧ a' = { tmps := #[.slice ao zs.length cap, .string nm, undef, .pointer (some ⟨w.heap.size, 0, none⟩), .pointer (some ⟨w.heap.size + 1, 0, none⟩), .int .i64 (x.1 : Int), .pointer (some ⟨Bx, 0, none⟩), .slice ao zs.length cap, .func (.func 142) #[] #[.pointer (some ⟨w.heap.size + 1 + 1, 0, none⟩)], .int .i64 (x.1 : Int), bdV x.2, undef, undef, undef, undef, undef], defers := [] })
    (fun x a' _ X Y row hs hg hr => by obtain ⟨Bx, g1, g2, g3⟩ := hs; exact ⟨Bx, g1, cell_kept g2 hg (fun r e => (hr r e).2), g3⟩)
    ?assign ?body ?done ?stop
  case assign =>
    rintro l pre x W K ⟨⟨hp, hcn, hcr, hfr⟩, hB1, hs1⟩ hK
    gi_wp2
    exact hK _ _ ((KeepsOthers.alloc _ _).from _) ((Below.refl _ W).alloc (by omega) _) ⟨⟨hp, cellA _ hcn, cellA _ hcr, frozenA _ hcr hfr⟩, hB1.alloc hB1.size _, by simp; omega⟩ ⟨W.heap.size, by omega, by simp, rfl⟩
  case body =>
    rintro l pre x a' W hl ⟨r, hr⟩ ⟨⟨hp, hcn, hcr, hfr⟩, hB1, hs1⟩ ⟨Bx, hBx, cX, rfl⟩ hlt
    have hq := eq_toList x.2.1 nm
    by_cases he : x.2.1 = nm
    · rw [decide_eq_true he] at hq
      gi_wp2
      exact ⟨(KeepsOthers.setCell _ _ _).from _, ⟨rfl, pre, x, rfl, hp, he, World.cell?_setCell_same' _ _ _ (by rw [hcr]; rfl)⟩, hB1.setCell (p := ⟨w.heap.size + 1, 0, none⟩) (by simp) _⟩
    · rw [decide_eq_false he] at hq
      gi_wp2
      exact ⟨KeepsFrom.refl _ _, Below.refl _ _, ⟨fun p hp' => (List.mem_append.1 hp').elim (hp p) (fun e => by simp at e; subst e; exact he), hcn, hcr, hfr⟩, hB1, hs1⟩
  case done =>
    rintro D ys W hD rfl ⟨⟨hne, hcn, hcr, hfr⟩, hB, hs1⟩ hK
    have e : R = -1 := by rw [← HR.out]; exact lastN_none zs nm _ (fun j hj => hne (j, zs.getD j bd0) (mem_fromBack zs 0 j (Nat.zero_le _) hj))
    subst e
    gi_wp2
    have hK' := (KeepsOthers.setCell W ⟨w.heap.size + 1, 0, none⟩ (.int .i64 (-1))).same D _ hK rfl
    refine ⟨by simp, .inl ⟨_, _, rfl, run_takeDeferred hK', ?_⟩⟩
    have hc5 := cell_kept (World.cell?_setCell_same' W ⟨w.heap.size + 1, 0, none⟩ (.int .i64 (-1)) (by rw [hcr]; rfl)) (grownBy_putObj' _ D (.deferred none)) (fun r e => by cases e; exact ⟨_, hK', rfl⟩)
    refine ⟨.int .i64 (-1), ?_, rfl, (hB.setCell (p := ⟨w.heap.size + 1, 0, none⟩) (by simp) _).trans (belowK_b (w := w) (Nat.le_refl _) _ D _ _ (by omega) hK' rfl rfl)⟩
    simp [results, Tryd.f119, go_sem, hc5]
  case stop =>
    rintro D c pre W hD ⟨k, hk, rfl⟩ ⟨⟨rfl, ini, last, e1, e2, e3, hcr⟩, hB⟩ hK
    gi_wp2
    refine ⟨by simp, .inl ⟨_, _, rfl, run_takeDeferred hK, ?_⟩⟩
    have hc5 := cell_kept hcr (grownBy_putObj' _ D (.deferred none)) (fun r e => by cases e; exact ⟨_, hK, rfl⟩)
    rw [fromBack_succ zs k hk] at e1
    obtain ⟨rfl, e5⟩ := List.append_inj' e1 rfl
    obtain rfl : (k, zs.getD k bd0) = last := by simpa using e5
    have e : R = (k : Int) := by rw [← HR.out]; exact lastN_at zs nm k e3 _ hk (fun j h1 h2 => e2 (j, zs.getD j bd0) (mem_fromBack zs (k + 1) j h1 h2))
    subst e
    refine ⟨.int .i64 (k : Int), ?_, rfl, hB.trans (belowK_b (w := w) (Nat.le_refl _) W D _ _ (by omega) hK rfl rfl)⟩
    simp [results, Tryd.f119, go_sem, hc5]
theorem last_any (ao : Option Addr) (cap : Nat) (zs : List Bd) (nm : ByteArray) (hreach : zs.length * 24 ≤ 140737488355328) (w : World) (hI : Bds w ao cap zs) :
    Calls Tryd.prog 119 #[.slice ao zs.length cap, .string nm] w fun e W' => e = .returned (.int .i64 (lastB zs nm)) ∧ Below w.heap.size w W' :=
  (callsIn_wide (n := 3)).1 (last_in Fence.wide 3 trivial trivial trivial rfl (Nat.le_refl _) ao cap zs nm hreach w hI)
end Go.Proofs.YtfdghbbanokopaaDoor
