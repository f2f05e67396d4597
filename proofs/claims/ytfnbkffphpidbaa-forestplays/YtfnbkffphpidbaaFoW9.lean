/-
  Path, walked: a range over slices.Backward.
-/
import Derived.Test.YtfnbkffphpidbaaFoW8
import Derived.RangeFuncNested
import Derived.RangeFuncBound
import Derived.RangeFuncCalls
import Derived.RangeFuncLeaves
import Derived.RangeFuncBox
import Derived.Shelf.Abstract
import Derived.Shelf.RegionOpen
import Derived.OwnWalkIn
import Derived.TacticsInMore
import Derived.LoopNIn
import Derived.LoopIn
set_option linter.unusedSimpArgs false
set_option linter.unusedVariables false
namespace Go.Proofs.Ytfnbkffphpidbaa
open Go.RowKit Go.Shelf
attribute [local go_sem] Oper.semAt_some

abbrev EgI := {g : Eg // IfV g.w}
def egi0 : EgI := ⟨eg0, IfV.nil⟩
/-- What has come from the back when k are left. -/
def fbE (l : List EgI) (k : Nat) : List (Nat × EgI) := (List.range (l.length - k)).map fun j => (l.length - 1 - j, l.getD (l.length - 1 - j) egi0)
theorem fbE_all (l : List EgI) : fbE l l.length = [] := by simp [fbE]
theorem fbE_succ (l : List EgI) (k : Nat) (hk : k + 1 ≤ l.length) : fbE l k = fbE l (k + 1) ++ [(k, l.getD k egi0)] := by
  unfold fbE
  have e : l.length - k = (l.length - (k + 1)) + 1 := by omega
  rw [e, List.range_succ, List.map_append]
  have e2 : l.length - 1 - (l.length - (k + 1)) = k := by omega
  simp [e2]
theorem fbE_len (l : List EgI) (k : Nat) : (fbE l k).length = l.length - k := by simp [fbE]
theorem fbE_rev (l : List EgI) : (fbE l 0).map (fun x => x.2) = l.reverse := by
  apply List.ext_getElem?
  intro i
  unfold fbE
  rw [List.map_map, List.getElem?_map]
  by_cases h : i < l.length
  · rw [List.getElem?_range (by omega), List.getElem?_reverse h]
    simp only [Option.map_some, Function.comp]
    rw [List.getD_eq_getElem?_getD, List.getElem?_eq_getElem (by omega)]
    rfl
  · rw [List.getElem?_eq_none (l := l.reverse) (by simp; omega), List.getElem?_eq_none (by simp; omega)]
    rfl
/-- The cells of a step at b, o. -/
structure EdAt (w : World) (b o : Nat) (g : Eg) : Prop where
  c0 : w.cell? ⟨b, o, none⟩ = some (.int .i64 g.f)
  c1 : w.cell? ⟨b, o + 1, none⟩ = some (.int .i64 g.t)
  c2 : w.cell? ⟨b, o + 2, none⟩ = some g.w
  c3 : w.cell? ⟨b, o + 3, none⟩ = some (.bool g.b)
theorem OwnE.at_ {w : World} {base g cap : Nat} {l : List Eg} (h : OwnE w base (.slice (some ⟨g, 0, none⟩) l.length cap) l) {x : Nat} (hx : x < l.length) : EdAt w g (x * 4) (l.getD x eg0) := by
  have key : ∀ k, k < 4 → w.cell? ⟨g, x * 4 + k, none⟩ = (egC (l.getD x eg0))[k]? := fun k hk => by
    obtain ⟨u, h1, h2⟩ := rw_cell h (i := x * 4 + k) (by omega)
    rw [h1, ← h2, egCells_at l x k hx hk]
  exact ⟨key 0 (by omega), key 1 (by omega), key 2 (by omega), key 3 (by omega)⟩

/-- Both blocks are as they were. -/
def KpE (Bs b : Nat) (W W' : World) : Prop := (∀ o, W.heap[Bs]? = some o → W'.heap[Bs]? = some o) ∧ ∀ o, W.heap[b]? = some o → W'.heap[b]? = some o
theorem KpE.refl (Bs b : Nat) (W : World) : KpE Bs b W W := ⟨fun _ h => h, fun _ h => h⟩
theorem KpE.trans {Bs b : Nat} {X Y Z : World} (h : KpE Bs b X Y) (k : KpE Bs b Y Z) : KpE Bs b X Z := ⟨fun o ho => k.1 o (h.1 o ho), fun o ho => k.2 o (h.2 o ho)⟩
theorem KpE.below {Bs b : Nat} {W W' : World} (hb : Below W.heap.size W W') : KpE Bs b W W' := ⟨fun o ho => (hb.block Bs (lt_of_block ho)).trans ho, fun o ho => (hb.block b (lt_of_block ho)).trans ho⟩
theorem KpE.put {Bs b l : Nat} {W : World} {o' : Obj} (h1 : Bs ≠ l) (h2 : b ≠ l) : KpE Bs b W (W.putObj l o') := ⟨fun o ho => (World.putObj_heap_other h1).trans ho, fun o ho => (World.putObj_heap_other h2).trans ho⟩
theorem blk_of_cell {W : World} {a : Addr} {v : Value} (h : W.cell? a = some v) : ∃ o, W.heap[a.block]? = some o := let ⟨o, h1, _⟩ := cells_of_cell h; ⟨o, h1⟩
theorem KpE.cs {Bs b i : Nat} {W W' : World} (h : KpE Bs b W W') {v : Value} (hc : W.cell? ⟨Bs, i, none⟩ = some v) : W'.cell? ⟨Bs, i, none⟩ = some v := by
  obtain ⟨o, ho⟩ := blk_of_cell hc
  exact (World.cell?_of_block (a := ⟨Bs, i, none⟩) ((h.1 o ho).trans ho.symm)).trans hc
theorem KpE.cb {Bs b i : Nat} {W W' : World} (h : KpE Bs b W W') {v : Value} (hc : W.cell? ⟨b, i, none⟩ = some v) : W'.cell? ⟨b, i, none⟩ = some v := by
  obtain ⟨o, ho⟩ := blk_of_cell hc
  exact (World.cell?_of_block (a := ⟨b, i, none⟩) ((h.2 o ho).trans ho.symm)).trans hc

set_option maxRecDepth 100000 in
set_option maxHeartbeats 2000000 in
theorem backE1_in (F : Fence) (n : Nat) (h8 : F.fn 51) (hro : F.round = none) (hn : 1 ≤ n) (l Bs b cap : Nat) (zs : List EgI) (hreach : zs.length ≤ 1048576) (J Jx : List (Nat × EgI) → World → Prop)
    (hY : ∀ pre x W, J pre W → pre.length < zs.length → YieldAt F (n - 1) Try.prog l #[.int .i64 (x.1 : Int), egV x.2.1] W fun e W' =>
      (e = .returned (.bool true) ∧ J (pre ++ [x]) W' ∧ KpE Bs b W W') ∨ (e = .returned (.bool false) ∧ Jx (pre ++ [x]) W'))
    (W : World) (hBs : W.cell? ⟨Bs, 0, none⟩ = some (.slice (some ⟨b, 0, none⟩) zs.length cap)) (hc : ∀ j, j < zs.length → EdAt W b (j * 4) (zs.getD j egi0).1) (h0 : J [] W) :
    CallsIn F n Try.prog 51 #[.func (.yield l) #[] #[], .pointer (some ⟨Bs, 0, none⟩)] W fun e W' => (∃ v, e = .returned v) ∧
      ((∃ ys, ys = fbE zs 0 ∧ J ys W') ∨ (∃ pre, (∃ k, k < zs.length ∧ pre = fbE zs k) ∧ Jx pre W')) := by
  refine callsIn_of_wp Try.func51 rfl h8 ?_ hro
  simp only [Try.ntmps51, List.size_toArray, List.length_cons, List.length_nil, Nat.reduceAdd, Nat.reduceSub, Array.replicate_succ, Array.replicate_zero, List.push_toArray, List.append_toArray, List.nil_append, List.cons_append]
  gi_wp2
  gi_loopw [3] (fun i wr => ∃ k : Nat, k ≤ zs.length ∧ i = .int .i64 ((k : Int) - 1) ∧ J (fbE zs k) wr ∧ KpE Bs b W wr)
    (fun i _ => (intOf i + 1).toNat)
  case atStart => exact ⟨zs.length, Nat.le_refl _, by simp, by rw [fbE_all]; exact h0, KpE.refl _ _ _⟩
  case round =>
    obtain ⟨k, hk, rfl, hJs, hnx⟩ := hrel
    have hbs : wr.cell? ⟨Bs, 0, none⟩ = some (.slice (some ⟨b, 0, none⟩) zs.length cap) := hnx.cs hBs
    cases k with
    | zero =>
      gi_wp2
      go_end0
      exact ⟨⟨_, rfl⟩, .inl ⟨_, rfl, hJs⟩⟩
    | succ k =>
      have hcx := hc k (by omega)
      have c0 := hnx.cb hcx.c0
      have c1 := hnx.cb hcx.c1
      have c2 := hnx.cb hcx.c2
      have c3 := hnx.cb hcx.c3
      obtain ⟨x, hx⟩ : ∃ x, zs.getD k egi0 = x := ⟨_, rfl⟩
      rw [hx] at c0 c1 c2 c3
      obtain ⟨fn, tmps, assign, body, hy, hR⟩ := hY _ (k, x) wr hJs (by rw [fbE_len]; omega)
      dsimp only at hy
      unfold egV at hy
      have e1 : (((k + 1 : Nat) : Int) - 1) = (k : Int) := by omega
      rw [e1]
      have hkl : (k : Int) < (zs.length : Int) := by omega
      have hk0 : (0 : Int) ≤ (k : Int) := by omega
      obtain ⟨⟨xf, xt, xw, xb⟩, hxi⟩ := x
      simp only at c0 c1 c2 c3 hy
      clear hcx
      gi_wp2
      refine hR.mono ?_
      rintro e W3 (⟨rfl, hJ3, hk3⟩ | ⟨rfl, hJx3⟩)
      · gi_wp2
        go_roundw
        case rel => exact ⟨k, by omega, rfl, by rw [fbE_succ zs k hk, hx]; exact hJ3, hnx.trans hk3⟩
        case measure => simp [intOf]
      · gi_wp2
        refine bodyPost_ret (results_none rfl _ _ _) rfl ?_
        exact ⟨⟨_, rfl⟩, .inr ⟨_, ⟨k, by omega, by rw [fbE_succ zs k hk, hx]⟩, hJx3⟩⟩

set_option maxRecDepth 100000 in
set_option maxHeartbeats 1000000 in
theorem backE1_nil (F : Fence) (n : Nat) (h8 : F.fn 51) (hro : F.round = none) (l Bs : Nat) (ao : Option Addr) (cap : Nat) (J : List (Nat × EgI) → World → Prop) (W : World) (hBs : W.cell? ⟨Bs, 0, none⟩ = some (.slice ao 0 cap)) (h0 : J [] W) :
    CallsIn F n Try.prog 51 #[.func (.yield l) #[] #[], .pointer (some ⟨Bs, 0, none⟩)] W fun e W' => (∃ v, e = .returned v) ∧ J [] W' := by
  refine callsIn_of_wp Try.func51 rfl h8 ?_ hro
  simp only [Try.ntmps51, List.size_toArray, List.length_cons, List.length_nil, Nat.reduceAdd, Nat.reduceSub, Array.replicate_succ, Array.replicate_zero, List.push_toArray, List.append_toArray, List.nil_append, List.cons_append]
  gi_wp2
  gi_loopw [3] (fun i wr => i = .int .i64 (-1) ∧ J [] wr) (fun _ _ => 0)
  case atStart => exact ⟨rfl, h0⟩
  case round =>
    obtain ⟨rfl, hJs⟩ := hrel
    gi_wp2
    go_end0
    exact ⟨⟨_, rfl⟩, hJs⟩

set_option maxHeartbeats 1000000 in
theorem backE_in (F : Fence) (n : Nat) (h6 : F.fn 33) (hro : F.round = none) (a : Option Addr) (len cap : Nat) (w : World) :
    CallsIn F n Try.prog 33 #[.slice a len cap] w fun e w' => e = .returned (.func (.func 51) #[] #[.pointer (some ⟨w.heap.size, 0, none⟩)]) ∧ w' = w.alloc (.cells #[.slice a len cap] 36) := by
  refine callsIn_of_wp Try.func33 rfl h6 ?_ hro
  simp only [Try.ntmps33, List.size_toArray, List.length_cons, List.length_nil, Nat.reduceAdd, Nat.reduceSub, Array.replicate_succ, Array.replicate_zero, List.push_toArray, List.append_toArray, List.nil_append, List.cons_append]
  gi_wp2
  go_ret
  exact ⟨rfl, rfl⟩

theorem backE_stops (F : Fence) (n : Nat) (h8 : F.fn 51) (hro : F.round = none) (hn : 1 ≤ n) (Bs b : Nat) (ao : Option Addr) (cap : Nat) (zs : List EgI) (hreach : zs.length ≤ 1048576) (w : World)
    (hc : w.cell? ⟨Bs, 0, none⟩ = some (.slice ao zs.length cap)) (hI : zs = [] ∨ (ao = some ⟨b, 0, none⟩ ∧ ∀ i, i < zs.length → EdAt w b (i * 4) (zs.getD i egi0).1)) :
    SeqStopsK F n Try.prog 51 #[.pointer (some ⟨Bs, 0, none⟩)] (fun x : Nat × EgI => #[Value.int .i64 (x.1 : Int), egV x.2.1]) (KpE Bs b) (fun ys => ys = fbE zs 0)
      (fun pre => ∃ k, k < zs.length ∧ pre = fbE zs k) zs.length w := fun l J Jx W hW _ _ hY h0 => by
  have hk : KpE Bs b w W := KpE.below hW
  have hc' := hk.cs hc
  rcases hI with rfl | ⟨rfl, hcs⟩
  · exact (backE1_nil F n h8 hro l Bs ao cap J W hc' h0).mono fun e W' ⟨he, hj⟩ => ⟨he, .inl ⟨_, rfl, hj⟩⟩
  · exact backE1_in F n h8 hro hn l Bs b cap zs hreach J Jx hY W hc' (fun j hj => ⟨hk.cb (hcs j hj).c0, hk.cb (hcs j hj).c1, hk.cb (hcs j hj).c2, hk.cb (hcs j hj).c3⟩) h0
end Go.Proofs.Ytfnbkffphpidbaa
