/-
  EvLastW, EvGetW, EwW.
-/
import Derived.Shelf.Unicode.DecodeSlow
import Derived.Laws.RangeAny
import Derived.Shelf.Strings.Builder1
import Derived.Shelf.Small.Utf8
import Derived.Shelf.Strings.BuilderF
import Derived.Shelf.Strings.BuilderK
import Derived.Shelf.Strings.BuilderRune
import Derived.Shelf.Utf8.AppendRune
import Derived.Shelf.Strconv.Itoa0
import Derived.Shelf.Strconv.Itoa1
import Derived.Shelf.LaysM
import Derived.Shelf.Strconv.Itoa2
import Derived.Shelf.Strconv.Itoa3
import Derived.Shelf.Strconv.Itoa4
import Derived.Shelf.Strings.Prefix
import Derived.Shelf.Unicode.DecodeAny
import Derived.Test.YtljigfiokekpoaaGreatDoorProg
import Derived.WalkKit
import Derived.Deep.DeepFit
import Derived.Lib.OthersKept
import Derived.Lib.RuneCountTail
import Derived.RowKit
import Derived.Laws.Entries
import Derived.Below
import Derived.Deep.AppendLies
import Derived.Deep.OwnRows
import Derived.Laws.AppendOwnNone
import Derived.Deep.QuietTactic
import Derived.BigQuiet
import Derived.Deep.RegionWith
import Derived.Laws.DeepStrings4
import Derived.Lib.QuietBelow
import Derived.StillTail
import Derived.RangeFuncNested
import Derived.RangeFuncBound
import Derived.RangeFuncCalls
import Derived.RangeFuncLeaves
import Derived.RangeFuncBox
import Derived.Shelf.Abstract
import Derived.Shelf.RegionOpen
import Derived.OwnWalkIn
import Derived.TacticsInMore
import Derived.LoopNIn
import Derived.LoopIn
import Derived.Lib.Strings
import Derived.Deep.RegionLaw
import Derived.RangeFuncOwn
import Derived.Test.YtljigfiokekpoaaGreatDoorZ01
import Derived.Test.YtljigfiokekpoaaGreatDoorZ02
import Derived.Test.YtljigfiokekpoaaGreatDoorZ03
import Derived.Test.YtljigfiokekpoaaGreatDoorZ04
import Derived.Test.YtljigfiokekpoaaGreatDoorZ05
import Derived.Test.YtljigfiokekpoaaGreatDoorZ06
import Derived.Test.YtljigfiokekpoaaGreatDoorZ07
import Derived.Test.YtljigfiokekpoaaGreatDoorZ08
import Derived.Test.YtljigfiokekpoaaGreatDoorZ09
import Derived.Test.YtljigfiokekpoaaGreatDoorZ14
import Derived.Test.YtljigfiokekpoaaGreatDoorZ23
set_option linter.unusedSimpArgs false
set_option linter.unusedVariables false
namespace Go.Proofs.YtljigfiokekpoaaGreatDoor
open Go.RowKit Go.Shelf
attribute [local go_sem] Oper.semAt_some

/-- What has come from the back when k are left. -/
def fromBack (l : List Bd) (k : Nat) : List (Nat × Bd) := (List.range (l.length - k)).map fun j => (l.length - 1 - j, l.getD (l.length - 1 - j) bd0)
theorem fromBack_all (l : List Bd) : fromBack l l.length = [] := by simp [fromBack]
theorem fromBack_succ (l : List Bd) (k : Nat) (hk : k + 1 ≤ l.length) : fromBack l k = fromBack l (k + 1) ++ [(k, l.getD k bd0)] := by
  unfold fromBack
  have e : l.length - k = (l.length - (k + 1)) + 1 := by omega
  rw [e, List.range_succ, List.map_append]
  have e2 : l.length - 1 - (l.length - (k + 1)) = k := by omega
  simp [e2]
theorem fromBack_len (l : List Bd) (k : Nat) : (fromBack l k).length = l.length - k := by simp [fromBack]
abbrev bdV (x : Bd) : Value := .agg #[.string x.1, .int .i64 x.2]

set_option maxRecDepth 100000 in
set_option maxHeartbeats 2000000 in
theorem back1_in (F : Fence) (n : Nat) (h8 : F.fn 80) (hro : F.round = none) (hn : 1 ≤ n) (l Bs n₀ b off cap : Nat) (zs : List Bd) (hreach : zs.length * 24 ≤ 140737488355328) (hb : b < n₀) (J Jx : List (Nat × Bd) → World → Prop)
    (hY : ∀ pre x W, J pre W → pre.length < zs.length → YieldAt F (n - 1) Tryz.prog l #[.int .i64 (x.1 : Int), bdV x.2] W fun e W' =>
      (e = .returned (.bool true) ∧ J (pre ++ [x]) W' ∧ Below n₀ W W') ∨ (e = .returned (.bool false) ∧ Jx (pre ++ [x]) W'))
    (W : World) (hBs : W.cell? ⟨Bs, 0, none⟩ = some (.slice (some ⟨b, off, none⟩) zs.length cap)) (hBn : Bs < n₀) (hc : ∀ j, j < zs.length → BdAt W b (off + j * 2) (zs.getD j bd0)) (h0 : J [] W) :
    CallsIn F n Tryz.prog 80 #[.func (.yield l) #[] #[], .pointer (some ⟨Bs, 0, none⟩)] W fun e W' => (∃ v, e = .returned v) ∧
      ((∃ ys, ys = fromBack zs 0 ∧ J ys W') ∨ (∃ pre, (∃ k, k < zs.length ∧ pre = fromBack zs k) ∧ Jx pre W')) := by
  refine callsIn_of_wp Tryz.func80 rfl h8 ?_ hro
  simp only [Tryz.ntmps80, List.size_toArray, List.length_cons, List.length_nil, Nat.reduceAdd, Nat.reduceSub, Array.replicate_succ, Array.replicate_zero, List.push_toArray, List.append_toArray, List.nil_append, List.cons_append]
  gi_wp2
  gi_loopw [3] (fun i wr => ∃ k : Nat, k ≤ zs.length ∧ i = .int .i64 ((k : Int) - 1) ∧ J (fromBack zs k) wr ∧ Below n₀ W wr)
    (fun i _ => (intOf i + 1).toNat)
  case atStart => exact ⟨zs.length, Nat.le_refl _, by simp, by rw [fromBack_all]; exact h0, Below.refl _ _⟩
  case round =>
    obtain ⟨k, hk, rfl, hJs, hnx⟩ := hrel
    have hbs : wr.cell? ⟨Bs, 0, none⟩ = some (.slice (some ⟨b, off, none⟩) zs.length cap) := (hnx.cell (p := ⟨Bs, 0, none⟩) hBn).trans hBs
    cases k with
    | zero =>
      gi_wp2
      go_end0
      exact ⟨⟨_, rfl⟩, .inl ⟨_, rfl, hJs⟩⟩
    | succ k =>
      have hcx := hc k (by omega)
      have c0 : wr.cell? ⟨b, off + k * 2, none⟩ = some (.string (zs.getD k bd0).1) := (hnx.cell (p := ⟨b, off + k * 2, none⟩) hb).trans hcx.c0
      have c1 : wr.cell? ⟨b, off + k * 2 + 1, none⟩ = some (.int .i64 (zs.getD k bd0).2) := (hnx.cell (p := ⟨b, off + k * 2 + 1, none⟩) hb).trans hcx.c1
      obtain ⟨x, hx⟩ : ∃ x, zs.getD k bd0 = x := ⟨_, rfl⟩
      rw [hx] at c0 c1
      obtain ⟨fn, tmps, assign, body, hy, hR⟩ := hY _ (k, x) wr hJs (by rw [fromBack_len]; omega)
      dsimp only at hy
      have e1 : (((k + 1 : Nat) : Int) - 1) = (k : Int) := by omega
      rw [e1]
      have hkl : (k : Int) < (zs.length : Int) := by omega
      have hk0 : (0 : Int) ≤ (k : Int) := by omega
      gi_wp2
      refine hR.mono ?_
      rintro e W3 (⟨rfl, hJ3, hk3⟩ | ⟨rfl, hJx3⟩)
      · gi_wp2
        go_roundw
        case rel => exact ⟨k, by omega, rfl, by rw [fromBack_succ zs k hk, hx]; exact hJ3, hnx.trans hk3⟩
        case measure => simp [intOf]
      · gi_wp2
        refine bodyPost_ret (results_none rfl _ _ _) rfl ?_
        exact ⟨⟨_, rfl⟩, .inr ⟨_, ⟨k, by omega, by rw [fromBack_succ zs k hk, hx]⟩, hJx3⟩⟩

set_option maxRecDepth 100000 in
set_option maxHeartbeats 1000000 in
theorem back1_nil (F : Fence) (n : Nat) (h8 : F.fn 80) (hro : F.round = none) (l Bs : Nat) (ao : Option Addr) (cap : Nat) (J : List (Nat × Bd) → World → Prop) (W : World) (hBs : W.cell? ⟨Bs, 0, none⟩ = some (.slice ao 0 cap)) (h0 : J [] W) :
    CallsIn F n Tryz.prog 80 #[.func (.yield l) #[] #[], .pointer (some ⟨Bs, 0, none⟩)] W fun e W' => (∃ v, e = .returned v) ∧ J [] W' := by
  refine callsIn_of_wp Tryz.func80 rfl h8 ?_ hro
  simp only [Tryz.ntmps80, List.size_toArray, List.length_cons, List.length_nil, Nat.reduceAdd, Nat.reduceSub, Array.replicate_succ, Array.replicate_zero, List.push_toArray, List.append_toArray, List.nil_append, List.cons_append]
  gi_wp2
  gi_loopw [3] (fun i wr => i = .int .i64 (-1) ∧ J [] wr) (fun _ _ => 0)
  case atStart => exact ⟨rfl, h0⟩
  case round =>
    obtain ⟨rfl, hJs⟩ := hrel
    gi_wp2
    go_end0
    exact ⟨⟨_, rfl⟩, hJs⟩

set_option maxHeartbeats 1000000 in
theorem back_in (F : Fence) (n : Nat) (h6 : F.fn 64) (hro : F.round = none) (a : Option Addr) (len cap : Nat) (w : World) :
    CallsIn F n Tryz.prog 64 #[.slice a len cap] w fun e w' => e = .returned (.func (.func 80) #[] #[.pointer (some ⟨w.heap.size, 0, none⟩)]) ∧ w' = w.alloc (.cells #[.slice a len cap] 23) := by
  refine callsIn_of_wp Tryz.func64 rfl h6 ?_ hro
  simp only [Tryz.ntmps64, List.size_toArray, List.length_cons, List.length_nil, Nat.reduceAdd, Nat.reduceSub, Array.replicate_succ, Array.replicate_zero, List.push_toArray, List.append_toArray, List.nil_append, List.cons_append]
  gi_wp2
  go_ret
  exact ⟨rfl, rfl⟩

theorem back_stops (F : Fence) (n : Nat) (h8 : F.fn 80) (hro : F.round = none) (hn : 1 ≤ n) (Bs n₀ : Nat) (ao : Option Addr) (cap : Nat) (zs : List Bd) (hreach : zs.length * 24 ≤ 140737488355328) (w : World) (hBs : Bs < n₀) (hn₀ : n₀ ≤ w.heap.size)
    (hc : w.cell? ⟨Bs, 0, none⟩ = some (.slice ao zs.length cap)) (hI : zs = [] ∨ ∃ b o, ao = some ⟨b, o, none⟩ ∧ b < n₀ ∧ ∀ i, i < zs.length → BdAt w b (o + i * 2) (zs.getD i bd0)) :
    SeqStopsK F n Tryz.prog 80 #[.pointer (some ⟨Bs, 0, none⟩)] (fun x : Nat × Bd => #[Value.int .i64 (x.1 : Int), bdV x.2]) (Below n₀) (fun ys => ys = fromBack zs 0)
      (fun pre => ∃ k, k < zs.length ∧ pre = fromBack zs k) zs.length w := fun l J Jx W hW _ _ hY h0 => by
  have hc' := (hW.cell (p := ⟨Bs, 0, none⟩) (by show Bs < _; omega)).trans hc
  rcases hI with rfl | ⟨b, off, rfl, hb, hcs⟩
  · exact (back1_nil F n h8 hro l Bs ao cap J W hc' h0).mono fun e W' ⟨he, hj⟩ => ⟨he, .inl ⟨_, rfl, hj⟩⟩
  · exact back1_in F n h8 hro hn l Bs n₀ b off cap zs hreach hb J Jx hY W hc' hBs (fun j hj => ⟨(hW.cell (p := ⟨b, off + j * 2, none⟩) (by show b < _; omega)).trans (hcs j hj).c0, (hW.cell (p := ⟨b, off + j * 2 + 1, none⟩) (by show b < _; omega)).trans (hcs j hj).c1⟩) h0

theorem lastN_none (l : List Bd) (nm : ByteArray) : ∀ k : Nat, (∀ j, j < k → (l.getD j bd0).1 ≠ nm) → lastN l nm k = -1
  | 0, _ => rfl
  | k + 1, h => by unfold lastN; rw [if_neg (h k (by omega))]; exact lastN_none l nm k (fun j hj => h j (by omega))
theorem lastN_at (l : List Bd) (nm : ByteArray) (i : Nat) (hi : (l.getD i bd0).1 = nm) : ∀ k : Nat, i < k → (∀ j, i < j → j < k → (l.getD j bd0).1 ≠ nm) → lastN l nm k = i
  | 0, h, _ => by omega
  | k + 1, h, hj => by
    unfold lastN
    by_cases e : i = k
    · subst e; rw [if_pos hi]
    · rw [if_neg (hj k (by omega) (by omega))]; exact lastN_at l nm i hi k (by omega) (fun j h1 h2 => hj j h1 (by omega))
theorem mem_fromBack (l : List Bd) (k j : Nat) (h1 : k ≤ j) (h2 : j < l.length) : (j, l.getD j bd0) ∈ fromBack l k := by
  unfold fromBack
  rw [List.mem_map]
  refine ⟨l.length - 1 - j, by rw [List.mem_range]; omega, ?_⟩
  have : l.length - 1 - (l.length - 1 - j) = j := by omega
  rw [this]
theorem cellA {W : World} {a : Addr} {v : Value} (o : Obj) (h : W.cell? a = some v) : (W.alloc o).cell? a = some v := cell_kept h (World.grownBy_alloc W o none) (fun _ e => by cases e)
theorem frozenA {W : World} {a : Addr} {v : Value} (o : Obj) (h : W.cell? a = some v) (hf : W.frozen? a = false) : (W.alloc o).frozen? a = false := (frozen_kept h (World.grownBy_alloc W o none) (fun _ e => by cases e)).trans hf
theorem eq_toList (a b : ByteArray) : (a.toList == b.toList) = decide (a = b) := by
  rw [Go.Lib.toList_data, Go.Lib.toList_data]
  by_cases h : a = b
  · subst h; simp
  · rw [decide_eq_false h, beq_eq_false_iff_ne]
    exact fun e => h (by cases a; cases b; simpa using e)

set_option maxRecDepth 100000 in
set_option maxHeartbeats 2000000 in
theorem last_in (F : Fence) (n : Nat) (h4 : F.fn 53) (h6 : F.fn 64) (h8 : F.fn 80) (hro : F.round = none) (hn : 3 ≤ n) (ao : Option Addr) (cap : Nat) (zs : List Bd) (nm : ByteArray) (hreach : zs.length * 24 ≤ 140737488355328) (w : World) (hI : Bds w ao cap zs) :
    CallsIn F n Tryz.prog 53 #[.slice ao zs.length cap, .string nm] w fun e W' => e = .returned (.int .i64 (lastB zs nm)) ∧ Below w.heap.size w W' := by
  have h1 : 1 ≤ n := by omega
  obtain ⟨R, hR⟩ : ∃ R, lastB zs nm = R := ⟨_, rfl⟩
  have HR : Hid (lastN zs nm zs.length = R) := hR
  rw [hR]
  clear hR
  refine callsIn_of_wp_marks Tryz.func53 rfl h4 ?_ hro
  simp only [Tryz.ntmps53, List.size_toArray, List.length_cons, List.length_nil, Nat.reduceAdd, Nat.reduceSub, Array.replicate_succ, Array.replicate_zero, List.push_toArray, List.append_toArray, List.nil_append, List.cons_append]
  gi_wp2_with (gi_at_call 64; refine (back_in F (n - 1) h6 hro _ _ _ _).mono ?_; rintro e w' ⟨rfl, rfl⟩)
  have c0 := Boxed.new w 9 (.string nm)
  have c1 := Boxed.new (w.alloc (.cells #[.string nm] 9)) 3 (.int .i64 0)
  have c2 := Boxed.new ((w.alloc (.cells #[.string nm] 9)).alloc (.cells #[.int .i64 0] 3)) 23 (.slice ao zs.length cap)
  simp only [World.size_alloc] at c1 c2
  have hB0 : Below w.heap.size w (((w.alloc (.cells #[.string nm] 9)).alloc (.cells #[.int .i64 0] 3)).alloc (.cells #[.slice ao zs.length cap] 23)) := (((Below.refl _ w).alloc (Nat.le_refl _) _).alloc (by simp) _).alloc (by simp; omega) _
  have hsz : (((w.alloc (.cells #[.string nm] 9)).alloc (.cells #[.int .i64 0] 3)).alloc (.cells #[.slice ao zs.length cap] 23)).heap.size = w.heap.size + 3 := by simp
  have d0 := cellA (.cells #[.slice ao zs.length cap] 23) (cellA (.cells #[.int .i64 0] 3) c0.cell)
  have d1 := cellA (.cells #[.slice ao zs.length cap] 23) c1.cell
  have f1 := frozenA (.cells #[.slice ao zs.length cap] 23) c1.cell c1.frozen
  obtain ⟨W0, hW0⟩ : ∃ W0, ((w.alloc (.cells #[.string nm] 9)).alloc (.cells #[.int .i64 0] 3)).alloc (.cells #[.slice ao zs.length cap] 23) = W0 := ⟨_, rfl⟩
  rw [hW0] at d0 d1 f1 c2 hB0 hsz ⊢
  clear hW0 c0 c1
  have hI0 := hI.below hB0
  refine wpIn_rangeFunc_ownH hro h1 (gf := 80) (lb := #[.pointer (some ⟨w.heap.size + 1 + 1, 0, none⟩)]) rfl h8 (enters_of Tryz.func80 (by kernel_rfl) rfl)
    (back_stops F (n - 1) h8 hro (by omega) (w.heap.size + 1 + 1) (w.heap.size + 3) ao cap zs hreach W0 (by omega) (by omega) c2.cell (hI0.2.imp id fun ⟨b, o, e, hb, hc⟩ => ⟨b, o, e, by omega, hc⟩)) belowK_t (belowK_b (by omega)) (Below.refl _ _) (fun _ => rfl)
    (fun pre W => ((∀ p ∈ pre, p.2.1 ≠ nm) ∧ W.cell? ⟨w.heap.size, 0, none⟩ = some (.string nm) ∧ W.cell? ⟨w.heap.size + 1, 0, none⟩ = some (.int .i64 0) ∧ W.frozen? ⟨w.heap.size + 1, 0, none⟩ = false) ∧ Below w.heap.size w W ∧ w.heap.size + 3 ≤ W.heap.size)
    (fun c pre W => (c = .ret ∧ ∃ ini last, pre = ini ++ [last] ∧ (∀ p ∈ ini, p.2.1 ≠ nm) ∧ last.2.1 = nm ∧ W.cell? ⟨w.heap.size + 1, 0, none⟩ = some (.int .i64 (last.1 : Int))) ∧ Below w.heap.size w W)
    (OwnFrom.and (Own.from (fun s A B row hs hg hr => ⟨hs.1, cell_kept hs.2.1 hg hr, cell_kept hs.2.2.1 hg hr, (frozen_kept hs.2.2.1 hg hr).trans hs.2.2.2⟩) _) (OwnFrom.and (ownFrom_below (Nat.le_refl _) (by omega)) (fun _ _ _ _ hs hg _ => Nat.le_trans hs hg.size)))
    (fun c => OwnFrom.and (Own.from (fun s A B row hs hg hr => by obtain ⟨hc, ini, last, e1, e2, e3, e4⟩ := hs; exact ⟨hc, ini, last, e1, e2, e3, cell_kept e4 hg hr⟩) _) (ownFrom_below (Nat.le_refl _) (by omega)))
    ⟨⟨by simp, d0, d1, f1⟩, hB0, by omega⟩
    (fun x a' W => ∃ Bx, w.heap.size + 2 < Bx ∧ W.cell? ⟨Bx, 0, none⟩ = some (.string x.2.1) ∧ a' = { tmps := #[.slice ao zs.length cap, .string nm, undef, .pointer (some ⟨w.heap.size, 0, none⟩), .pointer (some ⟨w.heap.size + 1, 0, none⟩), .int .i64 (x.1 : Int), .pointer (some ⟨Bx, 0, none⟩), .slice ao zs.length cap, .func (.func 80) #[] #[.pointer (some ⟨w.heap.size + 1 + 1, 0, none⟩)], .int .i64 (x.1 : Int), bdV x.2, undef, undef, undef, undef, undef], defers := [] })
    (fun x a' _ X Y row hs hg hr => by obtain ⟨Bx, g1, g2, g3⟩ := hs; exact ⟨Bx, g1, cell_kept g2 hg (fun r e => (hr r e).2), g3⟩)
    ?assign ?body ?done ?stop
  case assign =>
    rintro l pre x W K ⟨⟨hp, hcn, hcr, hfr⟩, hB1, hs1⟩ hK
    gi_wp2
    exact hK _ _ ((KeepsOthers.alloc _ _).from _) ((Below.refl _ W).alloc (by omega) _) ⟨⟨hp, cellA _ hcn, cellA _ hcr, frozenA _ hcr hfr⟩, hB1.alloc hB1.size _, by simp; omega⟩ ⟨W.heap.size, by omega, by simp, rfl⟩
  case body =>
    rintro l pre x a' W hl ⟨r, hr⟩ ⟨⟨hp, hcn, hcr, hfr⟩, hB1, hs1⟩ ⟨Bx, hBx, cX, rfl⟩ hlt
    have hq := eq_toList x.2.1 nm
    by_cases he : x.2.1 = nm
    · rw [decide_eq_true he] at hq
      gi_wp2
      exact ⟨(KeepsOthers.setCell _ _ _).from _, ⟨rfl, pre, x, rfl, hp, he, World.cell?_setCell_same' _ _ _ (by rw [hcr]; rfl)⟩, hB1.setCell (p := ⟨w.heap.size + 1, 0, none⟩) (by simp) _⟩
    · rw [decide_eq_false he] at hq
      gi_wp2
      exact ⟨KeepsFrom.refl _ _, Below.refl _ _, ⟨fun p hp' => (List.mem_append.1 hp').elim (hp p) (fun e => by simp at e; subst e; exact he), hcn, hcr, hfr⟩, hB1, hs1⟩
  case done =>
    rintro D ys W hD rfl ⟨⟨hne, hcn, hcr, hfr⟩, hB, hs1⟩ hK
    have e : R = -1 := by rw [← HR.out]; exact lastN_none zs nm _ (fun j hj => hne (j, zs.getD j bd0) (mem_fromBack zs 0 j (Nat.zero_le _) hj))
    subst e
    gi_wp2
    have hK' := (KeepsOthers.setCell W ⟨w.heap.size + 1, 0, none⟩ (.int .i64 (-1))).same D _ hK rfl
    refine ⟨by simp, .inl ⟨_, _, rfl, run_takeDeferred hK', ?_⟩⟩
    have hc5 := cell_kept (World.cell?_setCell_same' W ⟨w.heap.size + 1, 0, none⟩ (.int .i64 (-1)) (by rw [hcr]; rfl)) (grownBy_putObj' _ D (.deferred none)) (fun r e => by cases e; exact ⟨_, hK', rfl⟩)
    refine ⟨.int .i64 (-1), ?_, rfl, (hB.setCell (p := ⟨w.heap.size + 1, 0, none⟩) (by simp) _).trans (belowK_b (w := w) (Nat.le_refl _) _ D _ _ (by omega) hK' rfl rfl)⟩
    simp [results, Tryz.f53, go_sem, hc5]
  case stop =>
    rintro D c pre W hD ⟨k, hk, rfl⟩ ⟨⟨rfl, ini, last, e1, e2, e3, hcr⟩, hB⟩ hK
    gi_wp2
    refine ⟨by simp, .inl ⟨_, _, rfl, run_takeDeferred hK, ?_⟩⟩
    have hc5 := cell_kept hcr (grownBy_putObj' _ D (.deferred none)) (fun r e => by cases e; exact ⟨_, hK, rfl⟩)
    rw [fromBack_succ zs k hk] at e1
    obtain ⟨rfl, e5⟩ := List.append_inj' e1 rfl
    obtain rfl : (k, zs.getD k bd0) = last := by simpa using e5
    have e : R = (k : Int) := by rw [← HR.out]; exact lastN_at zs nm k e3 _ hk (fun j h1 h2 => e2 (j, zs.getD j bd0) (mem_fromBack zs (k + 1) j h1 h2))
    subst e
    refine ⟨.int .i64 (k : Int), ?_, rfl, hB.trans (belowK_b (w := w) (Nat.le_refl _) W D _ _ (by omega) hK rfl rfl)⟩
    simp [results, Tryz.f53, go_sem, hc5]
theorem last_any (ao : Option Addr) (cap : Nat) (zs : List Bd) (nm : ByteArray) (hreach : zs.length * 24 ≤ 140737488355328) (w : World) (hI : Bds w ao cap zs) :
    Calls Tryz.prog 53 #[.slice ao zs.length cap, .string nm] w fun e W' => e = .returned (.int .i64 (lastB zs nm)) ∧ Below w.heap.size w W' :=
  (callsIn_wide (n := 3)).1 (last_in Fence.wide 3 trivial trivial trivial rfl (Nat.le_refl _) ao cap zs nm hreach w hI)
end Go.Proofs.YtljigfiokekpoaaGreatDoor

set_option linter.unusedSimpArgs false
set_option linter.unusedVariables false
namespace Go.Proofs.YtljigfiokekpoaaGreatDoor
open Go.RowKit Go.Lib

theorem append_srcE {P : Program} (w : World) {ops : Array Oper} {rest : List Oper} {o : Oper} {a : Act} {Q : Exit → Act → World → Prop} (hgd : o.guard = none) (s x : Operand) (t : TypeId)
    (ho : o.op = .call { callee := .builtin .append, args := #[s, x], argTypes := #[t, t] })
    (base : Nat) (e : TypeId) (i : TypeInfo) (z : Value) (size bytes : Nat) (ht : P.underlying t = some (.slice e)) (hi : P.info? e = some i) (hz : i.zero = some z)
    (hsize : i.size = size) (hby : i.bytes = bytes) (hzs : z.cells.size = size) (hsz : 0 < size)
    (v : Value) (n : Nat) (xs : List Value) (hs : a.eval s = v) (hown : w.ownsRow base e size v n xs)
    (ao : Option Addr) (m c : Nat) (news : List Value) (hx : a.eval x = .slice ao m c) (hnone : ao = none → m = 0 ∧ c = 0) (hl : news.length = m * size) (hnews : ∀ ad, ao = some ad → ∀ j u, news[j]? = some u → w.cell? (ad.add j) = some u) (h1 : ∀ u ∈ news, u.oneCell' = true)
    (h63 : n + m ≤ maxLen) (hbytes : (n + m) * bytes ≤ 140737488355328) (hbase : base ≤ w.heap.size)
    (h : ∀ v' w', w'.ownsRow base e size v' (n + m) (xs ++ news) → w.grownBy w' v.ownBlock → wpList P ops Q rest (a.put o.dst v') w') : wpList P ops Q (o :: rest) a w := by
  cases ao with
  | none =>
    obtain ⟨rfl, rfl⟩ := hnone rfl
    have hn : news = [] := List.length_eq_zero_iff.1 (by omega)
    subst hn
    exact wpList_append_own_none hgd s x t ho base e i size ht hi v n xs hs hown hx (h v w (by simpa using hown) (World.grownBy.refl _ _))
  | some ad => exact wpList_append_own w hgd s x t ho base e i z size bytes ht hi hz hsize hby hzs hsz v n xs hs hown ad m c news hx hl (hnews ad rfl) h1 h63 hbytes hbase (fun v' w' h2 h3 _ => h v' w' h2 h3)

set_option maxHeartbeats 1000000 in
theorem getE_any (ao : Option Addr) (cap : Nat) (l : List Bd) (nm : ByteArray) (hreach : l.length * 24 ≤ 140737488355328) (w : World) (hI : Bds w ao cap l) :
    Calls Tryz.prog 36 #[.slice ao l.length cap, .string nm] w fun e W' => e = .returned (.int .i64 (getB l nm)) ∧ Below w.heap.size w W' := by
  have c1 : Hid (∀ W, Bds W ao cap l → Calls Tryz.prog 53 #[.slice ao l.length cap, .string nm] W fun e W' => e = .returned (.int .i64 (lastB l nm)) ∧ Below W.heap.size W W') := fun W hW => last_any ao cap l nm hreach W hW
  have hr := lastB_range l nm
  rw [getB_last]
  by_cases h : lastB l nm < 0
  · have e : lastB l nm = -1 := by omega
    rw [e] at c1 ⊢
    rw [if_pos (by decide)]
    go_enter Tryz.func36, Tryz.ntmps36
    go_wp2_with (go_at_call 53; refine (c1.out _ (by assumption)).mono ?_; rintro e w2 ⟨rfl, b2⟩)
    go_ret
    exact ⟨rfl, b2⟩
  · obtain ⟨k, hk⟩ : ∃ k : Nat, lastB l nm = k := ⟨(lastB l nm).toNat, by omega⟩
    rw [hk] at c1 hr ⊢
    rw [if_neg (by omega), Int.toNat_natCast]
    have hkl : k < l.length := by omega
    have hkl2 : (k : Int) < (l.length : Int) := by omega
    obtain ⟨b, o, rfl, hb, hc⟩ := hI.at_ hkl
    obtain ⟨x, hx⟩ : ∃ x, l.getD k bd0 = x := ⟨_, rfl⟩
    rw [hx] at hc ⊢
    have HC : Hid (BdAt w b (o + k * 2) x) := hc
    clear hx hc h hr hkl
    go_enter Tryz.func36, Tryz.ntmps36
    go_wp2_with (go_at_call 53; refine (c1.out _ (by assumption)).mono ?_; rintro e w2 ⟨rfl, b2⟩; have cc := (HC.out.below hb b2).c1)
    go_ret
    exact ⟨rfl, b2⟩

end Go.Proofs.YtljigfiokekpoaaGreatDoor

set_option linter.unusedSimpArgs false
set_option linter.unusedVariables false
namespace Go.Proofs.YtljigfiokekpoaaGreatDoor
open Go.RowKit Go.Lib

theorem Tryz.infoL2 : (Tryz.prog.info? 2).map (fun i => (i.zero, i.size, i.bytes)) = some (some (.int .i64 0), 1, 8) := by kernel_rfl

/-- A work: its block p holds the environment and the numbers' list, which is its own. -/
structure Ew (w : World) (p : Nat) (ev v : Value) (st : List Int) : Prop where
  blk : w.heap[p]? = some (.cells #[ev, v] 49 (0, 0))
  on : w.ownsRow (p + 1) 2 1 v st.length (st.map (Value.int .i64))
theorem Ew.lt {w : World} {p : Nat} {ev v : Value} {st : List Int} (h : Ew w p ev v st) : p < w.heap.size := lt_of_block h.blk
theorem Ew.below {w w' : World} {p : Nat} {ev v : Value} {st : List Int} (h : Ew w p ev v st) (hb : Below w.heap.size w w') : Ew w' p ev v st :=
  ⟨(hb.block _ h.lt).trans h.blk, ownsRow_below h.on hb⟩
theorem Ew.c0 {w : World} {p : Nat} {ev v : Value} {st : List Int} (h : Ew w p ev v st) : w.cell? ⟨p, 0, none⟩ = some ev := by simp [World.cell?, h.blk]
theorem Ew.c1 {w : World} {p : Nat} {ev v : Value} {st : List Int} (h : Ew w p ev v st) : w.cell? ⟨p, 1, none⟩ = some v := by simp [World.cell?, h.blk]
theorem Ew.f1 {w : World} {p : Nat} {ev v : Value} {st : List Int} (h : Ew w p ev v st) : w.frozen? ⟨p, 1, none⟩ = false := by simp [World.frozen?, h.blk]

/-- Behind an append and the store. -/
theorem Ew.put {w w6 : World} {p : Nat} {ev v v' : Value} {st st' : List Int} (h : Ew w p ev v st) (hb : w6.heap[p]? = w.heap[p]?) (ho : w6.ownsRow (p + 1) 2 1 v' st'.length (st'.map (Value.int .i64))) : Ew (w6.setCell ⟨p, 1, none⟩ v') p ev v' st' := by
  refine ⟨?_, ownsRow_setCell_below ho (by show p < p + 1; omega) _⟩
  have := heap_setCell_same w6 p 1 #[ev, v] 49 v' (hb.trans h.blk)
  simpa using this
theorem own_take {w : World} {base g n cap k : Nat} {e : TypeId} {xs : List Value} (h : w.ownsRow base e 1 (.slice (some ⟨g, 0, none⟩) n cap) n xs) (hk : k ≤ n) : w.ownsRow base e 1 (.slice (some ⟨g, 0, none⟩) k cap) k (xs.take k) := by
  obtain ⟨h1, h2⟩ := h
  rcases h2 with ⟨h2, _⟩ | ⟨g', cap', cur, hv, hg, hb, hn, hm, hs, ht⟩
  · cases h2
  · cases hv
    refine ⟨by simp; omega, .inr ⟨g, cap, cur, rfl, hg, hb, by omega, hm, hs, ?_⟩⟩
    rw [← ht, List.take_take]; congr 1; omega

/-- What grew by its own row has turned no block but cells. -/
theorem ko_grown {w w' : World} {base : Nat} {e : TypeId} {size n : Nat} {v : Value} {xs : List Value} (ho : w.ownsRow base e size v n xs) (hg : w.grownBy w' v.ownBlock) : KeepsOthers w w' :=
  ⟨hg.size, fun k o hk hc => by
    rw [hg.block k (lt_of_block hk) (fun e' => ?_)]
    · exact hk
    · rcases ho.2 with ⟨rfl, _⟩ | ⟨g, cap, cur, rfl, _, hb, _⟩
      · cases e'
      · have e2 : k = g := by simpa [Value.ownBlock] using e'
        subst e2
        rw [hb] at hk
        cases hk
        cases hc⟩
theorem ko_below {w w' : World} (hb : Below w.heap.size w w') : KeepsOthers w w' := ⟨hb.size, fun k o hk _ => (hb.block k (lt_of_block hk)).trans hk⟩

/-- No block but cells has turned, and of those that lay none but the work and its row. -/
structure KoW (p : Nat) (v : Value) (w w' : World) : Prop where
  ko : KeepsOthers w w'
  same : ∀ b, b < w.heap.size → b ≠ p → some b ≠ v.ownBlock → w'.heap[b]? = w.heap[b]?
theorem KoW.below {p : Nat} {v : Value} {w w' : World} (hb : Below w.heap.size w w') : KoW p v w w' := ⟨ko_below hb, fun b h _ _ => hb.block b h⟩
theorem KoW.trans {p : Nat} {v : Value} {w w' w'' : World} (h : KoW p v w w') (k : KoW p v w' w'') : KoW p v w w'' :=
  ⟨h.ko.trans k.ko, fun b h1 h2 h3 => (k.same b (Nat.lt_of_lt_of_le h1 h.ko.size) h2 h3).trans (h.same b h1 h2 h3)⟩
theorem KoW.grown {p : Nat} {v : Value} {w w' : World} {base : Nat} {e : TypeId} {size n : Nat} {xs : List Value} (ho : w.ownsRow base e size v n xs) (hg : w.grownBy w' v.ownBlock) : KoW p v w w' := ⟨ko_grown ho hg, fun b h1 _ h3 => hg.block b h1 h3⟩
theorem KoW.set {p o : Nat} {v u : Value} {w : World} : KoW p v w (w.setCell ⟨p, o, none⟩ u) := ⟨KeepsOthers.setCell _ _ _, fun b _ h2 _ => Deep.blk_setCell_other _ _ _ _ h2⟩

set_option maxRecDepth 20000 in
set_option maxHeartbeats 2000000 in
theorem wput_ko (w : World) (p : Nat) (ev v : Value) (st : List Int) (n : Int) (hM : Ew w p ev v st) (hlen : st.length ≤ 100000) :
    Calls Tryz.prog 35 #[.pointer (some ⟨p, 0, none⟩), .int .i64 n] w fun e w' => e = .returned (.tuple #[]) ∧ (∃ v', Ew w' p ev v' (st ++ [n])) ∧ Below p w w' ∧ KoW p v w w' := by
  obtain ⟨i0, hi, hz0, hz1, hz2⟩ := info_parts Tryz.infoL2
  obtain ⟨va, vc, hv⟩ := row_form' hM.on
  subst hv
  have hpl := hM.lt
  have c1 := hM.c1
  have f1 := hM.f1
  have HM : Hid (Ew w p ev (.slice va st.length vc) st) := hM
  have hrow := hM.on
  obtain ⟨L, hL⟩ : ∃ L, st.length = L := ⟨_, rfl⟩
  rw [hL] at c1 hrow hlen
  have HL : Hid (st.length = L) := hL
  have z1 : ∀ o, (w.alloc o).cell? ⟨p, 1, none⟩ = some (.slice va L vc) := fun o => (World.cell?_alloc_past _ _ _ (by show p < w.heap.size; omega)).trans c1
  have HP6 : Hid (∀ (o : Obj) (w6 : World), (w.alloc o).grownBy w6 (Value.slice va L vc).ownBlock → w6.heap[p]? = w.heap[p]?) := fun o w6 hg => by
    have h1 := hg.block p (by rw [World.size_alloc]; omega) (fun e => by have := (own_block' hrow p e.symm).1; omega)
    exact h1.trans (Deep.blk_alloc_lt _ _ _ (by omega))
  clear hM hL
  go_enter Tryz.func35, Tryz.ntmps35
  go_wp2_with (at_builtin; refine wpList_append_lies _ rfl (.tmp 8) (.tmp 10) 47 rfl (p + 1) 2 i0 (.int .i64 0) 1 8 Tryz.underlying47 hi hz0 hz1 hz2 rfl (by decide) _ _ _ (by simp [Act.eval, Act.put]) (hrow.alloc _) ⟨w.heap.size, 0, none⟩ 1 1 [.int .i64 n] (by simp [Act.eval, Act.put]) rfl (cell_news_one w _ _) (by simp [Value.oneCell']) (by omega) (by unfold maxLen; omega) (by omega) (by simp; omega) _ rfl ?_; intro g6 cap6 w6 hown6 hg6 hat6 hl6; have hnd6 := HP6.out _ w6 hg6; have m6 : w6.cell? ⟨p, 1, none⟩ = some (.slice va L vc) := (World.cell?_of_block (a := ⟨p, 1, none⟩) hnd6).trans c1; have m6f : w6.frozen? ⟨p, 1, none⟩ = false := (World.frozen?_of_block (a := ⟨p, 1, none⟩) hnd6).trans f1)
  all_goals
    have hF : Ew (w6.setCell ⟨p, 1, none⟩ (.slice (some ⟨g6, 0, none⟩) (L + 1) cap6)) p ev (.slice (some ⟨g6, 0, none⟩) (L + 1) cap6) (st ++ [n]) := HM.out.put hnd6 (by rw [List.length_append, HL.out, List.map_append]; exact hown6)
    have hB : Below p w (w6.setCell ⟨p, 1, none⟩ (.slice (some ⟨g6, 0, none⟩) (L + 1) cap6)) := by
      have b1 : Below p w (w.alloc (.cells #[.int .i64 n] 2)) := ((Below.refl w.heap.size w).alloc (Nat.le_refl _) _).mono (by omega)
      have b2 := b1.grown hg6 (by show p ≤ (w.alloc _).heap.size; rw [World.size_alloc]; omega) (fun j hj => by have := (own_block' hrow j hj).1; omega)
      exact b2.setCell (p := ⟨p, 1, none⟩) (Nat.le_refl p) _
    have HF : Hid (Ew (w6.setCell ⟨p, 1, none⟩ (.slice (some ⟨g6, 0, none⟩) (L + 1) cap6)) p ev (.slice (some ⟨g6, 0, none⟩) (L + 1) cap6) (st ++ [n])) := hF
    have HB : Hid (Below p w (w6.setCell ⟨p, 1, none⟩ (.slice (some ⟨g6, 0, none⟩) (L + 1) cap6))) := hB
    have HKO : Hid (KoW p (.slice va L vc) w (w6.setCell ⟨p, 1, none⟩ (.slice (some ⟨g6, 0, none⟩) (L + 1) cap6))) := ((KoW.below ((Below.refl w.heap.size w).alloc (Nat.le_refl _) _)).trans (KoW.grown (hrow.alloc _) hg6)).trans KoW.set
    clear hF hB
    go_wp2_with fail
    go_end0
    exact ⟨rfl, ⟨_, HF.out⟩, HB.out, by rw [HL.out]; exact HKO.out⟩
theorem wput_any (w : World) (p : Nat) (ev v : Value) (st : List Int) (n : Int) (hM : Ew w p ev v st) (hlen : st.length ≤ 100000) :
    Calls Tryz.prog 35 #[.pointer (some ⟨p, 0, none⟩), .int .i64 n] w fun e w' => e = .returned (.tuple #[]) ∧ (∃ v', Ew w' p ev v' (st ++ [n])) ∧ Below p w w' :=
  (wput_ko w p ev v st n hM hlen).mono fun e w' ⟨h1, h2, h3, _⟩ => ⟨h1, h2, h3⟩
end Go.Proofs.YtljigfiokekpoaaGreatDoor
