/-
  ExSameW, RefStr.
-/
import Derived.Shelf.Unicode.DecodeSlow
import Derived.Laws.RangeAny
import Derived.Shelf.Small.Bits
import Derived.Shelf.Strconv.Itoa0
import Derived.Shelf.LaysM
import Derived.Shelf.Strconv.Clone
import Derived.Shelf.Unicode.DecodeAny
import Derived.Shelf.Slices.CompactS
import Derived.Ground.SlsfProg
import Derived.Shelf.SlSortCmp.Insertion
import Derived.Shelf.SlSortCmp.SiftDown1
import Derived.Shelf.SlSortCmp.HeapSort1
import Derived.Shelf.SlSortCmp.Insertion1
import Derived.Shelf.SlSortCmp.Median1
import Derived.Shelf.SlSortCmp.Pivot1
import Derived.Shelf.SlSortCmp.ReverseRange1
import Derived.Shelf.SlSortCmp.PartialInsertion1
import Derived.Shelf.SlSortCmp.PartitionEqual1
import Derived.Shelf.SlSortCmp.Partition1
import Derived.Shelf.SlSortCmp.Pdq1
import Derived.Shelf.SlSortCmp.Whole1
import Derived.Test.YtpacjofepiojdaaDoorProg
import Derived.WalkKit
import Derived.Deep.DeepFit
import Derived.Lib.OthersKept
import Derived.Lib.RuneCountTail
import Derived.Deep.AppendLies
import Derived.Deep.OwnRows
import Derived.Laws.AppendOwnNone
import Derived.Deep.QuietTactic
import Derived.BigQuiet
import Derived.Deep.RegionWith
import Derived.Laws.DeepStrings4
import Derived.Test.YtpacjofepiojdaaDoorP01
import Derived.Test.YtpacjofepiojdaaDoorP02
import Derived.Test.YtpacjofepiojdaaDoorP03
set_option linter.unusedSimpArgs false
set_option linter.unusedVariables false
namespace Go.Proofs.YtpacjofepiojdaaDoor
open Go.RowKit Go.Lib

set_option maxHeartbeats 1000000 in
theorem sameInts_any (va vb : Value) (xs ys : List Int) (w : World) (B : Nat) (hBw : B ≤ w.heap.size) (ha : Ints w B va xs) (hb : Ints w B vb ys) :
    Calls Tryd.prog 73 #[va, vb] w fun e w' => e = .returned (.bool (decide (xs = ys))) ∧ ∃ n, w' = w.drewN n := by
  obtain ⟨ao, ca, rfl, hal, ham, hac⟩ := ha
  obtain ⟨bo, cb, rfl, hbl, hbm, hbc⟩ := hb
  replace ham := ham.1
  replace hbm := hbm.1
  unfold maxLen at ham hbm
  by_cases hll : xs.length = ys.length
  · have HA : Hid (xs = [] ∨ ∃ b o, ao = some ⟨b, o, none⟩ ∧ b < B ∧ ∀ j, j < xs.length → w.cell? ⟨b, o + j, none⟩ = some (.int .i64 (xs.getD j 0))) := hac
    have HB : Hid (ys = [] ∨ ∃ b o, bo = some ⟨b, o, none⟩ ∧ b < B ∧ ∀ j, j < ys.length → w.cell? ⟨b, o + j, none⟩ = some (.int .i64 (ys.getD j 0))) := hbc
    clear hac hbc
    rw [← hll] at HB hbl ⊢
    have HLL : Hid (xs.length = ys.length) := hll
    clear hll
    go_enter Tryd.func73, Tryd.ntmps73
    go_wp2
    go_loopw [5] (fun i wr => ∃ k : Nat, k ≤ xs.length ∧ i = .int .i64 k ∧ Hid (xs.take k = ys.take k) ∧ ∃ n, wr = w.drewN n) (fun i _ => xs.length - (RowKit.intOf i).toNat)
    case atStart => exact ⟨0, by omega, rfl, rfl, 0, rfl⟩
    case round =>
      obtain ⟨k, hk, rfl, hpre, nd, rfl⟩ := hrel
      by_cases hlt : k < xs.length
      · obtain ⟨b1, o1, rfl, hb1, hc1⟩ : ∃ b o, ao = some ⟨b, o, none⟩ ∧ b < B ∧ ∀ j, j < xs.length → w.cell? ⟨b, o + j, none⟩ = some (.int .i64 (xs.getD j 0)) := by
          rcases HA.out with h | h
          · subst h; simp at hlt
          · exact h
        obtain ⟨b2, o2, rfl, hb2, hc2⟩ : ∃ b o, bo = some ⟨b, o, none⟩ ∧ b < B ∧ ∀ j, j < xs.length → w.cell? ⟨b, o + j, none⟩ = some (.int .i64 (ys.getD j 0)) := by
          rcases HB.out with h | h
          · have := HLL.out; rw [h] at this; simp at this; rw [this] at hlt; simp at hlt
          · exact h
        have c1 := hc1 k hlt
        have c2 := hc2 k hlt
        clear hc1 hc2 HA HB
        have hx : Hid (∀ x y, xs.getD k 0 = x → ys.getD k 0 = y → xs.take (k + 1) = xs.take k ++ [x] ∧ ys.take (k + 1) = ys.take k ++ [y] ∧ (xs = ys → x = y)) := by
          intro x y hx hy
          have hlt2 : k < ys.length := by have := HLL.out; omega
          rw [List.take_succ_eq_append_getElem hlt, List.take_succ_eq_append_getElem hlt2, ← hx, ← hy]
          refine ⟨by simp [hlt], by simp [hlt2], fun h => by rw [h]⟩
        generalize hx1 : xs.getD k 0 = x at *
        generalize hy1 : ys.getD k 0 = y at *
        have hx := hx.out x y rfl rfl
        clear hx1 hy1
        have HX : Hid (xs.take (k + 1) = xs.take k ++ [x] ∧ ys.take (k + 1) = ys.take k ++ [y] ∧ (xs = ys → x = y)) := hx
        clear hx
        go_wp2
        go_quiet (fail)
        go_wp2
        · go_ret
          have hne : ¬ x = y := by
            have : (x != y) = true := by assumption
            simpa using this
          exact ⟨ret_bool (by
            have : ¬ xs = ys := fun h => hne (HX.out.2.2 h)
            simp [this]), nd + nq, World.drewN_drewN _ _ _⟩
        · have he : x = y := by
            have : (x != y) = false := by assumption
            simpa using this
          refine ⟨⟨k + 1, by omega, by go_num, ?_, _, rfl⟩, by simp [RowKit.intOf]; omega⟩
          show xs.take (k + 1) = ys.take (k + 1)
          rw [HX.out.1, HX.out.2.1, hpre.out, he]
      · have hke : k = xs.length := by omega
        subst hke
        go_wp2
        go_ret
        have : xs = ys := by
          have h := hpre.out
          rw [List.take_length, HLL.out, List.take_length] at h; exact h
        exact ⟨ret_bool (by simp [this]), nd, rfl⟩
  · go_enter Tryd.func73, Tryd.ntmps73
    go_wp2
    go_ret
    exact ⟨ret_bool (by
      have : ¬ xs = ys := fun h => hll (by rw [h])
      simp [this]), 0, rfl⟩

theorem bytes_inj (a b : ByteArray) : a.toList = b.toList ↔ a = b := by
  constructor
  · intro h
    have h2 : a.data.toList = b.data.toList := by simpa [ByteArray.toList_eq] using h
    exact ByteArray.ext (Array.toList_inj.1 h2)
  · intro h; rw [h]

theorem below_drewN {B : Nat} {w w' : World} (h : Below B w w') (n : Nat) : Below B w (w'.drewN n) := ⟨h.os, h.tape, h.output, h.size, h.block⟩

/-- The same node? -/
def ndEq (x y : Nd) : Bool := decide (x.op = y.op) && decide (x.n = y.n) && decide (x.name.toList = y.name.toList) && decide (x.kids = y.kids)
theorem ndEq_iff (x y : Nd) : ndEq x y = true ↔ x = y := by
  obtain ⟨a, b, c, d⟩ := x
  obtain ⟨a', b', c', d'⟩ := y
  simp only [ndEq, Bool.and_eq_true, decide_eq_true_eq, Nd.mk.injEq, and_assoc, bytes_inj]

theorem Ints.drewN {w : World} {B : Nat} {v : Value} {ks : List Int} (h : Ints w B v ks) (n : Nat) : Ints (w.drewN n) B v ks := h

set_option maxHeartbeats 1000000 in
theorem sameNode_any (x y : Nd) (vx vy : Value) (w : World) (B : Nat) (hBw : B ≤ w.heap.size) (ha : Ints w B vx x.kids) (hb : Ints w B vy y.kids) :
    Calls Tryd.prog 35 #[.agg #[.int .i64 x.op, .int .i64 x.n, .string x.name, vx], .agg #[.int .i64 y.op, .int .i64 y.n, .string y.name, vy]] w fun e w' => e = .returned (.bool (ndEq x y)) ∧ Below w.heap.size w w' := by
  obtain ⟨a, b, c, d⟩ := x
  obtain ⟨a', b', c', d'⟩ := y
  simp only at ha hb ⊢
  obtain ⟨ao, ca, rfl, ha0⟩ := id ha
  obtain ⟨bo, cb, rfl, hb0⟩ := id hb
  clear ha0 hb0
  have HA : Hid (Ints w B (.slice ao d.length ca) d) := ha
  have HB : Hid (Ints w B (.slice bo d'.length cb) d') := hb
  clear ha hb
  have cS : Hid (∀ W, Below w.heap.size w W → Calls Tryd.prog 73 #[.slice ao d.length ca, .slice bo d'.length cb] W fun e w' => e = .returned (.bool (decide (d = d'))) ∧ ∃ n, w' = W.drewN n) := fun W hW =>
    sameInts_any _ _ d d' W W.heap.size (Nat.le_refl _) (HA.out.below (hW.mono hBw) (by have := hW.size; omega)) (HB.out.below (hW.mono hBw) (by have := hW.size; omega))
  clear HA HB
  have HE : Hid (ndEq ⟨a, b, c, d⟩ ⟨a', b', c', d'⟩ = (decide (a = a') && decide (b = b') && decide (c.toList = c'.toList) && decide (d = d'))) := rfl
  generalize ndEq ⟨a, b, c, d⟩ ⟨a', b', c', d'⟩ = r at *
  generalize decide (d = d') = q at *
  go_enter Tryd.func35, Tryd.ntmps35
  go_wp2_with (go_at_call 73; refine (cS.out _ (((Below.refl _ _).alloc (Nat.le_refl _) _).alloc (by simp) _)).mono ?_; rintro e w2 ⟨rfl, n2, rfl⟩)
  all_goals
    go_ret
    refine ⟨ret_bool (by rw [HE.out]; simp_all), ?_⟩
    first
    | exact below_drewN (((Below.refl _ _).alloc (Nat.le_refl _) _).alloc (by simp) _) _
    | exact ((Below.refl _ _).alloc (Nat.le_refl _) _).alloc (by simp) _

set_option maxHeartbeats 1000000 in
theorem same_any (va vb : Value) (xs ys : List Nd) (w : World) (B : Nat) (hBw : B ≤ w.heap.size) (ha : Nodes w B va xs) (hb : Nodes w B vb ys) :
    Calls Tryd.prog 13 #[va, vb] w fun e w' => e = .returned (.bool (decide (xs = ys))) ∧ Below w.heap.size w w' := by
  obtain ⟨ao, ca, rfl, hal, ham, hac⟩ := ha
  obtain ⟨bo, cb, rfl, hbl, hbm, hbc⟩ := hb
  unfold maxLen at ham hbm
  by_cases hll : xs.length = ys.length
  · have HA : Hid (xs = [] ∨ ∃ b o, ao = some ⟨b, o, none⟩ ∧ b < B ∧ ∀ i, i < xs.length → ∃ kv, NodeAt w B b (o + i * 4) (xs.getD i nd0) kv) := hac
    have HB : Hid (ys = [] ∨ ∃ b o, bo = some ⟨b, o, none⟩ ∧ b < B ∧ ∀ i, i < ys.length → ∃ kv, NodeAt w B b (o + i * 4) (ys.getD i nd0) kv) := hbc
    clear hac hbc
    rw [← hll] at HB hbl ⊢
    have HLL : Hid (xs.length = ys.length) := hll
    clear hll
    go_enter Tryd.func13, Tryd.ntmps13
    go_wp2
    go_loopw [5] (fun i wr => ∃ k : Nat, k ≤ xs.length ∧ i = .int .i64 k ∧ Hid (xs.take k = ys.take k) ∧ Below w.heap.size w wr) (fun i _ => xs.length - (RowKit.intOf i).toNat)
    case atStart => exact ⟨0, by omega, rfl, rfl, Below.refl _ _⟩
    case round =>
      obtain ⟨k, hk, rfl, hpre, hB⟩ := hrel
      have hsz := hB.size
      by_cases hlt : k < xs.length
      · obtain ⟨b1, o1, rfl, hb1, hc1⟩ : ∃ b o, ao = some ⟨b, o, none⟩ ∧ b < B ∧ ∀ i, i < xs.length → ∃ kv, NodeAt w B b (o + i * 4) (xs.getD i nd0) kv := by
          rcases HA.out with h | h
          · subst h; simp at hlt
          · exact h
        obtain ⟨b2, o2, rfl, hb2, hc2⟩ : ∃ b o, bo = some ⟨b, o, none⟩ ∧ b < B ∧ ∀ i, i < xs.length → ∃ kv, NodeAt w B b (o + i * 4) (ys.getD i nd0) kv := by
          rcases HB.out with h | h
          · have := HLL.out; rw [h] at this; simp at this; rw [this] at hlt; simp at hlt
          · exact h
        obtain ⟨k1, n1⟩ := hc1 k hlt
        obtain ⟨k2, n2⟩ := hc2 k hlt
        clear hc1 hc2 HA HB
        have n1 := n1.below (hB.mono hBw) (Nat.le_refl _) hb1
        have n2 := n2.below (hB.mono hBw) (Nat.le_refl _) hb2
        have hx : Hid (∀ x y, xs.getD k nd0 = x → ys.getD k nd0 = y → xs.take (k + 1) = xs.take k ++ [x] ∧ ys.take (k + 1) = ys.take k ++ [y] ∧ (xs = ys → x = y)) := by
          intro x y hx hy
          have hlt2 : k < ys.length := by have := HLL.out; omega
          rw [List.take_succ_eq_append_getElem hlt, List.take_succ_eq_append_getElem hlt2, ← hx, ← hy]
          refine ⟨by simp [hlt], by simp [hlt2], fun h => by rw [h]⟩
        generalize hx1 : xs.getD k nd0 = x at *
        generalize hy1 : ys.getD k nd0 = y at *
        have hx := hx.out x y rfl rfl
        clear hx1 hy1
        have HX : Hid (xs.take (k + 1) = xs.take k ++ [x] ∧ ys.take (k + 1) = ys.take k ++ [y] ∧ (xs = ys → x = y)) := hx
        clear hx
        have cS : Hid (∀ W, Below wr.heap.size wr W → Calls Tryd.prog 35 #[.agg #[.int .i64 x.op, .int .i64 x.n, .string x.name, k1], .agg #[.int .i64 y.op, .int .i64 y.n, .string y.name, k2]] W fun e w' => e = .returned (.bool (ndEq x y)) ∧ Below W.heap.size W w') := fun W hW =>
          sameNode_any x y k1 k2 W W.heap.size (Nat.le_refl _) (n1.kids.below (hW.mono (by omega)) (by have := hW.size; omega)) (n2.kids.below (hW.mono (by omega)) (by have := hW.size; omega))
        obtain ⟨c0, c1, c2, c3, hk1⟩ := n1
        obtain ⟨e0, e1, e2, e3, hk2⟩ := n2
        obtain ⟨ka1, kc1, rfl, hk1⟩ := hk1
        obtain ⟨ka2, kc2, rfl, hk2⟩ := hk2
        clear hk1 hk2
        have HE : Hid (ndEq x y = true ↔ x = y) := ndEq_iff x y
        generalize ndEq x y = q at *
        obtain ⟨a, b, c, d⟩ := x
        obtain ⟨a', b', c', d'⟩ := y
        simp only at c0 c1 c2 c3 e0 e1 e2 e3 cS
        go_wp2
        go_region_with (go_at_call 35; refine (cS.out _ (Below.refl _ _).drew).mono ?_; rintro e w2 ⟨rfl, hb2⟩)
        all_goals go_wp2
        all_goals first
          | (have hq : (!q) = true := by assumption
             go_ret
             have hne : ¬ xs = ys := fun h => by
               have := HE.out.2 (HX.out.2.2 h)
               rw [this] at hq; cases hq
             exact ⟨ret_bool (by simp [hne]), hB.trans ((Below.refl _ _).drew.trans hb2 |>.mono hsz)⟩)
          | (have hq : (!q) = false := by assumption
             refine ⟨⟨k + 1, by omega, by go_num, ?_, hB.trans ((Below.refl _ _).drew.trans hb2 |>.mono hsz)⟩, by simp [RowKit.intOf]; omega⟩
             show xs.take (k + 1) = ys.take (k + 1)
             rw [HX.out.1, HX.out.2.1, hpre.out, HE.out.1 (by simpa using hq)])
      · have hke : k = xs.length := by omega
        subst hke
        go_wp2
        go_ret
        have : xs = ys := by
          have h := hpre.out
          rw [List.take_length, HLL.out, List.take_length] at h; exact h
        exact ⟨ret_bool (by simp [this]), hB⟩
  · go_enter Tryd.func13, Tryd.ntmps13
    go_wp2
    go_ret
    exact ⟨ret_bool (by
      have : ¬ xs = ys := fun h => hll (by rw [h])
      simp [this]), Below.refl _ _⟩
end Go.Proofs.YtpacjofepiojdaaDoor

set_option linter.unusedSimpArgs false
set_option linter.unusedVariables false
namespace Go.Proofs.YtpacjofepiojdaaDoor
open Go.RowKit

set_option maxHeartbeats 400000 in
theorem within_any (r a b : Int) (w : World) :
    Calls Tryd.prog 127 #[.int .i32 r, .int .i32 a, .int .i32 b] w fun e w' => e = .returned (.bool (hasB a b r)) ∧ w' = w := by
  by_cases h1 : a ≤ r
  · by_cases h2 : r ≤ b
    · have hb : hasB a b r = true := by simp [hasB, h1, h2]
      rw [hb]; clear hb
      go_enter Tryd.func127, Tryd.ntmps127
      go_wp2
      go_ret
      exact ⟨by simp [h1, h2], rfl⟩
    · have hb : hasB a b r = false := by simp [hasB, h1, h2]
      rw [hb]; clear hb
      go_enter Tryd.func127, Tryd.ntmps127
      go_wp2
      go_ret
      exact ⟨by simp [h1, h2], rfl⟩
  · have hb : hasB a b r = false := by simp [hasB, h1]
    rw [hb]; clear hb
    go_enter Tryd.func127, Tryd.ntmps127
    go_wp2
    go_ret
    exact ⟨by simp, rfl⟩

set_option maxHeartbeats 1000000 in
theorem letter_any (r : Int) (w : World) :
    Calls Tryd.prog 126 #[.int .i32 r] w fun e w' => e = .returned (.bool (letB r)) ∧ w' = w := by
  go_enter Tryd.func126, Tryd.ntmps126
  go_wp2_with (go_at_call 127; refine (within_any _ _ _ _).mono ?_; rintro e w' ⟨rfl, rfl⟩)
  all_goals go_ret
  all_goals exact ⟨ret_bool (by simp_all [letB]), rfl⟩

set_option maxHeartbeats 1000000 in
theorem digit_any (r : Int) (w : World) :
    Calls Tryd.prog 125 #[.int .i32 r] w fun e w' => e = .returned (.tuple #[.int .i64 (digV r), .int .i32 (digZ r)]) ∧ w' = w := by
  cases h1 : hasB 48 57 r
  · cases h2 : hasB 1632 1641 r
    · cases h3 : hasB 65296 65305 r
      · go_enter Tryd.func125, Tryd.ntmps125
        go_wp2_with (go_at_call 127; refine (within_any _ _ _ _).mono ?_; rintro e w' ⟨rfl, rfl⟩)
        go_ret2
        exact ⟨by simp [digV, digZ, h1, h2, h3], rfl⟩
      · have hb : 65296 ≤ r ∧ r ≤ 65305 := by simpa [hasB] using h3
        obtain ⟨b1, b2⟩ := hb
        go_enter Tryd.func125, Tryd.ntmps125
        go_wp2_with (go_at_call 127; refine (within_any _ _ _ _).mono ?_; rintro e w' ⟨rfl, rfl⟩)
        go_ret2
        exact ⟨by simp [digV, digZ, h1, h2, h3], rfl⟩
    · have hb : 1632 ≤ r ∧ r ≤ 1641 := by simpa [hasB] using h2
      obtain ⟨b1, b2⟩ := hb
      go_enter Tryd.func125, Tryd.ntmps125
      go_wp2_with (go_at_call 127; refine (within_any _ _ _ _).mono ?_; rintro e w' ⟨rfl, rfl⟩)
      go_ret2
      exact ⟨by simp [digV, digZ, h1, h2], rfl⟩
  · have hb : 48 ≤ r ∧ r ≤ 57 := by simpa [hasB] using h1
    obtain ⟨b1, b2⟩ := hb
    go_enter Tryd.func125, Tryd.ntmps125
    go_wp2_with (go_at_call 127; refine (within_any _ _ _ _).mono ?_; rintro e w' ⟨rfl, rfl⟩)
    go_ret2
    exact ⟨by simp [digV, digZ, h1], rfl⟩

set_option maxHeartbeats 1000000 in
theorem refKind_sign (r : Int) (w : World) (h1 : letB r = false) (h2 : digV r < 0) (h3 : blkB r = false) (h4 : hasB 8320 8329 r = false) :
    Calls Tryd.prog 105 #[.int .i32 r] w fun e w' => e = .returned (.int .i64 (sgnK (isSign r))) ∧ Below w.heap.size w w' := by
  obtain ⟨⟨⟨⟨⟨b1, b2⟩, b3⟩, b4⟩, b5⟩, b6⟩ : (((((r == 32) = false ∧ (r == 9) = false) ∧ (r == 10) = false) ∧ (r == 13) = false) ∧ (r == 160) = false) ∧ (r == 12288) = false := by
    simpa [blkB] using h3
  have h2' : decide (0 ≤ digV r) = false := by simp; exact h2
  go_enter Tryd.func105, Tryd.ntmps105
  go_wp2_with (first | (go_at_call 125; refine (digit_any _ _).mono ?_; rintro e w2 ⟨rfl, hw⟩; obtain rfl := hw.symm) | (go_at_call 126; refine (letter_any _ _).mono ?_; rintro e w2 ⟨rfl, hw⟩; obtain rfl := hw.symm) | (go_at_call 127; refine (within_any _ _ _ _).mono ?_; rintro e w2 ⟨rfl, hw⟩; obtain rfl := hw.symm))
  change Code.wp _ _ _ _ (w.iter signs 0)
  have hS := runesFrom_signs
  have HN : signs.size = 48 := rfl
  generalize signs = S at hS HN ⊢
  go_loopw [7] (fun _ w' => ∃ (pos f : Nat), w' = w.iter S pos ∧ (runesFrom S f pos).any (· == r) = isSign r ∧ S.size ≤ pos + f) (fun _ w' => S.size - w'.iterPos w.heap.size)
  case atStart => exact ⟨0, 48, rfl, by rw [hS]; rfl, by omega⟩
  case round =>
    obtain ⟨pos, f, rfl, hA, hf⟩ := hrel
    have HA : Hid ((runesFrom S f pos).any (· == r) = isSign r) := hA
    clear hA hS
    by_cases hp : pos < S.size
    · have hnx : ∀ ty, (Instr.next (.pointer (some ⟨w.heap.size, 0, none⟩)) true ty).run Tryd.prog (w.iter S pos) = _ := fun ty => run_next_any w S pos ty hp
      obtain ⟨f, rfl⟩ : ∃ g, f = g + 1 := ⟨f - 1, by omega⟩
      have hw := width_pos S pos hp
      have HC := runesFrom_cons S f pos hp
      have HC' := Hid.out (p := _) (show Hid _ from HC)
      clear HC
      have HX : Hid (runesFrom S (f + 1) pos = ((Utf8.decode S pos).1 : Int) :: runesFrom S f (pos + (Utf8.decode S pos).2)) := HC'
      clear HC'
      cases hr : (((Utf8.decode S pos).1 : Int) == r)
      · go_wp2
        go_roundw
        case rel => exact ⟨_, f, rfl, by rw [← HA.out, HX.out, List.any_cons, hr, Bool.false_or], by omega⟩
        case measure => simp; omega
      · go_wp2
        go_ret
        exact ⟨ret_int (by rw [← HA.out, HX.out, List.any_cons, hr, Bool.true_or]; rfl), (Below.refl _ _).alloc (Nat.le_refl _) _⟩
    · have hnx : ∀ ty, (Instr.next (.pointer (some ⟨w.heap.size, 0, none⟩)) true ty).run Tryd.prog (w.iter S pos) = _ := fun ty => run_next_end w S pos ty hp
      go_wp2
      go_ret
      exact ⟨ret_int (by rw [← HA.out, runesFrom_end S f pos hp]; rfl), (Below.refl _ _).alloc (Nat.le_refl _) _⟩

set_option maxHeartbeats 1000000 in
theorem refKind_rest (r : Int) (w : World) (h : letB r = true ∨ 0 ≤ digV r ∨ blkB r = true ∨ hasB 8320 8329 r = true) :
    Calls Tryd.prog 105 #[.int .i32 r] w fun e w' => e = .returned (.int .i64 (kindR r)) ∧ Below w.heap.size w w' := by
  cases h1 : letB r
  · by_cases h2 : 0 ≤ digV r
    · have h2' : decide (0 ≤ digV r) = true := by simp; exact h2
      have hv : kindR r = 2 := by simp [kindR, h1, h2]
      rw [hv]; clear hv h
      go_enter Tryd.func105, Tryd.ntmps105
      go_wp2_with (first | (go_at_call 125; refine (digit_any _ _).mono ?_; rintro e w2 ⟨rfl, hw⟩; obtain rfl := hw.symm) | (go_at_call 126; refine (letter_any _ _).mono ?_; rintro e w2 ⟨rfl, hw⟩; obtain rfl := hw.symm))
      go_ret
      exact ⟨rfl, Below.refl _ _⟩
    · have h2' : decide (0 ≤ digV r) = false := by simpa using h2
      cases h3 : blkB r
      · have h4 : hasB 8320 8329 r = true := by simpa [h1, h2, h3] using h
        obtain ⟨⟨⟨⟨⟨b1, b2⟩, b3⟩, b4⟩, b5⟩, b6⟩ : (((((r == 32) = false ∧ (r == 9) = false) ∧ (r == 10) = false) ∧ (r == 13) = false) ∧ (r == 160) = false) ∧ (r == 12288) = false := by
          simpa [blkB] using h3
        have hv : kindR r = 5 := by simp [kindR, h1, h2, h3, h4]
        rw [hv]; clear hv h h2
        go_enter Tryd.func105, Tryd.ntmps105
        go_wp2_with (first | (go_at_call 125; refine (digit_any _ _).mono ?_; rintro e w2 ⟨rfl, hw⟩; obtain rfl := hw.symm) | (go_at_call 126; refine (letter_any _ _).mono ?_; rintro e w2 ⟨rfl, hw⟩; obtain rfl := hw.symm) | (go_at_call 127; refine (within_any _ _ _ _).mono ?_; rintro e w2 ⟨rfl, hw⟩; obtain rfl := hw.symm))
        go_ret
        exact ⟨rfl, Below.refl _ _⟩
      · have hv : kindR r = 3 := by simp [kindR, h1, h2, h3]
        have h3' : (r == 32) = true ∨ (r == 9) = true ∨ (r == 10) = true ∨ (r == 13) = true ∨ (r == 160) = true ∨ (r == 12288) = true := by
          simpa [blkB, or_assoc] using h3
        rw [hv]; clear hv h h2 h3
        have B : ∀ x : Int, (r == x) = true → r = x := fun x hx => by simpa using hx
        rcases h3' with e | e | e | e | e | e
        all_goals
          have e' := B _ e
          clear B e
          subst e'
          go_enter Tryd.func105, Tryd.ntmps105
          go_wp2_with (first | (go_at_call 125; refine (digit_any _ _).mono ?_; rintro e w2 ⟨rfl, hw⟩; obtain rfl := hw.symm) | (go_at_call 126; refine (letter_any _ _).mono ?_; rintro e w2 ⟨rfl, hw⟩; obtain rfl := hw.symm))
          go_ret
          exact ⟨rfl, Below.refl _ _⟩
  · have hv : kindR r = 1 := by simp [kindR, h1]
    rw [hv]; clear hv h
    go_enter Tryd.func105, Tryd.ntmps105
    go_wp2_with (first | (go_at_call 125; refine (digit_any _ _).mono ?_; rintro e w2 ⟨rfl, hw⟩; obtain rfl := hw.symm) | (go_at_call 126; refine (letter_any _ _).mono ?_; rintro e w2 ⟨rfl, hw⟩; obtain rfl := hw.symm))
    go_ret
    exact ⟨rfl, Below.refl _ _⟩

theorem refKind_any (r : Int) (w : World) :
    Calls Tryd.prog 105 #[.int .i32 r] w fun e w' => e = .returned (.int .i64 (kindR r)) ∧ Below w.heap.size w w' := by
  by_cases h : letB r = true ∨ 0 ≤ digV r ∨ blkB r = true ∨ hasB 8320 8329 r = true
  · exact refKind_rest r w h
  · simp only [not_or, Bool.not_eq_true] at h
    obtain ⟨h1, h2, h3, h4⟩ := h
    have hv : kindR r = sgnK (isSign r) := by simp [kindR, h1, h2, h3, h4]
    rw [hv]
    exact refKind_sign r w h1 (by omega) h3 h4
end Go.Proofs.YtpacjofepiojdaaDoor

namespace Go.Proofs.YtpacjofepiojdaaDoor
open Go.RowKit Go.Lib

set_option maxHeartbeats 1000000 in
theorem refWidth_end (s : ByteArray) (pos : Int) (w : World) (h : pos < 0 ∨ (s.size : Int) ≤ pos) :
    Calls Tryd.prog 107 #[.string s, .int .i64 pos] w fun e w' => e = .returned (.int .i64 0) ∧ Below w.heap.size w w' := by
  rcases h with h | h
  · go_enter Tryd.func107, Tryd.ntmps107
    go_wp2
    go_ret
    exact ⟨rfl, Below.refl _ _⟩
  · by_cases h0 : pos < 0
    · go_enter Tryd.func107, Tryd.ntmps107
      go_wp2
      go_ret
      exact ⟨rfl, Below.refl _ _⟩
    · go_enter Tryd.func107, Tryd.ntmps107
      go_wp2
      go_ret
      exact ⟨rfl, Below.refl _ _⟩

set_option maxHeartbeats 1000000 in
theorem refWidth_in (s : ByteArray) (pos : Nat) (w : World) (h : pos < s.size) (hs : s.size ≤ maxLen) :
    Calls Tryd.prog 107 #[.string s, .int .i64 pos] w fun e w' => e = .returned (.int .i64 (wd s pos)) ∧ Below w.heap.size w w' := by
  unfold maxLen at hs
  have hpz : (pos : Int) < (s.size : Int) := by omega
  have hd0 : decide ((pos : Int) < 0) = false := by simp
  have hd1 : decide (s.size ≤ pos) = false := by simp; omega
  go_enter Tryd.func107, Tryd.ntmps107
  go_wp2
  have hSz := tail_size s pos
  have hD := dec_tail s pos 0
  rw [Nat.add_zero] at hD
  have hBI := bad_iff s pos
  have hv1 := width_pos s pos h
  have hv2 := dec_le s pos h
  have HW : Hid (wd s pos = if bad s pos then 0 else (Utf8.decode s pos).2) := rfl
  have HB : Hid (bad s pos = ((Utf8.decode s pos).1 == 65533 && (Utf8.decode s pos).2 == 1)) := rfl
  generalize s.extract pos s.size = S at *
  go_loopw [5] (fun _ w' => ∃ q : Nat, It w S q w' ∧ (q = 0 ∨ (q = (Utf8.decode s pos).2 ∧ bad s pos = false))) (fun _ w' => S.size - w'.iterPos w.heap.size)
  case atStart => exact ⟨0, It.start w S, .inl rfl⟩
  case round =>
    obtain ⟨q, hI, hq⟩ := hrel
    have hm := hI.pos
    rcases hq with rfl | ⟨hq, hbad⟩
    · have hnx : ∀ ty, (Instr.next (.pointer (some ⟨w.heap.size, 0, none⟩)) true ty).run Tryd.prog wr = _ := fun ty => run_next_any_at wr w.heap.size S 0 ty hI.at_ (by omega)
      rw [hD] at hnx
      have hI1 := hI.next (Utf8.decode s pos).2
      cases hr : (((Utf8.decode s pos).1 : Int) == 65533)
      · have hnb : bad s pos = false := by rw [HB.out]; have : ¬ (Utf8.decode s pos).1 = 65533 := by simp at hr; omega
                                           simp [this]
        generalize (Utf8.decode s pos).2 = v at *
        generalize ((Utf8.decode s pos).1 : Int) = r at *
        clear hD hBI
        go_wp2
        exact ⟨⟨v, hI1, .inr ⟨rfl, hnb⟩⟩, by rw [hI1.pos, hm]; omega⟩
      · have hr' : (Utf8.decode s pos).1 = 65533 := by simp at hr; omega
        have hbi := hBI hr'
        clear hBI hD
        generalize (Utf8.decode s pos).2 = v at *
        generalize ((Utf8.decode s pos).1 : Int) = r at *
        by_cases hl : (s.size : Int) - (pos : Int) < 3
        · have hb : bad s pos = true := by
            have : ¬ bad s pos = false := fun e => by have := (hbi.1 e).1; omega
            simpa using this
          go_wp2
          go_ret
          exact ⟨ret_int (by rw [HW.out, hb]; rfl), hI1.below⟩
        · have hl3 : (pos : Int) + 3 ≤ (s.size : Int) := by omega
          cases hx : ((s.extract pos (pos + 3)).toList == [239, 191, 189])
          · have hb : bad s pos = true := by
              have : ¬ bad s pos = false := fun e => by
                have e2 := (hbi.1 e).2
                rw [Lib.toList_data, e2] at hx
                exact absurd hx (by decide)
              simpa using this
            go_wp2
            go_ret
            exact ⟨ret_int (by rw [HW.out, hb]; rfl), hI1.below⟩
          · have hb : bad s pos = false := by
              refine hbi.2 ⟨by omega, ?_⟩
              rw [← Lib.toList_data]
              exact beq_iff_eq.1 hx
            go_wp2
            exact ⟨⟨v, hI1, .inr ⟨rfl, hb⟩⟩, by rw [hI1.pos, hm]; omega⟩
    · have hWd : Hid (wd s pos = q) := by show wd s pos = q; rw [HW.out, hbad, hq]; rfl
      clear hBI hD HW HB
      generalize (Utf8.decode s pos).2 = v at *
      subst hq
      by_cases hlt : q < S.size
      · have hnx : ∀ ty, (Instr.next (.pointer (some ⟨w.heap.size, 0, none⟩)) true ty).run Tryd.prog wr = _ := fun ty => run_next_any_at wr w.heap.size S q ty hI.at_ hlt
        have hI1 := hI.next (q + (Utf8.decode S q).2)
        go_wp2
        go_ret
        exact ⟨ret_int (by rw [hWd.out]), hI1.below⟩
      · have hnx : ∀ ty, (Instr.next (.pointer (some ⟨w.heap.size, 0, none⟩)) true ty).run Tryd.prog wr = _ := fun ty => run_next_end_at wr w.heap.size S q ty hI.at_ hlt
        go_wp2
        go_ret
        exact ⟨ret_int (by rw [hWd.out]; omega), hI.below⟩

theorem refWidth_any (s : ByteArray) (pos : Nat) (w : World) (hs : s.size ≤ maxLen) :
    Calls Tryd.prog 107 #[.string s, .int .i64 pos] w fun e w' => e = .returned (.int .i64 (wdE s pos)) ∧ Below w.heap.size w w' := by
  by_cases h : pos < s.size
  · have : wdE s pos = wd s pos := by simp [wdE, h]
    rw [this]
    exact refWidth_in s pos w h hs
  · have : ((wdE s pos : Nat) : Int) = 0 := by simp [wdE, h]
    rw [this]
    exact refWidth_end s pos w (.inr (by omega))

set_option maxHeartbeats 1000000 in
theorem refRune_any (s : ByteArray) (pos : Nat) (w : World) (hs : s.size ≤ maxLen) (hp : pos ≤ s.size) :
    Calls Tryd.prog 104 #[.string s, .int .i64 pos] w fun e w' => e = .returned (.int .i32 (rn s pos)) ∧ Below w.heap.size w w' := by
  have c1 : Hid (∀ W, Calls Tryd.prog 107 #[.string s, .int .i64 pos] W fun e w' => e = .returned (.int .i64 (wdE s pos)) ∧ Below W.heap.size W w') := fun W => refWidth_any s pos W hs
  by_cases h0 : wdE s pos = 0
  · have hv : rn s pos = -1 := by
      by_cases h : pos < s.size
      · have hw := width_pos s pos h
        have : bad s pos = true := by
          simp only [wdE, h, if_true, wd] at h0
          split at h0
          · assumption
          · omega
        simp [rn, this]
      · simp [rn, h]
    rw [hv]
    rw [h0] at c1
    go_enter Tryd.func104, Tryd.ntmps104
    go_wp2_with (go_at_call 107; refine (c1.out _).mono ?_; rintro e w1 ⟨rfl, hb1⟩)
    go_ret
    exact ⟨rfl, hb1⟩
  · have hlt : pos < s.size := by
      by_cases h : pos < s.size
      · exact h
      · simp [wdE, h] at h0
    have hv : rn s pos = ((Utf8.decode s pos).1 : Int) := by
      have hb : bad s pos = false := by
        cases hb : bad s pos
        · rfl
        · simp [wdE, hlt, wd, hb] at h0
      simp [rn, hlt, hb]
    rw [hv]
    unfold maxLen at hs
    generalize wdE s pos = n at *
    have hn : ((n : Int) == 0) = false := by simp; omega
    have hSz := tail_size s pos
    have hD := dec_tail s pos 0
    rw [Nat.add_zero] at hD
    have hpz : (pos : Int) ≤ (s.size : Int) := by omega
    go_enter Tryd.func104, Tryd.ntmps104
    go_wp2_with (go_at_call 107; refine (c1.out _).mono ?_; rintro e w1 ⟨rfl, hb1⟩)
    have HS : Hid (s.extract pos s.size = s.extract pos s.size) := rfl
    generalize s.extract pos s.size = S at *
    go_loopw [6] (fun _ w' => It w1 S 0 w') (fun _ w' => 0)
    case atStart => exact It.start w1 S
    case round =>
      have hI := hrel
      have hnx : ∀ ty, (Instr.next (.pointer (some ⟨w1.heap.size, 0, none⟩)) true ty).run Tryd.prog wr = _ := fun ty => run_next_any_at wr w1.heap.size S 0 ty hI.at_ (by omega)
      rw [hD] at hnx
      have hI1 := hI.next (Utf8.decode s pos).2
      go_wp2
      go_ret
      have z := hb1.size
      exact ⟨rfl, hb1.trans (hI1.below.mono z)⟩
end Go.Proofs.YtpacjofepiojdaaDoor
