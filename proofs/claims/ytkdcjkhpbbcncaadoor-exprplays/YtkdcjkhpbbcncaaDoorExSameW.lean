/-
  What SameInts, SameNode and Same answer.
-/
import Derived.Test.YtkdcjkhpbbcncaaDoorExMem
import Derived.Deep.QuietTactic
import Derived.BigQuiet
import Derived.Deep.RegionWith
set_option linter.unusedSimpArgs false
set_option linter.unusedVariables false
namespace Go.Proofs.YtkdcjkhpbbcncaaDoor
open Go.RowKit Go.Lib

set_option maxHeartbeats 1000000 in
theorem sameInts_any (va vb : Value) (xs ys : List Int) (w : World) (B : Nat) (hBw : B ≤ w.heap.size) (ha : Ints w B va xs) (hb : Ints w B vb ys) :
    Calls Tryd.prog 75 #[va, vb] w fun e w' => e = .returned (.bool (decide (xs = ys))) ∧ ∃ n, w' = w.drewN n := by
  obtain ⟨ao, ca, rfl, hal, ham, hac⟩ := ha
  obtain ⟨bo, cb, rfl, hbl, hbm, hbc⟩ := hb
  replace ham := ham.1
  replace hbm := hbm.1
  unfold maxLen at ham hbm
  by_cases hll : xs.length = ys.length
  · have HA : Hid (xs = [] ∨ ∃ b o, ao = some ⟨b, o, none⟩ ∧ b < B ∧ ∀ j, j < xs.length → w.cell? ⟨b, o + j, none⟩ = some (.int .i64 (xs.getD j 0))) := hac
    have HB : Hid (ys = [] ∨ ∃ b o, bo = some ⟨b, o, none⟩ ∧ b < B ∧ ∀ j, j < ys.length → w.cell? ⟨b, o + j, none⟩ = some (.int .i64 (ys.getD j 0))) := hbc
    clear hac hbc
    rw [← hll] at HB hbl ⊢
    have HLL : Hid (xs.length = ys.length) := hll
    clear hll
    go_enter Tryd.func75, Tryd.ntmps75
    go_wp2
    go_loopw [5] (fun i wr => ∃ k : Nat, k ≤ xs.length ∧ i = .int .i64 k ∧ Hid (xs.take k = ys.take k) ∧ ∃ n, wr = w.drewN n) (fun i _ => xs.length - (RowKit.intOf i).toNat)
    case atStart => exact ⟨0, by omega, rfl, rfl, 0, rfl⟩
    case round =>
      obtain ⟨k, hk, rfl, hpre, nd, rfl⟩ := hrel
      by_cases hlt : k < xs.length
      · obtain ⟨b1, o1, rfl, hb1, hc1⟩ : ∃ b o, ao = some ⟨b, o, none⟩ ∧ b < B ∧ ∀ j, j < xs.length → w.cell? ⟨b, o + j, none⟩ = some (.int .i64 (xs.getD j 0)) := by
          rcases HA.out with h | h
          · subst h; simp at hlt
          · exact h
        obtain ⟨b2, o2, rfl, hb2, hc2⟩ : ∃ b o, bo = some ⟨b, o, none⟩ ∧ b < B ∧ ∀ j, j < xs.length → w.cell? ⟨b, o + j, none⟩ = some (.int .i64 (ys.getD j 0)) := by
          rcases HB.out with h | h
          · have := HLL.out; rw [h] at this; simp at this; rw [this] at hlt; simp at hlt
          · exact h
        have c1 := hc1 k hlt
        have c2 := hc2 k hlt
        clear hc1 hc2 HA HB
        have hx : Hid (∀ x y, xs.getD k 0 = x → ys.getD k 0 = y → xs.take (k + 1) = xs.take k ++ [x] ∧ ys.take (k + 1) = ys.take k ++ [y] ∧ (xs = ys → x = y)) := by
          intro x y hx hy
          have hlt2 : k < ys.length := by have := HLL.out; omega
          rw [List.take_succ_eq_append_getElem hlt, List.take_succ_eq_append_getElem hlt2, ← hx, ← hy]
          refine ⟨by simp [hlt], by simp [hlt2], fun h => by rw [h]⟩
        generalize hx1 : xs.getD k 0 = x at *
        generalize hy1 : ys.getD k 0 = y at *
        have hx := hx.out x y rfl rfl
        clear hx1 hy1
        have HX : Hid (xs.take (k + 1) = xs.take k ++ [x] ∧ ys.take (k + 1) = ys.take k ++ [y] ∧ (xs = ys → x = y)) := hx
        clear hx
        go_wp2
        go_quiet (fail)
        go_wp2
        · go_ret
          have hne : ¬ x = y := by
            have : (x != y) = true := by assumption
            simpa using this
          exact ⟨ret_bool (by
            have : ¬ xs = ys := fun h => hne (HX.out.2.2 h)
            simp [this]), nd + nq, World.drewN_drewN _ _ _⟩
        · have he : x = y := by
            have : (x != y) = false := by assumption
            simpa using this
          refine ⟨⟨k + 1, by omega, by go_num, ?_, _, rfl⟩, by simp [RowKit.intOf]; omega⟩
          show xs.take (k + 1) = ys.take (k + 1)
          rw [HX.out.1, HX.out.2.1, hpre.out, he]
      · have hke : k = xs.length := by omega
        subst hke
        go_wp2
        go_ret
        have : xs = ys := by
          have h := hpre.out
          rw [List.take_length, HLL.out, List.take_length] at h; exact h
        exact ⟨ret_bool (by simp [this]), nd, rfl⟩
  · go_enter Tryd.func75, Tryd.ntmps75
    go_wp2
    go_ret
    exact ⟨ret_bool (by
      have : ¬ xs = ys := fun h => hll (by rw [h])
      simp [this]), 0, rfl⟩

theorem bytes_inj (a b : ByteArray) : a.toList = b.toList ↔ a = b := by
  constructor
  · intro h
    have h2 : a.data.toList = b.data.toList := by simpa [ByteArray.toList_eq] using h
    exact ByteArray.ext (Array.toList_inj.1 h2)
  · intro h; rw [h]

theorem below_drewN {B : Nat} {w w' : World} (h : Below B w w') (n : Nat) : Below B w (w'.drewN n) := ⟨h.os, h.tape, h.output, h.size, h.block⟩

/-- The same node? -/
def ndEq (x y : Nd) : Bool := decide (x.op = y.op) && decide (x.n = y.n) && decide (x.name.toList = y.name.toList) && decide (x.kids = y.kids)
theorem ndEq_iff (x y : Nd) : ndEq x y = true ↔ x = y := by
  obtain ⟨a, b, c, d⟩ := x
  obtain ⟨a', b', c', d'⟩ := y
  simp only [ndEq, Bool.and_eq_true, decide_eq_true_eq, Nd.mk.injEq, and_assoc, bytes_inj]

theorem Ints.drewN {w : World} {B : Nat} {v : Value} {ks : List Int} (h : Ints w B v ks) (n : Nat) : Ints (w.drewN n) B v ks := h

set_option maxHeartbeats 1000000 in
theorem sameNode_any (x y : Nd) (vx vy : Value) (w : World) (B : Nat) (hBw : B ≤ w.heap.size) (ha : Ints w B vx x.kids) (hb : Ints w B vy y.kids) :
    Calls Tryd.prog 37 #[.agg #[.int .i64 x.op, .int .i64 x.n, .string x.name, vx], .agg #[.int .i64 y.op, .int .i64 y.n, .string y.name, vy]] w fun e w' => e = .returned (.bool (ndEq x y)) ∧ Below w.heap.size w w' := by
  obtain ⟨a, b, c, d⟩ := x
  obtain ⟨a', b', c', d'⟩ := y
  simp only at ha hb ⊢
  obtain ⟨ao, ca, rfl, ha0⟩ := id ha
  obtain ⟨bo, cb, rfl, hb0⟩ := id hb
  clear ha0 hb0
  have HA : Hid (Ints w B (.slice ao d.length ca) d) := ha
  have HB : Hid (Ints w B (.slice bo d'.length cb) d') := hb
  clear ha hb
  have cS : Hid (∀ W, Below w.heap.size w W → Calls Tryd.prog 75 #[.slice ao d.length ca, .slice bo d'.length cb] W fun e w' => e = .returned (.bool (decide (d = d'))) ∧ ∃ n, w' = W.drewN n) := fun W hW =>
    sameInts_any _ _ d d' W W.heap.size (Nat.le_refl _) (HA.out.below (hW.mono hBw) (by have := hW.size; omega)) (HB.out.below (hW.mono hBw) (by have := hW.size; omega))
  clear HA HB
  have HE : Hid (ndEq ⟨a, b, c, d⟩ ⟨a', b', c', d'⟩ = (decide (a = a') && decide (b = b') && decide (c.toList = c'.toList) && decide (d = d'))) := rfl
  generalize ndEq ⟨a, b, c, d⟩ ⟨a', b', c', d'⟩ = r at *
  generalize decide (d = d') = q at *
  go_enter Tryd.func37, Tryd.ntmps37
  go_wp2_with (go_at_call 75; refine (cS.out _ (((Below.refl _ _).alloc (Nat.le_refl _) _).alloc (by simp) _)).mono ?_; rintro e w2 ⟨rfl, n2, rfl⟩)
  all_goals
    go_ret
    refine ⟨ret_bool (by rw [HE.out]; simp_all), ?_⟩
    first
    | exact below_drewN (((Below.refl _ _).alloc (Nat.le_refl _) _).alloc (by simp) _) _
    | exact ((Below.refl _ _).alloc (Nat.le_refl _) _).alloc (by simp) _

set_option maxHeartbeats 1000000 in
theorem same_any (va vb : Value) (xs ys : List Nd) (w : World) (B : Nat) (hBw : B ≤ w.heap.size) (ha : Nodes w B va xs) (hb : Nodes w B vb ys) :
    Calls Tryd.prog 15 #[va, vb] w fun e w' => e = .returned (.bool (decide (xs = ys))) ∧ Below w.heap.size w w' := by
  obtain ⟨ao, ca, rfl, hal, ham, hac⟩ := ha
  obtain ⟨bo, cb, rfl, hbl, hbm, hbc⟩ := hb
  unfold maxLen at ham hbm
  by_cases hll : xs.length = ys.length
  · have HA : Hid (xs = [] ∨ ∃ b o, ao = some ⟨b, o, none⟩ ∧ b < B ∧ ∀ i, i < xs.length → ∃ kv, NodeAt w B b (o + i * 4) (xs.getD i nd0) kv) := hac
    have HB : Hid (ys = [] ∨ ∃ b o, bo = some ⟨b, o, none⟩ ∧ b < B ∧ ∀ i, i < ys.length → ∃ kv, NodeAt w B b (o + i * 4) (ys.getD i nd0) kv) := hbc
    clear hac hbc
    rw [← hll] at HB hbl ⊢
    have HLL : Hid (xs.length = ys.length) := hll
    clear hll
    go_enter Tryd.func15, Tryd.ntmps15
    go_wp2
    go_loopw [5] (fun i wr => ∃ k : Nat, k ≤ xs.length ∧ i = .int .i64 k ∧ Hid (xs.take k = ys.take k) ∧ Below w.heap.size w wr) (fun i _ => xs.length - (RowKit.intOf i).toNat)
    case atStart => exact ⟨0, by omega, rfl, rfl, Below.refl _ _⟩
    case round =>
      obtain ⟨k, hk, rfl, hpre, hB⟩ := hrel
      have hsz := hB.size
      by_cases hlt : k < xs.length
      · obtain ⟨b1, o1, rfl, hb1, hc1⟩ : ∃ b o, ao = some ⟨b, o, none⟩ ∧ b < B ∧ ∀ i, i < xs.length → ∃ kv, NodeAt w B b (o + i * 4) (xs.getD i nd0) kv := by
          rcases HA.out with h | h
          · subst h; simp at hlt
          · exact h
        obtain ⟨b2, o2, rfl, hb2, hc2⟩ : ∃ b o, bo = some ⟨b, o, none⟩ ∧ b < B ∧ ∀ i, i < xs.length → ∃ kv, NodeAt w B b (o + i * 4) (ys.getD i nd0) kv := by
          rcases HB.out with h | h
          · have := HLL.out; rw [h] at this; simp at this; rw [this] at hlt; simp at hlt
          · exact h
        obtain ⟨k1, n1⟩ := hc1 k hlt
        obtain ⟨k2, n2⟩ := hc2 k hlt
        clear hc1 hc2 HA HB
        have n1 := n1.below (hB.mono hBw) (Nat.le_refl _) hb1
        have n2 := n2.below (hB.mono hBw) (Nat.le_refl _) hb2
        have hx : Hid (∀ x y, xs.getD k nd0 = x → ys.getD k nd0 = y → xs.take (k + 1) = xs.take k ++ [x] ∧ ys.take (k + 1) = ys.take k ++ [y] ∧ (xs = ys → x = y)) := by
          intro x y hx hy
          have hlt2 : k < ys.length := by have := HLL.out; omega
          rw [List.take_succ_eq_append_getElem hlt, List.take_succ_eq_append_getElem hlt2, ← hx, ← hy]
          refine ⟨by simp [hlt], by simp [hlt2], fun h => by rw [h]⟩
        generalize hx1 : xs.getD k nd0 = x at *
        generalize hy1 : ys.getD k nd0 = y at *
        have hx := hx.out x y rfl rfl
        clear hx1 hy1
        have HX : Hid (xs.take (k + 1) = xs.take k ++ [x] ∧ ys.take (k + 1) = ys.take k ++ [y] ∧ (xs = ys → x = y)) := hx
        clear hx
        have cS : Hid (∀ W, Below wr.heap.size wr W → Calls Tryd.prog 37 #[.agg #[.int .i64 x.op, .int .i64 x.n, .string x.name, k1], .agg #[.int .i64 y.op, .int .i64 y.n, .string y.name, k2]] W fun e w' => e = .returned (.bool (ndEq x y)) ∧ Below W.heap.size W w') := fun W hW =>
          sameNode_any x y k1 k2 W W.heap.size (Nat.le_refl _) (n1.kids.below (hW.mono (by omega)) (by have := hW.size; omega)) (n2.kids.below (hW.mono (by omega)) (by have := hW.size; omega))
        obtain ⟨c0, c1, c2, c3, hk1⟩ := n1
        obtain ⟨e0, e1, e2, e3, hk2⟩ := n2
        obtain ⟨ka1, kc1, rfl, hk1⟩ := hk1
        obtain ⟨ka2, kc2, rfl, hk2⟩ := hk2
        clear hk1 hk2
        have HE : Hid (ndEq x y = true ↔ x = y) := ndEq_iff x y
        generalize ndEq x y = q at *
        obtain ⟨a, b, c, d⟩ := x
        obtain ⟨a', b', c', d'⟩ := y
        simp only at c0 c1 c2 c3 e0 e1 e2 e3 cS
        go_wp2
        go_region_with (go_at_call 37; refine (cS.out _ (Below.refl _ _).drew).mono ?_; rintro e w2 ⟨rfl, hb2⟩)
        all_goals go_wp2
        all_goals first
          | (have hq : (!q) = true := by assumption
             go_ret
             have hne : ¬ xs = ys := fun h => by
               have := HE.out.2 (HX.out.2.2 h)
               rw [this] at hq; cases hq
             exact ⟨ret_bool (by simp [hne]), hB.trans ((Below.refl _ _).drew.trans hb2 |>.mono hsz)⟩)
          | (have hq : (!q) = false := by assumption
             refine ⟨⟨k + 1, by omega, by go_num, ?_, hB.trans ((Below.refl _ _).drew.trans hb2 |>.mono hsz)⟩, by simp [RowKit.intOf]; omega⟩
             show xs.take (k + 1) = ys.take (k + 1)
             rw [HX.out.1, HX.out.2.1, hpre.out, HE.out.1 (by simpa using hq)])
      · have hke : k = xs.length := by omega
        subst hke
        go_wp2
        go_ret
        have : xs = ys := by
          have h := hpre.out
          rw [List.take_length, HLL.out, List.take_length] at h; exact h
        exact ⟨ret_bool (by simp [this]), hB⟩
  · go_enter Tryd.func15, Tryd.ntmps15
    go_wp2
    go_ret
    exact ⟨ret_bool (by
      have : ¬ xs = ys := fun h => hll (by rw [h])
      simp [this]), Below.refl _ _⟩
end Go.Proofs.YtkdcjkhpbbcncaaDoor
