/-
  ExSameW, ExBegW, ExPartW.
-/
import Derived.Test.YtlbmijcpalfaeaaGreatDoorP03
import Derived.Deep.QuietTactic
import Derived.BigQuiet
import Derived.Deep.RegionWith
set_option linter.unusedSimpArgs false
set_option linter.unusedVariables false
namespace Go.Proofs.YtlbmijcpalfaeaaGreatDoor
open Go.RowKit Go.Lib

set_option maxHeartbeats 1000000 in
theorem sameInts_any (va vb : Value) (xs ys : List Int) (w : World) (B : Nat) (hBw : B ≤ w.heap.size) (ha : Ints w B va xs) (hb : Ints w B vb ys) :
    Calls Tryz.prog 49 #[va, vb] w fun e w' => e = .returned (.bool (decide (xs = ys))) ∧ ∃ n, w' = w.drewN n := by
  obtain ⟨ao, ca, rfl, hal, ham, hac⟩ := ha
  obtain ⟨bo, cb, rfl, hbl, hbm, hbc⟩ := hb
  replace ham := ham.1
  replace hbm := hbm.1
  unfold maxLen at ham hbm
  by_cases hll : xs.length = ys.length
  · have HA : Hid (xs = [] ∨ ∃ b o, ao = some ⟨b, o, none⟩ ∧ b < B ∧ ∀ j, j < xs.length → w.cell? ⟨b, o + j, none⟩ = some (.int .i64 (xs.getD j 0))) := hac
    have HB : Hid (ys = [] ∨ ∃ b o, bo = some ⟨b, o, none⟩ ∧ b < B ∧ ∀ j, j < ys.length → w.cell? ⟨b, o + j, none⟩ = some (.int .i64 (ys.getD j 0))) := hbc
    clear hac hbc
    rw [← hll] at HB hbl ⊢
    have HLL : Hid (xs.length = ys.length) := hll
    clear hll
    go_enter Tryz.func49, Tryz.ntmps49
    go_wp2
    go_loopw [5] (fun i wr => ∃ k : Nat, k ≤ xs.length ∧ i = .int .i64 k ∧ Hid (xs.take k = ys.take k) ∧ ∃ n, wr = w.drewN n) (fun i _ => xs.length - (RowKit.intOf i).toNat)
    case atStart => exact ⟨0, by omega, rfl, rfl, 0, rfl⟩
    case round =>
      obtain ⟨k, hk, rfl, hpre, nd, rfl⟩ := hrel
      by_cases hlt : k < xs.length
      · obtain ⟨b1, o1, rfl, hb1, hc1⟩ : ∃ b o, ao = some ⟨b, o, none⟩ ∧ b < B ∧ ∀ j, j < xs.length → w.cell? ⟨b, o + j, none⟩ = some (.int .i64 (xs.getD j 0)) := by
          rcases HA.out with h | h
          · subst h; simp at hlt
          · exact h
        obtain ⟨b2, o2, rfl, hb2, hc2⟩ : ∃ b o, bo = some ⟨b, o, none⟩ ∧ b < B ∧ ∀ j, j < xs.length → w.cell? ⟨b, o + j, none⟩ = some (.int .i64 (ys.getD j 0)) := by
          rcases HB.out with h | h
          · have := HLL.out; rw [h] at this; simp at this; rw [this] at hlt; simp at hlt
          · exact h
        have c1 := hc1 k hlt
        have c2 := hc2 k hlt
        clear hc1 hc2 HA HB
        have hx : Hid (∀ x y, xs.getD k 0 = x → ys.getD k 0 = y → xs.take (k + 1) = xs.take k ++ [x] ∧ ys.take (k + 1) = ys.take k ++ [y] ∧ (xs = ys → x = y)) := by
          intro x y hx hy
          have hlt2 : k < ys.length := by have := HLL.out; omega
          rw [List.take_succ_eq_append_getElem hlt, List.take_succ_eq_append_getElem hlt2, ← hx, ← hy]
          refine ⟨by simp [hlt], by simp [hlt2], fun h => by rw [h]⟩
        generalize hx1 : xs.getD k 0 = x at *
        generalize hy1 : ys.getD k 0 = y at *
        have hx := hx.out x y rfl rfl
        clear hx1 hy1
        have HX : Hid (xs.take (k + 1) = xs.take k ++ [x] ∧ ys.take (k + 1) = ys.take k ++ [y] ∧ (xs = ys → x = y)) := hx
        clear hx
        go_wp2
        go_quiet (fail)
        go_wp2
        · go_ret
          have hne : ¬ x = y := by
            have : (x != y) = true := by assumption
            simpa using this
          exact ⟨ret_bool (by
            have : ¬ xs = ys := fun h => hne (HX.out.2.2 h)
            simp [this]), nd + nq, World.drewN_drewN _ _ _⟩
        · have he : x = y := by
            have : (x != y) = false := by assumption
            simpa using this
          refine ⟨⟨k + 1, by omega, by go_num, ?_, _, rfl⟩, by simp [RowKit.intOf]; omega⟩
          show xs.take (k + 1) = ys.take (k + 1)
          rw [HX.out.1, HX.out.2.1, hpre.out, he]
      · have hke : k = xs.length := by omega
        subst hke
        go_wp2
        go_ret
        have : xs = ys := by
          have h := hpre.out
          rw [List.take_length, HLL.out, List.take_length] at h; exact h
        exact ⟨ret_bool (by simp [this]), nd, rfl⟩
  · go_enter Tryz.func49, Tryz.ntmps49
    go_wp2
    go_ret
    exact ⟨ret_bool (by
      have : ¬ xs = ys := fun h => hll (by rw [h])
      simp [this]), 0, rfl⟩

theorem bytes_inj (a b : ByteArray) : a.toList = b.toList ↔ a = b := by
  constructor
  · intro h
    have h2 : a.data.toList = b.data.toList := by simpa [ByteArray.toList_eq] using h
    exact ByteArray.ext (Array.toList_inj.1 h2)
  · intro h; rw [h]

theorem below_drewN {B : Nat} {w w' : World} (h : Below B w w') (n : Nat) : Below B w (w'.drewN n) := ⟨h.os, h.tape, h.output, h.size, h.block⟩

/-- The same node? -/
def ndEq (x y : Nd) : Bool := decide (x.op = y.op) && decide (x.n = y.n) && decide (x.name.toList = y.name.toList) && decide (x.kids = y.kids)
theorem ndEq_iff (x y : Nd) : ndEq x y = true ↔ x = y := by
  obtain ⟨a, b, c, d⟩ := x
  obtain ⟨a', b', c', d'⟩ := y
  simp only [ndEq, Bool.and_eq_true, decide_eq_true_eq, Nd.mk.injEq, and_assoc, bytes_inj]

theorem Ints.drewN {w : World} {B : Nat} {v : Value} {ks : List Int} (h : Ints w B v ks) (n : Nat) : Ints (w.drewN n) B v ks := h

set_option maxHeartbeats 1000000 in
theorem sameNode_any (x y : Nd) (vx vy : Value) (w : World) (B : Nat) (hBw : B ≤ w.heap.size) (ha : Ints w B vx x.kids) (hb : Ints w B vy y.kids) :
    Calls Tryz.prog 96 #[.agg #[.int .i64 x.op, .int .i64 x.n, .string x.name, vx], .agg #[.int .i64 y.op, .int .i64 y.n, .string y.name, vy]] w fun e w' => e = .returned (.bool (ndEq x y)) ∧ Below w.heap.size w w' := by
  obtain ⟨a, b, c, d⟩ := x
  obtain ⟨a', b', c', d'⟩ := y
  simp only at ha hb ⊢
  obtain ⟨ao, ca, rfl, ha0⟩ := id ha
  obtain ⟨bo, cb, rfl, hb0⟩ := id hb
  clear ha0 hb0
  have HA : Hid (Ints w B (.slice ao d.length ca) d) := ha
  have HB : Hid (Ints w B (.slice bo d'.length cb) d') := hb
  clear ha hb
  have cS : Hid (∀ W, Below w.heap.size w W → Calls Tryz.prog 49 #[.slice ao d.length ca, .slice bo d'.length cb] W fun e w' => e = .returned (.bool (decide (d = d'))) ∧ ∃ n, w' = W.drewN n) := fun W hW =>
    sameInts_any _ _ d d' W W.heap.size (Nat.le_refl _) (HA.out.below (hW.mono hBw) (by have := hW.size; omega)) (HB.out.below (hW.mono hBw) (by have := hW.size; omega))
  clear HA HB
  have HE : Hid (ndEq ⟨a, b, c, d⟩ ⟨a', b', c', d'⟩ = (decide (a = a') && decide (b = b') && decide (c.toList = c'.toList) && decide (d = d'))) := rfl
  generalize ndEq ⟨a, b, c, d⟩ ⟨a', b', c', d'⟩ = r at *
  generalize decide (d = d') = q at *
  go_enter Tryz.func96, Tryz.ntmps96
  go_wp2_with (go_at_call 49; refine (cS.out _ (((Below.refl _ _).alloc (Nat.le_refl _) _).alloc (by simp) _)).mono ?_; rintro e w2 ⟨rfl, n2, rfl⟩)
  all_goals
    go_ret
    refine ⟨ret_bool (by rw [HE.out]; simp_all), ?_⟩
    first
    | exact below_drewN (((Below.refl _ _).alloc (Nat.le_refl _) _).alloc (by simp) _) _
    | exact ((Below.refl _ _).alloc (Nat.le_refl _) _).alloc (by simp) _

set_option maxHeartbeats 1000000 in
theorem same_any (va vb : Value) (xs ys : List Nd) (w : World) (B : Nat) (hBw : B ≤ w.heap.size) (ha : Nodes w B va xs) (hb : Nodes w B vb ys) :
    Calls Tryz.prog 71 #[va, vb] w fun e w' => e = .returned (.bool (decide (xs = ys))) ∧ Below w.heap.size w w' := by
  obtain ⟨ao, ca, rfl, hal, ham, hac⟩ := ha
  obtain ⟨bo, cb, rfl, hbl, hbm, hbc⟩ := hb
  unfold maxLen at ham hbm
  by_cases hll : xs.length = ys.length
  · have HA : Hid (xs = [] ∨ ∃ b o, ao = some ⟨b, o, none⟩ ∧ b < B ∧ ∀ i, i < xs.length → ∃ kv, NodeAt w B b (o + i * 4) (xs.getD i nd0) kv) := hac
    have HB : Hid (ys = [] ∨ ∃ b o, bo = some ⟨b, o, none⟩ ∧ b < B ∧ ∀ i, i < ys.length → ∃ kv, NodeAt w B b (o + i * 4) (ys.getD i nd0) kv) := hbc
    clear hac hbc
    rw [← hll] at HB hbl ⊢
    have HLL : Hid (xs.length = ys.length) := hll
    clear hll
    go_enter Tryz.func71, Tryz.ntmps71
    go_wp2
    go_loopw [5] (fun i wr => ∃ k : Nat, k ≤ xs.length ∧ i = .int .i64 k ∧ Hid (xs.take k = ys.take k) ∧ Below w.heap.size w wr) (fun i _ => xs.length - (RowKit.intOf i).toNat)
    case atStart => exact ⟨0, by omega, rfl, rfl, Below.refl _ _⟩
    case round =>
      obtain ⟨k, hk, rfl, hpre, hB⟩ := hrel
      have hsz := hB.size
      by_cases hlt : k < xs.length
      · obtain ⟨b1, o1, rfl, hb1, hc1⟩ : ∃ b o, ao = some ⟨b, o, none⟩ ∧ b < B ∧ ∀ i, i < xs.length → ∃ kv, NodeAt w B b (o + i * 4) (xs.getD i nd0) kv := by
          rcases HA.out with h | h
          · subst h; simp at hlt
          · exact h
        obtain ⟨b2, o2, rfl, hb2, hc2⟩ : ∃ b o, bo = some ⟨b, o, none⟩ ∧ b < B ∧ ∀ i, i < xs.length → ∃ kv, NodeAt w B b (o + i * 4) (ys.getD i nd0) kv := by
          rcases HB.out with h | h
          · have := HLL.out; rw [h] at this; simp at this; rw [this] at hlt; simp at hlt
          · exact h
        obtain ⟨k1, n1⟩ := hc1 k hlt
        obtain ⟨k2, n2⟩ := hc2 k hlt
        clear hc1 hc2 HA HB
        have n1 := n1.below (hB.mono hBw) (Nat.le_refl _) hb1
        have n2 := n2.below (hB.mono hBw) (Nat.le_refl _) hb2
        have hx : Hid (∀ x y, xs.getD k nd0 = x → ys.getD k nd0 = y → xs.take (k + 1) = xs.take k ++ [x] ∧ ys.take (k + 1) = ys.take k ++ [y] ∧ (xs = ys → x = y)) := by
          intro x y hx hy
          have hlt2 : k < ys.length := by have := HLL.out; omega
          rw [List.take_succ_eq_append_getElem hlt, List.take_succ_eq_append_getElem hlt2, ← hx, ← hy]
          refine ⟨by simp [hlt], by simp [hlt2], fun h => by rw [h]⟩
        generalize hx1 : xs.getD k nd0 = x at *
        generalize hy1 : ys.getD k nd0 = y at *
        have hx := hx.out x y rfl rfl
        clear hx1 hy1
        have HX : Hid (xs.take (k + 1) = xs.take k ++ [x] ∧ ys.take (k + 1) = ys.take k ++ [y] ∧ (xs = ys → x = y)) := hx
        clear hx
        have cS : Hid (∀ W, Below wr.heap.size wr W → Calls Tryz.prog 96 #[.agg #[.int .i64 x.op, .int .i64 x.n, .string x.name, k1], .agg #[.int .i64 y.op, .int .i64 y.n, .string y.name, k2]] W fun e w' => e = .returned (.bool (ndEq x y)) ∧ Below W.heap.size W w') := fun W hW =>
          sameNode_any x y k1 k2 W W.heap.size (Nat.le_refl _) (n1.kids.below (hW.mono (by omega)) (by have := hW.size; omega)) (n2.kids.below (hW.mono (by omega)) (by have := hW.size; omega))
        obtain ⟨c0, c1, c2, c3, hk1⟩ := n1
        obtain ⟨e0, e1, e2, e3, hk2⟩ := n2
        obtain ⟨ka1, kc1, rfl, hk1⟩ := hk1
        obtain ⟨ka2, kc2, rfl, hk2⟩ := hk2
        clear hk1 hk2
        have HE : Hid (ndEq x y = true ↔ x = y) := ndEq_iff x y
        generalize ndEq x y = q at *
        obtain ⟨a, b, c, d⟩ := x
        obtain ⟨a', b', c', d'⟩ := y
        simp only at c0 c1 c2 c3 e0 e1 e2 e3 cS
        go_wp2
        go_region_with (go_at_call 96; refine (cS.out _ (Below.refl _ _).drew).mono ?_; rintro e w2 ⟨rfl, hb2⟩)
        all_goals go_wp2
        all_goals first
          | (have hq : (!q) = true := by assumption
             go_ret
             have hne : ¬ xs = ys := fun h => by
               have := HE.out.2 (HX.out.2.2 h)
               rw [this] at hq; cases hq
             exact ⟨ret_bool (by simp [hne]), hB.trans ((Below.refl _ _).drew.trans hb2 |>.mono hsz)⟩)
          | (have hq : (!q) = false := by assumption
             refine ⟨⟨k + 1, by omega, by go_num, ?_, hB.trans ((Below.refl _ _).drew.trans hb2 |>.mono hsz)⟩, by simp [RowKit.intOf]; omega⟩
             show xs.take (k + 1) = ys.take (k + 1)
             rw [HX.out.1, HX.out.2.1, hpre.out, HE.out.1 (by simpa using hq)])
      · have hke : k = xs.length := by omega
        subst hke
        go_wp2
        go_ret
        have : xs = ys := by
          have h := hpre.out
          rw [List.take_length, HLL.out, List.take_length] at h; exact h
        exact ⟨ret_bool (by simp [this]), hB⟩
  · go_enter Tryz.func71, Tryz.ntmps71
    go_wp2
    go_ret
    exact ⟨ret_bool (by
      have : ¬ xs = ys := fun h => hll (by rw [h])
      simp [this]), Below.refl _ _⟩
end Go.Proofs.YtlbmijcpalfaeaaGreatDoor

set_option linter.unusedSimpArgs false
set_option linter.unusedVariables false
namespace Go.Proofs.YtlbmijcpalfaeaaGreatDoor
open Go.RowKit Go.Lib

theorem rowIs_below {w w' : World} {b : Nat} {t : TypeId} {n : Nat} {f : Nat → Value} (h : w.rowIs b t n f) (hb : Below w.heap.size w w') : w'.rowIs b t n f := by
  have hlt := h.lt
  unfold World.rowIs at h ⊢
  rw [hb.block b hlt]; exact h

theorem begR_take_succ {l : List Nd} {k : Nat} {fr : List Nat} (hlt : k < l.length) (h : begR [] (l.take k) = some fr) : begR [] (l.take (k + 1)) = stp fr (l.getD k nd0) := by
  rw [List.take_succ_eq_append_getElem hlt, begR_snoc, h]; simp [hlt]

theorem begL_none_of {l : List Nd} {k : Nat} {fr : List Nat} (hlt : k < l.length) (h : begR [] (l.take k) = some fr) (hs : stp fr (l.getD k nd0) = none) : begL l = none := by
  unfold begL
  split
  · rfl
  · rw [begR_take_none (i := k + 1) (by rw [begR_take_succ hlt h, hs])]; rfl

theorem node_kid {wr w2 : World} {a b c d : Value} {t : TypeId} (h : Below (wr.alloc (.cells #[a, b, c, d] t)).heap.size (wr.alloc (.cells #[a, b, c, d] t)) w2) : w2.cell? ⟨wr.heap.size, 3, none⟩ = some d := by
  rw [h.cell (p := ⟨wr.heap.size, 3, none⟩) (by simp)]; simp

def BegPost (w : World) (l : List Nd) (e : Ending) (w' : World) : Prop :=
  Below w.heap.size w w' ∧ ((begL l = none ∧ e = .returned (.slice none 0 0)) ∨ ∃ fr, begL l = some fr ∧ ∃ g, e = .returned (.slice (some ⟨g, 0, none⟩) l.length l.length) ∧ w.heap.size ≤ g ∧ g < w'.heap.size ∧ ∀ j, j < l.length → w'.cell? ⟨g, j, none⟩ = some (.int .i64 (fr.getD j 0 : Nat)))

set_option maxHeartbeats 2000000 in
theorem begins_any (vs : Value) (l : List Nd) (w : World) (B : Nat) (hBw : B ≤ w.heap.size) (hT : SpanCells w) (hN : Nodes w B vs l) :
    Calls Tryz.prog 21 #[vs] w fun e w' => BegPost w l e w' := by
  obtain ⟨ao, cap0, rfl, hl, hm, hc⟩ := hN
  unfold maxLen at hm
  by_cases h0 : l.length = 0
  · have hb : Hid (begL l = none) := by show begL l = none; unfold begL; simp [h0]
    have hz : l = [] := List.length_eq_zero_iff.1 h0
    subst hz
    go_enter Tryz.func21, Tryz.ntmps21
    go_wp2
    go_ret
    exact ⟨Below.refl _ _, .inl ⟨hb.out, rfl⟩⟩
  by_cases h64 : 64 < l.length
  · have hb : Hid (begL l = none) := by show begL l = none; unfold begL; simp [h64]
    have g1 : ((l.length : Int) == 0) = false := by rw [beq_eq_false_iff_ne]; omega
    have g2 : (64 : Int) < (l.length : Int) := by omega
    go_enter Tryz.func21, Tryz.ntmps21
    go_wp2
    go_ret
    exact ⟨Below.refl _ _, .inl ⟨hb.out, rfl⟩⟩
  obtain ⟨b, o, rfl, hbl, hc'⟩ : ∃ b o, ao = some ⟨b, o, none⟩ ∧ b < B ∧ ∀ i, i < l.length → ∃ kv, NodeAt w B b (o + i * 4) (l.getD i nd0) kv := by
    rcases hc with h | h
    · subst h; simp at h0
    · exact h
  have HC : Hid (∀ i, i < l.length → ∃ kv, NodeAt w B b (o + i * 4) (l.getD i nd0) kv) := hc'
  clear hc hc'
  have g1 : ((l.length : Int) == 0) = false := by rw [beq_eq_false_iff_ne]; omega
  have g2 : ¬ (64 : Int) < (l.length : Int) := by omega
  have hmk := run_make_row' (P := Tryz.prog) 24 3 (.int .i64 0) 8 Tryz.underlying24 Tryz.info3 rfl .i64 .i64 l.length (by omega) (by omega)
  have HT : Hid (SpanCells w) := hT
  clear hT
  go_enter Tryz.func21, Tryz.ntmps21
  go_wp2
  go_loopw [21] (fun i wr => ∃ (k : Nat) (fr : List Nat), k ≤ l.length ∧ i = .int .i64 k ∧ Hid (begR [] (l.take k) = some fr) ∧ wr.rowIs w.heap.size 3 l.length (fun j => .int .i64 (fr.getD j 0 : Nat)) ∧ Below w.heap.size w wr) (fun i _ => l.length - (RowKit.intOf i).toNat)
  case atStart => exact ⟨0, [], by omega, rfl, rfl, World.rowIs_made _ _ _ _, (Below.refl _ _).alloc (Nat.le_refl _) _⟩
  case round =>
    obtain ⟨k, fr, hk, rfl, hbr, hrow, hB⟩ := hrel
    have hsz := hB.size
    have hgl := hrow.lt
    clear hmk
    by_cases hlt : k < l.length
    · obtain ⟨kv, hNA⟩ := HC.out k hlt
      have hNA := hNA.below (hB.mono hBw) (Nat.le_refl _) hbl
      have HS : Hid (stp fr (l.getD k nd0) = none → begL l = none) := begL_none_of hlt hbr.out
      have HS2 : Hid (begR [] (l.take (k + 1)) = stp fr (l.getD k nd0)) := begR_take_succ hlt hbr.out
      have hfl : fr.length = k := by have := begR_len hbr.out; simp at this; omega
      have hlow := (begR_some hbr.out low_nil).2.1
      generalize l.getD k nd0 = x at *
      obtain ⟨op, n, nm, kids⟩ := x
      obtain ⟨c0, c1, c2, c3, hki⟩ := hNA
      simp only at c0 c1 c2 c3 hki
      obtain ⟨ka, kc, rfl, hkl, ⟨hkm, _⟩, hkc⟩ := hki
      unfold maxLen at hkm
      have HKC : Hid (kids = [] ∨ ∃ b o, ka = some ⟨b, o, none⟩ ∧ b < B ∧ ∀ j, j < kids.length → wr.cell? ⟨b, o + j, none⟩ = some (.int .i64 (kids.getD j 0))) := hkc
      clear hkc
      have hb9 : b < wr.heap.size := by omega
      have hb8 : b ≠ wr.heap.size := by omega
      have hTr : SpanCells (wr.alloc (.cells #[.int .i64 op, .int .i64 n, .string nm, .slice ka kids.length kc] 41)) := HT.out.below (hB.alloc hsz _)
      have HFL : Hid (fr.length = k) := hfl
      clear hfl
      cases hf : fitB op n nm kids.length
      · have hnone : Hid (begL l = none) := HS.out (by simp [stp, formB, hf])
        go_wp2_with (go_at_call 34; refine (fits_any _ _ _ _ _ hTr).mono ?_; rintro e w2 ⟨rfl, hb2⟩)
        go_ret
        exact ⟨(hB.alloc hsz _).trans (hb2.mono (by simp; omega)), .inl ⟨hnone.out, rfl⟩⟩
      · have HF : Hid (stp fr ⟨op, n, nm, kids⟩ = (chainL fr kids.reverse k).map (fun a => fr ++ [a])) := by show stp fr ⟨op, n, nm, kids⟩ = _; simp [stp, formB, hf, HFL.out]
        go_wp2_with (go_at_call 34; refine (fits_any _ _ _ _ _ hTr).mono ?_; rintro e w2 ⟨rfl, hb2⟩; rw [hf]; have d3 : w2.cell? ⟨wr.heap.size, 3, none⟩ = some (.slice ka kids.length kc) := node_kid hb2)
        have hz2 : wr.heap.size + 1 ≤ w2.heap.size := by have := hb2.size; simpa using this
        have hrow2 := rowIs_below (hrow.alloc _) hb2
        have hBw2 : Below wr.heap.size wr w2 := ((Below.refl _ _).alloc (Nat.le_refl _) _).trans (hb2.mono (by simp))
        have HB2 : Hid (Below w.heap.size w w2) := hB.trans (hBw2.mono hsz)
        have HKC2 : Hid (kids = [] ∨ ∃ b o, ka = some ⟨b, o, none⟩ ∧ ∀ j, j < kids.length → w2.cell? ⟨b, o + j, none⟩ = some (.int .i64 (kids.getD j 0))) := by
          rcases HKC.out with h | ⟨b, o, h1, h2, h3⟩
          · exact .inl h
          · exact .inr ⟨b, o, h1, fun j hj => (hBw2.cell (p := ⟨b, o + j, none⟩) (by show b < wr.heap.size; omega)).trans (h3 j hj)⟩
        have HL : Hid (Low fr) := hlow
        have HR2 : Hid (w2.rowIs w.heap.size 3 l.length fun j => .int .i64 (fr.getD j 0 : Nat)) := hrow2
        clear hb2 hrow hrow2 hB hBw2 HKC hTr hf hlow c0 c1 c2 c3
        go_loop [6, 7] (fun a q => ∃ (c m : Nat) (z : Int), a = .int .i64 c ∧ q = .int .i64 z ∧ Hid (z = (m : Int) - 1) ∧ c ≤ k ∧ m ≤ kids.length ∧ Hid (chainL fr (kids.take m).reverse c = chainL fr kids.reverse k)) (fun _ q => (RowKit.intOf q + 1).toNat)
        case atStart => exact ⟨k, kids.length, _, rfl, rfl, rfl, Nat.le_refl _, Nat.le_refl _, by rw [List.take_length]; rfl⟩
        case round =>
          obtain ⟨c, m, z, rfl, rfl, hz, hck, hmk, hch⟩ := hrel
          cases m with
          | zero =>
            have hz1 : z = -1 := by have := hz.out; omega
            subst hz1
            have hcc : chainL fr kids.reverse k = some c := by rw [← hch.out]; simp [chainL]
            have HCC : Hid (stp fr ⟨op, n, nm, kids⟩ = some (fr ++ [c])) := by show stp fr ⟨op, n, nm, kids⟩ = _; rw [HF.out, hcc]; rfl
            clear hcc
            have f0 := HR2.out.frozen k
            have e0 := HR2.out.cell hlt
            have hgl2 : w.heap.size < w2.heap.size := by omega
            go_wp2
            refine ⟨⟨k + 1, fr ++ [c], by omega, by go_num, ?_, ?_, HB2.out.setCell (Nat.le_refl _) _⟩, by simp [RowKit.intOf]; omega⟩
            · show begR [] (l.take (k + 1)) = some (fr ++ [c])
              rw [HS2.out, HCC.out]
            · exact (HR2.out.set k _).congr (fun j hj => by
                show (if j = k then Value.int .i64 (c : Nat) else .int .i64 (fr.getD j 0 : Nat)) = .int .i64 ((fr ++ [c]).getD j 0 : Nat)
                rw [getD_snoc, HFL.out]
                by_cases hjk : j < k
                · rw [if_neg (by omega), if_pos hjk]
                · by_cases hje : j = k
                  · rw [if_pos hje, if_neg hjk, if_pos hje]
                  · rw [if_neg hje, if_neg hjk, if_neg hje]
                    have : fr.getD j 0 = 0 := by rw [List.getD_eq_getElem?_getD, List.getElem?_eq_none (by rw [HFL.out]; omega)]; rfl
                    rw [this])
          | succ m =>
            have hz1 : z = (m : Int) := by have := hz.out; omega
            subst hz1
            have hmlt : m < kids.length := by omega
            obtain ⟨kb, ko, rfl, hkc⟩ : ∃ b o, ka = some ⟨b, o, none⟩ ∧ ∀ j, j < kids.length → w2.cell? ⟨b, o + j, none⟩ = some (.int .i64 (kids.getD j 0)) := by
              rcases HKC2.out with h | h
              · subst h; simp at hmlt
              · exact h
            have hcm := hkc m hmlt
            clear hkc HKC2
            have hch2 : chainL fr (kids.take (m + 1)).reverse c = if c = 0 ∨ kids.getD m 0 ≠ (c : Int) - 1 then none else chainL fr (kids.take m).reverse (fr.getD (c - 1) 0) := by
              rw [List.take_succ_eq_append_getElem hmlt, List.reverse_append]
              simp [chainL, hmlt]
            generalize kids.getD m 0 = y at *
            have HCH : Hid (chainL fr kids.reverse k = if c = 0 ∨ y ≠ (c : Int) - 1 then none else chainL fr (kids.take m).reverse (fr.getD (c - 1) 0)) := by show chainL fr kids.reverse k = _; rw [← hch.out, hch2]
            clear hch hch2 hz
            by_cases hc0 : c = 0
            · subst hc0
              have hnone : Hid (begL l = none) := HS.out (by rw [HF.out, HCH.out]; simp)
              go_wp2
              go_ret
              exact ⟨HB2.out, .inl ⟨hnone.out, rfl⟩⟩
            · obtain ⟨c, rfl⟩ : ∃ d, c = d + 1 := ⟨c - 1, by omega⟩
              by_cases hy : y = (c : Int)
              · subst hy
                have e0 := HR2.out.cell (i := c) (by omega)
                have hle := HL.out c
                go_wp2
                refine ⟨⟨fr.getD c 0, m, _, rfl, rfl, rfl, by omega, by omega, ?_⟩, by simp [RowKit.intOf]⟩
                show chainL fr (kids.take m).reverse (fr.getD c 0) = chainL fr kids.reverse k
                rw [HCH.out, if_neg (by omega)]; rfl
              · have hnone : Hid (begL l = none) := HS.out (by rw [HF.out, HCH.out, if_pos (.inr (by omega)), Option.map_none])
                have hy2 : (y != (c : Int)) = true := by rw [bne_iff_ne]; exact hy
                go_wp2
                go_ret
                exact ⟨HB2.out, .inl ⟨hnone.out, rfl⟩⟩
    · have hke : k = l.length := by omega
      subst hke
      have hbr' : begR [] l = some fr := by have := hbr.out; rw [List.take_length] at this; exact this
      have HBR : Hid (begR [] l = some fr) := hbr'
      clear hbr hbr'
      have e0 := hrow.cell (i := l.length - 1) (by omega)
      have HR : Hid (wr.rowIs w.heap.size 3 l.length fun j => .int .i64 (fr.getD j 0 : Nat)) := hrow
      clear hrow
      by_cases hz : fr.getD (l.length - 1) 0 = 0
      · have hs : Hid (begL l = some fr) := begL_mk (by omega) (by omega) HBR.out hz
        simp only [hz] at e0
        clear hz
        go_wp2
        go_ret
        exact ⟨hB, .inr ⟨fr, hs.out, w.heap.size, rfl, Nat.le_refl _, hgl, fun j hj => HR.out.cell hj⟩⟩
      · have hs : Hid (begL l = none) := by
          show begL l = none
          unfold begL
          rw [if_neg (by omega), HBR.out, Option.bind_some, if_neg hz]
        generalize fr.getD (l.length - 1) 0 = y at e0 hz
        have hy : ((y : Int) != 0) = true := by rw [bne_iff_ne]; omega
        go_wp2
        go_ret
        exact ⟨hB, .inl ⟨hs.out, rfl⟩⟩

theorem begins_none (vs : Value) (l : List Nd) (w : World) (B : Nat) (hBw : B ≤ w.heap.size) (hT : SpanCells w) (hN : Nodes w B vs l) (h : begL l = none) :
    Calls Tryz.prog 21 #[vs] w fun e w' => e = .returned (.slice none 0 0) ∧ Below w.heap.size w w' := by
  refine (begins_any vs l w B hBw hT hN).mono ?_
  rintro e w' ⟨hb, ⟨_, he⟩ | ⟨fr, hf, _⟩⟩
  · exact ⟨he, hb⟩
  · rw [h] at hf; cases hf
theorem begins_some (vs : Value) (l : List Nd) (fr : List Nat) (w : World) (B : Nat) (hBw : B ≤ w.heap.size) (hT : SpanCells w) (hN : Nodes w B vs l) (h : begL l = some fr) :
    Calls Tryz.prog 21 #[vs] w fun e w' => ∃ g, e = .returned (.slice (some ⟨g, 0, none⟩) l.length l.length) ∧ w.heap.size ≤ g ∧ g < w'.heap.size ∧ (∀ j, j < l.length → w'.cell? ⟨g, j, none⟩ = some (.int .i64 (fr.getD j 0 : Nat))) ∧ Below w.heap.size w w' := by
  refine (begins_any vs l w B hBw hT hN).mono ?_
  rintro e w' ⟨hb, ⟨hf, _⟩ | ⟨fr', hf, g, he, h1, h2, h3⟩⟩
  · rw [h] at hf; cases hf
  · rw [h] at hf; cases hf
    exact ⟨g, he, h1, h2, h3, hb⟩

theorem eql_nil (ao : Option Addr) (n c : Nat) (w : World) : (binOp .eql 24 (.slice ao n c) (.slice none 0 0)).run Tryz.prog w = .ok (.bool ao.isNone) w := by
  cases ao <;> kernel_rfl

set_option maxHeartbeats 400000 in
theorem check_none (vs : Value) (l : List Nd) (w : World) (B : Nat) (hBw : B ≤ w.heap.size) (hT : SpanCells w) (hN : Nodes w B vs l) (h : begL l = none) :
    Calls Tryz.prog 12 #[vs] w fun e w' => e = .returned (.int .i64 1) ∧ Below w.heap.size w w' := by
  have HS : Hid (begL l = none) := h
  clear h
  have hnil := eql_nil
  go_enter Tryz.func12, Tryz.ntmps12
  go_wp2_with (go_at_call 21; refine (begins_none vs l _ B hBw hT hN HS.out).mono ?_; rintro e w2 ⟨rfl, hb2⟩)
  go_ret
  exact ⟨rfl, hb2⟩
set_option maxHeartbeats 400000 in
theorem check_some (vs : Value) (l : List Nd) (fr : List Nat) (w : World) (B : Nat) (hBw : B ≤ w.heap.size) (hT : SpanCells w) (hN : Nodes w B vs l) (h : begL l = some fr) :
    Calls Tryz.prog 12 #[vs] w fun e w' => e = .returned (.int .i64 0) ∧ Below w.heap.size w w' := by
  have HS : Hid (begL l = some fr) := h
  clear h
  have hnil := eql_nil
  go_enter Tryz.func12, Tryz.ntmps12
  go_wp2_with (go_at_call 21; refine (begins_some vs l fr _ B hBw hT hN HS.out).mono ?_; rintro e w2 ⟨g, rfl, hg1, hg2, hg3, hb2⟩)
  go_ret
  exact ⟨rfl, hb2⟩
end Go.Proofs.YtlbmijcpalfaeaaGreatDoor

set_option linter.unusedSimpArgs false
set_option linter.unusedVariables false
namespace Go.Proofs.YtlbmijcpalfaeaaGreatDoor
open Go.RowKit Go.Lib

theorem OwnN.form {w : World} {base : Nat} {v : Value} {l : List Nd} (h : OwnN w base v l) : ∃ ao n cap, v = .slice ao n cap := by
  obtain ⟨ao, cap, h, _⟩ := Nodes_of_own h (Nat.le_refl _)
  exact ⟨ao, _, cap, h⟩
theorem OwnN.len {w : World} {base : Nat} {ao : Option Addr} {n cap : Nat} {l : List Nd} (h : OwnN w base (.slice ao n cap) l) : n = l.length := by
  obtain ⟨ao', cap', h, _⟩ := Nodes_of_own h (Nat.le_refl _)
  cases h; rfl

def partL (l : List Nd) (a b : Nat) : List Nd := ((l.drop a).take (b + 1 - a)).map (mvN 0 (-(a : Int)))
def putL (l : List Nd) (a b : Nat) (m : List Nd) : List Nd := (l.take a).map (mvN 0 0) ++ m.map (mvN 0 a) ++ (l.drop (b + 1)).map (mvN b ((m.length : Int) - ((b : Int) + 1 - a)))

theorem getD_sub (l : List Nd) (a m i : Nat) (h : i < m) : ((l.drop a).take m).getD i nd0 = l.getD (a + i) nd0 := by
  simp only [List.getD_eq_getElem?_getD, List.getElem?_take, if_pos h, List.getElem?_drop]

/-- A cut of a list that is read. -/
theorem Nodes.cut {w : World} {B b o cap : Nat} {l : List Nd} (hc : ∀ i, i < l.length → ∃ kv, NodeAt w B b (o + i * 4) (l.getD i nd0) kv) (hb : b < B) (a m cap' : Nat) (ham : a + m ≤ l.length) (hm : m ≤ cap') (hcap : cap' ≤ maxLen)
    (ao : Option Addr) (hao : m ≠ 0 → ao = some ⟨b, o + a * 4, none⟩) : Nodes w B (.slice ao m cap') ((l.drop a).take m) := by
  have hl : ((l.drop a).take m).length = m := by simp; omega
  refine ⟨ao, cap', by rw [hl], by omega, hcap, ?_⟩
  by_cases h0 : m = 0
  · left; exact List.length_eq_zero_iff.1 (by omega)
  · right
    refine ⟨b, o + a * 4, hao h0, hb, fun i hi => ?_⟩
    rw [hl] at hi
    obtain ⟨kv, hk⟩ := hc (a + i) (by omega)
    rw [getD_sub l a m i hi]
    have e : o + a * 4 + i * 4 = o + (a + i) * 4 := by omega
    rw [e]; exact ⟨kv, hk⟩

end Go.Proofs.YtlbmijcpalfaeaaGreatDoor
