/-
  ExSameW, ExBegW, ExPartW, ExSplPure.
-/
import Derived.Shelf.Unicode.DecodeSlow
import Derived.Laws.RangeAny
import Derived.Shelf.Strconv.Itoa0
import Derived.Shelf.LaysM
import Derived.Shelf.Strconv.Clone
import Derived.Shelf.Unicode.DecodeAny
import Derived.Shelf.Slices.CompactS
import Derived.Test.YtghgoifeineicaaDoorProg
import Derived.WalkKit
import Derived.Deep.DeepFit
import Derived.Lib.OthersKept
import Derived.Deep.AppendLies
import Derived.Deep.OwnRows
import Derived.Laws.AppendOwnNone
import Derived.Deep.QuietTactic
import Derived.BigQuiet
import Derived.Deep.RegionWith
import Derived.Test.YtghgoifeineicaaDoorZ01
import Derived.Test.YtghgoifeineicaaDoorZ02
import Derived.Test.YtghgoifeineicaaDoorZ03
set_option linter.unusedSimpArgs false
set_option linter.unusedVariables false
namespace Go.Proofs.YtghgoifeineicaaDoor
open Go.RowKit Go.Lib

set_option maxHeartbeats 1000000 in
theorem sameInts_any (va vb : Value) (xs ys : List Int) (w : World) (B : Nat) (hBw : B ≤ w.heap.size) (ha : Ints w B va xs) (hb : Ints w B vb ys) :
    Calls Tryd.prog 68 #[va, vb] w fun e w' => e = .returned (.bool (decide (xs = ys))) ∧ ∃ n, w' = w.drewN n := by
  obtain ⟨ao, ca, rfl, hal, ham, hac⟩ := ha
  obtain ⟨bo, cb, rfl, hbl, hbm, hbc⟩ := hb
  replace ham := ham.1
  replace hbm := hbm.1
  unfold maxLen at ham hbm
  by_cases hll : xs.length = ys.length
  · have HA : Hid (xs = [] ∨ ∃ b o, ao = some ⟨b, o, none⟩ ∧ b < B ∧ ∀ j, j < xs.length → w.cell? ⟨b, o + j, none⟩ = some (.int .i64 (xs.getD j 0))) := hac
    have HB : Hid (ys = [] ∨ ∃ b o, bo = some ⟨b, o, none⟩ ∧ b < B ∧ ∀ j, j < ys.length → w.cell? ⟨b, o + j, none⟩ = some (.int .i64 (ys.getD j 0))) := hbc
    clear hac hbc
    rw [← hll] at HB hbl ⊢
    have HLL : Hid (xs.length = ys.length) := hll
    clear hll
    go_enter Tryd.func68, Tryd.ntmps68
    go_wp2
    go_loopw [5] (fun i wr => ∃ k : Nat, k ≤ xs.length ∧ i = .int .i64 k ∧ Hid (xs.take k = ys.take k) ∧ ∃ n, wr = w.drewN n) (fun i _ => xs.length - (RowKit.intOf i).toNat)
    case atStart => exact ⟨0, by omega, rfl, rfl, 0, rfl⟩
    case round =>
      obtain ⟨k, hk, rfl, hpre, nd, rfl⟩ := hrel
      by_cases hlt : k < xs.length
      · obtain ⟨b1, o1, rfl, hb1, hc1⟩ : ∃ b o, ao = some ⟨b, o, none⟩ ∧ b < B ∧ ∀ j, j < xs.length → w.cell? ⟨b, o + j, none⟩ = some (.int .i64 (xs.getD j 0)) := by
          rcases HA.out with h | h
          · subst h; simp at hlt
          · exact h
        obtain ⟨b2, o2, rfl, hb2, hc2⟩ : ∃ b o, bo = some ⟨b, o, none⟩ ∧ b < B ∧ ∀ j, j < xs.length → w.cell? ⟨b, o + j, none⟩ = some (.int .i64 (ys.getD j 0)) := by
          rcases HB.out with h | h
          · have := HLL.out; rw [h] at this; simp at this; rw [this] at hlt; simp at hlt
          · exact h
        have c1 := hc1 k hlt
        have c2 := hc2 k hlt
        clear hc1 hc2 HA HB
        have hx : Hid (∀ x y, xs.getD k 0 = x → ys.getD k 0 = y → xs.take (k + 1) = xs.take k ++ [x] ∧ ys.take (k + 1) = ys.take k ++ [y] ∧ (xs = ys → x = y)) := by
          intro x y hx hy
          have hlt2 : k < ys.length := by have := HLL.out; omega
          rw [List.take_succ_eq_append_getElem hlt, List.take_succ_eq_append_getElem hlt2, ← hx, ← hy]
          refine ⟨by simp [hlt], by simp [hlt2], fun h => by rw [h]⟩
        generalize hx1 : xs.getD k 0 = x at *
        generalize hy1 : ys.getD k 0 = y at *
        have hx := hx.out x y rfl rfl
        clear hx1 hy1
        have HX : Hid (xs.take (k + 1) = xs.take k ++ [x] ∧ ys.take (k + 1) = ys.take k ++ [y] ∧ (xs = ys → x = y)) := hx
        clear hx
        go_wp2
        go_quiet (fail)
        go_wp2
        · go_ret
          have hne : ¬ x = y := by
            have : (x != y) = true := by assumption
            simpa using this
          exact ⟨ret_bool (by
            have : ¬ xs = ys := fun h => hne (HX.out.2.2 h)
            simp [this]), nd + nq, World.drewN_drewN _ _ _⟩
        · have he : x = y := by
            have : (x != y) = false := by assumption
            simpa using this
          refine ⟨⟨k + 1, by omega, by go_num, ?_, _, rfl⟩, by simp [RowKit.intOf]; omega⟩
          show xs.take (k + 1) = ys.take (k + 1)
          rw [HX.out.1, HX.out.2.1, hpre.out, he]
      · have hke : k = xs.length := by omega
        subst hke
        go_wp2
        go_ret
        have : xs = ys := by
          have h := hpre.out
          rw [List.take_length, HLL.out, List.take_length] at h; exact h
        exact ⟨ret_bool (by simp [this]), nd, rfl⟩
  · go_enter Tryd.func68, Tryd.ntmps68
    go_wp2
    go_ret
    exact ⟨ret_bool (by
      have : ¬ xs = ys := fun h => hll (by rw [h])
      simp [this]), 0, rfl⟩

theorem bytes_inj (a b : ByteArray) : a.toList = b.toList ↔ a = b := by
  constructor
  · intro h
    have h2 : a.data.toList = b.data.toList := by simpa [ByteArray.toList_eq] using h
    exact ByteArray.ext (Array.toList_inj.1 h2)
  · intro h; rw [h]

theorem below_drewN {B : Nat} {w w' : World} (h : Below B w w') (n : Nat) : Below B w (w'.drewN n) := ⟨h.os, h.tape, h.output, h.size, h.block⟩

/-- The same node? -/
def ndEq (x y : Nd) : Bool := decide (x.op = y.op) && decide (x.n = y.n) && decide (x.name.toList = y.name.toList) && decide (x.kids = y.kids)
theorem ndEq_iff (x y : Nd) : ndEq x y = true ↔ x = y := by
  obtain ⟨a, b, c, d⟩ := x
  obtain ⟨a', b', c', d'⟩ := y
  simp only [ndEq, Bool.and_eq_true, decide_eq_true_eq, Nd.mk.injEq, and_assoc, bytes_inj]

theorem Ints.drewN {w : World} {B : Nat} {v : Value} {ks : List Int} (h : Ints w B v ks) (n : Nat) : Ints (w.drewN n) B v ks := h

set_option maxHeartbeats 1000000 in
theorem sameNode_any (x y : Nd) (vx vy : Value) (w : World) (B : Nat) (hBw : B ≤ w.heap.size) (ha : Ints w B vx x.kids) (hb : Ints w B vy y.kids) :
    Calls Tryd.prog 45 #[.agg #[.int .i64 x.op, .int .i64 x.n, .string x.name, vx], .agg #[.int .i64 y.op, .int .i64 y.n, .string y.name, vy]] w fun e w' => e = .returned (.bool (ndEq x y)) ∧ Below w.heap.size w w' := by
  obtain ⟨a, b, c, d⟩ := x
  obtain ⟨a', b', c', d'⟩ := y
  simp only at ha hb ⊢
  obtain ⟨ao, ca, rfl, ha0⟩ := id ha
  obtain ⟨bo, cb, rfl, hb0⟩ := id hb
  clear ha0 hb0
  have HA : Hid (Ints w B (.slice ao d.length ca) d) := ha
  have HB : Hid (Ints w B (.slice bo d'.length cb) d') := hb
  clear ha hb
  have cS : Hid (∀ W, Below w.heap.size w W → Calls Tryd.prog 68 #[.slice ao d.length ca, .slice bo d'.length cb] W fun e w' => e = .returned (.bool (decide (d = d'))) ∧ ∃ n, w' = W.drewN n) := fun W hW =>
    sameInts_any _ _ d d' W W.heap.size (Nat.le_refl _) (HA.out.below (hW.mono hBw) (by have := hW.size; omega)) (HB.out.below (hW.mono hBw) (by have := hW.size; omega))
  clear HA HB
  have HE : Hid (ndEq ⟨a, b, c, d⟩ ⟨a', b', c', d'⟩ = (decide (a = a') && decide (b = b') && decide (c.toList = c'.toList) && decide (d = d'))) := rfl
  generalize ndEq ⟨a, b, c, d⟩ ⟨a', b', c', d'⟩ = r at *
  generalize decide (d = d') = q at *
  go_enter Tryd.func45, Tryd.ntmps45
  go_wp2_with (go_at_call 68; refine (cS.out _ (((Below.refl _ _).alloc (Nat.le_refl _) _).alloc (by simp) _)).mono ?_; rintro e w2 ⟨rfl, n2, rfl⟩)
  all_goals
    go_ret
    refine ⟨ret_bool (by rw [HE.out]; simp_all), ?_⟩
    first
    | exact below_drewN (((Below.refl _ _).alloc (Nat.le_refl _) _).alloc (by simp) _) _
    | exact ((Below.refl _ _).alloc (Nat.le_refl _) _).alloc (by simp) _

set_option maxHeartbeats 1000000 in
theorem same_any (va vb : Value) (xs ys : List Nd) (w : World) (B : Nat) (hBw : B ≤ w.heap.size) (ha : Nodes w B va xs) (hb : Nodes w B vb ys) :
    Calls Tryd.prog 13 #[va, vb] w fun e w' => e = .returned (.bool (decide (xs = ys))) ∧ Below w.heap.size w w' := by
  obtain ⟨ao, ca, rfl, hal, ham, hac⟩ := ha
  obtain ⟨bo, cb, rfl, hbl, hbm, hbc⟩ := hb
  unfold maxLen at ham hbm
  by_cases hll : xs.length = ys.length
  · have HA : Hid (xs = [] ∨ ∃ b o, ao = some ⟨b, o, none⟩ ∧ b < B ∧ ∀ i, i < xs.length → ∃ kv, NodeAt w B b (o + i * 4) (xs.getD i nd0) kv) := hac
    have HB : Hid (ys = [] ∨ ∃ b o, bo = some ⟨b, o, none⟩ ∧ b < B ∧ ∀ i, i < ys.length → ∃ kv, NodeAt w B b (o + i * 4) (ys.getD i nd0) kv) := hbc
    clear hac hbc
    rw [← hll] at HB hbl ⊢
    have HLL : Hid (xs.length = ys.length) := hll
    clear hll
    go_enter Tryd.func13, Tryd.ntmps13
    go_wp2
    go_loopw [5] (fun i wr => ∃ k : Nat, k ≤ xs.length ∧ i = .int .i64 k ∧ Hid (xs.take k = ys.take k) ∧ Below w.heap.size w wr) (fun i _ => xs.length - (RowKit.intOf i).toNat)
    case atStart => exact ⟨0, by omega, rfl, rfl, Below.refl _ _⟩
    case round =>
      obtain ⟨k, hk, rfl, hpre, hB⟩ := hrel
      have hsz := hB.size
      by_cases hlt : k < xs.length
      · obtain ⟨b1, o1, rfl, hb1, hc1⟩ : ∃ b o, ao = some ⟨b, o, none⟩ ∧ b < B ∧ ∀ i, i < xs.length → ∃ kv, NodeAt w B b (o + i * 4) (xs.getD i nd0) kv := by
          rcases HA.out with h | h
          · subst h; simp at hlt
          · exact h
        obtain ⟨b2, o2, rfl, hb2, hc2⟩ : ∃ b o, bo = some ⟨b, o, none⟩ ∧ b < B ∧ ∀ i, i < xs.length → ∃ kv, NodeAt w B b (o + i * 4) (ys.getD i nd0) kv := by
          rcases HB.out with h | h
          · have := HLL.out; rw [h] at this; simp at this; rw [this] at hlt; simp at hlt
          · exact h
        obtain ⟨k1, n1⟩ := hc1 k hlt
        obtain ⟨k2, n2⟩ := hc2 k hlt
        clear hc1 hc2 HA HB
        have n1 := n1.below (hB.mono hBw) (Nat.le_refl _) hb1
        have n2 := n2.below (hB.mono hBw) (Nat.le_refl _) hb2
        have hx : Hid (∀ x y, xs.getD k nd0 = x → ys.getD k nd0 = y → xs.take (k + 1) = xs.take k ++ [x] ∧ ys.take (k + 1) = ys.take k ++ [y] ∧ (xs = ys → x = y)) := by
          intro x y hx hy
          have hlt2 : k < ys.length := by have := HLL.out; omega
          rw [List.take_succ_eq_append_getElem hlt, List.take_succ_eq_append_getElem hlt2, ← hx, ← hy]
          refine ⟨by simp [hlt], by simp [hlt2], fun h => by rw [h]⟩
        generalize hx1 : xs.getD k nd0 = x at *
        generalize hy1 : ys.getD k nd0 = y at *
        have hx := hx.out x y rfl rfl
        clear hx1 hy1
        have HX : Hid (xs.take (k + 1) = xs.take k ++ [x] ∧ ys.take (k + 1) = ys.take k ++ [y] ∧ (xs = ys → x = y)) := hx
        clear hx
        have cS : Hid (∀ W, Below wr.heap.size wr W → Calls Tryd.prog 45 #[.agg #[.int .i64 x.op, .int .i64 x.n, .string x.name, k1], .agg #[.int .i64 y.op, .int .i64 y.n, .string y.name, k2]] W fun e w' => e = .returned (.bool (ndEq x y)) ∧ Below W.heap.size W w') := fun W hW =>
          sameNode_any x y k1 k2 W W.heap.size (Nat.le_refl _) (n1.kids.below (hW.mono (by omega)) (by have := hW.size; omega)) (n2.kids.below (hW.mono (by omega)) (by have := hW.size; omega))
        obtain ⟨c0, c1, c2, c3, hk1⟩ := n1
        obtain ⟨e0, e1, e2, e3, hk2⟩ := n2
        obtain ⟨ka1, kc1, rfl, hk1⟩ := hk1
        obtain ⟨ka2, kc2, rfl, hk2⟩ := hk2
        clear hk1 hk2
        have HE : Hid (ndEq x y = true ↔ x = y) := ndEq_iff x y
        generalize ndEq x y = q at *
        obtain ⟨a, b, c, d⟩ := x
        obtain ⟨a', b', c', d'⟩ := y
        simp only at c0 c1 c2 c3 e0 e1 e2 e3 cS
        go_wp2
        go_region_with (go_at_call 45; refine (cS.out _ (Below.refl _ _).drew).mono ?_; rintro e w2 ⟨rfl, hb2⟩)
        all_goals go_wp2
        all_goals first
          | (have hq : (!q) = true := by assumption
             go_ret
             have hne : ¬ xs = ys := fun h => by
               have := HE.out.2 (HX.out.2.2 h)
               rw [this] at hq; cases hq
             exact ⟨ret_bool (by simp [hne]), hB.trans ((Below.refl _ _).drew.trans hb2 |>.mono hsz)⟩)
          | (have hq : (!q) = false := by assumption
             refine ⟨⟨k + 1, by omega, by go_num, ?_, hB.trans ((Below.refl _ _).drew.trans hb2 |>.mono hsz)⟩, by simp [RowKit.intOf]; omega⟩
             show xs.take (k + 1) = ys.take (k + 1)
             rw [HX.out.1, HX.out.2.1, hpre.out, HE.out.1 (by simpa using hq)])
      · have hke : k = xs.length := by omega
        subst hke
        go_wp2
        go_ret
        have : xs = ys := by
          have h := hpre.out
          rw [List.take_length, HLL.out, List.take_length] at h; exact h
        exact ⟨ret_bool (by simp [this]), hB⟩
  · go_enter Tryd.func13, Tryd.ntmps13
    go_wp2
    go_ret
    exact ⟨ret_bool (by
      have : ¬ xs = ys := fun h => hll (by rw [h])
      simp [this]), Below.refl _ _⟩
end Go.Proofs.YtghgoifeineicaaDoor

set_option linter.unusedSimpArgs false
set_option linter.unusedVariables false
namespace Go.Proofs.YtghgoifeineicaaDoor
open Go.RowKit Go.Lib

theorem eql_nil (ao : Option Addr) (n c : Nat) (w : World) : (binOp .eql 41 (.slice ao n c) (.slice none 0 0)).run Tryd.prog w = .ok (.bool ao.isNone) w := by
  cases ao <;> kernel_rfl

end Go.Proofs.YtghgoifeineicaaDoor

set_option linter.unusedSimpArgs false
set_option linter.unusedVariables false
namespace Go.Proofs.YtghgoifeineicaaDoor
open Go.RowKit Go.Lib

theorem OwnN.form {w : World} {base : Nat} {v : Value} {l : List Nd} (h : OwnN w base v l) : ∃ ao n cap, v = .slice ao n cap := by
  obtain ⟨ao, cap, h, _⟩ := Nodes_of_own h (Nat.le_refl _)
  exact ⟨ao, _, cap, h⟩
theorem OwnN.len {w : World} {base : Nat} {ao : Option Addr} {n cap : Nat} {l : List Nd} (h : OwnN w base (.slice ao n cap) l) : n = l.length := by
  obtain ⟨ao', cap', h, _⟩ := Nodes_of_own h (Nat.le_refl _)
  cases h; rfl

def partL (l : List Nd) (a b : Nat) : List Nd := ((l.drop a).take (b + 1 - a)).map (mvN 0 (-(a : Int)))
def putL (l : List Nd) (a b : Nat) (m : List Nd) : List Nd := (l.take a).map (mvN 0 0) ++ m.map (mvN 0 a) ++ (l.drop (b + 1)).map (mvN b ((m.length : Int) - ((b : Int) + 1 - a)))

theorem getD_sub (l : List Nd) (a m i : Nat) (h : i < m) : ((l.drop a).take m).getD i nd0 = l.getD (a + i) nd0 := by
  simp only [List.getD_eq_getElem?_getD, List.getElem?_take, if_pos h, List.getElem?_drop]

/-- A cut of a list that is read. -/
theorem Nodes.cut {w : World} {B b o cap : Nat} {l : List Nd} (hc : ∀ i, i < l.length → ∃ kv, NodeAt w B b (o + i * 4) (l.getD i nd0) kv) (hb : b < B) (a m cap' : Nat) (ham : a + m ≤ l.length) (hm : m ≤ cap') (hcap : cap' ≤ maxLen)
    (ao : Option Addr) (hao : m ≠ 0 → ao = some ⟨b, o + a * 4, none⟩) : Nodes w B (.slice ao m cap') ((l.drop a).take m) := by
  have hl : ((l.drop a).take m).length = m := by simp; omega
  refine ⟨ao, cap', by rw [hl], by omega, hcap, ?_⟩
  by_cases h0 : m = 0
  · left; exact List.length_eq_zero_iff.1 (by omega)
  · right
    refine ⟨b, o + a * 4, hao h0, hb, fun i hi => ?_⟩
    rw [hl] at hi
    obtain ⟨kv, hk⟩ := hc (a + i) (by omega)
    rw [getD_sub l a m i hi]
    have e : o + a * 4 + i * 4 = o + (a + i) * 4 := by omega
    rw [e]; exact ⟨kv, hk⟩

end Go.Proofs.YtghgoifeineicaaDoor

set_option linter.unusedSimpArgs false
set_option linter.unusedVariables false
namespace Go.Proofs.YtghgoifeineicaaDoor

def chainO (os : List (Option Nat)) : List Int → Nat → Option Nat
  | [], c => some c
  | k :: ks, c => if c = 0 ∨ k ≠ (c : Int) - 1 then none else (os.getD (c - 1) none).bind fun b => chainO os ks b

def stsR (os : List (Option Nat)) : List Nd → List (Option Nat)
  | [] => os
  | x :: l => stsR (os ++ [chainO os x.kids.reverse os.length]) l

def sts (l : List Nd) : List (Option Nat) := stsR [] l

/-- No entry is above its place. -/
def LowO (os : List (Option Nat)) : Prop := ∀ j b, os.getD j none = some b → b ≤ j

theorem chainO_le {os : List (Option Nat)} (h : LowO os) : ∀ (ks : List Int) (c a : Nat), chainO os ks c = some a → a ≤ c := by
  intro ks
  induction ks with
  | nil => intro c a h; simp [chainO] at h; omega
  | cons k ks ih =>
    intro c a hh
    simp only [chainO] at hh
    split at hh
    · cases hh
    · cases hb : os.getD (c - 1) none with
      | none => rw [hb] at hh; cases hh
      | some b =>
        rw [hb] at hh
        simp only [Option.bind_some] at hh
        have := ih _ _ hh
        have := h _ _ hb
        omega

theorem getD_snocO (os : List (Option Nat)) (a : Option Nat) (j : Nat) : (os ++ [a]).getD j none = if j < os.length then os.getD j none else if j = os.length then a else none := by
  simp only [List.getD_eq_getElem?_getD, List.getElem?_append]
  split
  · rfl
  · split
    · subst_vars; simp
    · rw [List.getElem?_eq_none (by simp; omega)]; rfl

theorem LowO.snoc {os : List (Option Nat)} (h : LowO os) {a : Option Nat} (ha : ∀ b, a = some b → b ≤ os.length) : LowO (os ++ [a]) := by
  intro j b hj
  rw [getD_snocO] at hj
  split at hj
  · exact h j b hj
  · split at hj
    · have := ha b hj; omega
    · cases hj

/-- Only the entries below the cursor count. -/
theorem chainO_congr {os os' : List (Option Nat)} (h : LowO os) : ∀ (ks : List Int) (c : Nat), (∀ j, j < c → os'.getD j none = os.getD j none) → chainO os' ks c = chainO os ks c := by
  intro ks
  induction ks with
  | nil => intro c _; rfl
  | cons k ks ih =>
    intro c hc
    simp only [chainO]
    split
    · rfl
    · rename_i hn
      rw [hc (c - 1) (by omega)]
      cases hb : os.getD (c - 1) none with
      | none => rfl
      | some b =>
        simp only [Option.bind_some]
        have := h _ _ hb
        exact ih b (fun j hj => hc j (by omega))

theorem stsR_spec (l : List Nd) : ∀ (os : List (Option Nat)), LowO os → (stsR os l).length = os.length + l.length ∧ LowO (stsR os l) ∧ (∀ j, j < os.length → (stsR os l).getD j none = os.getD j none) ∧
    ∀ i, i < l.length → (stsR os l).getD (os.length + i) none = chainO (stsR os l) (l.getD i nd0).kids.reverse (os.length + i) := by
  induction l with
  | nil => intro os h; exact ⟨by simp [stsR], h, fun j hj => rfl, fun i hi => by simp at hi⟩
  | cons x l ih =>
    intro os h
    have hlow := h.snoc (a := chainO os x.kids.reverse os.length) (fun b hb => chainO_le h _ _ _ hb)
    obtain ⟨h1, h2, h3, h4⟩ := ih _ hlow
    simp only [List.length_append, List.length_cons, List.length_nil] at h1 h3 h4
    simp only [stsR]
    refine ⟨by simp; omega, h2, fun j hj => ?_, fun i hi => ?_⟩
    · rw [h3 j (by omega), getD_snocO, if_pos hj]
    · cases i with
      | zero =>
        rw [Nat.add_zero, h3 _ (by omega), getD_snocO, if_neg (by omega), if_pos rfl]
        show _ = chainO _ x.kids.reverse os.length
        refine (chainO_congr h _ _ ?_).symm
        intro j hj
        rw [h3 j (by omega), getD_snocO, if_pos hj]
      | succ i =>
        have := h4 i (by simp at hi; omega)
        have e : os.length + (0 + 1) + i = os.length + (i + 1) := by omega
        rw [e] at this
        rw [this]
        simp

theorem lowO_nil : LowO [] := by intro j b h; simp at h

theorem sts_at (l : List Nd) (i : Nat) (h : i < l.length) : (sts l).getD i none = chainO (sts l) (l.getD i nd0).kids.reverse i := by
  have := (stsR_spec l [] lowO_nil).2.2.2 i h
  simpa [sts] using this
theorem chain_some {fr : List Nat} (hl : Low fr) : ∀ (ks : List Int) (c : Nat), c ≤ fr.length → chainO (fr.map some) ks c = chainL fr ks c := by
  intro ks
  induction ks with
  | nil => intro c _; rfl
  | cons k ks ih =>
    intro c hc
    simp only [chainO, chainL]
    split
    · rfl
    · rename_i hn
      have e : (fr.map some).getD (c - 1) none = some (fr.getD (c - 1) 0) := by
        have : c - 1 < fr.length := by omega
        simp [this]
      rw [e]
      simp only [Option.bind_some]
      exact ih _ (by have := hl (c - 1); omega)

theorem sts_of_beg (l : List Nd) : ∀ (fr fr' : List Nat), Low fr → begR fr l = some fr' → stsR (fr.map some) l = fr'.map some := by
  induction l with
  | nil => intro fr fr' _ h; simp [begR] at h; subst h; rfl
  | cons x l ih =>
    intro fr fr' hl h
    simp only [begR] at h
    cases hs : stp fr x with
    | none => rw [hs] at h; cases h
    | some f2 =>
      rw [hs] at h
      simp only [Option.bind_some] at h
      obtain ⟨hf, a, hc, rfl⟩ := stp_some hs
      have := ih _ _ (hl.snoc (chainL_le hl _ _ _ hc)) h
      simp only [stsR, List.length_map]
      rw [chain_some hl _ _ (Nat.le_refl _), hc]
      simpa using this

end Go.Proofs.YtghgoifeineicaaDoor

namespace Go.Proofs.YtghgoifeineicaaDoor

theorem mvK_zero (k : Int) (f : Int) : mvK f 0 k = k := by unfold mvK; split <;> omega
theorem mvN_zero (f : Int) (x : Nd) : mvN f 0 x = x := by
  obtain ⟨a, b, c, d⟩ := x
  have : d.map (mvK f 0) = d := by
    conv => rhs; rw [← List.map_id d]
    exact List.map_congr_left (fun k _ => mvK_zero k f)
  simp [mvN, this]
theorem map_mvN_zero (f : Int) (l : List Nd) : l.map (mvN f 0) = l := by
  conv => rhs; rw [← List.map_id l]
  exact List.map_congr_left (fun x _ => mvN_zero f x)

/-- Where all begin, place by place. -/
structure BegOk (l : List Nd) (fr : List Nat) : Prop where
  len : fr.length = l.length
  low : Low fr
  at_ : ∀ j, j < l.length → formB (l.getD j nd0) = true ∧ chainL fr (l.getD j nd0).kids.reverse j = some (fr.getD j 0)

theorem begOk_of {l : List Nd} {fr : List Nat} (h : begR [] l = some fr) : BegOk l fr := by
  have hlen := begR_len h
  obtain ⟨_, hlow, _, hform⟩ := begR_some h low_nil
  refine ⟨hlen, hlow, fun j hj => ⟨hform _ (by simp [hj]), ?_⟩⟩
  have hs := sts_of_beg l [] fr low_nil h
  have h1 := sts_at l j hj
  have e : sts l = fr.map some := hs
  rw [e, chain_some hlow _ _ (by omega)] at h1
  rw [← h1]
  have : j < fr.length := by omega
  simp [this]

/-- What holds of the cursors of a chain. -/
theorem chain_inv {fr : List Nat} {P : Nat → Prop} (hstep : ∀ c, 0 < c → P c → P (fr.getD (c - 1) 0)) : ∀ (ks : List Int) (c r : Nat), P c → chainL fr ks c = some r → P r ∧ ∀ k ∈ ks, ∃ c', 0 < c' ∧ P c' ∧ k = (c' : Int) - 1 := by
  intro ks
  induction ks with
  | nil => intro c r hP h; simp [chainL] at h; subst h; exact ⟨hP, by simp⟩
  | cons k ks ih =>
    intro c r hP h
    simp only [chainL] at h
    split at h
    · cases h
    · rename_i hn
      obtain ⟨h1, h2⟩ := ih _ r (hstep c (by omega) hP) h
      refine ⟨h1, fun k' hk' => ?_⟩
      rcases List.mem_cons.1 hk' with rfl | hk'
      · exact ⟨c, by omega, hP, by omega⟩
      · exact h2 k' hk'

/-- Inside an expression all begin inside it. -/
theorem nest_inside {l : List Nd} {fr : List Nat} (h : BegOk l fr) : ∀ i, i < l.length → ∀ j, fr.getD i 0 ≤ j → j ≤ i → fr.getD i 0 ≤ fr.getD j 0 := by
  intro i
  induction i using Nat.strongRecOn with
  | ind i IH =>
    intro hi j hj hji
    by_cases he : j = i
    · subst he; exact Nat.le_refl _
    · have hc := (h.at_ i hi).2
      have key : ∀ (ks : List Int) (c : Nat), c ≤ i → chainL fr ks c = some (fr.getD i 0) → j < c → fr.getD i 0 ≤ fr.getD j 0 := by
        intro ks
        induction ks with
        | nil => intro c _ hh hjc; simp only [chainL, Option.some.injEq] at hh; omega
        | cons k ks ih =>
          intro c hci hh hjc
          simp only [chainL] at hh
          split at hh
          · cases hh
          · have hlo := h.low (c - 1)
            by_cases hb : j < fr.getD (c - 1) 0
            · exact ih _ (by omega) hh hb
            · have h1 := IH (c - 1) (by omega) (by omega) j (by omega) (by omega)
              have h2 := chainL_le h.low _ _ _ hh
              omega
      exact key _ i (Nat.le_refl _) hc (by omega)

theorem kids_inside {l : List Nd} {fr : List Nat} (h : BegOk l fr) (i : Nat) (hi : i < l.length) (j : Nat) (hj : fr.getD i 0 ≤ j) (hji : j ≤ i) : ∀ k ∈ (l.getD j nd0).kids, (fr.getD i 0 : Int) ≤ k := by
  intro k hk
  have hc := (h.at_ j (by omega)).2
  have hin := nest_inside h i hi j hj hji
  -- every cursor of the chain is above where the chain ends
  have key : ∀ (ks : List Int) (c : Nat), chainL fr ks c = some (fr.getD j 0) → ∀ k ∈ ks, (fr.getD j 0 : Int) ≤ k := by
    intro ks
    induction ks with
    | nil => intro c _ k hk; simp at hk
    | cons k0 ks ih =>
      intro c hh k hk
      simp only [chainL] at hh
      split at hh
      · cases hh
      · rename_i hn
        have h2 := chainL_le h.low _ _ _ hh
        have hlo := h.low (c - 1)
        rcases List.mem_cons.1 hk with rfl | hk
        · omega
        · exact ih _ hh k hk
  have := key _ j hc k (by simpa using hk)
  omega

theorem partL_len (l : List Nd) (a i : Nat) (hi : i < l.length) (hai : a ≤ i) : (partL l a i).length = i + 1 - a := by simp [partL]; omega
theorem ok_kids {l : List Nd} {fr : List Nat} (h : BegOk l fr) (j : Nat) (hj : j < l.length) : ∀ k ∈ (l.getD j nd0).kids, 0 ≤ k := by
  intro k hk
  obtain ⟨c, h0, _, rfl⟩ := (chain_inv (fr := fr) (P := fun _ => True) (fun _ _ _ => trivial) _ _ _ trivial (h.at_ j hj).2).2 k (by simpa using hk)
  omega

end Go.Proofs.YtghgoifeineicaaDoor
