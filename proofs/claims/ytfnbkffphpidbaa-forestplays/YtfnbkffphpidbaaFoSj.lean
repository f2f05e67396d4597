/-
  step, the ways that change: Add and Join.
-/
import Derived.Test.YtfnbkffphpidbaaFoSt
set_option linter.unusedSimpArgs false
set_option linter.unusedVariables false
namespace Go.Proofs.Ytfnbkffphpidbaa
open Go.RowKit Go.Lib

set_option maxRecDepth 20000 in
set_option maxHeartbeats 4000000 in
theorem step_add (w : World) (p q : Nat) (v v2 : Value) (L : List Jt) (V : List Value) (m : List Mv) (kd xa xb xy : Int) (k1 : kd ≠ 1) (k2 : kd ≠ 2) (k3 : kd ≠ 3) (k4 : kd ≠ 4) (k5 : kd ≠ 5) (hpq : p ≤ q) (h : Bth w p q v v2 L V m) :
    Calls Try.prog 10 #[.pointer (some ⟨p, 0, none⟩), .pointer (some ⟨q, 0, none⟩), .agg #[.int .i64 kd, .int .i64 xa, .int .i64 xb, .int .i64 xy] ] w fun e w' => e = .returned (.bool true) ∧ StB w p q L w' := by
  have HB0 : Hid (Bth (w.alloc (.cells #[.int .i64 kd, .int .i64 xa, .int .i64 xb, .int .i64 xy] 32)) p q v v2 L V m) := h.below ((Below.refl _ _).alloc (Nat.le_refl _) _)
  have HW0 : Hid (Below w.heap.size w (w.alloc (.cells #[.int .i64 kd, .int .i64 xa, .int .i64 xb, .int .i64 xy] 32))) := (Below.refl _ _).alloc (Nat.le_refl _) _
  have hplt := h.fo.fo.lt
  have g1 : (kd == 1) = false := by simp [k1]
  have g2 : (kd == 2) = false := by simp [k2]
  have g3 : (kd == 3) = false := by simp [k3]
  have g4 : (kd == 4) = false := by simp [k4]
  have g5 : (kd == 5) = false := by simp [k5]
  have HA : Hid (∃ (A E : Int) (n' : Nat), addA m = A ∧ addE m = E ∧ ((if m.length < 1048576 then m.length else 0 : Nat) : Int) = A ∧ (if m.length < 1048576 then (0 : Int) else 10) = E ∧ (addM m).length = n' ∧ (if m.length < 1048576 then m.length + 1 else m.length) = n') := by
    unfold addA addE addM
    by_cases hl : m.length < 1048576
    · simp only [if_pos hl]; exact ⟨_, _, _, rfl, rfl, rfl, rfl, rfl, by simp⟩
    · simp only [if_neg hl]; exact ⟨_, _, _, rfl, rfl, rfl, rfl, rfl, rfl⟩
  obtain ⟨A, E, n', a1, a2, a3, a4, a5, a6⟩ := HA.out
  have HA' : Hid (addA m = A ∧ addE m = E ∧ ((if m.length < 1048576 then m.length else 0 : Nat) : Int) = A ∧ (if m.length < 1048576 then (0 : Int) else 10) = E ∧ (addM m).length = n' ∧ (if m.length < 1048576 then m.length + 1 else m.length) = n') := ⟨a1, a2, a3, a4, a5, a6⟩
  have hAA : (A == A) = true := by simp
  have hEE : (E == E) = true := by simp
  clear h a1 a2 a3 a4 a5 a6 HA
  go_enter Try.func10, Try.ntmps10
  go_wp2_with fail
  refine (foadd HB0.out.fo).mono ?_
  rintro e w1 ⟨rfl, v', hT1, hF1⟩
  have HF1 : Hid (Fo w1 p v' (jJ L) V (addM m)) := hF1
  have HR1 : Hid (RfM w1 q v2 m.length L) := HB0.out.rf.keep HB0.out.fo.fo hT1.ko
  have HS1 : Hid (Rss w1 V L) := fun i hi => (HB0.out.rs i hi).keepF HB0.out.fo.fo hT1.ko
  have HW1 : Hid (Below p w w1) := (HW0.out.mono (by omega)).trans hT1.below
  rw [HA'.out.1, HA'.out.2.1]
  clear hT1 hF1
  go_wp2_with fail
  refine (radd_any HR1.out).mono ?_
  rintro e w2 ⟨rfl, hR2, hK2, hB2⟩
  rw [HA'.out.2.2.1, HA'.out.2.2.2.1]
  rw [HA'.out.2.2.2.2.2, ← HA'.out.2.2.2.2.1] at hR2
  have HB2 : Hid (Bth w2 p q v' v2 L V (addM m)) := ⟨HF1.out.keep HR1.out hK2, hR2, fun i hi => (HS1.out i hi).keepR HR1.out hK2⟩
  have HW2 : Hid (Below p w w2) := HW1.out.trans (hB2.mono hpq)
  clear hR2 hK2 hB2
  go_wp2_with fail
  go_ret
  exact ⟨rfl, v', v2, L, V, addM m, HB2.out, by omega, HW2.out⟩

set_option maxRecDepth 20000 in
set_option maxHeartbeats 8000000 in
theorem step_join (w : World) (p q : Nat) (v v2 : Value) (L : List Jt) (V : List Value) (m : List Mv) (xa xb xy : Int) (hpq : p ≤ q) (hll : (L.length + 2) * 24 ≤ 140737488355328) (h : Bth w p q v v2 L V m) :
    Calls Try.prog 10 #[.pointer (some ⟨p, 0, none⟩), .pointer (some ⟨q, 0, none⟩), .agg #[.int .i64 1, .int .i64 xa, .int .i64 xb, .int .i64 xy] ] w fun e w' => e = .returned (.bool true) ∧ StB w p q L w' := by
  obtain ⟨W0, hW0⟩ : ∃ W0, w.alloc (.cells #[.int .i64 1, .int .i64 xa, .int .i64 xb, .int .i64 xy] 32) = W0 := ⟨_, rfl⟩
  have HB0 : Hid (Bth W0 p q v v2 L V m) := by rw [← hW0]; exact h.below ((Below.refl _ _).alloc (Nat.le_refl _) _)
  have HWB : Hid (Below w.heap.size w W0) := by rw [← hW0]; exact (Below.refl _ _).alloc (Nat.le_refl _) _
  have hbk : W0.heap[w.heap.size]? = some (.cells #[.int .i64 1, .int .i64 xa, .int .i64 xb, .int .i64 xy] 32 (0, 0)) := by rw [← hW0]; exact Deep.blk_alloc_new _ _
  have HBK : Hid (W0.heap[w.heap.size]? = some (.cells #[.int .i64 1, .int .i64 xa, .int .i64 xb, .int .i64 xy] 32 (0, 0))) := hbk
  have hsz0 : w.heap.size < W0.heap.size := by rw [← hW0, World.size_alloc]; omega
  have hplt := h.fo.fo.lt
  obtain ⟨q0, q1, q2, q3⟩ := opAt_of hbk
  obtain ⟨JB, hJB⟩ : ∃ JB, joinB m xa xb = JB := ⟨_, rfl⟩
  obtain ⟨JE, hJE⟩ : ∃ JE, joinE m xa xb = JE := ⟨_, rfl⟩
  have HJ : Hid (joinB m xa xb = JB ∧ joinE m xa xb = JE) := ⟨hJB, hJE⟩
  have h1 : (JB == JB) = true := by simp
  have h2 : (JE == JE) = true := by simp
  have HCE : Hid (∀ W, W.heap[w.heap.size]? = W0.heap[w.heap.size]? → OpAt W w.heap.size 1 xa xb xy) := fun W hW => opAt_of (hW.trans HBK.out)
  clear h hbk hJB hJE
  go_enter Try.func10, Try.ntmps10
  go_wp2_with fail
  try rw [hW0]
  clear hW0
  go_region_held3 (fun W => W.cell? ⟨w.heap.size, 0, none⟩ = some (.int .i64 1) ∧ W.cell? ⟨w.heap.size, 1, none⟩ = some (.int .i64 xa) ∧ W.cell? ⟨w.heap.size, 2, none⟩ = some (.int .i64 xb) ∧ W.cell? ⟨w.heap.size, 3, none⟩ = some (.int .i64 xy)) (go_keep) (first | (go_at_call 21; refine (reason_any xy _).mono ?_; rintro e w3 ⟨u, rfl, hu, hR3, hb3⟩; have hbr3 : Below W0.heap.size W0 w3 := (Below.refl W0.heap.size W0).drew.trans hb3; have hB3 := HB0.out.below hbr3; have hk3 := hbr3.block w.heap.size hsz0; obtain ⟨k0, k1, k2, k3⟩ := HCE.out w3 hk3) | (go_at_call 17; refine (fojoin hB3.fo xa xb hu).mono ?_; rintro e w4 ⟨rfl, m4, hT4, hl4, h4, hs4⟩; have hk4 : w4.heap[w.heap.size]? = W0.heap[w.heap.size]? := (fo_blk hB3.fo.fo hT4.ko (hk3.trans HBK.out) (by decide) (by decide)).trans hk3; obtain ⟨k0, k1, k2, k3⟩ := HCE.out w4 hk4))
  all_goals
    rw [HJ.out.1, HJ.out.2]
    rw [HJ.out.1] at h4
    have HF4 : Hid (Fo w4 p v (if JB = true then jJ L ++ [(xa.toNat, xb.toNat)] else jJ L) (if JB = true then V ++ [u] else V) m4) := h4
    have HL4 : Hid (m4.length = m.length) := hl4
    have HR4 : Hid (RfM w4 q v2 m.length L) := hB3.rf.keep hB3.fo.fo hT4.ko
    have HS4 : Hid (Rss w4 V L) := fun i hi => (hB3.rs i hi).keepF hB3.fo.fo hT4.ko
    have HU4 : Hid (Rsn w4 u xy (bits .and .i64 xy 7)) := hR3.keepF hB3.fo.fo hT4.ko
    have HW4 : Hid (Below p w w4) := (HWB.out.mono (by omega)).trans ((hbr3.mono (by omega)).trans hT4.below)
    have CJ := rjoin_any HR4.out HB0.out.fo.inv xa xb xy hll
    rw [HJ.out.1, HJ.out.2] at CJ
    have HCJ : Hid (Calls Try.prog 22 #[.pointer (some ⟨q, 0, none⟩), .int .i64 xa, .int .i64 xb, .int .i64 xy] w4 fun e w' => e = .returned (.tuple #[.bool JB, .int .i64 JE]) ∧ ∃ v', RfM w' q v' m.length (if JB = true then L ++ [(xa.toNat, xb.toNat, xy)] else L) ∧ KoF q v2 w4 w' ∧ (∀ c, v'.ownBlock = some c → v2.ownBlock = some c ∨ w4.heap.size ≤ c) ∧ Below q w4 w') := CJ
    clear CJ h4 hl4 hs4 hT4 hR3 hbr3 hB3 hk3 hk4 hb3 hu
    go_wp2_with fail
    refine HCJ.out.mono ?_
    rintro e w5 ⟨rfl, v2', hR5, hK5, _, hB5⟩
    have HF5 : Hid (Fo w5 p v (if JB = true then jJ L ++ [(xa.toNat, xb.toNat)] else jJ L) (if JB = true then V ++ [u] else V) m4) := HF4.out.keep HR4.out hK5
    have HS5 : Hid (Rss w5 V L) := fun i hi => (HS4.out i hi).keepR HR4.out hK5
    have HU5 : Hid (Rsn w5 u xy (bits .and .i64 xy 7)) := HU4.out.keepR HR4.out hK5
    have HR5 : Hid (RfM w5 q v2' m4.length (if JB = true then L ++ [(xa.toNat, xb.toNat, xy)] else L)) := by rw [HL4.out]; exact hR5
    have HW5 : Hid (Below p w w5) := HW4.out.trans (hB5.mono hpq)
    have HVL : Hid (V.length = L.length) := by have := HB0.out.fo.inv.lenV; rw [jJ_len] at this; exact this
    have HST : Hid (StB w p q L w5) := by
      have hF := HF5.out
      have hR := HR5.out
      cases JB
      · simp only [Bool.false_eq_true, if_false] at hF hR
        exact ⟨v, v2', L, V, m4, ⟨hF, hR, HS5.out⟩, by omega, HW5.out⟩
      · simp only [if_true] at hF hR
        refine ⟨v, v2', L ++ [(xa.toNat, xb.toNat, xy)], V ++ [u], m4, ⟨?_, hR, HS5.out.snoc HVL.out HU5.out⟩, by simp, HW5.out⟩
        rw [jJ_snoc]; exact hF
    clear hR5 hK5 hB5
    go_wp2_with fail
    go_ret
    exact ⟨rfl, HST.out⟩

theorem step_any (w : World) (p q : Nat) (v v2 : Value) (L : List Jt) (V : List Value) (m : List Mv) (kd xa xb xy : Int) (hpq : p ≤ q) (hll : (L.length + 2) * 24 ≤ 140737488355328) (h : Bth w p q v v2 L V m) :
    Calls Try.prog 10 #[.pointer (some ⟨p, 0, none⟩), .pointer (some ⟨q, 0, none⟩), .agg #[.int .i64 kd, .int .i64 xa, .int .i64 xb, .int .i64 xy] ] w fun e w' => e = .returned (.bool true) ∧ StB w p q L w' := by
  by_cases k1 : kd = 1
  · subst k1; exact step_join w p q v v2 L V m xa xb xy hpq hll h
  by_cases k2 : kd = 2
  · exact step_same w p q v v2 L V m kd xa xb xy k2 h
  by_cases k3 : kd = 3
  · subst k3; exact step_least w p q v v2 L V m xa xb xy h
  by_cases k4 : kd = 4
  · subst k4; exact step_group w p q v v2 L V m xa xb xy h
  by_cases k5 : kd = 5
  · subst k5; exact step_path w p q v v2 L V m xa xb xy h
  exact step_add w p q v v2 L V m kd xa xb xy k1 k2 k3 k4 k5 hpq h
end Go.Proofs.Ytfnbkffphpidbaa
