/-
  MaT, MaW.
-/
import Derived.Shelf.Unicode.DecodeSlow
import Derived.Laws.RangeAny
import Derived.Shelf.Strconv.Itoa0
import Derived.Shelf.Unicode.DecodeAny
import Derived.Test.YtjkcbigmebbkkaaDoorProg
import Derived.WalkKit
import Derived.Deep.DeepFit
import Derived.Lib.OthersKept
import Derived.Lib.RuneCountTail
import Derived.Deep.AppendLies
import Derived.Deep.OwnRows
import Derived.Laws.AppendOwnNone
import Derived.Deep.QuietTactic
import Derived.BigQuiet
import Derived.Deep.RegionWith
import Derived.Laws.DeepStrings4
import Derived.Laws.CopyOwn
import Derived.Laws.MakeOwn
import Derived.Deep.RegionLaw
import Derived.Below
import Derived.Deep.RegionHeld3
import Derived.Lib.QuietBelow
import Derived.StillTail
import Derived.Lib.MapLaws
import Derived.Sort.Walk0
import Derived.Lib.ItoaNum
import Derived.Maps.OwnSet
import Derived.StringKeys
import Derived.Deep.Slices
import Derived.Laws.ResultCell
import Derived.Test.YtjkcbigmebbkkaaDoorZ01
import Derived.Test.YtjkcbigmebbkkaaDoorZ02
import Derived.Test.YtjkcbigmebbkkaaDoorZ03
import Derived.Test.YtjkcbigmebbkkaaDoorZ04
import Derived.Test.YtjkcbigmebbkkaaDoorZ05
import Derived.Test.YtjkcbigmebbkkaaDoorZ06
import Derived.Test.YtjkcbigmebbkkaaDoorZ07
import Derived.Test.YtjkcbigmebbkkaaDoorZ08
import Derived.Test.YtjkcbigmebbkkaaDoorZ09
import Derived.Test.YtjkcbigmebbkkaaDoorZ10
import Derived.Test.YtjkcbigmebbkkaaDoorZ11
import Derived.Test.YtjkcbigmebbkkaaDoorZ12
import Derived.Test.YtjkcbigmebbkkaaDoorZ13
import Derived.Test.YtjkcbigmebbkkaaDoorZ14
import Derived.Test.YtjkcbigmebbkkaaDoorZ15
import Derived.Test.YtjkcbigmebbkkaaDoorZ16
import Derived.Test.YtjkcbigmebbkkaaDoorZ17
import Derived.Test.YtjkcbigmebbkkaaDoorZ18
import Derived.Test.YtjkcbigmebbkkaaDoorZ19
import Derived.Test.YtjkcbigmebbkkaaDoorZ20
import Derived.Test.YtjkcbigmebbkkaaDoorZ21
import Derived.Test.YtjkcbigmebbkkaaDoorZ22
import Derived.Test.YtjkcbigmebbkkaaDoorZ23
import Derived.Test.YtjkcbigmebbkkaaDoorZ24
set_option linter.unusedSimpArgs false
set_option linter.unusedVariables false
namespace Go.Proofs.YtjkcbigmebbkkaaDoor
open Go.RowKit Go.Lib Go.Sort

set_option maxRecDepth 20000 in
set_option maxHeartbeats 1000000 in
theorem bare15_any (c : Cm) (w : World) : Calls Tryd.prog 62 #[cmV c] w fun e w' => e = .returned (.bool (bareB c)) ∧ Below w.heap.size w w' := by
  obtain ⟨kind, r, to, op, n, name⟩ := c
  have HB : Hid (bareB ⟨kind, r, to, op, n, name⟩ = (decide (op = 0) && decide (n = 0) && name.toList.isEmpty)) := rfl
  generalize bareB ⟨kind, r, to, op, n, name⟩ = q at *
  unfold cmV
  go_enter Tryd.func62, Tryd.ntmps62
  go_wp2
  all_goals
    go_ret
    refine ⟨?_, (Below.refl _ _).alloc (Nat.le_refl _) _⟩
    rw [HB.out]
    simp_all


theorem Tryd.infoBool15 : (Tryd.prog.info? 4).map (fun i => (i.zero, i.size, i.bytes)) = some (some (.bool false), 1, 1) := by kernel_rfl
/-- Between two commands. -/
structure Rc15 (w : World) (l : List Cm) (n g : Nat) (s : Nat × List Bool) (k : Nat) (wr : World) : Prop where
  ck : ckL (1, List.replicate n false) (l.take k) = some s
  len : s.2.length = n
  reg : s.1 ≤ 1 + 3 * k
  blk : wr.heap[g]? = some (.cells (s.2.map Value.bool).toArray 4 (0, 0))
  leg : w.heap.size ≤ g
  below : Below w.heap.size w wr
theorem Rc15.cell {w wr : World} {l : List Cm} {n g k : Nat} {s : Nat × List Bool} (h : Rc15 w l n g s k wr) {j : Nat} (hj : j < n) : wr.cell? ⟨g, j, none⟩ = some (.bool (s.2.getD j true)) ∧ wr.frozen? ⟨g, j, none⟩ = false := by
  have hl := h.len
  refine ⟨?_, frozen_of_heap h.blk _⟩
  rw [cell_of_heap h.blk]
  simp [show j < s.2.length by omega]
theorem Rc15.grow {w wr w' : World} {l : List Cm} {n g k : Nat} {s : Nat × List Bool} (h : Rc15 w l n g s k wr) (hb : Below wr.heap.size wr w') : Rc15 w l n g s k w' :=
  ⟨h.ck, h.len, h.reg, (hb.block g (lt_of_block h.blk)).trans h.blk, h.leg, h.below.trans (hb.mono h.below.size)⟩
/-- A command that is none. -/
theorem Rc15.bad {w wr : World} {l : List Cm} {n g k : Nat} {s : Nat × List Bool} (h : Rc15 w l n g s k wr) (hk : k < l.length) {z : Int} (hz : (n : Int) = z) (hn : ckS s (l.getD k cm0) = none) : ckE l z = 1 := by
  subst hz
  have h1 : ckL (1, List.replicate n false) (l.take (k + 1)) = none := by rw [ckL_take hk, h.ck]; exact hn
  unfold ckE ckA
  rw [Int.toNat_natCast, ckL_stop h1]
  simp
/-- A command that is one. -/
theorem Rc15.good {w wr w' : World} {l : List Cm} {n g k : Nat} {s s' : Nat × List Bool} (h : Rc15 w l n g s k wr) (hk : k < l.length) (hn : ckS s (l.getD k cm0) = some s') (hl : s'.2.length = n) (hr : s'.1 ≤ s.1 + 3) (hblk : w'.heap[g]? = some (.cells (s'.2.map Value.bool).toArray 4 (0, 0))) (hb : Below w.heap.size w w') : Rc15 w l n g s' (k + 1) w' :=
  ⟨by rw [ckL_take hk, h.ck]; exact hn, hl, by have := h.reg; omega, hblk, h.leg, hb⟩

set_option maxRecDepth 20000 in
set_option maxHeartbeats 8000000 in
theorem rchk15_any {w : World} {ao : Option Addr} {cap : Nat} {l : List Cm} (hC : Cms w ao cap l) (hnm : l.length ≤ 64 → ∀ c ∈ l, c.name.size ≤ maxLen) (h : Int) :
    Calls Tryd.prog 34 #[.slice ao l.length cap, .int .i64 h] w fun e w' => e = .returned (.int .i64 (ckE l h)) ∧ Below w.heap.size w w' := by
  have hl1 := hC.1
  have hl2 := hC.2.1
  unfold maxLen at hl2
  have HC : Hid (Cms w ao cap l) := hC
  by_cases hb : 0 ≤ h ∧ h ≤ 6 ∧ l.length ≤ 64
  · obtain ⟨n, rfl⟩ : ∃ n : Nat, h = n := ⟨h.toNat, by omega⟩
    obtain ⟨_, hn6, hl64⟩ := hb
    have hn : n ≤ 6 := by omega
    have HM : Hid (∀ c ∈ l, c.name.size ≤ maxLen) := hnm hl64
    have hmk := run_make_row' (P := Tryd.prog) 100 4 (.bool false) 1 Tryd.underlying100 Tryd.infoBool15 rfl .i64 .i64 n (by omega) (by omega) w
    rw [made_one] at hmk
    have hmk3 := fun (k : Nat) (hk : k ≤ 3) (W : World) => run_make_row' (P := Tryd.prog) 61 3 (.int .i64 0) 8 Tryd.underlying61 Tryd.info3 rfl .i64 .i64 k (by omega) (by omega) W
    have HMK3 : Hid (_) := hmk3
    have hST : Rc15 w l n w.heap.size (1, List.replicate n false) 0 (w.alloc (.cells (List.replicate n (.bool false)).toArray 4)) :=
      ⟨rfl, by simp, by simp, by rw [List.map_replicate]; exact (MapKept.heap_alloc w _).1, Nat.le_refl _, (Below.refl _ _).alloc (Nat.le_refl _) _⟩
    obtain ⟨wm, hwm⟩ : ∃ wm, w.alloc (.cells (List.replicate n (.bool false)).toArray 4) = wm := ⟨_, rfl⟩
    rw [hwm] at hST hmk
    have HST : Hid (_) := hST
    have g0 : ¬ ((n : Int) < 0) := by omega
    have g6 : ¬ ((6 : Int) < (n : Int)) := by omega
    have g64 : ¬ ((64 : Int) < (l.length : Int)) := by omega
    obtain ⟨Z, hZ⟩ : ∃ Z, ckE l (n : Int) = Z := ⟨_, rfl⟩
    have HZ : Hid (ckE l (n : Int) = Z) := hZ
    rw [hZ]
    clear hC hST hwm hnm hZ hmk3
    go_enter Tryd.func34, Tryd.ntmps34
    go_wp2_with fail
    go_loopw [5, 7] (fun rg i wr => ∃ (k : Nat) (s : Nat × List Bool), k ≤ l.length ∧ i = .int .i64 k ∧ rg = .int .i64 (s.1 : Nat) ∧ Rc15 w l n w.heap.size s k wr) (fun rg i _ => l.length - (RowKit.intOf i).toNat)
    case atStart => exact ⟨0, (1, List.replicate n false), by omega, rfl, rfl, HST.out⟩
    case round =>
      obtain ⟨k, s, hk, rfl, rfl, hR⟩ := hrel
      by_cases hlt : k < l.length
      · obtain ⟨_, _, hC3⟩ := HC.out
        rcases hC3 with rfl | ⟨b, oo, rfl, hb, hc⟩
        · simp at hlt
        have hcA := (hc k hlt).below hR.below hb
        have hsz := hR.below.size
        have hr1 := hR.reg
        have hnk : (l.getD k cm0).name.size ≤ maxLen := HM.out _ (getD_mem hlt)
        have HBAD : Hid (ckS s (l.getD k cm0) = none → Z = 1) := fun h => by rw [← HZ.out]; exact hR.bad hlt rfl h
        have hRl := hR.len
        have HGD : Hid (∀ (s' : Nat × List Bool) (w' : World), ckS s (l.getD k cm0) = some s' → s'.2.length = n → s'.1 ≤ s.1 + 3 → w'.heap[w.heap.size]? = some (.cells (s'.2.map Value.bool).toArray 4 (0, 0)) → Below w.heap.size w w' → Rc15 w l n w.heap.size s' (k + 1) w') := fun s' w' h1 h2 h3 h4 h5 => hR.good hlt h1 h2 h3 h4 h5
        clear hc
        obtain ⟨cm, hcm⟩ : ∃ cm, l.getD k cm0 = cm := ⟨_, rfl⟩
        rw [hcm] at hcA HBAD HGD hnk
        obtain ⟨kind, r, to, op, nn, name⟩ := cm
        obtain ⟨x0, x1, x2, x3, x4, x5⟩ := hcA
        simp only at x0 x1 x2 x3 x4 x5 hnk
        obtain ⟨wb, hwb, hbb, hcb, hsb⟩ := cm_box wr kind r to op nn name
        obtain ⟨a0, a1, a2, a3, a4, a5⟩ := hcb wb (Below.refl _ _)
        simp only [Nat.zero_add] at a0 a1 a2 a3 a4 a5
        have hRb := hR.grow hbb
        have HRB : Hid (_) := hRb
        have HBB : Hid (_) := hRb.below
        have HCB : Hid (∀ W, Below wb.heap.size wb W → CmAt W wr.heap.size 0 ⟨kind, r, to, op, nn, name⟩) := hcb
        obtain ⟨RG, hRG⟩ : ∃ RG, s.1 = RG := ⟨_, rfl⟩
        have HRG : Hid (s.1 = RG) := hRG
        rw [hRG] at hr1
        rw [hRG]
        clear hR hRb hbb hcb hcm hRG
        by_cases hr : 0 ≤ r ∧ r < (RG : Int)
        · have hd0 : decide (r < 0) = false := decide_eq_false (by omega)
          have hd1 : decide ((RG : Int) ≤ r) = false := decide_eq_false (by omega)
          have hq0 : ¬ (r < 0) := by omega
          have hq1 : ¬ ((RG : Int) ≤ r) := by omega
          have HCK : Hid (∀ c : Cm, c.r = r → ckS s c = (if c.kind = 1 then (if fitC c = true ∧ c.to = (s.1 : Nat) then some (s.1 + (arK c.op).toNat, s.2) else none)
            else if c.kind = 2 then (if bareB c = true ∧ 0 ≤ c.to ∧ c.to < (s.1 : Nat) then some s else none)
            else if c.kind = 3 then (if bareB c = true ∧ 0 ≤ c.to ∧ c.to < (s.2.length : Nat) ∧ s.2.getD c.to.toNat true = false then some (s.1, s.2.set c.to.toNat true) else none)
            else none)) := fun c h => by unfold ckS; rw [if_pos (by rw [h, HRG.out]; exact hr)]
          by_cases k1 : kind = 1
          · subst k1
            have cA := refArity_any op wb
            have hspec := arit_spec op
            have HCK2 : Hid (ckS s ⟨1, r, to, op, nn, name⟩ = if fitB op nn name (arK op) = true ∧ to = (RG : Int) then some (RG + (arK op).toNat, s.2) else none) := by
              show _ = _
              rw [HCK.out _ rfl]
              simp only
              rw [if_pos trivial, HRG.out]
              rfl
            have hle := aritI_le op
            have HAK : Hid (arK op = max (aritI op) 0) := rfl
            have HFN : Hid (aritI op < 0 → fitB op nn name (arK op) = false) := fun h => by unfold fitB; rw [decide_eq_false (by omega)]; rfl
            have cF := fun (ka : Option Addr) (kl kc : Nat) (W : World) (h : kl ≤ maxLen) => form_any op nn name ka kl kc W hnk h
            have HCF : Hid (_) := cF
            generalize arK op = AK at *
            obtain ⟨A, hA⟩ : ∃ A, aritI op = A := ⟨_, rfl⟩
            rw [hA] at cA hle HAK HFN
            clear HCK HC HM hsb hsz cF hspec hA
            go_wp2_with (rw [hwb])
            refine cA.mono ?_
            rintro e w5 ⟨rfl, rfl⟩
            clear cA hwb
            by_cases hA0 : A < 0
            · have hdA : decide (A < 0) = true := decide_eq_true hA0
              have HZ1 : Hid (Z = 1) := HBAD.out (by rw [HCK2.out, HFN.out hA0]; simp)
              have p2 := cell_regrown a2
              have p3 := cell_regrown a3
              have p4 := cell_regrown a4
              have p5 := cell_regrown a5
              clear HCK2 HBAD HGD HCB HRB HFN
              go_wp2_with fail
              refine wp_region_quiet_below (by kernel_rfl) (by kernel_rfl) ?_
              iterate 21 (go_big_quiet_step (fail))
              refine wpQuiet_nil ?_
              intro w' hw'
              obtain ⟨⟨dq, osq⟩, hw''⟩ := hw'
              subst hw''
              have hb2 := below_regrown w5 dq osq
              generalize grow (redrawn w5 dq) osq = w3 at *
              have HB : Hid (Below w.heap.size w w3) := HBB.out.trans (hb2.mono HBB.out.size)
              clear hb2 a0 a1 a2 a3 a4 a5 p2 p3 p4 p5
              go_wp2_with fail
              go_ret
              exact ⟨by rw [HZ1.out]; rfl, HB.out⟩
            · obtain ⟨K, rfl⟩ : ∃ K : Nat, A = K := ⟨A.toNat, by omega⟩
              have hK3 : K ≤ 3 := by omega
              have HAK2 : Hid (AK = (K : Int)) := by show AK = _; rw [HAK.out]; omega
              have hdA : decide ((K : Int) < 0) = false := decide_eq_false (by omega)
              by_cases hto : to = (RG : Int)
              · subst hto
                have hmk3 := HMK3.out K hK3
                have HFX : Hid (∀ W : World, Below w5.heap.size w5 W → Calls Tryd.prog 38 #[.agg #[.int .i64 op, .int .i64 nn, .string name, .slice (some ⟨W.heap.size, 0, none⟩) K K]] (W.alloc (.cells (madeCells #[.int .i64 0] K) 3)) fun e w' => e = .returned (.bool (fitB op nn name (K : Int))) ∧ Below w5.heap.size w5 w') := fun W hb => (HCF.out (some ⟨W.heap.size, 0, none⟩) K K _ (by unfold maxLen; omega)).mono fun e w' ⟨h1, h2⟩ => ⟨h1, (hb.alloc hb.size _).trans (h2.mono (by have := hb.size; simp; omega))⟩
                have HCK3 : Hid (ckS s ⟨1, r, (RG : Int), op, nn, name⟩ = if fitB op nn name (K : Int) = true then some (RG + K, s.2) else none) := by
                  show _ = _
                  rw [HCK2.out, HAK2.out]
                  simp
                generalize fitB op nn name (K : Int) = fb at *
                clear HCK2 HFN HCF HAK hle
                go_wp2_with fail
                go_region_held3 (fun W => W.cell? ⟨wr.heap.size, 2, none⟩ = some (.int .i64 (RG : Int)) ∧ W.cell? ⟨wr.heap.size, 3, none⟩ = some (.int .i64 op) ∧ W.cell? ⟨wr.heap.size, 4, none⟩ = some (.int .i64 nn) ∧ W.cell? ⟨wr.heap.size, 5, none⟩ = some (.string name)) (go_keep) (first | (go_at_call 38; refine (HFX.out _ (Below.refl _ _).drew).mono ?_; rintro e w6 ⟨rfl, hb6⟩; obtain ⟨e0, e1, e2, e3, e4, e5⟩ := HCB.out w6 hb6; simp only [Nat.zero_add] at e0 e1 e2 e3 e4 e5))
                have hR6 := HRB.out.grow hb6
                have HB6 : Hid (_) := hR6.below
                cases fb with
                | true =>
                  have HN : Hid (Rc15 w l n w.heap.size (RG + K, s.2) (k + 1) w6) := HGD.out _ _ (by rw [HCK3.out]; rfl) hR6.len (by show RG + K ≤ s.1 + 3; rw [HRG.out]; omega) hR6.blk hR6.below
                  clear HCK3 HBAD HGD hR6 hb6 e0 e1 e2 e3 e4 e5 HCB HRB a0 a1 a2 a3 a4 a5 HFX
                  go_wp2_with fail
                  exact ⟨⟨k + 1, (RG + K, s.2), by omega, by go_num, by go_num, HN.out⟩, by simp [RowKit.intOf]; omega⟩
                | false =>
                  have HZ1 : Hid (Z = 1) := HBAD.out (by rw [HCK3.out]; rfl)
                  clear HCK3 HBAD HGD hR6 hb6 e0 e1 e2 e3 e4 e5 HCB HRB a0 a1 a2 a3 a4 a5 HFX
                  go_wp2_with fail
                  go_ret
                  exact ⟨by rw [HZ1.out]; rfl, HB6.out⟩
              · have HZ1 : Hid (Z = 1) := HBAD.out (by rw [HCK2.out, if_neg (fun h => hto h.2)])
                have hdT : (to == (RG : Int)) = false := by rw [beq_eq_false_iff_ne]; exact hto
                have hdT2 : (to != (RG : Int)) = true := by simp [hto]
                have hdT3 : decide (to = (RG : Int)) = false := decide_eq_false hto
                have p2 := cell_regrown a2
                have p3 := cell_regrown a3
                have p4 := cell_regrown a4
                have p5 := cell_regrown a5
                clear HCK2 HBAD HGD HCB HRB HFN
                go_wp2_with fail
                refine wp_region_quiet_below (by kernel_rfl) (by kernel_rfl) ?_
                iterate 21 (go_big_quiet_step (fail))
                refine wpQuiet_nil ?_
                intro w' hw'
                obtain ⟨⟨dq, osq⟩, hw''⟩ := hw'
                subst hw''
                have hb2 := below_regrown w5 dq osq
                generalize grow (redrawn w5 dq) osq = w3 at *
                have HB : Hid (Below w.heap.size w w3) := HBB.out.trans (hb2.mono HBB.out.size)
                clear hb2 a0 a1 a2 a3 a4 a5 p2 p3 p4 p5
                go_wp2_with fail
                go_ret
                exact ⟨by rw [HZ1.out]; rfl, HB.out⟩
          by_cases k2 : kind = 2
          · subst k2
            have cB := bare15_any ⟨2, r, to, op, nn, name⟩ wb
            have HCK2 : Hid (ckS s ⟨2, r, to, op, nn, name⟩ = if bareB ⟨2, r, to, op, nn, name⟩ = true ∧ 0 ≤ to ∧ to < (RG : Int) then some s else none) := by
              show _ = _
              rw [HCK.out _ rfl]
              simp only
              rw [if_neg (show ¬ (2 : Int) = 1 by decide), if_pos trivial, HRG.out]
            generalize bareB ⟨2, r, to, op, nn, name⟩ = fb at *
            unfold cmV at cB
            simp only at cB
            clear HCK HC HM hsb hsz
            go_wp2_with (rw [hwb])
            refine cB.mono ?_
            rintro e w5 ⟨rfl, hb5⟩
            obtain ⟨e0, e1, e2, e3, e4, e5⟩ := HCB.out w5 hb5
            simp only [Nat.zero_add] at e0 e1 e2 e3 e4 e5
            have hR5 := HRB.out.grow hb5
            have HB5 : Hid (_) := hR5.below
            clear cB hb5 a0 a1 a2 a3 a4 a5 HCB HRB hwb
            by_cases hok : fb = true ∧ 0 ≤ to ∧ to < (RG : Int)
            · obtain ⟨rfl, t1, t2⟩ := hok
              have HN : Hid (Rc15 w l n w.heap.size s (k + 1) w5) := HGD.out s w5 (by rw [HCK2.out, if_pos ⟨rfl, t1, t2⟩]) hR5.len (by omega) hR5.blk hR5.below
              have ht0 : ¬ (to < 0) := by omega
              have ht1 : ¬ ((RG : Int) ≤ to) := by omega
              clear HCK2 HBAD HGD hR5
              go_wp2_with fail
              exact ⟨⟨k + 1, s, by omega, by go_num, by rw [HRG.out], HN.out⟩, by simp [RowKit.intOf]; omega⟩
            · have HZ1 : Hid (Z = 1) := HBAD.out (by rw [HCK2.out, if_neg hok])
              clear HCK2 HBAD HGD hR5
              cases fb with
              | false =>
                go_wp2_with fail
                go_ret
                exact ⟨by rw [HZ1.out]; rfl, HB5.out⟩
              | true =>
                by_cases ht0 : to < 0
                · go_wp2_with fail
                  go_ret
                  exact ⟨by rw [HZ1.out]; rfl, HB5.out⟩
                · have ht1 : (RG : Int) ≤ to := by
                    by_cases h : to < (RG : Int)
                    · exact absurd ⟨rfl, by omega, h⟩ hok
                    · omega
                  go_wp2_with fail
                  go_ret
                  exact ⟨by rw [HZ1.out]; rfl, HB5.out⟩
          by_cases k3 : kind = 3
          · subst k3
            have cB := bare15_any ⟨3, r, to, op, nn, name⟩ wb
            have HCK2 : Hid (ckS s ⟨3, r, to, op, nn, name⟩ = if bareB ⟨3, r, to, op, nn, name⟩ = true ∧ 0 ≤ to ∧ to < (n : Int) ∧ s.2.getD to.toNat true = false then some (s.1, s.2.set to.toNat true) else none) := by
              show _ = _
              rw [HCK.out _ rfl]
              simp only
              rw [if_neg (show ¬ (3 : Int) = 1 by decide), if_neg (show ¬ (3 : Int) = 2 by decide), if_pos trivial, hRl]
            generalize bareB ⟨3, r, to, op, nn, name⟩ = fb at *
            unfold cmV at cB
            simp only at cB
            clear HCK HC HM hsb hsz
            go_wp2_with (rw [hwb])
            refine cB.mono ?_
            rintro e w5 ⟨rfl, hb5⟩
            obtain ⟨e0, e1, e2, e3, e4, e5⟩ := HCB.out w5 hb5
            simp only [Nat.zero_add] at e0 e1 e2 e3 e4 e5
            have hR5 := HRB.out.grow hb5
            have HB5 : Hid (_) := hR5.below
            clear cB hb5 a0 a1 a2 a3 a4 a5 HCB HRB hwb
            by_cases hok : fb = true ∧ 0 ≤ to ∧ to < (n : Int)
            · obtain ⟨rfl, t1, t2⟩ := hok
              have ht0 : ¬ (to < 0) := by omega
              have ht1 : ¬ ((n : Int) ≤ to) := by omega
              obtain ⟨c0, cf⟩ := hR5.cell (j := to.toNat) (by omega)
              cases htk : s.2.getD to.toNat true with
              | true =>
                rw [htk] at c0
                have HZ1 : Hid (Z = 1) := HBAD.out (by rw [HCK2.out, htk]; simp)
                clear HCK2 HBAD HGD hR5 htk
                go_wp2_with fail
                go_ret
                exact ⟨by rw [HZ1.out]; rfl, HB5.out⟩
              | false =>
                rw [htk] at c0
                have HN : Hid (Rc15 w l n w.heap.size (s.1, s.2.set to.toNat true) (k + 1) (w5.setCell ⟨w.heap.size, to.toNat, none⟩ (.bool true))) := HGD.out _ _ (by rw [HCK2.out, if_pos ⟨rfl, t1, t2, htk⟩]) (by simpa using hRl) (by simp) (by rw [heap_setCell_same w5 w.heap.size to.toNat _ _ _ hR5.blk]; simp [List.map_set]) (hR5.below.setCell (p := ⟨w.heap.size, to.toNat, none⟩) (Nat.le_refl _) _)
                clear HCK2 HBAD HGD hR5 htk
                go_wp2_with fail
                exact ⟨⟨k + 1, (s.1, s.2.set to.toNat true), by omega, by go_num, by rw [HRG.out], HN.out⟩, by simp [RowKit.intOf]; omega⟩
            · have HZ1 : Hid (Z = 1) := HBAD.out (by rw [HCK2.out, if_neg (fun h => hok ⟨h.1, h.2.1, h.2.2.1⟩)])
              clear HCK2 HBAD HGD hR5
              cases fb with
              | false =>
                go_wp2_with fail
                go_ret
                exact ⟨by rw [HZ1.out]; rfl, HB5.out⟩
              | true =>
                by_cases ht0 : to < 0
                · go_wp2_with fail
                  go_ret
                  exact ⟨by rw [HZ1.out]; rfl, HB5.out⟩
                · have ht1 : (n : Int) ≤ to := by
                    by_cases h : to < (n : Int)
                    · exact absurd ⟨rfl, by omega, h⟩ hok
                    · omega
                  go_wp2_with fail
                  go_ret
                  exact ⟨by rw [HZ1.out]; rfl, HB5.out⟩
          have g1 : (kind == 1) = false := by rw [beq_eq_false_iff_ne]; exact k1
          have g2 : (kind == 2) = false := by rw [beq_eq_false_iff_ne]; exact k2
          have g3 : (kind == 3) = false := by rw [beq_eq_false_iff_ne]; exact k3
          have HZ1 : Hid (Z = 1) := HBAD.out (by rw [HCK.out _ rfl]; simp only [if_neg k1, if_neg k2, if_neg k3])
          clear HCK HBAD HGD HCB HRB HC HM k1 k2 k3 hsb hsz
          go_wp2_with (rw [hwb])
          go_ret
          exact ⟨by rw [HZ1.out]; rfl, HBB.out⟩
        · have HZ1 : Hid (Z = 1) := HBAD.out (by unfold ckS; rw [if_neg (by rw [HRG.out]; exact hr)])
          clear HBAD HGD HCB HRB HC HM hsb hsz
          go_wp2_with (rw [hwb])
          all_goals (first | (exfalso; omega) | skip)
          all_goals
            go_ret
            exact ⟨by rw [HZ1.out]; rfl, HBB.out⟩
      · have hke : k = l.length := by omega
        subst hke
        have hck := hR.ck
        rw [List.take_length] at hck
        have HZ2 : Hid (Z = if s.2.all (fun b => b) = true then 0 else 1) := by
          show Z = _
          rw [← HZ.out]
          unfold ckE ckA
          rw [Int.toNat_natCast, hck, decide_eq_true ⟨by omega, by omega, hl64⟩, Bool.true_and]
        have HR : Hid (_) := hR
        clear hR hck
        go_wp2_with fail
        obtain ⟨W0, hW0⟩ : ∃ W0, W0 = wr := ⟨wr, rfl⟩
        subst hW0
        go_loop [10] (fun i => ∃ t : Nat, t ≤ n ∧ i = .int .i64 t ∧ (s.2.take t).all (fun b => b) = true) (fun i => n - (RowKit.intOf i).toNat)
        case atStart => exact ⟨0, by omega, rfl, by simp⟩
        case round =>
          obtain ⟨t, ht, rfl, hal⟩ := hrel
          have HAL : Hid (_) := hal
          clear hal
          by_cases htl : t < n
          · obtain ⟨c0, _⟩ := HR.out.cell htl
            have hsl := HR.out.len
            have e : s.2.getD t true = s.2[t] := by simp [show t < s.2.length by omega]
            have HSL : Hid (s.2.length = n) := hsl
            cases hb : s.2.getD t true with
            | true =>
              rw [hb] at c0 e
              have HA2 : Hid ((s.2.take (t + 1)).all (fun b => b) = true) := by
                show _ = _
                rw [List.take_succ_eq_append_getElem (show t < s.2.length by omega), List.all_append, HAL.out, ← e]; rfl
              clear e hb hsl HAL
              go_wp2_with fail
              exact ⟨⟨t + 1, by omega, by go_num, HA2.out⟩, by simp [RowKit.intOf]; omega⟩
            | false =>
              rw [hb] at c0 e
              have HZ3 : Hid (Z = 1) := by
                show Z = 1
                rw [HZ2.out, if_neg]
                intro hall
                have := List.all_eq_true.1 hall _ (List.getElem_mem (show t < s.2.length by omega))
                rw [← e] at this; cases this
              have HBB : Hid (_) := HR.out.below
              clear e hb hsl HAL
              go_wp2_with fail
              go_ret
              exact ⟨by rw [HZ3.out]; rfl, HBB.out⟩
          · have hte : t = n := by omega
            subst hte
            have HZ3 : Hid (Z = 0) := by
              show Z = 0
              have h1 := HAL.out
              rw [List.take_of_length_le (by have := HR.out.len; omega)] at h1
              rw [HZ2.out, if_pos h1]
            have HBB : Hid (_) := HR.out.below
            clear HAL
            go_wp2_with fail
            go_ret
            exact ⟨by rw [HZ3.out]; rfl, HBB.out⟩
  · have HE : Hid (ckE l h = 1) := by
      show _ = _
      unfold ckE ckA
      rw [decide_eq_false hb]; rfl
    generalize ckE l h = Z at *
    clear hC hnm
    go_enter Tryd.func34, Tryd.ntmps34
    go_wp2_with fail
    all_goals (first | (exfalso; omega) | skip)
    all_goals
      go_ret
      exact ⟨by rw [HE.out]; rfl, Below.refl _ _⟩
end Go.Proofs.YtjkcbigmebbkkaaDoor

set_option linter.unusedSimpArgs false
set_option linter.unusedVariables false
namespace Go.Proofs.YtjkcbigmebbkkaaDoor
open Go.RowKit Go.Lib Go.Maps

theorem cp_names {l : List Nd} (hn : ∀ x ∈ l, x.name.size ≤ maxLen) : ∀ j, j ≤ l.length → ∀ c ∈ (cpF l j).prog, c.name.size ≤ maxLen
  | 0, _ => fun c hc => by simp [cpF] at hc
  | j + 1, hj => fun c hc => by
    simp only [cpF, cpS, List.mem_append, List.mem_singleton] at hc
    rcases hc with hc | rfl
    · exact cp_names hn j (by omega) c hc
    · have h0 : (⟨#[]⟩ : ByteArray).size ≤ maxLen := by unfold maxLen; decide
      unfold cpC
      split
      · split
        · exact h0
        · exact h0
      · exact hn _ (getD_mem (by omega))
/-- What stands through the law. -/
structure Mc1 (w : World) (ao : Option Addr) (ca : Nat) (l : List Nd) (W : World) : Prop where
  below : Below w.heap.size w W
  tabs : SpanCells W
  rd : Rd W ao ca l
theorem Mc1.next {w W W' : World} {ao : Option Addr} {ca : Nat} {l : List Nd} (h : Mc1 w ao ca l W) (hb : Below W.heap.size W W') : Mc1 w ao ca l W' :=
  ⟨h.below.trans (hb.mono h.below.size), h.tabs.below hb, h.rd.below hb hb.size⟩
set_option maxRecDepth 20000 in
set_option maxHeartbeats 2000000 in
theorem machineCompiles_walk (w : World) (ao : Option Addr) (ca : Nat) (l : List Nd) (T : SpanCells w) (hA : Rd w ao ca l) (FA : Fit l) :
    Calls Tryd.prog 5 #[.slice ao l.length ca] w fun e w' => e = .returned (.bool true) ∧ Below w.heap.size w w' := by
  have H0 : Hid (Mc1 w ao ca l w) := ⟨Below.refl _ _, T, hA⟩
  have HF : Hid (Fit l) := FA
  have cW := awake15_any T
  have hb64 := hA.bound
  unfold maxLen at hb64
  clear T hA FA
  go_enter Tryd.func5, Tryd.ntmps5
  go_wp2_with fail
  refine cW.mono ?_
  rintro e w1 ⟨rfl, hb⟩
  have H1 : Hid (Mc1 w ao ca l w1) := H0.out.next hb
  clear hb cW H0
  go_wp2_with fail
  refine (copyR H1.out.rd HF.out).mono ?_
  rintro e w2 ⟨a2, c2, rfl, D2, hb⟩
  have H2 : Hid (Mc1 w ao ca l w2) := H1.out.next hb
  clear hb H1
  cases hp : patB l with
  | false =>
    have cC := compile_bad H2.out.tabs D2 HF.out.name hp
    have HP : Hid (patB l = false) := hp
    clear hp D2
    go_wp2_with fail
    refine cC.mono ?_
    rintro e w3 ⟨rfl, hb⟩
    have H3 : Hid (Mc1 w ao ca l w3) := H2.out.next hb
    clear hb H2 cC
    have cK := rchk14_any H3.out.rd HF.out
    rw [show pkC l = 1 by unfold pkC; rw [HP.out]; rfl] at cK
    go_wp2_with fail
    refine cK.mono ?_
    rintro e w4 ⟨rfl, hb⟩
    have H4 : Hid (Mc1 w ao ca l w4) := H3.out.next hb
    clear hb H3 cK
    go_wp2_with fail
    go_ret
    exact ⟨rfl, H4.out.below⟩
  | true =>
    have cC := compile_ok H2.out.tabs D2 HF.out.name hp
    have HP : Hid (patB l = true) := hp
    have hpl := (cp_inv hp l.length (Nat.le_refl _)).plen
    have hl16 := (patB_beg hp).1
    have HS : Hid (ckE (cpF l l.length).prog ((hlsL l).length : Nat) = 0) := by show _ = _; unfold ckE; rw [cp_sound hp]; rfl
    have HN : Hid (∀ c ∈ (cpF l l.length).prog, c.name.size ≤ maxLen) := cp_names HF.out.name _ (Nat.le_refl _)
    generalize (cpF l l.length).prog = pr at *
    clear hp D2
    go_wp2_with fail
    refine cC.mono ?_
    rintro e w3 ⟨pa, pc, rfl, hO, hb⟩
    have H3 : Hid (Mc1 w ao ca l w3) := H2.out.next hb
    have hO' : w3.ownsRow w2.heap.size 68 6 (.slice pa l.length pc) pr.length (cmCells pr) := by rw [hpl]; exact hO
    obtain ⟨pa', pc', e1, hC3⟩ := Cms_of_own hO'
    rw [hpl] at e1
    cases e1
    have HC3 : Hid (Cms w3 pa pc pr) := hC3
    clear hb H2 cC hO hO' hC3
    have cK := rchk14_any H3.out.rd HF.out
    rw [show pkC l = 0 by unfold pkC; rw [HP.out]; rfl] at cK
    go_wp2_with fail
    refine cK.mono ?_
    rintro e w4 ⟨rfl, hb⟩
    have H4 : Hid (Mc1 w ao ca l w4) := H3.out.next hb
    have HC4 : Hid (Cms w4 pa pc pr) := HC3.out.below hb
    clear hb H3 HC3 cK
    have cH := refHolesO_any H4.out.rd HF.out.len
    go_wp2_with fail
    refine cH.mono ?_
    rintro e w5 ⟨ha, hc, rfl, hM⟩
    have H5 : Hid (Mc1 w ao ca l w5) := H4.out.next hM.below
    have HC5 : Hid (Cms w5 pa pc pr) := HC4.out.below hM.below
    clear hM H4 HC4 cH
    have c1 := rchk15_any HC5.out (fun _ => HN.out) ((hlsL l).length : Nat)
    rw [HS.out, hpl] at c1
    go_wp2_with fail
    refine c1.mono ?_
    rintro e w6 ⟨rfl, hb⟩
    have H6 : Hid (Mc1 w ao ca l w6) := H5.out.next hb
    have HC6 : Hid (Cms w6 pa pc pr) := HC5.out.below hb
    clear hb H5 HC5 c1
    have c2 := mcheck_any H6.out.tabs HC6.out ((hlsL l).length : Nat)
    rw [HS.out, hpl] at c2
    go_wp2_with fail
    refine c2.mono ?_
    rintro e w7 ⟨rfl, hb⟩
    have H7 : Hid (Mc1 w ao ca l w7) := H6.out.next hb
    clear hb H6 c2
    go_wp2_with fail
    go_ret
    exact ⟨rfl, H7.out.below⟩
end Go.Proofs.YtjkcbigmebbkkaaDoor
