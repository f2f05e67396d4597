/-
  MaJ.
-/
import Derived.Shelf.Unicode.DecodeSlow
import Derived.Laws.RangeAny
import Derived.Shelf.Strconv.Itoa0
import Derived.Shelf.Unicode.DecodeAny
import Derived.Test.YtjkcbigmebbkkaaDoorProg
import Derived.WalkKit
import Derived.Deep.DeepFit
import Derived.Lib.OthersKept
import Derived.Lib.RuneCountTail
import Derived.Deep.AppendLies
import Derived.Deep.OwnRows
import Derived.Laws.AppendOwnNone
import Derived.Deep.QuietTactic
import Derived.BigQuiet
import Derived.Deep.RegionWith
import Derived.Laws.DeepStrings4
import Derived.Laws.CopyOwn
import Derived.Laws.MakeOwn
import Derived.Deep.RegionLaw
import Derived.Below
import Derived.Deep.RegionHeld3
import Derived.Lib.QuietBelow
import Derived.StillTail
import Derived.Test.YtjkcbigmebbkkaaDoorY01
import Derived.Test.YtjkcbigmebbkkaaDoorY02
import Derived.Test.YtjkcbigmebbkkaaDoorY03
import Derived.Test.YtjkcbigmebbkkaaDoorY04
import Derived.Test.YtjkcbigmebbkkaaDoorY05
import Derived.Test.YtjkcbigmebbkkaaDoorY06
import Derived.Test.YtjkcbigmebbkkaaDoorY07
import Derived.Test.YtjkcbigmebbkkaaDoorY08
import Derived.Test.YtjkcbigmebbkkaaDoorY09
import Derived.Test.YtjkcbigmebbkkaaDoorY10
import Derived.Test.YtjkcbigmebbkkaaDoorY11
set_option linter.unusedSimpArgs false
set_option linter.unusedVariables false
namespace Go.Proofs.YtjkcbigmebbkkaaDoor
open Go.RowKit Go.Lib Go.Sort

set_option maxRecDepth 20000 in
set_option maxHeartbeats 4000000 in
theorem command_none {w : World} {base R : Nat} {g : Rg} {sv lv hv : Value} {q : List Lk} (h : RdG w base R g sv lv hv q) (c : Cm) (h1 : c.kind ≠ 1) (h2 : c.kind ≠ 2) (h3 : c.kind ≠ 3) :
    Calls Tryd.prog 86 #[.pointer (some ⟨R, 0, none⟩), cmV c] w fun e w' => CmdP w base R (cmdG g c) e w' := by
  obtain ⟨kind, r, to, op, n, name⟩ := c
  simp only at h1 h2 h3
  have hb0 : base ≤ w.heap.size := Nat.le_trans h.leR (Nat.le_of_lt (lt_of_block h.blk))
  obtain ⟨wA, hwA, hbA, hcA, hsA⟩ := cm_box w kind r to op n name
  have HBA : Hid (_) := hbA
  have HO : Hid (cmdG g ⟨kind, r, to, op, n, name⟩ = none) := by show _ = _; unfold cmdG; rw [if_neg h1, if_neg h2, if_neg h3]
  generalize cmdG g ⟨kind, r, to, op, n, name⟩ = o at *
  obtain ⟨a0, a1, a2, a3, a4, a5⟩ := hcA wA (Below.refl _ _)
  simp only [Nat.zero_add] at a0 a1 a2 a3 a4 a5
  have g1 : (kind == 1) = false := by rw [beq_eq_false_iff_ne]; exact h1
  have g2 : (kind == 2) = false := by rw [beq_eq_false_iff_ne]; exact h2
  have g3 : (kind == 3) = false := by rw [beq_eq_false_iff_ne]; exact h3
  clear h hcA hbA h1 h2 h3
  unfold cmV at *
  simp only at *
  go_enter Tryd.func86, Tryd.ntmps86
  go_wp2_with (rw [hwA])
  go_ret
  exact ⟨by rw [HO.out]; rfl, HBA.out.mono hb0, fun g' h => by rw [HO.out] at h; cases h⟩

set_option maxRecDepth 20000 in
set_option maxHeartbeats 4000000 in
theorem command_same {w : World} {base R : Nat} {g : Rg} {sv lv hv : Value} {q : List Lk} (h : RdG w base R g sv lv hv q) (c : Cm) (h2 : c.kind = 2) (hr : hasG g c.r = true) :
    Calls Tryd.prog 86 #[.pointer (some ⟨R, 0, none⟩), cmV c] w fun e w' => CmdP w base R (cmdG g c) e w' := by
  obtain ⟨kind, r, to, op, n, name⟩ := c
  simp only at h2 hr
  subst h2
  have hr' : 0 ≤ r ∧ r < (g.slots.length : Nat) := by unfold hasG at hr; simpa using hr
  have hb0 : base ≤ w.heap.size := Nat.le_trans h.leR (Nat.le_of_lt (lt_of_block h.blk))
  obtain ⟨wA, hwA, hbA, hcA, hsA⟩ := cm_box w 2 r to op n name
  have cB := bare_any ⟨2, r, to, op, n, name⟩ wA
  have HC : Hid (∀ W, Below wA.heap.size wA W → CmAt W w.heap.size 0 ⟨2, r, to, op, n, name⟩) := hcA
  have HBA : Hid (_) := hbA
  have HH : Hid (RdG w base R g sv lv hv q) := h
  have HG : Hid (cmdG g ⟨2, r, to, op, n, name⟩ = if bareB ⟨2, r, to, op, n, name⟩ = true ∧ hasG g to = true then some (joinG g (g.slots.getD r.toNat 0) (g.slots.getD to.toNat 0)) else none) := by
    show _ = _
    unfold cmdG
    simp only
    rw [if_neg (show ¬ (2 : Int) = 1 by decide), if_pos trivial]
    simp only [hasG, Bool.and_eq_true, decide_eq_true_eq]
  have cH := fun (W : World) (hb : Below w.heap.size w W) => hasG_any (h.below hb) to
  have cJ := fun (W : World) (hb : Below w.heap.size w W) (x y : Int) => join_any (h.below hb) x y
  have HL : Hid (_) := cJ
  have HT : Hid (hasG g to = true → 0 ≤ to ∧ to < (g.slots.length : Nat)) := fun h => by unfold hasG at h; simpa using h
  generalize bareB ⟨2, r, to, op, n, name⟩ = fb at *
  generalize hasG g to = ht at *
  generalize cmdG g ⟨2, r, to, op, n, name⟩ = o at *
  obtain ⟨a0, a1, a2, a3, a4, a5⟩ := hcA wA (Below.refl _ _)
  simp only [Nat.zero_add] at a0 a1 a2 a3 a4 a5
  clear h hcA hbA cJ hr
  unfold cmV at *
  simp only at *
  go_enter Tryd.func86, Tryd.ntmps86
  go_wp2_with (rw [hwA])
  refine cB.mono ?_
  rintro e w1 ⟨rfl, hb1⟩
  have HB1 : Hid (Below w.heap.size w w1) := HBA.out.trans (hb1.mono HBA.out.size)
  obtain ⟨d0, d1, d2, d3, d4, d5⟩ := HC.out w1 hb1
  simp only [Nat.zero_add] at d0 d1 d2 d3 d4 d5
  have cH1 := cH w1 HB1.out
  have h1 := HH.out.below HB1.out
  obtain ⟨r0, _, _, _⟩ := h1.cells
  obtain ⟨so, sc, hsv, hs1, hs2, hs3⟩ := ownI_form h1.slots
  unfold maxLen at hs2
  clear cB cH hb1 a0 a1 a2 a3 a4 a5 hwA h1
  subst hsv
  cases fb with
  | false =>
    have HO : Hid (o = none) := by show o = none; rw [HG.out]; simp
    clear HL HC HH HG HT
    go_wp2_with fail
    go_ret
    exact ⟨by rw [HO.out]; rfl, HB1.out.mono hb0, fun g' h => by rw [HO.out] at h; cases h⟩
  | true =>
    cases ht with
    | false =>
      have HO : Hid (o = none) := by show o = none; rw [HG.out]; simp
      clear HL HC HH HG HT
      go_wp2_with fail
      refine cH1.mono ?_
      rintro e w2 ⟨rfl, rfl⟩
      go_wp2_with fail
      go_ret
      exact ⟨by rw [HO.out]; rfl, HB1.out.mono hb0, fun g' h => by rw [HO.out] at h; cases h⟩
    | true =>
      obtain ⟨t1, t2⟩ := HT.out rfl
      have HO : Hid (o = some (joinG g (g.slots.getD r.toNat 0) (g.slots.getD to.toNat 0))) := by show o = _; rw [HG.out, if_pos ⟨rfl, rfl⟩]
      rcases hs3 with hs3 | ⟨sg, rfl, _, hsl, hsc⟩
      · rw [hs3] at hr'; simp at hr'; omega
      obtain ⟨x0, _⟩ := hsc r.toNat (by omega)
      obtain ⟨y0, _⟩ := hsc to.toNat (by omega)
      obtain ⟨G, hG⟩ : ∃ G, joinG g (g.slots.getD r.toNat 0) (g.slots.getD to.toNat 0) = G := ⟨_, rfl⟩
      have HLJ : Hid (∀ W, Below w.heap.size w W → Calls Tryd.prog 113 #[.pointer (some ⟨R, 0, none⟩), .int .i64 (g.slots.getD r.toNat 0), .int .i64 (g.slots.getD to.toNat 0)] W fun e w' => e = .returned (.tuple #[]) ∧ Below base W w' ∧ ∃ q', RdG w' base R G _ _ _ q') := fun W hb => by rw [← hG]; exact HL.out W hb _ _
      rw [hG] at HO
      generalize g.slots.getD r.toNat 0 = x at *
      generalize g.slots.getD to.toNat 0 = y at *
      clear HL HC HH HG HT hsc hG
      go_wp2_with fail
      refine cH1.mono ?_
      rintro e w2 ⟨rfl, rfl⟩
      clear cH1
      have g1 := cell_regrown r0
      have g2 := cell_regrown d1
      have g3 := cell_regrown d2
      have g4 := cell_regrown x0
      have g5 := cell_regrown y0
      go_wp2_with fail
      refine wp_region_quiet_then 17 (by kernel_rfl) (by kernel_rfl) ?_
      simp only [List.take_succ_cons, List.take_zero]
      iterate 17 (go_big_quiet_step (fail))
      refine wpQuiet_nil ?_
      intro _ hw'
      obtain ⟨⟨ds2, oss2⟩, hw''⟩ := hw'
      subst hw''
      simp only [List.drop_succ_cons, List.drop_zero]
      have hbq := below_regrown w2 ds2 oss2
      generalize grow (redrawn w2 ds2) oss2 = w5 at *
      have HB5 : Hid (Below w.heap.size w w5) := HB1.out.trans (hbq.mono HB1.out.size)
      have CI := HLJ.out w5 HB5.out
      clear hbq g1 g2 g3 g4 g5 r0 d0 d1 d2 d3 d4 d5 x0 y0 HLJ
      go_wp2_with fail
      refine CI.mono ?_
      rintro e w6 ⟨rfl, hb6, q', hR6⟩
      have HB6 : Hid (Below base w w6) := (HB5.out.mono hb0).trans hb6
      have HR6 : Hid (_) := hR6
      clear hb6 hR6 CI
      go_wp2_with fail
      go_ret
      refine ⟨by rw [HO.out]; rfl, HB6.out, fun g' h => by rw [HO.out] at h; cases h; exact ⟨_, _, _, _, HR6.out⟩⟩

set_option maxRecDepth 20000 in
set_option maxHeartbeats 4000000 in
theorem command_take {w : World} {base R : Nat} {g : Rg} {sv lv hv : Value} {q : List Lk} (h : RdG w base R g sv lv hv q) (c : Cm) (h3 : c.kind = 3) (hr : hasG g c.r = true) :
    Calls Tryd.prog 86 #[.pointer (some ⟨R, 0, none⟩), cmV c] w fun e w' => CmdP w base R (cmdG g c) e w' := by
  obtain ⟨kind, r, to, op, n, name⟩ := c
  simp only at h3 hr
  subst h3
  have hr' : 0 ≤ r ∧ r < (g.slots.length : Nat) := by unfold hasG at hr; simpa using hr
  have hb0 : base ≤ w.heap.size := Nat.le_trans h.leR (Nat.le_of_lt (lt_of_block h.blk))
  obtain ⟨wA, hwA, hbA, hcA, hsA⟩ := cm_box w 3 r to op n name
  have HCB : Hid (∀ W, Below wA.heap.size wA W → Calls Tryd.prog 112 #[cmV ⟨3, r, to, op, n, name⟩] W fun e w' => e = .returned (.bool (bareB ⟨3, r, to, op, n, name⟩)) ∧ Below wA.heap.size wA w') := fun W hb => (bare_any ⟨3, r, to, op, n, name⟩ W).mono fun e w' ⟨h1, h2⟩ => ⟨h1, hb.trans (h2.mono hb.size)⟩
  have HC : Hid (∀ W, Below wA.heap.size wA W → CmAt W w.heap.size 0 ⟨3, r, to, op, n, name⟩) := hcA
  have HCT : Hid (∀ d os, Calls Tryd.prog 112 #[cmV ⟨3, r, to, op, n, name⟩] (grow (redrawn wA d) os) fun e w'' => e = .returned (.bool (bareB ⟨3, r, to, op, n, name⟩)) ∧ ∃ p : Regrown, w'' = grow (redrawn wA p.d) p.os) := fun d os => Calls.regrown_of (bare_any ⟨3, r, to, op, n, name⟩ _)
  have HBA : Hid (_) := hbA
  have HH : Hid (RdG w base R g sv lv hv q) := h
  have HG : Hid (cmdG g ⟨3, r, to, op, n, name⟩ = if bareB ⟨3, r, to, op, n, name⟩ = true ∧ 0 ≤ to ∧ to < (g.holes.length : Nat) ∧ g.holes.getD to.toNat 0 = -1 then some (takeG g ⟨3, r, to, op, n, name⟩) else none) := by
    show _ = _
    unfold cmdG
    simp only
    rw [if_neg (show ¬ (3 : Int) = 1 by decide), if_neg (show ¬ (3 : Int) = 2 by decide), if_pos trivial]
  have HTG : Hid (takeG g ⟨3, r, to, op, n, name⟩ = { g with holes := g.holes.set to.toNat (g.slots.getD r.toNat 0) }) := rfl
  generalize takeG g ⟨3, r, to, op, n, name⟩ = G at *
  generalize bareB ⟨3, r, to, op, n, name⟩ = fb at *
  generalize cmdG g ⟨3, r, to, op, n, name⟩ = o at *
  obtain ⟨a0, a1, a2, a3, a4, a5⟩ := hcA wA (Below.refl _ _)
  simp only [Nat.zero_add] at a0 a1 a2 a3 a4 a5
  have hA := h.below hbA
  obtain ⟨r0, _, r2, _⟩ := hA.cells
  obtain ⟨so, sc, hsv, hs1, hs2, hs3⟩ := ownI_form hA.slots
  obtain ⟨ho, hc, hhv, hh1, hh2, hh3⟩ := ownI_form hA.holes
  unfold maxLen at hs2 hh2
  subst hsv
  subst hhv
  clear h hcA hbA hr
  unfold cmV at *
  simp only at *
  have hlR : R < wA.heap.size := lt_of_block hA.blk
  by_cases hok : fb = true ∧ 0 ≤ to ∧ to < (g.holes.length : Nat)
  · obtain ⟨rfl, t1, t2⟩ := hok
    rcases hs3 with hs3 | ⟨sg, rfl, _, hsl, hsc⟩
    · rw [hs3] at hr'; simp at hr'; omega
    rcases hh3 with hh3 | ⟨hg, rfl, hg0, hgl, hhc⟩
    · rw [hh3] at t2; simp at t2; omega
    obtain ⟨x0, _⟩ := hsc r.toNat (by omega)
    obtain ⟨y0, yf⟩ := hhc to.toNat (by omega)
    obtain ⟨x, hx⟩ : ∃ x, g.slots.getD r.toNat 0 = x := ⟨_, rfl⟩
    obtain ⟨y, hy⟩ : ∃ y, g.holes.getD to.toNat 0 = y := ⟨_, rfl⟩
    rw [hx] at x0 HTG
    rw [hy] at y0 HG
    have HCE : Hid (∀ W, Below wA.heap.size wA W → W.cell? ⟨w.heap.size, 0, none⟩ = some (.int .i64 3) ∧ W.cell? ⟨w.heap.size, 1, none⟩ = some (.int .i64 r) ∧ W.cell? ⟨w.heap.size, 2, none⟩ = some (.int .i64 to) ∧ W.cell? ⟨w.heap.size, 3, none⟩ = some (.int .i64 op) ∧ W.cell? ⟨w.heap.size, 4, none⟩ = some (.int .i64 n) ∧ W.cell? ⟨w.heap.size, 5, none⟩ = some (.string name) ∧ W.cell? ⟨R, 2, none⟩ = some (.slice (some ⟨hg, 0, none⟩) g.holes.length hc) ∧ W.cell? ⟨hg, to.toNat, none⟩ = some (.int .i64 y)) := fun W hb => by
      obtain ⟨k0, k1, k2, k3, k4, k5⟩ := HC.out W hb
      simp only [Nat.zero_add] at k0 k1 k2 k3 k4 k5
      exact ⟨k0, k1, k2, k3, k4, k5, (hb.cell (p := ⟨R, 2, none⟩) hlR).trans r2, (hb.cell (p := ⟨hg, to.toNat, none⟩) hgl).trans y0⟩
    have HFIN : Hid (∀ W, Below wA.heap.size wA W → W.cell? ⟨R, 0, none⟩ = some (.slice (some ⟨sg, 0, none⟩) g.slots.length sc) ∧ W.cell? ⟨sg, r.toNat, none⟩ = some (.int .i64 x) ∧ W.frozen? ⟨hg, to.toNat, none⟩ = false ∧ RdG (W.setCell ⟨hg, to.toNat, none⟩ (.int .i64 x)) base R { g with holes := g.holes.set to.toNat x } (.slice (some ⟨sg, 0, none⟩) g.slots.length sc) lv (.slice (some ⟨hg, 0, none⟩) g.holes.length hc) q ∧ Below base w (W.setCell ⟨hg, to.toNat, none⟩ (.int .i64 x))) := fun W hb => by
      have hW := hA.below hb
      have hrow := hW.holes
      unfold OwnI at hrow
      refine ⟨(hb.cell (p := ⟨R, 0, none⟩) hlR).trans r0, (hb.cell (p := ⟨sg, r.toNat, none⟩) hsl).trans x0, (hb.frozen (p := ⟨hg, to.toNat, none⟩) hgl).trans yf, ?_, ?_⟩
      · refine (hW.holesTo (grown_set _ _ _ _) ?_).1
        unfold OwnI
        rw [List.length_set, List.map_set]
        exact own_put hrow (by simp; omega)
      · exact ((HBA.out.mono hb0).trans (hb.mono (Nat.le_trans hb0 HBA.out.size))).setCell (p := ⟨hg, to.toNat, none⟩) hg0 _
    obtain ⟨b0, b1, b2, b3, b4, b5, b6, b7⟩ := HCE.out wA (Below.refl _ _)
    have ht0 : ¬ (to < 0) := by omega
    have ht1 : ¬ ((g.holes.length : Int) ≤ to) := by omega
    have hd0 : decide (to < 0) = false := decide_eq_false ht0
    have hd1 : decide ((g.holes.length : Int) ≤ to) = false := decide_eq_false ht1
    by_cases hyy : y = -1
    · subst hyy
      have HO : Hid (o = some G) := by show o = _; rw [HG.out, if_pos ⟨rfl, t1, t2, rfl⟩]
      clear hA hsc hhc hs1 hh1 a0 a1 a2 a3 a4 a5 r0 r2 x0 y0 yf HC HG HH hx hy hs2
      go_enter Tryd.func86, Tryd.ntmps86
      go_wp2_with (rw [hwA])
      go_region_held3 (fun W => W.cell? ⟨w.heap.size, 0, none⟩ = some (.int .i64 3) ∧ W.cell? ⟨w.heap.size, 1, none⟩ = some (.int .i64 r) ∧ W.cell? ⟨w.heap.size, 2, none⟩ = some (.int .i64 to) ∧ W.cell? ⟨w.heap.size, 3, none⟩ = some (.int .i64 op) ∧ W.cell? ⟨w.heap.size, 4, none⟩ = some (.int .i64 n) ∧ W.cell? ⟨w.heap.size, 5, none⟩ = some (.string name) ∧ W.cell? ⟨R, 2, none⟩ = some (.slice (some ⟨hg, 0, none⟩) g.holes.length hc) ∧ W.cell? ⟨hg, to.toNat, none⟩ = some (.int .i64 (-1))) (go_keep) (first | (go_at_call 112; refine (HCB.out _ (Below.refl _ _).drew).mono ?_; rintro e w3 ⟨rfl, hb3⟩; obtain ⟨m0, m1, m2, m3, m4, m5, m6, m7⟩ := HCE.out w3 hb3))
      obtain ⟨f0, f1, f2, f3, f4⟩ := HFIN.out w3.drew hb3.drew
      have HR : Hid (_) := f3
      have HB : Hid (_) := f4
      clear f3 f4 hb3 HFIN HCE HCB
      go_wp2_with fail
      go_region
      go_wp2_with fail
      go_ret
      refine ⟨by rw [HO.out]; rfl, HB.out, fun g' h => by rw [HO.out] at h; cases h; rw [HTG.out]; exact ⟨_, _, _, _, HR.out⟩⟩
    · have HO : Hid (o = none) := by show o = none; rw [HG.out, if_neg (fun h => hyy h.2.2.2)]
      have g1 : (y == -1) = false := by rw [beq_eq_false_iff_ne]; exact hyy
      clear hA hsc hhc hs1 hh1 a0 a1 a2 a3 a4 a5 r0 r2 x0 y0 yf HC HG HH hx hy hs2 HFIN hyy
      go_enter Tryd.func86, Tryd.ntmps86
      go_wp2_with (rw [hwA])
      go_region_held3 (fun W => W.cell? ⟨w.heap.size, 0, none⟩ = some (.int .i64 3) ∧ W.cell? ⟨w.heap.size, 1, none⟩ = some (.int .i64 r) ∧ W.cell? ⟨w.heap.size, 2, none⟩ = some (.int .i64 to) ∧ W.cell? ⟨w.heap.size, 3, none⟩ = some (.int .i64 op) ∧ W.cell? ⟨w.heap.size, 4, none⟩ = some (.int .i64 n) ∧ W.cell? ⟨w.heap.size, 5, none⟩ = some (.string name) ∧ W.cell? ⟨R, 2, none⟩ = some (.slice (some ⟨hg, 0, none⟩) g.holes.length hc) ∧ W.cell? ⟨hg, to.toNat, none⟩ = some (.int .i64 y)) (go_keep) (first | (go_at_call 112; refine (HCB.out _ (Below.refl _ _).drew).mono ?_; rintro e w3 ⟨rfl, hb3⟩; obtain ⟨m0, m1, m2, m3, m4, m5, m6, m7⟩ := HCE.out w3 hb3))
      have HB : Hid (Below w.heap.size w w3) := HBA.out.trans (hb3.mono HBA.out.size)
      clear hb3 HCE HCB
      go_wp2_with fail
      go_ret
      exact ⟨by rw [HO.out]; rfl, HB.out.mono hb0, fun g' h => by rw [HO.out] at h; cases h⟩
  · have HO : Hid (o = none) := by show o = none; rw [HG.out, if_neg (fun h => hok ⟨h.1, h.2.1, h.2.2.1⟩)]
    have HCE : Hid (∀ W, Below wA.heap.size wA W → W.cell? ⟨w.heap.size, 0, none⟩ = some (.int .i64 3) ∧ W.cell? ⟨w.heap.size, 1, none⟩ = some (.int .i64 r) ∧ W.cell? ⟨w.heap.size, 2, none⟩ = some (.int .i64 to) ∧ W.cell? ⟨w.heap.size, 3, none⟩ = some (.int .i64 op) ∧ W.cell? ⟨w.heap.size, 4, none⟩ = some (.int .i64 n) ∧ W.cell? ⟨w.heap.size, 5, none⟩ = some (.string name) ∧ W.cell? ⟨R, 2, none⟩ = some (.slice ho g.holes.length hc)) := fun W hb => by
      obtain ⟨k0, k1, k2, k3, k4, k5⟩ := HC.out W hb
      simp only [Nat.zero_add] at k0 k1 k2 k3 k4 k5
      exact ⟨k0, k1, k2, k3, k4, k5, (hb.cell (p := ⟨R, 2, none⟩) hlR).trans r2⟩
    obtain ⟨b0, b1, b2, b3, b4, b5, b6⟩ := HCE.out wA (Below.refl _ _)
    have p0 := cell_regrown b0
    have p1 := cell_regrown b1
    have p2 := cell_regrown b2
    have p3 := cell_regrown b3
    have p4 := cell_regrown b4
    have p5 := cell_regrown b5
    have p6 := cell_regrown b6
    clear hA hs1 hh1 a0 a1 a2 a3 a4 a5 r0 r2 HC HG HH hs2 hs3 hh3
    cases fb with
    | false =>
      go_enter Tryd.func86, Tryd.ntmps86
      go_wp2_with (rw [hwA])
      refine wp_region_quiet_below (by kernel_rfl) (by kernel_rfl) ?_
      iterate 29 (go_big_quiet_step ((go_at_call 112; exact HCT.out _ _)))
      refine wpQuiet_nil ?_
      intro w' hw'
      obtain ⟨⟨dq, osq⟩, hw''⟩ := hw'
      subst hw''
      have hb2 := below_regrown wA dq osq
      generalize grow (redrawn wA dq) osq = w3 at *
      have HB : Hid (Below w.heap.size w w3) := HBA.out.trans (hb2.mono HBA.out.size)
      clear hb2 HCE HCB HCT b0 b1 b2 b3 b4 b5 b6 p0 p1 p2 p3 p4 p5 p6
      go_wp2_with fail
      go_ret
      exact ⟨by rw [HO.out]; rfl, HB.out.mono hb0, fun g' h => by rw [HO.out] at h; cases h⟩
    | true =>
      by_cases ht0 : to < 0
      · have hd0 : decide (to < 0) = true := decide_eq_true ht0
        go_enter Tryd.func86, Tryd.ntmps86
        go_wp2_with (rw [hwA])
        refine wp_region_quiet_below (by kernel_rfl) (by kernel_rfl) ?_
        iterate 29 (go_big_quiet_step ((go_at_call 112; exact HCT.out _ _)))
        refine wpQuiet_nil ?_
        intro w' hw'
        obtain ⟨⟨dq, osq⟩, hw''⟩ := hw'
        subst hw''
        have hb2 := below_regrown wA dq osq
        generalize grow (redrawn wA dq) osq = w3 at *
        have HB : Hid (Below w.heap.size w w3) := HBA.out.trans (hb2.mono HBA.out.size)
        clear hb2 HCE HCB HCT b0 b1 b2 b3 b4 b5 b6 p0 p1 p2 p3 p4 p5 p6
        go_wp2_with fail
        go_ret
        exact ⟨by rw [HO.out]; rfl, HB.out.mono hb0, fun g' h => by rw [HO.out] at h; cases h⟩
      · have ht1 : (g.holes.length : Int) ≤ to := by
          by_cases h : to < (g.holes.length : Int)
          · exact absurd ⟨rfl, by omega, h⟩ hok
          · omega
        have hd0 : decide (to < 0) = false := decide_eq_false ht0
        have hd1 : decide ((g.holes.length : Int) ≤ to) = true := decide_eq_true ht1
        go_enter Tryd.func86, Tryd.ntmps86
        go_wp2_with (rw [hwA])
        refine wp_region_quiet_below (by kernel_rfl) (by kernel_rfl) ?_
        iterate 29 (go_big_quiet_step ((go_at_call 112; exact HCT.out _ _)))
        refine wpQuiet_nil ?_
        intro w' hw'
        obtain ⟨⟨dq, osq⟩, hw''⟩ := hw'
        subst hw''
        have hb2 := below_regrown wA dq osq
        generalize grow (redrawn wA dq) osq = w3 at *
        have HB : Hid (Below w.heap.size w w3) := HBA.out.trans (hb2.mono HBA.out.size)
        clear hb2 HCE HCB HCT b0 b1 b2 b3 b4 b5 b6 p0 p1 p2 p3 p4 p5 p6
        go_wp2_with fail
        go_ret
        exact ⟨by rw [HO.out]; rfl, HB.out.mono hb0, fun g' h => by rw [HO.out] at h; cases h⟩
end Go.Proofs.YtjkcbigmebbkkaaDoor
