/-
  DcE.
-/
import Derived.Test.YtlbmijcpalfaeaaGreatDoorP32
set_option linter.unusedSimpArgs false
set_option linter.unusedVariables false
namespace Go.Proofs.YtlbmijcpalfaeaaGreatDoor
open Go.RowKit Go.Lib Go.Sort

/-- What insert leaves of the row. -/
def insP (p : List (Nd × Value)) (x : Nd) (kv : Value) : List (Nd × Value) := p.take (insK (p.map (·.1)) x p.length) ++ (x, kv) :: p.drop (insK (p.map (·.1)) x p.length)
theorem insP_map (p : List (Nd × Value)) (x : Nd) (kv : Value) : (insP p x kv).map (·.1) = insF (p.map (·.1)) x := by
  unfold insP insF
  rw [List.map_append, List.map_take, List.map_cons, List.map_drop, List.length_map]
theorem insP_len (p : List (Nd × Value)) (x : Nd) (kv : Value) : (insP p x kv).length = p.length + 1 := by
  unfold insP
  have := insK_le (p.map (·.1)) x p.length
  simp only [List.length_append, List.length_take, List.length_cons, List.length_drop]
  omega
def nz : Nd × Value := (nd0, .slice none 0 0)
theorem grown_trans' {w w1 w2 : World} {r r' : Option Nat} (h : w.grownBy w1 r) (k : w1.grownBy w2 r') (hr : ∀ b, r' = some b → r = some b ∨ w.heap.size ≤ b) : w.grownBy w2 r := by
  obtain ⟨h1, h2, h3, h4, h5⟩ := h
  obtain ⟨k1, k2, k3, k4, k5⟩ := k
  refine ⟨k1.trans h1, k2.trans h2, k3.trans h3, Nat.le_trans h4 k4, fun b hb hne => (k5 b (by omega) (fun e => ?_)).trans (h5 b hb hne)⟩
  rcases hr b e.symm with e2 | e2
  · exact hne e2.symm
  · omega

set_option maxRecDepth 20000 in
set_option maxHeartbeats 8000000 in
theorem insert_any {w : World} {base : Nat} {v : Value} {p : List (Nd × Value)} (hB : base ≤ w.heap.size) (h : OwnP w base v p) (hf : ∀ q ∈ p, formB q.1 = true) (hl : p.length ≤ 8192) (x : Nd) (ka : Option Addr) (kc : Nat) (hk : Ints w w.heap.size (.slice ka x.kids.length kc) x.kids) (fx : formB x = true) :
    Calls Tryz.prog 48 #[v, .agg #[.int .i64 x.op, .int .i64 x.n, .string x.name, .slice ka x.kids.length kc]] w fun e w' => ∃ g cap, e = .returned (.slice (some ⟨g, 0, none⟩) (p.length + 1) cap) ∧ w'.ownsRow base 41 4 (.slice (some ⟨g, 0, none⟩) (p.length + 1) cap) (p.length + 1) (ndCells (insP p x (.slice ka x.kids.length kc))) ∧ w.grownBy w' v.ownBlock ∧ (v.ownBlock = some g ∨ w.heap.size ≤ g) := by
  obtain ⟨i0, hi0, hz0, hz1, hz2⟩ := info_parts Tryz.infoNode
  obtain ⟨W1, hW1⟩ : ∃ W1, w.alloc (.cells #[.int .i64 x.op, .int .i64 x.n, .string x.name, .slice ka x.kids.length kc] 41) = W1 := ⟨_, rfl⟩
  have hb1 : Below w.heap.size w W1 := by rw [← hW1]; exact (Below.refl _ _).alloc (Nat.le_refl _) _
  have bx : W1.heap[w.heap.size]? = some (.cells #[.int .i64 x.op, .int .i64 x.n, .string x.name, .slice ka x.kids.length kc] 41 (0, 0)) := by rw [← hW1, Deep.blk_alloc_new]
  have HX : Sld (∀ V : World, (∀ b, b < W1.heap.size → v.ownBlock ≠ some b → V.heap[b]? = W1.heap[b]?) → V.cell? ⟨w.heap.size, 0, none⟩ = some (.int .i64 x.op) ∧ V.cell? ⟨w.heap.size, 1, none⟩ = some (.int .i64 x.n) ∧ V.cell? ⟨w.heap.size, 2, none⟩ = some (.string x.name) ∧ V.cell? ⟨w.heap.size, 3, none⟩ = some (.slice ka x.kids.length kc)) := ⟨fun V hV => by
    have := (hV w.heap.size (lt_of_block bx) (fun e => by have := (rw_block h.row e).2.1; omega)).trans bx
    exact blk4N this⟩
  have HK := Sld.mk (hk.below hb1 hb1.size)
  have HF := Sld.mk hf
  have HFX := Sld.mk fx
  have HB1 := Sld.mk hb1
  have HO := Sld.mk (h.below hb1)
  have HW1 := Sld.mk hW1
  have hw1 : W1.heap.size = w.heap.size + 1 := by rw [← hW1]; simp
  obtain ⟨va, vc, hv⟩ : ∃ va vc, v = .slice va p.length vc := by
    rcases h.row.2 with ⟨rfl, e⟩ | ⟨g, cap, cur, rfl, _⟩
    · exact ⟨none, 0, by rw [e]⟩
    · exact ⟨_, _, rfl⟩
  subst hv
  have hvc : p.length ≤ vc ∧ vc ≤ 9223372036854775807 := by
    rcases h.row.2 with ⟨e, e2⟩ | ⟨g, cap, cur, e, _, _, h1, h2, _⟩
    · injection e with _ _ e; omega
    · injection e with _ _ e; subst e; unfold maxLen at h2; omega
  have CMP : Sld (∀ (y : Nd) (ya : Option Addr) (yc : Nat) (V : World), Below W1.heap.size W1 V → formB y = true → Ints V V.heap.size (.slice ya y.kids.length yc) y.kids → Calls Tryz.prog 70 #[.agg #[.int .i64 x.op, .int .i64 x.n, .string x.name, .slice ka x.kids.length kc], .agg #[.int .i64 y.op, .int .i64 y.n, .string y.name, .slice ya y.kids.length yc]] V fun e w' => e = .returned (.int .i64 (nodC cmp3 x y)) ∧ Below V.heap.size V w') := ⟨fun y ya yc V hV fy hy => dcompare_any x y ka ya kc yc V (HK.out.below hV hV.size) hy HFX.out fy⟩
  clear h hf hk fx bx hb1 hW1
  go_enter Tryz.func48, Tryz.ntmps48
  go_wp2_with fail
  rw [HW1.out]
  go_wp2_with fail
  go_loopw [5] (fun q wr => ∃ k : Nat, k ≤ p.length ∧ q = .int .i64 k ∧ Sld (insK (p.map (·.1)) x p.length = insK (p.map (·.1)) x k) ∧ Sld (Below W1.heap.size W1 wr)) (fun q _ => (RowKit.intOf q).toNat)
  case atStart => exact ⟨p.length, by omega, rfl, ⟨rfl⟩, ⟨Below.refl _ _⟩⟩
  case round =>
    obtain ⟨k, hk, rfl, HI, HB⟩ := hrel
    obtain ⟨x0, x1, x2, x3⟩ := HX.out wr (fun b hb _ => HB.out.block b hb)
    have g0 := cell_regrown x0
    have g1 := cell_regrown x1
    have g2 := cell_regrown x2
    have g3 := cell_regrown x3
    clear x0 x1 x2 x3
    by_cases hk0 : k = 0
    · have hdec : decide (0 < k) = false := by simp [hk0]
      have hdec2 : decide ((0 : Int) < (k : Int)) = false := by simp [hk0]
      have hjI : ¬ ((0 : Int) < (k : Int)) := by omega
      have hjN : ¬ (0 < k) := by omega
      have HKK : Sld (insK (p.map (·.1)) x p.length = k) := ⟨by rw [HI.out, hk0]; rfl⟩
      clear hk0
      go_wp2_with fail
      refine wp_region_quiet_below (by kernel_rfl) (by kernel_rfl) ?_
      iterate 12 (go_big_quiet_step (fail))
      refine wpQuiet_nil ?_
      intro _ hw'
      obtain ⟨⟨ds, oss⟩, hw''⟩ := hw'
      subst hw''
      have HBX : Sld (Below W1.heap.size W1 (grow (redrawn wr ds) oss)) := ⟨HB.out.trans ((below_regrown wr ds oss).mono HB.out.size)⟩
      clear g0 g1 g2 g3
      generalize grow (redrawn wr ds) oss = wX at *
      have hgw : Sld (w.grownBy wX (Value.slice va p.length vc).ownBlock) := ⟨grown_of_below (HB1.out.trans (HBX.out.mono HB1.out.size)) _⟩
      have hsx : w.heap.size + 1 ≤ wX.heap.size := by have := HBX.out.size; omega
      have hrow := (HO.out.below HBX.out).row
      clear CMP HK HF HFX HI HB
      go_wp2_with (at_builtin; refine wpList_append_lies _ rfl (.tmp 23) (.tmp 25) 22 rfl base 41 i0 (.agg #[.int .i64 0, .int .i64 0, .string ⟨#[]⟩, .slice none 0 0]) 4 56 Tryz.underlying22 hi0 hz0 hz1 hz2 rfl (by decide) _ _ _ rfl (hrow.alloc _) ⟨wX.heap.size, 0, none⟩ 1 1 [.int .i64 0, .int .i64 0, .string ⟨#[]⟩, .slice none 0 0] rfl rfl (cell_news4 wX _ _ _ _ _ _ rfl) (by simp [Value.oneCell']) (by omega) (by unfold maxLen; omega) (by omega) (by simp; omega) _ rfl ?_; intro g6 cap6 w6 hown6 hg6 hat6 hl6)
      have HG6 : Sld (w.grownBy w6 (Value.slice va p.length vc).ownBlock) := ⟨grown_trans' (grown_trans' hgw.out (grown_of_below ((Below.refl _ _).alloc (Nat.le_refl _) _) none) (fun b hb => by cases hb)) hg6 (fun b hb => .inl hb)⟩
      have HAT : Sld ((Value.slice va p.length vc).ownBlock = some g6 ∨ w.heap.size ≤ g6) := ⟨hat6.imp id (fun e => by rw [e]; simp; omega)⟩
      have HO6 : Sld (w6.ownsRow base 41 4 (.slice (some ⟨g6, 0, none⟩) (p.length + 1) cap6) (p.length + 1) (ndCells (moA nz p p.length))) := ⟨by rw [moA_start, ndCells_append]; exact hown6⟩
      have HX6 : Sld (∀ V : World, w6.grownBy V (some g6) → V.cell? ⟨w.heap.size, 0, none⟩ = some (.int .i64 x.op) ∧ V.cell? ⟨w.heap.size, 1, none⟩ = some (.int .i64 x.n) ∧ V.cell? ⟨w.heap.size, 2, none⟩ = some (.string x.name) ∧ V.cell? ⟨w.heap.size, 3, none⟩ = some (.slice ka x.kids.length kc)) := ⟨fun V hV => by
        refine HX.out V fun b hb hne => ?_
        have e1 : wX.heap[b]? = W1.heap[b]? := HBX.out.block b hb
        have hbx : b < wX.heap.size := Nat.lt_of_lt_of_le hb HBX.out.size
        have e2 : w6.heap[b]? = wX.heap[b]? := (hg6.block b (by simp; omega) (fun e => hne e.symm)).trans (Deep.blk_alloc_lt _ _ _ hbx)
        have hb6 : b ≠ g6 := by
          rintro rfl
          rcases hat6 with h | h
          · exact hne h
          · rw [h] at hbx; simp at hbx; omega
        exact ((hV.block b (by have := hg6.size; simp at this; omega) (fun e => hb6 (by injection e))).trans e2).trans e1⟩
      obtain ⟨hc61, hc62⟩ : p.length + 1 ≤ cap6 ∧ cap6 ≤ maxLen := by
        rcases hown6.2 with ⟨h7, _⟩ | ⟨g', cap', cur, h7, _, _, h8, h9, _⟩
        · cases h7
        · injection h7 with _ _ h7c
          subst h7c
          exact ⟨h8, h9⟩
      unfold maxLen at hc62
      clear hown6 hg6 hat6 hl6 hrow
      go_loopw [6] (fun q wq => ∃ j : Nat, k ≤ j ∧ j ≤ p.length ∧ q = .int .i64 j ∧ wq.ownsRow base 41 4 (.slice (some ⟨g6, 0, none⟩) (p.length + 1) cap6) (p.length + 1) (ndCells (moA nz p j)) ∧ w6.grownBy wq (some g6)) (fun q _ => (RowKit.intOf q).toNat)
      case atStart => exact ⟨p.length, by omega, by omega, by go_num, HO6.out, grown_of_below (Below.refl _ _) _⟩
      case round =>
        obtain ⟨j, hj1, hj2, rfl, hO, hG⟩ := hrel
        by_cases hkj : k < j
        · obtain ⟨j, rfl⟩ : ∃ z, j = z + 1 := ⟨j - 1, by omega⟩
          have hml := moA_len nz p (j + 1) hj2
          have hjp : j < p.length := by omega
          obtain ⟨⟨y, kw⟩, hpj⟩ : ∃ yk, p[j]? = some yk := ⟨p[j], List.getElem?_eq_getElem hjp⟩
          obtain ⟨ya, yn, yc, hkw⟩ : ∃ ya yn yc, kw = .slice ya yn yc := by
            obtain ⟨a, c, e, _⟩ := Ints_of_own (HO.out.kids _ (List.mem_of_getElem? hpj)) (Nat.le_refl _)
            exact ⟨a, _, c, e⟩
          subst hkw
          obtain ⟨e0, e1, e2, e3, fr⟩ := rowN_at hO ((moA_at nz p j hjp).trans hpj)
          obtain ⟨⟨z, kz⟩, hpz⟩ : ∃ yk, (moA nz p (j + 1))[j + 1]? = some yk := ⟨(moA nz p (j + 1))[j + 1]'(by omega), List.getElem?_eq_getElem (by omega)⟩
          obtain ⟨z0, z1, z2, z3, _⟩ := rowN_at hO hpz
          have f0 := fr ((j + 1) * 4)
          have f1 := fr ((j + 1) * 4 + 1)
          have f2 := fr ((j + 1) * 4 + 2)
          have f3 := fr ((j + 1) * 4 + 3)
          have HST := Sld.mk (rowN_put hO (i := j + 1) (by omega) y (.slice ya yn yc))
          rw [moA_set nz p j (y, .slice ya yn yc) hpj] at HST
          have HGS := Sld.mk (grown_set4 (a := .int .i64 y.op) (b := .int .i64 y.n) (c := .string y.name) (d := .slice ya yn yc) (i := j + 1) hG (.inl rfl))
          have hjI : ((j + 1 : Nat) : Int) = (j : Int) + 1 := by omega
          clear hO hG hpj hpz fr
          rw [hjI]
          go_wp2_with fail
          exact ⟨⟨j, by omega, by omega, by go_num, HST.out, HGS.out⟩, by simp [RowKit.intOf]⟩
        · have hje : j = k := by omega
          subst hje
          have hml := moA_len nz p j hj2
          obtain ⟨x0, x1, x2, x3⟩ := HX6.out wr hG
          obtain ⟨⟨z, kz⟩, hpz⟩ : ∃ yk, (moA nz p j)[j]? = some yk := ⟨(moA nz p j)[j]'(by omega), List.getElem?_eq_getElem (by omega)⟩
          obtain ⟨z0, z1, z2, z3, fr⟩ := rowN_at hO hpz
          have f0 := fr (j * 4)
          have f1 := fr (j * 4 + 1)
          have f2 := fr (j * 4 + 2)
          have f3 := fr (j * 4 + 3)
          have HST := Sld.mk (rowN_put hO (i := j) (by omega) x (.slice ka x.kids.length kc))
          rw [moA_end nz p (x, .slice ka x.kids.length kc) j hj2] at HST
          have HGS := Sld.mk (grown_set4 (a := .int .i64 x.op) (b := .int .i64 x.n) (c := .string x.name) (d := .slice ka x.kids.length kc) (i := j) hG (.inl rfl))
          have HE : Sld (insP p x (.slice ka x.kids.length kc) = p.take j ++ (x, .slice ka x.kids.length kc) :: p.drop j) := ⟨by unfold insP; rw [HKK.out]⟩
          clear hO hG hpz fr
          go_wp2_with fail
          go_ret
          exact ⟨g6, cap6, rfl, by rw [HE.out]; exact HST.out, grown_trans' HG6.out HGS.out (fun b hb => by injection hb with hb; subst hb; exact HAT.out), HAT.out⟩
    · obtain ⟨m, hm⟩ : ∃ m, k = m + 1 := ⟨k - 1, by omega⟩
      have hjI : (0 : Int) < (k : Int) := by omega
      have hjN : 0 < k := by omega
      have hdec : decide (0 < k) = true := by simp [hjN]
      have hdec2 : decide ((0 : Int) < (k : Int)) = true := by simp [hjN]
      have hsub : (k : Int) - 1 = (m : Int) := by omega
      have hml : m < p.length := by omega
      have hmI : (m : Int) < (p.length : Int) := by omega
      obtain ⟨⟨y, kw⟩, hpm⟩ : ∃ yk, p[m]? = some yk := ⟨p[m], List.getElem?_eq_getElem hml⟩
      have hy : y = ndA (p.map (·.1)) m := by unfold ndA; rw [List.getD_eq_getElem?_getD, List.getElem?_map, hpm]; rfl
      have hym : (y, kw) ∈ p := List.mem_of_getElem? hpm
      have hOp := HO.out.below HB.out
      obtain ⟨ya, yc, hkw, _⟩ : ∃ ya yc, kw = .slice ya y.kids.length yc ∧ True := by
        have := Ints_of_own (hOp.kids _ hym) (Nat.le_refl _)
        obtain ⟨a, c, e, _⟩ := this
        exact ⟨a, c, e, trivial⟩
      subst hkw
      obtain ⟨vg, hva⟩ : ∃ vg, va = some ⟨vg, 0, none⟩ := by
        rcases hOp.row.2 with ⟨e, e2⟩ | ⟨g, cap, cur, e, _⟩
        · omega
        · injection e with e _ _; exact ⟨g, e⟩
      subst hva
      obtain ⟨e0, e1, e2, e3, _⟩ := rowN_at hOp.row hpm
      have HKI := Sld.mk (Ints_of_own (hOp.kids _ hym) (Nat.le_refl _))
      have g4 := cell_regrown e0
      have g5 := cell_regrown e1
      have g6 := cell_regrown e2
      have g7 := cell_regrown e3
      have fy := HF.out _ hym
      have cK : Sld (∀ d os, Calls Tryz.prog 70 #[.agg #[.int .i64 x.op, .int .i64 x.n, .string x.name, .slice ka x.kids.length kc], .agg #[.int .i64 y.op, .int .i64 y.n, .string y.name, .slice ya y.kids.length yc]] (grow (redrawn wr d) os) fun e w'' => e = .returned (.int .i64 (nodC cmp3 x y)) ∧ ∃ p : Regrown, w'' = grow (redrawn wr p.d) p.os) := ⟨fun d os => by
        have hb := below_regrown wr d os
        exact Calls.regrown_of (CMP.out y ya yc _ (HB.out.trans (hb.mono HB.out.size)) fy (HKI.out.below hb hb.size))⟩
      have HS1 : Sld (nodC cmp3 x y < 0 → insK (p.map (·.1)) x k = insK (p.map (·.1)) x m) := ⟨fun h => by rw [hm, insK, if_pos (by rw [← hy]; exact h)]⟩
      have HS2 : Sld (¬ nodC cmp3 x y < 0 → insK (p.map (·.1)) x k = k) := ⟨fun h => by rw [hm, insK, if_neg (by rw [← hy]; exact h)]⟩
      clear hOp hpm hym e0 e1 e2 e3 fy hk0 hy
      generalize nodC cmp3 x y = R at *
      by_cases hR : R < 0
      · have hRI : ¬ ((0 : Int) ≤ R) := by omega
        have HKK : Sld (insK (p.map (·.1)) x p.length = insK (p.map (·.1)) x m) := ⟨by rw [HI.out]; exact HS1.out hR⟩
        clear HS1 HS2
        have HM := Sld.mk hm
        clear hm
        go_wp2_with fail
        refine wp_region_quiet_below (by kernel_rfl) (by kernel_rfl) ?_
        iterate 12 (go_big_quiet_step ((go_at_call 70; exact cK.out _ _)))
        refine wpQuiet_nil ?_
        intro _ hw'
        obtain ⟨⟨ds, oss⟩, hw''⟩ := hw'
        subst hw''
        have HBX : Sld (Below W1.heap.size W1 (grow (redrawn wr ds) oss)) := ⟨HB.out.trans ((below_regrown wr ds oss).mono HB.out.size)⟩
        clear g0 g1 g2 g3 g4 g5 g6 g7
        go_wp2_with fail
        exact ⟨⟨m, by omega, by go_num, HKK, HBX⟩, by have := HM.out; simp [RowKit.intOf]; omega⟩
      · have hdR : decide (R < 0) = false := by simp [hR]
        have HKK : Sld (insK (p.map (·.1)) x p.length = k) := ⟨by rw [HI.out]; exact HS2.out hR⟩
        clear HS1 HS2 hm
        go_wp2_with fail
        refine wp_region_quiet_below (by kernel_rfl) (by kernel_rfl) ?_
        iterate 12 (go_big_quiet_step ((go_at_call 70; exact cK.out _ _)))
        refine wpQuiet_nil ?_
        intro _ hw'
        obtain ⟨⟨ds, oss⟩, hw''⟩ := hw'
        subst hw''
        have HBX : Sld (Below W1.heap.size W1 (grow (redrawn wr ds) oss)) := ⟨HB.out.trans ((below_regrown wr ds oss).mono HB.out.size)⟩
        clear g0 g1 g2 g3 g4 g5 g6 g7 cK HKI hsub hml hmI
        generalize grow (redrawn wr ds) oss = wX at *
        have hgw : Sld (w.grownBy wX (Value.slice (some ⟨vg, 0, none⟩) p.length vc).ownBlock) := ⟨grown_of_below (HB1.out.trans (HBX.out.mono HB1.out.size)) _⟩
        have hsx : w.heap.size + 1 ≤ wX.heap.size := by have := HBX.out.size; omega
        have hrow := (HO.out.below HBX.out).row
        clear CMP HK HF HFX HI HB hR hdR
        go_wp2_with (at_builtin; refine wpList_append_lies _ rfl (.tmp 23) (.tmp 25) 22 rfl base 41 i0 (.agg #[.int .i64 0, .int .i64 0, .string ⟨#[]⟩, .slice none 0 0]) 4 56 Tryz.underlying22 hi0 hz0 hz1 hz2 rfl (by decide) _ _ _ rfl (hrow.alloc _) ⟨wX.heap.size, 0, none⟩ 1 1 [.int .i64 0, .int .i64 0, .string ⟨#[]⟩, .slice none 0 0] rfl rfl (cell_news4 wX _ _ _ _ _ _ rfl) (by simp [Value.oneCell']) (by omega) (by unfold maxLen; omega) (by omega) (by simp; omega) _ rfl ?_; intro g6 cap6 w6 hown6 hg6 hat6 hl6)
        have HG6 : Sld (w.grownBy w6 (Value.slice (some ⟨vg, 0, none⟩) p.length vc).ownBlock) := ⟨grown_trans' (grown_trans' hgw.out (grown_of_below ((Below.refl _ _).alloc (Nat.le_refl _) _) none) (fun b hb => by cases hb)) hg6 (fun b hb => .inl hb)⟩
        have HAT : Sld ((Value.slice (some ⟨vg, 0, none⟩) p.length vc).ownBlock = some g6 ∨ w.heap.size ≤ g6) := ⟨hat6.imp id (fun e => by rw [e]; simp; omega)⟩
        have HO6 : Sld (w6.ownsRow base 41 4 (.slice (some ⟨g6, 0, none⟩) (p.length + 1) cap6) (p.length + 1) (ndCells (moA nz p p.length))) := ⟨by rw [moA_start, ndCells_append]; exact hown6⟩
        have HX6 : Sld (∀ V : World, w6.grownBy V (some g6) → V.cell? ⟨w.heap.size, 0, none⟩ = some (.int .i64 x.op) ∧ V.cell? ⟨w.heap.size, 1, none⟩ = some (.int .i64 x.n) ∧ V.cell? ⟨w.heap.size, 2, none⟩ = some (.string x.name) ∧ V.cell? ⟨w.heap.size, 3, none⟩ = some (.slice ka x.kids.length kc)) := ⟨fun V hV => by
          refine HX.out V fun b hb hne => ?_
          have e1 : wX.heap[b]? = W1.heap[b]? := HBX.out.block b hb
          have hbx : b < wX.heap.size := Nat.lt_of_lt_of_le hb HBX.out.size
          have e2 : w6.heap[b]? = wX.heap[b]? := (hg6.block b (by simp; omega) (fun e => hne e.symm)).trans (Deep.blk_alloc_lt _ _ _ hbx)
          have hb6 : b ≠ g6 := by
            rintro rfl
            rcases hat6 with h | h
            · exact hne h
            · rw [h] at hbx; simp at hbx; omega
          exact ((hV.block b (by have := hg6.size; simp at this; omega) (fun e => hb6 (by injection e))).trans e2).trans e1⟩
        obtain ⟨hc61, hc62⟩ : p.length + 1 ≤ cap6 ∧ cap6 ≤ maxLen := by
          rcases hown6.2 with ⟨h7, _⟩ | ⟨g', cap', cur, h7, _, _, h8, h9, _⟩
          · cases h7
          · injection h7 with _ _ h7c
            subst h7c
            exact ⟨h8, h9⟩
        unfold maxLen at hc62
        clear hown6 hg6 hat6 hl6 hrow
        go_loopw [6] (fun q wq => ∃ j : Nat, k ≤ j ∧ j ≤ p.length ∧ q = .int .i64 j ∧ wq.ownsRow base 41 4 (.slice (some ⟨g6, 0, none⟩) (p.length + 1) cap6) (p.length + 1) (ndCells (moA nz p j)) ∧ w6.grownBy wq (some g6)) (fun q _ => (RowKit.intOf q).toNat)
        case atStart => exact ⟨p.length, by omega, by omega, by go_num, HO6.out, grown_of_below (Below.refl _ _) _⟩
        case round =>
          obtain ⟨j, hj1, hj2, rfl, hO, hG⟩ := hrel
          by_cases hkj : k < j
          · obtain ⟨j, rfl⟩ : ∃ z, j = z + 1 := ⟨j - 1, by omega⟩
            have hml := moA_len nz p (j + 1) hj2
            have hjp : j < p.length := by omega
            obtain ⟨⟨y, kw⟩, hpj⟩ : ∃ yk, p[j]? = some yk := ⟨p[j], List.getElem?_eq_getElem hjp⟩
            obtain ⟨ya, yn, yc, hkw⟩ : ∃ ya yn yc, kw = .slice ya yn yc := by
              obtain ⟨a, c, e, _⟩ := Ints_of_own (HO.out.kids _ (List.mem_of_getElem? hpj)) (Nat.le_refl _)
              exact ⟨a, _, c, e⟩
            subst hkw
            obtain ⟨e0, e1, e2, e3, fr⟩ := rowN_at hO ((moA_at nz p j hjp).trans hpj)
            obtain ⟨⟨z, kz⟩, hpz⟩ : ∃ yk, (moA nz p (j + 1))[j + 1]? = some yk := ⟨(moA nz p (j + 1))[j + 1]'(by omega), List.getElem?_eq_getElem (by omega)⟩
            obtain ⟨z0, z1, z2, z3, _⟩ := rowN_at hO hpz
            have f0 := fr ((j + 1) * 4)
            have f1 := fr ((j + 1) * 4 + 1)
            have f2 := fr ((j + 1) * 4 + 2)
            have f3 := fr ((j + 1) * 4 + 3)
            have HST := Sld.mk (rowN_put hO (i := j + 1) (by omega) y (.slice ya yn yc))
            rw [moA_set nz p j (y, .slice ya yn yc) hpj] at HST
            have HGS := Sld.mk (grown_set4 (a := .int .i64 y.op) (b := .int .i64 y.n) (c := .string y.name) (d := .slice ya yn yc) (i := j + 1) hG (.inl rfl))
            have hjI : ((j + 1 : Nat) : Int) = (j : Int) + 1 := by omega
            clear hO hG hpj hpz fr
            rw [hjI]
            go_wp2_with fail
            exact ⟨⟨j, by omega, by omega, by go_num, HST.out, HGS.out⟩, by simp [RowKit.intOf]⟩
          · have hje : j = k := by omega
            subst hje
            have hml := moA_len nz p j hj2
            obtain ⟨x0, x1, x2, x3⟩ := HX6.out wr hG
            obtain ⟨⟨z, kz⟩, hpz⟩ : ∃ yk, (moA nz p j)[j]? = some yk := ⟨(moA nz p j)[j]'(by omega), List.getElem?_eq_getElem (by omega)⟩
            obtain ⟨z0, z1, z2, z3, fr⟩ := rowN_at hO hpz
            have f0 := fr (j * 4)
            have f1 := fr (j * 4 + 1)
            have f2 := fr (j * 4 + 2)
            have f3 := fr (j * 4 + 3)
            have HST := Sld.mk (rowN_put hO (i := j) (by omega) x (.slice ka x.kids.length kc))
            rw [moA_end nz p (x, .slice ka x.kids.length kc) j hj2] at HST
            have HGS := Sld.mk (grown_set4 (a := .int .i64 x.op) (b := .int .i64 x.n) (c := .string x.name) (d := .slice ka x.kids.length kc) (i := j) hG (.inl rfl))
            have HE : Sld (insP p x (.slice ka x.kids.length kc) = p.take j ++ (x, .slice ka x.kids.length kc) :: p.drop j) := ⟨by unfold insP; rw [HKK.out]⟩
            clear hO hG hpz fr
            go_wp2_with fail
            go_ret
            exact ⟨g6, cap6, rfl, by rw [HE.out]; exact HST.out, grown_trans' HG6.out HGS.out (fun b hb => by injection hb with hb; subst hb; exact HAT.out), HAT.out⟩
end Go.Proofs.YtlbmijcpalfaeaaGreatDoor
