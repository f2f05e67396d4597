/-
  FaW.
-/
import Derived.Test.YtlbmijcpalfaeaaGreatDoorP48
set_option linter.unusedSimpArgs false
set_option linter.unusedVariables false
namespace Go.Proofs.YtlbmijcpalfaeaaGreatDoor
open Go.RowKit Go.Lib

theorem Tryz.infoFact : (Tryz.prog.info? 29).map (fun i => (i.zero, i.size, i.bytes)) = some (some (.agg #[.bool false, .bool false, .int .i64 0]), 3, 16) := by kernel_rfl
theorem Tryz.infoL2' : (Tryz.prog.info? 2).map (fun i => (i.zero, i.size, i.bytes)) = some (some (.int .i64 0), 1, 8) := by kernel_rfl
/-- A fact in three cells. -/
structure FcAt (w : World) (b o : Nat) (f : Fc) : Prop where
  c0 : w.cell? ⟨b, o, none⟩ = some (.bool f.t)
  c1 : w.cell? ⟨b, o + 1, none⟩ = some (.bool f.c)
  c2 : w.cell? ⟨b, o + 2, none⟩ = some (.int .i64 f.n)
/-- A row of facts, read. -/
structure FcR (w : World) (g : Nat) (fs : List Fc) : Prop where
  lt : g < w.heap.size
  at_ : ∀ i, i < fs.length → FcAt w g (i * 3) (fs.getD i fc0)
theorem FcAt.below {w w' : World} {b o : Nat} {f : Fc} (h : FcAt w b o f) (hl : b < w.heap.size) (hb : Below w.heap.size w w') : FcAt w' b o f :=
  ⟨(hb.cell (p := ⟨b, o, none⟩) hl).trans h.c0, (hb.cell (p := ⟨b, o + 1, none⟩) hl).trans h.c1, (hb.cell (p := ⟨b, o + 2, none⟩) hl).trans h.c2⟩
theorem FcR.below {w w' : World} {g : Nat} {fs : List Fc} (h : FcR w g fs) (hb : Below w.heap.size w w') : FcR w' g fs :=
  ⟨by have := h.lt; have := hb.size; omega, fun i hi => (h.at_ i hi).below h.lt hb⟩
theorem set3 {w : World} {b : Nat} {a0 a1 a2 : Value} {t : TypeId} (h : w.heap[b]? = some (.cells #[a0, a1, a2] t (0, 0))) (v0 v1 v2 : Value) :
    (((w.setCell ⟨b, 0, none⟩ v0).setCell ⟨b, 1, none⟩ v1).setCell ⟨b, 2, none⟩ v2).heap[b]? = some (.cells #[v0, v1, v2] t (0, 0)) := by
  have h0 := heap_setCell_same w b 0 _ t v0 h
  have h1 := heap_setCell_same _ b 1 _ t v1 h0
  have h2 := heap_setCell_same _ b 2 _ t v2 h1
  simpa using h2
theorem blk3 {w : World} {b : Nat} {a c d : Value} {t : TypeId} (h : w.heap[b]? = some (.cells #[a, c, d] t (0, 0))) : w.cell? ⟨b, 0, none⟩ = some a ∧ w.cell? ⟨b, 1, none⟩ = some c ∧ w.cell? ⟨b, 2, none⟩ = some d ∧ ∀ o, w.frozen? ⟨b, o, none⟩ = false := by
  simp [World.cell?, World.frozen?, h]
theorem blk4' {w : World} {b : Nat} {a c d e : Value} {t : TypeId} (h : w.heap[b]? = some (.cells #[a, c, d, e] t (0, 0))) : w.cell? ⟨b, 0, none⟩ = some a ∧ w.cell? ⟨b, 1, none⟩ = some c ∧ w.cell? ⟨b, 2, none⟩ = some d ∧ w.cell? ⟨b, 3, none⟩ = some e ∧ ∀ o, w.frozen? ⟨b, o, none⟩ = false := by
  simp [World.cell?, World.frozen?, h]
theorem below_set3 {B : Nat} {w0 w : World} {b : Nat} (h : Below B w0 w) (hb : B ≤ b) (v0 v1 v2 : Value) : Below B w0 (((w.setCell ⟨b, 0, none⟩ v0).setCell ⟨b, 1, none⟩ v1).setCell ⟨b, 2, none⟩ v2) :=
  ((h.setCell hb _).setCell hb _).setCell hb _

theorem cns_stop {fs : List Fc} {op : Int} {ks : List Int} {j : Nat} (hj : j < ks.length) (h : (fAt fs (ks.getD j 0)).c = false) : cnsF fs op ks = (false, 0) := by
  unfold cnsF
  rw [if_neg]
  intro ha
  rw [List.all_eq_true] at ha
  have := ha (ks.getD j 0) (by simp [hj])
  rw [h] at this; cases this
theorem cns_all {fs : List Fc} {op : Int} {ks : List Int} (h : ∀ k ∈ ks, (fAt fs k).c = true) : cnsF fs op ks = (decide ((apR op (ks.map fun k => (fAt fs k).n)).2 = 0), (apR op (ks.map fun k => (fAt fs k).n)).1) := by
  unfold cnsF
  rw [if_pos (List.all_eq_true.2 h)]

set_option maxRecDepth 20000 in
set_option maxHeartbeats 4000000 in
theorem const_any (w : World) (op n : Int) (nm : ByteArray) (ka : Option Addr) (kc : Nat) (ks : List Int) (g c : Nat) (fs : List Fc) (hK : Ints w w.heap.size (.slice ka ks.length kc) ks) (hF : FcR w g fs) (m : Nat) (hfm : fs.length ≤ m) (hfc : m ≤ c) (hcm : c ≤ maxLen) (hk : ∀ k ∈ ks, 0 ≤ k ∧ k < (fs.length : Int)) (hG : GrpCells w) (hk3 : ks.length ≤ 1000) :
    Calls Tryz.prog 22 #[.agg #[.int .i64 op, .int .i64 n, .string nm, .slice ka ks.length kc], .slice (some ⟨g, 0, none⟩) m c] w fun e w' => e = .returned (.agg #[.bool false, .bool (cnsF fs op ks).1, .int .i64 (cnsF fs op ks).2]) ∧ Below w.heap.size w w' := by
  obtain ⟨i0, hi0, hz0, hz1, hz2⟩ := info_parts Tryz.infoL2'
  obtain ⟨w1, hw1⟩ : ∃ w1, (w.alloc (.cells #[.int .i64 op, .int .i64 n, .string nm, .slice ka ks.length kc] 41)).alloc (.cells #[.bool false, .bool false, .int .i64 0] 29) = w1 := ⟨_, rfl⟩
  have hb1 : Below w.heap.size w w1 := by rw [← hw1]; exact ((Below.refl _ _).alloc (Nat.le_refl _) _).alloc (by simp) _
  have hs1 : w1.heap.size = w.heap.size + 2 := by rw [← hw1]; simp
  have hn1 : w1.heap[w.heap.size]? = some (.cells #[.int .i64 op, .int .i64 n, .string nm, .slice ka ks.length kc] 41 (0, 0)) := by
    rw [← hw1, Deep.blk_alloc_lt _ _ _ (by simp), Deep.blk_alloc_new]
  have hf1 : w1.heap[w.heap.size + 1]? = some (.cells #[.bool false, .bool false, .int .i64 0] 29 (0, 0)) := by
    have := Deep.blk_alloc_new (w.alloc (.cells #[.int .i64 op, .int .i64 n, .string nm, .slice ka ks.length kc] 41)) (.cells #[.bool false, .bool false, .int .i64 0] 29)
    rw [← hw1]
    rw [World.size_alloc] at this
    exact this
  have HW1 : Sld ((w.alloc (.cells #[.int .i64 op, .int .i64 n, .string nm, .slice ka ks.length kc] 41)).alloc (.cells #[.bool false, .bool false, .int .i64 0] 29) = w1) := ⟨hw1⟩
  have ALL : Sld (∀ W, Below w1.heap.size w1 W → Ints W W.heap.size (.slice ka ks.length kc) ks ∧ FcR W g fs ∧ GrpCells W ∧ W.heap[w.heap.size]? = some (.cells #[.int .i64 op, .int .i64 n, .string nm, .slice ka ks.length kc] 41 (0, 0)) ∧ W.heap[w.heap.size + 1]? = some (.cells #[.bool false, .bool false, .int .i64 0] 29 (0, 0)) ∧ Below w.heap.size w W) := ⟨fun W hW => by
    have hbb := hb1.trans (hW.mono hb1.size)
    exact ⟨hK.below hbb hbb.size, hF.below hbb, hG.below hbb, (hW.block _ (lt_of_block hn1)).trans hn1, (hW.block _ (lt_of_block hf1)).trans hf1, hbb⟩⟩
  obtain ⟨ao', cap', hve, hv1, ⟨hkm, _⟩, _⟩ := id hK
  simp only [Value.slice.injEq, true_and] at hve
  obtain ⟨rfl, rfl⟩ := hve
  unfold maxLen at hkm hcm
  have hkcI : (ks.length : Int) ≤ (kc : Int) := by omega
  have hkmI : (kc : Int) ≤ 9223372036854775807 := by omega
  have HK : Sld (∀ k ∈ ks, 0 ≤ k ∧ k < (fs.length : Int)) := ⟨hk⟩
  have HST : Sld (∀ j, j < ks.length → (fAt fs (ks.getD j 0)).c = false → cnsF fs op ks = (false, 0)) := ⟨fun j hj h => cns_stop hj h⟩
  have HAL : Sld ((∀ k ∈ ks, (fAt fs k).c = true) → cnsF fs op ks = (decide ((apR op (ks.map fun k => (fAt fs k).n)).2 = 0), (apR op (ks.map fun k => (fAt fs k).n)).1)) := ⟨cns_all⟩
  obtain ⟨⟨R1, R2⟩, hR⟩ : ∃ R, cnsF fs op ks = R := ⟨_, rfl⟩
  rw [hR] at HST HAL ⊢
  simp only
  obtain ⟨_, _, _, y3, _⟩ := blk4' hn1
  clear hw1 hb1 hn1 hf1 hK hF hG hR hk
  go_enter Tryz.func22, Tryz.ntmps22
  go_wp2_with fail
  rw [HW1.out]
  go_loopw [5, 13] (fun v q wr => ∃ j : Nat, j ≤ ks.length ∧ q = .int .i64 j ∧ (∀ k ∈ ks.take j, (fAt fs k).c = true) ∧ wr.ownsRow w1.heap.size 2 1 v j (((ks.take j).map fun k => (fAt fs k).n).map (Value.int .i64)) ∧ Below w1.heap.size w1 wr) (fun _ q _ => ks.length - (RowKit.intOf q).toNat)
  case atStart => exact ⟨0, by omega, rfl, by simp, World.ownsRow_nil _ _ _ _, Below.refl _ _⟩
  case round =>
    obtain ⟨j, hj, rfl, hall, hown, hBr⟩ := hrel
    obtain ⟨gI, gF, gG, gn, gf, gB⟩ := ALL.out wr hBr
    obtain ⟨e0r, _, _, e3r, _⟩ := blk4' gn
    obtain ⟨q0, q1, q2, qf⟩ := blk3 gf
    have HGF : Sld (wr.heap[w.heap.size + 1]? = some (.cells #[.bool false, .bool false, .int .i64 0] 29 (0, 0))) := ⟨gf⟩
    have HGB : Sld (Below w.heap.size w wr) := ⟨gB⟩
    have HBR : Sld (Below w1.heap.size w1 wr) := ⟨hBr⟩
    have hszr : w1.heap.size ≤ wr.heap.size := hBr.size
    have HALL : Sld (∀ k ∈ ks.take j, (fAt fs k).c = true) := ⟨hall⟩
    obtain ⟨va, vc, rfl⟩ := row_form' hown
    have HOWN : Sld (wr.ownsRow w1.heap.size 2 1 (.slice va j vc) j (((ks.take j).map fun k => (fAt fs k).n).map (Value.int .i64))) := ⟨hown⟩
    clear hBr hall hown gf gB gn
    by_cases hjl : j < ks.length
    · obtain ⟨kb, ko, rfl, hcj⟩ : ∃ b o, ka = some ⟨b, o, none⟩ ∧ wr.cell? ⟨b, o + j, none⟩ = some (.int .i64 (ks.getD j 0)) := by
        obtain ⟨ao2, cap2, hve, _, _, hc⟩ := gI
        simp only [Value.slice.injEq, true_and] at hve
        obtain ⟨rfl, rfl⟩ := hve
        rcases hc with hc | ⟨b, o, h1, _, h3⟩
        · rw [hc] at hjl; simp at hjl
        · exact ⟨b, o, h1, h3 j hjl⟩
      obtain ⟨hy0, hy1⟩ := HK.out (ks.getD j 0) (by simp [hjl])
      have HTK : Sld (ks.take (j + 1) = ks.take j ++ [ks.getD j 0]) := ⟨by
        rw [List.take_succ_eq_append_getElem hjl]; simp [hjl]⟩
      have hstop := HST.out j hjl
      have hjI : (j : Int) < (ks.length : Int) := by omega
      generalize ks.getD j 0 = y at *
      obtain ⟨y, rfl⟩ : ∃ z : Nat, y = (z : Int) := ⟨y.toNat, by omega⟩
      obtain ⟨f0, f1, f2⟩ := gF.at_ y (by omega)
      have hfa : fAt fs (y : Int) = fs.getD y fc0 := by unfold fAt; rw [Int.toNat_natCast]
      have HFA : Sld (fAt fs (y : Int) = fs.getD y fc0) := ⟨hfa⟩
      rw [hfa] at hstop
      obtain ⟨F, hF⟩ : ∃ F, fs.getD y fc0 = F := ⟨_, rfl⟩
      rw [hF] at f0 f1 f2 hstop HFA
      clear hF hfa gI gF gG
      obtain ⟨ft, fc, fn⟩ := F
      simp only at f0 f1 f2 hstop HFA
      have hyI : (y : Int) < (m : Int) := by omega
      cases fc with
      | false =>
        obtain ⟨rfl, rfl⟩ := Prod.mk.inj (hstop rfl)
        clear hstop HST HAL
        go_wp2_with fail
        have hS := set3 HGF.out (.bool false) (.bool false) (.int .i64 0)
        have HBE := below_set3 HGB.out (by omega : w.heap.size ≤ w.heap.size + 1) (.bool false) (.bool false) (.int .i64 0)
        generalize ((wr.setCell ⟨w.heap.size + 1, 0, none⟩ (.bool false)).setCell ⟨w.heap.size + 1, 1, none⟩ (.bool false)).setCell ⟨w.heap.size + 1, 2, none⟩ (.int .i64 0) = W at *
        obtain ⟨x0, x1, x2, _⟩ := blk3 hS
        refine bodyPost_ret (v := .agg #[.bool false, .bool false, .int .i64 0]) (by simp [results, Tryz.results22, go_sem, x0, x1, x2]) rfl ⟨rfl, HBE⟩
      | true =>
        clear hstop
        have hown2 := HOWN.out
        go_wp2_with (at_builtin; refine wpList_append_lies _ rfl (.tmp 24) (.tmp 30) 72 rfl w1.heap.size 2 i0 (.int .i64 0) 1 8 Tryz.underlying72 hi0 hz0 hz1 hz2 rfl (by decide) _ _ _ (by simp [Act.eval, Act.put]) (hown2.alloc _) ⟨wr.heap.size, 0, none⟩ 1 1 [.int .i64 fn] (by simp [Act.eval, Act.put]) rfl (cell_news_one wr _ _) (by simp [Value.oneCell']) (by omega) (by unfold maxLen; omega) (by omega) (by simp; omega) _ rfl ?_; intro g6 cap6 w8 hown6 hg6 hat6 hl6)
        have hB6 : Below w1.heap.size w1 w8 := by
          have b1 := HBR.out.trans (((Below.refl wr.heap.size wr).alloc (Nat.le_refl _) (.cells #[.int .i64 fn] 2)).mono (by omega))
          exact b1.grown hg6 (by rw [World.size_alloc]; omega) (fun j hj => by have := (own_block' hown2 j hj).1; omega)
        refine ⟨⟨j + 1, by omega, by go_num, ?_, ?_, hB6⟩, by simp [RowKit.intOf]; omega⟩
        · rw [HTK.out]
          intro k hk
          rcases List.mem_append.1 hk with hk | hk
          · exact HALL.out k hk
          · simp at hk; subst hk; rw [HFA.out]
        · rw [HTK.out, List.map_append, List.map_append]
          simp only [List.map_cons, List.map_nil, HFA.out]
          exact hown6
    · have hje : j = ks.length := by omega
      subst hje
      have hta : ks.take ks.length = ks := List.take_length
      have hal := HALL.out
      have how := HOWN.out
      rw [hta] at hal how
      obtain ⟨hR1, hR2⟩ := Prod.mk.inj (HAL.out hal)
      have hAg : Ags wr (.slice va ks.length vc) (ks.map fun k => (fAt fs k).n) := by
        refine ⟨va, vc, by rw [List.length_map], ?_⟩
        rcases how.2 with ⟨h0, h1⟩ | ⟨g, cp, cur, hve, _⟩
        · left; simp [List.length_eq_zero_iff.1 h1]
        · right
          have hva : va = some ⟨g, 0, none⟩ := by cases hve; rfl
          refine ⟨g, 0, hva, fun q x hq => ?_⟩
          have := how.cells (g := g) (by rw [hva]; rfl) q (.int .i64 x) (by rw [List.getElem?_map, hq]; rfl)
          have e0 : (⟨g, 0, none⟩ : Addr).add q = ⟨g, 0 + q, none⟩ := by rw [Go.WideShapes.add_plain]
          rw [e0] at this
          exact this
      have cA := apply_any op _ _ wr gG hAg
      clear how hAg HOWN hta hal HALL HST HAL gI gF gG
      generalize (ks.map fun k => (fAt fs k).n) = args at *
      generalize apR op args = R at *
      obtain ⟨r, er⟩ := R
      simp only at hR1 hR2 cA
      subst hR2
      have HR1 : Sld (R1 = decide (er = 0)) := ⟨hR1⟩
      have HCA : Sld (Calls Tryz.prog 35 #[.int .i64 op, .slice va ks.length vc] wr fun e w' => e = .returned (.tuple #[.int .i64 R2, .int .i64 er]) ∧ ∃ m, w' = wr.drewN m) := ⟨cA⟩
      clear cA hR1
      go_wp2_with fail
      refine HCA.out.mono ?_
      rintro e w' ⟨rfl, m, rfl⟩
      have HG2 : Sld ((wr.drewN m).heap[w.heap.size + 1]? = some (.cells #[.bool false, .bool false, .int .i64 0] 29 (0, 0))) := ⟨HGF.out⟩
      obtain ⟨q0, q1, q2, qf⟩ := blk3 HG2.out
      have HB2 : Sld (Below w.heap.size w (wr.drewN m)) := ⟨HGB.out.trans ⟨rfl, rfl, rfl, Nat.le_refl _, fun _ _ => rfl⟩⟩
      generalize wr.drewN m = wz at *
      clear HCA HGF HGB HBR
      have hR1' : R1 = (er == 0) := by rw [HR1.out]; cases h : decide (er = 0) <;> simp_all
      subst hR1'
      clear HR1
      go_wp2_with fail
      have hS := set3 HG2.out (.bool false) (.bool (er == 0)) (.int .i64 R2)
      have HBE := below_set3 HB2.out (by omega : w.heap.size ≤ w.heap.size + 1) (.bool false) (.bool (er == 0)) (.int .i64 R2)
      generalize ((wz.setCell ⟨w.heap.size + 1, 0, none⟩ (.bool false)).setCell ⟨w.heap.size + 1, 1, none⟩ (.bool (er == 0))).setCell ⟨w.heap.size + 1, 2, none⟩ (.int .i64 R2) = W at *
      obtain ⟨x0, x1, x2, _⟩ := blk3 hS
      refine bodyPost_ret (v := .agg #[.bool false, .bool (er == 0), .int .i64 R2]) (by simp [results, Tryz.results22, go_sem, x0, x1, x2]) rfl ⟨rfl, HBE⟩

theorem tot_stop {fs : List Fc} {op : Int} {ks : List Int} {j : Nat} (hj : j < ks.length) (h : (fAt fs (ks.getD j 0)).t = false) : totF fs op ks = false := by
  unfold totF
  rw [Bool.and_eq_false_iff]
  left
  rw [List.all_eq_false]
  exact ⟨ks.getD j 0, by simp [hj], by rw [h]; simp⟩
theorem tot_all {fs : List Fc} {op : Int} {ks : List Int} (h : ∀ k ∈ ks, (fAt fs k).t = true) : totF fs op ks = ((op != 8 && op != 9) || ((fAt fs (ks.getD 1 0)).c && (fAt fs (ks.getD 1 0)).n != 0)) := by
  unfold totF
  rw [List.all_eq_true.2 h, Bool.true_and]

set_option maxRecDepth 20000 in
set_option maxHeartbeats 4000000 in
theorem tot_any (w : World) (op n : Int) (nm : ByteArray) (ka : Option Addr) (kc : Nat) (ks : List Int) (g c : Nat) (fs : List Fc) (hK : Ints w w.heap.size (.slice ka ks.length kc) ks) (hF : FcR w g fs) (m : Nat) (hfm : fs.length ≤ m) (hfc : m ≤ c) (hcm : c ≤ maxLen) (hk : ∀ k ∈ ks, 0 ≤ k ∧ k < (fs.length : Int)) (h2 : op = 8 ∨ op = 9 → 1 < ks.length) (hk3 : ks.length ≤ 1000) :
    Calls Tryz.prog 23 #[.agg #[.int .i64 op, .int .i64 n, .string nm, .slice ka ks.length kc], .slice (some ⟨g, 0, none⟩) m c] w fun e w' => e = .returned (.bool (totF fs op ks)) ∧ Below w.heap.size w w' := by
  obtain ⟨w1, hw1⟩ : ∃ w1, w.alloc (.cells #[.int .i64 op, .int .i64 n, .string nm, .slice ka ks.length kc] 41) = w1 := ⟨_, rfl⟩
  have hb1 : Below w.heap.size w w1 := by rw [← hw1]; exact (Below.refl _ _).alloc (Nat.le_refl _) _
  have hs1 : w1.heap.size = w.heap.size + 1 := by rw [← hw1]; simp
  have hn1 : w1.heap[w.heap.size]? = some (.cells #[.int .i64 op, .int .i64 n, .string nm, .slice ka ks.length kc] 41 (0, 0)) := by
    rw [← hw1, Deep.blk_alloc_new]
  have HW1 : Sld (w.alloc (.cells #[.int .i64 op, .int .i64 n, .string nm, .slice ka ks.length kc] 41) = w1) := ⟨hw1⟩
  have ALL : Sld (Ints w1 w1.heap.size (.slice ka ks.length kc) ks ∧ FcR w1 g fs) := ⟨hK.below hb1 hb1.size, hF.below hb1⟩
  have HB1 : Sld (Below w.heap.size w w1) := ⟨hb1⟩
  obtain ⟨ao', cap', hve, hv1, ⟨hkm, _⟩, _⟩ := id hK
  simp only [Value.slice.injEq, true_and] at hve
  obtain ⟨rfl, rfl⟩ := hve
  unfold maxLen at hkm hcm
  have hkcI : (ks.length : Int) ≤ (kc : Int) := by omega
  have hkmI : (kc : Int) ≤ 9223372036854775807 := by omega
  have HK : Sld (∀ k ∈ ks, 0 ≤ k ∧ k < (fs.length : Int)) := ⟨hk⟩
  have HST : Sld (∀ j, j < ks.length → (fAt fs (ks.getD j 0)).t = false → totF fs op ks = false) := ⟨fun j hj h => tot_stop hj h⟩
  have HAL : Sld ((∀ k ∈ ks, (fAt fs k).t = true) → totF fs op ks = ((op != 8 && op != 9) || ((fAt fs (ks.getD 1 0)).c && (fAt fs (ks.getD 1 0)).n != 0))) := ⟨tot_all⟩
  have H2 : Sld (op = 8 ∨ op = 9 → 1 < ks.length) := ⟨h2⟩
  have KID : Sld (∀ j, j < ks.length → ∃ b o, ka = some ⟨b, o, none⟩ ∧ w1.cell? ⟨b, o + j, none⟩ = some (.int .i64 (ks.getD j 0))) := ⟨fun j hjl => by
    obtain ⟨ao2, cap2, hve, _, _, hc⟩ := ALL.out.1
    simp only [Value.slice.injEq, true_and] at hve
    obtain ⟨rfl, rfl⟩ := hve
    rcases hc with hc | ⟨b, o, h1, _, h3⟩
    · rw [hc] at hjl; simp at hjl
    · exact ⟨b, o, h1, h3 j hjl⟩⟩
  obtain ⟨R, hR⟩ : ∃ R, totF fs op ks = R := ⟨_, rfl⟩
  rw [hR] at HST HAL ⊢
  obtain ⟨y0, _, _, y3, _⟩ := blk4' hn1
  clear hw1 hb1 hn1 hK hF hR hk h2
  go_enter Tryz.func23, Tryz.ntmps23
  go_wp2_with fail
  rw [HW1.out]
  go_loopw [11] (fun q wr => ∃ j : Nat, j ≤ ks.length ∧ q = .int .i64 j ∧ (∀ k ∈ ks.take j, (fAt fs k).t = true) ∧ wr = w1) (fun q _ => ks.length - (RowKit.intOf q).toNat)
  case atStart => exact ⟨0, by omega, rfl, by simp, rfl⟩
  case round =>
    obtain ⟨j, hj, rfl, hall, rfl⟩ := hrel
    have HALL : Sld (∀ k ∈ ks.take j, (fAt fs k).t = true) := ⟨hall⟩
    clear hall
    by_cases hjl : j < ks.length
    · obtain ⟨kb, ko, rfl, hcj⟩ := KID.out j hjl
      obtain ⟨hy0, hy1⟩ := HK.out (ks.getD j 0) (by simp [hjl])
      have HTK : Sld (ks.take (j + 1) = ks.take j ++ [ks.getD j 0]) := ⟨by
        rw [List.take_succ_eq_append_getElem hjl]; simp [hjl]⟩
      have hstop := HST.out j hjl
      have hjI : (j : Int) < (ks.length : Int) := by omega
      generalize ks.getD j 0 = y at *
      obtain ⟨y, rfl⟩ : ∃ z : Nat, y = (z : Int) := ⟨y.toNat, by omega⟩
      obtain ⟨f0, f1, f2⟩ := ALL.out.2.at_ y (by omega)
      have hfa : fAt fs (y : Int) = fs.getD y fc0 := by unfold fAt; rw [Int.toNat_natCast]
      have HFA : Sld (fAt fs (y : Int) = fs.getD y fc0) := ⟨hfa⟩
      rw [hfa] at hstop
      obtain ⟨F, hF⟩ : ∃ F, fs.getD y fc0 = F := ⟨_, rfl⟩
      rw [hF] at f0 f1 f2 hstop HFA
      clear hF hfa
      obtain ⟨ft, fc, fn⟩ := F
      simp only at f0 f1 f2 hstop HFA
      have hyI : (y : Int) < (m : Int) := by omega
      cases ft with
      | false =>
        obtain rfl := hstop rfl
        clear hstop HST HAL
        go_wp2_with fail
        go_ret
        exact ⟨rfl, HB1.out⟩
      | true =>
        clear hstop
        go_wp2_with fail
        refine ⟨⟨j + 1, by omega, by go_num, ?_, by first | rfl | trivial⟩, by simp [RowKit.intOf]; omega⟩
        rw [HTK.out]
        intro k hk
        rcases List.mem_append.1 hk with hk | hk
        · exact HALL.out k hk
        · simp at hk; subst hk; rw [HFA.out]
    · have hje : j = ks.length := by omega
      subst hje
      have hta : ks.take ks.length = ks := List.take_length
      have hal := HALL.out
      rw [hta] at hal
      have hR := HAL.out hal
      clear hal hta HALL HAL HST
      by_cases ho : op = 8 ∨ op = 9
      · have hl2 := H2.out ho
        obtain ⟨kb, ko, rfl, hcj⟩ := KID.out 1 hl2
        obtain ⟨hy0, hy1⟩ := HK.out (ks.getD 1 0) (by simp [hl2])
        have hl2I : (1 : Int) < (ks.length : Int) := by omega
        have g : (op != 8 && op != 9) = false := by simp; omega
        rw [g, Bool.false_or] at hR
        generalize ks.getD 1 0 = y at *
        obtain ⟨y, rfl⟩ : ∃ z : Nat, y = (z : Int) := ⟨y.toNat, by omega⟩
        obtain ⟨f0, f1, f2⟩ := ALL.out.2.at_ y (by omega)
        have hfa : fAt fs (y : Int) = fs.getD y fc0 := by unfold fAt; rw [Int.toNat_natCast]
        rw [hfa] at hR
        obtain ⟨F, hF⟩ : ∃ F, fs.getD y fc0 = F := ⟨_, rfl⟩
        rw [hF] at f0 f1 f2 hR
        obtain ⟨ft, fc, fn⟩ := F
        simp only at f0 f1 f2 hR
        have hyI : (y : Int) < (m : Int) := by omega
        have HBA : Sld (∀ o, Below w.heap.size w (wr.alloc o)) := ⟨fun o => HB1.out.alloc HB1.out.size _⟩
        clear hF hfa g
        rcases ho with rfl | rfl
        all_goals
          cases fc
          all_goals
            simp only [Bool.false_and, Bool.true_and] at hR
            subst hR
            go_wp2_with fail
            go_ret
            exact ⟨rfl, HBA.out _⟩
      · have g8 : (op != 8) = true := by simp; omega
        have g9 : (op != 9) = true := by simp; omega
        rw [g8, g9] at hR
        simp only [Bool.and_self, Bool.true_or] at hR
        subst hR
        go_wp2_with fail
        go_ret
        exact ⟨rfl, HB1.out⟩

set_option maxRecDepth 20000 in
set_option maxHeartbeats 4000000 in
theorem told_any (w : World) (x : Nd) (ka : Option Addr) (kc : Nat) (g c : Nat) (fs : List Fc) (hK : Ints w w.heap.size (.slice ka x.kids.length kc) x.kids) (hF : FcR w g fs) (m : Nat) (hfm : fs.length ≤ m) (hfc : m ≤ c) (hcm : c ≤ maxLen) (hk : ∀ k ∈ x.kids, 0 ≤ k ∧ k < (fs.length : Int)) (h2 : x.op = 8 ∨ x.op = 9 → 1 < x.kids.length) (hG : GrpCells w) (hk3 : x.kids.length ≤ 1000) :
    Calls Tryz.prog 13 #[.agg #[.int .i64 x.op, .int .i64 x.n, .string x.name, .slice ka x.kids.length kc], .slice (some ⟨g, 0, none⟩) m c] w fun e w' => e = .returned (.agg #[.bool (tdF fs x).t, .bool (tdF fs x).c, .int .i64 (tdF fs x).n]) ∧ Below w.heap.size w w' := by
  obtain ⟨op, n, nm, ks⟩ := x
  simp only at hK hk h2 hk3 ⊢
  obtain ⟨w1, hw1⟩ : ∃ w1, (w.alloc (.cells #[.int .i64 op, .int .i64 n, .string nm, .slice ka ks.length kc] 41)).alloc (.cells #[.bool false, .bool false, .int .i64 0] 29) = w1 := ⟨_, rfl⟩
  have hb1 : Below w.heap.size w w1 := by rw [← hw1]; exact ((Below.refl _ _).alloc (Nat.le_refl _) _).alloc (by simp) _
  have hs1 : w1.heap.size = w.heap.size + 2 := by rw [← hw1]; simp
  have hn1 : w1.heap[w.heap.size]? = some (.cells #[.int .i64 op, .int .i64 n, .string nm, .slice ka ks.length kc] 41 (0, 0)) := by
    rw [← hw1, Deep.blk_alloc_lt _ _ _ (by simp), Deep.blk_alloc_new]
  have hf1 : w1.heap[w.heap.size + 1]? = some (.cells #[.bool false, .bool false, .int .i64 0] 29 (0, 0)) := by
    have := Deep.blk_alloc_new (w.alloc (.cells #[.int .i64 op, .int .i64 n, .string nm, .slice ka ks.length kc] 41)) (.cells #[.bool false, .bool false, .int .i64 0] 29)
    rw [← hw1]
    rw [World.size_alloc] at this
    exact this
  have HW1 : Sld ((w.alloc (.cells #[.int .i64 op, .int .i64 n, .string nm, .slice ka ks.length kc] 41)).alloc (.cells #[.bool false, .bool false, .int .i64 0] 29) = w1) := ⟨hw1⟩
  have HF1 : Sld (w1.heap[w.heap.size + 1]? = some (.cells #[.bool false, .bool false, .int .i64 0] 29 (0, 0))) := ⟨hf1⟩
  have HB1 : Sld (Below w.heap.size w w1) := ⟨hb1⟩
  have CC : Sld (Calls Tryz.prog 22 #[.agg #[.int .i64 op, .int .i64 n, .string nm, .slice ka ks.length kc], .slice (some ⟨g, 0, none⟩) m c] w1 fun e w' => e = .returned (.agg #[.bool false, .bool (cnsF fs op ks).1, .int .i64 (cnsF fs op ks).2]) ∧ Below w1.heap.size w1 w') := ⟨const_any w1 op n nm ka kc ks g c fs (hK.below hb1 hb1.size) (hF.below hb1) m hfm hfc hcm hk (hG.below hb1) hk3⟩
  have CT : Sld (∀ W, Below w1.heap.size w1 W → Calls Tryz.prog 23 #[.agg #[.int .i64 op, .int .i64 n, .string nm, .slice ka ks.length kc], .slice (some ⟨g, 0, none⟩) m c] W fun e w' => e = .returned (.bool (totF fs op ks)) ∧ Below W.heap.size W w') := ⟨fun W hW => by
    have hbb := hb1.trans (hW.mono hb1.size)
    exact tot_any W op n nm ka kc ks g c fs (hK.below hbb hbb.size) (hF.below hbb) m hfm hfc hcm hk h2 hk3⟩
  obtain ⟨y0, y1, y2, y3, _⟩ := blk4' hn1
  obtain ⟨z0, z1, z2, zf⟩ := blk3 hf1
  have HN1 : Sld (w1.heap[w.heap.size]? = some (.cells #[.int .i64 op, .int .i64 n, .string nm, .slice ka ks.length kc] 41 (0, 0))) := ⟨hn1⟩
  clear hw1 hb1 hn1 hf1 hK hF hG hk h2
  unfold tdF
  simp only
  by_cases o1 : op = 1
  · subst o1
    rw [if_pos rfl]
    clear CC CT
    go_enter Tryz.func13, Tryz.ntmps13
    go_wp2_with fail
    have hS := Deep.blk_alloc_new (w.alloc (.cells #[.int .i64 1, .int .i64 n, .string nm, .slice ka ks.length kc] 41)) (.cells #[.bool true, .bool true, .int .i64 n] 29)
    rw [World.size_alloc] at hS
    obtain ⟨x0, x1, x2, _⟩ := blk3 hS
    refine bodyPost_ret (v := .agg #[.bool true, .bool true, .int .i64 n]) (by simp [results, Tryz.results13, go_sem, x0, x1, x2]) rfl ⟨rfl, ((Below.refl _ _).alloc (Nat.le_refl _) _).alloc (by simp) _⟩
  · rw [if_neg o1]
    by_cases o2 : op = 2
    · subst o2
      rw [if_pos rfl]
      clear CC CT
      go_enter Tryz.func13, Tryz.ntmps13
      go_wp2_with fail
      have hS := Deep.blk_alloc_new (w.alloc (.cells #[.int .i64 2, .int .i64 n, .string nm, .slice ka ks.length kc] 41)) (.cells #[.bool true, .bool false, .int .i64 0] 29)
      rw [World.size_alloc] at hS
      obtain ⟨x0, x1, x2, _⟩ := blk3 hS
      refine bodyPost_ret (v := .agg #[.bool true, .bool false, .int .i64 0]) (by simp [results, Tryz.results13, go_sem, x0, x1, x2]) rfl ⟨rfl, ((Below.refl _ _).alloc (Nat.le_refl _) _).alloc (by simp) _⟩
    · rw [if_neg o2]
      simp only
      have g1 : (op == 1) = false := by simp [o1]
      have g2 : (op == 2) = false := by simp [o2]
      generalize totF fs op ks = TT at *
      generalize cnsF fs op ks = CN at *
      obtain ⟨cb, cn⟩ := CN
      simp only at CC ⊢
      clear o1 o2
      go_enter Tryz.func13, Tryz.ntmps13
      go_wp2_with fail
      rw [HW1.out]
      refine CC.out.mono ?_
      rintro e w2 ⟨rfl, hb2⟩
      have HB2 : Sld (Below w1.heap.size w1 w2) := ⟨hb2⟩
      obtain ⟨w3, hw3⟩ : ∃ w3, w2.alloc (.cells #[.bool false, .bool cb, .int .i64 cn] 29) = w3 := ⟨_, rfl⟩
      have hb3 : Below w1.heap.size w1 w3 := by rw [← hw3]; exact hb2.alloc hb2.size _
      have hn3 := (hb3.block _ (lt_of_block HN1.out)).trans HN1.out
      obtain ⟨u0, u1, u2, u3, _⟩ := blk4' hn3
      have HW3 : Sld (w2.alloc (.cells #[.bool false, .bool cb, .int .i64 cn] 29) = w3) := ⟨hw3⟩
      have hc3 : w3.heap[w2.heap.size]? = some (.cells #[.bool false, .bool cb, .int .i64 cn] 29 (0, 0)) := by rw [← hw3, Deep.blk_alloc_new]
      have HC3 : Sld (w3.heap[w2.heap.size]? = some (.cells #[.bool false, .bool cb, .int .i64 cn] 29 (0, 0))) := ⟨hc3⟩
      have HB3 : Sld (Below w1.heap.size w1 w3) := ⟨hb3⟩
      have hs2 : w1.heap.size ≤ w2.heap.size := hb2.size
      clear hb2 hb3 hn3 hc3 CC
      go_wp2_with fail
      refine (CT.out w3 HB3.out).mono ?_
      rintro e w4 ⟨rfl, hb4⟩
      have hc4 := (hb4.block _ (lt_of_block HC3.out)).trans HC3.out
      obtain ⟨p0, p1, p2, pf⟩ := blk3 hc4
      have hf4 : w4.heap[w.heap.size + 1]? = some (.cells #[.bool false, .bool false, .int .i64 0] 29 (0, 0)) := ((HB3.out.trans (hb4.mono HB3.out.size)).block _ (lt_of_block HF1.out)).trans HF1.out
      obtain ⟨w5, hw5⟩ : ∃ w5, w4.setCell ⟨w2.heap.size, 0, none⟩ (.bool TT) = w5 := ⟨_, rfl⟩
      have hc5 : w5.heap[w2.heap.size]? = some (.cells #[.bool TT, .bool cb, .int .i64 cn] 29 (0, 0)) := by
        have := heap_setCell_same w4 w2.heap.size 0 _ _ (.bool TT) hc4
        rw [hw5] at this; simpa using this
      have hf5 : w5.heap[w.heap.size + 1]? = some (.cells #[.bool false, .bool false, .int .i64 0] 29 (0, 0)) := by
        rw [← hw5, Deep.blk_setCell_other _ _ _ _ (by show w.heap.size + 1 ≠ w2.heap.size; omega)]; exact hf4
      have HB5 : Sld (Below w.heap.size w w5) := ⟨by
        rw [← hw5]
        exact (HB1.out.trans ((HB3.out.trans (hb4.mono HB3.out.size)).mono HB1.out.size)).setCell (p := ⟨w2.heap.size, 0, none⟩) (by show w.heap.size ≤ w2.heap.size; omega) _⟩
      obtain ⟨s0, s1, s2, sf⟩ := blk3 hc5
      obtain ⟨r0, r1, r2, rf⟩ := blk3 hf5
      have HF5 : Sld (w5.heap[w.heap.size + 1]? = some (.cells #[.bool false, .bool false, .int .i64 0] 29 (0, 0))) := ⟨hf5⟩
      clear hc4 hf4 hc5 hf5 hb4
      go_wp2_with fail
      have hS := set3 HF5.out (.bool TT) (.bool cb) (.int .i64 cn)
      have HBE := below_set3 HB5.out (by omega : w.heap.size ≤ w.heap.size + 1) (.bool TT) (.bool cb) (.int .i64 cn)
      generalize ((w5.setCell ⟨w.heap.size + 1, 0, none⟩ (.bool TT)).setCell ⟨w.heap.size + 1, 1, none⟩ (.bool cb)).setCell ⟨w.heap.size + 1, 2, none⟩ (.int .i64 cn) = W at *
      obtain ⟨x0, x1, x2, _⟩ := blk3 hS
      refine bodyPost_ret (v := .agg #[.bool TT, .bool cb, .int .i64 cn]) (by simp [results, Tryz.results13, go_sem, x0, x1, x2]) rfl ⟨rfl, HBE⟩
end Go.Proofs.YtlbmijcpalfaeaaGreatDoor
