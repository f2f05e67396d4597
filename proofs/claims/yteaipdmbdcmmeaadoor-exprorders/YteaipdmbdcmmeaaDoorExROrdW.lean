/-
  What the document's order answers.
-/
import Derived.Test.YteaipdmbdcmmeaaDoorExHeadW
import Derived.Test.YteaipdmbdcmmeaaDoorExRdW
set_option linter.unusedSimpArgs false
set_option linter.unusedVariables false
namespace Go.Proofs.YteaipdmbdcmmeaaDoor
open Go.RowKit Go.Lib Go.Sort

theorem stI_beg {l : List Nd} {fr : List Nat} (h : begL l = some fr) (i : Nat) (hi : i < l.length) : stI l i = ((fr.getD i 0 : Nat) : Int) - 1 := by
  have h1 := sts_of_beg l [] fr low_nil (begL_some h).2.2.1
  have hl := begR_len (begL_some h).2.2.1
  refine stI_some ?_
  have e : sts l = fr.map some := by simpa [sts] using h1
  rw [e]
  have : i < fr.length := by omega
  simp [this]

set_option maxRecDepth 20000 in
set_option maxHeartbeats 2000000 in
theorem refOrdAt (a : List Nd) (fa : List Nat) (b : List Nd) (fb : List Nat) (hsa : begL a = some fa) (hsb : begL b = some fb) (ao bo : Option Addr) (ca cb : Nat) : ∀ (f i j : Nat) (W : World), Rd W ao ca a → Rd W bo cb b → i < f → i < a.length → j < b.length →
    Calls Tryd.prog 88 #[.slice ao a.length ca, .slice bo b.length cb, .int .i64 i, .int .i64 j] W fun e w' => e = .returned (.int .i64 (ordF a fa b fb f i j)) ∧ Below W.heap.size W w' := by
  intro f
  induction f with
  | zero => intro i j W _ _ h; omega
  | succ f IH =>
    intro i j W RA RB hif hi hj
    have HIH : Hid (∀ (i j : Nat) (W : World), Rd W ao ca a → Rd W bo cb b → i < f → i < a.length → j < b.length →
      Calls Tryd.prog 88 #[.slice ao a.length ca, .slice bo b.length cb, .int .i64 i, .int .i64 j] W fun e w' => e = .returned (.int .i64 (ordF a fa b fb f i j)) ∧ Below W.heap.size W w') := IH
    clear IH
    have HR : Hid (ordF a fa b fb (f + 1) i j = ordK (fun p q => ordF a fa b fb f p.toNat q.toNat) (headC (szA fa i) (szA fb j) (a.getD i nd0) (b.getD j nd0)) (a.getD i nd0).kids (b.getD j nd0).kids) := rfl
    generalize ordF a fa b fb (f + 1) i j = R at *
    have oka := begOk_of (begL_some hsa).2.2.1
    have okb := begOk_of (begL_some hsb).2.2.1
    have ha64 := (begL_some hsa).2.1
    have hb64 := (begL_some hsb).2.1
    have cWa : Hid (Calls Tryd.prog 43 #[.slice ao a.length ca, .int .i64 i] W fun e w' => e = .returned (.int .i64 ((fa.getD i 0 : Nat) - 1)) ∧ w' = W) := by
      have := walk_any _ a W _ RA i hi
      rw [stI_beg hsa i hi] at this; exact this
    have cWb : Hid (Calls Tryd.prog 43 #[.slice bo b.length cb, .int .i64 j] W fun e w' => e = .returned (.int .i64 ((fb.getD j 0 : Nat) - 1)) ∧ w' = W) := by
      have := walk_any _ b W _ RB j hj
      rw [stI_beg hsb j hj] at this; exact this
    have HRA : Hid (Rd W ao ca a) := RA
    have HRB : Hid (Rd W bo cb b) := RB
    obtain ⟨ao', ca', h1, hla, hma, hca⟩ := RA
    cases h1
    obtain ⟨bo', cb', h1, hlb, hmb, hcb⟩ := RB
    cases h1
    unfold maxLen at hma hmb
    obtain ⟨ab, aq, rfl, hab, hca⟩ : ∃ b o, ao = some ⟨b, o, none⟩ ∧ b < W.heap.size ∧ ∀ i, i < a.length → ∃ kv, NodeAt W W.heap.size b (o + i * 4) (a.getD i nd0) kv := by
      rcases hca with h | h
      · subst h; simp at hi
      · exact h
    obtain ⟨bb, bq, rfl, hbb, hcb⟩ : ∃ c o, bo = some ⟨c, o, none⟩ ∧ c < W.heap.size ∧ ∀ i, i < b.length → ∃ kv, NodeAt W W.heap.size c (o + i * 4) (b.getD i nd0) kv := by
      rcases hcb with h | h
      · subst h; simp at hj
      · exact h
    obtain ⟨kva, hna⟩ := hca i hi
    obtain ⟨kvb, hnb⟩ := hcb j hj
    clear hca hcb
    have hforma := (oka.at_ i hi).1
    have hformb := (okb.at_ j hj).1
    have hpa := oka.low i
    have hpb := okb.low j
    have hkla := formB_kids hforma
    have hklb := formB_kids hformb
    have hsza := (form_name hforma).2
    have hszb := (form_name hformb).2
    have HKA : Hid (∀ k ∈ (a.getD i nd0).kids, k.toNat < i ∧ k.toNat < a.length ∧ 0 ≤ k) := fun k hk => ⟨(kid_lt oka hi hk).1, (kid_lt oka hi hk).2, ok_kids oka i hi k hk⟩
    have HKB : Hid (∀ k ∈ (b.getD j nd0).kids, k.toNat < j ∧ k.toNat < b.length ∧ 0 ≤ k) := fun k hk => ⟨(kid_lt okb hj hk).1, (kid_lt okb hj hk).2, ok_kids okb j hj k hk⟩
    have HFL : Hid ((a.getD i nd0).op = (b.getD j nd0).op → (a.getD i nd0).kids.length = (b.getD j nd0).kids.length) := fun h => form_len hforma hformb h
    clear hforma hformb oka okb
    generalize a.getD i nd0 = xa at *
    generalize b.getD j nd0 = xb at *
    have HNA : Hid (NodeAt W W.heap.size ab (aq + i * 4) xa kva) := hna
    have HNB : Hid (NodeAt W W.heap.size bb (bq + j * 4) xb kvb) := hnb
    obtain ⟨kaa, kca, hkva, _⟩ := id hna.kids
    subst hkva
    obtain ⟨kab, kcb, hkvb, _⟩ := id hnb.kids
    subst hkvb
    unfold szA at HR
    generalize fa.getD i 0 = p at *
    generalize fb.getD j 0 = q at *
    clear hna hnb
    rcases Int.lt_trichotomy ((i : Int) - ((p : Int) - 1)) ((j : Int) - ((q : Int) - 1)) with hc | hc | hc
    · have HE : Hid (R = -1) := by
        have h := HR.out
        rw [headC_lt _ _ (by omega), ordK_nz _ (by omega)] at h; exact h
      go_enter Tryd.func88, Tryd.ntmps88
      go_wp2_with (first | (go_at_call_of 43 (Value.slice (some ⟨ab, aq, none⟩) a.length ca); refine cWa.out.mono ?_; rintro e w' ⟨rfl, hw'⟩; subst w') | (go_at_call 43; refine cWb.out.mono ?_; rintro e w' ⟨rfl, hw'⟩; subst w'))
      go_ret
      exact ⟨ret_int HE.out.symm, Below.refl _ _⟩
    · have cH : Hid (∀ d os, Calls Tryd.prog 115 #[.agg #[.int .i64 xa.op, .int .i64 xa.n, .string xa.name, .slice kaa xa.kids.length kca], .agg #[.int .i64 xb.op, .int .i64 xb.n, .string xb.name, .slice kab xb.kids.length kcb]] (grow (redrawn W d) os) fun e w'' => e = .returned (.int .i64 (heads xa xb)) ∧ ∃ p : Regrown, w'' = grow (redrawn W p.d) p.os) := fun d os => Calls.regrown_of (heads_any xa xb _ _ _ _ _ _ _ _ rfl rfl _ hsza hszb)
      have HOP : Hid (heads xa xb = 0 → xa.kids.length = xb.kids.length) := fun h => by
        refine HFL.out (head_zero (m := 0) (n := 0) ?_).2.1
        rw [headC_eq _ _ rfl]; exact h
      have HR' : Hid (R = ordK (fun p q => ordF a fa b fb f p.toNat q.toNat) (heads xa xb) xa.kids xb.kids) := by
        have h := HR.out
        rw [headC_eq _ _ (by omega)] at h; exact h
      have d0 := HNA.out.c0
      have d1 := HNA.out.c1
      have d2 := HNA.out.c2
      have d3 := HNA.out.c3
      have e0 := HNB.out.c0
      have e1 := HNB.out.c1
      have e2 := HNB.out.c2
      have e3 := HNB.out.c3
      have g0 := cell_regrown d0
      have g1 := cell_regrown d1
      have g2 := cell_regrown d2
      have g3 := cell_regrown d3
      have f0 := cell_regrown e0
      have f1 := cell_regrown e1
      have f2 := cell_regrown e2
      have f3 := cell_regrown e3
      clear d0 d1 d2 d3 e0 e1 e2 e3 HR HFL
      generalize heads xa xb = hc0 at *
      go_enter Tryd.func88, Tryd.ntmps88
      go_wp2_with (first | (go_at_call_of 43 (Value.slice (some ⟨ab, aq, none⟩) a.length ca); refine cWa.out.mono ?_; rintro e w' ⟨rfl, hw'⟩; subst w') | (go_at_call 43; refine cWb.out.mono ?_; rintro e w' ⟨rfl, hw'⟩; subst w'))
      refine wp_region_quiet_below (by kernel_rfl) (by kernel_rfl) ?_
      iterate 10 (go_big_quiet_step ((go_at_call 115; exact cH.out _ _)))
      refine wpQuiet_nil ?_
      intro _ hw'
      obtain ⟨⟨dr, osr⟩, hw''⟩ := hw'
      subst hw''
      have HB0 : Hid (Below W.heap.size W (grow (redrawn W dr) osr)) := below_regrown W dr osr
      generalize grow (redrawn W dr) osr = w0 at *
      clear g0 g1 g2 g3 f0 f1 f2 f3 cH cWa cWb
      go_wp2_with fail
      go_loopw [11, 12] (fun c q wr => ∃ (k : Nat) (cc : Int), k ≤ xa.kids.length ∧ q = .int .i64 k ∧ c = .int .i64 cc ∧ Hid (R = ordK (fun p q => ordF a fa b fb f p.toNat q.toNat) cc (xa.kids.drop k) (xb.kids.drop k)) ∧ Hid (cc = 0 → xa.kids.length = xb.kids.length) ∧ Below W.heap.size W wr) (fun _ q _ => xa.kids.length - (RowKit.intOf q).toNat)
      case atStart => exact ⟨0, _, by omega, rfl, rfl, HR', HOP, HB0.out⟩
      case round =>
        obtain ⟨k, cc, hk, rfl, rfl, HO, HL, hbr⟩ := hrel
        clear HR' HOP HB0
        have NA := HNA.out.below hbr hbr.size hab
        have NB := HNB.out.below hbr hbr.size hbb
        have c3 := NA.c3
        have HW : Hid (Below W.heap.size W wr) := hbr
        clear hbr
        by_cases hcc : cc = 0
        · subst hcc
          by_cases hkl : k < xa.kids.length
          · have hll := HL.out rfl
            have hkm : k < xb.kids.length := by omega
            obtain ⟨z, hz⟩ : ∃ z : Nat, xa.kids.getD k 0 = (z : Int) := ⟨(xa.kids.getD k 0).toNat, by have := (HKA.out (xa.kids.getD k 0) (by simp [hkl])).2.2; omega⟩
            obtain ⟨y, hy⟩ : ∃ y : Nat, xb.kids.getD k 0 = (y : Int) := ⟨(xb.kids.getD k 0).toNat, by have := (HKB.out (xb.kids.getD k 0) (by simp [hkm])).2.2; omega⟩
            have hza := HKA.out (xa.kids.getD k 0) (by simp [hkl])
            have hyb := HKB.out (xb.kids.getD k 0) (by simp [hkm])
            rw [hz, Int.toNat_natCast] at hza
            rw [hy, Int.toNat_natCast] at hyb
            have HO' : Hid (R = ordK (fun p q => ordF a fa b fb f p.toNat q.toNat) (ordF a fa b fb f z y) (xa.kids.drop (k + 1)) (xb.kids.drop (k + 1))) := by
              have h := HO.out
              rw [List.drop_eq_getElem_cons hkl, List.drop_eq_getElem_cons hkm, ordK_zero] at h
              have e1 : xa.kids[k] = (z : Int) := by rw [← hz]; simp [hkl]
              have e2 : xb.kids[k] = (y : Int) := by rw [← hy]; simp [hkm]
              rw [e1, e2] at h
              exact h
            obtain ⟨kb, ko, rfl, hkb, hkc⟩ : ∃ b o, kaa = some ⟨b, o, none⟩ ∧ b < wr.heap.size ∧ wr.cell? ⟨b, o + k, none⟩ = some (.int .i64 z) := by
              obtain ⟨aa, cc, heq, _, _, hc⟩ := NA.kids
              cases heq
              rcases hc with h | ⟨b, o, h1, h2, h3⟩
              · rw [h] at hkl; simp at hkl
              · exact ⟨b, o, h1, h2, by rw [← hz]; exact h3 k hkl⟩
            obtain ⟨lb, lo, rfl, hlb', hlc⟩ : ∃ b o, kab = some ⟨b, o, none⟩ ∧ b < wr.heap.size ∧ wr.cell? ⟨b, o + k, none⟩ = some (.int .i64 y) := by
              obtain ⟨aa, cc, heq, _, _, hc⟩ := NB.kids
              cases heq
              rcases hc with h | ⟨b, o, h1, h2, h3⟩
              · rw [h] at hkm; simp at hkm
              · exact ⟨b, o, h1, h2, by rw [← hy]; exact h3 k hkm⟩
            have g0 := cell_regrown c3
            have g1 := cell_regrown NB.c3
            have g2 := cell_regrown hkc
            have g3 := cell_regrown hlc
            have cR : Hid (∀ d os, Calls Tryd.prog 88 #[.slice (some ⟨ab, aq, none⟩) a.length ca, .slice (some ⟨bb, bq, none⟩) b.length cb, .int .i64 z, .int .i64 y] (grow (redrawn wr d) os) fun e w'' => e = .returned (.int .i64 (ordF a fa b fb f z y)) ∧ ∃ p : Regrown, w'' = grow (redrawn wr p.d) p.os) := fun d os =>
              Calls.regrown_of (HIH.out z y _ ((HRA.out.below HW.out HW.out.size).below (below_regrown wr d os) (below_regrown wr d os).size) ((HRB.out.below HW.out HW.out.size).below (below_regrown wr d os) (below_regrown wr d os).size) (by omega) hza.2.1 hyb.2.1)
            clear HIH HKA HKB HNA HNB NA NB hz hy hza hyb HO HL hkc hlc HRA HRB
            generalize ordF a fa b fb f z y = rr at *
            generalize xa.kids.length = la at *
            generalize xb.kids.length = lb at *
            go_wp2_with fail
            refine wp_region_quiet_below (by kernel_rfl) (by kernel_rfl) ?_
            iterate 20 (go_big_quiet_step ((go_at_call 88; exact cR.out _ _)))
            refine wpQuiet_nil ?_
            intro _ hw'
            obtain ⟨⟨ds, oss⟩, hw''⟩ := hw'
            subst hw''
            go_wp2_with fail
            refine ⟨⟨k + 1, _, by omega, by go_num, rfl, HO', fun _ => hll, HW.out.trans ((below_regrown wr ds oss).mono HW.out.size)⟩, by simp [RowKit.intOf]; omega⟩
          · have hke : k = xa.kids.length := by omega
            subst hke
            have HE : Hid (R = 0) := by
              have h := HO.out
              rw [List.drop_length, ordK_nil] at h
              exact h
            go_wp2_with fail
            go_ret
            exact ⟨ret_int HE.out.symm, HW.out⟩
        · have hne : (cc == 0) = false := by simpa using hcc
          have HE : Hid (R = cc) := by
            have h := HO.out
            rw [ordK_nz _ hcc] at h
            exact h
          go_wp2_with fail
          go_ret
          exact ⟨ret_int HE.out.symm, HW.out⟩
    · have HE : Hid (R = 1) := by
        have h := HR.out
        rw [headC_gt _ _ (by omega), ordK_nz _ (by omega)] at h; exact h
      go_enter Tryd.func88, Tryd.ntmps88
      go_wp2_with (first | (go_at_call_of 43 (Value.slice (some ⟨ab, aq, none⟩) a.length ca); refine cWa.out.mono ?_; rintro e w' ⟨rfl, hw'⟩; subst w') | (go_at_call 43; refine cWb.out.mono ?_; rintro e w' ⟨rfl, hw'⟩; subst w'))
      go_ret
      exact ⟨ret_int HE.out.symm, Below.refl _ _⟩
end Go.Proofs.YteaipdmbdcmmeaaDoor
