/-
  Add, walked: its loop.
-/
import Derived.Test.YtjidockolacghaaDoorTbA
set_option linter.unusedSimpArgs false
set_option linter.unusedVariables false
namespace Go.Proofs.YtjidockolacghaaDoor
open Go.RowKit Go.Lib Go.Sort Go.Maps

theorem adN_op (ids : List Nat) (x : Nd) : (adN ids x).op = x.op ∧ (adN ids x).n = x.n ∧ (adN ids x).name = x.name := ⟨rfl, rfl, rfl⟩
theorem adN_ndk {L l : List Nd} {ids : List Nat} {j : Nat} {x : Nd} (hI : TbI L) (hf : formB x = true) (hn : N6 x.n) (hs : x.name.size ≤ 281474976710656) (hk : ∀ k ∈ (adN ids x).kids, 0 ≤ k ∧ k < (L.length : Int)) : NdK (adN ids x) :=
  NdK.of (by rw [adN_form]; exact hf) hn (by show x.name.size ≤ _; unfold maxLen; omega) fun k h => by have := hk k h; have := hI.le; omega
theorem adN_kids {L l : List Nd} {ids : List Nat} {j : Nat} (hl : KidsLo l) (hj : j < l.length) (h : Fnd L (l.take j) ids) : ∀ k ∈ (adN ids (l.getD j nd0)).kids, 0 ≤ k ∧ k < (L.length : Int) := by
  intro k hk
  unfold adN at hk
  simp only [List.mem_map] at hk
  obtain ⟨q, hq, rfl⟩ := hk
  have h1 := hl j hj q hq
  have ht : (l.take j).length = j := by simp; omega
  have := (h.at_ q.toNat (by omega)).1
  omega
theorem below_box {wr wa wb wk : World} {sb : Nat} (h1 : Below wr.heap.size wr wa) (h2 : Below wa.heap.size wa wb) (h3 : Below sb (wb.alloc (.cells #[] 0)) wk) (hs : wr.heap.size ≤ sb) : True := trivial

set_option maxRecDepth 20000 in
set_option maxHeartbeats 16000000 in
theorem tAdd_walk (w : World) (p : Nat) (ev mv : Value) (L l : List Nd) (fr : List Nat) (base : Nat) (vs : Value) (h : TbM w p ev mv L) (hT : SpanCells w) (ho : OwnN w base vs l) (hb : begL l = some fr) (hn6 : ∀ x ∈ l, N6 x.n ∧ x.name.size ≤ 281474976710656)
    (r : Nat) (er : Int) (L' : List Nd) (hres : (∃ ids, addR (L, []) l = some (L', ids) ∧ r = ids.getD (l.length - 1) 0 ∧ er = 0) ∨ (addR (L, []) l = none ∧ r = 0 ∧ er = 10 ∧ L' = L))
    (hcut : addR (L, []) l = none → ∀ W ev1 mv1 L1, TbT w p ev mv ev1 mv1 L1 W → (∃ M, L1 = L ++ M) → 0 < L1.length → Calls Tryd.prog 61 #[.pointer (some ⟨p, 0, none⟩), .int .i64 L.length] W fun e w' => e = .returned (.tuple #[]) ∧ ∃ ev' mv', TbT w p ev mv ev' mv' L w') :
    Calls Tryd.prog 29 #[.pointer (some ⟨p, 0, none⟩), vs] w fun e w' => e = .returned (.tuple #[.int .i64 (r : Nat), .int .i64 er]) ∧ ∃ ev' mv', TbT w p ev mv ev' mv' L' w' := by
  obtain ⟨i0, hi, hz0, hz1, hz2⟩ := info_parts Tryd.info3
  obtain ⟨hl0, hl64, hbr, _⟩ := begL_some hb
  have hok := begOk_of hbr
  have HKL : Sld (KidsLo l) := ⟨kidsLo_ok hok⟩
  have HFM : Sld (∀ j, j < l.length → formB (l.getD j nd0) = true) := ⟨fun j hj => (hok.at_ j hj).1⟩
  have HN6 : Sld (∀ x ∈ l, N6 x.n ∧ x.name.size ≤ 281474976710656) := ⟨hn6⟩
  have HRES : Sld ((∃ ids, addR (L, []) l = some (L', ids) ∧ r = ids.getD (l.length - 1) 0 ∧ er = 0) ∨ (addR (L, []) l = none ∧ r = 0 ∧ er = 10 ∧ L' = L)) := ⟨hres⟩
  have HCUT : Sld (addR (L, []) l = none → ∀ W ev1 mv1 L1, TbT w p ev mv ev1 mv1 L1 W → (∃ M, L1 = L ++ M) → 0 < L1.length → Calls Tryd.prog 61 #[.pointer (some ⟨p, 0, none⟩), .int .i64 L.length] W fun e w' => e = .returned (.tuple #[]) ∧ ∃ ev' mv', TbT w p ev mv ev' mv' L w') := ⟨hcut⟩
  have HM : Sld (TbM w p ev mv L) := ⟨h⟩
  have HI : Sld (TbI L) := ⟨h.inv⟩
  have hC : Sld (Calls Tryd.prog 10 #[vs] w fun e w' => e = .returned (.int .i64 0) ∧ Below w.heap.size w w') := ⟨check_some vs l fr w w.heap.size (Nat.le_refl _) hT (Nodes_of_own ho (Nat.le_refl _)) hb⟩
  obtain ⟨q0, hq01, hq02⟩ := ho
  obtain ⟨sa, sc, hvs⟩ := rw_form hq02.row
  have hql : q0.length = l.length := by rw [← hq01]; simp
  rw [hql] at hvs
  have HO : Sld (OwnN w base vs l) := ⟨⟨q0, hq01, hq02⟩⟩
  have HVS : Sld (vs = .slice sa l.length sc) := ⟨hvs⟩
  have HL0 : Sld (0 < l.length) := ⟨by omega⟩
  have hlI : (l.length : Int) ≤ 64 := by omega
  clear h hT hb hn6 hres hcut hok hbr hq01 hq02 hql
  subst hvs
  go_enter Tryd.func29, Tryd.ntmps29
  go_wp2_with fail
  refine hC.out.mono ?_
  rintro e w1 ⟨rfl, hb1⟩
  have HB1 : Sld (Below w.heap.size w w1) := ⟨hb1⟩
  obtain ⟨ea, ec, hev⟩ := HM.out.form
  have c0 : w1.cell? ⟨p, 0, none⟩ = some (.slice ea L.length ec) := by rw [← hev]; exact (HM.out.below hb1).c0
  obtain ⟨w2, hmk, hown2, hg2⟩ := run_make_full (P := Tryd.prog) w1 w.heap.size 45 3 i0 (.int .i64 0) 1 Tryd.underlying45 hi hz0 hz1 .i64 .i64 l.length (by rw [hz2]; omega) (by unfold maxLen; omega) hb1.size
  rw [made_zerosT] at hown2
  have hO2 : OwnI w2 w.heap.size (.slice (some ⟨w1.heap.size, 0, none⟩) l.length l.length) (List.replicate l.length 0) := by
    unfold OwnI; rw [List.length_replicate]; exact hown2
  have hB2 : Below w.heap.size w w2 := hb1.grown hg2 hb1.size (fun j hj => by cases hj)
  have HA2 : Sld (AdMid w p ev mv L l base (.slice sa l.length sc) w1.heap.size 0 w2 L []) := ⟨⟨rfl, rfl, ⟨ev, mv, TbT.of_below HM.out hB2⟩, (ArgO.of HO.out).below hB2, by simpa using hO2⟩⟩
  clear hb1 hown2 hg2 hO2 hB2 hev
  go_wp2_with fail
  generalize w1.heap.size = G at *
  clear hmk c0 HB1 hC
  go_loopw [30] (fun i wr => ∃ (k : Nat) (Lk : List Nd) (ids : List Nat), k ≤ l.length ∧ i = .int .i64 k ∧ AdMid w p ev mv L l base (.slice sa l.length sc) G k wr Lk ids) (fun i _ => l.length - (RowKit.intOf i).toNat)
  case atStart => exact ⟨0, L, [], by omega, rfl, HA2.out⟩
  case round =>
    obtain ⟨k, Lk, ids, hk, rfl, hmid⟩ := hrel
    have HMID : Sld (AdMid w p ev mv L l base (.slice sa l.length sc) G k wr Lk ids) := ⟨hmid⟩
    clear hmid HA2
    obtain ⟨ev1, mv1, hT1⟩ := HMID.out.tb
    have HT1 : Sld (TbT w p ev mv ev1 mv1 Lk wr) := ⟨hT1⟩
    clear hT1
    by_cases hlt : k < l.length
    · have hltI : (k : Int) < (l.length : Int) := by omega
      obtain ⟨ao', cap', hv, hl1, hm1, hc⟩ := Nodes_of_own HMID.out.arg.own (Nat.le_refl _)
      simp only [Value.slice.injEq, true_and] at hv
      obtain ⟨rfl, rfl⟩ := hv
      obtain ⟨b, o, rfl, hbl, hc⟩ : ∃ b o, sa = some ⟨b, o, none⟩ ∧ b < wr.heap.size ∧ ∀ i, i < l.length → ∃ kv, NodeAt wr wr.heap.size b (o + i * 4) (l.getD i nd0) kv := by
        rcases hc with h | h
        · subst h; simp at hlt
        · exact h
      obtain ⟨kv, hNA⟩ := hc k hlt
      obtain ⟨d0, d1, d2, d3, hki⟩ := hNA
      obtain ⟨ka, kc, hkv, hkl, hkm, hkc⟩ := id hki
      subst hkv
      have hxn := HN6.out (l.getD k nd0) (by simp [hlt])
      have hfm := HFM.out k hlt
      have hk3 := formB_kids hfm
      obtain ⟨hIk, ⟨M, hM, _⟩, hFk⟩ := addR_ok HKL.out HFM.out HI.out k hk Lk ids HMID.out.run
      have hkids := adN_kids HKL.out hlt hFk
      have hkl2 := HKL.out k hlt
      have HNX : Sld (∀ {wk w' : World} {ev'' mv'' : Value} {L2 : List Nd} {i : Nat}, Below wr.heap.size wr wk → TbT wk p ev1 mv1 ev'' mv'' L2 w' → stA (Lk, ids) (l.getD k nd0) = some (L2, ids ++ [i]) → AdMid w p ev mv L l base (.slice (some ⟨b, o, none⟩) l.length sc) G (k + 1) (w'.setCell ⟨G, k, none⟩ (.int .i64 (i : Nat))) L2 (ids ++ [i])) := ⟨fun h1 h2 h3 => HMID.out.next hlt HT1.out h1 h2 h3⟩
      have HST := stA_putS Lk ids (l.getD k nd0)
      have CP : Sld (∀ W, Below wr.heap.size wr W → Calls Tryd.prog 60 #[.pointer (some ⟨p, 0, none⟩), shV (adN ids (l.getD k nd0))] W fun e w' => e = .returned (.tuple #[.int .i64 ((putS Lk (adN ids (l.getD k nd0))).1 : Nat), .int .i64 (putS Lk (adN ids (l.getD k nd0))).2.1]) ∧ ∃ ev' mv', TbT W p ev1 mv1 ev' mv' (putS Lk (adN ids (l.getD k nd0))).2.2 w') := ⟨fun W hW => tput_any W p ev1 mv1 Lk _ (HT1.out.tb.below hW) (adN_ndk (l := l) (j := k) hIk hfm hxn.1 hxn.2 hkids) hkids hxn.2⟩
      have HER := putS_err Lk (adN ids (l.getD k nd0))
      have HNONE : Sld (stA (Lk, ids) (l.getD k nd0) = none → addR (L, []) l = none) := ⟨fun hs => addR_none _ _ (j := k + 1) (by rw [addR_snoc _ _ hlt, HMID.out.run]; exact hs)⟩
      have HSV : shV (adN ids (l.getD k nd0)) = .agg (mixC (l.getD k nd0).op (l.getD k nd0).n (l.getD k nd0).name ids (l.getD k nd0).kids (l.getD k nd0).kids.length) := by
        unfold shV mixC
        rw [mixK_end, mixK_end, mixK_end]
        rfl
      rw [HSV] at CP
      have HIC : Sld (∀ j, j < k → wr.cell? ⟨G, j, none⟩ = some (.int .i64 ((ids.getD j 0 : Nat) : Int))) := ⟨fun j hj => by
        have := HMID.out.row.cellT (adm_len HMID.out.len (by omega)) (i := j) (by omega)
        rw [adm_ids HMID.out.len hj] at this
        exact this⟩
      have hGl : G < wr.heap.size := (rw_block HMID.out.row (b := G) rfl).2.1
      obtain ⟨E2, hE2⟩ : ∃ E2, (putS Lk (adN ids (l.getD k nd0))).2.1 = E2 := ⟨_, rfl⟩
      obtain ⟨R2, hR2⟩ : ∃ R2, (putS Lk (adN ids (l.getD k nd0))).1 = R2 := ⟨_, rfl⟩
      obtain ⟨L2, hL2⟩ : ∃ L2, (putS Lk (adN ids (l.getD k nd0))).2.2 = L2 := ⟨_, rfl⟩
      rw [hE2, hR2, hL2] at CP HST
      rw [hE2, hL2] at HER
      have HST' : Sld (stA (Lk, ids) (l.getD k nd0) = if E2 = 0 then some (L2, ids ++ [R2]) else none) := ⟨HST⟩
      have HER' : Sld (E2 = 0 ∨ E2 = 10 ∧ L2 = Lk ∧ 1048576 ≤ Lk.length) := ⟨HER⟩
      have HLM : Sld (∃ M, Lk = L ++ M) := ⟨⟨M, hM⟩⟩
      have HGC : Sld (∀ {wk w' : World} {ev'' mv'' : Value} {L2 : List Nd}, Below wr.heap.size wr wk → TbT wk p ev1 mv1 ev'' mv'' L2 w' → ∃ u, w'.cell? ⟨G, k, none⟩ = some u ∧ w'.frozen? ⟨G, k, none⟩ = false) := ⟨fun h1 h2 => by
        have h3 := (HMID.out.row.below h1).tb (HT1.out.tb.below h1) h2.tk
        exact ⟨_, h3.cellT (adm_len HMID.out.len (by omega)) hlt, h3.frT (adm_len HMID.out.len (by omega)) k⟩⟩
      clear HST HER hE2 hR2 hL2 HSV hFk hIk hc hkids hxn hM
      generalize l.getD k nd0 = x at *
      obtain ⟨op, n, nm, ks⟩ := x
      simp only at d0 d1 d2 d3 hki hkl hkm hkc hk3 hkl2 CP
      have HKI : Sld (Ints wr wr.heap.size (.slice ka ks.length kc) ks) := ⟨hki⟩
      have HK2 : Sld (∀ q ∈ ks, 0 ≤ q ∧ q < (k : Int)) := ⟨hkl2⟩
      have hkm1 := hkm.1
      unfold maxLen at hkm1
      obtain ⟨wa, hwa⟩ : ∃ wa, wr.alloc (.cells #[.int .i64 op, .int .i64 n, .string nm, .slice ka ks.length kc] 47) = wa := ⟨_, rfl⟩
      have HBa : Sld (Below wr.heap.size wr wa) := ⟨by rw [← hwa]; exact (Below.refl _ _).alloc (Nat.le_refl _) _⟩
      have hba : wa.heap[wr.heap.size]? = some (.cells #[.int .i64 op, .int .i64 n, .string nm, .slice ka ks.length kc] 47 (0, 0)) := by rw [← hwa, Deep.blk_alloc_new]
      have HBA : Sld (wa.heap[wr.heap.size]? = some (.cells #[.int .i64 op, .int .i64 n, .string nm, .slice ka ks.length kc] 47 (0, 0))) := ⟨hba⟩
      obtain ⟨a0, a1, a2, a3, _⟩ := blk4 hba
      have CSh : Sld (Calls Tryd.prog 59 #[.agg #[.int .i64 op, .int .i64 n, .string nm, .slice ka ks.length kc]] wa fun e w' => e = .returned (.agg (mixC op n nm ids ks 0)) ∧ Below wa.heap.size wa w') := ⟨by
        have := shaped_any op n nm ks ka kc wa (HKI.out.below HBa.out HBa.out.size) hk3
        unfold mixC
        rw [mixK_zero, mixK_zero, mixK_zero]
        exact this⟩
      have HWA : Hid (wr.alloc (.cells #[.int .i64 op, .int .i64 n, .string nm, .slice ka ks.length kc] 47) = wa) := hwa
      have hasz : wr.heap.size < wa.heap.size := lt_of_block hba
      clear hwa hba hki hkc hkm hkl2
      go_wp2_with fail
      rw [HWA.out]
      go_wp2_with fail
      refine CSh.out.mono ?_
      rintro e wb ⟨rfl, hbb⟩
      have HBb : Sld (Below wr.heap.size wr wb) := ⟨HBa.out.trans (hbb.mono HBa.out.size)⟩
      have hnb : wb.heap[wr.heap.size]? = some (.cells #[.int .i64 op, .int .i64 n, .string nm, .slice ka ks.length kc] 47 (0, 0)) := (hbb.block _ hasz).trans HBA.out
      have HNB : Sld (wb.heap[wr.heap.size]? = some (.cells #[.int .i64 op, .int .i64 n, .string nm, .slice ka ks.length kc] 47 (0, 0))) := ⟨hnb⟩
      have hbsz : wr.heap.size < wb.heap.size := lt_of_block hnb
      obtain ⟨wc, hwc⟩ : ∃ wc, wb.alloc (.cells (mixC op n nm ids ks 0) 89) = wc := ⟨_, rfl⟩
      have HM0 : Sld (MixM wb wb.heap.size op n nm ids ks 0 wc) := ⟨⟨by rw [← hwc, Deep.blk_alloc_new], by rw [← hwc]; exact (Below.refl _ _).alloc (Nat.le_refl _) _⟩⟩
      have hnc : wc.cell? ⟨wr.heap.size, 3, none⟩ = some (.slice ka ks.length kc) := (HM0.out.bel.cell (p := ⟨wr.heap.size, 3, none⟩) hbsz).trans (blk4 hnb).2.2.2.1
      clear hbb hnb a0 a1 a2 a3
      unfold mixC at hwc ⊢
      go_wp2_with fail
      clear hwc
      obtain ⟨wo, hwo⟩ : ∃ wo, wo = wr := ⟨_, rfl⟩
      subst hwo
      go_loopw [40] (fun i wk => ∃ j : Nat, j ≤ ks.length ∧ i = .int .i64 j ∧ MixM wb wb.heap.size op n nm ids ks j wk) (fun i _ => ks.length - (RowKit.intOf i).toNat)
      case atStart => exact ⟨0, by omega, rfl, HM0.out⟩
      case round =>
        obtain ⟨j, hj, rfl, hmx⟩ := hrel
        have HMX : Sld (MixM wb wb.heap.size op n nm ids ks j wr) := ⟨hmx⟩
        have hB5 : Below wo.heap.size wo wr := HBb.out.trans (hmx.bel.mono (by omega))
        have HB5 : Sld (Below wo.heap.size wo wr) := ⟨hB5⟩
        by_cases hjl : j < ks.length
        · have hjlI : (j : Int) < (ks.length : Int) := by omega
          have hj3 : (j : Int) < 3 := by omega
          obtain ⟨ao', cap', hv, _, _, hc⟩ := HKI.out
          simp only [Value.slice.injEq, true_and] at hv
          obtain ⟨rfl, rfl⟩ := hv
          obtain ⟨kb, ko, rfl, hkb, hc⟩ : ∃ b o, ka = some ⟨b, o, none⟩ ∧ b < wo.heap.size ∧ ∀ j, j < ks.length → wo.cell? ⟨b, o + j, none⟩ = some (.int .i64 (ks.getD j 0)) := by
            rcases hc with h | h
            · subst h; simp at hjl
            · exact h
          have kc1 := (hB5.cell (p := ⟨kb, ko + j, none⟩) hkb).trans (hc j hjl)
          obtain ⟨hq1, hq2⟩ := HK2.out (ks.getD j 0) (by simp [hjl])
          obtain ⟨sc1, sf1⟩ := hmx.cell (by omega)
          have hstep := hmx.step (by omega)
          obtain ⟨q, hq⟩ : ∃ q : Nat, ks.getD j 0 = q := ⟨(ks.getD j 0).toNat, by omega⟩
          have kc2 := (hB5.cell (p := ⟨G, q, none⟩) hGl).trans (HIC.out q (by omega))
          rw [hq] at kc1 sc1 hq2 hstep
          simp only [Int.toNat_natCast] at hstep
          have HSTEP : Sld (MixM wb wb.heap.size op n nm ids ks (j + 1) (wr.setCell ⟨wb.heap.size, 3 + j, none⟩ (.int .i64 ((ids.getD q 0 : Nat) : Int)))) := ⟨hstep⟩
          have hqI : (q : Int) < (l.length : Int) := by omega
          clear hc hmx hB5 hstep hq hq1
          generalize ids.getD q 0 = z at *
          go_wp2_with fail
          exact ⟨⟨j + 1, by omega, by go_num, HSTEP.out⟩, by simp [RowKit.intOf]; omega⟩
        · have hje : j = ks.length := by omega
          subst hje
          have CP5 := CP.out wr hB5
          have hbk := hmx.blk
          unfold mixC at CP5 hbk
          generalize mixK ids ks ks.length 0 = m0 at *
          generalize mixK ids ks ks.length 1 = m1 at *
          generalize mixK ids ks ks.length 2 = m2 at *
          obtain ⟨g0, g1, g2, g3, g4, g5, _⟩ := blk6 hbk
          have HCP5 : Sld (Calls Tryd.prog 60 #[.pointer (some ⟨p, 0, none⟩), .agg #[.int .i64 op, .int .i64 n, .string nm, .int .i64 m0, .int .i64 m1, .int .i64 m2]] wr fun e w' => e = .returned (.tuple #[.int .i64 (R2 : Nat), .int .i64 E2]) ∧ ∃ ev' mv', TbT wr p ev1 mv1 ev' mv' L2 w') := ⟨CP5⟩
          clear hmx hB5 CP5 hbk CP HMX
          go_wp2_with fail
          refine HCP5.out.mono ?_
          rintro e w6 ⟨rfl, ev6, mv6, hT6⟩
          have HT6 : Sld (TbT wr p ev1 mv1 ev6 mv6 L2 w6) := ⟨hT6⟩
          clear hT6
          rcases HER'.out with hE | ⟨hE, hLL, hfull⟩
          · have hst := HST'.out
            rw [if_pos hE] at hst
            have HNX2 := HNX.out HB5.out HT6.out hst
            have HN2 : Sld (AdMid w p ev mv L l base (.slice (some ⟨b, o, none⟩) l.length sc) G (k + 1) (w6.setCell ⟨G, k, none⟩ (.int .i64 (R2 : Nat))) L2 (ids ++ [R2])) := ⟨HNX2⟩
            obtain ⟨u6, hu6, hf6⟩ := HGC.out HB5.out HT6.out
            subst hE
            clear hst HNX2 g0 g1 g2 g3 g4 g5
            go_wp2_with fail
            exact ⟨⟨k + 1, L2, ids ++ [R2], by omega, by go_num, HN2.out⟩, by simp [RowKit.intOf]; omega⟩
          · have hst := HST'.out
            rw [if_neg (by omega)] at hst
            have hnone := HNONE.out hst
            have hT7 : TbT w p ev mv ev6 mv6 Lk w6 := by
              have := (HT1.out.trans (TbT.of_below HT1.out.tb HB5.out)).trans HT6.out
              rw [hLL] at this
              exact this
            have hcc := HCUT.out hnone w6 ev6 mv6 Lk hT7 HLM.out (by omega)
            have HCC : Sld (Calls Tryd.prog 61 #[.pointer (some ⟨p, 0, none⟩), .int .i64 L.length] w6 fun e w' => e = .returned (.tuple #[]) ∧ ∃ ev' mv', TbT w p ev mv ev' mv' L w') := ⟨hcc⟩
            have HEND : Sld (r = 0 ∧ er = 10 ∧ L' = L) := ⟨by
              rcases HRES.out with ⟨ids', h1, _⟩ | ⟨_, h2⟩
              · rw [hnone] at h1; cases h1
              · exact h2⟩
            subst hE
            clear hst hnone hT7 hcc g0 g1 g2 g3 g4 g5 hfull
            go_wp2_with fail
            refine HCC.out.mono ?_
            rintro e w7 ⟨rfl, hT7⟩
            have HT7 : Sld (∃ ev' mv', TbT w p ev mv ev' mv' L w7) := ⟨hT7⟩
            clear hT7
            go_wp2_with fail
            go_ret2
            exact ⟨by rw [HEND.out.1, HEND.out.2.1]; rfl, by rw [HEND.out.2.2]; exact HT7.out⟩
    · have hke : k = l.length := by omega
      subst hke
      have hrun := HMID.out.run
      rw [List.take_length] at hrun
      obtain ⟨hr1, her1, hL1⟩ : r = ids.getD (l.length - 1) 0 ∧ er = 0 ∧ L' = Lk := by
        rcases HRES.out with ⟨ids', h1, h2, h3⟩ | ⟨h1, _⟩
        · rw [hrun] at h1
          simp only [Option.some.injEq, Prod.mk.injEq] at h1
          obtain ⟨rfl, rfl⟩ := h1
          exact ⟨h2, h3, rfl⟩
        · rw [hrun] at h1; cases h1
      have hl0' := HL0.out
      have kc2 := HMID.out.row.cellT (adm_len HMID.out.len (by omega)) (i := l.length - 1) (by omega)
      rw [adm_ids HMID.out.len (by omega)] at kc2
      have HEND : Sld (r = ids.getD (l.length - 1) 0 ∧ er = 0 ∧ L' = Lk) := ⟨hr1, her1, hL1⟩
      have hGl : G < wr.heap.size := (rw_block HMID.out.row (b := G) rfl).2.1
      obtain ⟨N1, hN1⟩ : ∃ N1 : Nat, l.length = N1 + 1 := ⟨l.length - 1, by omega⟩
      have e1 : l.length - 1 = N1 := by omega
      rw [e1] at kc2 HEND
      have HN1 : Sld (l.length = N1 + 1) := ⟨hN1⟩
      rw [hN1] at hlI ⊢
      generalize ids.getD N1 0 = z at *
      clear hrun hr1 her1 hL1 e1
      go_wp2_with fail
      go_ret2
      exact ⟨by rw [HEND.out.1, HEND.out.2.1]; rfl, ev1, mv1, by rw [HEND.out.2.2]; exact HT1.out⟩

theorem tAdd_ok (w : World) (p : Nat) (ev mv : Value) (L l : List Nd) (fr : List Nat) (base : Nat) (vs : Value) (h : TbM w p ev mv L) (hT : SpanCells w) (ho : OwnN w base vs l) (hb : begL l = some fr) (hn6 : ∀ x ∈ l, N6 x.n ∧ x.name.size ≤ 281474976710656) (L' : List Nd) (ids : List Nat) (hr : addR (L, []) l = some (L', ids)) :
    Calls Tryd.prog 29 #[.pointer (some ⟨p, 0, none⟩), vs] w fun e w' => e = .returned (.tuple #[.int .i64 (ids.getD (l.length - 1) 0 : Nat), .int .i64 0]) ∧ ∃ ev' mv', TbT w p ev mv ev' mv' L' w' :=
  tAdd_walk w p ev mv L l fr base vs h hT ho hb hn6 _ 0 L' (.inl ⟨ids, hr, rfl, rfl⟩) (fun h0 => by rw [hr] at h0; cases h0)
set_option maxRecDepth 20000 in
set_option maxHeartbeats 4000000 in
theorem tAdd_bad (w : World) (p : Nat) (l : List Nd) (vs : Value) (hT : SpanCells w) (hN : Nodes w w.heap.size vs l) (hb : begL l = none) :
    Calls Tryd.prog 29 #[.pointer (some ⟨p, 0, none⟩), vs] w fun e w' => e = .returned (.tuple #[.int .i64 0, .int .i64 1]) ∧ Below w.heap.size w w' := by
  have hC : Sld (Calls Tryd.prog 10 #[vs] w fun e w' => e = .returned (.int .i64 1) ∧ Below w.heap.size w w') := ⟨check_none vs l w w.heap.size (Nat.le_refl _) hT hN hb⟩
  clear hN
  go_enter Tryd.func29, Tryd.ntmps29
  go_wp2_with fail
  refine hC.out.mono ?_
  rintro e w1 ⟨rfl, hb1⟩
  have HB1 : Sld (Below w.heap.size w w1) := ⟨hb1⟩
  clear hb1
  go_wp2_with fail
  go_ret2
  exact ⟨rfl, HB1.out⟩
end Go.Proofs.YtjidockolacghaaDoor
