/-
  ForestGroups, walked.
-/
import Derived.Test.YtfnbkffphpidbaaFoGP
set_option linter.unusedSimpArgs false
set_option linter.unusedVariables false
namespace Go.Proofs.Ytfnbkffphpidbaa
open Go.RowKit Go.Lib

theorem OwnZ.row {w : World} {base : Nat} {v : Value} {l : List Nat} (h : OwnZ w base v l) (hn : 0 < l.length) : ∃ g cap, v = .slice (some ⟨g, 0, none⟩) l.length cap ∧ base ≤ g ∧ g < w.heap.size ∧ l.length ≤ cap ∧ cap ≤ maxLen ∧ ∀ i, i < l.length → w.cell? ⟨g, i, none⟩ = some (.int .i64 (l.getD i 0)) := by
  obtain ⟨g, cap, rfl, hb, hg⟩ := rw_some h hn
  refine ⟨g, cap, rfl, hb, hg, ?_⟩
  rcases h.2 with ⟨h0, _⟩ | ⟨g', cap', cur, hv, _, hbk, hcn, hcm, _⟩
  · cases h0
  · cases hv
    refine ⟨hcn, hcm, fun i hi => ?_⟩
    obtain ⟨u, h1, h2⟩ := rw_cell h (i := i) (by rw [Nat.mul_one]; exact hi)
    rw [h1, ← h2, List.getElem?_map, getElem_getD0 hi]
    rfl
theorem OwnZ.form {w : World} {base : Nat} {v : Value} {l : List Nat} (h : OwnZ w base v l) : ∃ ao cap, v = .slice ao l.length cap := rw_form h
theorem mem_take_succ {l : List Nat} {k i : Nat} (hk : k < l.length) : (i ∈ l.take (k + 1)) ↔ (i ∈ l.take k ∨ l.getD k 0 = i) := by
  rw [take_snoc0 hk, List.mem_append]
  simp [eq_comm]

set_option maxRecDepth 20000 in
set_option maxHeartbeats 8000000 in
theorem forestGroups_walk (ao : Option Addr) (cap : Nat) (l : List Cl9) (a b : Int) (w : World) (hS : Scr w ao cap l) (hbig : l.length * 32 ≤ 140737488351232) :
    Calls Try.prog 5 #[.slice ao l.length cap, .int .i64 a, .int .i64 b] w fun e w' => e = .returned (.bool true) ∧ Below w.heap.size w w' := by
  have cG : Hid (Calls Try.prog 12 #[.slice ao l.length cap] w fun e w' => e = .returned (.pointer (some ⟨w.heap.size, 0, none⟩)) ∧ FoX w' w.heap.size ∧ Below w.heap.size w w') := grown_any ao cap l w hS
  clear hS
  go_enter Try.func5, Try.ntmps5
  go_wp2_with fail
  refine cG.out.mono ?_
  rintro e w1 ⟨rfl, ⟨v, J, V, m, hF1⟩, hB1⟩
  go_wp2_with fail
  refine (awake9_any w1).mono ?_
  rintro e w2 ⟨rfl, hb2⟩
  have HF2 : Hid (Fo w2 w.heap.size v J V m) := hF1.below hb2
  have HB2 : Hid (Below w.heap.size w w2) := hB1.trans (hb2.mono hB1.size)
  have hle := hF1.fo.le
  clear hF1 hB1 hb2 cG
  obtain ⟨p, hp⟩ : ∃ p, w.heap.size = p := ⟨_, rfl⟩
  have HP : Hid (w.heap.size = p) := hp
  rw [hp] at HF2 HB2 ⊢
  clear hp
  obtain ⟨n, hn⟩ : ∃ n, m.length = n := ⟨_, rfl⟩
  have HN : Hid (m.length = n) := hn
  have cL : Hid (∀ W, Below w2.heap.size w2 W → Calls Try.prog 11 #[.pointer (some ⟨p, 0, none⟩)] W fun e w' => e = .returned (.int .i64 (n : Int)) ∧ w' = W) := fun W hW => by rw [← hn]; exact flen_any W p v m (HF2.out.below hW).fo
  rw [hn] at hle
  clear hn
  go_wp2_with fail
  go_loopw [8, 9] (fun c i wr => ∃ k : Nat, k ≤ n ∧ c = .int .i64 (cntL m k) ∧ i = .int .i64 k ∧ Below w2.heap.size w2 wr) (fun _ i _ => n - (RowKit.intOf i).toNat)
  case atStart => exact ⟨0, by omega, by rw [cntL_zero]; rfl, rfl, Below.refl _ _⟩
  case round =>
    obtain ⟨i, hi, rfl, rfl, hBr⟩ := hrel
    have HBr : Hid (Below w2.heap.size w2 wr) := hBr
    clear hBr
    go_wp2_with fail
    refine (cL.out _ HBr.out).mono ?_
    rintro e w' ⟨rfl, hw⟩
    obtain rfl := hw.symm
    by_cases hlt : i < n
    · have him : i < m.length := by rw [HN.out]; exact hlt
      have hltI : (i : Int) < (n : Int) := by omega
      have cGr : Hid (Calls Try.prog 15 #[.pointer (some ⟨p, 0, none⟩), .int .i64 i] wr fun e w' => ∃ v', e = .returned (.tuple #[v', .int .i64 0]) ∧ OwnZ w' wr.heap.size v' (grpL m i) ∧ Below wr.heap.size wr w') := fgroup_ok wr p v J V m i (HF2.out.below HBr.out).fo HF2.out.inv him
      go_wp2_with fail
      refine cGr.out.mono ?_
      rintro e w3 ⟨v3, rfl, hO3, hB3⟩
      obtain ⟨hg0, hg1⟩ := HF2.out.inv.first him
      obtain ⟨g, cg, rfl, hgb, hgl, hcn, hcm, hcells⟩ := hO3.row hg0
      have HB3 : Hid (Below w2.heap.size w2 w3) := HBr.out.trans (hB3.mono HBr.out.size)
      have cLs : Hid (Calls Try.prog 16 #[.pointer (some ⟨p, 0, none⟩), .int .i64 i] w3 fun e w' => e = .returned (.tuple #[.int .i64 (mA m (mA m i).rt).ls, .int .i64 0]) ∧ ∃ n, w' = w3.drewN n) := fleast_ok w3 p v m i (HF2.out.below HB3.out).fo him (HF2.out.inv.rt i him).1
      unfold maxLen at hcm
      have hGle := grpL_le m i
      rw [HN.out] at hGle
      have HMEM : Hid (∀ k, k < (grpL m i).length → (grpL m i).getD k 0 < m.length ∧ (mA m ((grpL m i).getD k 0)).rt = (mA m i).rt) := fun k hk => mem_grpL.1 (getD_mem0 hk)
      have HPW : Hid (∀ k, 0 < k → k < (grpL m i).length → (grpL m i).getD (k - 1) 0 < (grpL m i).getD k 0) := fun k h0 hk => by
        have := List.pairwise_iff_getElem.1 (grpL_pw m i) (k - 1) k (by omega) hk (by omega)
        rw [List.getD_eq_getElem?_getD, List.getD_eq_getElem?_getD, List.getElem?_eq_getElem (by omega), List.getElem?_eq_getElem hk]
        exact this
      have HOWN : Hid (i ∈ grpL m i) := mem_grpL.2 ⟨him, rfl⟩
      have HCS : Hid (cntL m (i + 1) = if (mA m (mA m i).rt).ls = i then cntL m i + (grpL m i).length else cntL m i) := HF2.out.inv.cnt_succ him
      have hcl := cntL_le m (i + 1)
      rw [HN.out] at hcl
      have hli := (HF2.out.inv.least i him).1
      obtain ⟨lst, hlst⟩ : ∃ lst, (mA m (mA m i).rt).ls = lst := ⟨_, rfl⟩
      rw [hlst] at hg1 cLs HCS hli
      obtain ⟨G, hG⟩ : ∃ G, grpL m i = G := ⟨_, rfl⟩
      rw [hG] at hg0 hg1 hcn hcells hGle HMEM HPW HOWN HCS ⊢
      have HCL : Hid (∀ j, j < G.length → w3.cell? ⟨g, j, none⟩ = some (.int .i64 (G.getD j 0))) := hcells
      have hc0 := hcells 0 hg0
      rw [hg1] at hc0
      have HSM : Hid (∀ W (j : Nat), Below w2.heap.size w2 W → j < G.length → Calls Try.prog 14 #[.pointer (some ⟨p, 0, none⟩), .int .i64 ((G.getD j 0 : Nat) : Int), .int .i64 i] W fun e w' => e = .returned (.tuple #[.bool true, .int .i64 0]) ∧ w' = W) := fun W j hW hj => by
        have := fsame_ok W p v m (G.getD j 0) i (HF2.out.below hW).fo (HMEM.out j hj).1 him
        rw [decide_eq_true (HMEM.out j hj).2] at this
        exact this
      have hne0 : ((G.length : Int) == 0) = false := by simp only [beq_eq_false_iff_ne]; omega
      have hgI : ¬ ((lst : Int) > (i : Int)) := by omega
      have hgN : ¬ (i < lst) := by omega
      have hgD : decide (i < lst) = false := decide_eq_false hgN
      have h0I : (0 : Int) < (G.length : Int) := by omega
      clear hO3 hB3 hcells hg1 cGr hG hlst
      go_wp2_with fail
      refine cLs.out.mono ?_
      rintro e w' ⟨rfl, q, rfl⟩
      have HB4 : Hid (Below w2.heap.size w2 (w3.drewN q)) := HB3.out.trans ((below_drew w3 q).mono HB3.out.size)
      have hc0' : (w3.drewN q).cell? ⟨g, 0, none⟩ = some (.int .i64 lst) := hc0
      have HCL4 : Hid (∀ j, j < G.length → (w3.drewN q).cell? ⟨g, j, none⟩ = some (.int .i64 (G.getD j 0))) := HCL.out
      generalize w3.drewN q = w4 at *
      clear hc0 HCL cLs
      go_wp2_with fail
      go_loopw [14, 15] (fun o j wk => ∃ k : Nat, k ≤ G.length ∧ o = .bool (decide (i ∈ G.take k)) ∧ j = .int .i64 k ∧ ∃ q, wk = w4.drewN q) (fun _ j _ => G.length - (RowKit.intOf j).toNat)
      case atStart => exact ⟨0, by omega, by simp, rfl, 0, rfl⟩
      case round =>
        obtain ⟨k, hk, rfl, rfl, q, hwq⟩ := hrel
        subst hwq
        have HBk : Hid (Below w2.heap.size w2 (w4.drewN q)) := HB4.out.trans ((below_drew w4 q).mono HB4.out.size)
        by_cases hkl : k < G.length
        · have hkI : (k : Int) < (G.length : Int) := by omega
          have ck : ∀ r, (w4.drewN r).cell? ⟨g, k, none⟩ = some (.int .i64 (G.getD k 0)) := fun r => HCL4.out k hkl
          have HT : Hid (decide (i ∈ G.take (k + 1)) = (decide (i ∈ G.take k) || ((G.getD k 0 : Nat) : Int) == (i : Int))) := by
            rw [Hid]
            by_cases h1 : i ∈ G.take k
            · simp [mem_take_succ hkl, h1]
            · by_cases h2 : G.getD k 0 = i
              · simp only [mem_take_succ hkl, h1, h2]; simp
              · have h3 : ((((G.getD k 0 : Nat) : Int)) == (i : Int)) = false := by simp only [beq_eq_false_iff_ne]; omega
                rw [h3]; simp only [mem_take_succ hkl, h1, h2]; simp
          have hsm := HSM.out (w4.drewN q) k HBk.out hkl
          have HPWk : Hid (0 < k → G.getD (k - 1) 0 < G.getD k 0) := fun h0 => HPW.out k h0 hkl
          have ckm : 0 < k → ∀ r, (w4.drewN r).cell? ⟨g, k - 1, none⟩ = some (.int .i64 (G.getD (k - 1) 0)) := fun h0 r => HCL4.out (k - 1) (by omega)
          obtain ⟨x, hx⟩ : ∃ x, G.getD k 0 = x := ⟨_, rfl⟩
          obtain ⟨y, hy⟩ : ∃ y, G.getD (k - 1) 0 = y := ⟨_, rfl⟩
          rw [hx] at ck HT hsm HPWk
          rw [hy] at HPWk ckm
          have HSk : Hid (Calls Try.prog 14 #[.pointer (some ⟨p, 0, none⟩), .int .i64 (x : Int), .int .i64 i] (w4.drewN q) fun e w' => e = .returned (.tuple #[.bool true, .int .i64 0]) ∧ w' = w4.drewN q) := hsm
          have ckq := ck q
          obtain ⟨ob, hob⟩ : ∃ ob, decide (i ∈ G.take k) = ob := ⟨_, rfl⟩
          rw [hob] at HT ⊢
          clear hsm hx hy hob
          by_cases hk0 : 0 < k
          · have hk0I : (k : Int) > 0 := by omega
            have hxy := HPWk.out hk0
            have hxyI : ¬ ((x : Int) ≤ (y : Int)) := by omega
            have hkm1 : ((k : Int) - 1).toNat = k - 1 := by omega
            have hkmI : (0 : Int) ≤ (k : Int) - 1 ∧ (k : Int) - 1 < (G.length : Int) := by omega
            have ckm' := ckm hk0
            cases ob
            all_goals
              go_wp2_with fail
              refine HSk.out.mono ?_
              rintro e w' ⟨rfl, hw⟩
              obtain rfl := hw.symm
              go_wp2_with fail
              go_quiet (fail)
              go_wp2_with fail
              exact ⟨⟨k + 1, by omega, by rw [HT.out]; rfl, by go_num, _, rfl⟩, by simp [RowKit.intOf]; omega⟩
          · have hk0' : k = 0 := by omega
            subst hk0'
            cases ob
            all_goals
              go_wp2_with fail
              refine HSk.out.mono ?_
              rintro e w' ⟨rfl, hw⟩
              obtain rfl := hw.symm
              go_wp2_with fail
              go_quiet (fail)
              go_wp2_with fail
              exact ⟨⟨0 + 1, by omega, by rw [HT.out]; rfl, by go_num, _, rfl⟩, by simp [RowKit.intOf]; omega⟩
        · have hke : k = G.length := by omega
          subst hke
          rw [List.take_length, decide_eq_true HOWN.out]
          by_cases hli2 : lst = i
          · have hliI : ((lst : Int) == (i : Int)) = true := by simp [hli2]
            have hcs := HCS.out
            rw [if_pos hli2] at hcs
            have HCS2 : Hid (cntL m (i + 1) = cntL m i + G.length) := hcs
            have hadd : cntL m i + G.length ≤ 1048576 := by omega
            clear hcs hcl
            go_wp2_with fail
            exact ⟨⟨i + 1, by omega, by rw [HCS2.out]; go_num, by go_num, HBk.out⟩, by simp [RowKit.intOf]; omega⟩
          · have hliI : ((lst : Int) == (i : Int)) = false := by simp only [beq_eq_false_iff_ne]; omega
            have hcs := HCS.out
            rw [if_neg hli2] at hcs
            have HCS2 : Hid (cntL m (i + 1) = cntL m i) := hcs
            clear hcs hcl
            go_wp2_with fail
            exact ⟨⟨i + 1, by omega, by rw [HCS2.out], by go_num, HBk.out⟩, by simp [RowKit.intOf]; omega⟩
    · have hin : i = n := by omega
      subst hin
      have hall : cntL m i = i := by have := HF2.out.inv.cnt_all; rw [HN.out] at this; exact this
      rw [hall]
      clear hall
      have HFr : Hid (Fo wr p v J V m) := HF2.out.below HBr.out
      go_wp2_with fail
      refine (cL.out _ HBr.out).mono ?_
      rintro e w' ⟨rfl, hw⟩
      obtain rfl := hw.symm
      go_wp2_with fail
      refine (fogroup HFr.out a).mono ?_
      rintro e w5 ⟨u5, rfl, hO5, hB5⟩
      obtain ⟨a5, c5, rfl⟩ := hO5.form
      have HF5 : Hid (Fo w5 p v J V m) := HFr.out.below hB5
      have HB5 : Hid (Below w2.heap.size w2 w5) := HBr.out.trans (hB5.mono HBr.out.size)
      clear hO5 hB5
      go_wp2_with fail
      refine (fogroup HF5.out b).mono ?_
      rintro e w6 ⟨u6', rfl, hO6, hB6⟩
      obtain ⟨a6, c6, rfl⟩ := hO6.form
      have HF6 : Hid (Fo w6 p v J V m) := HF5.out.below hB6
      have HB6 : Hid (Below w2.heap.size w2 w6) := HB5.out.trans (hB6.mono HB5.out.size)
      clear hO6 hB6
      go_wp2_with fail
      refine (fosame HF6.out a b).mono ?_
      rintro e w' ⟨rfl, hw⟩
      obtain rfl := hw.symm
      go_wp2_with fail
      refine (fojoin HF6.out a b (u := .nilIface) (.inl rfl)).mono ?_
      rintro e w7 ⟨rfl, m7, hT7, hl7, hF7, hs7⟩
      have HB7 : Hid (Below p w w7) := (HB2.out.trans (HB6.out.mono (by have := HB2.out.size; have := HP.out; omega))).trans hT7.below
      have HJL : Hid (∀ x y : Nat, a = x → b = y → x < m.length → y < m.length → (mA m x).rt ≠ (mA m y).rt → (grpL m7 x).length = (grpL m x).length + (grpL m y).length) := fun x y hx hy h1 h2 h3 => by
        have ej : joinB m a b = true := by subst hx; subst hy; unfold joinB; rw [hasB_nat.2 h1, hasB_nat.2 h2]; simp [h3]
        rw [ej] at hF7
        simp only [if_true] at hF7
        subst hx; subst hy
        exact HF6.out.inv.joinLen hF7.inv hl7 h1 h2 h3
      have HL7 : Hid (m7.length = m.length) := hl7
      have HS7 : Hid (joinB m a b = false → m7 = m) := hs7
      clear hT7 hs7 hl7
      go_wp2_with fail
      refine (fogroup hF7 a).mono ?_
      rintro e w8 ⟨u8, rfl, hO8, hB8⟩
      obtain ⟨a8, c8, rfl⟩ := hO8.form
      have HB8 : Hid (Below p w w8) := HB7.out.trans (hB8.mono (by have := HB7.out.size; have := HP.out; omega))
      clear hO8 hB8 hF7
      by_cases hh : (hasB m a && hasB m b) = true
      · have hh' := hh
        rw [Bool.and_eq_true] at hh'
        obtain ⟨x, hax, hx⟩ := hasB_iff.1 hh'.1
        obtain ⟨y, hby, hy⟩ := hasB_iff.1 hh'.2
        have eA : hasE m a = 0 := by unfold hasE; rw [if_pos hh'.1]
        have eB : hasE m b = 0 := by unfold hasE; rw [if_pos hh'.2]
        have eJ : joinE m a b = 0 := by unfold joinE; rw [if_pos hh]
        have gA : (gpL m a).length = (grpL m x).length := by unfold gpL; rw [if_pos hh'.1, hax]; rfl
        have gB : (gpL m b).length = (grpL m y).length := by unfold gpL; rw [if_pos hh'.2, hby]; rfl
        have hA7 : hasB m7 a = true := by unfold hasB; rw [HL7.out]; exact hh'.1
        have gA7 : (gpL m7 a).length = (grpL m7 x).length := by unfold gpL; rw [if_pos hA7, hax]; rfl
        have hGx := grpL_le m x
        have hGy := grpL_le m y
        rw [HN.out] at hGx hGy
        by_cases hr : (mA m x).rt = (mA m y).rt
        · have eS : sameB m a b = true := by unfold sameB; rw [hh, hax, hby]; simp [hr]
          have eJB : joinB m a b = false := by unfold joinB; rw [hh, hax, hby]; simp [hr]
          have e7 := HS7.out eJB
          rw [e7] at gA7 ⊢
          rw [eA, eB, eJ, eS, eJB, gA, gB]
          clear e7 gA7 gA gB HJL HS7 hh hh' eA eB eJ eS eJB hA7
          generalize (grpL m x).length = X at *
          generalize (grpL m y).length = Y at *
          go_wp2_with fail
          go_ret
          exact ⟨rfl, by rw [HP.out]; exact HB8.out⟩
        · have eS : sameB m a b = false := by unfold sameB; rw [hh, hax, hby]; simp [hr]
          have eJB : joinB m a b = true := by unfold joinB; rw [hh, hax, hby]; simp [hr]
          have e7 := HJL.out x y hax hby hx hy hr
          rw [eA, eB, eJ, eS, eJB, gA, gB, gA7, e7]
          clear e7 gA7 gA gB HJL HS7 hh hh' eA eB eJ eS eJB hA7
          generalize (grpL m x).length = X at *
          generalize (grpL m y).length = Y at *
          have hXY : ((X : Int) + (Y : Int) == (X : Int) + (Y : Int)) = true := by simp
          go_wp2_with fail
          go_ret
          exact ⟨by simp, by rw [HP.out]; exact HB8.out⟩
      · have hh2 : (hasB m a && hasB m b) = false := by simpa using hh
        have eJ : joinE m a b = 2 := by unfold joinE; rw [if_neg hh]
        have eJB : joinB m a b = false := by unfold joinB; rw [hh2]; rfl
        rw [eJ, eJB]
        obtain ⟨LA, hLA⟩ : ∃ LA, (gpL m a).length = LA := ⟨_, rfl⟩
        obtain ⟨LB, hLB⟩ : ∃ LB, (gpL m b).length = LB := ⟨_, rfl⟩
        obtain ⟨LZ, hLZ⟩ : ∃ LZ, (gpL m7 a).length = LZ := ⟨_, rfl⟩
        obtain ⟨EZ, hEZ⟩ : ∃ EZ, hasE m7 a = EZ := ⟨_, rfl⟩
        obtain ⟨SS, hSS⟩ : ∃ SS, sameB m a b = SS := ⟨_, rfl⟩
        rw [hLA, hLB, hLZ, hEZ, hSS]
        clear hLA hLB hLZ hEZ hSS HJL HS7
        by_cases h1 : hasB m a = true
        · have h2 : hasB m b = false := by simpa [h1] using hh2
          have eA : hasE m a = 0 := by unfold hasE; rw [if_pos h1]
          have eB : hasE m b = 2 := by unfold hasE; rw [if_neg (by simp [h2])]
          rw [eA, eB]
          clear eA eB h1 h2 hh hh2 eJ eJB
          go_wp2_with fail
          go_ret
          exact ⟨rfl, by rw [HP.out]; exact HB8.out⟩
        · have eA : hasE m a = 2 := by unfold hasE; rw [if_neg h1]
          rw [eA]
          obtain ⟨EB, hEB⟩ : ∃ EB, hasE m b = EB := ⟨_, rfl⟩
          rw [hEB]
          clear eA h1 hh hh2 eJ eJB hEB
          go_wp2_with fail
          go_ret
          exact ⟨rfl, by rw [HP.out]; exact HB8.out⟩
end Go.Proofs.Ytfnbkffphpidbaa
