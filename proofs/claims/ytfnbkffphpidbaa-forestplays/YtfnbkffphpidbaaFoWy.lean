/-
  ForestWays, walked.
-/
import Derived.Test.YtfnbkffphpidbaaFoSet
set_option linter.unusedSimpArgs false
set_option linter.unusedVariables false
namespace Go.Proofs.Ytfnbkffphpidbaa
open Go.RowKit Go.Lib

theorem joinE_path {m : List Mv} {a b : Int} : (joinE m a b ≠ 0 → pathE m a b = 2 ∧ pathE m b a = 2) ∧ (joinE m a b = 0 → sameB m a b = false → pathE m a b = 11 ∧ pathE m b a = 11) ∧ (joinE m a b = 0 → sameB m a b = true → pathE m a b = 0 ∧ pathE m b a = 0) := by
  unfold joinE pathE sameB
  have hc : (hasB m b && hasB m a) = (hasB m a && hasB m b) := Bool.and_comm _ _
  rw [hc]
  cases hasB m a && hasB m b
  · simp
  · by_cases hr : (mA m a.toNat).rt = (mA m b.toNat).rt
    · simp [hr]
    · have hr2 : ¬ (mA m b.toNat).rt = (mA m a.toNat).rt := fun e => hr e.symm
      simp [hr, hr2]

theorem cell_new (w : World) (c : Array Value) (t : TypeId) (i : Nat) : (w.alloc (.cells c t)).cell? ⟨w.heap.size, i, none⟩ = c[i]? := by
  unfold World.cell?
  rw [show (w.alloc (.cells c t)).heap[w.heap.size]? = some (.cells c t) from Deep.blk_alloc_new _ _]
  rfl
theorem getD_mem_or {α : Type} (l : List α) (i : Nat) (d : α) : l.getD i d ∈ l ∨ l.getD i d = d := by
  rw [List.getD_eq_getElem?_getD]
  cases h : l[i]? with
  | none => exact .inr rfl
  | some u => exact .inl (List.mem_of_getElem? h)
/-- The cells of a list of steps. -/
theorem OwnE.cells {w : World} {base : Nat} {J : List (Nat × Nat)} {V : List Value} {P : List Ed} {ao : Option Addr} {cap : Nat} (h : OwnE w base (.slice ao P.length cap) (P.map (cz J V))) (hn : 0 < P.length) : ∃ g, ao = some ⟨g, 0, none⟩ ∧ base ≤ g ∧ g < w.heap.size ∧ P.length ≤ cap ∧ cap ≤ maxLen ∧ ∀ i, i < P.length → EdAt w g (i * 4) (cz J V (P.getD i (0, false))) := by
  rcases h.2 with ⟨h0, h1⟩ | ⟨g, cap', cur, hv, hb, hbk, hcn, hcm, _⟩
  · rw [List.length_map] at h1; omega
  · injection hv with e1 e2 e3
    subst e1 e3
    refine ⟨g, rfl, hb, lt_of_block hbk, by rw [List.length_map] at hcn; exact hcn, hcm, fun i hi => ?_⟩
    have h2 : OwnE w base (.slice (some ⟨g, 0, none⟩) (P.map (cz J V)).length cap) (P.map (cz J V)) := by rw [List.length_map]; exact h
    have := h2.at_ (x := i) (by simpa using hi)
    have e : (P.map (cz J V)).getD i eg0 = cz J V (P.getD i (0, false)) := by
      rw [List.getD_eq_getElem?_getD, List.getElem?_map, List.getElem?_eq_getElem hi, List.getD_eq_getElem?_getD, List.getElem?_eq_getElem hi]; rfl
    rw [e] at this; exact this
theorem EdAt.below {w w' : World} {b o : Nat} {g : Eg} (h : EdAt w b o g) (hb : Below w.heap.size w w') (hl : b < w.heap.size) : EdAt w' b o g :=
  ⟨(hb.cell (p := ⟨b, o, none⟩) hl).trans h.c0, (hb.cell (p := ⟨b, o + 1, none⟩) hl).trans h.c1, (hb.cell (p := ⟨b, o + 2, none⟩) hl).trans h.c2, (hb.cell (p := ⟨b, o + 3, none⟩) hl).trans h.c3⟩

set_option maxRecDepth 20000 in
set_option maxHeartbeats 8000000 in
theorem forestWays_walk (ao : Option Addr) (cap : Nat) (l : List Cl9) (a b c : Int) (w : World) (hS : Scr w ao cap l) (hbig : l.length * 32 ≤ 140737488351232) :
    Calls Try.prog 4 #[.slice ao l.length cap, .int .i64 a, .int .i64 b, .int .i64 c] w fun e w' => e = .returned (.bool true) ∧ Below w.heap.size w w' := by
  have cG : Hid (Calls Try.prog 12 #[.slice ao l.length cap] w fun e w' => e = .returned (.pointer (some ⟨w.heap.size, 0, none⟩)) ∧ FoX w' w.heap.size ∧ Below w.heap.size w w') := grown_any ao cap l w hS
  clear hS
  go_enter Try.func4, Try.ntmps4
  go_wp2_with fail
  refine cG.out.mono ?_
  rintro e w1 ⟨rfl, ⟨v, J, V, m, hF1⟩, hB1⟩
  go_wp2_with fail
  refine (awake9_any w1).mono ?_
  rintro e w2 ⟨rfl, hb2⟩
  have HF2 : Hid (Fo w2 w.heap.size v J V m) := hF1.below hb2
  have HB2 : Hid (Below w.heap.size w w2) := hB1.trans (hb2.mono hB1.size)
  have hle := hF1.fo.le
  clear hF1 hB1 hb2 cG
  obtain ⟨p, hp⟩ : ∃ p, w.heap.size = p := ⟨_, rfl⟩
  have HP : Hid (w.heap.size = p) := hp
  rw [hp] at HF2 HB2 ⊢
  have hpw : p ≤ w2.heap.size := by have := HB2.out.size; omega
  clear hp
  go_wp2_with fail
  refine (fopath HF2.out a b).mono ?_
  rintro e w3 ⟨P, pa, pc, rfl, hO3, hB3, hn3, hp3⟩
  have HO3 : Hid (OwnE w3 w2.heap.size (.slice pa P.length pc) (P.map (cz J V))) := hO3
  have HB3 : Hid (Below w2.heap.size w2 w3) := hB3
  have HN3 : Hid (pathE m a b ≠ 0 → P = []) := hn3
  have HP3 : Hid (pathE m a b = 0 → Pa J a.toNat P b.toNat) := hp3
  have hz3 := hB3.size
  clear hO3 hB3 hn3 hp3
  go_wp2_with fail
  refine (fopath (HF2.out.below HB3.out) b a).mono ?_
  rintro e w4 ⟨Q, qa, qc, rfl, hO4, hB4, hn4, hp4⟩
  have HO4 : Hid (OwnE w4 w3.heap.size (.slice qa Q.length qc) (Q.map (cz J V))) := hO4
  have HB4 : Hid (Below w3.heap.size w3 w4) := hB4
  have HN4 : Hid (pathE m b a ≠ 0 → Q = []) := hn4
  have HP4 : Hid (pathE m b a = 0 → Pa J b.toNat Q a.toNat) := hp4
  have hz4 := hB4.size
  clear hO4 hB4 hn4 hp4
  have HF4 : Hid (Fo w4 p v J V m) := (HF2.out.below HB3.out).below HB4.out
  have HB24 : Hid (Below w2.heap.size w2 w4) := HB3.out.trans (HB4.out.mono hz3)
  go_wp2_with fail
  refine (fosame HF4.out a b).mono ?_
  rintro e w' ⟨rfl, hw⟩
  obtain rfl := hw.symm
  obtain ⟨j1, j2, j3⟩ := joinE_path (m := m) (a := a) (b := b)
  by_cases hj : joinE m a b = 0
  · by_cases hs : sameB m a b = true
    · obtain ⟨e1, e2⟩ := j3 hj hs
      rw [hj, hs, e1, e2]
      have hP := HP3.out e1
      have hQ := HP4.out e2
      have hhas : (hasB m a && hasB m b) = true := by
        unfold joinE at hj
        split at hj
        · next h => exact h
        · cases hj
      rw [Bool.and_eq_true] at hhas
      obtain ⟨x, rfl, hx⟩ := hasB_iff.1 hhas.1
      obtain ⟨y, rfl, hy⟩ := hasB_iff.1 hhas.2
      simp only [Int.toNat_natCast] at hP hQ
      have hQP : Q = rv P := HF4.out.inv.fst.uniq _ _ _ _ hQ hP.rev
      have hQl : Q.length = P.length := by rw [hQP, rv_length]
      have hsh := HF4.out.inv.short hP hx
      have hPI : ((x : Int) == (y : Int)) = ((P.length : Int) == 0) := by
        by_cases h0 : x = y
        · subst h0
          have := HF4.out.inv.fst.loop hP
          subst this; simp
        · have : P ≠ [] := fun e => by subst e; exact h0 hP.1
          have h2 : P.length ≠ 0 := fun e => this (List.length_eq_zero_iff.1 e)
          rw [beq_eq_false_iff_ne.2 (by omega), beq_eq_false_iff_ne.2 (by omega)]
      rw [hQl]
      have HPA : Hid (Pa J x P y) := hP
      have HQP : Hid (Q = rv P) := hQP
      have HQL : Hid (Q.length = P.length) := hQl
      have hE3 := pathE_trans (J := J) (V := V) (c := c) e1
      have HE3 : Hid (pathE m y c = pathE m x c) := hE3
      have HVN : Hid ((visL J x P).Nodup) := vis_nodup HF4.out.inv.fst hP
      have HVL : Hid (∀ i, i ≤ P.length → (visL J x P).getD i 0 < m.length) := fun i hi => by
        cases i with
        | zero => exact hx
        | succ i =>
          rw [(vis_at hP.1 i (by omega)).2]
          refine HF4.out.inv.endB ?_
          have hw := hP.1
          have key : ∀ {q : List Ed} {c d : Nat}, Wk J c q d → ∀ e ∈ q, e.1 < J.length := by
            intro q
            induction q with
            | nil => intro c d _ e he; cases he
            | cons f q ih =>
              intro c d hw e he
              rcases List.mem_cons.1 he with rfl | he
              · exact hw.1
              · exact ih hw.2.2 e he
          refine key hw _ ?_
          rw [List.getD_eq_getElem?_getD, List.getElem?_eq_getElem (by omega)]
          exact List.getElem_mem (by omega)
      clear hhas hE3 j1 j2 j3 hj hs hP hQ hQP hQl e1 e2 HN3 HN4 HP3 HP4
      obtain ⟨L, hL⟩ : ∃ L, P.length = L := ⟨_, rfl⟩
      have HL : Hid (P.length = L) := hL
      rw [hL] at hPI hsh ⊢
      clear hL
      have hLb : L < 1048576 := by omega
      obtain ⟨eb, heb⟩ : ∃ eb, ((L : Int) == 0) = eb := ⟨_, rfl⟩
      rw [heb] at hPI
      have hmm := @run_makeMap Try.prog
      obtain ⟨w5, hput, hS5, hg5⟩ := (SetI.made w4).put (by simp [maxLen]) (s := x) (by omega)
      have HS5 : Hid (SetI w5 w4.heap.size [x]) := hS5
      have HB5 : Hid (Below w4.heap.size w4 w5) := ((Below.refl w4.heap.size w4).alloc (Nat.le_refl _) _).grown hg5 (by simp) (fun k e => by cases e; exact Nat.le_refl _)
      clear hS5 hg5
      go_wp2_with fail
      go_loopw [16, 18] (fun at_ i wr => ∃ k : Nat, k ≤ L ∧ at_ = .int .i64 ((visL J x P).getD k 0 : Nat) ∧ i = .int .i64 k ∧ SetI wr w4.heap.size ((visL J x P).take (k + 1)) ∧ Below w4.heap.size w4 wr) (fun _ i _ => L - (RowKit.intOf i).toNat)
      case atStart => exact ⟨0, by omega, rfl, rfl, HS5.out, HB5.out⟩
      case round =>
        obtain ⟨k, hk, rfl, rfl, hSr, hBr⟩ := hrel
        have HSr : Hid (SetI wr w4.heap.size ((visL J x P).take (k + 1))) := hSr
        have HBr : Hid (Below w4.heap.size w4 wr) := hBr
        clear hSr hBr
        by_cases hlt : k < L
        · have hltI : (k : Int) < (L : Int) := by omega
          have hlP : k < P.length := by rw [HL.out]; exact hlt
          obtain ⟨g, hpa, hgb, hgl, hcn, hcm, hcells⟩ := OwnE.cells (by have := HO3.out; exact this) (by omega)
          obtain ⟨q, hqa, hqb, hql, hqn, hqm, hqells⟩ := OwnE.cells (by have := HO4.out; exact this) (by have := HQL.out; omega)
          subst hpa hqa
          rw [HL.out] at hcn
          rw [HQL.out, HL.out] at hqn
          unfold maxLen at hcm hqm
          have E1 := ((hcells k hlP).below HB4.out hgl).below HBr.out (by omega)
          have E2 := (hqells (L - 1 - k) (by have := HQL.out; have := HL.out; omega)).below HBr.out hql
          have hrv := rv_at P k hlP
          rw [HL.out] at hrv
          rw [HQP.out, hrv] at E2
          have hv := vis_at HPA.out.1 k hlP
          have hnx : (visL J x P).getD (k + 1) 0 ∉ (visL J x P).take (k + 1) := nodup_next HVN.out (by rw [visL_len]; omega)
          have hb1 := HVL.out (k + 1) (by omega)
          have hb0 := HVL.out k (by omega)
          have HTK : Hid ((visL J x P).take (k + 1 + 1) = (visL J x P).take (k + 1) ++ [(visL J x P).getD (k + 1) 0]) := take_snoc0 (by rw [visL_len]; omega)
          have HTL : Hid (((visL J x P).take (k + 1)).length < maxLen) := by
            rw [Hid, List.length_take, visL_len]
            unfold maxLen; omega
          obtain ⟨c0, c1, c2, c3⟩ := E1
          obtain ⟨d0, d1, d2, d3⟩ := E2
          simp only [cz, eA_tn, eB_tn] at c0 c1 c2 c3 d0 d1 d2 d3
          rw [← hv.1] at c0 d1
          rw [← hv.2] at c1 d0
          obtain ⟨s, hs⟩ : ∃ s, (visL J x P).getD k 0 = s := ⟨_, rfl⟩
          obtain ⟨t, ht⟩ : ∃ t, (visL J x P).getD (k + 1) 0 = t := ⟨_, rfl⟩
          have HT : Hid ((visL J x P).getD (k + 1) 0 = t) := ht
          rw [hs] at c0 d1 hb0 ⊢
          rw [ht] at c1 d0 hb1 hnx HTK
          obtain ⟨f, hf⟩ : ∃ f, P.getD k (0, false) = f := ⟨_, rfl⟩
          rw [hf] at c2 c3 d2 d3
          simp only [tn] at d2 d3
          obtain ⟨fv, hfv⟩ : ∃ fv, V.getD f.1 nilV = fv := ⟨_, rfl⟩
          have hfi : IfV fv := by
            rw [← hfv]
            rcases getD_mem_or V f.1 nilV with h | h
            · exact HF4.out.ifv _ h
            · rw [h]; exact IfV.nil
          rw [hfv] at c2 d2
          obtain ⟨fb, hfb⟩ : ∃ fb, f.2 = fb := ⟨_, rfl⟩
          rw [hfb] at c3 d3
          have hbb : ((!fb) == fb) = false := by cases fb <;> rfl
          have HNX : Hid (t ∉ (visL J x P).take (k + 1)) := hnx
          have hsz := HBr.out.size
          have hkm1 : ((L : Int) - 1 - (k : Int)).toNat = L - 1 - k := by omega
          have hkmI : (0 : Int) ≤ (L : Int) - 1 - (k : Int) ∧ (L : Int) - 1 - (k : Int) < (L : Int) := by omega
          obtain ⟨W, hW⟩ : ∃ W, wr.alloc (.cells #[.int .i64 t, .int .i64 s, fv, .bool (!fb)] 44) = W := ⟨_, rfl⟩
          have HBW : Hid (Below w4.heap.size w4 W) := by rw [← hW]; exact HBr.out.alloc hsz _
          have HSW : Hid (SetI W w4.heap.size ((visL J x P).take (k + 1))) := by
            rw [← hW]
            exact HSr.out.block (Array.getElem?_push_lt HSr.out.lt |>.trans (Array.getElem?_eq_getElem HSr.out.lt).symm)
          have g0 : ∀ r, (W.drewN r).cell? ⟨g, k * 4, none⟩ = some (.int .i64 s) := fun r => by rw [← hW]; exact ((World.cell?_alloc_some _ _ _ (by rw [c0]; rfl)).trans c0)
          have g1 : ∀ r, (W.drewN r).cell? ⟨g, k * 4 + 1, none⟩ = some (.int .i64 t) := fun r => by rw [← hW]; exact ((World.cell?_alloc_some _ _ _ (by rw [c1]; rfl)).trans c1)
          have g3 : ∀ r, (W.drewN r).cell? ⟨g, k * 4 + 3, none⟩ = some (.bool fb) := fun r => by rw [← hW]; exact ((World.cell?_alloc_some _ _ _ (by rw [c3]; rfl)).trans c3)
          have x0 : ∀ r, (W.drewN r).cell? ⟨wr.heap.size, 0, none⟩ = some (.int .i64 t) := fun r => by rw [← hW]; exact cell_new _ _ _ _
          have x1 : ∀ r, (W.drewN r).cell? ⟨wr.heap.size, 1, none⟩ = some (.int .i64 s) := fun r => by rw [← hW]; exact cell_new _ _ _ _
          have x3 : ∀ r, (W.drewN r).cell? ⟨wr.heap.size, 3, none⟩ = some (.bool (!fb)) := fun r => by rw [← hW]; exact cell_new _ _ _ _
          have HM : ∀ r, (Instr.lookup 42 (.map (some w4.heap.size)) (.int .i64 (t : Int)) false).run Try.prog (W.drewN r) = .ok (.bool false) (W.drewN r) := fun r => SetI.miss (HSW.out.block (w' := W.drewN r) rfl) (by omega) hnx
          have hss : ((s : Int) == (s : Int)) = true := by simp
          have htt : ((t : Int) == (t : Int)) = true := by simp
          clear hv hnx hs ht hf hfv hcells hqells hrv hfb
          rcases hfi with rfl | ⟨fu, fx, rfl⟩
          all_goals
            go_wp2_with fail
            try rw [hW]
            go_quiet (fail)
            obtain ⟨w7, hput7, hS7, hg7⟩ := SetI.put (HSW.out.block (w' := W.drewN nq) rfl) HTL.out (s := t) (by omega)
            have HS7 : Hid (SetI w7 w4.heap.size ((visL J x P).take (k + 1) ++ [t])) := hS7
            have HB7 : Hid (Below w4.heap.size w4 w7) := (HBW.out.trans ((below_drew W nq).mono HBW.out.size)).grown hg7 (HBW.out.size) (fun k e => by cases e; exact Nat.le_refl _)
            clear hS7 hg7
            have gq1 := g1 nq
            go_wp2_with fail
            exact ⟨⟨k + 1, by omega, by rw [HT.out], by go_num, by rw [HTK.out]; exact HS7.out, HB7.out⟩, by simp [RowKit.intOf]; omega⟩
        · have hke : k = L := by omega
          subst hke
          have hve := vis_end HPA.out.1
          rw [HL.out] at hve
          rw [hve]
          clear hve hlt hk HSr
          have HFr : Hid (Fo wr p v J V m) := HF4.out.below HBr.out
          have hyy : ((y : Int) == (y : Int)) = true := by simp
          have hszr := HBr.out.size
          go_wp2_with fail
          refine (fopath HFr.out y c).mono ?_
          rintro e w6 ⟨R, ra, rc, rfl, hO6, hB6, hn6, hp6⟩
          have HF6 : Hid (Fo w6 p v J V m) := HFr.out.below hB6
          have HB6 : Hid (Below w4.heap.size w4 w6) := HBr.out.trans (hB6.mono hszr)
          have HP6 : Hid (pathE m y c = 0 → Pa J (y : Int).toNat R c.toNat) := hp6
          clear hO6 hB6 hn6 hp6
          go_wp2_with fail
          refine (fopath HF6.out x c).mono ?_
          rintro e w7 ⟨T, ta, tc, rfl, hO7, hB7, hn7, hp7⟩
          have HB7 : Hid (Below w4.heap.size w4 w7) := HB6.out.trans (hB7.mono HB6.out.size)
          have HBZ : Hid (Below p w w7) := (HB2.out.trans (HB24.out.mono hpw)).trans (HB7.out.mono (by omega))
          rw [HE3.out]
          by_cases hE : pathE m x c = 0
          · have h6 := HP6.out (HE3.out.trans hE)
            have h7 := hp7 hE
            simp only [Int.toNat_natCast] at h6 h7
            obtain ⟨kk, hkk⟩ := HF4.out.inv.fst.tri HPA.out h6 h7
            have l6 := HF4.out.inv.short h6 hy
            have l7 := HF4.out.inv.short h7 hx
            rw [HL.out] at hkk
            rw [hE]
            obtain ⟨r, hr⟩ : ∃ r, R.length = r := ⟨_, rfl⟩
            obtain ⟨t, ht⟩ : ∃ t, T.length = t := ⟨_, rfl⟩
            rw [hr, ht] at hkk
            rw [hr] at l6 ⊢
            rw [ht] at l7 ⊢
            have hle2 : (t : Int) ≤ (k : Int) + (r : Int) := by omega
            have hdf : (k : Int) + (r : Int) - (t : Int) = 2 * (kk : Int) := by omega
            have htm : (2 * (kk : Int)).tmod 2 = 0 := Int.mul_tmod_right 2 kk
            clear hO7 hB7 hn7 hp7 hr ht hE h6 h7
            go_wp2_with fail
            go_ret
            exact ⟨rfl, by rw [HP.out]; exact HBZ.out⟩
          · obtain ⟨E, hEE⟩ : ∃ E, pathE m x c = E := ⟨_, rfl⟩
            rw [hEE] at hE ⊢
            have hE1 : (E == 0) = false := beq_eq_false_iff_ne.2 hE
            have hE2 : (E == E) = true := by simp
            obtain ⟨r, hr⟩ : ∃ r, R.length = r := ⟨_, rfl⟩
            obtain ⟨t, ht⟩ : ∃ t, T.length = t := ⟨_, rfl⟩
            rw [hr, ht]
            clear hO7 hB7 hn7 hp7 hr ht hEE
            go_wp2_with fail
            go_ret
            exact ⟨rfl, by rw [HP.out]; exact HBZ.out⟩
    · obtain ⟨e1, e2⟩ := j2 hj (by simpa using hs)
      have hP0 := HN3.out (by rw [e1]; decide)
      have hQ0 := HN4.out (by rw [e2]; decide)
      have hs0 : sameB m a b = false := by simpa using hs
      subst hP0 hQ0
      rw [hj, hs0, e1, e2]
      clear j1 j2 j3 hs hs0
      go_wp2_with fail
      go_ret
      exact ⟨rfl, by rw [HP.out]; exact HB2.out.trans (HB24.out.mono hpw)⟩
  · obtain ⟨e1, e2⟩ := j1 hj
    have hP0 := HN3.out (by rw [e1]; decide)
    have hQ0 := HN4.out (by rw [e2]; decide)
    have hj2 : joinE m a b = 2 := by
      unfold joinE at hj ⊢
      split
      · next h => rw [if_pos h] at hj; exact absurd rfl hj
      · rfl
    subst hP0 hQ0
    rw [hj2, e1, e2]
    clear j1 j2 j3 hj hj2
    go_wp2_with fail
    go_ret
    exact ⟨rfl, by rw [HP.out]; exact HB2.out.trans (HB24.out.mono hpw)⟩
end Go.Proofs.Ytfnbkffphpidbaa
