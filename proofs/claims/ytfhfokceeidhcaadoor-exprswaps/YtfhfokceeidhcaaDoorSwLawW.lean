/-
  The walk of ExprSwaps.
-/
import Derived.Test.YtfhfokceeidhcaaDoorSwLaw
import Derived.BigQuiet
set_option linter.unusedSimpArgs false
set_option linter.unusedVariables false
namespace Go.Proofs.YtfhfokceeidhcaaDoor
open Go.RowKit Go.Lib

theorem taStop (x : Value) (w : World) : (Instr.typeAssert (.iface 50 x) 20 50 true).run Tryd.prog w = .ok (.tuple #[x, .bool true]) w := by kernel_rfl

set_option maxRecDepth 20000 in
set_option maxHeartbeats 2000000 in
theorem swaps_none (w : World) (ao na : Option Addr) (cap nc : Nat) (l : List Nd) (names : List ByteArray) (stop : Int) (T0 : SpanCells w) (A0 : Rd w ao cap l) (FA : Fit l) (h : begL l = none) :
    Calls Tryd.prog 5 #[.slice ao l.length cap, .slice na names.length nc, .int .i64 stop] w fun e w' => e = .returned (.bool true) ∧ Below w.heap.size w w' := by
  have bb0 := Below.refl w.heap.size w
  have HS : Hid (begL l = none) := h
  have HK : Hid (chkE l = 1) := chkE_no (by simp [sndB, h])
  clear h
  go_enter Tryd.func5, Tryd.ntmps5
  go_wp2_with fail
  refine (awk_any _ T0).mono ?_
  rintro e w1 ⟨rfl, hb1⟩
  have T1 := T0.below hb1
  have bb1 : Below w.heap.size w w1 := bb0.trans (hb1.mono bb0.size)
  have A1 := A0.below hb1 hb1.size
  clear A0 T0 hb1 bb0
  go_wp2_with fail
  refine (copyR A1 FA).mono ?_
  rintro e w2 ⟨o2, p2, rfl, D2, hb2⟩
  have T2 := T1.below hb2
  have bb2 : Below w.heap.size w w2 := bb1.trans (hb2.mono bb1.size)
  have A2 := A1.below hb2 hb2.size
  clear A1 T1 hb2 bb1
  go_wp2_with fail
  refine (tried_none w2 o2 na p2 nc l names stop T2 D2 HS.out).mono ?_
  rintro e w3 ⟨rfl, hb3⟩
  have T3 := T2.below hb3
  have bb3 : Below w.heap.size w w3 := bb2.trans (hb3.mono bb2.size)
  have A3 := A2.below hb3 hb3.size
  clear A2 T2 D2 hb3 bb2
  go_wp2_with fail
  refine (copyR A3 FA).mono ?_
  rintro e w4 ⟨o4, p4, rfl, D4, hb4⟩
  have T4 := T3.below hb4
  have bb4 : Below w.heap.size w w4 := bb3.trans (hb4.mono bb3.size)
  have A4 := A3.below hb4 hb4.size
  clear A3 T3 hb4 bb3
  go_wp2_with fail
  refine (swap_none w4 o4 p4 l _ T4 D4 HS.out).mono ?_
  rintro e w5 ⟨rfl, hb5⟩
  have bb5 : Below w.heap.size w w5 := bb4.trans (hb5.mono bb4.size)
  have A5 := A4.below hb5 hb5.size
  clear A4 T4 D4 hb5 bb4
  go_wp2_with fail
  refine (rchkR A5 FA 1 HK.out).mono ?_
  rintro e w6 ⟨rfl, hb6⟩
  have bb6 : Below w.heap.size w w6 := bb5.trans (hb6.mono bb5.size)
  clear A5 hb6 bb5
  go_wp2_with fail
  go_ret
  exact ⟨rfl, bb6⟩

/-- In the law's loop. -/
structure LMid (W : World) (l : List Nd) (names : List ByteArray) (vw : Value) (k : Nat) (p : List (Nd × Value)) (wr : World) : Prop where
  own : OwnP wr W.heap.size vw p
  nodes : p.map (·.1) = swL l names k
  below : Below W.heap.size W wr

set_option maxRecDepth 20000 in
set_option maxHeartbeats 4000000 in
theorem swaps_some (w : World) (ao na : Option Addr) (cap nc : Nat) (l : List Nd) (names : List ByteArray) (stop : Int) (T0 : SpanCells w) (A0 : Rd w ao cap l) (N0 : Strs w na nc names) (hns : ∀ s ∈ names, s.size ≤ maxLen) (FA : Fit l) (fr : List Nat) (h : begL l = some fr) :
    Calls Tryd.prog 5 #[.slice ao l.length cap, .slice na names.length nc, .int .i64 stop] w fun e w' => e = .returned (.bool true) ∧ Below w.heap.size w w' := by
  have bb0 := Below.refl w.heap.size w
  have HS : Hid (begL l = some fr) := h
  have HK : Hid (chkE l = 0) := chkE_yes (by simp [sndB, h])
  have h64 := (begL_some h).2.1
  have HFN : Hid (∀ j n, (ansS names n (l.getD j nd0).name).size ≤ maxLen) := fun j n => by
    unfold ansS
    split
    · by_cases e : n - 1 < names.length
      · simp only [List.getD_eq_getElem?_getD, List.getElem?_eq_getElem e]; exact hns _ (List.getElem_mem e)
      · rw [List.getD_eq_getElem?_getD, List.getElem?_eq_none (by omega)]; exact Nat.zero_le _
    · by_cases e : j < l.length
      · simp only [List.getD_eq_getElem?_getD, List.getElem?_eq_getElem e]; exact FA.name _ (List.getElem_mem e)
      · rw [List.getD_eq_getElem?_getD, List.getElem?_eq_none (by omega)]; exact Nat.zero_le _
  have hnl : names.length ≤ nc ∧ nc ≤ maxLen := ⟨N0.1, N0.2.1⟩
  unfold maxLen at hnl
  obtain ⟨hn1, hn2⟩ := hnl
  obtain ⟨hl1, hl2⟩ := A0.bound
  unfold maxLen at hl2
  clear h hns
  go_enter Tryd.func5, Tryd.ntmps5
  go_wp2_with fail
  refine (awk_any _ T0).mono ?_
  rintro e w1 ⟨rfl, hb1⟩
  have T1 := T0.below hb1
  have bb1 : Below w.heap.size w w1 := bb0.trans (hb1.mono bb0.size)
  have A1 := A0.below hb1 hb1.size
  have N1 := N0.below hb1
  clear A0 N0 T0 hb1 bb0
  go_wp2_with fail
  refine (copyR A1 FA).mono ?_
  rintro e w2 ⟨o2, p2, rfl, D2, hb2⟩
  have T2 := T1.below hb2
  have bb2 : Below w.heap.size w w2 := bb1.trans (hb2.mono bb1.size)
  have A2 := A1.below hb2 hb2.size
  have N2 := N1.below hb2
  clear A1 N1 T1 hb2 bb1
  go_wp2_with fail
  refine (tried_some w2 o2 na p2 nc l names stop fr T2 D2 N2 HS.out).mono ?_
  rintro e w3 ⟨hb3, xv, er, qa, qc, ov, K, hK, rfl, Q3, hcs⟩
  have T3 := T2.below hb3
  have bb3 : Below w.heap.size w w3 := bb2.trans (hb3.mono bb2.size)
  have A3 := A2.below hb3 hb3.size
  have N3 := N2.below hb3
  have hqn : (vsL (l.take K)).length ≤ 64 := by have := vsL_le (l.take K); simp at this; omega
  obtain ⟨QL, hQL⟩ : ∃ QL, (vsL (l.take K)).length = QL := ⟨_, rfl⟩
  rw [hQL] at hqn
  rw [hQL]
  have HQL : Hid ((vsL (l.take K)).length = QL) := hQL
  have hqc : QL ≤ qc ∧ qc ≤ maxLen := ⟨hQL ▸ Q3.1, Q3.2.1⟩
  unfold maxLen at hqc
  obtain ⟨hqc1, hqc2⟩ := hqc
  clear A2 N2 T2 D2 hb3 bb2 hQL
  rcases hcs with hcs | ⟨j, hcs⟩ | ⟨j, hcs⟩
  · obtain ⟨hKe, hfine, rfl, rfl, xo, xc, rfl, X3⟩ := hcs
    have HFI : Hid (∀ i, i < l.length → FineAt l names stop i) := fun i hi => hfine i (by omega)
    have HKL : Hid (K = l.length) := hKe
    clear hfine hKe
    go_wp2_with fail
    refine (copyR A3 FA).mono ?_
    rintro e w4 ⟨o4, p4, rfl, D4, hb4⟩
    have T4 := T3.below hb4
    have bb4 : Below w.heap.size w w4 := bb3.trans (hb4.mono bb3.size)
    have A4 := A3.below hb4 hb4.size
    have N4 := N3.below hb4
    have Q4 := Q3.below hb4
    have X4 := X3.below hb4 hb4.size
    clear A3 N3 Q3 T3 hb4 bb3
    go_wp2_with fail
    refine (swap_nil w4 o4 p4 l fr T4 D4 HS.out).mono ?_
    rintro e w5 ⟨rfl, hb5⟩
    have bb5 : Below w.heap.size w w5 := bb4.trans (hb5.mono bb4.size)
    have A5 := A4.below hb5 hb5.size
    have N5 := N4.below hb5
    have Q5 := Q4.below hb5
    have X5 := X4.below hb5 hb5.size
    clear A4 N4 Q4 T4 D4 hb5 bb4
    go_wp2_with fail
    refine (rchkR A5 FA 0 HK.out).mono ?_
    rintro e w6 ⟨rfl, hb6⟩
    have bb6 : Below w.heap.size w w6 := bb5.trans (hb6.mono bb5.size)
    have A6 := A5.below hb6 hb6.size
    have N6 := N5.below hb6
    have Q6 := Q5.below hb6
    have X6 := X5.below hb6 hb6.size
    clear A5 N5 Q5 hb6 bb5
    go_wp2_with fail
    refine (copy_any _ l w6 _ (Nat.le_refl _) A6 FA.len FA.kids).mono ?_
    rintro e w7 ⟨vw, rfl, ⟨p0, hp0, hO7⟩, hb7⟩
    have hpl0 : p0.length = l.length := by have := congrArg List.length hp0; simpa using this
    have hl0 := (begL_some HS.out).1
    obtain ⟨g, wc, hvw, hgB⟩ : ∃ g wc, vw = .slice (some ⟨g, 0, none⟩) l.length wc ∧ w6.heap.size ≤ g := by
      rcases hO7.row.2 with ⟨rfl, h0⟩ | ⟨g, c, cur, rfl, hb, _⟩
      · omega
      · exact ⟨g, c, by rw [hpl0], hb⟩
    subst hvw
    have hwc : wc ≤ maxLen := by
      have hrow := hO7.row
      rw [hpl0] at hrow
      rcases hrow.2 with ⟨h, _⟩ | ⟨g', c, cur, h, _, _, _, hm, _⟩
      · cases h
      · cases h; exact hm
    unfold maxLen at hwc
    have HM0 : Hid (LMid w6 l names (.slice (some ⟨g, 0, none⟩) l.length wc) 0 p0 w7) := ⟨hO7, by rw [hp0, swL_zero], hb7⟩
    have HB6 : Hid (Below w.heap.size w w6) := bb6
    have HA6 : Hid (Rd w6 ao cap l) := A6
    have HN6 : Hid (Strs w6 na nc names) := N6
    have HQ6 : Hid (Strs w6 qa qc (vsL (l.take K))) := Q6
    have HX6 : Hid (Rd w6 xo xc (swL l names l.length)) := X6
    clear hO7 hp0 hb7 bb6 A6 N6 Q6 hpl0
    go_wp2_with fail
    go_loopw [14, 15] (fun n i wr => ∃ (k : Nat) (p : List (Nd × Value)), k ≤ l.length ∧ i = .int .i64 k ∧ n = .int .i64 (cntV l k) ∧ LMid w6 l names (.slice (some ⟨g, 0, none⟩) l.length wc) k p wr) (fun _ i _ => l.length - (RowKit.intOf i).toNat)
    case atStart => exact ⟨0, p0, by omega, rfl, by simp [cntV, vsL], HM0.out⟩
    case round =>
      obtain ⟨k, p, hk, rfl, rfl, hM⟩ := hrel
      clear HM0
      have HM : Hid (LMid w6 l names (.slice (some ⟨g, 0, none⟩) l.length wc) k p wr) := hM
      have hpl : p.length = l.length := by have := congrArg List.length hM.nodes; rw [swL_len] at this; simpa using this
      have hbr := hM.below
      have hsr := hbr.size
      have hcl := cntV_le l k
      by_cases hlt : k < l.length
      · obtain ⟨be, oe, kve, rfl, hbe, hnd⟩ := (HA6.out.below hbr hbr.size).cell hlt
        obtain ⟨x, hx⟩ : ∃ x, l.getD k nd0 = x := ⟨_, rfl⟩
        rw [hx] at hnd
        obtain ⟨c0, c1, c2, c3, hI⟩ := hnd
        have HX : Hid (l.getD k nd0 = x) := hx
        clear hI hx c1 c3
        obtain ⟨op, n, nm, kids⟩ := x
        simp only at c0 c2
        have HPL : Hid (p.length = l.length) := hpl
        clear hpl
        by_cases hop : op = 2
        · subst hop
          have hkK : k < K := by have := HKL.out; omega
          obtain ⟨hqlt, hqv⟩ := vs_at l hkK hK (by rw [HX.out])
          rw [HX.out] at hqv
          obtain ⟨bq, oq, rfl, hbq, hcq⟩ := (HQ6.out.below hbr).cell hqlt
          rw [hqv] at hcq
          rw [HQL.out] at hqlt
          simp only at hcq
          obtain ⟨kv, hpk, hcw, hfw, hgl⟩ := own_node (k := k) (by rw [HPL.out]; exact HM.out.own) (by rw [HPL.out]; exact hlt)
          have hxk : (p.map (·.1)).getD k nd0 = ⟨2, n, nm, kids⟩ := by rw [HM.out.nodes, swL_at _ _ _ _ hlt, if_neg (by omega), HX.out]
          rw [hxk] at hpk hcw
          simp only at hcw
          have HPK : Hid (p[k]? = some (⟨2, n, nm, kids⟩, kv)) := hpk
          obtain ⟨s, hs⟩ : ∃ s, ansS names (cntV l k + 1) nm = s := ⟨_, rfl⟩
          have HSN : Hid (ansS names (cntV l k + 1) nm = s) := hs
          have hsz := HFN.out k (cntV l k + 1)
          rw [HX.out] at hsz
          simp only [hs] at hsz
          have HSZ : Hid (s.size ≤ maxLen) := hsz
          have HCS : Hid (cntV l (k + 1) = cntV l k + 1) := by rw [Hid, cntV_succ l k hlt, HX.out, if_pos rfl]
          have hcl64 : cntV l k ≤ 64 := by omega
          have hqle : ¬ ((QL : Int) < (cntV l k : Int) + 1) := by omega
          have hgd : decide ((QL : Int) < (cntV l k : Int) + 1) = false := by simp; omega
          have hqlt' : (cntV l k : Int) < (QL : Int) := by omega
          clear hM hqv hxk hs hsz hpk hbr
          have HNB : Hid (nameB s = true) := by
            rw [Hid, ← HSN.out]
            have := (HFI.out k (by omega) (by rw [HX.out])).2
            rw [HX.out] at this
            exact this
          have hst : ((cntV l k : Int) + 1 == stop) = false := by
            have := (HFI.out k (by omega) (by rw [HX.out])).1
            simp only [beq_eq_false_iff_ne, ne_eq]
            omega
          by_cases hle : cntV l k + 1 ≤ names.length
          · obtain ⟨bn, on, rfl, hbn, hcn⟩ := (HN6.out.below HM.out.below).cell (j := cntV l k) (by omega)
            have hsn : names.getD (cntV l k) ⟨#[]⟩ = s := by rw [← HSN.out]; unfold ansS; rw [if_pos hle, Nat.add_sub_cancel]
            rw [hsn] at hcn
            have hle' : (cntV l k : Int) + 1 ≤ (names.length : Int) := by omega
            have hle2 : (cntV l k : Int) < (names.length : Int) := by omega
            have HNX : Hid (∀ q V, Below ((wr.drewN q).setCell ⟨g, k * 4 + 2, none⟩ (.string s)).heap.size ((wr.drewN q).setCell ⟨g, k * 4 + 2, none⟩ (.string s)) V → LMid w6 l names (.slice (some ⟨g, 0, none⟩) l.length wc) (k + 1) (p.set k (⟨2, n, s, kids⟩, kv)) V) := fun q V hV => by
              have hdq : Below wr.heap.size wr (wr.drewN q) := below_drewN' (Below.refl _ _) q
              refine ⟨?_, ?_, ?_⟩
              · have h1 := ownP_put (s := s) (k := k) (by rw [HPL.out]; exact HM.out.own.below hdq) HPK.out
                rw [HPL.out] at h1
                exact OwnP.below h1 hV
              · rw [List.map_set, HM.out.nodes, swL_succ l names k hlt, HX.out]
                congr 1
                unfold swN
                rw [if_pos rfl]
                simp only
                rw [HSN.out]
              · have h2 : Below w6.heap.size w6 ((wr.drewN q).setCell ⟨g, k * 4 + 2, none⟩ (.string s)) := (HM.out.below.trans (hdq.mono HM.out.below.size)).setCell (by show w6.heap.size ≤ g; exact hgB) _
                exact h2.trans (hV.mono h2.size)
            clear hsn
            go_wp2_with fail
            go_quiet (fail)
            go_wp2_with fail
            refine (refName_any s _ HSZ.out).mono ?_
            rintro e w9 ⟨rfl, hb9⟩
            have HNX9 := HNX.out _ w9 hb9
            have HN9 : Hid (LMid w6 l names (.slice (some ⟨g, 0, none⟩) l.length wc) (k + 1) (p.set k (⟨2, n, s, kids⟩, kv)) w9) := HNX9
            clear HNX9 hb9 HNX
            rw [HNB.out]
            go_wp2_with fail
            first | exact ⟨⟨k + 1, _, by omega, by go_num, by rw [HCS.out]; go_num, HN9.out⟩, by simp [RowKit.intOf]; omega⟩ | exact ⟨⟨k + 1, by omega, by go_num, by rw [HCS.out]; go_num, _, HN9.out⟩, by simp [RowKit.intOf]; omega⟩
          · have hsn : s = nm := by rw [← HSN.out]; unfold ansS; rw [if_neg hle]
            have hle' : ¬ ((cntV l k : Int) + 1 ≤ (names.length : Int)) := by omega
            have HNX : Hid (∀ q V, Below (wr.drewN q).heap.size (wr.drewN q) V → LMid w6 l names (.slice (some ⟨g, 0, none⟩) l.length wc) (k + 1) p V) := fun q V hV => by
              have hdq : Below wr.heap.size wr (wr.drewN q) := below_drewN' (Below.refl _ _) q
              have hdV : Below wr.heap.size wr V := hdq.trans (hV.mono hdq.size)
              refine ⟨HM.out.own.below hdV, ?_, HM.out.below.trans (hdV.mono HM.out.below.size)⟩
              rw [HM.out.nodes, swL_keep l names k hlt]
              rw [HX.out]
              unfold swN
              rw [if_pos rfl]
              simp only
              rw [HSN.out, hsn]
            rw [← hsn] at hcw
            have HSE : Hid (s = nm) := hsn
            clear hsn
            go_wp2_with fail
            go_quiet (fail)
            go_wp2_with fail
            refine (refName_any s _ HSZ.out).mono ?_
            rintro e w9 ⟨rfl, hb9⟩
            have HN9 : Hid (LMid w6 l names (.slice (some ⟨g, 0, none⟩) l.length wc) (k + 1) p w9) := HNX.out _ w9 hb9
            clear hb9 HNX
            rw [HNB.out]
            go_wp2_with fail
            first | exact ⟨⟨k + 1, _, by omega, by go_num, by rw [HCS.out]; go_num, HN9.out⟩, by simp [RowKit.intOf]; omega⟩ | exact ⟨⟨k + 1, by omega, by go_num, by rw [HCS.out]; go_num, _, HN9.out⟩, by simp [RowKit.intOf]; omega⟩
        · have hop' : (op == 2) = false := by simp [hop]
          have HNX : Hid (LMid w6 l names (.slice (some ⟨g, 0, none⟩) l.length wc) (k + 1) p wr) := ⟨HM.out.own, by rw [HM.out.nodes, swL_not l names k hlt (by rw [HX.out]; exact hop)], HM.out.below⟩
          have HCS : Hid (cntV l (k + 1) = cntV l k) := by rw [Hid, cntV_succ l k hlt, HX.out, if_neg hop]; omega
          have hkE : k < l.length := hlt
          clear hM hbr
          go_wp2_with fail
          first | exact ⟨⟨k + 1, p, by omega, by go_num, by rw [HCS.out], HNX.out⟩, by simp [RowKit.intOf]; omega⟩ | exact ⟨⟨k + 1, by omega, by go_num, by rw [HCS.out], p, HNX.out⟩, by simp [RowKit.intOf]; omega⟩
      · have hke : k = l.length := by omega
        subst hke
        have hKL := HKL.out
        have hsame : cntV l l.length = QL := by
          rw [← HQL.out, hKL]; rfl
        have HSM : Hid (cntV l l.length = QL) := hsame
        have X9 := HX6.out.below hbr hbr.size
        have hW9 : Rd wr (some ⟨g, 0, none⟩) wc (swL l names l.length) := by
          have hN := Nodes_of_ownP hM.own (Nat.le_refl _)
          rw [hM.nodes] at hN
          unfold Rd
          rw [swL_len]; exact hN
        have CSM := sameR X9 hW9 true (by simp)
        rw [swL_len] at CSM
        have HCS : Hid (Calls Tryd.prog 13 #[.slice xo l.length xc, .slice (some ⟨g, 0, none⟩) l.length wc] wr fun e w' => e = .returned (.bool true) ∧ Below wr.heap.size wr w') := CSM
        have HBE : Hid (Below w.heap.size w wr) := HB6.out.trans (hbr.mono HB6.out.size)
        rw [hsame]
        clear hM X9 hW9 CSM hbr hsame hcl hKL hpl
        go_wp2_with fail
        refine HCS.out.mono ?_
        rintro e w9 ⟨rfl, hb9⟩
        go_wp2_with fail
        go_ret
        exact ⟨rfl, HBE.out.trans (hb9.mono HBE.out.size)⟩
  · obtain ⟨hKe, hjop, hfine, hjst, hjnb, rfl, rfl, rfl⟩ := hcs
    have HFI : Hid (∀ i, i < j → FineAt l names stop i) := hfine
    have HJ : Hid ((l.getD j nd0).op = 2 ∧ ((cntV l j + 1 : Nat) : Int) ≠ stop ∧ nameB (ansS names (cntV l j + 1) (l.getD j nd0).name) = false) := ⟨hjop, hjst, hjnb⟩
    have HKJ : Hid (K = j + 1) := hKe
    have hjl : j < l.length := by omega
    clear hfine hKe hjop hjst hjnb
    go_wp2_with fail
    refine (copyR A3 FA).mono ?_
    rintro e w4 ⟨o4, p4, rfl, D4, hb4⟩
    have T4 := T3.below hb4
    have bb4 : Below w.heap.size w w4 := bb3.trans (hb4.mono bb3.size)
    have A4 := A3.below hb4 hb4.size
    have N4 := N3.below hb4
    have Q4 := Q3.below hb4
    clear A3 N3 Q3 T3 hb4 bb3
    go_wp2_with fail
    refine (swap_nil w4 o4 p4 l fr T4 D4 HS.out).mono ?_
    rintro e w5 ⟨rfl, hb5⟩
    have bb5 : Below w.heap.size w w5 := bb4.trans (hb5.mono bb4.size)
    have A5 := A4.below hb5 hb5.size
    have N5 := N4.below hb5
    have Q5 := Q4.below hb5
    clear A4 N4 Q4 T4 D4 hb5 bb4
    go_wp2_with fail
    refine (rchkR A5 FA 0 HK.out).mono ?_
    rintro e w6 ⟨rfl, hb6⟩
    have bb6 : Below w.heap.size w w6 := bb5.trans (hb6.mono bb5.size)
    have A6 := A5.below hb6 hb6.size
    have N6 := N5.below hb6
    have Q6 := Q5.below hb6
    clear A5 N5 Q5 hb6 bb5
    go_wp2_with fail
    refine (copy_any _ l w6 _ (Nat.le_refl _) A6 FA.len FA.kids).mono ?_
    rintro e w7 ⟨vw, rfl, ⟨p0, hp0, hO7⟩, hb7⟩
    have hpl0 : p0.length = l.length := by have := congrArg List.length hp0; simpa using this
    have hl0 := (begL_some HS.out).1
    obtain ⟨g, wc, hvw, hgB⟩ : ∃ g wc, vw = .slice (some ⟨g, 0, none⟩) l.length wc ∧ w6.heap.size ≤ g := by
      rcases hO7.row.2 with ⟨rfl, h0⟩ | ⟨g, c, cur, rfl, hb, _⟩
      · omega
      · exact ⟨g, c, by rw [hpl0], hb⟩
    subst hvw
    have hwc : wc ≤ maxLen := by
      have hrow := hO7.row
      rw [hpl0] at hrow
      rcases hrow.2 with ⟨h, _⟩ | ⟨g', c, cur, h, _, _, _, hm, _⟩
      · cases h
      · cases h; exact hm
    unfold maxLen at hwc
    have HM0 : Hid (LMid w6 l names (.slice (some ⟨g, 0, none⟩) l.length wc) 0 p0 w7) := ⟨hO7, by rw [hp0, swL_zero], hb7⟩
    have HB6 : Hid (Below w.heap.size w w6) := bb6
    have HA6 : Hid (Rd w6 ao cap l) := A6
    have HN6 : Hid (Strs w6 na nc names) := N6
    have HQ6 : Hid (Strs w6 qa qc (vsL (l.take K))) := Q6
    clear hO7 hp0 hb7 bb6 A6 N6 Q6 hpl0
    go_wp2_with fail
    go_loopw [14, 15] (fun n i wr => ∃ (k : Nat) (p : List (Nd × Value)), k ≤ j ∧ i = .int .i64 k ∧ n = .int .i64 (cntV l k) ∧ LMid w6 l names (.slice (some ⟨g, 0, none⟩) l.length wc) k p wr) (fun _ i _ => l.length - (RowKit.intOf i).toNat)
    case atStart => exact ⟨0, p0, by omega, rfl, by simp [cntV, vsL], HM0.out⟩
    case round =>
      obtain ⟨k, p, hk, rfl, rfl, hM⟩ := hrel
      clear HM0
      have HM : Hid (LMid w6 l names (.slice (some ⟨g, 0, none⟩) l.length wc) k p wr) := hM
      have hpl : p.length = l.length := by have := congrArg List.length hM.nodes; rw [swL_len] at this; simpa using this
      have hbr := hM.below
      have hsr := hbr.size
      have hcl := cntV_le l k
      by_cases hlt : k < l.length
      · obtain ⟨be, oe, kve, rfl, hbe, hnd⟩ := (HA6.out.below hbr hbr.size).cell hlt
        obtain ⟨x, hx⟩ : ∃ x, l.getD k nd0 = x := ⟨_, rfl⟩
        rw [hx] at hnd
        obtain ⟨c0, c1, c2, c3, hI⟩ := hnd
        have HX : Hid (l.getD k nd0 = x) := hx
        clear hI hx c1 c3
        obtain ⟨op, n, nm, kids⟩ := x
        simp only at c0 c2
        have HPL : Hid (p.length = l.length) := hpl
        clear hpl
        by_cases hop : op = 2
        · subst hop
          have hkK : k < K := by have := HKJ.out; omega
          obtain ⟨hqlt, hqv⟩ := vs_at l hkK hK (by rw [HX.out])
          rw [HX.out] at hqv
          obtain ⟨bq, oq, rfl, hbq, hcq⟩ := (HQ6.out.below hbr).cell hqlt
          rw [hqv] at hcq
          rw [HQL.out] at hqlt
          simp only at hcq
          obtain ⟨kv, hpk, hcw, hfw, hgl⟩ := own_node (k := k) (by rw [HPL.out]; exact HM.out.own) (by rw [HPL.out]; exact hlt)
          have hxk : (p.map (·.1)).getD k nd0 = ⟨2, n, nm, kids⟩ := by rw [HM.out.nodes, swL_at _ _ _ _ hlt, if_neg (by omega), HX.out]
          rw [hxk] at hpk hcw
          simp only at hcw
          have HPK : Hid (p[k]? = some (⟨2, n, nm, kids⟩, kv)) := hpk
          obtain ⟨s, hs⟩ : ∃ s, ansS names (cntV l k + 1) nm = s := ⟨_, rfl⟩
          have HSN : Hid (ansS names (cntV l k + 1) nm = s) := hs
          have hsz := HFN.out k (cntV l k + 1)
          rw [HX.out] at hsz
          simp only [hs] at hsz
          have HSZ : Hid (s.size ≤ maxLen) := hsz
          have HCS : Hid (cntV l (k + 1) = cntV l k + 1) := by rw [Hid, cntV_succ l k hlt, HX.out, if_pos rfl]
          have hcl64 : cntV l k ≤ 64 := by omega
          have hqle : ¬ ((QL : Int) < (cntV l k : Int) + 1) := by omega
          have hgd : decide ((QL : Int) < (cntV l k : Int) + 1) = false := by simp; omega
          have hqlt' : (cntV l k : Int) < (QL : Int) := by omega
          clear hM hqv hxk hs hsz hpk hbr
          by_cases hkj : k < j
          · have HNB : Hid (nameB s = true) := by
              rw [Hid, ← HSN.out]
              have := (HFI.out k (by omega) (by rw [HX.out])).2
              rw [HX.out] at this
              exact this
            have hst : ((cntV l k : Int) + 1 == stop) = false := by
              have := (HFI.out k (by omega) (by rw [HX.out])).1
              simp only [beq_eq_false_iff_ne, ne_eq]
              omega
            by_cases hle : cntV l k + 1 ≤ names.length
            · obtain ⟨bn, on, rfl, hbn, hcn⟩ := (HN6.out.below HM.out.below).cell (j := cntV l k) (by omega)
              have hsn : names.getD (cntV l k) ⟨#[]⟩ = s := by rw [← HSN.out]; unfold ansS; rw [if_pos hle, Nat.add_sub_cancel]
              rw [hsn] at hcn
              have hle' : (cntV l k : Int) + 1 ≤ (names.length : Int) := by omega
              have hle2 : (cntV l k : Int) < (names.length : Int) := by omega
              have HNX : Hid (∀ q V, Below ((wr.drewN q).setCell ⟨g, k * 4 + 2, none⟩ (.string s)).heap.size ((wr.drewN q).setCell ⟨g, k * 4 + 2, none⟩ (.string s)) V → LMid w6 l names (.slice (some ⟨g, 0, none⟩) l.length wc) (k + 1) (p.set k (⟨2, n, s, kids⟩, kv)) V) := fun q V hV => by
                have hdq : Below wr.heap.size wr (wr.drewN q) := below_drewN' (Below.refl _ _) q
                refine ⟨?_, ?_, ?_⟩
                · have h1 := ownP_put (s := s) (k := k) (by rw [HPL.out]; exact HM.out.own.below hdq) HPK.out
                  rw [HPL.out] at h1
                  exact OwnP.below h1 hV
                · rw [List.map_set, HM.out.nodes, swL_succ l names k hlt, HX.out]
                  congr 1
                  unfold swN
                  rw [if_pos rfl]
                  simp only
                  rw [HSN.out]
                · have h2 : Below w6.heap.size w6 ((wr.drewN q).setCell ⟨g, k * 4 + 2, none⟩ (.string s)) := (HM.out.below.trans (hdq.mono HM.out.below.size)).setCell (by show w6.heap.size ≤ g; exact hgB) _
                  exact h2.trans (hV.mono h2.size)
              clear hsn
              go_wp2_with fail
              go_quiet (fail)
              go_wp2_with fail
              refine (refName_any s _ HSZ.out).mono ?_
              rintro e w9 ⟨rfl, hb9⟩
              have HNX9 := HNX.out _ w9 hb9
              have HN9 : Hid (LMid w6 l names (.slice (some ⟨g, 0, none⟩) l.length wc) (k + 1) (p.set k (⟨2, n, s, kids⟩, kv)) w9) := HNX9
              clear HNX9 hb9 HNX
              rw [HNB.out]
              go_wp2_with fail
              first | exact ⟨⟨k + 1, _, by omega, by go_num, by rw [HCS.out]; go_num, HN9.out⟩, by simp [RowKit.intOf]; omega⟩ | exact ⟨⟨k + 1, by omega, by go_num, by rw [HCS.out]; go_num, _, HN9.out⟩, by simp [RowKit.intOf]; omega⟩
            · have hsn : s = nm := by rw [← HSN.out]; unfold ansS; rw [if_neg hle]
              have hle' : ¬ ((cntV l k : Int) + 1 ≤ (names.length : Int)) := by omega
              have HNX : Hid (∀ q V, Below (wr.drewN q).heap.size (wr.drewN q) V → LMid w6 l names (.slice (some ⟨g, 0, none⟩) l.length wc) (k + 1) p V) := fun q V hV => by
                have hdq : Below wr.heap.size wr (wr.drewN q) := below_drewN' (Below.refl _ _) q
                have hdV : Below wr.heap.size wr V := hdq.trans (hV.mono hdq.size)
                refine ⟨HM.out.own.below hdV, ?_, HM.out.below.trans (hdV.mono HM.out.below.size)⟩
                rw [HM.out.nodes, swL_keep l names k hlt]
                rw [HX.out]
                unfold swN
                rw [if_pos rfl]
                simp only
                rw [HSN.out, hsn]
              rw [← hsn] at hcw
              have HSE : Hid (s = nm) := hsn
              clear hsn
              go_wp2_with fail
              go_quiet (fail)
              go_wp2_with fail
              refine (refName_any s _ HSZ.out).mono ?_
              rintro e w9 ⟨rfl, hb9⟩
              have HN9 : Hid (LMid w6 l names (.slice (some ⟨g, 0, none⟩) l.length wc) (k + 1) p w9) := HNX.out _ w9 hb9
              clear hb9 HNX
              rw [HNB.out]
              go_wp2_with fail
              first | exact ⟨⟨k + 1, _, by omega, by go_num, by rw [HCS.out]; go_num, HN9.out⟩, by simp [RowKit.intOf]; omega⟩ | exact ⟨⟨k + 1, by omega, by go_num, by rw [HCS.out]; go_num, _, HN9.out⟩, by simp [RowKit.intOf]; omega⟩
          · have hkj2 : k = j := by omega
            have HNB : Hid (nameB s = false) := by
              rw [Hid, ← HSN.out]
              have := HJ.out.2.2
              rw [← hkj2, HX.out] at this
              exact this
            have hst : ((cntV l k : Int) + 1 == stop) = false := by
              have := HJ.out.2.1
              rw [← hkj2] at this
              simp only [beq_eq_false_iff_ne, ne_eq]
              omega
            have hQe : QL = cntV l k + 1 := by
              rw [← HQL.out, HKJ.out, ← hkj2]; exact HCS.out
            have hQd : ((QL : Int) == (cntV l k : Int) + 1) = true := by simp; omega
            clear hkj2 hQe
            by_cases hle : cntV l k + 1 ≤ names.length
            · obtain ⟨bn, on, rfl, hbn, hcn⟩ := (HN6.out.below HM.out.below).cell (j := cntV l k) (by omega)
              have hsn : names.getD (cntV l k) ⟨#[]⟩ = s := by rw [← HSN.out]; unfold ansS; rw [if_pos hle, Nat.add_sub_cancel]
              rw [hsn] at hcn
              have hle' : (cntV l k : Int) + 1 ≤ (names.length : Int) := by omega
              have hle2 : (cntV l k : Int) < (names.length : Int) := by omega
              have HNX : Hid (∀ q V, Below ((wr.drewN q).setCell ⟨g, k * 4 + 2, none⟩ (.string s)).heap.size ((wr.drewN q).setCell ⟨g, k * 4 + 2, none⟩ (.string s)) V → LMid w6 l names (.slice (some ⟨g, 0, none⟩) l.length wc) (k + 1) (p.set k (⟨2, n, s, kids⟩, kv)) V) := fun q V hV => by
                have hdq : Below wr.heap.size wr (wr.drewN q) := below_drewN' (Below.refl _ _) q
                refine ⟨?_, ?_, ?_⟩
                · have h1 := ownP_put (s := s) (k := k) (by rw [HPL.out]; exact HM.out.own.below hdq) HPK.out
                  rw [HPL.out] at h1
                  exact OwnP.below h1 hV
                · rw [List.map_set, HM.out.nodes, swL_succ l names k hlt, HX.out]
                  congr 1
                  unfold swN
                  rw [if_pos rfl]
                  simp only
                  rw [HSN.out]
                · have h2 : Below w6.heap.size w6 ((wr.drewN q).setCell ⟨g, k * 4 + 2, none⟩ (.string s)) := (HM.out.below.trans (hdq.mono HM.out.below.size)).setCell (by show w6.heap.size ≤ g; exact hgB) _
                  exact h2.trans (hV.mono h2.size)
              clear hsn
              go_wp2_with fail
              go_quiet (fail)
              go_wp2_with fail
              refine (refName_any s _ HSZ.out).mono ?_
              rintro e w9 ⟨rfl, hb9⟩
              have HNX9 := HNX.out _ w9 hb9
              have HN9 : Hid (LMid w6 l names (.slice (some ⟨g, 0, none⟩) l.length wc) (k + 1) (p.set k (⟨2, n, s, kids⟩, kv)) w9) := HNX9
              clear HNX9 hb9 HNX
              rw [HNB.out]
              have HBE : Hid (Below w.heap.size w w9) := HB6.out.trans (HN9.out.below.mono HB6.out.size)
              go_wp2_with fail
              go_ret
              exact ⟨rfl, HBE.out⟩
            · have hsn : s = nm := by rw [← HSN.out]; unfold ansS; rw [if_neg hle]
              have hle' : ¬ ((cntV l k : Int) + 1 ≤ (names.length : Int)) := by omega
              have HNX : Hid (∀ q V, Below (wr.drewN q).heap.size (wr.drewN q) V → LMid w6 l names (.slice (some ⟨g, 0, none⟩) l.length wc) (k + 1) p V) := fun q V hV => by
                have hdq : Below wr.heap.size wr (wr.drewN q) := below_drewN' (Below.refl _ _) q
                have hdV : Below wr.heap.size wr V := hdq.trans (hV.mono hdq.size)
                refine ⟨HM.out.own.below hdV, ?_, HM.out.below.trans (hdV.mono HM.out.below.size)⟩
                rw [HM.out.nodes, swL_keep l names k hlt]
                rw [HX.out]
                unfold swN
                rw [if_pos rfl]
                simp only
                rw [HSN.out, hsn]
              rw [← hsn] at hcw
              have HSE : Hid (s = nm) := hsn
              clear hsn
              go_wp2_with fail
              go_quiet (fail)
              go_wp2_with fail
              refine (refName_any s _ HSZ.out).mono ?_
              rintro e w9 ⟨rfl, hb9⟩
              have HN9 : Hid (LMid w6 l names (.slice (some ⟨g, 0, none⟩) l.length wc) (k + 1) p w9) := HNX.out _ w9 hb9
              clear hb9 HNX
              rw [HNB.out]
              have HBE : Hid (Below w.heap.size w w9) := HB6.out.trans (HN9.out.below.mono HB6.out.size)
              go_wp2_with fail
              go_ret
              exact ⟨rfl, HBE.out⟩
        · have hop' : (op == 2) = false := by simp [hop]
          have HNX : Hid (LMid w6 l names (.slice (some ⟨g, 0, none⟩) l.length wc) (k + 1) p wr) := ⟨HM.out.own, by rw [HM.out.nodes, swL_not l names k hlt (by rw [HX.out]; exact hop)], HM.out.below⟩
          have HCS : Hid (cntV l (k + 1) = cntV l k) := by rw [Hid, cntV_succ l k hlt, HX.out, if_neg hop]; omega
          have hkE : k < j := by
            by_cases e : k = j
            · subst e; have h2 := HJ.out.1; rw [HX.out] at h2; exact absurd h2 hop
            · omega
          clear hM hbr
          go_wp2_with fail
          first | exact ⟨⟨k + 1, p, by omega, by go_num, by rw [HCS.out], HNX.out⟩, by simp [RowKit.intOf]; omega⟩ | exact ⟨⟨k + 1, by omega, by go_num, by rw [HCS.out], p, HNX.out⟩, by simp [RowKit.intOf]; omega⟩
      · omega
  · obtain ⟨hKe, hjop, hfine, hjst, rfl, rfl, rfl⟩ := hcs
    have HFI : Hid (∀ i, i < j → FineAt l names stop i) := hfine
    have HJ : Hid ((l.getD j nd0).op = 2 ∧ ((cntV l j + 1 : Nat) : Int) = stop) := ⟨hjop, hjst⟩
    have HKJ : Hid (K = j + 1) := hKe
    have hjl : j < l.length := by omega
    clear hfine hKe hjop hjst
    unfold stopV
    go_wp2_with fail
    refine (copyR A3 FA).mono ?_
    rintro e w4 ⟨o4, p4, rfl, D4, hb4⟩
    have T4 := T3.below hb4
    have bb4 : Below w.heap.size w w4 := bb3.trans (hb4.mono bb3.size)
    have A4 := A3.below hb4 hb4.size
    have N4 := N3.below hb4
    have Q4 := Q3.below hb4
    clear A3 N3 Q3 T3 hb4 bb3
    go_wp2_with fail
    refine (swap_nil w4 o4 p4 l fr T4 D4 HS.out).mono ?_
    rintro e w5 ⟨rfl, hb5⟩
    have bb5 : Below w.heap.size w w5 := bb4.trans (hb5.mono bb4.size)
    have A5 := A4.below hb5 hb5.size
    have N5 := N4.below hb5
    have Q5 := Q4.below hb5
    clear A4 N4 Q4 T4 D4 hb5 bb4
    go_wp2_with fail
    refine (rchkR A5 FA 0 HK.out).mono ?_
    rintro e w6 ⟨rfl, hb6⟩
    have bb6 : Below w.heap.size w w6 := bb5.trans (hb6.mono bb5.size)
    have A6 := A5.below hb6 hb6.size
    have N6 := N5.below hb6
    have Q6 := Q5.below hb6
    clear A5 N5 Q5 hb6 bb5
    go_wp2_with fail
    refine (copy_any _ l w6 _ (Nat.le_refl _) A6 FA.len FA.kids).mono ?_
    rintro e w7 ⟨vw, rfl, ⟨p0, hp0, hO7⟩, hb7⟩
    have hpl0 : p0.length = l.length := by have := congrArg List.length hp0; simpa using this
    have hl0 := (begL_some HS.out).1
    obtain ⟨g, wc, hvw, hgB⟩ : ∃ g wc, vw = .slice (some ⟨g, 0, none⟩) l.length wc ∧ w6.heap.size ≤ g := by
      rcases hO7.row.2 with ⟨rfl, h0⟩ | ⟨g, c, cur, rfl, hb, _⟩
      · omega
      · exact ⟨g, c, by rw [hpl0], hb⟩
    subst hvw
    have hwc : wc ≤ maxLen := by
      have hrow := hO7.row
      rw [hpl0] at hrow
      rcases hrow.2 with ⟨h, _⟩ | ⟨g', c, cur, h, _, _, _, hm, _⟩
      · cases h
      · cases h; exact hm
    unfold maxLen at hwc
    have HM0 : Hid (LMid w6 l names (.slice (some ⟨g, 0, none⟩) l.length wc) 0 p0 w7) := ⟨hO7, by rw [hp0, swL_zero], hb7⟩
    have HB6 : Hid (Below w.heap.size w w6) := bb6
    have HA6 : Hid (Rd w6 ao cap l) := A6
    have HN6 : Hid (Strs w6 na nc names) := N6
    have HQ6 : Hid (Strs w6 qa qc (vsL (l.take K))) := Q6
    clear hO7 hp0 hb7 bb6 A6 N6 Q6 hpl0
    go_wp2_with fail
    go_loopw [14, 15] (fun n i wr => ∃ (k : Nat) (p : List (Nd × Value)), k ≤ j ∧ i = .int .i64 k ∧ n = .int .i64 (cntV l k) ∧ LMid w6 l names (.slice (some ⟨g, 0, none⟩) l.length wc) k p wr) (fun _ i _ => l.length - (RowKit.intOf i).toNat)
    case atStart => exact ⟨0, p0, by omega, rfl, by simp [cntV, vsL], HM0.out⟩
    case round =>
      obtain ⟨k, p, hk, rfl, rfl, hM⟩ := hrel
      clear HM0
      have HM : Hid (LMid w6 l names (.slice (some ⟨g, 0, none⟩) l.length wc) k p wr) := hM
      have hpl : p.length = l.length := by have := congrArg List.length hM.nodes; rw [swL_len] at this; simpa using this
      have hbr := hM.below
      have hsr := hbr.size
      have hcl := cntV_le l k
      by_cases hlt : k < l.length
      · obtain ⟨be, oe, kve, rfl, hbe, hnd⟩ := (HA6.out.below hbr hbr.size).cell hlt
        obtain ⟨x, hx⟩ : ∃ x, l.getD k nd0 = x := ⟨_, rfl⟩
        rw [hx] at hnd
        obtain ⟨c0, c1, c2, c3, hI⟩ := hnd
        have HX : Hid (l.getD k nd0 = x) := hx
        clear hI hx c1 c3
        obtain ⟨op, n, nm, kids⟩ := x
        simp only at c0 c2
        have HPL : Hid (p.length = l.length) := hpl
        clear hpl
        by_cases hop : op = 2
        · subst hop
          have hkK : k < K := by have := HKJ.out; omega
          obtain ⟨hqlt, hqv⟩ := vs_at l hkK hK (by rw [HX.out])
          rw [HX.out] at hqv
          obtain ⟨bq, oq, rfl, hbq, hcq⟩ := (HQ6.out.below hbr).cell hqlt
          rw [hqv] at hcq
          rw [HQL.out] at hqlt
          simp only at hcq
          obtain ⟨kv, hpk, hcw, hfw, hgl⟩ := own_node (k := k) (by rw [HPL.out]; exact HM.out.own) (by rw [HPL.out]; exact hlt)
          have hxk : (p.map (·.1)).getD k nd0 = ⟨2, n, nm, kids⟩ := by rw [HM.out.nodes, swL_at _ _ _ _ hlt, if_neg (by omega), HX.out]
          rw [hxk] at hpk hcw
          simp only at hcw
          have HPK : Hid (p[k]? = some (⟨2, n, nm, kids⟩, kv)) := hpk
          obtain ⟨s, hs⟩ : ∃ s, ansS names (cntV l k + 1) nm = s := ⟨_, rfl⟩
          have HSN : Hid (ansS names (cntV l k + 1) nm = s) := hs
          have hsz := HFN.out k (cntV l k + 1)
          rw [HX.out] at hsz
          simp only [hs] at hsz
          have HSZ : Hid (s.size ≤ maxLen) := hsz
          have HCS : Hid (cntV l (k + 1) = cntV l k + 1) := by rw [Hid, cntV_succ l k hlt, HX.out, if_pos rfl]
          have hcl64 : cntV l k ≤ 64 := by omega
          have hqle : ¬ ((QL : Int) < (cntV l k : Int) + 1) := by omega
          have hgd : decide ((QL : Int) < (cntV l k : Int) + 1) = false := by simp; omega
          have hqlt' : (cntV l k : Int) < (QL : Int) := by omega
          clear hM hqv hxk hs hsz hpk hbr
          by_cases hkj : k < j
          · have HNB : Hid (nameB s = true) := by
              rw [Hid, ← HSN.out]
              have := (HFI.out k (by omega) (by rw [HX.out])).2
              rw [HX.out] at this
              exact this
            have hst : ((cntV l k : Int) + 1 == stop) = false := by
              have := (HFI.out k (by omega) (by rw [HX.out])).1
              simp only [beq_eq_false_iff_ne, ne_eq]
              omega
            by_cases hle : cntV l k + 1 ≤ names.length
            · obtain ⟨bn, on, rfl, hbn, hcn⟩ := (HN6.out.below HM.out.below).cell (j := cntV l k) (by omega)
              have hsn : names.getD (cntV l k) ⟨#[]⟩ = s := by rw [← HSN.out]; unfold ansS; rw [if_pos hle, Nat.add_sub_cancel]
              rw [hsn] at hcn
              have hle' : (cntV l k : Int) + 1 ≤ (names.length : Int) := by omega
              have hle2 : (cntV l k : Int) < (names.length : Int) := by omega
              have HNX : Hid (∀ q V, Below ((wr.drewN q).setCell ⟨g, k * 4 + 2, none⟩ (.string s)).heap.size ((wr.drewN q).setCell ⟨g, k * 4 + 2, none⟩ (.string s)) V → LMid w6 l names (.slice (some ⟨g, 0, none⟩) l.length wc) (k + 1) (p.set k (⟨2, n, s, kids⟩, kv)) V) := fun q V hV => by
                have hdq : Below wr.heap.size wr (wr.drewN q) := below_drewN' (Below.refl _ _) q
                refine ⟨?_, ?_, ?_⟩
                · have h1 := ownP_put (s := s) (k := k) (by rw [HPL.out]; exact HM.out.own.below hdq) HPK.out
                  rw [HPL.out] at h1
                  exact OwnP.below h1 hV
                · rw [List.map_set, HM.out.nodes, swL_succ l names k hlt, HX.out]
                  congr 1
                  unfold swN
                  rw [if_pos rfl]
                  simp only
                  rw [HSN.out]
                · have h2 : Below w6.heap.size w6 ((wr.drewN q).setCell ⟨g, k * 4 + 2, none⟩ (.string s)) := (HM.out.below.trans (hdq.mono HM.out.below.size)).setCell (by show w6.heap.size ≤ g; exact hgB) _
                  exact h2.trans (hV.mono h2.size)
              clear hsn
              go_wp2_with fail
              go_quiet (fail)
              go_wp2_with fail
              refine (refName_any s _ HSZ.out).mono ?_
              rintro e w9 ⟨rfl, hb9⟩
              have HNX9 := HNX.out _ w9 hb9
              have HN9 : Hid (LMid w6 l names (.slice (some ⟨g, 0, none⟩) l.length wc) (k + 1) (p.set k (⟨2, n, s, kids⟩, kv)) w9) := HNX9
              clear HNX9 hb9 HNX
              rw [HNB.out]
              go_wp2_with fail
              first | exact ⟨⟨k + 1, _, by omega, by go_num, by rw [HCS.out]; go_num, HN9.out⟩, by simp [RowKit.intOf]; omega⟩ | exact ⟨⟨k + 1, by omega, by go_num, by rw [HCS.out]; go_num, _, HN9.out⟩, by simp [RowKit.intOf]; omega⟩
            · have hsn : s = nm := by rw [← HSN.out]; unfold ansS; rw [if_neg hle]
              have hle' : ¬ ((cntV l k : Int) + 1 ≤ (names.length : Int)) := by omega
              have HNX : Hid (∀ q V, Below (wr.drewN q).heap.size (wr.drewN q) V → LMid w6 l names (.slice (some ⟨g, 0, none⟩) l.length wc) (k + 1) p V) := fun q V hV => by
                have hdq : Below wr.heap.size wr (wr.drewN q) := below_drewN' (Below.refl _ _) q
                have hdV : Below wr.heap.size wr V := hdq.trans (hV.mono hdq.size)
                refine ⟨HM.out.own.below hdV, ?_, HM.out.below.trans (hdV.mono HM.out.below.size)⟩
                rw [HM.out.nodes, swL_keep l names k hlt]
                rw [HX.out]
                unfold swN
                rw [if_pos rfl]
                simp only
                rw [HSN.out, hsn]
              rw [← hsn] at hcw
              have HSE : Hid (s = nm) := hsn
              clear hsn
              go_wp2_with fail
              go_quiet (fail)
              go_wp2_with fail
              refine (refName_any s _ HSZ.out).mono ?_
              rintro e w9 ⟨rfl, hb9⟩
              have HN9 : Hid (LMid w6 l names (.slice (some ⟨g, 0, none⟩) l.length wc) (k + 1) p w9) := HNX.out _ w9 hb9
              clear hb9 HNX
              rw [HNB.out]
              go_wp2_with fail
              first | exact ⟨⟨k + 1, _, by omega, by go_num, by rw [HCS.out]; go_num, HN9.out⟩, by simp [RowKit.intOf]; omega⟩ | exact ⟨⟨k + 1, by omega, by go_num, by rw [HCS.out]; go_num, _, HN9.out⟩, by simp [RowKit.intOf]; omega⟩
          · have hkj2 : k = j := by omega
            have hst : ((cntV l k : Int) + 1 == stop) = true := by
              have := HJ.out.2
              rw [← hkj2] at this
              simp; omega
            have hQe : QL = cntV l k + 1 := by
              rw [← HQL.out, HKJ.out, ← hkj2]; exact HCS.out
            have hQd : ((QL : Int) == (cntV l k : Int) + 1) = true := by simp; omega
            clear hkj2 hQe
            have hts := taStop
            have HBE : Hid (∀ q, Below w.heap.size w (wr.drewN q)) := fun q => below_drewN' (HB6.out.trans (HM.out.below.mono HB6.out.size)) q
            go_wp2_with fail
            go_quiet (fail)
            generalize hW9 : wr.drewN nq = W9
            have HB9 : Hid (Below w.heap.size w W9) := by rw [Hid, ← hW9]; exact HBE.out _
            clear hW9
            go_wp2_with fail
            go_ret
            refine ⟨rfl, ?_⟩
            exact HB9.out.alloc HB9.out.size _
        · have hop' : (op == 2) = false := by simp [hop]
          have HNX : Hid (LMid w6 l names (.slice (some ⟨g, 0, none⟩) l.length wc) (k + 1) p wr) := ⟨HM.out.own, by rw [HM.out.nodes, swL_not l names k hlt (by rw [HX.out]; exact hop)], HM.out.below⟩
          have HCS : Hid (cntV l (k + 1) = cntV l k) := by rw [Hid, cntV_succ l k hlt, HX.out, if_neg hop]; omega
          have hkE : k < j := by
            by_cases e : k = j
            · subst e; have h2 := HJ.out.1; rw [HX.out] at h2; exact absurd h2 hop
            · omega
          clear hM hbr
          go_wp2_with fail
          first | exact ⟨⟨k + 1, p, by omega, by go_num, by rw [HCS.out], HNX.out⟩, by simp [RowKit.intOf]; omega⟩ | exact ⟨⟨k + 1, by omega, by go_num, by rw [HCS.out], p, HNX.out⟩, by simp [RowKit.intOf]; omega⟩
      · omega

theorem swaps_walk (w : World) (ao na : Option Addr) (cap nc : Nat) (l : List Nd) (names : List ByteArray) (stop : Int) (T0 : SpanCells w) (A0 : Rd w ao cap l) (N0 : Strs w na nc names) (hns : ∀ s ∈ names, s.size ≤ maxLen) (FA : Fit l) :
    Calls Tryd.prog 5 #[.slice ao l.length cap, .slice na names.length nc, .int .i64 stop] w fun e w' => e = .returned (.bool true) ∧ Below w.heap.size w w' := by
  cases h : begL l with
  | none => exact swaps_none w ao na cap nc l names stop T0 A0 FA h
  | some fr => exact swaps_some w ao na cap nc l names stop T0 A0 N0 hns FA fr h
end Go.Proofs.YtfhfokceeidhcaaDoor
