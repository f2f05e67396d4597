/-
  TgW4, TbW5.
-/
import Derived.Test.YtlbmijcpalfaeaaGreatDoorP21
set_option linter.unusedSimpArgs false
set_option linter.unusedVariables false
set_option linter.unusedSectionVars false
namespace Go.Proofs.YtlbmijcpalfaeaaGreatDoor.Gt
open Go.RowKit Go.Lib Go.Sort
variable [Gr]

set_option maxRecDepth 20000 in
set_option maxHeartbeats 2000000 in
theorem sizeOf_any (w : World) (p : Nat) (ev mv : Value) (L : List Nd) (x : Nd) (h : TbR w p ev mv L) (hf : formB x = true) (hk : ∀ k ∈ x.kids, 0 ≤ k ∧ k < (L.length : Int)) :
    Calls Tryz.prog 106 #[.pointer (some ⟨p, 0, none⟩), shV x] w fun e w' => e = .returned (.int .i64 (szK (szL L) 1 x.kids : Nat)) ∧ Below w.heap.size w w' := by
  have cp : Hid (∀ W, Calls Tryz.prog 115 #[shV x] W fun e w' => ∃ ao cap, e = .returned (.slice ao x.kids.length cap) ∧ OwnI w' W.heap.size (.slice ao x.kids.length cap) x.kids ∧ Below W.heap.size W w') := fun W => (parts_any x W hf).mono fun e w' ⟨v, h1, h2, h3⟩ => by
    obtain ⟨ao, cap, rfl⟩ := h2.form'
    exact ⟨ao, cap, h1, h2, h3⟩
  have h3 := formB_kids hf
  have HM : Hid (TbR w p ev mv L) := h
  obtain ⟨op, n, nm, ks⟩ := x
  simp only at cp hk h3 ⊢
  unfold shV at *
  simp only at cp ⊢
  generalize ks.getD 0 0 = k0 at *
  generalize ks.getD 1 0 = k1 at *
  generalize ks.getD 2 0 = k2 at *
  have HK : Hid (∀ k ∈ ks, 0 ≤ k ∧ k < (L.length : Int)) := hk
  have hpl := h.lt
  obtain ⟨w1, hw1⟩ : ∃ w1, w.alloc (.cells #[.int .i64 op, .int .i64 n, .string nm, .int .i64 k0, .int .i64 k1, .int .i64 k2] 143) = w1 := ⟨_, rfl⟩
  have HB1 : Hid (Below w.heap.size w w1) := by rw [← hw1]; exact (Below.refl _ _).alloc (Nat.le_refl _) _
  have hb : w1.heap[w.heap.size]? = some (.cells #[.int .i64 op, .int .i64 n, .string nm, .int .i64 k0, .int .i64 k1, .int .i64 k2] 143 (0, 0)) := by rw [← hw1, Deep.blk_alloc_new]
  obtain ⟨c0, c1, c2, c3, c4, c5, cf⟩ := blk6 hb
  have HW : Hid (w.alloc (.cells #[.int .i64 op, .int .i64 n, .string nm, .int .i64 k0, .int .i64 k1, .int .i64 k2] 143) = w1) := hw1
  clear hw1 hb cf h hk hf
  go_enter Tryz.func106, Tryz.ntmps106
  go_wp2_with fail
  rw [HW.out]
  go_wp2_with (go_at_call 115; refine (cp.out _).mono ?_; rintro e w2 ⟨ao, cap, rfl, hO, hb2⟩)
  have HB2 : Hid (Below w.heap.size w w2) := HB1.out.trans (hb2.mono HB1.out.size)
  have HI : Hid (Ints w2 w2.heap.size (.slice ao ks.length cap) ks) := Ints_of_own hO (Nat.le_refl _)
  have HM2 : Hid (TbR w2 p ev mv L) := HM.out.below HB2.out
  clear hb2 hO c0 c1 c2 c3 c4 c5
  go_loopw [5, 11] (fun s i wr => ∃ k : Nat, k ≤ ks.length ∧ i = .int .i64 k ∧ s = .int .i64 (szK (szL L) 1 (ks.take k) : Nat) ∧ wr = w2) (fun _ i _ => ks.length - (RowKit.intOf i).toNat)
  case atStart => exact ⟨0, by omega, rfl, rfl, rfl⟩
  case round =>
    obtain ⟨k, hkl, rfl, rfl, rfl⟩ := hrel
    by_cases hlt : k < ks.length
    · obtain ⟨ao', cap', hv, hl, hm, hc⟩ := HI.out
      simp only [Value.slice.injEq, true_and] at hv
      obtain ⟨rfl, rfl⟩ := hv
      obtain ⟨b, o, rfl, hbl, hc⟩ : ∃ b o, ao = some ⟨b, o, none⟩ ∧ b < wr.heap.size ∧ ∀ j, j < ks.length → wr.cell? ⟨b, o + j, none⟩ = some (.int .i64 (ks.getD j 0)) := by
        rcases hc with h | h
        · subst h; simp at hlt
        · exact h
      have ck := hc k hlt
      have hr := HK.out (ks.getD k 0) (by simp [hlt])
      have hs1 := szK_le (szL L) (ks.take k) 1 (by omega)
      have HST : Hid (szK (szL L) 1 (ks.take (k + 1)) = min 1073741824 (szK (szL L) 1 (ks.take k) + (szL L).getD (ks.getD k 0).toNat 0)) := by
        have : ks.take (k + 1) = ks.take k ++ [ks.getD k 0] := by rw [List.take_succ_eq_append_getElem hlt]; simp [hlt]
        show _ = _
        rw [this, szK_snoc]
      have hzb := szL_bd L (ks.getD k 0).toNat
      obtain ⟨q, hq, hql⟩ : ∃ q : Nat, ks.getD k 0 = q ∧ q < L.length := ⟨(ks.getD k 0).toNat, by omega, by omega⟩
      rw [hq] at ck HST hzb
      simp only [Int.toNat_natCast] at HST hzb
      obtain ⟨g, cap2, rfl, hg, hgl, hcc, hcm⟩ := HM2.out.row hql
      have ce := (HM2.out.at_ hql).c6
      have t0 := HM2.out.c0
      unfold maxLen at hcm
      have hqI : (q : Int) < (L.length : Int) := by omega
      have hltI : (k : Int) < (ks.length : Int) := by omega
      generalize szK (szL L) 1 (ks.take k) = s at *
      generalize (szL L).getD q 0 = z at *
      clear hc hm hl hr hq
      go_wp2_with fail
      refine ⟨⟨k + 1, by omega, by go_num, ?_, trivial⟩, by simp [RowKit.intOf]; omega⟩
      rw [HST.out, ← sz_step hs1]
    · have hke : k = ks.length := by omega
      subst hke
      have e1 : ks.take ks.length = ks := List.take_length
      rw [e1]
      go_wp2_with fail
      go_ret
      exact ⟨rfl, HB2.out⟩

set_option maxRecDepth 20000 in
set_option maxHeartbeats 4000000 in
theorem shapeOf_fit (w : World) (p : Nat) (ev mv : Value) (L : List Nd) (op n : Int) (nm : ByteArray) (ks : List Int) (ka : Option Addr) (kc : Nat) (h : TbM w p ev mv L) (hT : SpanCells w) (hI : Ints w w.heap.size (.slice ka ks.length kc) ks) (hf : fitB op n nm ks.length = true) (sv : Value) (er : Int)
    (hr : (ks.all (hasT L) = true ∧ sv = shV ⟨op, n, nm, ks⟩ ∧ er = 0) ∨ (ks.all (hasT L) = false ∧ sv = shV nd0 ∧ er = 2)) :
    Calls Tryz.prog 93 #[.pointer (some ⟨p, 0, none⟩), .agg #[.int .i64 op, .int .i64 n, .string nm, .slice ka ks.length kc]] w fun e w' => e = .returned (.tuple #[sv, .int .i64 er]) ∧ Below w.heap.size w w' := by
  have hk3 := formB_kids (x := ⟨op, n, nm, ks⟩) hf
  simp only at hk3
  have cf : Hid (∀ W, SpanCells W → Calls Tryz.prog 102 #[.agg #[.int .i64 op, .int .i64 n, .string nm, .slice ka ks.length kc]] W fun e w' => e = .returned (.bool true) ∧ Below W.heap.size W w') := fun W hW => by
    have := tfits_any op n nm ka ks.length kc W hW
    rw [hf] at this
    exact this
  have cs : Hid (∀ W, Ints W W.heap.size (.slice ka ks.length kc) ks → Calls Tryz.prog 104 #[.agg #[.int .i64 op, .int .i64 n, .string nm, .slice ka ks.length kc]] W fun e w' => e = .returned (shV ⟨op, n, nm, ks⟩) ∧ Below W.heap.size W w') := fun W hW => shaped_any op n nm ks ka kc W hW hk3
  have HM : Hid (TbM w p ev mv L) := h
  have HI : Hid (Ints w w.heap.size (.slice ka ks.length kc) ks) := hI
  have HR : Hid ((ks.all (hasT L) = true ∧ sv = shV ⟨op, n, nm, ks⟩ ∧ er = 0) ∨ (ks.all (hasT L) = false ∧ sv = shV nd0 ∧ er = 2)) := hr
  clear hr
  obtain ⟨w2, hw2⟩ : ∃ w2, (w.alloc (.cells #[.int .i64 op, .int .i64 n, .string nm, .slice ka ks.length kc] 41)).alloc (.cells #[.int .i64 0, .int .i64 0, .string ⟨#[]⟩, .int .i64 0, .int .i64 0, .int .i64 0] 143) = w2 := ⟨_, rfl⟩
  have HB2 : Hid (Below w.heap.size w w2) := by rw [← hw2]; exact ((Below.refl _ _).alloc (Nat.le_refl _) _).alloc (by simp) _
  have hb : w2.heap[w.heap.size]? = some (.cells #[.int .i64 op, .int .i64 n, .string nm, .slice ka ks.length kc] 41 (0, 0)) := by rw [← hw2, Deep.blk_alloc_lt _ _ _ (by simp), Deep.blk_alloc_new]
  have hb1 : w2.heap[w.heap.size + 1]? = some (.cells #[.int .i64 0, .int .i64 0, .string ⟨#[]⟩, .int .i64 0, .int .i64 0, .int .i64 0] 143 (0, 0)) := by
    rw [← hw2]
    have := Deep.blk_alloc_new (w.alloc (.cells #[.int .i64 op, .int .i64 n, .string nm, .slice ka ks.length kc] 41)) (.cells #[.int .i64 0, .int .i64 0, .string ⟨#[]⟩, .int .i64 0, .int .i64 0, .int .i64 0] 143)
    simpa using this
  have hsz2 : w2.heap.size = w.heap.size + 2 := by rw [← hw2]; simp
  have hT2 : SpanCells w2 := hT.below HB2.out
  obtain ⟨c0, c1, c2, c3, _⟩ := blk4 hb
  have HW : Hid ((w.alloc (.cells #[.int .i64 op, .int .i64 n, .string nm, .slice ka ks.length kc] 41)).alloc (.cells #[.int .i64 0, .int .i64 0, .string ⟨#[]⟩, .int .i64 0, .int .i64 0, .int .i64 0] 143) = w2) := hw2
  have HSZ : Hid (w2.heap.size = w.heap.size + 2) := hsz2
  have HBK : Hid (∀ W, Below w2.heap.size w2 W → W.heap[w.heap.size]? = some (.cells #[.int .i64 op, .int .i64 n, .string nm, .slice ka ks.length kc] 41 (0, 0)) ∧ W.heap[w.heap.size + 1]? = some (.cells #[.int .i64 0, .int .i64 0, .string ⟨#[]⟩, .int .i64 0, .int .i64 0, .int .i64 0] 143 (0, 0))) := fun W hW => ⟨(hW.block _ (by omega)).trans hb, (hW.block _ (by omega)).trans hb1⟩
  clear hw2 hb hb1 hsz2 h hI hf
  go_enter Tryz.func93, Tryz.ntmps93
  go_wp2_with fail
  rw [HW.out]
  go_wp2_with fail
  refine (cf.out _ hT2).mono ?_
  rintro e w3 ⟨rfl, hb3⟩
  obtain ⟨h30, h31⟩ := HBK.out w3 hb3
  have HB23 : Hid (Below w2.heap.size w2 w3) := hb3
  have HB3 : Hid (Below w.heap.size w w3) := HB2.out.trans (hb3.mono HB2.out.size)
  have HM3 : Hid (TbM w3 p ev mv L) := HM.out.below HB3.out
  have HI3 : Hid (Ints w3 w3.heap.size (.slice ka ks.length kc) ks) := HI.out.below HB3.out HB3.out.size
  obtain ⟨d0, d1, d2, d3, _⟩ := blk4 h30
  obtain ⟨r0, r1, r2, r3, r4, r5, rf⟩ := blk6 h31
  clear hb3 c0 c1 c2 c3
  go_wp2_with fail
  go_loopw [18] (fun i wr => ∃ k : Nat, k ≤ ks.length ∧ i = .int .i64 k ∧ (∀ j, j < k → hasT L (ks.getD j 0) = true) ∧ wr = w3) (fun i _ => ks.length - (RowKit.intOf i).toNat)
  case atStart => exact ⟨0, by omega, rfl, fun j hj => by omega, rfl⟩
  case round =>
    obtain ⟨k, hkl, rfl, hall, hwr⟩ := hrel
    have HA : Hid (∀ j, j < k → hasT L (ks.getD j 0) = true) := hall
    subst hwr
    clear hall
    by_cases hlt : k < ks.length
    · obtain ⟨ao', cap', hv, hl, hm, hc⟩ := HI3.out
      simp only [Value.slice.injEq, true_and] at hv
      obtain ⟨rfl, rfl⟩ := hv
      obtain ⟨b, o, rfl, hbl, hc⟩ : ∃ b o, ka = some ⟨b, o, none⟩ ∧ b < wr.heap.size ∧ ∀ j, j < ks.length → wr.cell? ⟨b, o + j, none⟩ = some (.int .i64 (ks.getD j 0)) := by
        rcases hc with h | h
        · subst h; simp at hlt
        · exact h
      have ck := hc k hlt
      have hm1 := hm.1
      unfold maxLen at hm1
      have hltI : (k : Int) < (ks.length : Int) := by omega
      have HKM : Hid (ks.getD k 0 ∈ ks) := by show _ ∈ _; simp [hlt]
      have HNX : Hid (hasT L (ks.getD k 0) = true → ∀ j, j < k + 1 → hasT L (ks.getD j 0) = true) := fun h j hj => by
        rcases Nat.lt_or_ge j k with h1 | h1
        · exact HA.out j h1
        · have : j = k := by omega
          subst this; exact h
      have HNO : Hid (hasT L (ks.getD k 0) = false → ks.all (hasT L) = false) := fun h => by
        rw [List.all_eq_false]
        exact ⟨_, HKM.out, by rw [h]; decide⟩
      have ch : Hid (Calls Tryz.prog 103 #[.pointer (some ⟨p, 0, none⟩), .int .i64 (ks.getD k 0)] wr fun e w' => e = .returned (.bool (hasT L (ks.getD k 0))) ∧ w' = wr) := thas_any wr p ev mv L _ HM3.out
      generalize ks.getD k 0 = q at *
      clear hc hm
      cases hq : hasT L q with
      | true =>
        have HNX2 := HNX.out hq
        rw [hq] at ch
        go_wp2_with (go_at_call 103; refine ch.out.mono ?_; rintro e w4 ⟨rfl, hw4⟩; subst hw4)
        exact ⟨⟨k + 1, by omega, by go_num, HNX2, trivial⟩, by simp [RowKit.intOf]; omega⟩
      | false =>
        have hno := HNO.out hq
        rw [hq] at ch
        obtain ⟨hsv, her⟩ : sv = shV nd0 ∧ er = 2 := by
          rcases HR.out with ⟨h1, _⟩ | ⟨_, h2⟩
          · rw [hno] at h1; cases h1
          · exact h2
        have HSV : Hid (sv = shV nd0 ∧ er = 2) := ⟨hsv, her⟩
        clear hsv her
        go_wp2_with (go_at_call 103; refine ch.out.mono ?_; rintro e w4 ⟨rfl, hw4⟩; subst hw4)
        have hS := set6 h31 (.int .i64 0) (.int .i64 0) (.string ⟨#[]⟩) (.int .i64 0) (.int .i64 0) (.int .i64 0)
        have HBE := below_set6 HB3.out (Nat.le_add_right _ 1) (.int .i64 0) (.int .i64 0) (.string ⟨#[]⟩) (.int .i64 0) (.int .i64 0) (.int .i64 0)
        generalize (((((w4.setCell ⟨w.heap.size + 1, 0, none⟩ (.int .i64 0)).setCell ⟨w.heap.size + 1, 1, none⟩ (.int .i64 0)).setCell ⟨w.heap.size + 1, 2, none⟩ (.string ⟨#[]⟩)).setCell ⟨w.heap.size + 1, 3, none⟩ (.int .i64 0)).setCell ⟨w.heap.size + 1, 4, none⟩ (.int .i64 0)).setCell ⟨w.heap.size + 1, 5, none⟩ (.int .i64 0) = W at *
        obtain ⟨y0, y1, y2, y3, y4, y5, _⟩ := blk6 hS
        refine bodyPost_ret (v := .tuple #[shV nd0, .int .i64 2]) (by simp [results, Tryz.results93, go_sem, y0, y1, y2, y3, y4, y5, shV, nd0]) rfl ⟨by rw [HSV.out.1, HSV.out.2], HBE⟩
    · have hke : k = ks.length := by omega
      subst hke
      obtain ⟨hsv, her⟩ : sv = shV ⟨op, n, nm, ks⟩ ∧ er = 0 := by
        rcases HR.out with ⟨_, h2⟩ | ⟨h1, _⟩
        · exact h2
        · rw [List.all_eq_false] at h1
          obtain ⟨q, hq, h2⟩ := h1
          obtain ⟨j, hj, rfl⟩ := List.mem_iff_getElem.1 hq
          have := HA.out j hj
          simp [hj] at this
          exact absurd this h2
      have HSV : Hid (sv = shV ⟨op, n, nm, ks⟩ ∧ er = 0) := ⟨hsv, her⟩
      have cs3 := cs.out wr HI3.out
      unfold shV at cs3
      simp only at cs3
      have HCS : Hid (Calls Tryz.prog 104 #[.agg #[.int .i64 op, .int .i64 n, .string nm, .slice ka ks.length kc]] wr fun e w' => e = .returned (.agg #[.int .i64 op, .int .i64 n, .string nm, .int .i64 (ks.getD 0 0), .int .i64 (ks.getD 1 0), .int .i64 (ks.getD 2 0)]) ∧ Below wr.heap.size wr w') := cs3
      clear hsv her cs3
      go_wp2_with fail
      refine HCS.out.mono ?_
      rintro e w5 ⟨rfl, hb5⟩
      have h51 := (HBK.out w5 (HB23.out.trans (hb5.mono HB23.out.size))).2
      obtain ⟨z0, z1, z2, z3, z4, z5, zf⟩ := blk6 h51
      have HB5 : Hid (Below w.heap.size w w5) := HB3.out.trans (hb5.mono HB3.out.size)
      clear hb5
      go_wp2_with fail
      have hS := set6 h51 (.int .i64 op) (.int .i64 n) (.string nm) (.int .i64 (ks.getD 0 0)) (.int .i64 (ks.getD 1 0)) (.int .i64 (ks.getD 2 0))
      have HBE := below_set6 HB5.out (Nat.le_add_right _ 1) (.int .i64 op) (.int .i64 n) (.string nm) (.int .i64 (ks.getD 0 0)) (.int .i64 (ks.getD 1 0)) (.int .i64 (ks.getD 2 0))
      have HSV2 : Hid (sv = .agg #[.int .i64 op, .int .i64 n, .string nm, .int .i64 (ks.getD 0 0), .int .i64 (ks.getD 1 0), .int .i64 (ks.getD 2 0)] ∧ er = 0) := HSV.out
      simp only [List.getD_eq_getElem?_getD] at hS HBE HSV2 ⊢
      generalize (((((w5.setCell ⟨w.heap.size + 1, 0, none⟩ (.int .i64 op)).setCell ⟨w.heap.size + 1, 1, none⟩ (.int .i64 n)).setCell ⟨w.heap.size + 1, 2, none⟩ (.string nm)).setCell ⟨w.heap.size + 1, 3, none⟩ (.int .i64 (ks[0]?.getD 0))).setCell ⟨w.heap.size + 1, 4, none⟩ (.int .i64 (ks[1]?.getD 0))).setCell ⟨w.heap.size + 1, 5, none⟩ (.int .i64 (ks[2]?.getD 0)) = W at *
      obtain ⟨y0, y1, y2, y3, y4, y5, _⟩ := blk6 hS
      refine bodyPost_ret (v := .tuple #[.agg #[.int .i64 op, .int .i64 n, .string nm, .int .i64 (ks[0]?.getD 0), .int .i64 (ks[1]?.getD 0), .int .i64 (ks[2]?.getD 0)], .int .i64 0]) (by simp [results, Tryz.results93, go_sem, y0, y1, y2, y3, y4, y5]) rfl ⟨by rw [HSV2.out.1, HSV2.out.2], HBE⟩
end Go.Proofs.YtlbmijcpalfaeaaGreatDoor.Gt

set_option linter.unusedSimpArgs false
set_option linter.unusedVariables false
namespace Go.Proofs.YtlbmijcpalfaeaaGreatDoor
open Go.RowKit Go.Lib Go.Sort Go.Maps

set_option maxHeartbeats 1000000 in
theorem clone_any (s : ByteArray) (w : World) (hs : s.size ≤ 281474976710656) : Calls Tryz.prog 105 #[.string s] w fun e w' => e = .returned (.string s) ∧ Below w.heap.size w w' := by
  go_enter Tryz.func105, Tryz.ntmps105
  go_wp2_with (go_at_call 114; refine (Tryz.stringslite_Clone s _ hs).mono ?_; rintro e w' ⟨rfl, hb⟩)
  go_ret
  exact ⟨rfl, hb⟩

theorem TbM.drew {w : World} {p : Nat} {ev mv : Value} {L : List Nd} (h : TbM w p ev mv L) (n : Nat) : TbM (w.drewN n) p ev mv L := h.same fun _ _ _ => rfl
/-- What the map says of a node. -/
theorem TbM.look {w : World} {p : Nat} {ev mv : Value} {L : List Nd} (h : TbM w p ev mv L) {x : Nd} (hx : NdK x) :
    (Instr.lookup 85 mv (shV x) true).run Tryz.prog w = .ok (.tuple #[.int .i64 (((ixL L x).getD 0 : Nat) : Int), .bool (ixL L x).isSome]) w := by
  rcases h.ids with ⟨rfl, rfl⟩ | ⟨B, rfl, _, h3⟩
  · rw [look_none hx.key, ixL_nil]; rfl
  · exact h3.look hx
theorem shV_eq (op n : Int) (nm : ByteArray) (ks : List Int) : shV ⟨op, n, nm, ks⟩ = .agg #[.int .i64 op, .int .i64 n, .string nm, .int .i64 (ks.getD 0 0), .int .i64 (ks.getD 1 0), .int .i64 (ks.getD 2 0)] := rfl

set_option maxRecDepth 20000 in
set_option maxHeartbeats 4000000 in
theorem tput_there (w : World) (p : Nat) (ev mv : Value) (L : List Nd) (x : Nd) (i : Nat) (h : TbM w p ev mv L) (hx : NdK x) (hi : ixL L x = some i) :
    Calls Tryz.prog 94 #[.pointer (some ⟨p, 0, none⟩), shV x] w fun e w' => e = .returned (.tuple #[.int .i64 i, .int .i64 0]) ∧ Below w.heap.size w w' := by
  have hl : ∀ W, Below w.heap.size w W → ∀ n, (Instr.lookup 85 mv (shV x) true).run Tryz.prog (W.drewN n) = .ok (.tuple #[.int .i64 (i : Int), .bool true]) (W.drewN n) := fun W hW n => by
    have := ((h.below hW).drew n).look hx
    rw [hi] at this
    exact this
  have hpl := h.lt
  have c1 := h.c1
  obtain ⟨op, n, nm, ks⟩ := x
  rw [shV_eq] at hl ⊢
  generalize ks.getD 0 0 = k0 at *
  generalize ks.getD 1 0 = k1 at *
  generalize ks.getD 2 0 = k2 at *
  obtain ⟨w1, hw1⟩ : ∃ w1, w.alloc (.cells #[.int .i64 op, .int .i64 n, .string nm, .int .i64 k0, .int .i64 k1, .int .i64 k2] 143) = w1 := ⟨_, rfl⟩
  have HB1 : Hid (Below w.heap.size w w1) := by rw [← hw1]; exact (Below.refl _ _).alloc (Nat.le_refl _) _
  have hb : w1.heap[w.heap.size]? = some (.cells #[.int .i64 op, .int .i64 n, .string nm, .int .i64 k0, .int .i64 k1, .int .i64 k2] 143 (0, 0)) := by rw [← hw1, Deep.blk_alloc_new]
  obtain ⟨b0, b1, b2, b3, b4, b5, _⟩ := blk6 hb
  have d1 : w1.cell? ⟨p, 1, none⟩ = some mv := (HB1.out.cell (p := ⟨p, 1, none⟩) hpl).trans c1
  have HW : Hid (w.alloc (.cells #[.int .i64 op, .int .i64 n, .string nm, .int .i64 k0, .int .i64 k1, .int .i64 k2] 143) = w1) := hw1
  have hl1 := hl w1 HB1.out
  clear hw1 hb h c1 hl
  go_enter Tryz.func94, Tryz.ntmps94
  go_wp2_with fail
  rw [HW.out]
  go_quiet (fail)
  go_wp2_with fail
  go_ret2
  exact ⟨rfl, HB1.out.trans ⟨rfl, rfl, rfl, Nat.le_refl _, fun _ _ => rfl⟩⟩
end Go.Proofs.YtlbmijcpalfaeaaGreatDoor
namespace Go.Proofs.YtlbmijcpalfaeaaGreatDoor
open Go.RowKit Go.Lib Go.Sort Go.Maps
set_option maxRecDepth 20000 in
set_option maxHeartbeats 4000000 in
theorem tput_full (w : World) (p : Nat) (ev mv : Value) (L : List Nd) (x : Nd) (h : TbM w p ev mv L) (hx : NdK x) (hi : ixL L x = none) (hf : 1048576 ≤ L.length) :
    Calls Tryz.prog 94 #[.pointer (some ⟨p, 0, none⟩), shV x] w fun e w' => e = .returned (.tuple #[.int .i64 0, .int .i64 10]) ∧ Below w.heap.size w w' := by
  have hl : ∀ W, Below w.heap.size w W → ∀ n, (Instr.lookup 85 mv (shV x) true).run Tryz.prog (W.drewN n) = .ok (.tuple #[.int .i64 0, .bool false]) (W.drewN n) := fun W hW n => by
    have := ((h.below hW).drew n).look hx
    rw [hi] at this
    exact this
  have hpl := h.lt
  have c1 := h.c1
  have c0 := h.c0
  obtain ⟨ao, cap, rfl⟩ := h.form
  have hfI : (1048576 : Int) ≤ (L.length : Int) := by omega
  generalize L.length = N at *
  obtain ⟨op, n, nm, ks⟩ := x
  rw [shV_eq] at hl ⊢
  generalize ks.getD 0 0 = k0 at *
  generalize ks.getD 1 0 = k1 at *
  generalize ks.getD 2 0 = k2 at *
  obtain ⟨w1, hw1⟩ : ∃ w1, w.alloc (.cells #[.int .i64 op, .int .i64 n, .string nm, .int .i64 k0, .int .i64 k1, .int .i64 k2] 143) = w1 := ⟨_, rfl⟩
  have HB1 : Hid (Below w.heap.size w w1) := by rw [← hw1]; exact (Below.refl _ _).alloc (Nat.le_refl _) _
  have hb : w1.heap[w.heap.size]? = some (.cells #[.int .i64 op, .int .i64 n, .string nm, .int .i64 k0, .int .i64 k1, .int .i64 k2] 143 (0, 0)) := by rw [← hw1, Deep.blk_alloc_new]
  obtain ⟨b0, b1, b2, b3, b4, b5, _⟩ := blk6 hb
  have d0 : w1.cell? ⟨p, 0, none⟩ = some (.slice ao N cap) := (HB1.out.cell (p := ⟨p, 0, none⟩) hpl).trans c0
  have d1 : w1.cell? ⟨p, 1, none⟩ = some mv := (HB1.out.cell (p := ⟨p, 1, none⟩) hpl).trans c1
  have HW : Hid (w.alloc (.cells #[.int .i64 op, .int .i64 n, .string nm, .int .i64 k0, .int .i64 k1, .int .i64 k2] 143) = w1) := hw1
  have hl1 := hl w1 HB1.out
  clear hw1 hb h c1 hl c0
  go_enter Tryz.func94, Tryz.ntmps94
  go_wp2_with fail
  rw [HW.out]
  go_quiet (fail)
  go_wp2_with fail
  go_ret2
  exact ⟨rfl, HB1.out.trans ⟨rfl, rfl, rfl, Nat.le_refl _, fun _ _ => rfl⟩⟩

theorem set_same6 {w : World} {b o : Nat} {v : Value} (h : w.cell? ⟨b, o, none⟩ = some v) : ∀ k : Nat, (w.setCell ⟨b, o, none⟩ v).heap[k]? = w.heap[k]? := fun k => by
  by_cases hk : k = b
  · subst hk
    unfold World.cell? at h
    cases hb : w.heap[k]? with
    | none => simp [hb] at h
    | some ob =>
      cases ob with
      | cells cs t fr =>
        have hs := Lib.heap_setCell_same (w := w) (b := k) (i := o) hb v
        rw [hs]
        simp [hb] at h
        congr 2
        apply Array.ext_getElem?
        intro i
        rw [Array.getElem?_setIfInBounds]
        split
        · rename_i h1
          subst h1
          split
          · exact h.symm
          · rename_i h2
            rw [Array.getElem?_eq_none (by omega)] at h
            cases h
        · rfl
      | _ => simp [hb] at h
  · exact Deep.blk_setCell_other _ _ _ _ hk
/-- What the rest of put wants, behind the making of the map. -/
structure PutMid (w : World) (p : Nat) (ev mv : Value) (B : Nat) (L : List Nd) (bx : Nat) (x : Nd) (W : World) : Prop where
  tm : TbM W p ev (.map (some B)) L
  tk : Tk (TbS p ev mv) w W
  yo : mv = .map (some B) ∨ (mv = .map none ∧ w.heap.size ≤ B)
  box : W.heap[bx]? = some (.cells #[.int .i64 x.op, .int .i64 x.n, .string x.name, .int .i64 (x.kids.getD 0 0), .int .i64 (x.kids.getD 1 0), .int .i64 (x.kids.getD 2 0)] 143 (0, 0))
theorem PutMid.far {w : World} {p : Nat} {ev mv : Value} {B : Nat} {L : List Nd} {bx : Nat} {x : Nd} {W W' : World} (h : PutMid w p ev mv B L bx x W) (hb : Below W.heap.size W W') : PutMid w p ev mv B L bx x W' :=
  ⟨h.tm.below hb, h.tk.trans (T := fun _ => False) (Tk.of_below hb) (fun _ hf => hf.elim), h.yo, (hb.block _ (lt_of_block h.box)).trans h.box⟩
theorem PutMid.nodes {w : World} {p : Nat} {ev mv : Value} {B : Nat} {L : List Nd} {bx : Nat} {x : Nd} {W W' : World} (h : PutMid w p ev mv B L bx x W) (he : ∀ k : Nat, W'.heap[k]? = W.heap[k]?) (h1 : W'.os = W.os) (h2 : W'.tape = W.tape) (h3 : W'.output = W.output) (h4 : W'.heap.size = W.heap.size) : PutMid w p ev mv B L bx x W' :=
  h.far ⟨h1, h2, h3, Nat.le_of_eq h4.symm, fun k _ => he k⟩
/-- The map has the shape's number now. -/
theorem ixL_snoc {L : List Nd} {x : Nd} (hn : (L ++ [x]).Nodup) (h : ixL L x = none) : ∀ y, (if y = x then some L.length else ixL L y) = ixL (L ++ [x]) y := fun y => by
  by_cases e : y = x
  · subst e
    rw [if_pos rfl]
    exact (ixL_of hn (by simp) (edA_end _ _)).symm
  · rw [if_neg e]
    cases hy : ixL L y with
    | none =>
      symm
      rw [ixL_none] at hy ⊢
      simp [hy, e]
    | some i =>
      obtain ⟨h1, h2⟩ := ixL_at hy
      exact (ixL_of hn (by simp; omega) (by rw [edA_app h1]; exact h2)).symm
/-- The end of put. -/
theorem put_end {w W w5 w6 : World} {p : Nat} {ev mv : Value} {B : Nat} {L : List Nd} {bx : Nat} {x : Nd} (h : PutMid w p ev mv B L bx x W) (hx : NdK x) (hi : ixL L x = none) (hl : L.length < 1048576) (hk : ∀ k ∈ x.kids, 0 ≤ k ∧ k < (L.length : Int))
    (h5 : IdF w5 B (fun y => if y = x then some L.length else ixL L y) (L.length + 1)) (ht : Tk (TbS p ev (.map (some B))) W w5) (h5p : w5.heap[p]? = W.heap[p]?)
    {g6 cap6 : Nat} (hown : w6.ownsRow (p + 1) 159 7 (.slice (some ⟨g6, 0, none⟩) (L.length + 1) cap6) (L.length + 1) (enCells (enL L) ++ enC (x, szK (szL L) 1 x.kids))) (hg : w5.grownBy w6 ev.ownBlock ∨ ∃ w5', Below w5.heap.size w5 w5' ∧ w5'.grownBy w6 ev.ownBlock) (hat : ev.ownBlock = some g6 ∨ W.heap.size ≤ g6) (hM : TbM w p ev mv L) (hst : ev.ownBlock = some g6 ∨ w6.ownsRow (p + 1) 159 7 ev L.length (enCells (enL L))) :
    TbT w p ev mv (.slice (some ⟨g6, 0, none⟩) (L.length + 1) cap6) (.map (some B)) (L ++ [x]) (w6.setCell ⟨p, 0, none⟩ (.slice (some ⟨g6, 0, none⟩) (L.length + 1) cap6)) := by
  have htm := h.tm
  have hpl := htm.lt
  have hids : p < B := by
    rcases htm.ids with ⟨h1, _⟩ | ⟨B', h1, h2, _⟩
    · cases h1
    · cases h1; exact h2
  obtain ⟨es, cc, hBo⟩ := h5.obj
  have hrowne : ∀ b, ev.ownBlock = some b → b ≠ p ∧ b < W.heap.size := fun b hb => by
    obtain ⟨h1, h2, _⟩ := rw_block htm.on hb
    exact ⟨by omega, h2⟩
  -- from w5 on
  have key : ∀ k, k < w5.heap.size → ev.ownBlock ≠ some k → w6.heap[k]? = w5.heap[k]? := fun k hk hne => by
    rcases hg with hg | ⟨w5', hb, hg⟩
    · exact hg.block k hk (fun e => hne e.symm)
    · rw [hg.block k (Nat.lt_of_lt_of_le hk hb.size) (fun e => hne e.symm)]
      exact hb.block k hk
  have tk6 : Tk (TbS p ev (.map (some B))) w5 w6 := by
    rcases hg with hg | ⟨w5', hb, hg⟩
    · exact Tk.grown hg _ (fun b hb => .inr (.inl hb))
    · exact (Tk.of_below hb).trans (Tk.grown hg (TbS p ev (.map (some B))) (fun b hb => .inr (.inl hb))) (fun b hb => .inl hb)
  have tkW : Tk (TbS p ev (.map (some B))) W (w6.setCell ⟨p, 0, none⟩ (.slice (some ⟨g6, 0, none⟩) (L.length + 1) cap6)) :=
    (ht.trans tk6 (fun b hb => .inl hb)).trans (Tk.set (TbS p ev (.map (some B))) (.inl rfl)) (fun b hb => .inl hb)
  have hp6 : w6.heap[p]? = some (.cells #[ev, .map (some B)] 87 (0, 0)) := by
    rw [key p (Nat.lt_of_lt_of_le hpl ht.size) (fun e => (hrowne p e).1 rfl), h5p]
    exact htm.blk
  have hBlt : B < w5.heap.size := h5.lt
  have hBr : ev.ownBlock ≠ some B := fun e => by
    obtain ⟨_, _, cap, cur, _, h1, _⟩ := rw_block htm.on e
    obtain ⟨es', cc', h2⟩ : ∃ es c, W.heap[B]? = some (.map es c) := by
      rcases htm.ids with ⟨h1, _⟩ | ⟨B', h1, _, h3⟩
      · cases h1
      · cases h1; exact h3.obj
    rw [h1] at h2; cases h2
  have hnd : (L ++ [x]).Nodup := (htm.inv.snoc hx.form hk (ixL_none.1 hi) hl).nodup
  have hIE : IdF (w6.setCell ⟨p, 0, none⟩ (.slice (some ⟨g6, 0, none⟩) (L.length + 1) cap6)) B (ixL (L ++ [x])) (L ++ [x]).length := by
    have h6 : IdF w6 B (fun y => if y = x then some L.length else ixL L y) (L.length + 1) := h5.block (key B hBlt hBr)
    have h7 := h6.block (w' := w6.setCell ⟨p, 0, none⟩ (.slice (some ⟨g6, 0, none⟩) (L.length + 1) cap6)) (Deep.blk_setCell_other _ _ _ _ (by show B ≠ p; omega))
    exact h7.congr (fun y _ => ixL_snoc hnd hi y) (by simp)
  refine ⟨⟨?_, ?_, .inr ⟨B, rfl, hids, hIE⟩, htm.inv.snoc hx.form hk (ixL_none.1 hi) hl, ?_⟩, h.tk.trans tkW ?_, ?_, ?_, ?_, ?_⟩
  · have := heap_setCell_same w6 p 0 #[ev, .map (some B)] 87 (.slice (some ⟨g6, 0, none⟩) (L.length + 1) cap6) hp6
    simpa using this
  · have h1 : w6.ownsRow (p + 1) 159 7 (.slice (some ⟨g6, 0, none⟩) (L.length + 1) cap6) (L ++ [x]).length (enCells (enL (L ++ [x]))) := by
      rw [enL_snoc, enCells_append]
      simpa [enCells] using hown
    exact rw_same h1 (fun b hb' => Deep.blk_setCell_other _ _ _ _ (by have := (rw_block h1 hb').1; show b ≠ p; omega))
  · intro y hy
    rcases List.mem_append.1 hy with hy | hy
    · exact htm.nr y hy
    · simp at hy
      subst hy
      exact ⟨hx.key.n, hx.key.nm⟩
  · rintro b (rfl | hb | hb)
    · exact .inl (.inl rfl)
    · exact .inl (.inr (.inl hb))
    · cases hb
      rcases h.yo with h1 | h1
      · exact .inl (.inr (.inr h1))
      · exact .inr h1.2
  · rintro b (rfl | hb | hb)
    · exact .inl (.inl rfl)
    · have e1 : g6 = b := by simpa [Value.ownBlock] using hb
      subst e1
      rcases hat with h1 | h1
      · exact .inl (.inr (.inl h1))
      · right; have := h.tk.size; omega
    · cases hb
      rcases h.yo with h1 | h1
      · exact .inl (.inr (.inr h1))
      · exact .inr h1.2
  · intro B' e
    rcases h.yo with h1 | h1
    · rw [e] at h1; cases h1; rfl
    · rw [e] at h1; cases h1.1
  · obtain ⟨ao, cap, rfl⟩ := htm.form
    show L.length ≤ L.length + 1
    omega
  · intro g hg1 hpg j u hj hu
    obtain ⟨ao, cap, rfl⟩ := htm.form
    have hao : ao = some ⟨g, 0, none⟩ := by
      rcases htm.on.2 with ⟨h1, _⟩ | ⟨g', c', _, h1, _⟩
      · simp only [Value.slice.injEq] at h1; rw [h1.1] at hg1; cases hg1
      · cases h1
        simp [Value.ownBlock] at hg1
        rw [hg1]
    subst hao
    have hj' : j < (enCells (enL L)).length := by rw [enCells_length]; simpa [lenV, enL_len] using hj
    have e0 : ∀ k, (⟨g, 0, none⟩ : Addr).add k = ⟨g, k, none⟩ := fun k => by rw [Go.WideShapes.add_plain, Nat.zero_add]
    have hu1 := hM.on.cells (g := g) rfl j _ (List.getElem?_eq_getElem hj')
    rw [e0, hu] at hu1
    have hne : (⟨p, 0, none⟩ : Addr).block ≠ g := by show p ≠ g; omega
    have fin : w6.cell? ⟨g, j, none⟩ = some u := by
      rcases hst with h1 | h1
      · have h2 : g = g6 := by simpa [Value.ownBlock] using h1
        subst h2
        have h3 := hown.cells (g := g) rfl j ((enCells (enL L))[j]) (by rw [List.getElem?_append_left hj']; exact List.getElem?_eq_getElem hj')
        rw [e0] at h3
        rw [h3]
        exact hu1.symm
      · have h3 := h1.cells (g := g) rfl j _ (List.getElem?_eq_getElem hj')
        rw [e0] at h3
        rw [h3]
        exact hu1.symm
    have hb : (w6.setCell ⟨p, 0, none⟩ (.slice (some ⟨g6, 0, none⟩) (L.length + 1) cap6)).heap[g]? = w6.heap[g]? := Deep.blk_setCell_other _ _ _ _ (by show g ≠ p; omega)
    simp only [World.cell?] at fin ⊢
    rw [hb]
    exact fin
end Go.Proofs.YtlbmijcpalfaeaaGreatDoor
