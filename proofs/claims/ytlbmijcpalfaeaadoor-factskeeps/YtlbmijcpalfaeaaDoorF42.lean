/-
  RmRd.
-/
import Derived.Shelf.Unicode.DecodeSlow
import Derived.Laws.RangeAny
import Derived.Shelf.Strconv.Itoa0
import Derived.Shelf.LaysM
import Derived.Shelf.Strconv.Clone
import Derived.Shelf.Unicode.DecodeAny
import Derived.Test.YtlbmijcpalfaeaaDoorProg
import Derived.WalkKit
import Derived.Deep.DeepFit
import Derived.Lib.OthersKept
import Derived.Lib.RuneCountTail
import Derived.Deep.AppendLies
import Derived.Deep.OwnRows
import Derived.Laws.AppendOwnNone
import Derived.Deep.QuietTactic
import Derived.BigQuiet
import Derived.Deep.RegionWith
import Derived.Laws.DeepStrings4
import Derived.Below
import Derived.Deep.RegionLaw
import Derived.Test.YtlbmijcpalfaeaaDoorF01
import Derived.Test.YtlbmijcpalfaeaaDoorF02
import Derived.Test.YtlbmijcpalfaeaaDoorF03
import Derived.Test.YtlbmijcpalfaeaaDoorF04
import Derived.Test.YtlbmijcpalfaeaaDoorF05
import Derived.Test.YtlbmijcpalfaeaaDoorF06
import Derived.Test.YtlbmijcpalfaeaaDoorF07
import Derived.Test.YtlbmijcpalfaeaaDoorF08
import Derived.Test.YtlbmijcpalfaeaaDoorF16
import Derived.Test.YtlbmijcpalfaeaaDoorF35
import Derived.Test.YtlbmijcpalfaeaaDoorF41
set_option linter.unusedSimpArgs false
set_option linter.unusedVariables false
namespace Go.Proofs.YtlbmijcpalfaeaaDoor
open Go.RowKit Go.Lib

theorem Tryd.infoInts : (Tryd.prog.info? 41).map (fun i => (i.zero, i.size, i.bytes)) = some (some (.slice none 0 0), 1, 24) := by kernel_rfl

/-- In Roomy's last loop. -/
structure R3 (wC : World) (l : List Nd) (vw vk : Value) (ks : List Value) (j : Nat) (vf : Value) (p : List (Nd × Value)) (wr : World) : Prop where
  blk : wr.heap[wC.heap.size]? = some (.cells #[vw, vf, vk] 120 (0, 0))
  full : OwnP wr (wC.heap.size + 1) vf p
  nodes : p.map (·.1) = l ++ exL j
  klist : wr.ownsRow (wC.heap.size + 1) 41 1 vk l.length ks
  kids : ∀ i, i < l.length → OwnI wr (wC.heap.size + 1) (ks.getD i (.slice none 0 0)) ((l.getD i nd0).kids ++ spL 7)
  bel : Below wC.heap.size wC wr
  ap : KdAp p
theorem kdAp_nil {p : List (Nd × Value)} (h : KdAp p) (x : Nd) : KdAp (p ++ [(x, .slice none 0 0)]) := by
  unfold KdAp
  rw [List.pairwise_append]
  refine ⟨h, List.pairwise_singleton _ _, fun a ha b hb g _ h6 => ?_⟩
  rw [List.mem_singleton.1 hb] at h6
  cases h6
theorem R3.add {wC w6 w7 : World} {l : List Nd} {j : Nat} {vw vf vf' vk : Value} {p : List (Nd × Value)} {ks : List Value} {o : Obj} (h : R3 wC l vw vk ks j vf p w6)
    (hown : w7.ownsRow (wC.heap.size + 1) 43 4 vf' (p.length + 1) (ndCells p ++ [.int .i64 (7000 + (j : Int)), .int .i64 0, .string ⟨#[]⟩, .slice none 0 0])) (hg : (w6.alloc o).grownBy w7 vf.ownBlock) :
    R3 wC l vw vk ks (j + 1) vf' (p ++ [(⟨7000 + (j : Int), 0, ⟨#[]⟩, []⟩, .slice none 0 0)]) (w7.setCell ⟨wC.heap.size, 1, none⟩ vf') := by
  have hR := lt_of_block h.blk
  have b0 : Below w6.heap.size w6 (w6.alloc o) := (Below.refl _ _).alloc (Nat.le_refl _) _
  have full0 := h.full.below b0
  have hf7 := OwnP.snoc full0 (x := ⟨7000 + (j : Int), 0, ⟨#[]⟩, []⟩) (kv := .slice none 0 0) (OwnI_nil _ _) hown hg
  have hneT : ∀ {e : TypeId} {s n : Nat} {v : Value} {xs : List Value}, w6.ownsRow (wC.heap.size + 1) e s v n xs → e ≠ 43 → (w7.setCell ⟨wC.heap.size, 1, none⟩ vf').ownsRow (wC.heap.size + 1) e s v n xs := fun hr hne => by
    have h1 := World.ownsRow.kept (ownsRow_below hr b0) hg (ownBlock_ne (ownsRow_below hr b0) full0.row hne)
    refine rm_same h1 fun b hb => Deep.blk_setCell_other _ _ _ _ ?_
    have := (rm_block h1 b hb).1
    show b ≠ wC.heap.size
    omega
  have hb7 : w7.heap[wC.heap.size]? = w6.heap[wC.heap.size]? := by
    rw [hg.block wC.heap.size (by rw [World.size_alloc]; omega) (fun e => by have := (rm_block h.full.row _ e.symm).1; omega)]
    exact Deep.blk_alloc_lt _ _ _ hR
  refine ⟨?_, ownP_same hf7 (by omega) rfl, ?_, hneT h.klist (by decide), fun i hi => hneT (h.kids i hi) (by decide), ?_, kdAp_nil h.ap _⟩
  · have := heap_setCell_same w7 wC.heap.size 1 _ _ vf' (hb7.trans h.blk)
    simpa using this
  · rw [List.map_append, h.nodes, exL_succ, List.append_assoc]; rfl
  · have hb2 : Below wC.heap.size wC w7 := (h.bel.trans (b0.mono h.bel.size)).grown hg (by rw [World.size_alloc]; have := h.bel.size; omega) (fun b hb => by have := (rm_block h.full.row b hb).1; omega)
    exact hb2.setCell (Nat.le_refl _) _

/-- The room, made. -/
structure RoomOk (w : World) (R : Nat) (l : List Nd) (vw vf vk : Value) (p : List (Nd × Value)) (ks : List Value) (w' : World) : Prop where
  lo : w.heap.size ≤ R
  blk : w'.heap[R]? = some (.cells #[vw, vf, vk] 120 (0, 0))
  was : OwnN w' w.heap.size vw l
  full : OwnP w' (R + 1) vf p
  nodes : p.map (·.1) = l ++ exL 7
  klist : w'.ownsRow (R + 1) 41 1 vk l.length ks
  kids : ∀ i, i < l.length → OwnI w' (R + 1) (ks.getD i (.slice none 0 0)) ((l.getD i nd0).kids ++ spL 7)
  below : Below w.heap.size w w'
  ap : KdAp p

set_option maxRecDepth 20000 in
set_option maxHeartbeats 4000000 in
theorem roomy_any (ao : Option Addr) (cap : Nat) (l : List Nd) (w : World) (hR : Rd w ao cap l) (hF : FitR l) :
    Calls Tryd.prog 40 #[.slice ao l.length cap] w fun e w' => ∃ R vw vf vk p ks, e = .returned (.pointer (some ⟨R, 0, none⟩)) ∧ RoomOk w R l vw vf vk p ks w' := by
  obtain ⟨hl1, hl2⟩ := hR.bound
  unfold maxLen at hl2
  obtain ⟨i0, hi, hz0, hz1, hz2⟩ := info_parts Tryd.infoNode
  obtain ⟨j0, hj, hy0, hy1, hy2⟩ := info_parts Tryd.info3
  obtain ⟨m0, hm, hx0, hx1, hx2⟩ := info_parts Tryd.infoInts
  have hfl := hF.len
  have HF : Hid (FitR l) := hF
  go_enter Tryd.func40, Tryd.ntmps40
  go_wp2_with fail
  refine (copy_any _ l w _ (Nat.le_refl _) hR hF.fit.len hF.fit.kids).mono ?_
  rintro e wC ⟨vw, rfl, hW, hbC⟩
  obtain ⟨wa, wn, wcap, hvw⟩ := hW.form
  subst hvw
  have HW : Hid (OwnN wC w.heap.size (.slice wa wn wcap) l) := hW
  have HBC : Hid (Below w.heap.size w wC) := hbC
  have HRC : Hid (Rd wC ao cap l) := hR.below hbC hbC.size
  have hsC := hbC.size
  clear hW hbC hR hF
  go_wp2_with fail
  have HM0 : Hid (RMid wC l 0 (.slice wa wn wcap) (.slice none 0 0) (.slice none 0 0) [] [] (wC.alloc (.cells #[.slice wa wn wcap, .slice none 0 0, .slice none 0 0] 120))) :=
    ⟨Deep.blk_alloc_new _ _, ⟨World.ownsRow_nil _ _ _ _, by simp⟩, by simp, World.ownsRow_nil _ _ _ _, fun i hi => by omega, (Below.refl _ _).alloc (Nat.le_refl _) _, List.Pairwise.nil⟩
  go_loopw [4] (fun i wr => ∃ (k : Nat) (vf vk : Value) (p : List (Nd × Value)) (ks : List Value), k ≤ l.length ∧ i = .int .i64 k ∧ RMid wC l k (.slice wa wn wcap) vf vk p ks wr) (fun i _ => l.length - (RowKit.intOf i).toNat)
  case atStart => exact ⟨0, _, _, [], [], by omega, rfl, HM0.out⟩
  case round =>
    obtain ⟨k, vf, vk, p, ks, hk, rfl, hM⟩ := hrel
    obtain ⟨wo, hwo⟩ : ∃ wo, wo = wr := ⟨_, rfl⟩
    subst hwo
    clear HM0
    have HM : Hid (RMid wC l k (.slice wa wn wcap) vf vk p ks wo) := hM
    have hRl : wC.heap.size < wo.heap.size := by exact lt_of_block hM.blk
    by_cases hlt : k < l.length
    · obtain ⟨ao', cap', e1, _, _, hc⟩ := HRC.out
      cases e1
      obtain ⟨b, o, rfl, hbl, hc⟩ : ∃ b o, ao = some ⟨b, o, none⟩ ∧ b < wC.heap.size ∧ ∀ i, i < l.length → ∃ kv, NodeAt wC wC.heap.size b (o + i * 4) (l.getD i nd0) kv := by
        rcases hc with h | h
        · subst h; simp at hlt
        · exact h
      obtain ⟨kv, hNA⟩ := hc k hlt
      clear hc
      have hNA := hNA.below hM.bel (Nat.le_refl _) hbl
      have hzr := HF.out.kids (l.getD k nd0) (by simp [hlt])
      obtain ⟨x, hx⟩ : ∃ x, l.getD k nd0 = x := ⟨_, rfl⟩
      rw [hx] at hNA hzr
      have HX : Hid (l.getD k nd0 = x) := hx
      clear hx
      obtain ⟨op, n, nm, kids⟩ := x
      obtain ⟨c0, c1, c2, c3, hki⟩ := hNA
      simp only at c0 c1 c2 c3 hki hzr
      obtain ⟨ka, kc, rfl, hkl, hkm, hkc⟩ := hki
      have HKC : Hid (kids = [] ∨ ∃ b o, ka = some ⟨b, o, none⟩ ∧ b < wC.heap.size ∧ ∀ j, j < kids.length → wo.cell? ⟨b, o + j, none⟩ = some (.int .i64 (kids.getD j 0))) := hkc
      have hkn := hkm.2
      replace hkm := hkm.1
      unfold maxLen at hkm
      have HKN : Hid (ka = none → kids.length = 0 ∧ kc = 0) := fun h => by have := hkn h; omega
      clear hkn hkc hM
      have hb9 : b < wo.heap.size := by omega
      have hb8 : b ≠ wo.heap.size := by omega
      have hE : ((wo.alloc (.cells #[.int .i64 op, .int .i64 n, .string nm, .slice ka kids.length kc] 43)).alloc (.cells #[] 3)).ownsRow wo.heap.size 3 1 (.slice (some ⟨wo.heap.size + 1, 0, none⟩) 0 0) 0 [] := by
        have h := World.ownsRow_lit (base := wo.heap.size) (e := 3) (size := 1) (wo.alloc (.cells #[.int .i64 op, .int .i64 n, .string nm, .slice ka kids.length kc] 43)) #[] 0 (by simp) (by decide) (by simp)
        simpa using h
      have hBq : Below wC.heap.size wo ((wo.alloc (.cells #[.int .i64 op, .int .i64 n, .string nm, .slice ka kids.length kc] 43)).alloc (.cells #[] 3)) := ((Below.refl _ _).alloc (by omega) _).alloc (by simp; omega) _
      go_wp2_with (at_builtin; refine wpList_append_src _ rfl (.tmp 23) (.tmp 25) 41 rfl wo.heap.size 3 j0 (.int .i64 0) 1 8 Tryd.underlying41 hj hy0 hy1 hy2 rfl (by decide) _ 0 [] rfl hE ka kids.length kc (kids.map (Value.int .i64)) rfl HKN.out (by simp) (src_cells HKC.out hBq) (ints_oneCell _ _) (by unfold maxLen; omega) (by omega) (by simp; omega) ?_)
      intro v2 w2 hO2 hg2
      have zz := hg2.size
      simp at zz
      have hn2 : w2.heap[wo.heap.size]? = some (.cells #[.int .i64 op, .int .i64 n, .string nm, .slice ka kids.length kc] 43 (0, 0)) := by
        rw [hg2.block wo.heap.size (by simp; omega) (by simp [Value.ownBlock])]
        rw [Deep.blk_alloc_lt _ _ _ (by simp), Deep.blk_alloc_new]
      have hB2 : Below wo.heap.size wo w2 := (((Below.refl _ _).alloc (Nat.le_refl _) _).alloc (by simp) _).grown hg2 (by simp; omega) (fun k hk => by simp [Value.ownBlock] at hk; omega)
      have HI0 : Hid (OwnI w2 wo.heap.size v2 (kids ++ spL 0) ∧ Below wo.heap.size wo w2 ∧ w2.heap[wo.heap.size]? = some (.cells #[.int .i64 op, .int .i64 n, .string nm, .slice ka kids.length kc] 43 (0, 0))) := by
        refine ⟨?_, hB2, hn2⟩
        have e : kids ++ spL 0 = kids := by simp [spL]
        rw [e]
        unfold OwnI
        simpa using hO2
      clear hO2 hg2 zz hn2 hB2 hE hBq HKC HKN c0 c1 c2 c3
      go_wp2_with fail
      go_loopw [6, 7] (fun v i wq => ∃ j : Nat, j ≤ 7 ∧ i = .int .i64 j ∧ OwnI wq wo.heap.size v (kids ++ spL j) ∧ Below wo.heap.size wo wq ∧ wq.heap[wo.heap.size]? = some (.cells #[.int .i64 op, .int .i64 n, .string nm, .slice ka kids.length kc] 43 (0, 0))) (fun _ i _ => 7 - (RowKit.intOf i).toNat)
      case atStart => exact ⟨0, by omega, rfl, HI0.out⟩
      case round =>
        obtain ⟨j, hj7, rfl, hI, hBr, hnb⟩ := hrel
        clear HI0
        have hLj : (kids ++ spL j).length = kids.length + j := by rw [List.length_append, spL_len]
        obtain ⟨aa, cc, hv⟩ := rm_form hI
        rw [hLj] at hv
        subst hv
        by_cases hjl : j < 7
        · have hrow := hI
          unfold OwnI at hrow
          rw [hLj] at hrow
          have HNX : Hid (∀ (o : Obj) (w6 : World) (g6 cap6 : Nat), (wr.alloc o).grownBy w6 (Value.slice aa (kids.length + j) cc).ownBlock → w6.ownsRow wo.heap.size 3 1 (.slice (some ⟨g6, 0, none⟩) (kids.length + j + 1) cap6) (kids.length + j + 1) ((kids ++ spL j).map (Value.int .i64) ++ [.int .i64 (7000 + (j : Int))]) → OwnI w6 wo.heap.size (.slice (some ⟨g6, 0, none⟩) (kids.length + j + 1) cap6) (kids ++ spL (j + 1)) ∧ Below wo.heap.size wo w6 ∧ w6.heap[wo.heap.size]? = some (.cells #[.int .i64 op, .int .i64 n, .string nm, .slice ka kids.length kc] 43 (0, 0))) := fun o w6 g6 cap6 hg ho => by
            have hwr := hBr.size
            have hN := lt_of_block hnb
            refine ⟨?_, (hBr.alloc (by omega) _).grown hg (by rw [World.size_alloc]; omega) (fun b hb => (rm_block hrow b hb).1), ?_⟩
            · unfold OwnI
              have e1 : (kids ++ spL (j + 1)).length = kids.length + j + 1 := by rw [List.length_append, spL_len]; omega
              have e2 : (kids ++ spL (j + 1)).map (Value.int .i64) = (kids ++ spL j).map (Value.int .i64) ++ [.int .i64 (7000 + (j : Int))] := by rw [spL_succ]; simp
              rw [e1, e2]; exact ho
            · rw [hg.block wo.heap.size (by rw [World.size_alloc]; omega) (fun e => rm_ne hrow hnb (by decide) e.symm), Deep.blk_alloc_lt _ _ _ hN]
              exact hnb
          clear hI hnb
          go_wp2_with (at_builtin; refine wpList_append_lies _ rfl (.tmp 31) (.tmp 34) 41 rfl wo.heap.size 3 j0 (.int .i64 0) 1 8 Tryd.underlying41 hj hy0 hy1 hy2 rfl (by decide) _ _ _ rfl (hrow.alloc _) ⟨wr.heap.size, 0, none⟩ 1 1 [.int .i64 (7000 + (j : Int))] rfl rfl (cell_news_one _ _ _) (by simp [Value.oneCell']) (by omega) (by unfold maxLen; omega) (by omega) (by simp; have := hBr.size; omega) _ rfl ?_; intro g6 cap6 w6 hown6 hg6 hat6 hl6)
          have HF6 := HNX.out _ w6 g6 cap6 hg6 hown6
          exact ⟨⟨j + 1, by omega, by go_num, HF6⟩, by simp [RowKit.intOf]; omega⟩
        · have hj7' : j = 7 := by omega
          subst hj7'
          have hIu := hI
          unfold OwnI at hIu
          rw [hLj] at hIu
          obtain ⟨g, rfl⟩ : ∃ g, aa = some ⟨g, 0, none⟩ := by
            rcases hIu.2 with ⟨h, _⟩ | ⟨g', c', cur, h, _⟩
            · simp at h
            · cases h; exact ⟨_, rfl⟩
          have hMr := HM.out.below hBr
          have hwr := hBr.size
          have hkcc : kids.length + 7 ≤ cc ∧ cc ≤ maxLen := by
            rcases hIu.2 with ⟨h, _⟩ | ⟨g', c', cur, h, _, _, hn, hm, _⟩
            · simp at h
            · cases h; exact ⟨by omega, hm⟩
          unfold maxLen at hkcc
          obtain ⟨hcc1, hcc2⟩ := hkcc
          obtain ⟨va, vc, hvk⟩ := rm_form hMr.klist
          subst hvk
          obtain ⟨fa, fc, hvf⟩ := rm_form hMr.full.row
          subst hvf
          have hpl : p.length = k := by have := congrArg List.length hMr.nodes; simp at this; omega
          rw [hpl] at hMr
          have hksl : ks.length = k := by have := hMr.klist.1; omega
          have hIr : OwnI wr (wC.heap.size + 1) (.slice (some ⟨g, 0, none⟩) (kids.length + 7) cc) ((l.getD k nd0).kids ++ spL 7) := by
            rw [HX.out]; exact ownsRow_mono hI (by omega)
          have hkrow := hMr.klist
          have r1 : wr.cell? ⟨wC.heap.size, 1, none⟩ = some (.slice fa k fc) := by simp [World.cell?, hMr.blk]
          have r2 : wr.cell? ⟨wC.heap.size, 2, none⟩ = some (.slice va k vc) := by simp [World.cell?, hMr.blk]
          have r2f : wr.frozen? ⟨wC.heap.size, 2, none⟩ = false := by simp [World.frozen?, hMr.blk]
          have hRw : wC.heap.size < wr.heap.size := by omega
          have hRne : wC.heap.size ≠ wr.heap.size := by omega
          have z2 : ∀ o, (wr.alloc o).cell? ⟨wC.heap.size, 2, none⟩ = some (.slice va k vc) := fun o => (World.cell?_alloc_past _ _ _ (by show wC.heap.size < wr.heap.size; omega)).trans r2
          have HMR : Hid (RMid wC l k (.slice wa wn wcap) (.slice fa k fc) (.slice va k vc) p ks wr) := hMr
          have HIR : Hid (OwnI wr (wC.heap.size + 1) (.slice (some ⟨g, 0, none⟩) (kids.length + 7) cc) ((l.getD k nd0).kids ++ spL 7)) := hIr
          have HNB : Hid (wr.heap[wo.heap.size]? = some (.cells #[.int .i64 op, .int .i64 n, .string nm, .slice ka kids.length kc] 43 (0, 0))) := hnb
          have hRN : wC.heap.size ≠ wo.heap.size := by omega
          have hNR : wo.heap.size ≠ wC.heap.size := by omega
          have hNw : wo.heap.size < wr.heap.size := lt_of_block hnb
          have n3 : wr.cell? ⟨wo.heap.size, 3, none⟩ = some (.slice ka kids.length kc) := by simp [World.cell?, hnb]
          have n3f : wr.frozen? ⟨wo.heap.size, 3, none⟩ = false := by simp [World.frozen?, hnb]
          have HG4 : Hid (∀ (o : Obj) (w4 : World), (wr.alloc o).grownBy w4 (Value.slice va k vc).ownBlock → w4.heap[wC.heap.size]? = wr.heap[wC.heap.size]? ∧ w4.heap[wo.heap.size]? = wr.heap[wo.heap.size]?) := fun o w4 hg => by
            refine ⟨?_, ?_⟩
            · rw [hg.block wC.heap.size (by rw [World.size_alloc]; omega) (fun e => by have := (rm_block hkrow wC.heap.size e.symm).1; omega)]
              exact Deep.blk_alloc_lt _ _ _ hRw
            · rw [hg.block wo.heap.size (by rw [World.size_alloc]; omega) (fun e => rm_ne hkrow HNB.out (by decide) e.symm)]
              exact Deep.blk_alloc_lt _ _ _ hNw
          have hcut : (kids.length : Int) ≤ (cc : Int) := by omega
          have HAP6 : Hid (KdAp (p ++ [(⟨op, n, nm, kids⟩, .slice (some ⟨g, 0, none⟩) kids.length cc)])) := by
            show KdAp _
            unfold KdAp
            rw [List.pairwise_append]
            refine ⟨HM.out.ap, List.pairwise_singleton _ _, fun a ha b' hb' g' h5 h6 => ?_⟩
            rw [List.mem_singleton.1 hb'] at h6
            have h7 := (rm_block (HM.out.full.kids a ha) g' h5).2
            have h8 := (rm_block hIu g rfl).1
            simp [Value.ownBlock] at h6
            omega
          clear hI hIu hMr hIr hnb
          go_wp2_with (at_builtin; refine wpList_append_lies _ rfl (.tmp 40) (.tmp 42) 118 rfl (wC.heap.size + 1) 41 m0 (.slice none 0 0) 1 24 Tryd.underlying118 hm hx0 hx1 hx2 rfl (by decide) _ _ _ rfl (hkrow.alloc _) ⟨wr.heap.size, 0, none⟩ 1 1 [.slice (some ⟨g, 0, none⟩) (kids.length + 7) cc] rfl rfl (cell_news_one _ _ _) (by simp [Value.oneCell']) (by omega) (by unfold maxLen; omega) (by omega) (by simp; omega) _ rfl ?_; intro g4 cap4 w4 hown4 hg4 hat4 hl4; obtain ⟨hb4, hb4n⟩ := HG4.out _ w4 hg4; have m4 : w4.cell? ⟨wC.heap.size, 2, none⟩ = some (.slice va k vc) := (World.cell?_of_block (a := ⟨wC.heap.size, 2, none⟩) hb4).trans r2; have m4f : w4.frozen? ⟨wC.heap.size, 2, none⟩ = false := (World.frozen?_of_block (a := ⟨wC.heap.size, 2, none⟩) hb4).trans r2f; have q4 : w4.cell? ⟨wo.heap.size, 3, none⟩ = some (.slice ka kids.length kc) := (World.cell?_of_block (a := ⟨wo.heap.size, 3, none⟩) hb4n).trans n3; have q4f : w4.frozen? ⟨wo.heap.size, 3, none⟩ = false := (World.frozen?_of_block (a := ⟨wo.heap.size, 3, none⟩) hb4n).trans n3f)
          have e5 : w4.setCell ⟨wC.heap.size, 2, none⟩ (.slice (some ⟨g4, 0, none⟩) (k + 1) cap4) = w4.setCell ⟨wC.heap.size, 2, none⟩ (.slice (some ⟨g4, 0, none⟩) (k + 1) cap4) := rfl
          obtain ⟨hA1, hA2, hA3, hA4, hA5, hA6⟩ := RMid.addKids HMR.out HIR.out hksl hown4 hg4
          rw [← e5] at hA1 hA2 hA3 hA4 hA5 hA6
          obtain ⟨w5, hw5⟩ : ∃ w5, w4.setCell ⟨wC.heap.size, 2, none⟩ (.slice (some ⟨g4, 0, none⟩) (k + 1) cap4) = w5 := ⟨_, rfl⟩
          rw [hw5] at hA1 hA2 hA3 hA4 hA5 hA6 ⊢
          have hn5 : w5.heap[wo.heap.size]? = some (.cells #[.int .i64 op, .int .i64 n, .string nm, .slice ka kids.length kc] 43 (0, 0)) := (hA6 wo.heap.size hNw (by omega) (rm_ne hkrow HNB.out (by decide))).trans HNB.out
          obtain ⟨w6, hw6⟩ : ∃ w6, w5.setCell ⟨wo.heap.size, 3, none⟩ (.slice (some ⟨g, 0, none⟩) kids.length cc) = w6 := ⟨_, rfl⟩
          have other : ∀ b, b ≠ wo.heap.size → w6.heap[b]? = w5.heap[b]? := fun b hb => by rw [← hw6]; exact Deep.blk_setCell_other _ _ _ _ hb
          have hn6 : w6.heap[wo.heap.size]? = some (.cells #[.int .i64 op, .int .i64 n, .string nm, .slice (some ⟨g, 0, none⟩) kids.length cc] 43 (0, 0)) := by
            have := heap_setCell_same w5 wo.heap.size 3 _ _ (.slice (some ⟨g, 0, none⟩) kids.length cc) hn5
            rw [hw6] at this; simpa using this
          have blk6 : w6.heap[wC.heap.size]? = _ := (other _ (by omega)).trans hA1
          have full6 : OwnP w6 (wC.heap.size + 1) (.slice fa k fc) p := by
            refine ⟨rm_same hA2.row fun b hb => other b (fun e => ?_), fun q hq => rm_same (hA2.kids q hq) fun b hb => other b (fun e => rm_ne (hA2.kids q hq) hn5 (by decide) (e ▸ hb))⟩
            have h1 := HM.out.full.row
            rw [hpl] at h1
            have := (rm_block h1 b hb).2
            omega
          have klist6 : w6.ownsRow (wC.heap.size + 1) 41 1 (.slice (some ⟨g4, 0, none⟩) (k + 1) cap4) (k + 1) (ks ++ [.slice (some ⟨g, 0, none⟩) (kids.length + 7) cc]) := rm_same hA3 fun b hb => other b (fun e => rm_ne hA3 hn5 (by decide) (e ▸ hb))
          have kids6 : ∀ i, i < k + 1 → OwnI w6 (wC.heap.size + 1) ((ks ++ [Value.slice (some ⟨g, 0, none⟩) (kids.length + 7) cc]).getD i (.slice none 0 0)) ((l.getD i nd0).kids ++ spL 7) := fun i hi => rm_same (hA4 i hi) fun b hb => other b (fun e => rm_ne (hA4 i hi) hn5 (by decide) (e ▸ hb))
          have hkv6 : OwnI w6 (wC.heap.size + 1) (.slice (some ⟨g, 0, none⟩) kids.length cc) kids := by
            have h1 := kids6 k (by omega)
            have e1 : (ks ++ [Value.slice (some ⟨g, 0, none⟩) (kids.length + 7) cc]).getD k (.slice none 0 0) = .slice (some ⟨g, 0, none⟩) (kids.length + 7) cc := by rw [← hksl]; simp
            rw [e1, HX.out] at h1
            refine rm_cut (ms := spL 7) ?_
            rw [List.length_append, spL_len]; exact h1
          have bel6 : Below wC.heap.size wC w6 := by rw [← hw6]; exact hA5.setCell (by show wC.heap.size ≤ wo.heap.size; omega) _
          rw [hw6]
          have hrow6 := full6.row
          rw [hpl] at hrow6
          have hR6 : wC.heap.size < w6.heap.size := by exact lt_of_block blk6
          have hN6 := lt_of_block hn6
          have s1 : w6.cell? ⟨wC.heap.size, 1, none⟩ = some (.slice fa k fc) := by simp [World.cell?, blk6]
          have s1f : w6.frozen? ⟨wC.heap.size, 1, none⟩ = false := by simp [World.frozen?, blk6]
          have t0 : w6.cell? ⟨wo.heap.size, 0, none⟩ = some (.int .i64 op) := by simp [World.cell?, hn6]
          have t1 : w6.cell? ⟨wo.heap.size, 1, none⟩ = some (.int .i64 n) := by simp [World.cell?, hn6]
          have t2 : w6.cell? ⟨wo.heap.size, 2, none⟩ = some (.string nm) := by simp [World.cell?, hn6]
          have t3 : w6.cell? ⟨wo.heap.size, 3, none⟩ = some (.slice (some ⟨g, 0, none⟩) kids.length cc) := by simp [World.cell?, hn6]
          have z1 : ∀ o, (w6.alloc o).cell? ⟨wC.heap.size, 1, none⟩ = some (.slice fa k fc) := fun o => (World.cell?_alloc_past _ _ _ (by show wC.heap.size < w6.heap.size; omega)).trans s1
          have HP7 : Hid (∀ (o : Obj) (w7 : World), (w6.alloc o).drew.grownBy w7 (Value.slice fa k fc).ownBlock → w7.heap[wC.heap.size]? = w6.heap[wC.heap.size]?) := fun o w7 hg => by
            have h1 := hg.block wC.heap.size (by show wC.heap.size < (w6.alloc o).heap.size; rw [World.size_alloc]; omega) (fun e => by have := (rm_block hrow6 wC.heap.size e.symm).1; omega)
            exact h1.trans (Deep.blk_alloc_lt _ _ _ hR6)
          have HEND : Hid (∀ (o : Obj) (w7 : World) (g7 cap7 : Nat), (w6.alloc o).drew.grownBy w7 (Value.slice fa k fc).ownBlock → w7.ownsRow (wC.heap.size + 1) 43 4 (.slice (some ⟨g7, 0, none⟩) (k + 1) cap7) (k + 1) (ndCells p ++ [.int .i64 op, .int .i64 n, .string nm, .slice (some ⟨g, 0, none⟩) kids.length cc]) →
              RMid wC l (k + 1) (.slice wa wn wcap) (.slice (some ⟨g7, 0, none⟩) (k + 1) cap7) (.slice (some ⟨g4, 0, none⟩) (k + 1) cap4) (p ++ [(⟨op, n, nm, kids⟩, .slice (some ⟨g, 0, none⟩) kids.length cc)]) (ks ++ [.slice (some ⟨g, 0, none⟩) (kids.length + 7) cc]) (w7.setCell ⟨wC.heap.size, 1, none⟩ (.slice (some ⟨g7, 0, none⟩) (k + 1) cap7))) := fun o w7 g7 cap7 hg ho => by
            have := RMid.addNode (x := ⟨op, n, nm, kids⟩) (o := o) blk6 full6 HMR.out.nodes hlt HX.out klist6 kids6 bel6 HAP6.out hkv6 (by rw [hpl]; exact ho) hg
            exact this
          clear hA1 hA2 hA3 hA4 hA5 hA6 hn5 other hn6 blk6 full6 klist6 kids6 hkv6 bel6 hw5 hw6 e5 hown4 hg4 hat4 hl4 hb4 hb4n m4 m4f q4 q4f r1 r2 r2f z2 n3 n3f hkrow
          go_region_law (refine step_append_lies _ rfl (.tmp 56) (.tmp 58) 22 rfl (wC.heap.size + 1) 43 i0 (.agg #[.int .i64 0, .int .i64 0, .string ⟨#[]⟩, .slice none 0 0]) 4 56 Tryd.underlying22 hi hz0 hz1 hz2 rfl (by decide) _ _ _ (by simp [Act.eval, Act.put]) (hrow6.alloc _) ⟨w6.heap.size, 0, none⟩ 1 1 [.int .i64 op, .int .i64 n, .string nm, .slice (some ⟨g, 0, none⟩) kids.length cc] (by simp [Act.eval, Act.put]) rfl (cell_news4 w6 _ _ _ _ _ _ rfl) (by simp [Value.oneCell']) (by omega) (by unfold maxLen; omega) (by omega) (by simp; omega) _ rfl ?_; intro g7 cap7 w7 hown7 hg7 hat7 hl7; have hnd7 := HP7.out _ w7 hg7; have m7 : w7.cell? ⟨wC.heap.size, 1, none⟩ = some (.slice fa k fc) := (World.cell?_of_block (a := ⟨wC.heap.size, 1, none⟩) hnd7).trans s1; have m7f : w7.frozen? ⟨wC.heap.size, 1, none⟩ = false := (World.frozen?_of_block (a := ⟨wC.heap.size, 1, none⟩) hnd7).trans s1f)
          all_goals
            go_wp2_with fail
            have HF7 := HEND.out _ w7 g7 cap7 hg7 hown7
            first | exact ⟨⟨k + 1, _, _, _, _, by omega, by go_num, HF7⟩, by simp [RowKit.intOf]; omega⟩ | exact ⟨⟨k + 1, by omega, by go_num, _, _, _, _, HF7⟩, by simp [RowKit.intOf]; omega⟩
    · have hke : k = l.length := by omega
      subst hke
      have HR0 : Hid (∀ V, V = wo → R3 wC l (.slice wa wn wcap) vk ks 0 vf p V) := fun V hV => by
        subst hV
        exact ⟨HM.out.blk, HM.out.full, by rw [HM.out.nodes]; simp [exL], HM.out.klist, HM.out.kids, HM.out.bel, HM.out.ap⟩
      clear hM
      go_wp2_with fail
      go_loopw [8] (fun i wq => ∃ (j : Nat) (vf : Value) (p : List (Nd × Value)), j ≤ 7 ∧ i = .int .i64 j ∧ R3 wC l (.slice wa wn wcap) vk ks j vf p wq) (fun i _ => 7 - (RowKit.intOf i).toNat)
      case atStart => exact ⟨0, vf, p, by omega, rfl, HR0.out _ rfl⟩
      case round =>
        obtain ⟨j, vf, p, hj7, rfl, h3⟩ := hrel
        clear HR0 HM
        have H3 : Hid (R3 wC l (.slice wa wn wcap) vk ks j vf p wr) := h3
        have hpl : p.length = l.length + j := by have := congrArg List.length h3.nodes; simp [exL_len] at this; exact this
        obtain ⟨fa, fc, hvf⟩ := rm_form h3.full.row
        rw [hpl] at hvf
        subst hvf
        have hRw : wC.heap.size < wr.heap.size := by exact lt_of_block h3.blk
        by_cases hjl : j < 7
        · have hrow := h3.full.row
          rw [hpl] at hrow
          have s1 : wr.cell? ⟨wC.heap.size, 1, none⟩ = some (.slice fa (l.length + j) fc) := by simp [World.cell?, h3.blk]
          have s1f : wr.frozen? ⟨wC.heap.size, 1, none⟩ = false := by simp [World.frozen?, h3.blk]
          have z1 : ∀ o, (wr.alloc o).cell? ⟨wC.heap.size, 1, none⟩ = some (.slice fa (l.length + j) fc) := fun o => (World.cell?_alloc_past _ _ _ (by show wC.heap.size < wr.heap.size; omega)).trans s1
          have HP7 : Hid (∀ (o : Obj) (w7 : World), (wr.alloc o).grownBy w7 (Value.slice fa (l.length + j) fc).ownBlock → w7.heap[wC.heap.size]? = wr.heap[wC.heap.size]?) := fun o w7 hg => by
            have h1 := hg.block wC.heap.size (by rw [World.size_alloc]; omega) (fun e => by have := (rm_block hrow wC.heap.size e.symm).1; omega)
            exact h1.trans (Deep.blk_alloc_lt _ _ _ hRw)
          have HEND : Hid (∀ (o : Obj) (w7 : World) (g7 cap7 : Nat), (wr.alloc o).grownBy w7 (Value.slice fa (l.length + j) fc).ownBlock → w7.ownsRow (wC.heap.size + 1) 43 4 (.slice (some ⟨g7, 0, none⟩) (l.length + j + 1) cap7) (l.length + j + 1) (ndCells p ++ [.int .i64 (7000 + (j : Int)), .int .i64 0, .string ⟨#[]⟩, .slice none 0 0]) →
              R3 wC l (.slice wa wn wcap) vk ks (j + 1) (.slice (some ⟨g7, 0, none⟩) (l.length + j + 1) cap7) (p ++ [(⟨7000 + (j : Int), 0, ⟨#[]⟩, []⟩, .slice none 0 0)]) (w7.setCell ⟨wC.heap.size, 1, none⟩ (.slice (some ⟨g7, 0, none⟩) (l.length + j + 1) cap7))) := fun o w7 g7 cap7 hg ho => by
            have := R3.add (o := o) H3.out (by rw [hpl]; exact ho) hg
            exact this
          clear h3
          go_wp2_with (at_builtin; refine wpList_append_lies _ rfl (.tmp 70) (.tmp 74) 22 rfl (wC.heap.size + 1) 43 i0 (.agg #[.int .i64 0, .int .i64 0, .string ⟨#[]⟩, .slice none 0 0]) 4 56 Tryd.underlying22 hi hz0 hz1 hz2 rfl (by decide) _ _ _ rfl (hrow.alloc _) ⟨wr.heap.size, 0, none⟩ 1 1 [.int .i64 (7000 + (j : Int)), .int .i64 0, .string ⟨#[]⟩, .slice none 0 0] rfl rfl (cell_news4 _ _ _ _ _ _ _ (by simp)) (by simp [Value.oneCell']) (by omega) (by unfold maxLen; omega) (by omega) (by simp; omega) _ rfl ?_; intro g7 cap7 w7 hown7 hg7 hat7 hl7; have hnd7 := HP7.out _ w7 hg7; have m7 : w7.cell? ⟨wC.heap.size, 1, none⟩ = some (.slice fa (l.length + j) fc) := (World.cell?_of_block (a := ⟨wC.heap.size, 1, none⟩) hnd7).trans s1; have m7f : w7.frozen? ⟨wC.heap.size, 1, none⟩ = false := (World.frozen?_of_block (a := ⟨wC.heap.size, 1, none⟩) hnd7).trans s1f)
          have HF7 := HEND.out _ w7 g7 cap7 hg7 hown7
          first | exact ⟨⟨j + 1, _, _, by omega, by go_num, HF7⟩, by simp [RowKit.intOf]; omega⟩ | exact ⟨⟨j + 1, by omega, by go_num, _, _, HF7⟩, by simp [RowKit.intOf]; omega⟩
        · have hj7' : j = 7 := by omega
          subst hj7'
          clear h3
          go_wp2_with fail
          go_ret
          have h3 := H3.out
          refine ⟨wC.heap.size, .slice wa wn wcap, .slice fa (l.length + 7) fc, vk, p, ks, rfl, ?_⟩
          refine ⟨by omega, by exact h3.blk, HW.out.below h3.bel, by exact h3.full, h3.nodes, by exact h3.klist, fun i hi => by exact h3.kids i hi, HBC.out.trans (h3.bel.mono hsC), h3.ap⟩
end Go.Proofs.YtlbmijcpalfaeaaDoor

namespace Go.Proofs.YtlbmijcpalfaeaaDoor
open Go.RowKit Go.Lib

structure RoomRd (w : World) (R : Nat) (l : List Nd) (wa : Option Addr) (wc fb fc : Nat) (ka : Option Addr) (kc : Nat) : Prop where
  lt : R < w.heap.size
  c0 : w.cell? ⟨R, 0, none⟩ = some (.slice wa l.length wc)
  c1 : w.cell? ⟨R, 1, none⟩ = some (.slice (some ⟨fb, 0, none⟩) (l.length + 7) fc)
  c2 : w.cell? ⟨R, 2, none⟩ = some (.slice ka l.length kc)
  was : Rd w wa wc l
  full : Rd w (some ⟨fb, 0, none⟩) fc (l ++ exL 7)
  kcap : l.length ≤ kc ∧ kc ≤ maxLen
  kids : ∀ i, i < l.length → ∃ kb gi ci, ka = some ⟨kb, 0, none⟩ ∧ kb < w.heap.size ∧ w.cell? ⟨kb, i, none⟩ = some (.slice (some ⟨gi, 0, none⟩) ((l.getD i nd0).kids.length + 7) ci) ∧ gi < w.heap.size ∧ (l.getD i nd0).kids.length + 7 ≤ ci ∧ ci ≤ maxLen ∧ ∀ j, j < 7 → w.cell? ⟨gi, (l.getD i nd0).kids.length + j, none⟩ = some (.int .i64 (7000 + (j : Int)))

theorem RoomRd.below {w w' : World} {R : Nat} {l : List Nd} {wa : Option Addr} {wc fb fc : Nat} {ka : Option Addr} {kc : Nat} (h : RoomRd w R l wa wc fb fc ka kc) (hb : Below w.heap.size w w') : RoomRd w' R l wa wc fb fc ka kc :=
  ⟨Nat.lt_of_lt_of_le h.lt hb.size, (hb.cell (p := ⟨R, 0, none⟩) h.lt).trans h.c0, (hb.cell (p := ⟨R, 1, none⟩) h.lt).trans h.c1, (hb.cell (p := ⟨R, 2, none⟩) h.lt).trans h.c2, h.was.below hb hb.size, h.full.below hb hb.size, h.kcap, fun i hi => by
    obtain ⟨kb, gi, ci, h1, h2, h3, h4, h5, h6, h7⟩ := h.kids i hi
    exact ⟨kb, gi, ci, h1, Nat.lt_of_lt_of_le h2 hb.size, (hb.cell (p := ⟨kb, i, none⟩) h2).trans h3, Nat.lt_of_lt_of_le h4 hb.size, h5, h6, fun j hj => (hb.cell (p := ⟨gi, _, none⟩) h4).trans (h7 j hj)⟩⟩

theorem RoomOk.rd {w w' : World} {R : Nat} {l : List Nd} {vw vf vk : Value} {p : List (Nd × Value)} {ks : List Value} (h : RoomOk w R l vw vf vk p ks w') : ∃ wa wc fb fc ka kc, RoomRd w' R l wa wc fb fc ka kc := by
  obtain ⟨wa, wc, rfl, hW⟩ := Rd_of_own h.was
  have hfo : OwnN w' (R + 1) vf (l ++ exL 7) := ⟨p, h.nodes, h.full⟩
  obtain ⟨fa, fc, rfl, hFu⟩ := Rd_of_own hfo
  obtain ⟨fb, rfl⟩ : ∃ fb, fa = some ⟨fb, 0, none⟩ := by
    rcases h.full.row.2 with ⟨e, _⟩ | ⟨g, c, cur, e, _⟩
    · simp [exL_len] at e
    · simp only [Value.slice.injEq] at e; exact ⟨g, e.1⟩
  obtain ⟨ka, kc, hvk⟩ := rm_form h.klist
  have hkc : l.length ≤ kc ∧ kc ≤ maxLen := by
    rw [hvk] at h
    rcases h.klist.2 with ⟨e, h0⟩ | ⟨g, c, cur, e, _, _, hn, hm, _⟩
    · simp only [Value.slice.injEq] at e; exact ⟨by omega, by rw [e.2.2]; exact Nat.zero_le _⟩
    · simp only [Value.slice.injEq] at e; exact ⟨by omega, by rw [e.2.2]; exact hm⟩
  subst hvk
  have hlen : (l ++ exL 7).length = l.length + 7 := by rw [List.length_append, exL_len]
  refine ⟨wa, wc, fb, fc, ka, kc, lt_of_block h.blk, by simp [World.cell?, h.blk], ?_, by simp [World.cell?, h.blk], hW, hFu, hkc, fun i hi => ?_⟩
  · have : w'.cell? ⟨R, 1, none⟩ = some (.slice (some ⟨fb, 0, none⟩) (l ++ exL 7).length fc) := by simp [World.cell?, h.blk]
    rw [hlen] at this; exact this
  · obtain ⟨kb, kcap, e1, h1, _, _, h2⟩ := row_cell h.klist hi (d := .slice none 0 0)
    cases e1
    have hI := h.kids i hi
    unfold OwnI at hI
    have hL : ((l.getD i nd0).kids ++ spL 7).length = (l.getD i nd0).kids.length + 7 := by rw [List.length_append, spL_len]
    rw [hL] at hI
    obtain ⟨gi, ci, e2, h3, h4, h5, _⟩ := row_cell hI (i := 0) (by omega) (d := .slice none 0 0)
    rw [e2] at h2
    refine ⟨kb, gi, ci, rfl, h1, h2, h3, h4, h5, fun j hj => ?_⟩
    obtain ⟨g', c', e3, _, _, _, h6⟩ := row_cell hI (i := (l.getD i nd0).kids.length + j) (by omega) (d := .slice none 0 0)
    rw [e2] at e3
    cases e3
    rw [h6]
    generalize (l.getD i nd0).kids = kk
    have e4 : (((kk ++ spL 7).map (Value.int .i64)).getD (kk.length + j) (.slice none 0 0)) = .int .i64 (7000 + (j : Int)) := by
      rw [List.map_append]
      simp only [List.getD_eq_getElem?_getD]
      rw [List.getElem?_append_right (by simp)]
      simp [spL, hj]
    rw [e4]

theorem Rd.prefix {w : World} {ao : Option Addr} {cap : Nat} {l m : List Nd} (h : Rd w ao cap (l ++ m)) : Rd w ao cap l := by
  obtain ⟨ao', cap', e, h1, h2, h3⟩ := h
  cases e
  refine ⟨ao, cap, rfl, by simp at h1; omega, h2, ?_⟩
  rcases h3 with h3 | ⟨b, o, rfl, hlt, hc⟩
  · left; exact (List.append_eq_nil_iff.1 h3).1
  · right
    refine ⟨b, o, rfl, hlt, fun i hi => ?_⟩
    obtain ⟨kv, hn⟩ := hc i (by rw [List.length_append]; omega)
    have e : (l ++ m).getD i nd0 = l.getD i nd0 := by simp only [List.getD_eq_getElem?_getD]; rw [List.getElem?_append_left hi]
    rw [e] at hn
    exact ⟨kv, hn⟩

set_option maxRecDepth 20000 in
set_option maxHeartbeats 1000000 in
theorem roomExpr {w : World} {R : Nat} {l : List Nd} {wa : Option Addr} {wc fb fc : Nat} {ka : Option Addr} {kc : Nat} (h : RoomRd w R l wa wc fb fc ka kc) :
    Calls Tryd.prog 42 #[.pointer (some ⟨R, 0, none⟩)] w fun e w' => e = .returned (.slice (some ⟨fb, 0, none⟩) l.length fc) ∧ Below w.heap.size w w' := by
  have c0 := h.c0
  have c1 := h.c1
  obtain ⟨hf1, hf2⟩ := h.full.bound
  rw [List.length_append, exL_len] at hf1
  unfold maxLen at hf2
  have hcut : (l.length : Int) ≤ (fc : Int) := by omega
  clear h
  go_enter Tryd.func42, Tryd.ntmps42
  go_wp2_with fail
  go_quiet (fail)
  go_wp2_with fail
  go_ret
  exact ⟨rfl, below_drewN' (Below.refl _ _) _⟩
end Go.Proofs.YtlbmijcpalfaeaaDoor
