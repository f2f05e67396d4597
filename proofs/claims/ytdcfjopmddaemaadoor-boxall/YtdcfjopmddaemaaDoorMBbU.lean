/-
  BoxAll, walked, of lists that are not sound.
-/
import Derived.Test.YtdcfjopmddaemaaDoorMBbS
set_option linter.unusedSimpArgs false
set_option linter.unusedVariables false
namespace Go.Proofs.YtdcfjopmddaemaaDoor
open Go.RowKit Go.Shelf
attribute [local go_sem] Oper.semAt_some

set_option maxRecDepth 100000 in
set_option maxHeartbeats 8000000 in
theorem boxAll_un (l : List Nd) (ao : Option Addr) (cap : Nat) (cut : Int) (co : Option Addr) (cc : Nat) (cl : List Cl) (w : World) (T0 : SpanCells w) (hR : Rd w ao cap l) (hF : Fit l) (hN : Cls w co cc cl) (hnm : ∀ x ∈ cl, x.name.size ≤ maxLen) (hlen : cl.length * 64 ≤ 140737488351232) (hsd : begL l = none) :
    CallsIn Fence.wide 4 Tryd.prog 5 #[.slice ao l.length cap, .int .i64 cut, .slice co cl.length cc] w fun e W' => e = .returned (.bool true) ∧ Below w.heap.size w W' := by
  have hro : Fence.wide.round = none := rfl
  have hcap := hR.bound
  unfold maxLen at hcap
  obtain ⟨hcap1, hcap2⟩ := hcap
  have hm := hN.2.1
  have hl := hN.1
  unfold maxLen at hm
  have HR : Hid (Rd w ao cap l) := hR
  have HT : Hid (SpanCells w) := T0
  have HF : Hid (Fit l) := hF
  have HN0 : Hid (Cls w co cc cl) := hN
  have HNM : Hid (∀ x ∈ cl, x.name.size ≤ maxLen) := hnm
  clear hR T0 hF hN hnm
  have hb3 : Below w.heap.size w (((w.alloc (.cells #[.slice ao l.length cap] 22)).alloc (.cells #[.int .i64 cut] 3)).alloc (.cells #[.bool false] 4)) := (((Below.refl _ w).alloc (Nat.le_refl _) _).alloc (by simp) _).alloc (by simp; omega) _
  have hs3 : (((w.alloc (.cells #[.slice ao l.length cap] 22)).alloc (.cells #[.int .i64 cut] 3)).alloc (.cells #[.bool false] 4)).heap.size = w.heap.size + 3 := by simp
  have b0 : (((w.alloc (.cells #[.slice ao l.length cap] 22)).alloc (.cells #[.int .i64 cut] 3)).alloc (.cells #[.bool false] 4)).heap[w.heap.size]? = some (.cells #[.slice ao l.length cap] 22 (0, 0)) := (Deep.blk_alloc_lt _ _ _ (by simp; omega)).trans ((Deep.blk_alloc_lt _ _ _ (by simp)).trans (Deep.blk_alloc_new _ _))
  have b1 : (((w.alloc (.cells #[.slice ao l.length cap] 22)).alloc (.cells #[.int .i64 cut] 3)).alloc (.cells #[.bool false] 4)).heap[w.heap.size + 1]? = some (.cells #[.int .i64 cut] 3 (0, 0)) := by
    refine (Deep.blk_alloc_lt _ _ _ (by simp)).trans ?_
    have := Deep.blk_alloc_new (w.alloc (.cells #[.slice ao l.length cap] 22)) (.cells #[.int .i64 cut] 3)
    rw [World.size_alloc] at this
    exact this
  have b2 : (((w.alloc (.cells #[.slice ao l.length cap] 22)).alloc (.cells #[.int .i64 cut] 3)).alloc (.cells #[.bool false] 4)).heap[w.heap.size + 1 + 1]? = some (.cells #[.bool false] 4 (0, 0)) := by
    have := Deep.blk_alloc_new ((w.alloc (.cells #[.slice ao l.length cap] 22)).alloc (.cells #[.int .i64 cut] 3)) (.cells #[.bool false] 4)
    rw [World.size_alloc, World.size_alloc] at this
    exact this
  refine callsIn_of_wp_marks Tryd.func5 rfl trivial ?_ hro
  simp only [Tryd.ntmps5, List.size_toArray, List.length_cons, List.length_nil, Nat.reduceAdd, Nat.reduceSub, Array.replicate_succ, Array.replicate_zero, List.push_toArray, List.append_toArray, List.nil_append, List.cons_append]
  gi_wp2
  generalize (((w.alloc (.cells #[.slice ao l.length cap] 22)).alloc (.cells #[.int .i64 cut] 3)).alloc (.cells #[.bool false] 4)) = Wb at *
  refine ⟨trivial, ((callsIn_wide (n := 3)).2 (awk3_any _)).mono ?_⟩
  rintro e w1 ⟨rfl, hb1⟩
  have B1 : Below w.heap.size w w1 := hb3.trans (hb1.mono hb3.size)
  have e1 : w1.heap[w.heap.size]? = _ := (hb1.block _ (by omega)).trans b0
  have e2 : w1.heap[w.heap.size + 1]? = _ := (hb1.block _ (by omega)).trans b1
  have e3 : w1.heap[w.heap.size + 1 + 1]? = _ := (hb1.block _ (by omega)).trans b2
  have hs1 : w.heap.size + 3 ≤ w1.heap.size := by have := hb1.size; omega
  have c0 : w1.cell? ⟨w.heap.size, 0, none⟩ = some (.slice ao l.length cap) := by simp [World.cell?, e1]
  clear b0 b1 b2 hb1 hb3 hs3
  have hchk : chkE l = 1 := by unfold chkE; rw [sndW_none hsd]; rfl
  gi_wp2
  refine ⟨trivial, ((callsIn_wide (n := 3)).2 (rchkR (HR.out.below B1 B1.size) HF.out _ hchk)).mono ?_⟩
  rintro e w2 ⟨rfl, hb2⟩
  have B2 : Below w.heap.size w w2 := B1.trans (hb2.mono B1.size)
  have e3 : w2.heap[w.heap.size + 1 + 1]? = some (.cells #[.bool false] 4 (0, 0)) := (hb2.block _ (by omega)).trans e3
  have hs2 : w.heap.size + 3 ≤ w2.heap.size := by have := hb2.size; omega
  gi_wp2
  refine ⟨trivial, ((callsIn_wide (n := 3)).2 (values_any co cc cl w2 (HN0.out.below B2) (by omega))).mono ?_⟩
  rintro e wv ⟨ts, rfl, hV, htl, hG, hbv⟩
  have BV : Below w.heap.size w wv := B2.trans (hbv.mono (B2).size)
  have RV : wv.heap[w.heap.size + 1 + 1]? = some (.cells #[.bool false] 4 (0, 0)) := (hbv.block _ (by omega)).trans e3
  have MV : Mks w wv ([] : List Nat) := ((⟨List.nodup_nil, fun D hD => by simp at hD⟩ : Mks w w2 [])).keep (fun E h1 h2 => (hbv.block E h1).trans h2) hbv.size
  have hsv : w.heap.size + 3 ≤ wv.heap.size := by have := hbv.size; omega
  obtain ⟨G, hGe⟩ : ∃ G, (w2).heap.size = G := ⟨_, rfl⟩
  rw [hGe] at hG
  rw [hGe]
  gi_wp2
  refine ⟨trivial, ((callsIn_wide (n := 3)).2 (exprs_any co cc cl ts wv (HN0.out.below BV) hV htl HNM.out (by omega))).mono ?_⟩
  rintro e wx ⟨v3, lpvs, rfl, hLs, hbx⟩
  have hlk : (ts.map wantT).length = cl.length := by simp [htl]
  obtain ⟨la, lc, hv3⟩ := row_form hLs.row
  rw [hlk] at hv3
  subst hv3
  have BX : Below w.heap.size w wx := BV.trans (hbx.mono BV.size)
  have RX : wx.heap[w.heap.size + 1 + 1]? = some (.cells #[.bool false] 4 (0, 0)) := (hbx.block _ (by omega)).trans RV
  have MX : Mks w wx ([] : List Nat) := MV.keep (fun E h1 h2 => (hbx.block E h1).trans h2) hbx.size
  have hsx : w.heap.size + 3 ≤ wx.heap.size := by have := hbx.size; omega
  have HG3 : Hid (∀ j, j < cl.length → wx.cell? ⟨G, j, none⟩ = some (tv (ts.getD j .nil)) ∧ G < wx.heap.size) := fun j hj => by
    have h := hG j hj
    have hlt := World.block_lt_of_cell? _ _ h
    exact ⟨(hbx.cell (p := ⟨G, j, none⟩) hlt).trans h, Nat.lt_of_lt_of_le hlt hbx.size⟩
  have HL3 : Hid (∀ i, i < cl.length → ∃ lg lcap xa xc, Value.slice la cl.length lc = .slice (some ⟨lg, 0, none⟩) cl.length lcap ∧ lg < wx.heap.size ∧ wx.cell? ⟨lg, i, none⟩ = some (.slice xa (wantT (ts.getD i .nil)).length xc)) := fun i hi => by
    obtain ⟨lg, lcap, h1, h2, h3⟩ := hLs.cell (i := i) (by omega)
    rw [hlk] at h1
    have h4 := hLs.each i (by omega)
    have e : (ts.map wantT).getD i [] = wantT (ts.getD i .nil) := by simp [show i < ts.length by omega]
    rw [e] at h4
    obtain ⟨xa, xc, h5, h6⟩ := Rd_of_own h4
    rw [h5] at h3
    exact ⟨lg, lcap, xa, xc, h1, h2, h3⟩
  have HOT : Hid (∀ i, i < cl.length → OthH (ts.getD i .nil)) := fun i hi => hV.othH _ (by simp [show i < ts.length by omega])
  clear hLs hbx hG hbv hlk htl hV
  gi_wp2
  refine wpIn_loop (fun a V => ∃ (j : Nat) (ds : List Nat) (u0 u1 u2 u3 u4 u5 u6 u7 u8 u9 u10 u11 u12 u13 u14 u15 u16 u17 u18 u19 u20 u21 u22 u23 u24 u25 u26 u27 u28 u29 u30 u31 u32 u33 u34 u35 u36 u37 u38 u39 u40 u41 u42 u43 u44 u45 u46 u47 u48 u49 u50 u51 u52 u53 u54 u55 u56 u57 u58 u59 u60 u61 u62 u63 u64 u65 u66 u67 u68 u69 u70 u71 u72 u73 u74 u75 u76 u77 u78 u79 u80 u81 u82 u83 u84 u85 u86 u87 u88 u89 u90 : Value), a = { tmps := #[u0, u1, u2, u3, u4, u5, u6, u7, u8, u9, u10, u11, u12, u13, u14, u15, u16, u17, u18, u19, u20, u21, u22, u23, u24, u25, u26, u27, u28, u29, u30, u31, u32, u33, u34, u35, u36, u37, u38, u39, u40, u41, u42, u43, u44, u45, u46, u47, u48, u49, u50, u51, u52, u53, u54, u55, u56, u57, u58, u59, u60, u61, u62, u63, u64, u65, u66, u67, u68, u69, u70, u71, u72, u73, u74, u75, u76, u77, u78, u79, u80, u81, u82, u83, u84, u85, u86, u87, u88, u89, u90], defers := ds.map mkD } ∧ (u2 = .slice co cl.length cc ∧ u6 = .pointer (some ⟨w.heap.size + 1 + 1, 0, none⟩) ∧ u12 = .slice (some ⟨G, 0, none⟩) cl.length cl.length ∧ u13 = .slice la cl.length lc ∧ u14 = .int .i64 (j : Int)) ∧ j ≤ cl.length ∧ Mks w V ds ∧ Below wx.heap.size wx V) (fun a _ => cl.length - (intOf (a.tmps.getD 14 undef)).toNat) ?_ ?_
  · exact ⟨0, ([] : List Nat), _, _, _, _, _, _, _, _, _, _, _, _, _, _, _, _, _, _, _, _, _, _, _, _, _, _, _, _, _, _, _, _, _, _, _, _, _, _, _, _, _, _, _, _, _, _, _, _, _, _, _, _, _, _, _, _, _, _, _, _, _, _, _, _, _, _, _, _, _, _, _, _, _, _, _, _, _, _, _, _, _, _, _, _, _, _, _, _, _, _, _, rfl, ⟨rfl, rfl, rfl, rfl, rfl⟩, by omega, MX, Below.refl _ _⟩
  rintro a V ⟨j, ds, u0, u1, u2, u3, u4, u5, u6, u7, u8, u9, u10, u11, u12, u13, u14, u15, u16, u17, u18, u19, u20, u21, u22, u23, u24, u25, u26, u27, u28, u29, u30, u31, u32, u33, u34, u35, u36, u37, u38, u39, u40, u41, u42, u43, u44, u45, u46, u47, u48, u49, u50, u51, u52, u53, u54, u55, u56, u57, u58, u59, u60, u61, u62, u63, u64, u65, u66, u67, u68, u69, u70, u71, u72, u73, u74, u75, u76, u77, u78, u79, u80, u81, u82, u83, u84, u85, u86, u87, u88, u89, u90, rfl, ⟨rfl, rfl, rfl, rfl, rfl⟩, hj, hMk, hbV⟩
  have hsV : w.heap.size + 3 ≤ V.heap.size := by have := hbV.size; omega
  by_cases hlt : j < cl.length
  · obtain ⟨hv, hGl⟩ := HG3.out j hlt
    obtain ⟨lg, lcap, xa, xc, hx, hlg, hcell⟩ := HL3.out j hlt
    cases hx
    have hOth := HOT.out j hlt
    obtain ⟨t, ht⟩ : ∃ t, ts.getD j .nil = t := ⟨_, rfl⟩
    rw [ht] at hv hcell hOth
    have hbA : Below V.heap.size V (V.alloc (.cells #[.int .i64 0] 3)) := (Below.refl _ _).alloc (Nat.le_refl _) _
    have hszA : (V.alloc (.cells #[.int .i64 0] 3)).heap.size = V.heap.size + 1 := by simp
    have nA : (V.alloc (.cells #[.int .i64 0] 3)).heap[V.heap.size]? = some (.cells #[.int .i64 0] 3 (0, 0)) := Deep.blk_alloc_new _ _
    have vA' : (V.alloc (.cells #[.int .i64 0] 3)).cell? ⟨G, j, none⟩ = some (tv t) := (hbA.cell (p := ⟨G, j, none⟩) (by show G < V.heap.size; have := hbV.size; omega)).trans ((hbV.cell (p := ⟨G, j, none⟩) hGl).trans hv)
    have cAll := all_any t hOth (V.alloc (.cells #[.int .i64 0] 3)) (HT.out.below (BX.trans ((hbV.trans (hbA.mono hbV.size)).mono BX.size)))
    have hTL := all_want t
    have hTS : (allT t).length ≤ 64 := by
      unfold allT; split
      · rename_i hs; rw [subs_len]; obtain ⟨fr', hfr'⟩ := Option.isSome_iff_exists.1 hs; exact (begL_some hfr').2.1
      · simp
    obtain ⟨tvv, htv⟩ : ∃ x, tv t = x := ⟨_, rfl⟩
    rw [htv] at vA' cAll
    have hjI : (j : Int) < (cl.length : Int) := by omega
    have hq := eqF_nil
    gi_wp2
    refine ⟨trivial, ((callsIn_wide (n := 3)).2 cAll).mono ?_⟩
    rintro e wz ⟨B, ta, tc, rfl, hBB, hgB, hA, hbz⟩
    have nz : wz.heap[V.heap.size]? = some (.cells #[.int .i64 0] 3 (0, 0)) := (hbz.block _ (by omega)).trans nA
    have bz : Below V.heap.size V wz := hbA.trans (hbz.mono (by omega))
    have hsz : V.heap.size + 1 ≤ wz.heap.size := by have := hbz.size; omega
    obtain ⟨q, hqq⟩ : ∃ q, allT t = q := ⟨_, rfl⟩
    rw [hqq] at hA hTL hTS
    have hqB := hq B
    have hi0 : BaI V wz B ta tc q 0 wz := ⟨nz, hA, bz, Nat.le_refl _⟩
    clear hq
    gi_wp2
    refine range_seq (gf := 52) (lb := #[.pointer (some ⟨B, 0, none⟩)]) hro (by omega) rfl trivial (enters_of Tryd.func52 (by kernel_rfl) rfl) q.length (fun k => #[tv (q.getD k .nil)]) (fun _ => rfl) (KpA B ta) KpA.trans
      (fun W l o o' hl ho hc => ⟨fun o1 h1 => (World.putObj_heap_other (by obtain ⟨x, y, hb⟩ := hA.blk; have := lt_of_block hb; omega)).trans h1, fun g o1 e h1 => ?kbU⟩)
      (fun l J Jx W hW hY h0 => all1_in Fence.wide 3 trivial hro (by omega) l B ta tc q J Jx W (hA.below hW) hY h0)
      (BaI V wz B ta tc q) (fun _ _ _ => False) (BaI.own (by omega)) (fun _ _ _ _ _ h _ _ => h) hi0 ?AU ?assignU ?bodyU ?doneU ?stopU
    case kbU =>
      rcases hA.rd with h | ⟨g', cur, e', hg', _⟩
      · have := hA.em h
        rw [this] at e; cases e
      · rw [e] at e'; cases e'
        exact (World.putObj_heap_other (by have := lt_of_block hg'; omega)).trans h1
    case assignU =>
      intro l k W K hK
      gi_wp2
      exact hK
    case bodyU =>
      intro l k W hl hk hI
      have cn : W.cell? ⟨V.heap.size, 0, none⟩ = some (.int .i64 (k : Int)) := by simp [World.cell?, hI.n]
      have fn : W.frozen? ⟨V.heap.size, 0, none⟩ = false := by simp [World.frozen?, hI.n]
      have hk64 : (k : Int) < 64 := by omega
      gi_wp2
      have hkp : KpA B ta W (W.setCell ⟨V.heap.size, 0, none⟩ (.int .i64 ((k : Int) + 1))) := KpA.set (by omega) (fun g e => by have := hgB g e; omega)
      refine ⟨(KeepsOthers.setCell _ _ _).from _, hkp, ?_, hI.all.kp hkp, hI.below.setCell (p := ⟨V.heap.size, 0, none⟩) (Nat.le_refl _) _, by have := hI.size; simpa using this⟩
      have := heap_setCell_same W V.heap.size 0 #[.int .i64 (k : Int)] 3 (.int .i64 ((k : Int) + 1)) hI.n
      simpa using this
    case doneU =>
      intro D W hD hI hK
      have cn : W.cell? ⟨V.heap.size, 0, none⟩ = some (.int .i64 (q.length : Int)) := by simp [World.cell?, hI.n]
      have cl' : W.cell? ⟨lg, j, none⟩ = some (.slice xa (wantT t).length xc) := (hI.below.cell (p := ⟨lg, j, none⟩) (by show lg < V.heap.size; have := hbV.size; omega)).trans ((hbV.cell (p := ⟨lg, j, none⟩) hlg).trans hcell)
      rw [← hTL] at cl'
      have MW : Mks w W (D :: ds) := hMk.cons hI.below (by omega) hsV hK
      have hbW : Below wx.heap.size wx W := hbV.trans (hI.below.mono hbV.size)
      clear hI
      gi_wp2
      gi_region
      all_goals
        gi_wp2
        exact ⟨⟨j + 1, D :: ds, _, _, _, _, _, _, _, _, _, _, _, _, _, _, _, _, _, _, _, _, _, _, _, _, _, _, _, _, _, _, _, _, _, _, _, _, _, _, _, _, _, _, _, _, _, _, _, _, _, _, _, _, _, _, _, _, _, _, _, _, _, _, _, _, _, _, _, _, _, _, _, _, _, _, _, _, _, _, _, _, _, _, _, _, _, _, _, _, _, _, _, rfl, ⟨rfl, rfl, rfl, rfl, by go_num⟩, by omega, ⟨MW.nd, MW.at_⟩, (by first | exact hbW | exact hbW.drew)⟩, by simp [intOf]; omega⟩
    case stopU => intro D c k W hD hk hX hK; exact hX.elim
  · obtain rfl : j = cl.length := by omega
    have rV : V.heap[w.heap.size + 1 + 1]? = some (.cells #[.bool false] 4 (0, 0)) := (hbV.block _ (by omega)).trans RX
    have cr : V.cell? ⟨w.heap.size + 1 + 1, 0, none⟩ = some (.bool false) := by simp [World.cell?, rV]
    have fr' : V.frozen? ⟨w.heap.size + 1 + 1, 0, none⟩ = false := by simp [World.frozen?, rV]
    have hbF : Below w.heap.size w (V.setCell ⟨w.heap.size + 1 + 1, 0, none⟩ (.bool true)) := (BX.trans (hbV.mono BX.size)).setCell (p := ⟨w.heap.size + 1 + 1, 0, none⟩) (by show w.heap.size ≤ w.heap.size + 1 + 1; omega) _
    have rF := heap_setCell_same V (w.heap.size + 1 + 1) 0 #[.bool false] 4 (.bool true) rV
    have MF : Mks w (V.setCell ⟨w.heap.size + 1 + 1, 0, none⟩ (.bool true)) ds := hMk.keep (fun E h1 h2 => (KeepsOthers.setCell V ⟨w.heap.size + 1 + 1, 0, none⟩ (.bool true)).same E _ h2 rfl) (by simp)
    gi_wp2
    generalize V.setCell ⟨w.heap.size + 1 + 1, 0, none⟩ (.bool true) = Z at *
    refine leaves_marks ds Z MF.nd (fun D hD => (MF.at_ D hD).2.2) (fun w' h1 h2 h3 h4 h5 => ?_)
    have rZ : w'.heap[w.heap.size + 1 + 1]? = _ := (h5 _ (fun hm => by have := (MF.at_ _ hm).1; omega)).trans rF
    have cZ : w'.cell? ⟨w.heap.size + 1 + 1, 0, none⟩ = some (.bool true) := by simp [World.cell?, rZ]
    refine ⟨.bool true, ?_, rfl, ⟨h1.trans hbF.os, h2.trans hbF.tape, h3.trans hbF.output, by have := hbF.size; omega, fun b hb => (h5 b (fun hm => by have := (MF.at_ b hm).1; omega)).trans (hbF.block b hb)⟩⟩
    simp [results, Tryd.f5, go_sem, cZ]

end Go.Proofs.YtdcfjopmddaemaaDoor
