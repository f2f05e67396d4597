/-
  ExprRebuilds, walked.
-/
import Derived.Test.YtlfbanlmpkfpkaaDoorRbPure
import Derived.Test.YtlfbanlmpkfpkaaDoorSetW
import Derived.Test.YtlfbanlmpkfpkaaDoorVrsW
import Derived.Test.YtlfbanlmpkfpkaaDoorRefOrdW
import Derived.Deep.RegionHeld3
import Derived.Lib.QuietBelow
set_option linter.unusedSimpArgs false
set_option linter.unusedVariables false
namespace Go.Proofs.YtlfbanlmpkfpkaaDoor
open Go.RowKit Go.Lib Go.Maps
open Go.Sort (grow)

theorem OwnP.mono {w : World} {base base' : Nat} {v : Value} {p : List (Nd × Value)} (h : OwnP w base v p) (hb : base' ≤ base) : OwnP w base' v p :=
  ⟨ownsRow_mono h.row hb, fun q hq => ownsRow_mono (h.kids q hq) hb⟩
theorem OwnN.mono {w : World} {base base' : Nat} {v : Value} {l : List Nd} (h : OwnN w base v l) (hb : base' ≤ base) : OwnN w base' v l := let ⟨p, h1, h2⟩ := h; ⟨p, h1, h2.mono hb⟩

/-- Between two parts. -/
structure RbMid (w3 : World) (l : List Nd) (fr : List Nat) (nv : Array Value) (ks : List Int) (v : Value) (acc : List ByteArray) (pvs : List Value) (wr : World) : Prop where
  top : wr.heap[w3.heap.size]? = some (.cells nv 40 (0, 0))
  set_ : SetM wr (w3.heap.size + 1) acc
  mem : ∀ s, s ∈ acc ↔ ∃ k ∈ ks, s ∈ vsL (kidPart l fr k)
  cnt : acc.length ≤ 64 * ks.length
  parts : OwnLs wr (w3.heap.size + 2) v (ks.map (kidPart l fr)) pvs
  below : Below w3.heap.size w3 wr

theorem RbMid.next {w3 : World} {l : List Nd} {fr : List Nat} {nv : Array Value} {ks : List Int} {v : Value} {acc : List ByteArray} {pvs : List Value} {wr w' : World} (h : RbMid w3 l fr nv ks v acc pvs wr) (hb : Below wr.heap.size wr w') : RbMid w3 l fr nv ks v acc pvs w' :=
  ⟨(hb.block _ (lt_of_block h.top)).trans h.top, h.set_.below hb, h.mem, h.cnt, h.parts.below hb, h.below.trans (hb.mono h.below.size)⟩

theorem small_dpR (l : List Nd) : ∀ ds : List Nat, Small ds → (∀ j, j < l.length → ∀ k ∈ (l.getD j nd0).kids, 0 ≤ k ∧ k < ((ds.length + j : Nat) : Int)) → Small (dpR ds l) := by
  induction l with
  | nil => intro ds h _; exact h
  | cons x r ih =>
    intro ds h hk
    simp only [dpR]
    refine ih _ (h.snoc ?_) fun j hj k hkk => ?_
    · have := mxF_le h ds.length x.kids 0 (fun q hq => by have := hk 0 (by simp) q (by simpa using hq); simpa using this) (by omega)
      omega
    · have := hk (j + 1) (by simp; omega) k (by simpa using hkk)
      simp; omega
theorem SetM.not_cell {w : World} {B : Nat} {acc : List ByteArray} (h : SetM w B acc) {o : Nat} {v : Value} (hc : w.cell? ⟨B, o, none⟩ = some v) : False := by
  obtain ⟨es, c, h1, _⟩ := h
  simp [World.cell?, h1] at hc
/-- While names are laid into the set. -/
structure MMid (w9 : World) (M : Nat) (acc : List ByteArray) (wq : World) : Prop where
  set_ : SetM wq M acc
  gr : w9.grownBy wq (some M)
theorem MMid.step {w9 : World} {M : Nat} {acc acc' : List ByteArray} {wq w' : World} (h : MMid w9 M acc wq) (hs : SetM w' M acc') (hg : wq.grownBy w' (some M)) : MMid w9 M acc' w' :=
  ⟨hs, hg.os.trans h.gr.os, hg.tape.trans h.gr.tape, hg.output.trans h.gr.output, Nat.le_trans h.gr.size hg.size, fun k hk hne => (hg.block k (Nat.lt_of_lt_of_le hk h.gr.size) hne).trans (h.gr.block k hk hne)⟩

theorem own_gr {w w' : World} {base M : Nat} {e : TypeId} {s n : Nat} {v : Value} {xs : List Value} (h : w.ownsRow base e s v n xs) (hg : w.grownBy w' (some M)) (hM : M < base) : w'.ownsRow base e s v n xs :=
  World.ownsRow.kept h hg (.inr fun e => by have := (own_block' h M e).1; omega)
theorem OwnN.gr {w w' : World} {base M : Nat} {v : Value} {l : List Nd} (h : OwnN w base v l) (hg : w.grownBy w' (some M)) (hM : M < base) : OwnN w' base v l := by
  obtain ⟨p, h1, h2⟩ := h
  exact ⟨p, h1, own_gr h2.row hg hM, fun q hq => own_gr (h2.kids q hq) hg hM⟩
theorem OwnLs.gr {w w' : World} {base M : Nat} {v : Value} {ps : List (List Nd)} {pvs : List Value} (h : OwnLs w base v ps pvs) (hg : w.grownBy w' (some M)) (hM : M < base) : OwnLs w' base v ps pvs :=
  ⟨h.len, own_gr h.row hg hM, fun i hi => (h.each i hi).gr hg hM⟩

set_option maxRecDepth 20000 in
set_option maxHeartbeats 1000000 in
theorem rebuilds_none (w : World) (ao : Option Addr) (cap : Nat) (l : List Nd) (T0 : SpanCells w) (A0 : Rd w ao cap l) (FA : Fit l) (h : begL l = none) :
    Calls Tryd.prog 4 #[.slice ao l.length cap] w fun e w' => e = .returned (.bool true) ∧ Below w.heap.size w w' := by
  have bb0 := Below.refl w.heap.size w
  have HS : Hid (begL l = none) := h
  clear h
  go_enter Tryd.func4, Tryd.ntmps4
  go_wp2_with fail
  refine (awk_any _ T0).mono ?_
  rintro e w1 ⟨rfl, hb1⟩
  have T1 := T0.below hb1
  have bb1 : Below w.heap.size w w1 := bb0.trans (hb1.mono bb0.size)
  have A1 := A0.below hb1 hb1.size
  clear A0 T0 hb1 bb0
  go_wp2_with fail
  refine (copyR A1 FA).mono ?_
  rintro e w2 ⟨o2, p2, rfl, D2, hb2⟩
  have T2 := T1.below hb2
  have bb2 : Below w.heap.size w w2 := bb1.trans (hb2.mono bb1.size)
  have A2 := A1.below hb2 hb2.size
  clear A1 T1 hb2 bb1
  go_wp2_with fail
  refine (check_none _ l _ _ (Nat.le_refl _) T2 D2 HS.out).mono ?_
  rintro e w3 ⟨rfl, hb3⟩
  have T3 := T2.below hb3
  have bb3 : Below w.heap.size w w3 := bb2.trans (hb3.mono bb2.size)
  have A3 := A2.below hb3 hb3.size
  clear A2 T2 hb3 bb2 D2
  go_wp2_with fail
  refine (copyR A3 FA).mono ?_
  rintro e w4 ⟨o4, p4, rfl, D4, hb4⟩
  have T4 := T3.below hb4
  have bb4 : Below w.heap.size w w4 := bb3.trans (hb4.mono bb3.size)
  clear A3 T3 hb4 bb3
  go_wp2_with fail
  refine (depth_none _ l _ _ (Nat.le_refl _) T4 D4 HS.out).mono ?_
  rintro e w5 ⟨rfl, hb5⟩
  have bb5 : Below w.heap.size w w5 := bb4.trans (hb5.mono bb4.size)
  go_wp2_with fail
  go_ret
  exact ⟨rfl, bb5⟩

theorem make_whole {w : World} {base : Nat} {v : Value} {op n : Int} {nm : ByteArray} {kids : List Int} {l : List Nd} {fr : List Nat} {pvs : List Value} (hL : OwnLs w base v (kids.map (kidPart l fr)) pvs) (hT : SpanCells w) (h1 : ∀ p ∈ kids.map (kidPart l fr), sndB p = true) (h2 : fitB op n nm kids.length = true) (h3 : 1 + (accS (kids.map (kidPart l fr))).1.length ≤ 64) (h4 : joinL op n nm (kids.map (kidPart l fr)) = l) (h5 : kids.length ≤ 3) :
    Calls Tryd.prog 19 #[.int .i64 op, .int .i64 n, .string nm, v] w fun e w' => ∃ ao cap, e = .returned (.tuple #[.slice ao l.length cap, .int .i64 0]) ∧ Rd w' ao cap l ∧ Below w.heap.size w w' := by
  refine (make_any op n nm v (kids.map (kidPart l fr)) w w.heap.size (Nat.le_refl _) hT (Lst_of_own hL (Nat.le_refl _)) (by simp; omega)).mono ?_
  intro e w' hP
  rcases hP.ways with ⟨⟨p, hp, hs⟩, _⟩ | ⟨_, hf, _⟩ | ⟨_, _, hf, _⟩ | ⟨_, _, _, v', rfl, hO⟩
  · rw [h1 p hp] at hs; cases hs
  · rw [List.length_map, h2] at hf; cases hf
  · omega
  · rw [h4] at hO
    obtain ⟨ao, cap, rfl, hR⟩ := Rd_of_own hO
    exact ⟨ao, cap, rfl, hR, hP.below⟩

set_option maxRecDepth 20000 in
set_option maxHeartbeats 4000000 in
theorem rebuilds_some (w : World) (ao : Option Addr) (cap : Nat) (l : List Nd) (fr : List Nat) (T0 : Tabs w) (A0 : Rd w ao cap l) (FA : Fit l) (h : begL l = some fr) :
    Calls Tryd.prog 4 #[.slice ao l.length cap] w fun e w' => e = .returned (.bool true) ∧ Below w.heap.size w w' := by
  have bb0 := Below.refl w.heap.size w
  have HS : Hid (begL l = some fr) := h
  have h64 := (begL_some h).2.1
  have hl0 := (begL_some h).1
  have HOK : Hid (BegOk l fr) := begOk_of (begL_some h).2.2.1
  have hmm := @run_makeMap Tryd.prog
  obtain ⟨m0, hmi, hx0, hx1, hx2⟩ := info_parts Tryd.infoNodes
  obtain ⟨hl1, hl2⟩ := A0.bound
  unfold maxLen at hl2
  have HKK : Hid (∀ k ∈ (l.getD (l.length - 1) nd0).kids, 0 ≤ k ∧ k < (l.length : Int) - 1) := fun k hk => by
    have := ok_kids_lt HOK.out (l.length - 1) (by omega) k hk
    omega
  have hk3 : (l.getD (l.length - 1) nd0).kids.length ≤ 3 := (snd_bounds h).2 _ (by simp [show l.length - 1 < l.length by omega])
  have HDP : Hid ((dpR [] l).getD (l.length - 1) 0 = mxF (dpR [] l) 0 (l.getD (l.length - 1) nd0).kids + 1) := dp_at (l.length - 1) (by omega) (ok_kids_lt HOK.out (l.length - 1) (by omega))
  have HVS : Hid (∀ s, s ∈ vsL l ↔ (∃ k ∈ (l.getD (l.length - 1) nd0).kids, s ∈ vsL (kidPart l fr k)) ∨ ((l.getD (l.length - 1) nd0).op = 2 ∧ s = (l.getD (l.length - 1) nd0).name)) := vs_whole h
  have HSM : Hid (Small (dpR [] l)) := small_dpR l [] (by intro j; simp) (fun j hj k hk => by have := ok_kids_lt HOK.out j hj k hk; simpa using this)
  have HJ := whole_join h
  have HPS := parts_snd h
  have HPF := top_fit h
  have HPM := parts_small h
  have HCK : Hid (∀ s ∈ vsL l, (chk s).2 = 0 ∧ s.size ≤ 64) := snd_chk h
  have HNM0 : (l.getD (l.length - 1) nd0).name.size ≤ maxLen := FA.name _ (by simp [show l.length - 1 < l.length by omega])
  obtain ⟨b, o, kv, rfl, hbw, hNA⟩ : ∃ b o kv, ao = some ⟨b, o, none⟩ ∧ b < w.heap.size ∧ NodeAt w w.heap.size b (o + (l.length - 1) * 4) (l.getD (l.length - 1) nd0) kv := A0.cell (by omega)
  generalize l.getD (l.length - 1) nd0 = x at *
  obtain ⟨op, n, nm, kids⟩ := x
  obtain ⟨c0, c1, c2, c3, hki⟩ := hNA
  simp only at c0 c1 c2 c3 hki hk3 HKK HDP HVS HJ HPS HPF HPM HNM0
  have HNM : Hid (nm.size ≤ maxLen) := HNM0
  obtain ⟨ka, kc, rfl, hkl, ⟨hkm, _⟩, hkc⟩ := hki
  unfold maxLen at hkm
  have HKC : Hid (kids = [] ∨ ∃ b o, ka = some ⟨b, o, none⟩ ∧ b < w.heap.size ∧ ∀ j, j < kids.length → w.cell? ⟨b, o + j, none⟩ = some (.int .i64 (kids.getD j 0))) := hkc
  have HJO : Hid (joinL op n nm (kids.map (kidPart l fr)) = l) := HJ
  have HPS' : Hid (∀ p ∈ kids.map (kidPart l fr), sndB p = true) := HPS
  have HPF' : Hid (fitB op n nm kids.length = true) := HPF
  have HPM' : Hid (1 + (accS (kids.map (kidPart l fr))).1.length ≤ 64) := HPM
  clear h hkc HJ HPS HPF HPM
  have HTOP : Hid (∀ w', Below w.heap.size w w' → w'.cell? ⟨b, o + (l.length - 1) * 4, none⟩ = some (.int .i64 op) ∧ w'.cell? ⟨b, o + (l.length - 1) * 4 + 1, none⟩ = some (.int .i64 n) ∧ w'.cell? ⟨b, o + (l.length - 1) * 4 + 2, none⟩ = some (.string nm) ∧ w'.cell? ⟨b, o + (l.length - 1) * 4 + 3, none⟩ = some (.slice ka kids.length kc)) := fun w' hb =>
    ⟨(hb.cell (p := ⟨b, _, none⟩) hbw).trans c0, (hb.cell (p := ⟨b, _, none⟩) hbw).trans c1, (hb.cell (p := ⟨b, _, none⟩) hbw).trans c2, (hb.cell (p := ⟨b, _, none⟩) hbw).trans c3⟩
  clear c0 c1 c2 c3
  go_enter Tryd.func4, Tryd.ntmps4
  go_wp2_with fail
  refine (awk_any _ T0.spans).mono ?_
  rintro e w1 ⟨rfl, hb1⟩
  have T1 := T0.below hb1
  have bb1 : Below w.heap.size w w1 := bb0.trans (hb1.mono bb0.size)
  have A1 := A0.below hb1 hb1.size
  clear A0 T0 hb1 bb0
  go_wp2_with fail
  refine (copyR A1 FA).mono ?_
  rintro e w2 ⟨o2, p2, rfl, D2, hb2⟩
  have T2 := T1.below hb2
  have bb2 : Below w.heap.size w w2 := bb1.trans (hb2.mono bb1.size)
  have A2 := A1.below hb2 hb2.size
  clear A1 T1 hb2 bb1
  go_wp2_with fail
  refine (check_some _ l fr _ _ (Nat.le_refl _) T2.spans D2 HS.out).mono ?_
  rintro e w3 ⟨rfl, hb3⟩
  have T3 := T2.below hb3
  have bb3 : Below w.heap.size w w3 := bb2.trans (hb3.mono bb2.size)
  have A3 := A2.below hb3 hb3.size
  clear A2 T2 hb3 bb2 D2
  obtain ⟨c0, c1, c2, c3⟩ := HTOP.out w3 bb3
  have hz3 := bb3.size
  have hbn : b ≠ w3.heap.size := by omega
  go_wp2_with fail
  go_loopw [6, 7, 9] (fun v dv i wr => ∃ (j : Nat) (acc : List ByteArray) (pvs : List Value), j ≤ kids.length ∧ i = .int .i64 j ∧ dv = .int .i64 (mxF (dpR [] l) 0 (kids.take j) : Nat) ∧ RbMid w3 l fr #[.int .i64 op, .int .i64 n, .string nm, .slice ka kids.length kc] (kids.take j) v acc pvs wr) (fun _ _ i _ => kids.length - (RowKit.intOf i).toNat)
  case atStart =>
    refine ⟨0, [], [], by omega, rfl, rfl, ⟨?_, ?_, by simp, by simp, ⟨rfl, World.ownsRow_nil _ _ _ _, by simp⟩, ((Below.refl _ _).alloc (Nat.le_refl _) _).alloc (by rw [World.size_alloc]; omega) _⟩⟩
    · rw [Deep.blk_alloc_lt _ _ _ (by rw [World.size_alloc]; omega), Deep.blk_alloc_new]
    · have := SetM.made (w3.alloc (.cells #[.int .i64 op, .int .i64 n, .string nm, .slice ka kids.length kc] 40))
      rwa [World.size_alloc] at this
  case round =>
    obtain ⟨j, acc, pvs, hj, rfl, rfl, hM⟩ := hrel
    have hl6 : ((kids.take j).map (kidPart l fr)).length = j := by simp; omega
    obtain ⟨va, vc, hv6⟩ := row_form' hM.parts.row
    rw [hl6] at hv6
    subst hv6
    have hsz := hM.below.size
    have htl := lt_of_block hM.top
    have hml := hM.set_.lt
    have d0 : wr.cell? ⟨w3.heap.size, 0, none⟩ = some (.int .i64 op) := by simp [World.cell?, hM.top]
    have d1 : wr.cell? ⟨w3.heap.size, 1, none⟩ = some (.int .i64 n) := by simp [World.cell?, hM.top]
    have d2 : wr.cell? ⟨w3.heap.size, 2, none⟩ = some (.string nm) := by simp [World.cell?, hM.top]
    have d3 : wr.cell? ⟨w3.heap.size, 3, none⟩ = some (.slice ka kids.length kc) := by simp [World.cell?, hM.top]
    have bbr : Below w.heap.size w wr := bb3.trans (hM.below.mono hz3)
    have Tr := T3.below hM.below
    have Ar := A3.below hM.below hM.below.size
    by_cases hlt : j < kids.length
    · obtain ⟨kb, ko, rfl, hkb, hkc⟩ : ∃ b o, ka = some ⟨b, o, none⟩ ∧ b < w.heap.size ∧ ∀ j, j < kids.length → w.cell? ⟨b, o + j, none⟩ = some (.int .i64 (kids.getD j 0)) := by
        rcases HKC.out with h | h
        · subst h; simp at hlt
        · exact h
      have e0 : wr.cell? ⟨kb, ko + j, none⟩ = some (.int .i64 (kids.getD j 0)) := (bbr.cell (p := ⟨kb, ko + j, none⟩) hkb).trans (hkc j hlt)
      obtain ⟨hy0, hy1⟩ := HKK.out (kids.getD j 0) (by simp [hlt])
      have HTK : Hid (kids.take (j + 1) = kids.take j ++ [kids.getD j 0]) := by rw [Hid, List.take_succ_eq_append_getElem hlt]; simp [hlt]
      clear hkc
      generalize kids.getD j 0 = y at *
      obtain ⟨y, rfl⟩ : ∃ z : Nat, y = (z : Int) := ⟨y.toNat, by omega⟩
      have hyl : y < l.length := by omega
      have hkp : kidPart l fr (y : Int) = partL l (fr.getD y 0) y := rfl
      obtain ⟨P, hP⟩ : ∃ P, partL l (fr.getD y 0) y = P := ⟨_, rfl⟩
      obtain ⟨fo, hfo⟩ := part_snd HS.out y hyl
      have hdk := dp_kid HOK.out y hyl
      have hpn : ∀ x ∈ partL l (fr.getD y 0) y, x.name.size ≤ maxLen := names_part _ _ FA.name
      rw [hP] at hkp hfo hdk hpn
      have HFO : Hid (begL P = some fo) := hfo
      have FP := fit_of_snd hfo hpn
      have HKP : Hid (kidPart l fr (y : Int) = P) := hkp
      have HP : Hid (partL l (fr.getD y 0) y = P) := hP
      have HDK : Hid ((dpR [] P).getD (P.length - 1) 0 = (dpR [] l).getD y 0) := hdk
      have HCP : Hid (∀ s ∈ vsL P, (chk s).2 = 0) := fun s hs => (snd_chk hfo s hs).1
      have HCP2 : Hid (∀ s ∈ vsL P, s.size ≤ 64) := fun s hs => (snd_chk hfo s hs).2
      have hp64 := (begL_some hfo).2.1
      have HCE : Hid (∀ w', Below wr.heap.size wr w' → w'.cell? ⟨w3.heap.size, 3, none⟩ = some (.slice (some ⟨kb, ko, none⟩) kids.length kc) ∧ w'.cell? ⟨kb, ko + j, none⟩ = some (.int .i64 (y : Int))) := fun w' hb =>
        ⟨(hb.cell (p := ⟨w3.heap.size, 3, none⟩) htl).trans d3, (hb.cell (p := ⟨kb, ko + j, none⟩) (by have := bbr.size; show kb < wr.heap.size; omega)).trans e0⟩
      clear hkp hP hfo hdk hpn
      have HM : Hid (RbMid w3 l fr #[.int .i64 op, .int .i64 n, .string nm, .slice (some ⟨kb, ko, none⟩) kids.length kc] (kids.take j) (.slice va j vc) acc pvs wr) := hM
      clear hM
      go_wp2_with fail
      go_region_held3 (fun W => W.cell? ⟨w3.heap.size, 3, none⟩ = some (.slice (some ⟨kb, ko, none⟩) kids.length kc) ∧ W.cell? ⟨kb, ko + j, none⟩ = some (.int .i64 (y : Int))) (go_keep) (first | (go_at_call 7; refine (copyR (Ar.below (Below.refl _ _).drew (Nat.le_refl _)) FA).mono ?_; rintro e w4 ⟨ao4, cap4, rfl, D4, hb4'⟩; have hb4 : Below wr.heap.size wr w4 := (Below.refl wr.heap.size wr).drew.trans hb4'; obtain ⟨k0, k1⟩ := HCE.out w4 hb4) | (go_at_call 9; refine (part_in _ l fr y _ w4 _ (Nat.le_refl _) (Tr.spans.below hb4) D4 HS.out hyl rfl).mono ?_; rintro e w5 ⟨v5, rfl, hO5, hb5⟩; obtain ⟨k0, k1⟩ := HCE.out w5 (Below.trans hb4 (Below.mono hb5 hb4.size))))
      have b5 : Below wr.heap.size wr w5 := hb4.trans (hb5.mono hb4.size)
      have T5 := Tr.below b5
      have hM5 := HM.out.next b5
      have hz5 := b5.size
      obtain ⟨o5, p5, hv5, R5⟩ := Rd_of_own hO5
      rw [HP.out] at hv5 R5 hO5
      subst hv5
      have hO5' : OwnN w5 (w3.heap.size + 2) (.slice o5 P.length p5) P := hO5.mono (by have := hb4.size; omega)
      obtain ⟨hp51, hp52⟩ := R5.bound
      unfold maxLen at hp52
      clear hO5 D4 hb4 hb4' hb5 k0 k1 HM Tr Ar d0 d1 d2 d3 e0 HCE
      have hdl := mxF_le (ds := dpR [] l) HSM.out l.length (kids.take j) 0 (fun q hq => by have := HKK.out q (List.mem_of_mem_take hq); omega) (by omega)
      have hdy := HSM.out y
      have HMX : Hid (mxF (dpR [] l) 0 (kids.take (j + 1)) = max (mxF (dpR [] l) 0 (kids.take j)) ((dpR [] l).getD y 0)) := by
        show mxF (dpR [] l) 0 (kids.take (j + 1)) = _
        rw [HTK.out, mxF_snoc, Int.toNat_natCast]
      go_wp2_with fail
      refine (copyR R5 FP).mono ?_
      rintro e w6 ⟨o6, p6, rfl, D6, b6⟩
      have T6 := T5.below b6
      have R6 := R5.below b6 b6.size
      go_wp2_with fail
      refine (depth_some _ P fo _ _ (Nat.le_refl _) T6.spans D6 HFO.out).mono ?_
      rintro e w7 ⟨rfl, b7⟩
      rw [HDK.out]
      generalize (dpR [] l).getD y 0 = dy at *
      generalize mxF (dpR [] l) 0 (kids.take j) = dj at *
      have T7 := T6.below b7
      have R7 := R6.below b7 b7.size
      clear D6 T6 R6
      go_wp2_with fail
      refine (copyR R7 FP).mono ?_
      rintro e w8 ⟨o8, p8, rfl, D8, b8⟩
      have T8 := T7.below b8
      go_wp2_with fail
      refine (vars_some _ P fo _ _ (Nat.le_refl _) T8 D8 HFO.out HCP.out).mono ?_
      rintro e w9 ⟨o9, p9, xs, rfl, V9, S9, b9⟩
      have b59 : Below w5.heap.size w5 w9 := ((b6.trans (b7.mono b6.size)).trans (b8.mono (Nat.le_trans b6.size b7.size))).trans (b9.mono (Nat.le_trans (Nat.le_trans b6.size b7.size) b8.size))
      have hM9 := hM5.next b59
      have hO9 := hO5'.below b59
      have hx64 : xs.length ≤ 64 := Nat.le_trans (nodup_len xs (vsL P) V9.nodup fun s hs => (V9.mem s).1 hs) (Nat.le_trans (vsL_le P) hp64)
      obtain ⟨hs91, hs92, _⟩ := id S9
      unfold maxLen at hs92
      clear D8 T8 T7 R7 R5 b6 b7 b8 b9 hO5' hM5 T5 b59
      go_wp2_with fail
      go_loopw [16] (fun qv wq => ∃ q : Nat, q ≤ xs.length ∧ qv = .int .i64 q ∧ MMid w9 (w3.heap.size + 1) (acc ++ xs.take q) wq) (fun qv _ => xs.length - (RowKit.intOf qv).toNat)
      case atStart => exact ⟨0, by omega, rfl, by simpa using hM9.set_, World.grownBy.refl _ _⟩
      case round =>
        obtain ⟨q, hq, rfl, hQ⟩ := hrel
        by_cases hql : q < xs.length
        · obtain ⟨gb, go, rfl, hgb, hgc⟩ := S9.cell hql
          have hgM : gb ≠ w3.heap.size + 1 := fun e => by subst e; exact hM9.set_.not_cell hgc
          have cq : wr.cell? ⟨gb, go + q, none⟩ = some (.string (xs.getD q ⟨#[]⟩)) := (hQ.gr.cell_far ⟨gb, go + q, none⟩ hgb (by simpa using hgM)).trans hgc
          have hxm : xs.getD q ⟨#[]⟩ ∈ xs := by simp [hql]
          have hxs := HCP2.out _ ((V9.mem _).1 hxm)
          have HX : Hid (xs.take (q + 1) = xs.take q ++ [xs.getD q ⟨#[]⟩]) := by rw [Hid, List.take_succ_eq_append_getElem hql]; simp [hql]
          clear hgc hxm
          generalize xs.getD q ⟨#[]⟩ = s at *
          have hal := hM9.cnt
          have hac : (acc ++ xs.take q).length < maxLen := by
            have : kids.length ≤ 3 := hk3
            simp at hal ⊢
            unfold maxLen
            omega
          obtain ⟨wS, hrun, hS', hgS⟩ := hQ.set_.put hac (s := s) (by unfold maxLen; omega)
          have HQ : Hid (MMid w9 (w3.heap.size + 1) (acc ++ xs.take q) wr) := hQ
          clear hQ hal hac
          go_wp2_with fail
          refine ⟨⟨q + 1, by omega, by go_num, HQ.out.step ?_ hgS⟩, by simp [RowKit.intOf]; omega⟩
          rw [HX.out, ← List.append_assoc]; exact hS'
        · have hqe : q = xs.length := by omega
          subst hqe
          have ex : xs.take xs.length = xs := List.take_length
          rw [ex] at hQ
          have hL := hM9.parts.gr hQ.gr (by omega)
          have hN := hO9.gr hQ.gr (by omega)
          have hrow := hL.row
          rw [hl6] at hrow
          have HL6 : Hid (((kids.take j).map (kidPart l fr)).length = j) := hl6
          have hBq : Below w3.heap.size w3 wr := hM9.below.grown hQ.gr hM9.below.size (by intro k hk; cases hk; omega)
          have htop : wr.heap[w3.heap.size]? = some (.cells #[.int .i64 op, .int .i64 n, .string nm, .slice (some ⟨kb, ko, none⟩) kids.length kc] 40 (0, 0)) := (hQ.gr.block _ (lt_of_block hM9.top) (by simp)).trans hM9.top
          have hSq := hQ.set_
          have hwz := lt_of_block htop
          have hmz := hSq.lt
          have HMEM : Hid (∀ s, s ∈ acc ++ xs ↔ ∃ k ∈ kids.take (j + 1), s ∈ vsL (kidPart l fr k)) := fun s => by
            rw [HTK.out, List.mem_append, hM9.mem s, V9.mem s]
            constructor
            · rintro (⟨k, hk, hs⟩ | hs)
              · exact ⟨k, List.mem_append_left _ hk, hs⟩
              · exact ⟨(y : Int), by simp, by rw [HKP.out]; exact hs⟩
            · rintro ⟨k, hk, hs⟩
              rcases List.mem_append.1 hk with hk | hk
              · exact .inl ⟨k, hk, hs⟩
              · simp at hk; subst hk; rw [HKP.out] at hs; exact .inr hs
          have HCNT : Hid ((acc ++ xs).length ≤ 64 * (kids.take (j + 1)).length) := by
            have := hM9.cnt
            rw [Hid, HTK.out]
            simp at this ⊢
            omega
          have HL : Hid (OwnLs wr (w3.heap.size + 2) (.slice va j vc) ((kids.take j).map (kidPart l fr)) pvs) := hL
          clear hQ hL hM9 hO9 hl6 ex
          go_wp2_with (at_builtin; refine wpList_append_lies _ rfl (.tmp 99) (.tmp 101) 41 rfl (w3.heap.size + 2) 22 m0 (.slice none 0 0) 1 24 Tryd.underlying41 hmi hx0 hx1 hx2 rfl (by decide) _ _ _ rfl (hrow.alloc _) ⟨wr.heap.size, 0, none⟩ 1 1 [.slice o5 P.length p5] rfl rfl (cell_news_one _ _ _) (by simp [Value.oneCell']) (by omega) (by unfold maxLen; omega) (by omega) (by simp; omega) _ rfl ?_; intro g6 cap6 w6 hown6 hg6 hat6 hl6)
          have ha0 := (Below.refl wr.heap.size wr).alloc (Nat.le_refl _) (.cells #[.slice o5 P.length p5] 22)
          have hne : ∀ k, (Value.slice va j vc).ownBlock = some k → w3.heap.size + 2 ≤ k := fun k hk => (own_block' hrow k hk).1
          refine ⟨⟨j + 1, acc ++ xs, pvs ++ [.slice o5 P.length p5], by omega, by go_num, ?_, ⟨?_, ?_, HMEM.out, HCNT.out, ?_, ?_⟩⟩, by simp [RowKit.intOf]; omega⟩
          · rw [HMX.out]
            have hmx : (max (dj : Int) (dy : Int)) = ((max dj dy : Nat) : Int) := by omega
            first
            | rfl
            | rw [hmx]
          · rw [hg6.block _ (by rw [World.size_alloc]; omega) (fun e => by have := hne _ e.symm; omega), Deep.blk_alloc_lt _ _ _ hwz]
            exact htop
          · exact (hSq.alloc _).kept hg6 (fun e => by have := hne _ e.symm; omega)
          · have h1 := OwnLs.snoc (HL.out.below ha0) (hN.below ha0) (by rw [HL6.out]; exact hown6) hg6
            rw [HTK.out, List.map_append, List.map_singleton, HKP.out]
            exact h1
          · exact (hBq.alloc (by omega) _).grown hg6 (by rw [World.size_alloc]; omega) (fun k hk => by have := hne k hk; omega)
    · have hje : j = kids.length := by omega
      subst hje
      have ek : kids.take kids.length = kids := List.take_length
      rw [ek] at hM
      rw [ek]
      have HL : Hid (OwnLs wr (w3.heap.size + 2) (.slice va kids.length vc) (kids.map (kidPart l fr)) pvs) := hM.parts
      have hcnt := hM.cnt
      have HMEM := hM.mem
      have hSr := hM.set_
      have hBr := hM.below
      have htop := hM.top
      clear hM ek hl6
      by_cases hop : op = 2
      case' pos =>
        have hop' : (op == 2) = true := by simp [hop]
        obtain ⟨wA, hrun, hSA, hgA⟩ := hSr.put (s := nm) (by unfold maxLen; omega) (HNM.out)
        have t0 : wA.cell? ⟨w3.heap.size, 0, none⟩ = some (.int .i64 op) := (hgA.cell_far ⟨w3.heap.size, 0, none⟩ htl (by simp)).trans d0
        have t1 : wA.cell? ⟨w3.heap.size, 1, none⟩ = some (.int .i64 n) := (hgA.cell_far ⟨w3.heap.size, 1, none⟩ htl (by simp)).trans d1
        have t2 : wA.cell? ⟨w3.heap.size, 2, none⟩ = some (.string nm) := (hgA.cell_far ⟨w3.heap.size, 2, none⟩ htl (by simp)).trans d2
        have HMA : Hid (∀ s, s ∈ acc ++ [nm] ↔ s ∈ vsL l) := fun s => by
          rw [HVS.out s, List.mem_append, HMEM s]
          simp [hop]
        have HLA := HL.out.gr hgA (by omega)
        have hBA : Below w3.heap.size w3 wA := hBr.grown hgA hBr.size (by intro k hk; cases hk; omega)
        generalize acc ++ [nm] = acc2 at *
        clear hgA hop
        go_wp2_with fail
      case' neg =>
        have hop' : (op == 2) = false := by simp [hop]
        have HMA : Hid (∀ s, s ∈ acc ↔ s ∈ vsL l) := fun s => by
          rw [HVS.out s, HMEM s]
          simp [hop]
        have HLA := HL.out
        have hSA := hSr
        have hBA := hBr
        clear hop
        obtain ⟨wA, hwA⟩ : ∃ wA, wA = wr := ⟨_, rfl⟩
        subst hwA
        obtain ⟨acc2, hac2⟩ : ∃ acc2, acc2 = acc := ⟨_, rfl⟩
        subst hac2
        go_wp2_with fail
      all_goals
        have TA := T3.below hBA
        have AA := A3.below hBA hBA.size
        have bbA : Below w.heap.size w wA := bb3.trans (hBA.mono hz3)
        have zA := bbA.size
        refine (make_whole HLA TA.spans HPS'.out HPF'.out HPM'.out HJO.out hk3).mono ?_
        rintro e w5 ⟨o5, p5, rfl, X5, b5⟩
        have T5 := TA.below b5
        have A5 := AA.below b5 b5.size
        have S5 := hSA.below b5
        go_wp2_with fail
        refine (copyR A5 FA).mono ?_
        rintro e w6 ⟨o6, p6, rfl, D6, b6⟩
        have T6 := T5.below b6
        have X6 := X5.below b6 b6.size
        have A6 := A5.below b6 b6.size
        have S6 := S5.below b6
        go_wp2_with fail
        refine (depth_some _ l fr _ _ (Nat.le_refl _) T6.spans D6 HS.out).mono ?_
        rintro e w7 ⟨rfl, b7⟩
        rw [HDP.out]
        have hdl := mxF_le (ds := dpR [] l) HSM.out l.length kids 0 (fun q hq => by have := HKK.out q hq; omega) (by omega)
        generalize mxF (dpR [] l) 0 kids = dd at *
        have T7 := T6.below b7
        have X7 := X6.below b7 b7.size
        have A7 := A6.below b7 b7.size
        have S7 := S6.below b7
        go_wp2_with fail
        refine (copyR A7 FA).mono ?_
        rintro e w8 ⟨o8, p8, rfl, D8, b8⟩
        have T8 := T7.below b8
        have X8 := X7.below b8 b8.size
        have A8 := A7.below b8 b8.size
        have S8 := S7.below b8
        go_wp2_with fail
        refine (vars_some _ l fr _ _ (Nat.le_refl _) T8 D8 HS.out (fun s hs => (HCK.out s hs).1)).mono ?_
        rintro e w9 ⟨o9, p9, ys, rfl, V9, Y9, b9⟩
        have T9 := T8.below b9
        have X9 := X8.below b9 b9.size
        have A9 := A8.below b9 b9.size
        have S9 := S8.below b9
        have hy64 : ys.length ≤ 64 := Nat.le_trans (nodup_len ys (vsL l) V9.nodup fun s hs => (V9.mem s).1 hs) (Nat.le_trans (vsL_le l) h64)
        have b19 : Below wA.heap.size wA w9 := (((b5.trans (b6.mono b5.size)).trans (b7.mono (Nat.le_trans b5.size b6.size))).trans (b8.mono (Nat.le_trans (Nat.le_trans b5.size b6.size) b7.size))).trans (b9.mono (Nat.le_trans (Nat.le_trans (Nat.le_trans b5.size b6.size) b7.size) b8.size))
        have bb9 : Below w.heap.size w w9 := bbA.trans (b19.mono zA)
        clear T5 T6 T7 T8 X5 X6 X7 X8 A5 A6 A7 A8 S5 S6 S7 S8 D6 D8 b5 b6 b7 b8 b9 b19
        go_wp2_with fail
        refine (sameR X9 A9 true (by simp)).mono ?_
        rintro e wS ⟨rfl, bS⟩
        have TS := T9.below bS
        have SS := S9.below bS
        have YS := Y9.below bS
        have bbS : Below w.heap.size w wS := bb9.trans (bS.mono bb9.size)
        have hlen := fun ty => SS.len V9 HMA.out ty
        obtain ⟨hs91, hs92, _⟩ := id YS
        unfold maxLen at hs92
        clear HLA hSA hBA TA AA X9 A9 S9 T9 Y9 bS hSr hBr HL htop d0 d1 d2 d3 Tr Ar bbr HMEM hcnt
        go_wp2_with fail
        clear hlen
        go_loopw [23] (fun qv wq => ∃ q : Nat, q ≤ ys.length ∧ qv = .int .i64 q ∧ Below wS.heap.size wS wq) (fun qv _ => ys.length - (RowKit.intOf qv).toNat)
        case atStart => exact ⟨0, by omega, rfl, Below.refl _ _⟩
        case round =>
          obtain ⟨q, hq, rfl, hQ⟩ := hrel
          have Yr := YS.below hQ
          have Sr := SS.below hQ
          have HBQ : Hid (Below wS.heap.size wS wr) := hQ
          clear hQ
          by_cases hql : q < ys.length
          · obtain ⟨gb, go, rfl, hgb, hgc⟩ := Yr.cell hql
            have hxm : ys.getD q ⟨#[]⟩ ∈ ys := by simp [hql]
            have hxl : ys.getD q ⟨#[]⟩ ∈ acc2 := (HMA.out _).2 ((V9.mem _).1 hxm)
            have hxs := (HCK.out _ ((V9.mem _).1 hxm)).2
            have g1 := cell_regrown hgc
            have hlk : ∀ d os, (Instr.lookup 42 (.map (some (w3.heap.size + 1))) (.string (ys.getD q ⟨#[]⟩)) false).run Tryd.prog (grow (redrawn wr d) os) = .ok (.bool true) (grow (redrawn wr d) os) := fun d os => (Sr.below (below_regrown wr d os)).look (by unfold maxLen; omega) hxl
            by_cases hq0 : q = 0
            · subst hq0
              simp only [Nat.add_zero] at g1
              generalize ys.getD 0 ⟨#[]⟩ = s at *
              clear hgc hxm hxl
              go_wp2_with fail
              refine wp_region_quiet_below (by kernel_rfl) (by kernel_rfl) ?_
              iterate 24 (go_big_quiet_step (fail))
              refine wpQuiet_nil ?_
              intro _ hw'
              obtain ⟨⟨ds, oss⟩, hw''⟩ := hw'
              subst hw''
              go_wp2_with fail
              exact ⟨⟨1, by omega, by go_num, HBQ.out.trans ((below_regrown wr ds oss).mono HBQ.out.size)⟩, by simp [RowKit.intOf]; omega⟩
            · obtain ⟨r, rfl⟩ : ∃ r, q = r + 1 := ⟨q - 1, by omega⟩
              obtain ⟨gb', go', hge, _, hgc'⟩ := Yr.cell (show r < ys.length by omega)
              cases hge
              have hym : ys.getD r ⟨#[]⟩ ∈ ys := by simp [show r < ys.length by omega]
              have hyz := (HCK.out _ ((V9.mem _).1 hym)).2
              have hord : ordI (ys.getD r ⟨#[]⟩) (ys.getD (r + 1) ⟨#[]⟩) < 0 := by
                have := List.pairwise_iff_getElem.1 V9.ord r (r + 1) (by omega) hql (by omega)
                simpa [hql, show r < ys.length by omega] using this
              have g0 := cell_regrown hgc'
              generalize ys.getD r ⟨#[]⟩ = t at *
              generalize ys.getD (r + 1) ⟨#[]⟩ = s at *
              have cO : Hid (∀ d os, Calls Tryd.prog 20 #[.string t, .string s] (grow (redrawn wr d) os) fun e w'' => e = .returned (.int .i64 (ordI t s)) ∧ ∃ p : Regrown, w'' = grow (redrawn wr p.d) p.os) := fun d os => Calls.regrown_of (refOrder_any t s _ (by omega) (by omega))
              generalize ordI t s = z at *
              have hz' : ¬ (0 ≤ z) := by omega
              clear hgc hgc' hxm hxl hym
              go_wp2_with fail
              refine wp_region_quiet_below (by kernel_rfl) (by kernel_rfl) ?_
              iterate 24 (go_big_quiet_step ((go_at_call 20; exact cO.out _ _)))
              refine wpQuiet_nil ?_
              intro _ hw'
              obtain ⟨⟨ds, oss⟩, hw''⟩ := hw'
              subst hw''
              go_wp2_with fail
              exact ⟨⟨r + 2, by omega, by go_num, HBQ.out.trans ((below_regrown wr ds oss).mono HBQ.out.size)⟩, by simp [RowKit.intOf]; omega⟩
          · go_wp2_with fail
            go_ret
            exact ⟨rfl, bbS.trans (HBQ.out.mono bbS.size)⟩

theorem rebuilds_any (w : World) (ao : Option Addr) (cap : Nat) (l : List Nd) (T0 : Tabs w) (A0 : Rd w ao cap l) (FA : Fit l) :
    Calls Tryd.prog 4 #[.slice ao l.length cap] w fun e w' => e = .returned (.bool true) ∧ Below w.heap.size w w' := by
  cases h : begL l with
  | none => exact rebuilds_none w ao cap l T0.spans A0 FA h
  | some fr => exact rebuilds_some w ao cap l fr T0 A0 FA h
end Go.Proofs.YtlfbanlmpkfpkaaDoor
