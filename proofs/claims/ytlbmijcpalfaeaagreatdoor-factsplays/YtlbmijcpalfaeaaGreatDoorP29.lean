/-
  GmX.
-/
import Derived.Test.YtlbmijcpalfaeaaGreatDoorP28
import Derived.Deep.RegionLaw
set_option linter.unusedSimpArgs false
set_option linter.unusedVariables false
namespace Go.Proofs.YtlbmijcpalfaeaaGreatDoor.Gt
open Go.RowKit Go.Lib Go.Sort

theorem Tryz.infoSe : (Tryz.prog.info? 120).map (fun i => (i.zero, i.size, i.bytes)) = some (some (.agg #[.bool false, .bool false, .int .i64 0, .int .i64 0, .slice none 0 0]), 5, 48) := by kernel_rfl
theorem cell_n5 {w : World} {a b c d e : Value} {T : TypeId} : ∀ j v, [a, b, c, d, e][j]? = some v → (w.alloc (.cells #[a, b, c, d, e] T)).cell? ((⟨w.heap.size, 0, none⟩ : Addr).add j) = some v := fun j v h => by
  have hb : (w.alloc (.cells #[a, b, c, d, e] T)).heap[w.heap.size]? = some (.cells #[a, b, c, d, e] T (0, 0)) := by rw [Deep.blk_alloc_new]
  exact World.news_of_block hb j v h
theorem cell_n1 {w : World} {a : Value} {T : TypeId} : ∀ j v, [a][j]? = some v → (w.alloc (.cells #[a] T)).drew.cell? ((⟨w.heap.size, 0, none⟩ : Addr).add j) = some v := fun j v h => by
  have hb : (w.alloc (.cells #[a] T)).drew.heap[w.heap.size]? = some (.cells #[a] T (0, 0)) := by
    show (w.alloc (.cells #[a] T)).heap[w.heap.size]? = _
    rw [Deep.blk_alloc_new]
  exact World.news_of_block hb j v h
/-- How many seats a world's graph has. -/
def seN (w : World) (p : Nat) : Nat := match w.cell? ⟨p, 2, none⟩ with
  | some v => lenV v
  | none => 0
theorem GrM.seN_eq {w : World} {p : Nat} {G : Gs} (h : GrM w p G) : seN w p = G.ss.length := by
  obtain ⟨_, _, c2, _⟩ := h.cells
  obtain ⟨ao, cap, hsv, _⟩ := h.form
  unfold seN
  rw [c2, hsv]
  rfl
/-- With j seats more. -/
def padG (G : Gs) (sv : Value) (j : Nat) : Gs := { G with sv := sv, ss := G.ss ++ List.replicate j se0 }
theorem padG_pl (G : Gs) (id : Nat) (sv : Value) : (padG G sv (id + 1 - G.ss.length)).ss.map Se.pl = padP (G.ss.map Se.pl) id := by
  simp [padG, padP, se0, sp0, Se.pl]
theorem ptR_ok {L : List Nd} {x : Nd} (hI : TbI (ptR L x).2.2) (h : (ptR L x).2.1 = 0) : (ptR L x).1 < (ptR L x).2.2.length ∧ ∀ k ∈ x.kids, 0 ≤ k ∧ k < ((ptR L x).1 : Int) := by
  have key : (ptR L x).1 < (ptR L x).2.2.length ∧ edA (ptR L x).2.2 (ptR L x).1 = x := by
    unfold ptR at h ⊢
    rcases shE_cases L x with ⟨e, _⟩ | ⟨e, _⟩ | ⟨e, _⟩
    · rw [e] at h; simp at h
    · rw [e] at h; simp at h
    · rw [if_pos e] at h ⊢
      unfold putS at h ⊢
      cases hi : ixL L x with
      | some i => exact ixL_at hi
      | none =>
        rw [hi] at h
        simp only at h ⊢
        split at h
        · rename_i hl
          rw [if_pos hl]
          exact ⟨by simp, edA_end _ _⟩
        · simp at h
  exact ⟨key.1, fun k hk => hI.kids _ key.1 k (by rw [key.2]; exact hk)⟩

set_option maxRecDepth 20000 in
set_option maxHeartbeats 4000000 in
theorem seat_new {w : World} {p : Nat} {G : Gs} (h : GrM w p G) (hT : SpanCells w) (x : Nd) (ka : Option Addr) (kc : Nat) (hv : NdV w x ka kc) (hap : ∀ b o, ka = some ⟨b, o, none⟩ → x.kids ≠ [] → ¬ GrS p G b) (c : Int) (hc : c = -1 ∨ ∃ k : Nat, c = (k : Int) ∧ k < G.ss.length) (hB : GsB G) (he : (ptR G.L x).2.1 = 0) (hs : knG G.ss (ptR G.L x).1 = false) :
    Calls Tryz.prog 41 #[.pointer (some ⟨p, 0, none⟩), .agg #[.int .i64 x.op, .int .i64 x.n, .string x.name, .slice ka x.kids.length kc], .int .i64 c] w fun e w' => e = .returned (.tuple #[.int .i64 ((ptR G.L x).1 : Nat), .int .i64 (ptR G.L x).2.1]) ∧ ∃ G', GrT w p G G' w' ∧ SeatR G x c G' := by
  have HKN : Sld (∀ ev' mv' W, GrM W p { G with ev := ev', mv := mv', L := (ptR G.L x).2.2 } → Calls Tryz.prog 65 #[.pointer (some ⟨p, 0, none⟩), .int .i64 (ptR G.L x).1] W fun e w' => e = .returned (.bool (knG G.ss (ptR G.L x).1)) ∧ w' = W) := ⟨fun ev' mv' W hW => known_any hW _⟩
  have HOK : Sld (TbI (ptR G.L x).2.2 → (ptR G.L x).1 < (ptR G.L x).2.2.length ∧ ∀ k ∈ x.kids, 0 ≤ k ∧ k < ((ptR G.L x).1 : Int)) := ⟨fun hI => ptR_ok hI he⟩
  obtain ⟨w1, hw1⟩ : ∃ w1, w.alloc (.cells #[.int .i64 x.op, .int .i64 x.n, .string x.name, .slice ka x.kids.length kc] 41) = w1 := ⟨_, rfl⟩
  have HB1 : Hid (Below w.heap.size w w1) := by rw [← hw1]; exact (Below.refl _ _).alloc (Nat.le_refl _) _
  have hb : w1.heap[w.heap.size]? = some (.cells #[.int .i64 x.op, .int .i64 x.n, .string x.name, .slice ka x.kids.length kc] 41 (0, 0)) := by rw [← hw1, Deep.blk_alloc_new]
  obtain ⟨b0, b1, b2, b3, _⟩ := blk4 hb
  have h1 := h.below HB1.out
  have HPUT : Sld (∀ W, Below w1.heap.size w1 W → Calls Tryz.prog 64 #[.pointer (some ⟨p, 0, none⟩), .agg #[.int .i64 x.op, .int .i64 x.n, .string x.name, .slice ka x.kids.length kc]] W fun e w' => e = .returned (.tuple #[.int .i64 ((ptR G.L x).1 : Nat), .int .i64 (ptR G.L x).2.1]) ∧ ∃ ev' mv', GrT w1 p G { G with ev := ev', mv := mv', L := (ptR G.L x).2.2 } w') := ⟨fun W hW => by
    have hm := h1.below hW
    refine (@tPut_any G.gr W p G.ev G.mv G.L x ka kc hm.tb (hT.below (HB1.out.trans (hW.mono HB1.out.size))) (hv.below (HB1.out.trans (hW.mono HB1.out.size)))).mono fun e w' ⟨h2, ev', mv', h3⟩ => ⟨h2, ev', mv', ?_⟩
    exact (GrT.of_below h1 hW).trans (hm.put h3 (ptR_len _ _))⟩
  have HSTAY : Sld (∀ G' wr, GrT w1 p G G' wr → wr.cell? ⟨w.heap.size, 3, none⟩ = some (.slice ka x.kids.length kc) ∧ ∀ j, j < x.kids.length → ∃ b o, ka = some ⟨b, o, none⟩ ∧ wr.cell? ⟨b, o + j, none⟩ = some (.int .i64 (x.kids.getD j 0))) := ⟨fun G' wr hg => by
    have hsame : ∀ b, b < w1.heap.size → ¬ GrS p G b → ∀ k, wr.cell? ⟨b, k, none⟩ = w1.cell? ⟨b, k, none⟩ := fun b hb hn k => by
      simp only [World.cell?]
      rw [hg.tk.same b hb hn]
    refine ⟨(hsame w.heap.size (World.block_lt_of_cell? w1 _ b3) (fun hh => by have := h.blkLt _ hh; omega) 3).trans b3, fun j hj => ?_⟩
    obtain ⟨ao, cap, e, _, _, h2⟩ := hv.ints
    injection e with e _ _
    rcases h2 with h2 | ⟨b, o, h2, hlt, h3⟩
    · rw [h2] at hj; simp at hj
    · have hb : b < w1.heap.size := Nat.lt_of_lt_of_le hlt HB1.out.size
      refine ⟨b, o, e.trans h2, (hsame b hb (hap b o (e.trans h2) (fun e3 => by rw [e3] at hj; simp at hj)) _).trans ((HB1.out.cell (p := ⟨b, o + j, none⟩) hlt).trans (h3 j hj))⟩⟩
  have HH : Sld (GrM w p G) := ⟨h⟩
  have HK3 : Hid (x.kids.length ≤ 3) := formB_kids (ptR_form he)
  have HW : Hid (w.alloc (.cells #[.int .i64 x.op, .int .i64 x.n, .string x.name, .slice ka x.kids.length kc] 41) = w1) := hw1
  have HC : Hid (c = -1 ∨ ∃ k : Nat, c = (k : Int) ∧ k < G.ss.length) := hc
  have HF : Hid (∀ G', G'.L = (ptR G.L x).2.2 → G'.rs = G.rs → G'.ss.map Se.pl = seatP (G.ss.map Se.pl) (ptR G.L x).1 (if c = -1 then (ptR G.L x).1 else c.toNat) x.kids → G'.cl = (if c = -1 then G.cl + 1 else G.cl) → G'.nd = G.nd + 1 → SeatR G x c G') := fun G' h1 h2 h3 h4 h5 => by
    refine ⟨h1, h2, fun hh => ?_, fun _ _ => ⟨h3, h4, h5⟩⟩
    rcases hh with hh | hh
    · exact absurd he hh
    · rw [hs] at hh; cases hh
  have HBD : Sld (GsB G) := ⟨hB⟩
  have HLK : Sld (G.ss.length ≤ 1048576) := ⟨h.leMax⟩
  have HGL : Sld (G.ss.length ≤ G.L.length ∧ G.L.length ≤ (ptR G.L x).2.2.length) := ⟨h.le, ptR_len _ _⟩
  have HKD : Sld (Ints w w.heap.size (.slice ka x.kids.length kc) x.kids) := ⟨hv.ints⟩
  rw [he] at HPUT ⊢
  rw [hs] at HKN
  clear hw1 hb h h1 hv hT he hs hc hB hap
  generalize ptR G.L x = r at *
  obtain ⟨id, E, L'⟩ := r
  simp only at *
  have HX : Hid (x.kids.length = x.kids.length) := rfl
  generalize x.op = op at *
  generalize x.n = n at *
  generalize x.name = nm at *
  clear HX
  generalize x.kids = ks at *
  go_enter Tryz.func41, Tryz.ntmps41
  go_wp2_with fail
  rw [HW.out]
  go_region_with (go_at_call 64; refine (HPUT.out _ ((Below.refl _ _).drew)).mono ?_; rintro e w6 ⟨rfl, ev', mv', hg6⟩)
  all_goals
    obtain ⟨i0, hi0, hz0, hz1, hz2⟩ := info_parts Tryz.infoSe
    have HG6 : Sld (_) := ⟨hg6⟩
    have CK := HKN.out ev' mv' w6 hg6.gr
    obtain ⟨hidl, hkl⟩ := HOK.out (@TbM.facts (Gs.gr _) _ _ _ _ _ hg6.gr.tb).2.2.1
    have hL20 : L'.length ≤ 1048576 := (@TbM.facts (Gs.gr _) _ _ _ _ _ hg6.gr.tb).2.2.1.le
    have HKL : Sld (∀ k ∈ ks, 0 ≤ k ∧ k < (id : Int)) := ⟨hkl⟩
    obtain ⟨G1, hG1⟩ : ∃ G1 : Gs, { G with ev := ev', mv := mv', L := L' } = G1 := ⟨_, rfl⟩
    have HG1 : Sld (G1.ss = G.ss ∧ G1.L = L' ∧ G1.rs = G.rs ∧ G1.cl = G.cl ∧ G1.nd = G.nd) := ⟨by rw [← hG1]; exact ⟨rfl, rfl, rfl, rfl, rfl⟩⟩
    rw [hG1] at HG6
    have HL : Sld (G1.ss.length ≤ G1.L.length ∧ id < G1.L.length ∧ G1.L.length ≤ 1048576) := ⟨by rw [HG1.out.1, HG1.out.2.1]; have := HGL.out; exact ⟨by omega, hidl, hL20⟩⟩
    clear hg6 HKN hkl hidl hL20 hG1 HOK HPUT HGL
    go_wp2_with fail
    refine CK.mono ?_
    rintro e w7 ⟨rfl, rfl⟩
    clear CK
    go_wp2_with fail
    go_loopw [] (fun wr => ∃ sv j, GrT w1 p G (padG G1 sv j) wr ∧ j ≤ id + 1 - G1.ss.length) (fun wr => id + 1 - seN wr p)
    case atStart => exact ⟨G1.sv, 0, by simpa [padG] using HG6.out, by omega⟩
    case round =>
      obtain ⟨sv, j, hgt, hj⟩ := hrel
      have hm := hgt.gr
      obtain ⟨c0, c1, c2, c3, c4, c5, fp⟩ := hm.cells
      obtain ⟨ao, cap, hsv, hs1, hs2, hs3⟩ := hm.form
      have hlen : (padG G1 sv j).ss.length = G1.ss.length + j := by simp [padG]
      have hLe := HL.out
      rw [hlen] at hsv hs1 hs3
      obtain ⟨N, hN⟩ : ∃ N, G1.ss.length + j = N := ⟨_, rfl⟩
      have hpl := hm.lt
      rw [hN] at hsv hs1 hs3
      unfold maxLen at hs2
      have HGT : Sld (_) := ⟨hgt⟩
      have HSV : Sld (_) := ⟨hsv⟩
      have hN20 : N ≤ 1048576 := by have h1 := hm.le; rw [hlen, hN] at h1; have h2 : (padG G1 sv j).L.length = G1.L.length := rfl; omega
      by_cases hlt : N ≤ id
      · have hrow := hm.row
        rw [hsv, hlen, hN] at hrow
        rw [hsv] at c2
        have fp2 := fp 2
        have HP7 : Sld (∀ (o : Obj) (w7 : World), (wr.alloc o).grownBy w7 (Value.slice ao N cap).ownBlock → w7.heap[p]? = wr.heap[p]?) := ⟨fun o w7 hg => by
          have h1 := hg.block p (by rw [World.size_alloc]; omega) (fun e => by
            have := row_ne_ty hm.row hm.blk (by decide)
            rw [hsv] at this
            exact this e.symm)
          exact h1.trans (Deep.blk_alloc_lt _ _ _ hpl)⟩
        have z2 : ∀ o, (wr.alloc o).cell? ⟨p, 2, none⟩ = some (.slice ao N cap) := fun o => (World.cell?_alloc_past _ _ _ hpl).trans c2
        have HLN : Sld (N + 1 ≤ G1.L.length ∧ (padG G1 sv j).ss.length = N) := ⟨by omega, by rw [hlen, hN]⟩
        clear hgt hm hsv hlen hs3 c0 c1 c3 c4 c5 fp hLe
        go_wp2_with (at_builtin; refine wpList_append_lies _ rfl (.tmp 40) (.tmp 42) 88 rfl (p + 1) 120 i0 (.agg #[.bool false, .bool false, .int .i64 0, .int .i64 0, .slice none 0 0]) 5 48 Tryz.underlying88 hi0 hz0 hz1 hz2 rfl (by decide) _ _ _ rfl (hrow.alloc _) ⟨wr.heap.size, 0, none⟩ 1 1 [.bool false, .bool false, .int .i64 0, .int .i64 0, .slice none 0 0] rfl rfl (cell_n5) (by simp [Value.oneCell']) (by omega) (by unfold maxLen; omega) (by omega) (by simp; omega) _ rfl ?_; intro g7 cap7 w7 hown7 hg7 hat7 hl7; have hnd7 := HP7.out _ w7 hg7; have m7 : w7.cell? ⟨p, 2, none⟩ = some (.slice ao N cap) := (World.cell?_of_block (a := ⟨p, 2, none⟩) hnd7).trans c2; have m7f : w7.frozen? ⟨p, 2, none⟩ = false := (World.frozen?_of_block (a := ⟨p, 2, none⟩) hnd7).trans fp2)
        have hgr := GrM.grow (n := N) (HGT.out.gr.below ((Below.refl _ _).alloc (Nat.le_refl _) _)) HLN.out.2 hown7 (by rw [HSV.out]; exact hg7) (by rw [HSV.out]; rcases hat7 with h | h; exact .inl h; exact .inr (by rw [h])) (by show N < G1.L.length; have := HLN.out.1; omega)
        have hall := (HGT.out.trans (GrT.of_below HGT.out.gr ((Below.refl _ _).alloc (Nat.le_refl _) _))).trans hgr
        have hpg : ({ padG G1 sv j with sv := .slice (some ⟨g7, 0, none⟩) (N + 1) cap7, ss := (padG G1 sv j).ss ++ [se0] } : Gs) = padG G1 (.slice (some ⟨g7, 0, none⟩) (N + 1) cap7) (j + 1) := by
          simp [padG, List.replicate_succ']
        rw [hpg] at hall
        refine ⟨⟨_, j + 1, hall, by omega⟩, ?_⟩
        rw [hall.gr.seN_eq, HGT.out.gr.seN_eq]
        simp [padG]
        omega
      · have hje : j = id + 1 - G1.ss.length := by omega
        have HPL : Sld ((padG G1 sv j).ss.map Se.pl = padP (G.ss.map Se.pl) id ∧ (padG G1 sv j).L = L' ∧ (padG G1 sv j).rs = G.rs ∧ (padG G1 sv j).cl = G.cl ∧ (padG G1 sv j).nd = G.nd) := ⟨by
          subst hje
          rw [padG_pl, HG1.out.1]
          exact ⟨rfl, HG1.out.2.1, HG1.out.2.2.1, HG1.out.2.2.2.1, HG1.out.2.2.2.2⟩⟩
        have HBP : Sld (GsB (padG G1 sv j)) := ⟨by
          have hss : (padG G1 sv j).ss = G.ss ++ List.replicate j se0 := by unfold padG; simp only; rw [HG1.out.1]
          refine ⟨fun s hs => ?_, fun s hs => ?_, ?_, ?_⟩
          · rw [hss, List.mem_append] at hs
            rcases hs with hs | hs
            · exact HBD.out.wt s hs
            · rw [List.eq_of_mem_replicate hs]; simp [se0]
          · rw [hss, List.mem_append] at hs
            rcases hs with hs | hs
            · exact HBD.out.us s hs
            · rw [List.eq_of_mem_replicate hs]; simp [se0]
          · rw [HPL.out.2.2.2.1]; exact HBD.out.cl
          · rw [HPL.out.2.2.2.2]; exact HBD.out.nd⟩
        generalize padG G1 sv j = Gp at *
        rw [hN] at hlen
        obtain ⟨sg, rfl, hsg1, hsg2, hat⟩ := hs3 (by omega)
        have HAT : Sld (∀ i, i < N → SeAt wr sg (i * 5) (Gp.ss.getD i se0)) := ⟨hat⟩
        have HM : Sld (GrM wr p Gp) := ⟨hm⟩
        have HLN : Sld (Gp.ss.length = N) := ⟨hlen⟩
        have hidN : id < N := by omega
        rw [hsv] at c2
        have fs : ∀ j, wr.frozen? ⟨sg, j, none⟩ = false := (hat 0 (by omega)).fr
        have HGN : Hid (G.ss.length ≤ N) := by show _ ≤ _; rw [← HG1.out.1]; omega
        obtain ⟨bn1, bn2⟩ := HBP.out.nd
        obtain ⟨bc1, bc2⟩ := HBP.out.cl
        have HPSG : Hid (p ≠ sg) := by show p ≠ sg; omega
        clear hgt hm hat hs3 hje hsv hlt hLe
        obtain ⟨e0, e1, e2, e3, e4, _⟩ := HAT.out id hidN
        rcases HC.out with rfl | ⟨C, rfl, hC⟩
        · have HFI : Sld (∀ G', G'.L = L' → G'.rs = G.rs → G'.ss.map Se.pl = seatP (G.ss.map Se.pl) id id ks → G'.cl = G.cl + 1 → G'.nd = G.nd + 1 → SeatR G x (-1) G') := ⟨fun G' h1 h2 h3 h4 h5 => HF.out G' h1 h2 (by rw [if_pos rfl]; exact h3) (by rw [if_pos rfl]; exact h4) h5⟩
          have hKN : id < N := hidN
          have A1 := HM.out.classes (Gp.cl + 1)
          have A2 := A1.trans (A1.gr.nodes (Gp.nd + 1))
          have A3 := A2.trans (A2.gr.fresh (i := id) (sg := sg) (cap := cap) (by show Gp.sv = .slice (some ⟨sg, 0, none⟩) Gp.ss.length cap; rw [HLN.out]; exact HSV.out) (by show id < Gp.ss.length; rw [HLN.out]; exact hidN) (id : Int))
          clear HF HC A2 A1
          generalize hw9 : World.setCell _ _ (.slice none 0 0) = w9 at A3
          have HW9 : Hid (_) := hw9
          obtain ⟨Q, hQ⟩ : ∃ Q : Gs, ({ ({ ({ Gp with cl := Gp.cl + 1 } : Gs) with nd := Gp.nd + 1 } : Gs) with ss := Gp.ss.set id ⟨true, true, (id : Int), 0, [], .slice none 0 0⟩ } : Gs) = Q := ⟨_, rfl⟩
          have A4 : GrT w1 p G Q w9 := by rw [← hQ]; exact HGT.out.trans A3
          have HQS : Sld (Q.sv = .slice (some ⟨sg, 0, none⟩) N cap ∧ Q.L = L' ∧ Q.rs = G.rs ∧ Q.cl = G.cl + 1 ∧ Q.nd = G.nd + 1 ∧ Q.ss = Gp.ss.set id ⟨true, true, (id : Int), 0, [], .slice none 0 0⟩) := ⟨by
            obtain ⟨p1, p2, p3, p4, p5⟩ := HPL.out
            rw [← hQ, ← p2, ← p3, ← p4, ← p5]
            exact ⟨HSV.out, rfl, rfl, rfl, rfl, rfl⟩⟩
          have hQl : Q.ss.length = N := by rw [HQS.out.2.2.2.2.2, List.length_set]; exact HLN.out
          have HQw : Sld (∀ s ∈ Q.ss, (0 ≤ s.wt ∧ s.wt ≤ 4611686018427387000) ∧ s.us.length ≤ 1000000000) := ⟨fun s hs => by
            rw [HQS.out.2.2.2.2.2] at hs
            rcases List.mem_or_eq_of_mem_set hs with hs | rfl
            · exact ⟨HBP.out.wt s hs, HBP.out.us s hs⟩
            · simp⟩
          have HQp : Sld (Q.ss.map Se.pl = (padP (G.ss.map Se.pl) id).set id ⟨true, true, (id : Int), 0, []⟩) := ⟨by rw [HQS.out.2.2.2.2.2, pl_set, HPL.out.1]; rfl⟩
          have q2 : w9.cell? ⟨p, 2, none⟩ = some (.slice (some ⟨sg, 0, none⟩) N cap) := by rw [A4.gr.c2, HQS.out.1]
          obtain ⟨_, _, _, x3, _, xf⟩ := A4.gr.seAt HQS.out.1 (i := id) (by rw [hQl]; exact hKN)
          have A5 := A4.trans (A4.gr.bump (sg := sg) (cap := cap) (i := id) (by rw [HQS.out.1, hQl]) (by rw [hQl]; exact hKN))
          have hwb : 0 ≤ (Q.ss.getD id se0).wt ∧ (Q.ss.getD id se0).wt ≤ 4611686018427387000 := (HQw.out _ (by rw [List.getD_eq_getElem?_getD, List.getElem?_eq_getElem (by rw [hQl]; exact hKN)]; exact List.getElem_mem _)).1
          have hbp := bump_pl Q.ss id
          obtain ⟨Q2, hQ2⟩ : ∃ Q2 : Gs, ({ Q with ss := Q.ss.set id { (Q.ss.getD id se0) with wt := (Q.ss.getD id se0).wt + 1 } } : Gs) = Q2 := ⟨_, rfl⟩
          have HQ2 : Sld (Q2.sv = .slice (some ⟨sg, 0, none⟩) N cap ∧ Q2.L = L' ∧ Q2.rs = G.rs ∧ Q2.cl = G.cl + 1 ∧ Q2.nd = G.nd + 1 ∧ Q2.ss.length = N ∧ Q2.ss.map Se.pl = bumpP ((padP (G.ss.map Se.pl) id).set id ⟨true, true, (id : Int), 0, []⟩) id ∧ ∀ s ∈ Q2.ss, (0 ≤ s.wt ∧ s.wt ≤ 4611686018427387001) ∧ s.us.length ≤ 1000000000) := ⟨by
            obtain ⟨p1, p2, p3, p4, p5, p6⟩ := HQS.out
            rw [← HQp.out, ← hbp, ← hQ2]
            refine ⟨p1, p2, p3, p4, p5, by simp [hQl], rfl, fun s hs => ?_⟩
            rcases List.mem_or_eq_of_mem_set hs with hs | rfl
            · have := HQw.out s hs; omega
            · have h2 := HQw.out (Q.ss.getD id se0) (by rw [List.getD_eq_getElem?_getD, List.getElem?_eq_getElem (by rw [hQl]; exact hKN)]; exact List.getElem_mem _)
              simp only; omega⟩
          rw [hQ2] at A5
          generalize (Q.ss.getD id se0).wt = wt9 at *
          generalize hw10 : World.setCell w9 _ _ = w10 at A5
          have HW10 : Hid (_) := hw10
          have HA5 : Sld (_) := ⟨A5⟩
          have bx := (HSTAY.out _ _ A5).1
          have HK0 : Sld (KidI w1 p G Q2 id N (Q2.ss.map Se.pl) ks 0 Q2 w10) := ⟨⟨A5, rfl, HQ2.out.2.2.2.2.2.1, rfl, rfl, rfl, rfl, rfl, fun s hs => by have := HQ2.out.2.2.2.2.2.2.2 s hs; omega, fun s hs => by have := HQ2.out.2.2.2.2.2.2.2 s hs; omega⟩⟩
          clear A3 A4 A5 hw9 hw10 hQ hQ2 hbp HQp HQw HQS hQl
          go_wp2_with (first | rw [HW9.out] | rw [HW10.out])
          clear HW9 HW10 q2 x3 xf bx e0 e1 e2 e3 e4 c0 c1 c2 c3 c4 c5 fp fs HM HAT HGT HSV HBP HPL HLN
          obtain ⟨W0, hW0⟩ : ∃ W0, W0 = wr := ⟨_, rfl⟩
          subst hW0
          have hdec : decide (N ≤ id) = false := by rw [decide_eq_false_iff_not]; omega
          simp only [hdec]
          clear hdec
          go_loopw [85] (fun i wr => ∃ (j : Nat) (H : Gs), i = .int .i64 j ∧ j ≤ ks.length ∧ Sld (KidI w1 p G Q2 id N (Q2.ss.map Se.pl) ks j H wr)) (fun i _ => ks.length - (RowKit.intOf i).toNat)
          case atStart => exact ⟨0, Q2, rfl, Nat.zero_le _, HK0⟩
          case round =>
            obtain ⟨j, H, rfl, hj, HK⟩ := hrel
            have hHsv : H.sv = .slice (some ⟨sg, 0, none⟩) N cap := HK.out.sv.trans HQ2.out.1
            by_cases hlt : j < ks.length
            · obtain ⟨kb, ko, rfl, hkc⟩ := (HSTAY.out _ _ HK.out.gr).2 j hlt
              have hkm : ks.getD j 0 ∈ ks := by rw [List.getD_eq_getElem?_getD, List.getElem?_eq_getElem hlt]; exact List.getElem_mem _
              have hk3 := HKL.out _ hkm
              have HJS := usesP_step (Q2.ss.map Se.pl) id ks hlt
              obtain ⟨k, hk⟩ : ∃ k : Nat, ks.getD j 0 = (k : Int) := ⟨(ks.getD j 0).toNat, by omega⟩
              have hk0 := hk
              rw [hk] at hkc hk3 HJS
              clear hk
              have hkN : k < N := by omega
              have h2 : wr.cell? ⟨p, 2, none⟩ = some (.slice (some ⟨sg, 0, none⟩) N cap) := by rw [HK.out.gr.gr.c2, hHsv]
              obtain ⟨_, _, _, d3, _, df⟩ := HK.out.gr.gr.seAt hHsv (i := k) (by rw [HK.out.len]; exact hkN)
              have hmS : H.ss.getD k se0 ∈ H.ss := by rw [List.getD_eq_getElem?_getD, List.getElem?_eq_getElem (by rw [HK.out.len]; exact hkN)]; exact List.getElem_mem _
              have hwb2 := HK.out.wt _ hmS
              have hub2 := HK.out.us _ hmS
              have hk33 := HK3.out
              have B1 := HK.out.gr.gr.bump (i := k) (sg := sg) (cap := cap) (by rw [hHsv, HK.out.len]) (by rw [HK.out.len]; exact hkN)
              obtain ⟨S, hS⟩ : ∃ S, H.ss.getD k se0 = S := ⟨_, rfl⟩
              have HSe := Sld.mk hS
              have HKe := Sld.mk hk0
              rw [hS] at B1 d3 hwb2 hub2
              obtain ⟨H2, hH2⟩ : ∃ H2 : Gs, ({ H with ss := H.ss.set k { S with wt := S.wt + 1 } } : Gs) = H2 := ⟨_, rfl⟩
              have HH2 : Sld (H2.ss = H.ss.set k { S with wt := S.wt + 1 } ∧ H2.sv = .slice (some ⟨sg, 0, none⟩) N cap ∧ H2.L = H.L ∧ H2.rs = H.rs ∧ H2.cl = H.cl ∧ H2.nd = H.nd) := ⟨by rw [← hH2]; exact ⟨rfl, hHsv, rfl, rfl, rfl, rfl⟩⟩
              have HH2l : Sld (H2.ss.length = N) := ⟨by rw [HH2.out.1, List.length_set]; exact HK.out.len⟩
              have HS2 : Sld (H2.ss.getD k se0 = { S with wt := S.wt + 1 }) := ⟨by rw [HH2.out.1]; exact getD_set_here (by rw [HK.out.len]; exact hkN) _⟩
              rw [hH2] at B1
              obtain ⟨wt0, hwt0⟩ : ∃ z, S.wt = z := ⟨_, rfl⟩
              have HWT : Hid (S.wt = wt0) := hwt0
              rw [hwt0] at d3 hwb2
              have hB1 : GrT wr p H H2 (wr.setCell ⟨sg, k * 5 + 3, none⟩ (.int .i64 (wt0 + 1))) := by rw [← hwt0]; exact B1
              generalize hw11 : World.setCell wr _ _ = w11 at hB1
              have HW11 : Hid (_) := hw11
              have HB : Sld (_) := ⟨hB1⟩
              have hrow : OwnI w11 (p + 1) S.uv S.us := by
                have := hB1.gr.rows.own _ (mem_rows (G := H2) (i := k) (by rw [HH2l.out]; exact hkN))
                rw [HS2.out] at this
                exact this
              obtain ⟨ua, uc, huv, hu1, hu2, _⟩ := ownI_form hrow
              obtain ⟨U, hU⟩ : ∃ U, S.us.length = U := ⟨_, rfl⟩
              have HU : Hid (S.us.length = U) := hU
              have HUV : Hid (S.uv = .slice ua U uc) := by show _ = _; rw [huv, hU]
              unfold OwnI at hrow
              rw [huv, hU] at hrow
              rw [hU] at hu1 hub2
              unfold maxLen at hu2
              have y2 : w11.cell? ⟨p, 2, none⟩ = some (.slice (some ⟨sg, 0, none⟩) N cap) := by rw [hB1.gr.c2, HH2.out.2.1]
              obtain ⟨_, _, _, _, y4, yf⟩ := hB1.gr.seAt HH2.out.2.1 (i := k) (by rw [HH2l.out]; exact hkN)
              rw [HS2.out] at y4
              simp only [huv, hU] at y4
              have y4f := yf (k * 5 + 4)
              have hpl := hB1.gr.lt
              have hsl : sg < w11.heap.size := World.block_lt_of_cell? w11 _ y4
              have z2 : ∀ o, (w11.alloc o).cell? ⟨p, 2, none⟩ = some (.slice (some ⟨sg, 0, none⟩) N cap) := fun o => (World.cell?_alloc_past _ _ _ hpl).trans y2
              have z4 : ∀ o, (w11.alloc o).cell? ⟨sg, k * 5 + 4, none⟩ = some (.slice ua U uc) := fun o => (World.cell?_alloc_past _ _ _ hsl).trans y4
              have HP6 : Sld (∀ (o : Obj) (w6 : World), (w11.alloc o).drew.grownBy w6 (Value.slice ua U uc).ownBlock → w6.heap[p]? = w11.heap[p]? ∧ w6.heap[sg]? = w11.heap[sg]?) := ⟨fun o w6 hg => by
                refine ⟨?_, ?_⟩
                · have h1 := hg.block p (by show p < (w11.alloc o).heap.size; rw [World.size_alloc]; omega) (fun e => row_ne_ty hrow hB1.gr.blk (by decide) e.symm)
                  exact h1.trans (Deep.blk_alloc_lt _ _ _ hpl)
                · have h1 := hg.block sg (by show sg < (w11.alloc o).heap.size; rw [World.size_alloc]; omega) (fun e => by
                    rcases ownBlock_ne hrow hB1.gr.row (by decide) with n1 | n1
                    · rw [n1] at e; cases e
                    · exact n1 (by rw [HH2.out.2.1, ← e]; rfl))
                  exact h1.trans (Deep.blk_alloc_lt _ _ _ hsl)⟩
              obtain ⟨j0, hj0, hy0, hy1, hy2⟩ := info_parts Tryz.info3
              clear hB1 B1 hS hk0 hH2 hw11 huv hU hmS hkm yf hHsv hwt0
              go_wp2_with (rw [HW11.out])
              clear HW11 h2 d3 df
              go_region_law (refine step_append_lies _ rfl (.tmp 112) (.tmp 114) 24 rfl (p + 1) 3 j0 (.int .i64 0) 1 8 Tryz.underlying24 hj0 hy0 hy1 hy2 rfl (by decide) _ _ _ (by simp [Act.eval, Act.put]) (hrow.alloc _) ⟨w11.heap.size, 0, none⟩ 1 1 [.int .i64 (id : Int)] (by simp [Act.eval, Act.put]) rfl (cell_n1) (by simp [Value.oneCell']) (by omega) (by unfold maxLen; omega) (by omega) (by simp; omega) _ rfl ?_; intro g6 cap6 w6 hown6 hg6 hat6 hl6; have hnd6 := HP6.out _ w6 hg6; have m2 : w6.cell? ⟨p, 2, none⟩ = some (.slice (some ⟨sg, 0, none⟩) N cap) := (World.cell?_of_block (a := ⟨p, 2, none⟩) hnd6.1).trans y2; have m4 : w6.cell? ⟨sg, k * 5 + 4, none⟩ = some (.slice ua U uc) := (World.cell?_of_block (a := ⟨sg, k * 5 + 4, none⟩) hnd6.2).trans y4; have m4f : w6.frozen? ⟨sg, k * 5 + 4, none⟩ = false := (World.frozen?_of_block (a := ⟨sg, k * 5 + 4, none⟩) hnd6.2).trans y4f)
              all_goals
                have hba : Below w11.heap.size w11 (w11.alloc (.cells #[.int .i64 (id : Int)] 3)).drew := ((Below.refl _ _).alloc (Nat.le_refl _) _).drew
                have B2 := (HB.out.gr.below hba).use (i := k) (sg := sg) (cap := cap) (z := (id : Int)) (n := U) (by rw [HH2.out.2.1, HH2l.out]) (by rw [HH2l.out]; exact hkN) HS2.out HU.out hown6 (by simp only; rw [HUV.out]; exact hg6) (by simp only; rw [HUV.out]; rcases hat6 with h | h; exact .inl h; exact .inr (by rw [h]))
                have B3 := ((HK.out.gr.trans HB.out).trans (GrT.of_below HB.out.gr hba)).trans B2
                obtain ⟨H3, hH3⟩ : ∃ H3 : Gs, ({ H2 with ss := H2.ss.set k { ({ S with wt := S.wt + 1 } : Se) with us := S.us ++ [(id : Int)], uv := .slice (some ⟨g6, 0, none⟩) (U + 1) cap6 } } : Gs) = H3 := ⟨_, rfl⟩
                have HH3 : Sld (H3.ss = H.ss.set k { S with wt := S.wt + 1, us := S.us ++ [(id : Int)], uv := .slice (some ⟨g6, 0, none⟩) (U + 1) cap6 } ∧ H3.sv = H.sv ∧ H3.L = H.L ∧ H3.rs = H.rs ∧ H3.cl = H.cl ∧ H3.nd = H.nd) := ⟨by
                  obtain ⟨a1, a2, a3, a4, a5, a6⟩ := HH2.out
                  rw [← hH3, ← a3, ← a4, ← a5, ← a6]
                  refine ⟨by simp only [a1, List.set_set], ?_, rfl, rfl, rfl, rfl⟩
                  rw [HK.out.sv, HQ2.out.1, ← a2]⟩
                simp only at hH3 B3
                rw [hH3] at B3
                have HK4 : Sld (_) := ⟨HK.out.step hlt HKe.out hkN HSe.out HH3.out B3⟩
                clear B3 B2 hH3 hba hown6 hg6 hat6 hl6 hnd6 m2 m4 m4f
                go_wp2_with fail
                exact ⟨⟨j + 1, H3, by go_num, by omega, HK4⟩, by simp [RowKit.intOf]; omega⟩
            · have hje : j = ks.length := by omega
              subst hje
              have HE : Sld (SeatR G x (-1) H) := ⟨HFI.out H (HK.out.L.trans HQ2.out.2.1) (HK.out.rs.trans HQ2.out.2.2.1) (by
                have := HK.out.pl
                rw [List.take_length, HQ2.out.2.2.2.2.2.2.1] at this
                exact this) (HK.out.cl.trans HQ2.out.2.2.2.1) (HK.out.nd.trans HQ2.out.2.2.2.2.1)⟩
              have HG : Sld (GrT w p G H wr) := ⟨(GrT.of_below HH.out HB1.out).trans HK.out.gr⟩
              clear HK HFI HH
              go_wp2_with fail
              go_ret2
              exact ⟨rfl, H, HG.out, HE.out⟩
        · have hC1 : ((C : Int) == -1) = false := by rw [beq_eq_false_iff_ne]; omega
          have HFI : Sld (∀ G', G'.L = L' → G'.rs = G.rs → G'.ss.map Se.pl = seatP (G.ss.map Se.pl) id C ks → G'.cl = G.cl → G'.nd = G.nd + 1 → SeatR G x (C : Int) G') := ⟨fun G' h1 h2 h3 h4 h5 => HF.out G' h1 h2 (by rw [if_neg (by omega), Int.toNat_natCast]; exact h3) (by rw [if_neg (by omega)]; exact h4) h5⟩
          have hKN : C < N := by have := HGN.out; omega
          have A2 := HM.out.nodes (Gp.nd + 1)
          have A3 := A2.trans (A2.gr.fresh (i := id) (sg := sg) (cap := cap) (by show Gp.sv = .slice (some ⟨sg, 0, none⟩) Gp.ss.length cap; rw [HLN.out]; exact HSV.out) (by show id < Gp.ss.length; rw [HLN.out]; exact hidN) (C : Int))
          clear HF HC A2 
          generalize hw9 : World.setCell _ _ (.slice none 0 0) = w9 at A3
          have HW9 : Hid (_) := hw9
          obtain ⟨Q, hQ⟩ : ∃ Q : Gs, ({ ({ Gp with nd := Gp.nd + 1 } : Gs) with ss := Gp.ss.set id ⟨true, true, (C : Int), 0, [], .slice none 0 0⟩ } : Gs) = Q := ⟨_, rfl⟩
          have A4 : GrT w1 p G Q w9 := by rw [← hQ]; exact HGT.out.trans A3
          have HQS : Sld (Q.sv = .slice (some ⟨sg, 0, none⟩) N cap ∧ Q.L = L' ∧ Q.rs = G.rs ∧ Q.cl = G.cl ∧ Q.nd = G.nd + 1 ∧ Q.ss = Gp.ss.set id ⟨true, true, (C : Int), 0, [], .slice none 0 0⟩) := ⟨by
            obtain ⟨p1, p2, p3, p4, p5⟩ := HPL.out
            rw [← hQ, ← p2, ← p3, ← p4, ← p5]
            exact ⟨HSV.out, rfl, rfl, rfl, rfl, rfl⟩⟩
          have hQl : Q.ss.length = N := by rw [HQS.out.2.2.2.2.2, List.length_set]; exact HLN.out
          have HQw : Sld (∀ s ∈ Q.ss, (0 ≤ s.wt ∧ s.wt ≤ 4611686018427387000) ∧ s.us.length ≤ 1000000000) := ⟨fun s hs => by
            rw [HQS.out.2.2.2.2.2] at hs
            rcases List.mem_or_eq_of_mem_set hs with hs | rfl
            · exact ⟨HBP.out.wt s hs, HBP.out.us s hs⟩
            · simp⟩
          have HQp : Sld (Q.ss.map Se.pl = (padP (G.ss.map Se.pl) id).set id ⟨true, true, (C : Int), 0, []⟩) := ⟨by rw [HQS.out.2.2.2.2.2, pl_set, HPL.out.1]; rfl⟩
          have q2 : w9.cell? ⟨p, 2, none⟩ = some (.slice (some ⟨sg, 0, none⟩) N cap) := by rw [A4.gr.c2, HQS.out.1]
          obtain ⟨_, _, _, x3, _, xf⟩ := A4.gr.seAt HQS.out.1 (i := C) (by rw [hQl]; exact hKN)
          have A5 := A4.trans (A4.gr.bump (sg := sg) (cap := cap) (i := C) (by rw [HQS.out.1, hQl]) (by rw [hQl]; exact hKN))
          have hwb : 0 ≤ (Q.ss.getD C se0).wt ∧ (Q.ss.getD C se0).wt ≤ 4611686018427387000 := (HQw.out _ (by rw [List.getD_eq_getElem?_getD, List.getElem?_eq_getElem (by rw [hQl]; exact hKN)]; exact List.getElem_mem _)).1
          have hbp := bump_pl Q.ss C
          obtain ⟨Q2, hQ2⟩ : ∃ Q2 : Gs, ({ Q with ss := Q.ss.set C { (Q.ss.getD C se0) with wt := (Q.ss.getD C se0).wt + 1 } } : Gs) = Q2 := ⟨_, rfl⟩
          have HQ2 : Sld (Q2.sv = .slice (some ⟨sg, 0, none⟩) N cap ∧ Q2.L = L' ∧ Q2.rs = G.rs ∧ Q2.cl = G.cl ∧ Q2.nd = G.nd + 1 ∧ Q2.ss.length = N ∧ Q2.ss.map Se.pl = bumpP ((padP (G.ss.map Se.pl) id).set id ⟨true, true, (C : Int), 0, []⟩) C ∧ ∀ s ∈ Q2.ss, (0 ≤ s.wt ∧ s.wt ≤ 4611686018427387001) ∧ s.us.length ≤ 1000000000) := ⟨by
            obtain ⟨p1, p2, p3, p4, p5, p6⟩ := HQS.out
            rw [← HQp.out, ← hbp, ← hQ2]
            refine ⟨p1, p2, p3, p4, p5, by simp [hQl], rfl, fun s hs => ?_⟩
            rcases List.mem_or_eq_of_mem_set hs with hs | rfl
            · have := HQw.out s hs; omega
            · have h2 := HQw.out (Q.ss.getD C se0) (by rw [List.getD_eq_getElem?_getD, List.getElem?_eq_getElem (by rw [hQl]; exact hKN)]; exact List.getElem_mem _)
              simp only; omega⟩
          rw [hQ2] at A5
          generalize (Q.ss.getD C se0).wt = wt9 at *
          generalize hw10 : World.setCell w9 _ _ = w10 at A5
          have HW10 : Hid (_) := hw10
          have HA5 : Sld (_) := ⟨A5⟩
          have bx := (HSTAY.out _ _ A5).1
          have HK0 : Sld (KidI w1 p G Q2 id N (Q2.ss.map Se.pl) ks 0 Q2 w10) := ⟨⟨A5, rfl, HQ2.out.2.2.2.2.2.1, rfl, rfl, rfl, rfl, rfl, fun s hs => by have := HQ2.out.2.2.2.2.2.2.2 s hs; omega, fun s hs => by have := HQ2.out.2.2.2.2.2.2.2 s hs; omega⟩⟩
          clear A3 A4 A5 hw9 hw10 hQ hQ2 hbp HQp HQw HQS hQl
          go_wp2_with (first | rw [HW9.out] | rw [HW10.out])
          clear HW9 HW10 q2 x3 xf bx e0 e1 e2 e3 e4 c0 c1 c2 c3 c4 c5 fp fs HM HAT HGT HSV HBP HPL HLN
          obtain ⟨W0, hW0⟩ : ∃ W0, W0 = wr := ⟨_, rfl⟩
          subst hW0
          have hdec : decide (N ≤ id) = false := by rw [decide_eq_false_iff_not]; omega
          simp only [hdec]
          clear hdec
          go_loopw [85] (fun i wr => ∃ (j : Nat) (H : Gs), i = .int .i64 j ∧ j ≤ ks.length ∧ Sld (KidI w1 p G Q2 id N (Q2.ss.map Se.pl) ks j H wr)) (fun i _ => ks.length - (RowKit.intOf i).toNat)
          case atStart => exact ⟨0, Q2, rfl, Nat.zero_le _, HK0⟩
          case round =>
            obtain ⟨j, H, rfl, hj, HK⟩ := hrel
            have hHsv : H.sv = .slice (some ⟨sg, 0, none⟩) N cap := HK.out.sv.trans HQ2.out.1
            by_cases hlt : j < ks.length
            · obtain ⟨kb, ko, rfl, hkc⟩ := (HSTAY.out _ _ HK.out.gr).2 j hlt
              have hkm : ks.getD j 0 ∈ ks := by rw [List.getD_eq_getElem?_getD, List.getElem?_eq_getElem hlt]; exact List.getElem_mem _
              have hk3 := HKL.out _ hkm
              have HJS := usesP_step (Q2.ss.map Se.pl) id ks hlt
              obtain ⟨k, hk⟩ : ∃ k : Nat, ks.getD j 0 = (k : Int) := ⟨(ks.getD j 0).toNat, by omega⟩
              have hk0 := hk
              rw [hk] at hkc hk3 HJS
              clear hk
              have hkN : k < N := by omega
              have h2 : wr.cell? ⟨p, 2, none⟩ = some (.slice (some ⟨sg, 0, none⟩) N cap) := by rw [HK.out.gr.gr.c2, hHsv]
              obtain ⟨_, _, _, d3, _, df⟩ := HK.out.gr.gr.seAt hHsv (i := k) (by rw [HK.out.len]; exact hkN)
              have hmS : H.ss.getD k se0 ∈ H.ss := by rw [List.getD_eq_getElem?_getD, List.getElem?_eq_getElem (by rw [HK.out.len]; exact hkN)]; exact List.getElem_mem _
              have hwb2 := HK.out.wt _ hmS
              have hub2 := HK.out.us _ hmS
              have hk33 := HK3.out
              have B1 := HK.out.gr.gr.bump (i := k) (sg := sg) (cap := cap) (by rw [hHsv, HK.out.len]) (by rw [HK.out.len]; exact hkN)
              obtain ⟨S, hS⟩ : ∃ S, H.ss.getD k se0 = S := ⟨_, rfl⟩
              have HSe := Sld.mk hS
              have HKe := Sld.mk hk0
              rw [hS] at B1 d3 hwb2 hub2
              obtain ⟨H2, hH2⟩ : ∃ H2 : Gs, ({ H with ss := H.ss.set k { S with wt := S.wt + 1 } } : Gs) = H2 := ⟨_, rfl⟩
              have HH2 : Sld (H2.ss = H.ss.set k { S with wt := S.wt + 1 } ∧ H2.sv = .slice (some ⟨sg, 0, none⟩) N cap ∧ H2.L = H.L ∧ H2.rs = H.rs ∧ H2.cl = H.cl ∧ H2.nd = H.nd) := ⟨by rw [← hH2]; exact ⟨rfl, hHsv, rfl, rfl, rfl, rfl⟩⟩
              have HH2l : Sld (H2.ss.length = N) := ⟨by rw [HH2.out.1, List.length_set]; exact HK.out.len⟩
              have HS2 : Sld (H2.ss.getD k se0 = { S with wt := S.wt + 1 }) := ⟨by rw [HH2.out.1]; exact getD_set_here (by rw [HK.out.len]; exact hkN) _⟩
              rw [hH2] at B1
              obtain ⟨wt0, hwt0⟩ : ∃ z, S.wt = z := ⟨_, rfl⟩
              have HWT : Hid (S.wt = wt0) := hwt0
              rw [hwt0] at d3 hwb2
              have hB1 : GrT wr p H H2 (wr.setCell ⟨sg, k * 5 + 3, none⟩ (.int .i64 (wt0 + 1))) := by rw [← hwt0]; exact B1
              generalize hw11 : World.setCell wr _ _ = w11 at hB1
              have HW11 : Hid (_) := hw11
              have HB : Sld (_) := ⟨hB1⟩
              have hrow : OwnI w11 (p + 1) S.uv S.us := by
                have := hB1.gr.rows.own _ (mem_rows (G := H2) (i := k) (by rw [HH2l.out]; exact hkN))
                rw [HS2.out] at this
                exact this
              obtain ⟨ua, uc, huv, hu1, hu2, _⟩ := ownI_form hrow
              obtain ⟨U, hU⟩ : ∃ U, S.us.length = U := ⟨_, rfl⟩
              have HU : Hid (S.us.length = U) := hU
              have HUV : Hid (S.uv = .slice ua U uc) := by show _ = _; rw [huv, hU]
              unfold OwnI at hrow
              rw [huv, hU] at hrow
              rw [hU] at hu1 hub2
              unfold maxLen at hu2
              have y2 : w11.cell? ⟨p, 2, none⟩ = some (.slice (some ⟨sg, 0, none⟩) N cap) := by rw [hB1.gr.c2, HH2.out.2.1]
              obtain ⟨_, _, _, _, y4, yf⟩ := hB1.gr.seAt HH2.out.2.1 (i := k) (by rw [HH2l.out]; exact hkN)
              rw [HS2.out] at y4
              simp only [huv, hU] at y4
              have y4f := yf (k * 5 + 4)
              have hpl := hB1.gr.lt
              have hsl : sg < w11.heap.size := World.block_lt_of_cell? w11 _ y4
              have z2 : ∀ o, (w11.alloc o).cell? ⟨p, 2, none⟩ = some (.slice (some ⟨sg, 0, none⟩) N cap) := fun o => (World.cell?_alloc_past _ _ _ hpl).trans y2
              have z4 : ∀ o, (w11.alloc o).cell? ⟨sg, k * 5 + 4, none⟩ = some (.slice ua U uc) := fun o => (World.cell?_alloc_past _ _ _ hsl).trans y4
              have HP6 : Sld (∀ (o : Obj) (w6 : World), (w11.alloc o).drew.grownBy w6 (Value.slice ua U uc).ownBlock → w6.heap[p]? = w11.heap[p]? ∧ w6.heap[sg]? = w11.heap[sg]?) := ⟨fun o w6 hg => by
                refine ⟨?_, ?_⟩
                · have h1 := hg.block p (by show p < (w11.alloc o).heap.size; rw [World.size_alloc]; omega) (fun e => row_ne_ty hrow hB1.gr.blk (by decide) e.symm)
                  exact h1.trans (Deep.blk_alloc_lt _ _ _ hpl)
                · have h1 := hg.block sg (by show sg < (w11.alloc o).heap.size; rw [World.size_alloc]; omega) (fun e => by
                    rcases ownBlock_ne hrow hB1.gr.row (by decide) with n1 | n1
                    · rw [n1] at e; cases e
                    · exact n1 (by rw [HH2.out.2.1, ← e]; rfl))
                  exact h1.trans (Deep.blk_alloc_lt _ _ _ hsl)⟩
              obtain ⟨j0, hj0, hy0, hy1, hy2⟩ := info_parts Tryz.info3
              clear hB1 B1 hS hk0 hH2 hw11 huv hU hmS hkm yf hHsv hwt0
              go_wp2_with (rw [HW11.out])
              clear HW11 h2 d3 df
              go_region_law (refine step_append_lies _ rfl (.tmp 112) (.tmp 114) 24 rfl (p + 1) 3 j0 (.int .i64 0) 1 8 Tryz.underlying24 hj0 hy0 hy1 hy2 rfl (by decide) _ _ _ (by simp [Act.eval, Act.put]) (hrow.alloc _) ⟨w11.heap.size, 0, none⟩ 1 1 [.int .i64 (id : Int)] (by simp [Act.eval, Act.put]) rfl (cell_n1) (by simp [Value.oneCell']) (by omega) (by unfold maxLen; omega) (by omega) (by simp; omega) _ rfl ?_; intro g6 cap6 w6 hown6 hg6 hat6 hl6; have hnd6 := HP6.out _ w6 hg6; have m2 : w6.cell? ⟨p, 2, none⟩ = some (.slice (some ⟨sg, 0, none⟩) N cap) := (World.cell?_of_block (a := ⟨p, 2, none⟩) hnd6.1).trans y2; have m4 : w6.cell? ⟨sg, k * 5 + 4, none⟩ = some (.slice ua U uc) := (World.cell?_of_block (a := ⟨sg, k * 5 + 4, none⟩) hnd6.2).trans y4; have m4f : w6.frozen? ⟨sg, k * 5 + 4, none⟩ = false := (World.frozen?_of_block (a := ⟨sg, k * 5 + 4, none⟩) hnd6.2).trans y4f)
              all_goals
                have hba : Below w11.heap.size w11 (w11.alloc (.cells #[.int .i64 (id : Int)] 3)).drew := ((Below.refl _ _).alloc (Nat.le_refl _) _).drew
                have B2 := (HB.out.gr.below hba).use (i := k) (sg := sg) (cap := cap) (z := (id : Int)) (n := U) (by rw [HH2.out.2.1, HH2l.out]) (by rw [HH2l.out]; exact hkN) HS2.out HU.out hown6 (by simp only; rw [HUV.out]; exact hg6) (by simp only; rw [HUV.out]; rcases hat6 with h | h; exact .inl h; exact .inr (by rw [h]))
                have B3 := ((HK.out.gr.trans HB.out).trans (GrT.of_below HB.out.gr hba)).trans B2
                obtain ⟨H3, hH3⟩ : ∃ H3 : Gs, ({ H2 with ss := H2.ss.set k { ({ S with wt := S.wt + 1 } : Se) with us := S.us ++ [(id : Int)], uv := .slice (some ⟨g6, 0, none⟩) (U + 1) cap6 } } : Gs) = H3 := ⟨_, rfl⟩
                have HH3 : Sld (H3.ss = H.ss.set k { S with wt := S.wt + 1, us := S.us ++ [(id : Int)], uv := .slice (some ⟨g6, 0, none⟩) (U + 1) cap6 } ∧ H3.sv = H.sv ∧ H3.L = H.L ∧ H3.rs = H.rs ∧ H3.cl = H.cl ∧ H3.nd = H.nd) := ⟨by
                  obtain ⟨a1, a2, a3, a4, a5, a6⟩ := HH2.out
                  rw [← hH3, ← a3, ← a4, ← a5, ← a6]
                  refine ⟨by simp only [a1, List.set_set], ?_, rfl, rfl, rfl, rfl⟩
                  rw [HK.out.sv, HQ2.out.1, ← a2]⟩
                simp only at hH3 B3
                rw [hH3] at B3
                have HK4 : Sld (_) := ⟨HK.out.step hlt HKe.out hkN HSe.out HH3.out B3⟩
                clear B3 B2 hH3 hba hown6 hg6 hat6 hl6 hnd6 m2 m4 m4f
                go_wp2_with fail
                exact ⟨⟨j + 1, H3, by go_num, by omega, HK4⟩, by simp [RowKit.intOf]; omega⟩
            · have hje : j = ks.length := by omega
              subst hje
              have HE : Sld (SeatR G x (C : Int) H) := ⟨HFI.out H (HK.out.L.trans HQ2.out.2.1) (HK.out.rs.trans HQ2.out.2.2.1) (by
                have := HK.out.pl
                rw [List.take_length, HQ2.out.2.2.2.2.2.2.1] at this
                exact this) (HK.out.cl.trans HQ2.out.2.2.2.1) (HK.out.nd.trans HQ2.out.2.2.2.2.1)⟩
              have HG : Sld (GrT w p G H wr) := ⟨(GrT.of_below HH.out HB1.out).trans HK.out.gr⟩
              clear HK HFI HH
              go_wp2_with fail
              go_ret2
              exact ⟨rfl, H, HG.out, HE.out⟩
end Go.Proofs.YtlbmijcpalfaeaaGreatDoor.Gt
