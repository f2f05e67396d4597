/-
  The reader of environments, walked: binding.
-/
import Derived.Test.YtpdohdmpjaklgaaDoorEvRvW
import Derived.Laws.ResultCell
set_option linter.unusedSimpArgs false
set_option linter.unusedVariables false
namespace Go.Proofs.YtpdohdmpjaklgaaDoor
open Go.RowKit Go.Lib Go.Sort

/-- What binding leaves. -/
def BindP (w : World) (R : Nat) (s : ByteArray) (a : Nat) (x : Ending) (w' : World) : Prop :=
  (∃ y : Bd, x = .returned (.tuple #[bdV y, .int .i64 (bindP s a).2.2]) ∧ ((bindP s a).2.2 = 0 → y = (bindP s a).1)) ∧ RdE w' R s (bindP s a).2.1 ∧ w.grownBy w' (some R)

/-- Both cells of the result set. -/
def set2B (w : World) (G : Nat) (v0 v1 : Value) : World := (w.setCell ⟨G, 0, none⟩ v0).setCell ⟨G, 1, none⟩ v1
theorem set2B_blk {w : World} {G : Nat} {x0 x1 v0 v1 : Value} (h : w.heap[G]? = some (.cells #[x0, x1] 38 (0, 0))) : (set2B w G v0 v1).heap[G]? = some (.cells #[v0, v1] 38 (0, 0)) := by
  have h1 := heap_setCell_same w G 0 _ _ v0 h
  have h2 := heap_setCell_same _ G 1 _ _ v1 h1
  simpa [set2B] using h2
theorem set2B_oth {w : World} {G k : Nat} {v0 v1 : Value} (h : k ≠ G) : (set2B w G v0 v1).heap[k]? = w.heap[k]? := by
  unfold set2B
  rw [Below.heap_setCell _ _ _ _ h, Below.heap_setCell _ _ _ _ h]
theorem set2B_size {w : World} {G : Nat} {v0 v1 : Value} : (set2B w G v0 v1).heap.size = w.heap.size := by simp [set2B, World.setCell]
theorem bind_rd {w : World} {R G : Nat} {s : ByteArray} {p : Nat} {v0 v1 : Value} (h : RdE w R s p) (hne : R ≠ G) : RdE (set2B w G v0 v1) R s p := ⟨(set2B_oth hne).trans h.blk⟩
theorem bind_gr {w w2 : World} {R : Nat} {v0 v1 : Value} (h : w.grownBy w2 (some R)) : w.grownBy (set2B w2 w.heap.size v0 v1) (some R) :=
  ⟨h.os, h.tape, h.output, by rw [set2B_size]; exact h.size, fun k hk hne => (set2B_oth (by omega)).trans (h.block k hk hne)⟩

set_option maxRecDepth 100000 in
set_option maxHeartbeats 8000000 in
theorem binding_any (w : World) (R : Nat) (s : ByteArray) (a : Nat) (hT : TS w R) (hM : RdE w R s a) (hs : s.size ≤ 4096) (ha : a ≤ s.size) :
    Calls Tryd.prog 56 #[.pointer (some ⟨R, 0, none⟩)] w (BindP w R s a) := by
  have hl := hM.lt
  obtain ⟨W1, hW1⟩ : ∃ W1, w.alloc (.cells #[.string ⟨#[]⟩, .int .i64 0] 38) = W1 := ⟨_, rfl⟩
  have b1 : Below w.heap.size w W1 := by rw [← hW1]; exact (Below.refl _ _).alloc (Nat.le_refl _) _
  have hB1 : W1.heap[w.heap.size]? = some (.cells #[.string ⟨#[]⟩, .int .i64 0] 38 (0, 0)) := by rw [← hW1]; exact heap_alloc_new w _
  have hlt1 : w.heap.size < W1.heap.size := lt_of_block hB1
  have cNm : Hid (Calls Tryd.prog 70 #[.pointer (some ⟨R, 0, none⟩)] W1 fun x w' => x = .returned (.tuple #[.string (namR s a).1, .int .i64 (namR s a).2.1]) ∧ RdE w' R s (namR s a).2.2 ∧ W1.grownBy w' (some R)) := nameR_any W1 R s a (hT.bl b1) (hM.below b1) hs ha
  have HW : Hid (w.alloc (.cells #[.string ⟨#[]⟩, .int .i64 0] 38) = W1) := hW1
  have HB : Hid (W1.heap[w.heap.size]? = some (.cells #[.string ⟨#[]⟩, .int .i64 0] 38 (0, 0))) := hB1
  have HT1 : Hid (TS W1 R) := hT.bl b1
  have HG1 : Hid (w.grownBy W1 (some R)) := grE_below b1 _
  have hRne : R ≠ w.heap.size := by omega
  /- the result's block stands as long as only R is written -/
  have HK : Hid (∀ W, W1.grownBy W (some R) → W.heap[w.heap.size]? = some (.cells #[.string ⟨#[]⟩, .int .i64 0] 38 (0, 0))) := fun W hg => (hg.block _ hlt1 (fun e => hRne (by cases e; rfl))).trans HB.out
  have HM : Hid (RdE w R s a) := hM
  clear hW1 hB1 hT hM b1
  unfold BindP
  have hE0 : bindP s a = if kd (rn s a) = 1 then
    (if nameB (s.extract a (spF s s.size a)) = false then (bd0, a, 7)
    else if byB s (skE s (spF s s.size a)) 61 = false then (bd0, skE s (spF s s.size a), 6)
    else ((s.extract a (spF s s.size a), (numE s (skE s (skE s (spF s s.size a) + 1))).1), (numE s (skE s (skE s (spF s s.size a) + 1))).2))
  else (bd0, a, 6) := rfl
  by_cases hk : kd (rn s a) = 1
  · unfold namR at cNm
    rw [if_pos hk] at cNm hE0
    have hle := spF_le s s.size a ha
    obtain ⟨E, hE⟩ : ∃ E, spF s s.size a = E := ⟨_, rfl⟩
    rw [hE] at cNm hle hE0
    obtain ⟨nm, hnm⟩ : ∃ nm, s.extract a E = nm := ⟨_, rfl⟩
    rw [hnm] at cNm hE0
    cases hn : nameB nm
    · rw [hn, if_pos rfl] at cNm hE0
      rw [hE0]
      clear hn hk hE0
      go_enter Tryd.func56, Tryd.ntmps56
      go_wp2_with fail
      rw [HW.out]
      refine cNm.out.mono ?_
      rintro e w2 ⟨rfl, M2, G2⟩
      have hr2 := HK.out w2 G2
      have q0 : w2.cell? ⟨w.heap.size, 0, none⟩ = some (.string ⟨#[]⟩) := by simp [World.cell?, hr2]
      have q1 : w2.cell? ⟨w.heap.size, 1, none⟩ = some (.int .i64 0) := by simp [World.cell?, hr2]
      have f0 : w2.frozen? ⟨w.heap.size, 0, none⟩ = false := by simp [World.frozen?, hr2]
      have f1 : w2.frozen? ⟨w.heap.size, 1, none⟩ = false := by simp [World.frozen?, hr2]
      have hr4 := set2B_blk (v0 := .string ⟨#[]⟩) (v1 := .int .i64 0) hr2
      have M4 : Hid (RdE (set2B w2 w.heap.size (.string ⟨#[]⟩) (.int .i64 0)) R s a) := bind_rd M2 hRne
      have G4 : Hid (w.grownBy (set2B w2 w.heap.size (.string ⟨#[]⟩) (.int .i64 0)) (some R)) := bind_gr (HG1.out.trans G2)
      go_wp2_with fail
      show bodyPost _ _ _ _ _ (set2B w2 w.heap.size (.string ⟨#[]⟩) (.int .i64 0))
      generalize set2B w2 w.heap.size (.string ⟨#[]⟩) (.int .i64 0) = w4 at *
      refine bodyPost_ret (v := .tuple #[bdV bd0, .int .i64 7]) ?_ rfl ⟨⟨bd0, rfl, fun h => absurd h (by decide)⟩, M4.out, G4.out⟩
      rw [results_cell_tmp rfl]
      simp [go_sem, World.cell?, hr4, bd0]
    · rw [hn, if_neg (by simp)] at cNm hE0
      simp only at cNm
      obtain ⟨b, hb⟩ : ∃ b, skE s E = b := ⟨_, rfl⟩
      have hbi := skE_in (s := s) (a := E) hle.2
      rw [hb] at cNm hE0 hbi
      have hbI : (b : Int) ≤ (s.size : Int) := by omega
      cases he : byB s b 61
      · rw [he, if_pos rfl] at hE0
        rw [hE0]
        have cP : Hid (∀ W, ∀ d os, Calls Tryd.prog 71 #[.string (s.extract b s.size), .string ⟨#[61]⟩] (grow (redrawn W d) os) fun e w'' => e = .returned (.bool false) ∧ ∃ p : Regrown, w'' = grow (redrawn W p.d) p.os) := fun W => preRegrown s b hbi.2 hs 61 W false he
        clear hn hk hE0 he
        go_enter Tryd.func56, Tryd.ntmps56
        go_wp2_with fail
        rw [HW.out]
        refine cNm.out.mono ?_
        rintro e w2 ⟨rfl, M2, G2⟩
        obtain ⟨k0, k1⟩ := M2.cells
        have g0 := cell_regrown k0
        have g1 := cell_regrown k1
        have CP : Hid (∀ d os, Calls Tryd.prog 71 #[.string (s.extract b s.size), .string ⟨#[61]⟩] (grow (redrawn w2 d) os) fun e w'' => e = .returned (.bool false) ∧ ∃ p : Regrown, w'' = grow (redrawn w2 p.d) p.os) := cP.out w2
        have HM2 : Hid (RdE w2 R s b) := M2
        have HG2 : Hid (W1.grownBy w2 (some R)) := G2
        clear M2 G2 k0 k1 cP
        go_wp2_with fail
        refine wp_region_quiet_below (by kernel_rfl) (by kernel_rfl) ?_
        iterate 11 (go_big_quiet_step ((go_at_call 71; exact CP.out _ _)))
        refine wpQuiet_nil ?_
        intro _ hw'
        obtain ⟨⟨ds, oss⟩, hw''⟩ := hw'
        subst hw''
        have b3 := below_regrown w2 ds oss
        have M3 := HM2.out.below b3
        have G3 := grE_trans HG2.out b3
        clear g0 g1 b3 CP
        generalize grow (redrawn w2 ds) oss = w3 at *
        have hr2 := HK.out w3 G3
        have q0 : w3.cell? ⟨w.heap.size, 0, none⟩ = some (.string ⟨#[]⟩) := by simp [World.cell?, hr2]
        have q1 : w3.cell? ⟨w.heap.size, 1, none⟩ = some (.int .i64 0) := by simp [World.cell?, hr2]
        have f0 : w3.frozen? ⟨w.heap.size, 0, none⟩ = false := by simp [World.frozen?, hr2]
        have f1 : w3.frozen? ⟨w.heap.size, 1, none⟩ = false := by simp [World.frozen?, hr2]
        have hr4 := set2B_blk (v0 := .string ⟨#[]⟩) (v1 := .int .i64 0) hr2
        have M4 : Hid (RdE (set2B w3 w.heap.size (.string ⟨#[]⟩) (.int .i64 0)) R s b) := bind_rd M3 hRne
        have G4 : Hid (w.grownBy (set2B w3 w.heap.size (.string ⟨#[]⟩) (.int .i64 0)) (some R)) := bind_gr (HG1.out.trans G3)
        go_wp2_with fail
        show bodyPost _ _ _ _ _ (set2B w3 w.heap.size (.string ⟨#[]⟩) (.int .i64 0))
        generalize set2B w3 w.heap.size (.string ⟨#[]⟩) (.int .i64 0) = w4 at *
        refine bodyPost_ret (v := .tuple #[bdV bd0, .int .i64 6]) ?_ rfl ⟨⟨bd0, rfl, fun h => absurd h (by decide)⟩, M4.out, G4.out⟩
        rw [results_cell_tmp rfl]
        simp [go_sem, World.cell?, hr4, bd0]
      · rw [he, if_neg (by simp)] at hE0
        rw [hE0]
        have hb1 : b + 1 ≤ s.size := by unfold byB at he; simp at he; omega
        have cP : Hid (∀ W, ∀ d os, Calls Tryd.prog 71 #[.string (s.extract b s.size), .string ⟨#[61]⟩] (grow (redrawn W d) os) fun e w'' => e = .returned (.bool true) ∧ ∃ p : Regrown, w'' = grow (redrawn W p.d) p.os) := fun W => preRegrown s b hbi.2 hs 61 W true he
        obtain ⟨c, hc⟩ : ∃ c, skE s (b + 1) = c := ⟨_, rfl⟩
        have hci := skE_in (s := s) hb1
        rw [hc] at hci ⊢
        obtain ⟨N, hN⟩ : ∃ N, numE s c = N := ⟨_, rfl⟩
        have cU : ∀ W, TS W R → RdE W R s c → Calls Tryd.prog 72 #[.pointer (some ⟨R, 0, none⟩)] W fun x w' => x = .returned (.tuple #[.int .i64 (numE s c).1, .int .i64 (numE s c).2.2]) ∧ RdE w' R s (numE s c).2.1 ∧ W.grownBy w' (some R) := fun W h1 h2 => numberR_any W R s c h1 h2 hs hci.2
        rw [hN] at cU ⊢
        obtain ⟨nv, np, ne⟩ := N
        simp only at cU ⊢
        have CU : Hid (∀ W, TS W R → RdE W R s c → Calls Tryd.prog 72 #[.pointer (some ⟨R, 0, none⟩)] W fun x w' => x = .returned (.tuple #[.int .i64 nv, .int .i64 ne]) ∧ RdE w' R s np ∧ W.grownBy w' (some R)) := cU
        have CG : Hid (∀ W, RdE W R s b → TS W R → Calls Tryd.prog 54 #[.pointer (some ⟨R, 0, none⟩), .int .i64 ((b : Int) + 1)] W fun x w' => x = .returned (.tuple #[]) ∧ RdE w' R s c ∧ W.grownBy w' (some R)) := fun W h1 h2 => by
          rw [← hc, show (b : Int) + 1 = ((b + 1 : Nat) : Int) by omega]
          exact goTo_any W R s b (b + 1) h2.now.spans h1 hs hb1
        have h63 : (b : Int) + 1 ≤ 4096 := by omega
        clear hn hk hE0 he cU hN hc hci
        go_enter Tryd.func56, Tryd.ntmps56
        go_wp2_with fail
        rw [HW.out]
        refine cNm.out.mono ?_
        rintro e w2 ⟨rfl, M2, G2⟩
        obtain ⟨k0, k1⟩ := M2.cells
        have g0 := cell_regrown k0
        have g1 := cell_regrown k1
        have CP : Hid (∀ d os, Calls Tryd.prog 71 #[.string (s.extract b s.size), .string ⟨#[61]⟩] (grow (redrawn w2 d) os) fun e w'' => e = .returned (.bool true) ∧ ∃ p : Regrown, w'' = grow (redrawn w2 p.d) p.os) := cP.out w2
        have HM2 : Hid (RdE w2 R s b) := M2
        have HG2 : Hid (W1.grownBy w2 (some R)) := G2
        clear M2 G2 k0 k1 cP
        go_wp2_with fail
        refine wp_region_quiet_below (by kernel_rfl) (by kernel_rfl) ?_
        iterate 11 (go_big_quiet_step ((go_at_call 71; exact CP.out _ _)))
        refine wpQuiet_nil ?_
        intro _ hw'
        obtain ⟨⟨ds, oss⟩, hw''⟩ := hw'
        subst hw''
        have b3 := below_regrown w2 ds oss
        have M3 := HM2.out.below b3
        have G3 := grE_trans HG2.out b3
        clear g0 g1 b3 CP
        generalize grow (redrawn w2 ds) oss = w3 at *
        obtain ⟨k0, k1⟩ := M3.cells
        have HM3 : Hid (RdE w3 R s b) := M3
        have HG3 : Hid (W1.grownBy w3 (some R)) := G3
        clear M3 G3
        go_wp2_with fail
        refine (CG.out _ HM3.out (HT1.out.gr HG3.out)).mono ?_
        rintro e w5 ⟨rfl, M5, G5⟩
        have HG5 : Hid (W1.grownBy w5 (some R)) := HG3.out.trans G5
        have HM5 : Hid (RdE w5 R s c) := M5
        clear M5 G5 k0 k1
        go_wp2_with fail
        refine (CU.out _ (HT1.out.gr HG5.out) HM5.out).mono ?_
        rintro e w6 ⟨rfl, M6, G6⟩
        have G3 := HG5.out.trans G6
        have hr2 := HK.out w6 G3
        have q0 : w6.cell? ⟨w.heap.size, 0, none⟩ = some (.string ⟨#[]⟩) := by simp [World.cell?, hr2]
        have q1 : w6.cell? ⟨w.heap.size, 1, none⟩ = some (.int .i64 0) := by simp [World.cell?, hr2]
        have f0 : w6.frozen? ⟨w.heap.size, 0, none⟩ = false := by simp [World.frozen?, hr2]
        have f1 : w6.frozen? ⟨w.heap.size, 1, none⟩ = false := by simp [World.frozen?, hr2]
        have hr4 := set2B_blk (v0 := .string nm) (v1 := .int .i64 nv) hr2
        have M4 : Hid (RdE (set2B w6 w.heap.size (.string nm) (.int .i64 nv)) R s np) := bind_rd M6 hRne
        have G4 : Hid (w.grownBy (set2B w6 w.heap.size (.string nm) (.int .i64 nv)) (some R)) := bind_gr (HG1.out.trans G3)
        go_wp2_with fail
        show bodyPost _ _ _ _ _ (set2B w6 w.heap.size (.string nm) (.int .i64 nv))
        generalize set2B w6 w.heap.size (.string nm) (.int .i64 nv) = w4 at *
        refine bodyPost_ret (v := .tuple #[bdV (nm, nv), .int .i64 ne]) ?_ rfl ⟨⟨(nm, nv), rfl, fun h => rfl⟩, M4.out, G4.out⟩
        rw [results_cell_tmp rfl]
        simp [go_sem, World.cell?, hr4]
  · unfold namR at cNm
    rw [if_neg hk] at cNm hE0
    rw [hE0]
    clear hk hE0
    go_enter Tryd.func56, Tryd.ntmps56
    go_wp2_with fail
    rw [HW.out]
    refine cNm.out.mono ?_
    rintro e w2 ⟨rfl, M2, G2⟩
    have hr2 := HK.out w2 G2
    have q0 : w2.cell? ⟨w.heap.size, 0, none⟩ = some (.string ⟨#[]⟩) := by simp [World.cell?, hr2]
    have q1 : w2.cell? ⟨w.heap.size, 1, none⟩ = some (.int .i64 0) := by simp [World.cell?, hr2]
    have f0 : w2.frozen? ⟨w.heap.size, 0, none⟩ = false := by simp [World.frozen?, hr2]
    have f1 : w2.frozen? ⟨w.heap.size, 1, none⟩ = false := by simp [World.frozen?, hr2]
    have hr4 := set2B_blk (v0 := .string ⟨#[]⟩) (v1 := .int .i64 0) hr2
    have M4 : Hid (RdE (set2B w2 w.heap.size (.string ⟨#[]⟩) (.int .i64 0)) R s a) := bind_rd M2 hRne
    have G4 : Hid (w.grownBy (set2B w2 w.heap.size (.string ⟨#[]⟩) (.int .i64 0)) (some R)) := bind_gr (HG1.out.trans G2)
    go_wp2_with fail
    show bodyPost _ _ _ _ _ (set2B w2 w.heap.size (.string ⟨#[]⟩) (.int .i64 0))
    generalize set2B w2 w.heap.size (.string ⟨#[]⟩) (.int .i64 0) = w4 at *
    refine bodyPost_ret (v := .tuple #[bdV bd0, .int .i64 6]) ?_ rfl ⟨⟨bd0, rfl, fun h => absurd h (by decide)⟩, M4.out, G4.out⟩
    rw [results_cell_tmp rfl]
    simp [go_sem, World.cell?, hr4, bd0]
end Go.Proofs.YtpdohdmpjaklgaaDoor
