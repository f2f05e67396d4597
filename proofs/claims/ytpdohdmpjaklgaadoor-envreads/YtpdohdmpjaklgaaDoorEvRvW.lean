/-
  The reader of environments, walked: comma, name, number.
-/
import Derived.Test.YtpdohdmpjaklgaaDoorEvRdW
set_option linter.unusedSimpArgs false
set_option linter.unusedVariables false
namespace Go.Proofs.YtpdohdmpjaklgaaDoor
open Go.RowKit Go.Lib Go.Sort

/-- The tables stand, whatever becomes of block R. -/
def TS (w : World) (R : Nat) : Prop := ∀ W, w.grownBy W (some R) → Tabs W
theorem TS.gr {w w' : World} {R : Nat} (h : TS w R) (hg : w.grownBy w' (some R)) : TS w' R := fun W hW => h W (hg.trans hW)
theorem TS.bl {w w' : World} {R : Nat} (h : TS w R) (hb : Below w.heap.size w w') : TS w' R := h.gr (grE_below hb _)
theorem TS.now {w : World} {R : Nat} (h : TS w R) : Tabs w := h w (World.grownBy.refl _ _)

theorem preRegrown (s : ByteArray) (a : Nat) (ha : a ≤ s.size) (hs : s.size ≤ 4096) (c : UInt8) (w : World) (B : Bool) (hB : byB s a c = B) : ∀ d os, Calls Tryd.prog 71 #[.string (s.extract a s.size), .string ⟨#[c]⟩] (grow (redrawn w d) os) fun e w'' => e = .returned (.bool B) ∧ ∃ p : Regrown, w'' = grow (redrawn w p.d) p.os := fun d os => Calls.regrown_of (by
  rw [← hB, ← preB_one s a ha c]
  exact (hasPrefix_any _ _ _ (by rw [tail_size]; unfold maxLen; omega) (by show 1 ≤ 16; omega)).mono fun e w' ⟨h1, h2⟩ => ⟨h1, by rw [h2]; exact Below.refl _ _⟩)

def comR (s : ByteArray) (a n : Nat) : Int × Nat := if byB s a 44 = false then (6, a) else if n = 64 then (10, a) else (0, skE s (a + 1))
set_option maxRecDepth 100000 in
set_option maxHeartbeats 2000000 in
theorem comma_any (w : World) (R : Nat) (s : ByteArray) (a n : Nat) (hT : TS w R) (hM : RdE w R s a) (hs : s.size ≤ 4096) (ha : a ≤ s.size) :
    Calls Tryd.prog 57 #[.pointer (some ⟨R, 0, none⟩), .int .i64 (n : Int)] w fun x w' => x = .returned (.int .i64 (comR s a n).1) ∧ RdE w' R s (comR s a n).2 ∧ w.grownBy w' (some R) := by
  obtain ⟨c0, c1⟩ := hM.cells
  have hl := hM.lt
  have g0 := cell_regrown c0
  have g1 := cell_regrown c1
  have HM : Hid (RdE w R s a) := hM
  have HT : Hid (TS w R) := hT
  have hai : (a : Int) ≤ (s.size : Int) := by omega
  clear hM hT c0 c1
  unfold comR
  cases hb : byB s a 44
  · rw [if_pos rfl]
    have cP : Hid (∀ d os, Calls Tryd.prog 71 #[.string (s.extract a s.size), .string ⟨#[44]⟩] (grow (redrawn w d) os) fun e w'' => e = .returned (.bool false) ∧ ∃ p : Regrown, w'' = grow (redrawn w p.d) p.os) := preRegrown s a ha hs 44 w false hb
    clear hb
    go_enter Tryd.func57, Tryd.ntmps57
    go_wp2_with fail
    refine wp_region_quiet_below (by kernel_rfl) (by kernel_rfl) ?_
    iterate 11 (go_big_quiet_step ((go_at_call 71; exact cP.out _ _)))
    refine wpQuiet_nil ?_
    intro _ hw'
    obtain ⟨⟨ds, oss⟩, hw''⟩ := hw'
    subst hw''
    have b4 := below_regrown w ds oss
    generalize grow (redrawn w ds) oss = w6 at *
    go_wp2_with fail
    go_ret
    exact ⟨rfl, HM.out.below b4, grE_below b4 _⟩
  · rw [if_neg (by simp)]
    have hal : a + 1 ≤ s.size := by
      unfold byB at hb
      simp at hb; omega
    have cP : Hid (∀ d os, Calls Tryd.prog 71 #[.string (s.extract a s.size), .string ⟨#[44]⟩] (grow (redrawn w d) os) fun e w'' => e = .returned (.bool true) ∧ ∃ p : Regrown, w'' = grow (redrawn w p.d) p.os) := preRegrown s a ha hs 44 w true hb
    clear hb
    by_cases hn : n = 64
    · rw [if_pos hn]
      have hn2 : ((n : Int) == 64) = true := by simp; omega
      clear hn
      go_enter Tryd.func57, Tryd.ntmps57
      go_wp2_with fail
      refine wp_region_quiet_below (by kernel_rfl) (by kernel_rfl) ?_
      iterate 11 (go_big_quiet_step ((go_at_call 71; exact cP.out _ _)))
      refine wpQuiet_nil ?_
      intro _ hw'
      obtain ⟨⟨ds, oss⟩, hw''⟩ := hw'
      subst hw''
      have b4 := below_regrown w ds oss
      generalize grow (redrawn w ds) oss = w6 at *
      go_wp2_with fail
      go_ret
      exact ⟨rfl, HM.out.below b4, grE_below b4 _⟩
    · rw [if_neg hn]
      have hn2 : ((n : Int) == 64) = false := by simp; omega
      clear hn
      go_enter Tryd.func57, Tryd.ntmps57
      go_wp2_with fail
      refine wp_region_quiet_below (by kernel_rfl) (by kernel_rfl) ?_
      iterate 11 (go_big_quiet_step ((go_at_call 71; exact cP.out _ _)))
      refine wpQuiet_nil ?_
      intro _ hw'
      obtain ⟨⟨ds, oss⟩, hw''⟩ := hw'
      subst hw''
      have b4 := below_regrown w ds oss
      have M6 := HM.out.below b4
      have T6 := HT.out.bl b4
      generalize grow (redrawn w ds) oss = w6 at *
      obtain ⟨k0, k1⟩ := M6.cells
      have ea : ((a + 1 : Nat) : Int) = (a : Int) + 1 := by omega
      have cG := goTo_any w6 R s a (a + 1) T6.now.spans M6 hs hal
      rw [ea] at cG
      have CG : Hid (Calls Tryd.prog 54 #[.pointer (some ⟨R, 0, none⟩), .int .i64 ((a : Int) + 1)] w6 fun x w' => x = .returned (.tuple #[]) ∧ RdE w' R s (skE s (a + 1)) ∧ w6.grownBy w' (some R)) := cG
      have HM6 : Hid (RdE w6 R s a) := M6
      clear cG M6 T6
      have h63 : (a : Int) + 1 ≤ 4096 := by omega
      go_wp2_with (go_at_call 54; refine CG.out.mono ?_; rintro e w7 ⟨rfl, h7, h8⟩)
      go_ret
      exact ⟨rfl, h7, (grE_below b4 _).trans h8⟩

def namR (s : ByteArray) (a : Nat) : ByteArray × Int × Nat :=
  if kd (rn s a) = 1 then (if nameB (s.extract a (spF s s.size a)) = false then (⟨#[]⟩, 7, a) else (s.extract a (spF s s.size a), 0, skE s (spF s s.size a))) else (⟨#[]⟩, 6, a)
set_option maxRecDepth 100000 in
set_option maxHeartbeats 4000000 in
theorem nameR_any (w : World) (R : Nat) (s : ByteArray) (a : Nat) (hT : TS w R) (hM : RdE w R s a) (hs : s.size ≤ 4096) (ha : a ≤ s.size) :
    Calls Tryd.prog 70 #[.pointer (some ⟨R, 0, none⟩)] w fun x w' => x = .returned (.tuple #[.string (namR s a).1, .int .i64 (namR s a).2.1]) ∧ RdE w' R s (namR s a).2.2 ∧ w.grownBy w' (some R) := by
  obtain ⟨c0, c1⟩ := hM.cells
  have hl := hM.lt
  have g0 := cell_regrown c0
  have g1 := cell_regrown c1
  have hsp : spanI s (a : Int) = spanP s a := by unfold spanI; rw [if_neg (by omega), Int.toNat_natCast]
  have cS : ∀ d os, Calls Tryd.prog 83 #[.string s, .int .i64 (a : Int)] (grow (redrawn w d) os) fun e w'' => e = .returned (.tuple #[.int .i64 (spanP s a).1, .int .i64 (spanP s a).2]) ∧ ∃ p : Regrown, w'' = grow (redrawn w p.d) p.os := fun d os => Calls.regrown_of (by
    rw [← hsp]; exact span_any s a _ (hT.now.below (below_regrown w d os)) (by unfold maxLen; omega))
  have HM : Hid (RdE w R s a) := hM
  have HT : Hid (TS w R) := hT
  clear hM hT hsp c0 c1
  unfold namR
  by_cases hk : kd (rn s a) = 1
  · rw [if_pos hk]
    have e1 : spanP s a = (((spF s s.size a : Nat) : Int), 0) := by unfold spanP; rw [if_pos hk]
    rw [e1] at cS
    have hle := spF_le s s.size a ha
    obtain ⟨E, hE⟩ : ∃ E, spF s s.size a = E := ⟨_, rfl⟩
    rw [hE] at cS hle ⊢
    have hsE : E ≤ s.size ∧ a ≤ E := by omega
    have hsE1 : (a : Int) ≤ (E : Int) := by omega
    have hsE2 : (E : Int) ≤ (s.size : Int) := by omega
    obtain ⟨nm, hnm⟩ : ∃ nm, s.extract a E = nm := ⟨_, rfl⟩
    rw [hnm]
    have hnz : nm.size ≤ maxLen := by rw [← hnm, mid_size s a E hsE.1]; unfold maxLen; omega
    have CS : Hid (∀ d os, Calls Tryd.prog 83 #[.string s, .int .i64 (a : Int)] (grow (redrawn w d) os) fun e w'' => e = .returned (.tuple #[.int .i64 (E : Int), .int .i64 0]) ∧ ∃ p : Regrown, w'' = grow (redrawn w p.d) p.os) := cS
    clear cS e1 hE hk
    obtain ⟨X, hX⟩ : ∃ X : ByteArray × Int × Nat, (if nameB nm = false then (⟨#[]⟩, 7, a) else (nm, 0, skE s E)) = X := ⟨_, rfl⟩
    rw [hX]
    have HX : Hid ((if nameB nm = false then (⟨#[]⟩, 7, a) else (nm, 0, skE s E)) = X) := hX
    clear hX
    go_enter Tryd.func70, Tryd.ntmps70
    go_wp2_with fail
    refine wp_region_quiet_below (by kernel_rfl) (by kernel_rfl) ?_
    iterate 14 (go_big_quiet_step ((go_at_call 83; exact CS.out _ _)))
    refine wpQuiet_nil ?_
    intro _ hw'
    obtain ⟨⟨ds, oss⟩, hw''⟩ := hw'
    subst hw''
    have b4 := below_regrown w ds oss
    have M6 := HM.out.below b4
    have T6 := HT.out.bl b4
    have HB4 : Hid (Below w.heap.size w (grow (redrawn w ds) oss)) := b4
    clear g0 g1 CS b4
    generalize grow (redrawn w ds) oss = w6 at *
    obtain ⟨k0, k1⟩ := M6.cells
    have g0 := cell_regrown k0
    have g1 := cell_regrown k1
    have HM6 : Hid (RdE w6 R s a) := M6
    have HT6 : Hid (TS w6 R) := T6
    clear M6 T6 k0 k1
    go_wp2_with fail
    refine wp_region_quiet_below (by kernel_rfl) (by kernel_rfl) ?_
    iterate 11 (go_big_quiet_step (fail))
    refine wpQuiet_nil ?_
    intro _ hw'
    obtain ⟨⟨ds, oss⟩, hw''⟩ := hw'
    subst hw''
    have b5 := below_regrown w6 ds oss
    have M7 := HM6.out.below b5
    have T7 := HT6.out.bl b5
    have G7 := (grE_below HB4.out (some R)).trans (grE_below b5 (some R))
    clear g0 g1 b5
    generalize grow (redrawn w6 ds) oss = w7 at *
    have cN : Hid (Calls Tryd.prog 22 #[.string nm] w7 fun e w' => e = .returned (.bool (nameB nm)) ∧ Below w7.heap.size w7 w') := name_any nm w7 T7.now
    have HM7 : Hid (RdE w7 R s a) := M7
    have HT7 : Hid (TS w7 R) := T7
    have HG7 : Hid (w.grownBy w7 (some R)) := G7
    clear M7 T7 G7
    cases hn : nameB nm
    · have eX : X = (⟨#[]⟩, 7, a) := by rw [← HX.out, hn]; rfl
      rw [hn] at cN
      clear hn
      go_wp2_with (go_at_call 22; refine cN.out.mono ?_; rintro e w8 ⟨rfl, b8⟩)
      go_ret2
      first | exact ⟨rfl, HM7.out.below b8, grE_trans HG7.out b8⟩ | (rw [eX]; exact ⟨rfl, HM7.out.below b8, grE_trans HG7.out b8⟩)
    · have eX : X = (nm, 0, skE s E) := by rw [← HX.out, hn]; rfl
      rw [hn] at cN
      clear hn
      have CG : Hid (∀ W, RdE W R s a → TS W R → Calls Tryd.prog 54 #[.pointer (some ⟨R, 0, none⟩), .int .i64 (E : Int)] W fun x w' => x = .returned (.tuple #[]) ∧ RdE w' R s (skE s E) ∧ W.grownBy w' (some R)) := fun W h1 h2 => goTo_any W R s a E h2.now.spans h1 hs hsE.1
      go_wp2_with (first | (go_at_call 54; refine (CG.out _ (HM7.out.below b8) (HT7.out.bl b8)).mono ?_; rintro e w9 ⟨rfl, h9, h10⟩) | (go_at_call 22; refine cN.out.mono ?_; rintro e w8 ⟨rfl, b8⟩))
      go_ret2
      first | exact ⟨rfl, h9, (grE_trans HG7.out b8).trans h10⟩ | (rw [eX]; exact ⟨rfl, h9, (grE_trans HG7.out b8).trans h10⟩)
  · rw [if_neg hk]
    have e1 : spanP s a = (0, 11) := by unfold spanP; rw [if_neg hk]
    rw [e1] at cS
    have CS : Hid (∀ d os, Calls Tryd.prog 83 #[.string s, .int .i64 (a : Int)] (grow (redrawn w d) os) fun e w'' => e = .returned (.tuple #[.int .i64 0, .int .i64 11]) ∧ ∃ p : Regrown, w'' = grow (redrawn w p.d) p.os) := cS
    clear cS e1 hk
    go_enter Tryd.func70, Tryd.ntmps70
    go_wp2_with fail
    refine wp_region_quiet_below (by kernel_rfl) (by kernel_rfl) ?_
    iterate 14 (go_big_quiet_step ((go_at_call 83; exact CS.out _ _)))
    refine wpQuiet_nil ?_
    intro _ hw'
    obtain ⟨⟨ds, oss⟩, hw''⟩ := hw'
    subst hw''
    have b4 := below_regrown w ds oss
    generalize grow (redrawn w ds) oss = w6 at *
    go_wp2_with fail
    go_ret2
    exact ⟨rfl, HM.out.below b4, grE_below b4 _⟩

set_option maxRecDepth 100000 in
set_option maxHeartbeats 8000000 in
theorem numberR_any (w : World) (R : Nat) (s : ByteArray) (c : Nat) (hT : TS w R) (hM : RdE w R s c) (hs : s.size ≤ 4096) (hc : c ≤ s.size) :
    Calls Tryd.prog 72 #[.pointer (some ⟨R, 0, none⟩)] w fun x w' => x = .returned (.tuple #[.int .i64 (numE s c).1, .int .i64 (numE s c).2.2]) ∧ RdE w' R s (numE s c).2.1 ∧ w.grownBy w' (some R) := by
  obtain ⟨c0, c1⟩ := hM.cells
  have hl := hM.lt
  have g0 := cell_regrown c0
  have g1 := cell_regrown c1
  obtain ⟨hd, _⟩ := mwd_in s c hc
  have hci : (c : Int) ≤ (s.size : Int) := by omega
  have hm3 : mwd s c ≤ 3 := by unfold mwd; split <;> (try split) <;> omega
  have hcE := numE s c
  have hE : numE s c = if digZ (rn s (c + mwd s c)) = 0 then (0, c, 6)
      else if (rdA (s.extract c (dgA s (c + mwd s c)))).2 = 0 then ((rdA (s.extract c (dgA s (c + mwd s c)))).1, skE s (dgA s (c + mwd s c)), 0)
      else (0, c + mwd s c, 10) := rfl
  have hrel := num_rel s c hs hc
  have hni : ∀ d : Nat, d ≤ s.size → numI s (d : Int) = numP s d := fun d hd => by unfold numI; rw [if_neg (by omega), Int.toNat_natCast]
  have hga : c + mwd s c ≤ dgA s (c + mwd s c) ∧ dgA s (c + mwd s c) ≤ s.size := dgE_in s _ s.size _ hd
  have hnP := hni _ hd
  have cM : Hid (∀ d os, Calls Tryd.prog 85 #[.string (s.extract c s.size)] (grow (redrawn w d) os) fun e w'' => e = .returned (.int .i64 (mwd s c : Int)) ∧ ∃ p : Regrown, w'' = grow (redrawn w p.d) p.os) := fun d os => Calls.regrown_of ((minus_any s c hc _ hs).mono fun e w' ⟨h1, h2⟩ => ⟨h1, by rw [h2]; exact Below.refl _ _⟩)
  rw [hE]
  clear hE hcE hni c0 c1
  have hz1 : digZ (rn s (c + mwd s c)) = 0 → numP s (c + mwd s c) = (0, 0, 11) := fun h => by unfold numP; rw [if_pos h]
  generalize mwd s c = k at *
  have hdI : (c : Int) + (k : Int) = ((c + k : Nat) : Int) := by omega
  obtain ⟨D, hD⟩ : ∃ D, c + k = D := ⟨_, rfl⟩
  have hcD : c ≤ D := by omega
  rw [hD] at hdI hd hrel hnP hz1 hga ⊢
  have HDI : Hid ((c : Int) + (k : Int) = (D : Int)) := hdI
  have hk1 : (c : Int) + (k : Int) ≤ 5000 := by omega
  have cN : Hid (∀ W, Tabs W → Calls Tryd.prog 86 #[.string s, .int .i64 ((c : Int) + (k : Int))] W fun e w' => e = .returned (.tuple #[.int .u64 (numP s D).1, .int .i64 (numP s D).2.1, .int .i64 (numP s D).2.2]) ∧ Below W.heap.size W w') := fun W hW => by
    rw [HDI.out, ← hnP]; exact number_any s D W hW (by unfold maxLen; omega)
  have HM : Hid (RdE w R s c) := hM
  have HT : Hid (TS w R) := hT
  clear hM hT hdI hnP hD
  by_cases hz : digZ (rn s D) = 0
  · rw [if_pos hz]
    rw [hz1 hz] at cN
    clear hz hz1 hrel
    go_enter Tryd.func72, Tryd.ntmps72
    go_wp2_with fail
    refine wp_region_quiet_below (by kernel_rfl) (by kernel_rfl) ?_
    iterate 16 (go_big_quiet_step ((go_at_call 85; exact cM.out _ _)))
    refine wpQuiet_nil ?_
    intro _ hw'
    obtain ⟨⟨ds, oss⟩, hw''⟩ := hw'
    subst hw''
    have b4 := below_regrown w ds oss
    have M6 := HM.out.below b4
    have T6 := HT.out.bl b4
    clear g0 g1
    generalize grow (redrawn w ds) oss = w6 at *
    obtain ⟨k0, k1⟩ := M6.cells
    go_wp2_with (go_at_call 86; refine (cN.out _ T6.now).mono ?_; rintro e w7 ⟨rfl, b7⟩)
    go_ret2
    exact ⟨rfl, M6.below b7, (grE_below b4 _).trans (grE_below b7 _)⟩
  · rw [if_neg hz]
    obtain ⟨g, hg⟩ : ∃ g, dgA s D = g := ⟨_, rfl⟩
    rw [hg] at hga hrel ⊢
    have hgc : c ≤ g ∧ g ≤ s.size := by omega
    have hgc1 : (c : Int) ≤ (g : Int) := by omega
    have hgc2 : (g : Int) ≤ (s.size : Int) := by omega
    have hr := hrel hz
    clear hrel hz hz1
    obtain ⟨t, ht⟩ : ∃ t, s.extract c g = t := ⟨_, rfl⟩
    have hts : t.size ≤ maxLen := by rw [← ht, mid_size s c g hgc.2]; unfold maxLen; omega
    rw [ht] at hr ⊢
    rcases hr with ⟨v, hv⟩ | ⟨hv, hbad⟩
    · rw [hv] at cN
      have cR : ∀ W, Tabs W → ∀ d os, Calls Tryd.prog 87 #[.string t] (grow (redrawn W d) os) fun e w'' => e = .returned (.tuple #[.int .i64 (rdA t).1, .int .i64 (rdA t).2]) ∧ ∃ p : Regrown, w'' = grow (redrawn W p.d) p.os := fun W hW d os => Calls.regrown_of (read_any t _ (hW.below (below_regrown W d os)) hts)
      have CG : Hid (∀ W, RdE W R s c → TS W R → Calls Tryd.prog 54 #[.pointer (some ⟨R, 0, none⟩), .int .i64 (g : Int)] W fun x w' => x = .returned (.tuple #[]) ∧ RdE w' R s (skE s g) ∧ W.grownBy w' (some R)) := fun W h1 h2 => goTo_any W R s c g h2.now.spans h1 hs hgc.2
      generalize rdA t = X at *
      obtain ⟨xn, xe⟩ := X
      simp only at cR ⊢
      have CR : Hid (∀ W, Tabs W → ∀ d os, Calls Tryd.prog 87 #[.string t] (grow (redrawn W d) os) fun e w'' => e = .returned (.tuple #[.int .i64 xn, .int .i64 xe]) ∧ ∃ p : Regrown, w'' = grow (redrawn W p.d) p.os) := cR
      clear cR hv
      by_cases hx : xe = 0
      · rw [if_pos hx]
        have hx2 : (xe == 0) = true := by simp [hx]
        have hx3 : (xe != 0) = false := by simp [hx]
        have HX0 : Hid (xe = 0) := hx
        clear hx
        go_enter Tryd.func72, Tryd.ntmps72
        go_wp2_with fail
        refine wp_region_quiet_below (by kernel_rfl) (by kernel_rfl) ?_
        iterate 16 (go_big_quiet_step ((go_at_call 85; exact cM.out _ _)))
        refine wpQuiet_nil ?_
        intro _ hw'
        obtain ⟨⟨ds, oss⟩, hw''⟩ := hw'
        subst hw''
        have b4 := below_regrown w ds oss
        have M6 := HM.out.below b4
        have T6 := HT.out.bl b4
        have HG6 : Hid (w.grownBy (grow (redrawn w ds) oss) (some R)) := grE_below b4 _
        clear g0 g1 b4
        generalize grow (redrawn w ds) oss = w6 at *
        obtain ⟨k0, k1⟩ := M6.cells
        go_wp2_with (go_at_call 86; refine (cN.out _ T6.now).mono ?_; rintro e w7 ⟨rfl, b7⟩)
        have M7 := M6.below b7
        have T7 := T6.bl b7
        have HG7 : Hid (w.grownBy w7 (some R)) := grE_trans HG6.out b7
        obtain ⟨m0, m1⟩ := M7.cells
        have g0 := cell_regrown m0
        have g1 := cell_regrown m1
        have CR7 : Hid (∀ d os, Calls Tryd.prog 87 #[.string t] (grow (redrawn w7 d) os) fun e w'' => e = .returned (.tuple #[.int .i64 xn, .int .i64 xe]) ∧ ∃ p : Regrown, w'' = grow (redrawn w7 p.d) p.os) := CR.out w7 T7.now
        have HM7 : Hid (RdE w7 R s c) := M7
        have HT7 : Hid (TS w7 R) := T7
        clear M7 T7 M6 T6 k0 k1 m0 m1 b7
        refine wp_region_quiet_below (by kernel_rfl) (by kernel_rfl) ?_
        iterate 16 (go_big_quiet_step ((go_at_call 87; exact CR7.out _ _)))
        refine wpQuiet_nil ?_
        intro _ hw'
        obtain ⟨⟨ds, oss⟩, hw''⟩ := hw'
        subst hw''
        have b8 := below_regrown w7 ds oss
        have M8 := HM7.out.below b8
        have T8 := HT7.out.bl b8
        have HG8 : Hid (w.grownBy (grow (redrawn w7 ds) oss) (some R)) := grE_trans HG7.out b8
        clear g0 g1 b8
        generalize grow (redrawn w7 ds) oss = w8 at *
        go_wp2_with (go_at_call 54; refine (CG.out _ M8 T8).mono ?_; rintro e w9 ⟨rfl, h9, h10⟩)
        go_ret2
        exact ⟨rfl, h9, HG8.out.trans h10⟩
      · rw [if_neg hx]
        have hx2 : (xe == 0) = false := by simp [hx]
        have hx3 : (xe != 0) = true := by simp [hx]
        clear hx
        go_enter Tryd.func72, Tryd.ntmps72
        go_wp2_with fail
        refine wp_region_quiet_below (by kernel_rfl) (by kernel_rfl) ?_
        iterate 16 (go_big_quiet_step ((go_at_call 85; exact cM.out _ _)))
        refine wpQuiet_nil ?_
        intro _ hw'
        obtain ⟨⟨ds, oss⟩, hw''⟩ := hw'
        subst hw''
        have b4 := below_regrown w ds oss
        have M6 := HM.out.below b4
        have T6 := HT.out.bl b4
        have HG6 : Hid (w.grownBy (grow (redrawn w ds) oss) (some R)) := grE_below b4 _
        clear g0 g1 b4
        generalize grow (redrawn w ds) oss = w6 at *
        obtain ⟨k0, k1⟩ := M6.cells
        go_wp2_with (go_at_call 86; refine (cN.out _ T6.now).mono ?_; rintro e w7 ⟨rfl, b7⟩)
        have M7 := M6.below b7
        have T7 := T6.bl b7
        have HG7 : Hid (w.grownBy w7 (some R)) := grE_trans HG6.out b7
        obtain ⟨m0, m1⟩ := M7.cells
        have g0 := cell_regrown m0
        have g1 := cell_regrown m1
        have CR7 : Hid (∀ d os, Calls Tryd.prog 87 #[.string t] (grow (redrawn w7 d) os) fun e w'' => e = .returned (.tuple #[.int .i64 xn, .int .i64 xe]) ∧ ∃ p : Regrown, w'' = grow (redrawn w7 p.d) p.os) := CR.out w7 T7.now
        have HM7 : Hid (RdE w7 R s c) := M7
        have HT7 : Hid (TS w7 R) := T7
        clear M7 T7 M6 T6 k0 k1 m0 m1 b7
        refine wp_region_quiet_below (by kernel_rfl) (by kernel_rfl) ?_
        iterate 16 (go_big_quiet_step ((go_at_call 87; exact CR7.out _ _)))
        refine wpQuiet_nil ?_
        intro _ hw'
        obtain ⟨⟨ds, oss⟩, hw''⟩ := hw'
        subst hw''
        have b8 := below_regrown w7 ds oss
        have M8 := HM7.out.below b8
        have HG8 : Hid (w.grownBy (grow (redrawn w7 ds) oss) (some R)) := grE_trans HG7.out b8
        clear g0 g1 b8
        generalize grow (redrawn w7 ds) oss = w8 at *
        obtain ⟨m0, m1⟩ := M8.cells
        have mf := M8.frozen 1
        have M9 : Hid (RdE (w8.setCell ⟨R, 1, none⟩ (.int .i64 ((c : Int) + (k : Int)))) R s D) := by rw [HDI.out]; exact M8.at_ D
        go_wp2_with fail
        go_ret2
        exact ⟨rfl, M9.out, grE_set HG8.out⟩
    · rw [hv] at cN
      rw [if_neg hbad]
      clear hbad hv
      go_enter Tryd.func72, Tryd.ntmps72
      go_wp2_with fail
      refine wp_region_quiet_below (by kernel_rfl) (by kernel_rfl) ?_
      iterate 16 (go_big_quiet_step ((go_at_call 85; exact cM.out _ _)))
      refine wpQuiet_nil ?_
      intro _ hw'
      obtain ⟨⟨ds, oss⟩, hw''⟩ := hw'
      subst hw''
      have b4 := below_regrown w ds oss
      have M6 := HM.out.below b4
      have T6 := HT.out.bl b4
      have HG6 : Hid (w.grownBy (grow (redrawn w ds) oss) (some R)) := grE_below b4 _
      clear g0 g1 b4
      generalize grow (redrawn w ds) oss = w6 at *
      obtain ⟨k0, k1⟩ := M6.cells
      go_wp2_with (go_at_call 86; refine (cN.out _ T6.now).mono ?_; rintro e w7 ⟨rfl, b7⟩; have M7 := M6.below b7; obtain ⟨m0, m1⟩ := M7.cells; have mf := M7.frozen 1)
      have M9 : Hid (RdE (w7.setCell ⟨R, 1, none⟩ (.int .i64 ((c : Int) + (k : Int)))) R s D) := by rw [HDI.out]; exact M7.at_ D
      go_ret2
      exact ⟨rfl, M9.out, grE_set (grE_trans HG6.out b7)⟩
end Go.Proofs.YtpdohdmpjaklgaaDoor
