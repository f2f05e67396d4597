/-
  The document's reader of environments, walked: bind, the number.
-/
import Derived.Test.YtpdohdmpjaklgaaDoorEvRrW
set_option linter.unusedSimpArgs false
set_option linter.unusedVariables false
namespace Go.Proofs.YtpdohdmpjaklgaaDoor
open Go.RowKit Go.Lib Go.Sort

set_option maxRecDepth 100000 in
set_option maxHeartbeats 4000000 in
theorem bindQ_none (s : ByteArray) (a : Nat) (w : World) (hs : s.size ≤ 4096) (ha : a ≤ s.size) (hk : kd (rn s a) = 1) (hn : nameB (s.extract a (spF s s.size a)) = true) (he : byB s (skE s (spF s s.size a)) 61 = true) (hz : digZ (rn s ((skE s (skE s (spF s s.size a) + 1)) + mwd s (skE s (skE s (spF s s.size a) + 1)))) = 0) :
    Calls Tryd.prog 33 #[.string s, .int .i64 (a : Int)] w (BindQ w s a) := by
  have hs0 : s.size ≤ maxLen := by unfold maxLen; omega
  obtain ⟨W1, hW1⟩ : ∃ W1, w.alloc (.cells #[.string ⟨#[]⟩, .int .i64 0] 38) = W1 := ⟨_, rfl⟩
  have b1 : Below w.heap.size w W1 := by rw [← hW1]; exact (Below.refl _ _).alloc (Nat.le_refl _) _
  have hB1 : W1.heap[w.heap.size]? = some (.cells #[.string ⟨#[]⟩, .int .i64 0] 38 (0, 0)) := by rw [← hW1]; exact heap_alloc_new w _
  have hlt1 : w.heap.size < W1.heap.size := lt_of_block hB1
  have HW : Hid (w.alloc (.cells #[.string ⟨#[]⟩, .int .i64 0] 38) = W1) := hW1
  have HK : Hid (∀ W, Below W1.heap.size W1 W → W.heap[w.heap.size]? = some (.cells #[.string ⟨#[]⟩, .int .i64 0] 38 (0, 0))) := fun W hg => (hg.block _ hlt1).trans hB1
  have hz1 : w.heap.size ≤ W1.heap.size := by omega
  have hsp : spanI s (a : Int) = spanP s a := by unfold spanI; rw [if_neg (by omega), Int.toNat_natCast]
  have e1 : spanP s a = (((spF s s.size a : Nat) : Int), 0) := by unfold spanP; rw [if_pos hk]
  have cS : ∀ W, Calls Tryd.prog 58 #[.string s, .int .i64 (a : Int)] W fun e w' => e = .returned (.tuple #[.int .i64 ((spF s s.size a : Nat) : Int), .int .i64 0]) ∧ Below W.heap.size W w' := fun W => by
    have := refSpan_any s a W hs0
    rw [hsp, e1] at this; exact this
  have hE0 : bindP s a = ((s.extract a (spF s s.size a), (numE s (skE s (skE s (spF s s.size a) + 1))).1), (numE s (skE s (skE s (spF s s.size a) + 1))).2) := by
    unfold bindP; rw [if_pos hk, if_neg (by simp [hn]), if_neg (by simp [he])]
  have hle := spF_le s s.size a ha
  obtain ⟨E, hE⟩ : ∃ E, spF s s.size a = E := ⟨_, rfl⟩
  rw [hE] at cS hle hE0 hn he hz
  have hsE1 : (a : Int) ≤ (E : Int) := by omega
  have hsE2 : (E : Int) ≤ (s.size : Int) := by omega
  obtain ⟨nm, hnm⟩ : ∃ nm, s.extract a E = nm := ⟨_, rfl⟩
  rw [hnm] at hE0 hn
  have hnz : nm.size ≤ maxLen := by rw [← hnm, mid_size s a E hle.2]; unfold maxLen; omega
  have cN : Hid (∀ W, Calls Tryd.prog 19 #[.string nm] W fun e w' => e = .returned (.bool true) ∧ Below W.heap.size W w') := fun W => by rw [← hn]; exact refName_any nm W hnz
  have CS : Hid (∀ W, Calls Tryd.prog 58 #[.string s, .int .i64 (a : Int)] W fun e w' => e = .returned (.tuple #[.int .i64 (E : Int), .int .i64 0]) ∧ Below W.heap.size W w') := cS
  have cK : Hid (∀ W, Calls Tryd.prog 32 #[.string s, .int .i64 (E : Int)] W fun x w' => x = .returned (.int .i64 ((skE s E : Nat) : Int)) ∧ Below W.heap.size W w') := fun W => skipE_any s E W hs hle.2
  have hbi := (skE_in hle.2).2
  obtain ⟨b, hb⟩ : ∃ b, skE s E = b := ⟨_, rfl⟩
  rw [hb] at cK hbi he hE0 hz
  have hbe : b < s.size := by unfold byB at he; simp at he; omega
  have hbI : (b : Int) < (s.size : Int) := by omega
  rw [by_get s b hbe 61] at he
  obtain ⟨V, hV⟩ : ∃ V : Int, ((s[b]'hbe).toNat : Int) = V := ⟨_, rfl⟩
  rw [hV] at he
  have hV61 : (V != 61) = false := by
    have : V = 61 := by simpa using he
    simp [this]
  have hcb := skE_in (s := s) (a := b + 1) (by omega)
  have cK2 : Hid (∀ W, Calls Tryd.prog 32 #[.string s, .int .i64 ((b : Int) + 1)] W fun x w' => x = .returned (.int .i64 ((skE s (b + 1) : Nat) : Int)) ∧ Below W.heap.size W w') := fun W => skipE_any s (b + 1) W hs (by omega)
  obtain ⟨c, hc⟩ : ∃ c, skE s (b + 1) = c := ⟨_, rfl⟩
  rw [hc] at cK2 hcb hE0 hz
  have cR : Hid (∀ W, Calls Tryd.prog 34 #[.string s, .int .i64 (c : Int)] W fun e w' => e = .returned (.int .i32 (rn s c)) ∧ Below W.heap.size W w') := fun W => refRune_any s c W hs0 hcb.2
  have cW : Hid (∀ W, Calls Tryd.prog 37 #[.string s, .int .i64 (c : Int)] W fun e w' => e = .returned (.int .i64 (wdE s c : Nat)) ∧ Below W.heap.size W w') := fun W => refWidth_any s c W hs0
  obtain ⟨w45, w87, w0⟩ := mwd_w s c hcb.2
  have hD := (mwd_in s c hcb.2).1
  have hNE : numE s c = if digZ (rn s (c + mwd s c)) = 0 then (0, c, 6)
      else if (rdA (s.extract c (dgA s (c + mwd s c)))).2 = 0 then ((rdA (s.extract c (dgA s (c + mwd s c)))).1, skE s (dgA s (c + mwd s c)), 0)
      else (0, c + mwd s c, 10) := rfl
  obtain ⟨D, hDD⟩ : ∃ D, c + mwd s c = D := ⟨_, rfl⟩
  rw [hDD] at hNE hD hz
  have hcD : c ≤ D := by omega
  have cR2 : Hid (∀ W, Calls Tryd.prog 34 #[.string s, .int .i64 (D : Int)] W fun e w' => e = .returned (.int .i32 (rn s D)) ∧ Below W.heap.size W w') := fun W => refRune_any s D W hs0 hD
  have cD2 : Hid (∀ W, Calls Tryd.prog 59 #[.int .i32 (rn s D)] W fun e w' => e = .returned (.tuple #[.int .i64 (digV (rn s D)), .int .i32 (digZ (rn s D))]) ∧ w' = W) := fun W => digit_any _ W
  have HB1 : Hid (Below w.heap.size w W1) := b1
  have h63b : (b : Int) + 1 ≤ 5000 := by omega
  clear cS e1 hE hsp hk hn he hb hc hW1 b1 hB1
  rw [if_pos hz] at hNE
  rw [hNE] at hE0
  rw [hz] at cD2
  have HQ : Hid (∀ w2, Below W1.heap.size W1 w2 → BindQ w s a (.returned (.tuple #[bdV bd0, .int .i64 (c : Int), .int .i64 6])) (set2B w2 w.heap.size (.string ⟨#[]⟩) (.int .i64 0))) := fun w2 hb => by
    refine ⟨⟨bd0, by rw [hE0], fun h => by rw [hE0] at h; exact absurd h (by simp)⟩, ?_⟩
    have := (HB1.out.trans (hb.mono hz1))
    exact (this.setCell (p := ⟨w.heap.size, 0, none⟩) (Nat.le_refl _) _).setCell (p := ⟨w.heap.size, 1, none⟩) (Nat.le_refl _) _
  clear hE0 hNE hz
  generalize rn s D = r2 at *
  generalize digV r2 = dv at *
  obtain ⟨r, hr⟩ : ∃ r, rn s c = r := ⟨_, rfl⟩
  rw [hr] at cR w45 w87 w0
  by_cases h45 : r = 45
  case' pos =>
    obtain ⟨e1, e2⟩ := w45 h45
    rw [e1] at cW
    rw [e2] at hDD
    have hDI : (c : Int) + 1 = (D : Int) := by omega
    have t1 : (r == 45) = true := by simp [h45]
    have h63 : (c : Int) + 1 ≤ 5000 := by omega
  case' neg =>
    have t1 : (r == 45) = false := by simp [h45]
    by_cases h87 : r = 8722
    case' pos =>
      obtain ⟨e1, e2⟩ := w87 h87
      rw [e1] at cW
      rw [e2] at hDD
      have hDI : (c : Int) + 3 = (D : Int) := by omega
      have t2 : (r == 8722) = true := by simp [h87]
      have h63 : (c : Int) + 3 ≤ 5000 := by omega
    case' neg =>
      have t2 : (r == 8722) = false := by simp [h87]
      have e2 := w0 h45 h87
      rw [e2, Nat.add_zero] at hDD
      subst hDD
  all_goals
    clear w45 w87 w0
    try clear hDD
    try clear h45
    try clear h87
    go_enter Tryd.func33, Tryd.ntmps33
    go_wp2_with fail
    rw [HW.out]
    refine (CS.out _).mono ?_
    rintro e w2 ⟨rfl, b2⟩
    go_wp2_with fail
    refine (cN.out _).mono ?_
    rintro e w3 ⟨rfl, b3⟩
    go_wp2_with fail
    refine (cK.out _).mono ?_
    rintro e w4 ⟨rfl, b4⟩
    have B4 := b2.trans ((b3.trans (b4.mono b3.size)).mono b2.size)
    go_wp2_with fail
    refine (cK2.out _).mono ?_
    rintro e w5 ⟨rfl, b5⟩
    go_wp2_with fail
    refine (cR.out _).mono ?_
    rintro e w6 ⟨rfl, b6⟩
    have B6 := B4.trans ((b5.trans (b6.mono b5.size)).mono B4.size)
    clear b2 b3 b4 b5 b6 B4
    go_wp2_with fail
    try (go_at_call 37; refine (cW.out _).mono ?_; rintro e w7 ⟨rfl, b7⟩; replace B6 := B6.trans (b7.mono B6.size); clear b7; go_wp2_with fail)
    refine (cR2.out _).mono ?_
    rintro e w8 ⟨rfl, b8⟩
    have B8 := B6.trans (b8.mono B6.size)
    go_wp2_with fail
    refine (cD2.out _).mono ?_
    rintro e w9 ⟨rfl, hw9⟩
    obtain rfl := hw9.symm
    have hr2 := HK.out w8 B8
    have q0 : w8.cell? ⟨w.heap.size, 0, none⟩ = some (.string ⟨#[]⟩) := by simp [World.cell?, hr2]
    have q1 : w8.cell? ⟨w.heap.size, 1, none⟩ = some (.int .i64 0) := by simp [World.cell?, hr2]
    have f0 : w8.frozen? ⟨w.heap.size, 0, none⟩ = false := by simp [World.frozen?, hr2]
    have f1 : w8.frozen? ⟨w.heap.size, 1, none⟩ = false := by simp [World.frozen?, hr2]
    have hr4 := set2B_blk (v0 := .string ⟨#[]⟩) (v1 := .int .i64 0) hr2
    have HQ2 := HQ.out w8 B8
    go_wp2_with fail
    show bodyPost _ _ _ _ _ (set2B w8 w.heap.size (.string ⟨#[]⟩) (.int .i64 0))
    generalize set2B w8 w.heap.size (.string ⟨#[]⟩) (.int .i64 0) = w10 at *
    refine bodyPost_ret (v := .tuple #[bdV bd0, .int .i64 (c : Int), .int .i64 6]) ?_ rfl HQ2
    simp [results, Tryd.f33, go_sem, World.cell?, hr4, bd0]
end Go.Proofs.YtpdohdmpjaklgaaDoor
