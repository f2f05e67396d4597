/-
  The document's reader of environments, walked: bind, the digits.
-/
import Derived.Test.YtpdohdmpjaklgaaDoorEvRrW
set_option linter.unusedSimpArgs false
set_option linter.unusedVariables false
namespace Go.Proofs.YtpdohdmpjaklgaaDoor
open Go.RowKit Go.Lib Go.Sort

set_option maxRecDepth 100000 in
set_option maxHeartbeats 4000000 in
theorem bindQ_num (s : ByteArray) (a : Nat) (w : World) (hs : s.size ≤ 4096) (ha : a ≤ s.size) (hk : kd (rn s a) = 1) (hn : nameB (s.extract a (spF s s.size a)) = true) (he : byB s (skE s (spF s s.size a)) 61 = true) (hz : digZ (rn s ((skE s (skE s (spF s s.size a) + 1)) + mwd s (skE s (skE s (spF s s.size a) + 1)))) ≠ 0) :
    Calls Tryd.prog 33 #[.string s, .int .i64 (a : Int)] w (BindQ w s a) := by
  have hs0 : s.size ≤ maxLen := by unfold maxLen; omega
  obtain ⟨W1, hW1⟩ : ∃ W1, w.alloc (.cells #[.string ⟨#[]⟩, .int .i64 0] 38) = W1 := ⟨_, rfl⟩
  have b1 : Below w.heap.size w W1 := by rw [← hW1]; exact (Below.refl _ _).alloc (Nat.le_refl _) _
  have hB1 : W1.heap[w.heap.size]? = some (.cells #[.string ⟨#[]⟩, .int .i64 0] 38 (0, 0)) := by rw [← hW1]; exact heap_alloc_new w _
  have hlt1 : w.heap.size < W1.heap.size := lt_of_block hB1
  have HW : Hid (w.alloc (.cells #[.string ⟨#[]⟩, .int .i64 0] 38) = W1) := hW1
  have HK : Hid (∀ W, Below W1.heap.size W1 W → W.heap[w.heap.size]? = some (.cells #[.string ⟨#[]⟩, .int .i64 0] 38 (0, 0))) := fun W hg => (hg.block _ hlt1).trans hB1
  have hz1 : w.heap.size ≤ W1.heap.size := by omega
  have hsp : spanI s (a : Int) = spanP s a := by unfold spanI; rw [if_neg (by omega), Int.toNat_natCast]
  have e1 : spanP s a = (((spF s s.size a : Nat) : Int), 0) := by unfold spanP; rw [if_pos hk]
  have cS : ∀ W, Calls Tryd.prog 58 #[.string s, .int .i64 (a : Int)] W fun e w' => e = .returned (.tuple #[.int .i64 ((spF s s.size a : Nat) : Int), .int .i64 0]) ∧ Below W.heap.size W w' := fun W => by
    have := refSpan_any s a W hs0
    rw [hsp, e1] at this; exact this
  have hE0 : bindP s a = ((s.extract a (spF s s.size a), (numE s (skE s (skE s (spF s s.size a) + 1))).1), (numE s (skE s (skE s (spF s s.size a) + 1))).2) := by
    unfold bindP; rw [if_pos hk, if_neg (by simp [hn]), if_neg (by simp [he])]
  have hle := spF_le s s.size a ha
  obtain ⟨E, hE⟩ : ∃ E, spF s s.size a = E := ⟨_, rfl⟩
  rw [hE] at cS hle hE0 hn he hz
  have hsE1 : (a : Int) ≤ (E : Int) := by omega
  have hsE2 : (E : Int) ≤ (s.size : Int) := by omega
  obtain ⟨nm, hnm⟩ : ∃ nm, s.extract a E = nm := ⟨_, rfl⟩
  rw [hnm] at hE0 hn
  have hnz : nm.size ≤ maxLen := by rw [← hnm, mid_size s a E hle.2]; unfold maxLen; omega
  have cN : Hid (∀ W, Calls Tryd.prog 19 #[.string nm] W fun e w' => e = .returned (.bool true) ∧ Below W.heap.size W w') := fun W => by rw [← hn]; exact refName_any nm W hnz
  have CS : Hid (∀ W, Calls Tryd.prog 58 #[.string s, .int .i64 (a : Int)] W fun e w' => e = .returned (.tuple #[.int .i64 (E : Int), .int .i64 0]) ∧ Below W.heap.size W w') := cS
  have cK : Hid (∀ W, Calls Tryd.prog 32 #[.string s, .int .i64 (E : Int)] W fun x w' => x = .returned (.int .i64 ((skE s E : Nat) : Int)) ∧ Below W.heap.size W w') := fun W => skipE_any s E W hs hle.2
  have hbi := (skE_in hle.2).2
  obtain ⟨b, hb⟩ : ∃ b, skE s E = b := ⟨_, rfl⟩
  rw [hb] at cK hbi he hE0 hz
  have hbe : b < s.size := by unfold byB at he; simp at he; omega
  have hbI : (b : Int) < (s.size : Int) := by omega
  rw [by_get s b hbe 61] at he
  obtain ⟨V, hV⟩ : ∃ V : Int, ((s[b]'hbe).toNat : Int) = V := ⟨_, rfl⟩
  rw [hV] at he
  have hV61 : (V != 61) = false := by
    have : V = 61 := by simpa using he
    simp [this]
  have hcb := skE_in (s := s) (a := b + 1) (by omega)
  have cK2 : Hid (∀ W, Calls Tryd.prog 32 #[.string s, .int .i64 ((b : Int) + 1)] W fun x w' => x = .returned (.int .i64 ((skE s (b + 1) : Nat) : Int)) ∧ Below W.heap.size W w') := fun W => skipE_any s (b + 1) W hs (by omega)
  obtain ⟨c, hc⟩ : ∃ c, skE s (b + 1) = c := ⟨_, rfl⟩
  rw [hc] at cK2 hcb hE0 hz
  have cR : Hid (∀ W, Calls Tryd.prog 34 #[.string s, .int .i64 (c : Int)] W fun e w' => e = .returned (.int .i32 (rn s c)) ∧ Below W.heap.size W w') := fun W => refRune_any s c W hs0 hcb.2
  have cW : Hid (∀ W, Calls Tryd.prog 37 #[.string s, .int .i64 (c : Int)] W fun e w' => e = .returned (.int .i64 (wdE s c : Nat)) ∧ Below W.heap.size W w') := fun W => refWidth_any s c W hs0
  obtain ⟨w45, w87, w0⟩ := mwd_w s c hcb.2
  have hD := (mwd_in s c hcb.2).1
  have hNE : numE s c = if digZ (rn s (c + mwd s c)) = 0 then (0, c, 6)
      else if (rdA (s.extract c (dgA s (c + mwd s c)))).2 = 0 then ((rdA (s.extract c (dgA s (c + mwd s c)))).1, skE s (dgA s (c + mwd s c)), 0)
      else (0, c + mwd s c, 10) := rfl
  obtain ⟨D, hDD⟩ : ∃ D, c + mwd s c = D := ⟨_, rfl⟩
  rw [hDD] at hNE hD hz
  have hcD : c ≤ D := by omega
  have cR2 : Hid (∀ W, Calls Tryd.prog 34 #[.string s, .int .i64 (D : Int)] W fun e w' => e = .returned (.int .i32 (rn s D)) ∧ Below W.heap.size W w') := fun W => refRune_any s D W hs0 hD
  have cD2 : Hid (∀ W, Calls Tryd.prog 59 #[.int .i32 (rn s D)] W fun e w' => e = .returned (.tuple #[.int .i64 (digV (rn s D)), .int .i32 (digZ (rn s D))]) ∧ w' = W) := fun W => digit_any _ W
  have HB1 : Hid (Below w.heap.size w W1) := b1
  have h63b : (b : Int) + 1 ≤ 5000 := by omega
  clear cS e1 hE hsp hk hn he hb hc hW1 b1 hB1
  rw [if_neg hz] at hNE
  have hgi := dgE_in s (digZ (rn s D)) s.size D hD
  have hgE : dgA s D = dgE s (digZ (rn s D)) s.size D := rfl
  rw [hgE] at hNE
  obtain ⟨z, hzz⟩ : ∃ z, digZ (rn s D) = z := ⟨_, rfl⟩
  rw [hzz] at hNE hgi hz cD2
  obtain ⟨g, hg⟩ : ∃ g, dgE s z s.size D = g := ⟨_, rfl⟩
  have HG : Hid (dgE s z s.size D = g) := hg
  rw [hg] at hNE hgi
  obtain ⟨t, ht⟩ : ∃ t, s.extract c g = t := ⟨_, rfl⟩
  have hts : t.size ≤ maxLen := by rw [← ht, mid_size s c g hgi.2]; unfold maxLen; omega
  rw [ht] at hNE
  have cRd : Hid (∀ W, Calls Tryd.prog 60 #[.string t] W fun e w' => e = .returned (.tuple #[.int .i64 (rdA t).1, .int .i64 (rdA t).2]) ∧ Below W.heap.size W w') := fun W => refRead_any t W hts
  have cKg : Hid (∀ W, Calls Tryd.prog 32 #[.string s, .int .i64 (g : Int)] W fun x w' => x = .returned (.int .i64 ((skE s g : Nat) : Int)) ∧ Below W.heap.size W w') := fun W => skipE_any s g W hs hgi.2
  have hcg1 : (c : Int) ≤ (g : Int) := by omega
  have hcg2 : (g : Int) ≤ (s.size : Int) := by omega
  generalize rdA t = X at *
  obtain ⟨xn, xe⟩ := X
  simp only at cRd hNE
  rw [hNE] at hE0
  have HQb : Hid (xe ≠ 0 → ∀ w2, Below W1.heap.size W1 w2 → BindQ w s a (.returned (.tuple #[bdV bd0, .int .i64 (D : Int), .int .i64 10])) (set2B w2 w.heap.size (.string ⟨#[]⟩) (.int .i64 0))) := fun h w2 hb => by
    rw [if_neg h] at hE0
    refine ⟨⟨bd0, by rw [hE0], fun h => by rw [hE0] at h; exact absurd h (by simp)⟩, ?_⟩
    have := (HB1.out.trans (hb.mono hz1))
    exact (this.setCell (p := ⟨w.heap.size, 0, none⟩) (Nat.le_refl _) _).setCell (p := ⟨w.heap.size, 1, none⟩) (Nat.le_refl _) _
  have HQg : Hid (xe = 0 → ∀ w2, Below W1.heap.size W1 w2 → BindQ w s a (.returned (.tuple #[bdV (nm, xn), .int .i64 ((skE s g : Nat) : Int), .int .i64 0])) (set2B w2 w.heap.size (.string nm) (.int .i64 xn))) := fun h w2 hb => by
    rw [if_pos h] at hE0
    refine ⟨⟨(nm, xn), by rw [hE0], fun h => by rw [hE0]⟩, ?_⟩
    have := (HB1.out.trans (hb.mono hz1))
    exact (this.setCell (p := ⟨w.heap.size, 0, none⟩) (Nat.le_refl _) _).setCell (p := ⟨w.heap.size, 1, none⟩) (Nat.le_refl _) _
  have hzne : (z == 0) = false := by simp [hz]
  have HZ : Hid (z ≠ 0) := hz
  obtain ⟨sk, hsk⟩ : ∃ sk, skE s g = sk := ⟨_, rfl⟩
  rw [hsk] at cKg HQg
  clear hE0 hNE hz hg hgE hzz hsk
  generalize rn s D = r2 at *
  generalize digV r2 = dv at *
  obtain ⟨r, hr⟩ : ∃ r, rn s c = r := ⟨_, rfl⟩
  rw [hr] at cR w45 w87 w0
  clear hr
  by_cases h45 : r = 45
  case' pos =>
    obtain ⟨e1, e2⟩ := w45 h45
    rw [e1] at cW
    rw [e2] at hDD
    have hDI : (c : Int) + 1 = (D : Int) := by omega
    have t1 : (r == 45) = true := by simp [h45]
    have h63 : (c : Int) + 1 ≤ 5000 := by omega
  case' neg =>
    have t1 : (r == 45) = false := by simp [h45]
    by_cases h87 : r = 8722
    case' pos =>
      obtain ⟨e1, e2⟩ := w87 h87
      rw [e1] at cW
      rw [e2] at hDD
      have hDI : (c : Int) + 3 = (D : Int) := by omega
      have t2 : (r == 8722) = true := by simp [h87]
      have h63 : (c : Int) + 3 ≤ 5000 := by omega
    case' neg =>
      have t2 : (r == 8722) = false := by simp [h87]
      have e2 := w0 h45 h87
      rw [e2, Nat.add_zero] at hDD
      subst hDD
  all_goals
    clear w45 w87 w0
    try clear hDD
    try clear h45
    try clear h87
    go_enter Tryd.func33, Tryd.ntmps33
    go_wp2_with fail
    rw [HW.out]
    refine (CS.out _).mono ?_
    rintro e w2 ⟨rfl, b2⟩
    go_wp2_with fail
    refine (cN.out _).mono ?_
    rintro e w3 ⟨rfl, b3⟩
    go_wp2_with fail
    refine (cK.out _).mono ?_
    rintro e w4 ⟨rfl, b4⟩
    have B4 := b2.trans ((b3.trans (b4.mono b3.size)).mono b2.size)
    go_wp2_with fail
    refine (cK2.out _).mono ?_
    rintro e w5 ⟨rfl, b5⟩
    go_wp2_with fail
    refine (cR.out _).mono ?_
    rintro e w6 ⟨rfl, b6⟩
    have B6 := B4.trans ((b5.trans (b6.mono b5.size)).mono B4.size)
    clear b2 b3 b4 b5 b6 B4
    go_wp2_with fail
    try (go_at_call 37; refine (cW.out _).mono ?_; rintro e w7 ⟨rfl, b7⟩; replace B6 := B6.trans (b7.mono B6.size); clear b7; go_wp2_with fail)
    refine (cR2.out _).mono ?_
    rintro e w8 ⟨rfl, b8⟩
    have B8 := B6.trans (b8.mono B6.size)
    go_wp2_with fail
    refine (cD2.out _).mono ?_
    rintro e w9 ⟨rfl, hw9⟩
    obtain rfl := hw9.symm
    have HB8 : Hid (Below W1.heap.size W1 w8) := B8
    clear B6 b8 B8
    go_wp2_with fail
    go_loopw [1] (fun i wr => ∃ p f : Nat, i = .int .i64 (p : Int) ∧ p ≤ s.size ∧ s.size ≤ p + f ∧ Hid (dgE s z f p = g) ∧ Below W1.heap.size W1 wr) (fun i _ => s.size - (RowKit.intOf i).toNat)
    case atStart => exact ⟨_, s.size, rfl, by omega, by omega, HG.out, HB8.out⟩
    case round =>
      obtain ⟨p, f, rfl, hp, hf, HN, hB⟩ := hrel
      have HBr : Hid (Below W1.heap.size W1 wr) := hB
      clear hB
      by_cases hlt : p < s.size ∧ digZ (Utf8.decode s p).1 = z
      · obtain ⟨f, rfl⟩ : ∃ g, f = g + 1 := ⟨f - 1, by omega⟩
        obtain ⟨hlt, hdz⟩ := hlt
        have hw := width_pos s p hlt
        have hw2 := dec_le s p hlt
        have hpi : (p : Int) < (s.size : Int) := by omega
        have lR : Hid (∀ W, Calls Tryd.prog 34 #[.string s, .int .i64 (p : Int)] W fun e w' => e = .returned (.int .i32 (rn s p)) ∧ Below W.heap.size W w') := fun W => refRune_any s p W hs0 hp
        have lD : Hid (∀ W, Calls Tryd.prog 59 #[.int .i32 (rn s p)] W fun e w' => e = .returned (.tuple #[.int .i64 (digV (rn s p)), .int .i32 z]) ∧ w' = W) := fun W => by
          have := digit_any (rn s p) W
          rw [digZ_rn s p hlt, hdz] at this; exact this
        have lW : Hid (∀ W, Calls Tryd.prog 37 #[.string s, .int .i64 (p : Int)] W fun e w' => e = .returned (.int .i64 ((Utf8.decode s p).2 : Nat)) ∧ Below W.heap.size W w') := fun W => by
          rw [← wd_dig hlt (by rw [hdz]; exact HZ.out)]; exact refWidth_any s p W hs0
        have HX : Hid (dgE s z f (p + (Utf8.decode s p).2) = g) := by show _ = g; rw [← HN.out, dgE_on s z f p hlt hdz]
        generalize digV (rn s p) = dp at *
        generalize rn s p = rp at *
        generalize (Utf8.decode s p).2 = v at *
        clear hdz
        have h63p : (p : Int) + v ≤ 4096 := by omega
        go_wp2_with (first | (go_at_call 37; refine (lW.out _).mono ?_; rintro e x4 ⟨rfl, y4⟩) | (go_at_call 59; refine (lD.out _).mono ?_; rintro e x3 ⟨rfl, hx3⟩; obtain rfl := hx3.symm) | (go_at_call 34; refine (lR.out _).mono ?_; rintro e x2 ⟨rfl, y2⟩))
        refine ⟨⟨p + v, f, by go_num, by omega, by omega, HX.out, HBr.out.trans ((y2.trans (y4.mono y2.size)).mono HBr.out.size)⟩, ?_⟩
        simp [RowKit.intOf]; omega
      · have hpg : p = g := by
          rw [← HN.out]
          by_cases h1 : p < s.size
          · rw [dgE_off s z f p (fun h => hlt ⟨h1, h⟩)]
          · rw [dgE_end s z f p h1]
        have hz2 : p < s.size → (digZ (rn s p) == z) = false := fun h => by rw [digZ_rn s p h]; simp; exact fun hh => hlt ⟨h, hh⟩
        have lR : Hid (∀ W, Calls Tryd.prog 34 #[.string s, .int .i64 (p : Int)] W fun e w' => e = .returned (.int .i32 (rn s p)) ∧ Below W.heap.size W w') := fun W => refRune_any s p W hs0 hp
        have lD : Hid (∀ W, Calls Tryd.prog 59 #[.int .i32 (rn s p)] W fun e w' => e = .returned (.tuple #[.int .i64 (digV (rn s p)), .int .i32 (digZ (rn s p))]) ∧ w' = W) := fun W => digit_any (rn s p) W
        subst hpg
        clear hlt HN
        have fin : ∀ (B : World), Below W1.heap.size W1 B → True := fun _ _ => trivial
        by_cases hps : p < s.size
        case' pos =>
          have hpi : (p : Int) < (s.size : Int) := by omega
          have hz3 := hz2 hps
          have hz4 : (digZ (rn s p) != z) = true := by simp at hz3; simp [hz3]
          clear hz2 hz3
          generalize digZ (rn s p) = zp at *
          generalize digV (rn s p) = dp at *
          generalize rn s p = rp at *
          go_wp2_with fail
          refine (lR.out _).mono ?_
          rintro e x2 ⟨rfl, y2⟩
          go_wp2_with fail
          refine (lD.out _).mono ?_
          rintro e x3 ⟨rfl, hx3⟩
          obtain rfl := hx3.symm
          have HBx : Hid (Below W1.heap.size W1 x2) := HBr.out.trans (y2.mono HBr.out.size)
          clear y2
          go_wp2_with fail
        case' neg =>
          have hpi : ¬ (p : Int) < (s.size : Int) := by omega
          clear hz2
          obtain ⟨x2, hx2⟩ : ∃ x2, x2 = wr := ⟨_, rfl⟩
          subst hx2
          have HBx := HBr
          go_wp2_with fail
        all_goals
          refine (cRd.out _).mono ?_
          rintro e x5 ⟨rfl, y5⟩
          have B5 := HBx.out.trans (y5.mono HBx.out.size)
          by_cases hx0 : xe = 0
          · have hx1 : (xe != 0) = false := by simp [hx0]
            have HX0 : Hid (xe = 0) := hx0
            clear hx0
            go_wp2_with fail
            refine (cKg.out _).mono ?_
            rintro e x6 ⟨rfl, y6⟩
            have B6 := B5.trans (y6.mono B5.size)
            have hr2 := HK.out x6 B6
            have q0 : x6.cell? ⟨w.heap.size, 0, none⟩ = some (.string ⟨#[]⟩) := by simp [World.cell?, hr2]
            have q1 : x6.cell? ⟨w.heap.size, 1, none⟩ = some (.int .i64 0) := by simp [World.cell?, hr2]
            have f0 : x6.frozen? ⟨w.heap.size, 0, none⟩ = false := by simp [World.frozen?, hr2]
            have f1 : x6.frozen? ⟨w.heap.size, 1, none⟩ = false := by simp [World.frozen?, hr2]
            have hr4 := set2B_blk (v0 := .string nm) (v1 := .int .i64 xn) hr2
            have HQ2 := HQg.out HX0.out x6 B6
            go_wp2_with fail
            show bodyPost _ _ _ _ _ (set2B x6 w.heap.size (.string nm) (.int .i64 xn))
            generalize set2B x6 w.heap.size (.string nm) (.int .i64 xn) = w10 at *
            refine bodyPost_ret (v := .tuple #[bdV (nm, xn), .int .i64 (sk : Int), .int .i64 0]) ?_ rfl HQ2
            simp [results, Tryd.f33, go_sem, World.cell?, hr4]
          · have hx1 : (xe != 0) = true := by simp [hx0]
            have HX0 : Hid (xe ≠ 0) := hx0
            clear hx0
            have hr2 := HK.out x5 B5
            have q0 : x5.cell? ⟨w.heap.size, 0, none⟩ = some (.string ⟨#[]⟩) := by simp [World.cell?, hr2]
            have q1 : x5.cell? ⟨w.heap.size, 1, none⟩ = some (.int .i64 0) := by simp [World.cell?, hr2]
            have f0 : x5.frozen? ⟨w.heap.size, 0, none⟩ = false := by simp [World.frozen?, hr2]
            have f1 : x5.frozen? ⟨w.heap.size, 1, none⟩ = false := by simp [World.frozen?, hr2]
            have hr4 := set2B_blk (v0 := .string ⟨#[]⟩) (v1 := .int .i64 0) hr2
            have HQ2 := HQb.out HX0.out x5 B5
            go_wp2_with fail
            show bodyPost _ _ _ _ _ (set2B x5 w.heap.size (.string ⟨#[]⟩) (.int .i64 0))
            generalize set2B x5 w.heap.size (.string ⟨#[]⟩) (.int .i64 0) = w10 at *
            refine bodyPost_ret (v := _) ?_ rfl HQ2
            simp [results, Tryd.f33, go_sem, World.cell?, hr4, bd0]
end Go.Proofs.YtpdohdmpjaklgaaDoor
