/-
  The document's reader of environments, walked: skip, bind.
-/
import Derived.Test.YtpdohdmpjaklgaaDoorEvRsW
set_option linter.unusedSimpArgs false
set_option linter.unusedVariables false
namespace Go.Proofs.YtpdohdmpjaklgaaDoor
open Go.RowKit Go.Lib Go.Sort

theorem wd_blank {s : ByteArray} {p : Nat} (hp : p < s.size) (h : kd (Utf8.decode s p).1 = 3) : wdE s p = (Utf8.decode s p).2 := by
  unfold wdE wd
  rw [if_pos hp]
  cases hb : bad s p
  · rfl
  · rw [bad_eq hb] at h
    exact absurd h (by decide)
theorem wd_dig {s : ByteArray} {p : Nat} (hp : p < s.size) (h : digZ (Utf8.decode s p).1 ≠ 0) : wdE s p = (Utf8.decode s p).2 := by
  unfold wdE wd
  rw [if_pos hp, dig_good s p h]
  rfl

set_option maxRecDepth 100000 in
set_option maxHeartbeats 2000000 in
theorem skipE_any (s : ByteArray) (a : Nat) (w : World) (hs : s.size ≤ 4096) (ha : a ≤ s.size) :
    Calls Tryd.prog 32 #[.string s, .int .i64 (a : Int)] w fun x w' => x = .returned (.int .i64 ((skE s a : Nat) : Int)) ∧ Below w.heap.size w w' := by
  have hs0 : s.size ≤ maxLen := by unfold maxLen; omega
  obtain ⟨T, hTT⟩ : ∃ T, skE s a = T := ⟨_, rfl⟩
  have HT0 : Hid (psSkip s s.size a = T) := hTT
  rw [hTT]
  clear hTT
  go_enter Tryd.func32, Tryd.ntmps32
  go_wp2_with fail
  go_loopw [1] (fun i wr => ∃ p f : Nat, i = .int .i64 (p : Int) ∧ p ≤ s.size ∧ s.size ≤ p + f ∧ Hid (psSkip s f p = T) ∧ Below w.heap.size w wr) (fun i _ => s.size - (RowKit.intOf i).toNat)
  case atStart => exact ⟨a, s.size, rfl, ha, by omega, HT0.out, Below.refl _ _⟩
  case round =>
    obtain ⟨p, f, rfl, hp, hf, HN, hB⟩ := hrel
    by_cases hlt : p < s.size
    · obtain ⟨f, rfl⟩ : ∃ g, f = g + 1 := ⟨f - 1, by omega⟩
      have hw := width_pos s p hlt
      have hw2 := dec_le s p hlt
      have hpi : (p : Int) < (s.size : Int) := by omega
      have cR : Hid (∀ W, Calls Tryd.prog 34 #[.string s, .int .i64 (p : Int)] W fun e w' => e = .returned (.int .i32 (rn s p)) ∧ Below W.heap.size W w') := fun W => refRune_any s p W hs0 hp
      have cK : Hid (∀ W, Calls Tryd.prog 35 #[.int .i32 (rn s p)] W fun e w' => e = .returned (.int .i64 (kd (Utf8.decode s p).1)) ∧ Below W.heap.size W w') := fun W => by rw [← kd_rn s p hlt]; exact refKind_kd _ W
      have hon := skip_on s f p hlt
      have hoff := skip_off s (f + 1) p hlt
      have HB : Hid (Below w.heap.size w wr) := hB
      clear hB
      by_cases hk : kd (Utf8.decode s p).1 = 3
      · have HX : Hid (psSkip s f (p + (Utf8.decode s p).2) = T) := by show _ = T; rw [← HN.out, hon hk]
        have cW : Hid (∀ W, Calls Tryd.prog 37 #[.string s, .int .i64 (p : Int)] W fun e w' => e = .returned (.int .i64 ((Utf8.decode s p).2 : Nat)) ∧ Below W.heap.size W w') := fun W => by rw [← wd_blank hlt hk]; exact refWidth_any s p W hs0
        rw [hk] at cK
        generalize rn s p = rr at *
        generalize (Utf8.decode s p).2 = v at *
        clear hk hon hoff
        have h63 : (p : Int) + v ≤ 4096 := by omega
        go_wp2_with (first | (go_at_call 37; refine (cW.out _).mono ?_; rintro e w4 ⟨rfl, b4⟩) | (go_at_call 35; refine (cK.out _).mono ?_; rintro e w3 ⟨rfl, b3⟩) | (go_at_call 34; refine (cR.out _).mono ?_; rintro e w2 ⟨rfl, b2⟩))
        refine ⟨⟨p + v, f, by go_num, by omega, by omega, HX.out, HB.out.trans ((b2.trans ((b3.trans (b4.mono b3.size)).mono b2.size)).mono HB.out.size)⟩, ?_⟩
        simp [RowKit.intOf]; omega
      · have HX : Hid (p = T) := by show _ = T; rw [← HN.out, hoff hk]
        have gk : (kd (Utf8.decode s p).1 == 3) = false := by simp [hk]
        generalize kd (Utf8.decode s p).1 = kk at *
        generalize rn s p = rr at *
        clear hk hon hoff
        go_wp2_with (first | (go_at_call 35; refine (cK.out _).mono ?_; rintro e w3 ⟨rfl, b3⟩) | (go_at_call 34; refine (cR.out _).mono ?_; rintro e w2 ⟨rfl, b2⟩))
        go_ret
        exact ⟨by rw [← HX.out]; rfl, HB.out.trans ((b2.trans (b3.mono b2.size)).mono HB.out.size)⟩
    · have HX : Hid (p = T) := by show _ = T; rw [← HN.out, skip_end s f p hlt]
      have hpi : ¬ (p : Int) < (s.size : Int) := by omega
      go_wp2_with fail
      go_ret
      exact ⟨by rw [← HX.out]; rfl, hB⟩

theorem by_get (s : ByteArray) (b : Nat) (h : b < s.size) (c : UInt8) : byB s b c = decide (((s[b]'h).toNat : Int) = (c.toNat : Int)) := by
  unfold byB
  rw [decide_eq_true h, Bool.true_and]
  have e : s.get! b = s[b]'h := Utf8W.get!_of_lt s b h
  rw [e]
  by_cases hc : s[b]'h = c
  · simp [hc]
  · rw [decide_eq_false]
    · simpa using hc
    · intro hh
      exact hc (UInt8.toNat_inj.1 (by omega))
theorem mwd_w (s : ByteArray) (c : Nat) (hc : c ≤ s.size) : (rn s c = 45 → wdE s c = 1 ∧ mwd s c = 1) ∧ (rn s c = 8722 → wdE s c = 3 ∧ mwd s c = 3) ∧ (rn s c ≠ 45 → rn s c ≠ 8722 → mwd s c = 0) := by
  obtain ⟨_, h45, h87⟩ := mwd_in s c hc
  refine ⟨fun h => ?_, fun h => ?_, fun h1 h2 => ?_⟩
  · obtain ⟨e, hb, hp⟩ := h45 h
    exact ⟨by unfold wdE wd; rw [if_pos hp, hb, e]; rfl, by unfold mwd; rw [if_pos h]⟩
  · obtain ⟨e, hb, hp⟩ := h87 h
    exact ⟨by unfold wdE wd; rw [if_pos hp, hb, e]; rfl, by unfold mwd; rw [if_neg (by rw [h]; decide), if_pos h]⟩
  · unfold mwd; rw [if_neg h1, if_neg h2]

/-- What bind leaves. -/
def BindQ (w : World) (s : ByteArray) (a : Nat) (x : Ending) (w' : World) : Prop :=
  (∃ y : Bd, x = .returned (.tuple #[bdV y, .int .i64 ((bindP s a).2.1 : Int), .int .i64 (bindP s a).2.2]) ∧ ((bindP s a).2.2 = 0 → y = (bindP s a).1)) ∧ Below w.heap.size w w'

set_option maxRecDepth 100000 in
set_option maxHeartbeats 8000000 in
theorem bindQ_early (s : ByteArray) (a : Nat) (w : World) (hs : s.size ≤ 4096) (ha : a ≤ s.size) (hX : kd (rn s a) ≠ 1 ∨ nameB (s.extract a (spF s s.size a)) = false ∨ byB s (skE s (spF s s.size a)) 61 = false) :
    Calls Tryd.prog 33 #[.string s, .int .i64 (a : Int)] w (BindQ w s a) := by
  have hs0 : s.size ≤ maxLen := by unfold maxLen; omega
  obtain ⟨W1, hW1⟩ : ∃ W1, w.alloc (.cells #[.string ⟨#[]⟩, .int .i64 0] 38) = W1 := ⟨_, rfl⟩
  have b1 : Below w.heap.size w W1 := by rw [← hW1]; exact (Below.refl _ _).alloc (Nat.le_refl _) _
  have hB1 : W1.heap[w.heap.size]? = some (.cells #[.string ⟨#[]⟩, .int .i64 0] 38 (0, 0)) := by rw [← hW1]; exact heap_alloc_new w _
  have hlt1 : w.heap.size < W1.heap.size := lt_of_block hB1
  have HW : Hid (w.alloc (.cells #[.string ⟨#[]⟩, .int .i64 0] 38) = W1) := hW1
  have HK : Hid (∀ W, Below W1.heap.size W1 W → W.heap[w.heap.size]? = some (.cells #[.string ⟨#[]⟩, .int .i64 0] 38 (0, 0))) := fun W hg => (hg.block _ hlt1).trans hB1
  have HB1 : Hid (Below w.heap.size w W1) := b1
  have hz1 : w.heap.size ≤ W1.heap.size := by omega
  clear hW1 b1 hB1
  have hsp : spanI s (a : Int) = spanP s a := by unfold spanI; rw [if_neg (by omega), Int.toNat_natCast]
  have cS : ∀ W, Calls Tryd.prog 58 #[.string s, .int .i64 (a : Int)] W fun e w' => e = .returned (.tuple #[.int .i64 (spanP s a).1, .int .i64 (spanP s a).2]) ∧ Below W.heap.size W w' := fun W => by rw [← hsp]; exact refSpan_any s a W hs0
  have fin : ∀ (w2 : World) (p : Nat) (er : Int), Below W1.heap.size W1 w2 → bindP s a = (bd0, p, er) → er ≠ 0 → BindQ w s a (.returned (.tuple #[bdV bd0, .int .i64 (p : Int), .int .i64 er])) (set2B w2 w.heap.size (.string ⟨#[]⟩) (.int .i64 0)) := fun w2 p er hb he h0 => by
    refine ⟨⟨bd0, by rw [he], fun h => by rw [he] at h; exact absurd h h0⟩, ?_⟩
    have := (HB1.out.trans (hb.mono hz1))
    exact (this.setCell (p := ⟨w.heap.size, 0, none⟩) (Nat.le_refl _) _).setCell (p := ⟨w.heap.size, 1, none⟩) (Nat.le_refl _) _
  have HF : Hid (∀ (w2 : World) (p : Nat) (er : Int), Below W1.heap.size W1 w2 → bindP s a = (bd0, p, er) → er ≠ 0 → BindQ w s a (.returned (.tuple #[bdV bd0, .int .i64 (p : Int), .int .i64 er])) (set2B w2 w.heap.size (.string ⟨#[]⟩) (.int .i64 0))) := fin
  clear fin hsp
  have hE0 : bindP s a = if kd (rn s a) = 1 then
    (if nameB (s.extract a (spF s s.size a)) = false then (bd0, a, 7)
    else if byB s (skE s (spF s s.size a)) 61 = false then (bd0, skE s (spF s s.size a), 6)
    else ((s.extract a (spF s s.size a), (numE s (skE s (skE s (spF s s.size a) + 1))).1), (numE s (skE s (skE s (spF s s.size a) + 1))).2))
  else (bd0, a, 6) := rfl
  by_cases hk : kd (rn s a) = 1
  · rw [if_pos hk] at hE0
    have e1 : spanP s a = (((spF s s.size a : Nat) : Int), 0) := by unfold spanP; rw [if_pos hk]
    rw [e1] at cS
    have hle := spF_le s s.size a ha
    obtain ⟨E, hE⟩ : ∃ E, spF s s.size a = E := ⟨_, rfl⟩
    rw [hE] at cS hle hE0 hX
    have hsE1 : (a : Int) ≤ (E : Int) := by omega
    have hsE2 : (E : Int) ≤ (s.size : Int) := by omega
    obtain ⟨nm, hnm⟩ : ∃ nm, s.extract a E = nm := ⟨_, rfl⟩
    rw [hnm] at hE0 hX
    have hnz : nm.size ≤ maxLen := by rw [← hnm, mid_size s a E hle.2]; unfold maxLen; omega
    have cN : Hid (∀ W, Calls Tryd.prog 19 #[.string nm] W fun e w' => e = .returned (.bool (nameB nm)) ∧ Below W.heap.size W w') := fun W => refName_any nm W hnz
    have CS : Hid (∀ W, Calls Tryd.prog 58 #[.string s, .int .i64 (a : Int)] W fun e w' => e = .returned (.tuple #[.int .i64 (E : Int), .int .i64 0]) ∧ Below W.heap.size W w') := cS
    clear cS e1 hE
    cases hn : nameB nm
    · rw [hn, if_pos rfl] at hE0
      rw [hn] at cN
      have HE : Hid (bindP s a = (bd0, a, 7)) := hE0
      clear hE0 hn hk hX
      go_enter Tryd.func33, Tryd.ntmps33
      go_wp2_with fail
      rw [HW.out]
      refine (CS.out _).mono ?_
      rintro e w2 ⟨rfl, b2⟩
      go_wp2_with fail
      refine (cN.out _).mono ?_
      rintro e w3 ⟨rfl, b3⟩
      have b13 := b2.trans (b3.mono b2.size)
      have hr2 := HK.out w3 b13
      have q0 : w3.cell? ⟨w.heap.size, 0, none⟩ = some (.string ⟨#[]⟩) := by simp [World.cell?, hr2]
      have q1 : w3.cell? ⟨w.heap.size, 1, none⟩ = some (.int .i64 0) := by simp [World.cell?, hr2]
      have f0 : w3.frozen? ⟨w.heap.size, 0, none⟩ = false := by simp [World.frozen?, hr2]
      have f1 : w3.frozen? ⟨w.heap.size, 1, none⟩ = false := by simp [World.frozen?, hr2]
      have hr4 := set2B_blk (v0 := .string ⟨#[]⟩) (v1 := .int .i64 0) hr2
      have HQ := HF.out w3 a 7 b13 HE.out (by decide)
      go_wp2_with fail
      show bodyPost _ _ _ _ _ (set2B w3 w.heap.size (.string ⟨#[]⟩) (.int .i64 0))
      generalize set2B w3 w.heap.size (.string ⟨#[]⟩) (.int .i64 0) = w4 at *
      refine bodyPost_ret (v := .tuple #[bdV bd0, .int .i64 (a : Int), .int .i64 7]) ?_ rfl HQ
      simp [results, Tryd.f33, go_sem, World.cell?, hr4, bd0]
    · rw [hn, if_neg (by simp)] at hE0
      rw [hn] at cN
      have hX' : byB s (skE s E) 61 = false := by
        rcases hX with h | h | h
        · exact absurd hk h
        · rw [hn] at h; cases h
        · exact h
      rw [hX', if_pos rfl] at hE0
      have cK : Hid (∀ W, Calls Tryd.prog 32 #[.string s, .int .i64 (E : Int)] W fun x w' => x = .returned (.int .i64 ((skE s E : Nat) : Int)) ∧ Below W.heap.size W w') := fun W => skipE_any s E W hs hle.2
      have hbi := (skE_in hle.2).2
      obtain ⟨b, hb⟩ : ∃ b, skE s E = b := ⟨_, rfl⟩
      rw [hb] at cK hbi hX' hE0
      have HE : Hid (bindP s a = (bd0, b, 6)) := hE0
      clear hE0 hn hk hX
      by_cases hbe : b < s.size
      · have hbI : (b : Int) < (s.size : Int) := by omega
        rw [by_get s b hbe 61] at hX'
        obtain ⟨V, hV⟩ : ∃ V : Int, ((s[b]'hbe).toNat : Int) = V := ⟨_, rfl⟩
        rw [hV] at hX'
        have hV61 : (V != 61) = true := by
          have : ¬ V = 61 := by simpa using hX'
          simp [this]
        clear hX'
        go_enter Tryd.func33, Tryd.ntmps33
        go_wp2_with fail
        rw [HW.out]
        refine (CS.out _).mono ?_
        rintro e w2 ⟨rfl, b2⟩
        go_wp2_with fail
        refine (cN.out _).mono ?_
        rintro e w3 ⟨rfl, b3⟩
        go_wp2_with fail
        refine (cK.out _).mono ?_
        rintro e w5 ⟨rfl, b5⟩
        have b13 := b2.trans ((b3.trans (b5.mono b3.size)).mono b2.size)
        have hr2 := HK.out w5 b13
        have q0 : w5.cell? ⟨w.heap.size, 0, none⟩ = some (.string ⟨#[]⟩) := by simp [World.cell?, hr2]
        have q1 : w5.cell? ⟨w.heap.size, 1, none⟩ = some (.int .i64 0) := by simp [World.cell?, hr2]
        have f0 : w5.frozen? ⟨w.heap.size, 0, none⟩ = false := by simp [World.frozen?, hr2]
        have f1 : w5.frozen? ⟨w.heap.size, 1, none⟩ = false := by simp [World.frozen?, hr2]
        have hr4 := set2B_blk (v0 := .string ⟨#[]⟩) (v1 := .int .i64 0) hr2
        have HQ := HF.out w5 b 6 b13 HE.out (by decide)
        go_wp2_with fail
        show bodyPost _ _ _ _ _ (set2B w5 w.heap.size (.string ⟨#[]⟩) (.int .i64 0))
        generalize set2B w5 w.heap.size (.string ⟨#[]⟩) (.int .i64 0) = w4 at *
        refine bodyPost_ret (v := .tuple #[bdV bd0, .int .i64 (b : Int), .int .i64 6]) ?_ rfl HQ
        simp [results, Tryd.f33, go_sem, World.cell?, hr4, bd0]
      · have hbI : (s.size : Int) ≤ (b : Int) := by omega
        clear hX'
        go_enter Tryd.func33, Tryd.ntmps33
        go_wp2_with fail
        rw [HW.out]
        refine (CS.out _).mono ?_
        rintro e w2 ⟨rfl, b2⟩
        go_wp2_with fail
        refine (cN.out _).mono ?_
        rintro e w3 ⟨rfl, b3⟩
        go_wp2_with fail
        refine (cK.out _).mono ?_
        rintro e w5 ⟨rfl, b5⟩
        have b13 := b2.trans ((b3.trans (b5.mono b3.size)).mono b2.size)
        have hr2 := HK.out w5 b13
        have q0 : w5.cell? ⟨w.heap.size, 0, none⟩ = some (.string ⟨#[]⟩) := by simp [World.cell?, hr2]
        have q1 : w5.cell? ⟨w.heap.size, 1, none⟩ = some (.int .i64 0) := by simp [World.cell?, hr2]
        have f0 : w5.frozen? ⟨w.heap.size, 0, none⟩ = false := by simp [World.frozen?, hr2]
        have f1 : w5.frozen? ⟨w.heap.size, 1, none⟩ = false := by simp [World.frozen?, hr2]
        have hr4 := set2B_blk (v0 := .string ⟨#[]⟩) (v1 := .int .i64 0) hr2
        have HQ := HF.out w5 b 6 b13 HE.out (by decide)
        go_wp2_with fail
        show bodyPost _ _ _ _ _ (set2B w5 w.heap.size (.string ⟨#[]⟩) (.int .i64 0))
        generalize set2B w5 w.heap.size (.string ⟨#[]⟩) (.int .i64 0) = w4 at *
        refine bodyPost_ret (v := .tuple #[bdV bd0, .int .i64 (b : Int), .int .i64 6]) ?_ rfl HQ
        simp [results, Tryd.f33, go_sem, World.cell?, hr4, bd0]
  · rw [if_neg hk] at hE0
    have e1 : spanP s a = (0, 11) := by unfold spanP; rw [if_neg hk]
    rw [e1] at cS
    have HE : Hid (bindP s a = (bd0, a, 6)) := hE0
    have CS : Hid (∀ W, Calls Tryd.prog 58 #[.string s, .int .i64 (a : Int)] W fun e w' => e = .returned (.tuple #[.int .i64 0, .int .i64 11]) ∧ Below W.heap.size W w') := cS
    clear cS e1 hE0 hk hX
    go_enter Tryd.func33, Tryd.ntmps33
    go_wp2_with fail
    rw [HW.out]
    refine (CS.out _).mono ?_
    rintro e w2 ⟨rfl, b2⟩
    have hr2 := HK.out w2 b2
    have q0 : w2.cell? ⟨w.heap.size, 0, none⟩ = some (.string ⟨#[]⟩) := by simp [World.cell?, hr2]
    have q1 : w2.cell? ⟨w.heap.size, 1, none⟩ = some (.int .i64 0) := by simp [World.cell?, hr2]
    have f0 : w2.frozen? ⟨w.heap.size, 0, none⟩ = false := by simp [World.frozen?, hr2]
    have f1 : w2.frozen? ⟨w.heap.size, 1, none⟩ = false := by simp [World.frozen?, hr2]
    have hr4 := set2B_blk (v0 := .string ⟨#[]⟩) (v1 := .int .i64 0) hr2
    have HQ := HF.out w2 a 6 b2 HE.out (by decide)
    go_wp2_with fail
    show bodyPost _ _ _ _ _ (set2B w2 w.heap.size (.string ⟨#[]⟩) (.int .i64 0))
    generalize set2B w2 w.heap.size (.string ⟨#[]⟩) (.int .i64 0) = w4 at *
    refine bodyPost_ret (v := .tuple #[bdV bd0, .int .i64 (a : Int), .int .i64 6]) ?_ rfl HQ
    simp [results, Tryd.f33, go_sem, World.cell?, hr4, bd0]
end Go.Proofs.YtpdohdmpjaklgaaDoor
