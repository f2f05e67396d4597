/-
  The document's Value and Read, walked.
-/
import Derived.Test.YtpdohdmpjaklgaaDoorMArRdP
import Derived.Test.YtpdohdmpjaklgaaDoorMRefStr
import Derived.Test.YtpdohdmpjaklgaaDoorMArRf
set_option linter.unusedSimpArgs false
set_option linter.unusedVariables false
namespace Go.Proofs.YtpdohdmpjaklgaaDoor
open Go.RowKit Go.Lib

theorem retUBB {a b : Int} {c d e f : Bool} (h : a = b) (h' : c = d) (h'' : e = f) : Ending.returned (.tuple #[.int .u64 a, .bool c, .bool e]) = .returned (.tuple #[.int .u64 b, .bool d, .bool f]) := by rw [h, h', h'']

theorem oneF_fuel (s : ByteArray) (z : Int) : ∀ (f g p : Nat), s.size ≤ p + f → s.size ≤ p + g → oneF s z f p = oneF s z g p := by
  intro f
  induction f with
  | zero => intro g p h1 h2; rw [oneF_end s z 0 p (by omega), oneF_end s z g p (by omega)]
  | succ f ih =>
    intro g p h1 h2
    by_cases hp : p < s.size
    · obtain ⟨g, rfl⟩ : ∃ k, g = k + 1 := ⟨g - 1, by omega⟩
      have hw := width_pos s p hp
      by_cases hz : digZ (Utf8.decode s p).1 = z
      · rw [oneF_on s z f p hp hz, oneF_on s z g p hp hz]; exact ih g _ (by omega) (by omega)
      · rw [oneF_off s z f p hp hz, oneF_off s z g p hp hz]
    · rw [oneF_end s z _ p hp, oneF_end s z _ p hp]

/-- Between two digits. -/
structure VaInv (w : World) (s : ByteArray) (R : Bool) (V : Nat) (z : Int) (vn vl va : Value) (wr : World) : Prop where
  ex : ∃ (pos f e n : Nat) (lg : Bool), vn = .int .u64 (n : Int) ∧ vl = .bool lg ∧ va = .int .i64 (pos : Int) ∧ Below w.heap.size w wr ∧ pos ≤ s.size ∧ s.size ≤ pos + f ∧ R = oneF s z f pos ∧ V = vaF s f pos e ∧ n < 18446744073709551616 ∧ (lg = false → n = e ∧ n ≤ 10000000000000000009) ∧ (lg = true → 10000000000000000000 ≤ e)

/-- One digit more. -/
theorem va_step {n e d : Nat} {lg : Bool} (hd : d ≤ 9) (h1 : n < 18446744073709551616) (h2 : lg = false → n = e ∧ n ≤ 10000000000000000009) (h3 : lg = true → 10000000000000000000 ≤ e) :
    ∃ n' : Nat, IntKind.u64.wrap (IntKind.u64.wrap (10 * (n : Int)) + (d : Int)) = (n' : Int) ∧ n' < 18446744073709551616 ∧ (1000000000000000000 < n → 10000000000000000000 ≤ e * 10 + d) ∧ (lg = true → 10000000000000000000 ≤ e * 10 + d) ∧ (lg = false → ¬ 1000000000000000000 < n → n' = e * 10 + d ∧ n' ≤ 10000000000000000009) ∧ (¬ 1000000000000000000 < n → n' = 10 * n + d) := by
  refine ⟨((10 * n) % 18446744073709551616 + d) % 18446744073709551616, ?_, Nat.mod_lt _ (by omega), ?_, ?_, ?_, ?_⟩
  · simp only [IntKind.wrap_u64]; omega
  · intro h
    cases lg
    · have := h2 rfl; omega
    · have := h3 rfl; omega
  · intro h; have := h3 h; omega
  · intro h hn
    have := h2 h
    have e1 : 10 * n % 18446744073709551616 = 10 * n := Nat.mod_eq_of_lt (by omega)
    rw [e1, Nat.mod_eq_of_lt (by omega)]
    omega
  · intro hn
    have e1 : 10 * n % 18446744073709551616 = 10 * n := Nat.mod_eq_of_lt (by omega)
    rw [e1, Nat.mod_eq_of_lt (by omega)]

set_option maxRecDepth 100000 in
set_option maxHeartbeats 4000000 in
theorem value_any (s : ByteArray) (w : World) (hs : s.size ≤ maxLen) :
    Calls Tryd.prog 73 #[.string s] w fun e w' => ∃ (n : Nat) (lg : Bool), e = .returned (.tuple #[.int .u64 (n : Int), .bool lg, .bool (one s)]) ∧ n < 18446744073709551616 ∧ (one s = true → (lg = false → n = vaA s) ∧ (lg = true → 10000000000000000000 ≤ vaA s)) ∧ Below w.heap.size w w' := by
  have hs' := hs
  unfold maxLen at hs'
  have c1 : Hid (∀ W, Calls Tryd.prog 34 #[.string s, .int .i64 0] W fun e w' => e = .returned (.int .i32 (rn s 0)) ∧ Below W.heap.size W w') := fun W => refRune_any s 0 W hs (by omega)
  have c2 : Hid (∀ W, Calls Tryd.prog 59 #[.int .i32 (rn s 0)] W fun e w' => e = .returned (.tuple #[.int .i64 (digV (rn s 0)), .int .i32 (digZ (rn s 0))]) ∧ w' = W) := digit_any _
  by_cases hz : digZ (rn s 0) = 0
  · have hf : one s = false := by
      unfold one
      by_cases h0 : 0 < s.size
      · rw [digZ_rn s 0 h0] at hz
        have : sc0 s = 0 := hz
        rw [this]; simp
      · have : s.size = 0 := by omega
        simp [this]
    rw [hf]
    rw [hz] at c2
    generalize digV (rn s 0) = dv at *
    generalize rn s 0 = r at *
    clear hf hz
    go_enter Tryd.func73, Tryd.ntmps73
    go_wp2_with (first | (go_at_call 34; refine (c1.out _).mono ?_; rintro e w2 ⟨rfl, hb2⟩) | (go_at_call 59; refine (c2.out _).mono ?_; rintro e w3 ⟨rfl, hw⟩; obtain rfl := hw.symm))
    go_ret3
    exact ⟨0, false, rfl, by omega, (fun h => by cases h), hb2⟩
  · have h0 : 0 < s.size := Decidable.byContradiction fun c => hz (by unfold rn; rw [if_neg c]; decide)
    have hz2 : digZ (rn s 0) = sc0 s := digZ_rn s 0 h0
    have H0 : Hid (one s = oneF s (sc0 s) s.size 0) := by
      show one s = _
      unfold one
      rw [decide_eq_true (by omega), decide_eq_true (by rw [← hz2]; exact hz), Bool.true_and, Bool.true_and]
    have H1 : Hid (vaA s = vaF s s.size 0 0) := rfl
    rw [hz2] at c2 hz
    generalize one s = R at *
    generalize vaA s = V at *
    generalize digV (rn s 0) = dv at *
    generalize sc0 s = z at *
    generalize rn s 0 = r0 at *
    have hz' : (z == 0) = false := by rw [beq_eq_false_iff_ne]; exact hz
    have HZ : Hid (z ≠ 0) := hz
    clear hz2 hz
    go_enter Tryd.func73, Tryd.ntmps73
    go_wp2_with (first | (go_at_call 34; refine (c1.out _).mono ?_; rintro e w2 ⟨rfl, hb2⟩) | (go_at_call 59; refine (c2.out _).mono ?_; rintro e w3 ⟨rfl, hw⟩; obtain rfl := hw.symm))
    clear c1 c2
    go_loopw [2, 3, 7] (fun vn vl va wr => VaInv w s R V z vn vl va wr) (fun _ _ va _ => s.size + 1 - iOf va)
    case atStart => exact ⟨0, s.size, 0, 0, false, rfl, rfl, rfl, hb2, by omega, by omega, H0.out, H1.out, by omega, fun _ => ⟨rfl, by omega⟩, (fun h => by cases h)⟩
    case round =>
      obtain ⟨⟨pos, f, e, n, lg, rfl, rfl, rfl, hb, hp1, hf, hR, hV, hn, hl1, hl2⟩⟩ := hrel
      by_cases hp : pos < s.size
      · obtain ⟨f, rfl⟩ : ∃ g, f = g + 1 := ⟨f - 1, by omega⟩
        have hw := width_pos s pos hp
        have hw2 := dec_le s pos hp
        have c3 : Hid (∀ W, Calls Tryd.prog 34 #[.string s, .int .i64 (pos : Int)] W fun e w' => e = .returned (.int .i32 (rn s pos)) ∧ Below W.heap.size W w') := fun W => refRune_any s pos W hs (by omega)
        have c4 : Hid (∀ W, Calls Tryd.prog 59 #[.int .i32 (rn s pos)] W fun e w' => e = .returned (.tuple #[.int .i64 (digV (Utf8.decode s pos).1), .int .i32 (digZ (Utf8.decode s pos).1)]) ∧ w' = W) := fun W => by
          have := digit_any (rn s pos) W; rw [digZ_rn s pos hp, digV_rn s pos hp] at this; exact this
        have c5 : Hid (∀ W, Calls Tryd.prog 37 #[.string s, .int .i64 (pos : Int)] W fun e w' => e = .returned (.int .i64 (wd s pos)) ∧ Below W.heap.size W w') := fun W => refWidth_in s pos W hp hs
        have hon := oneF_on s z f pos hp
        have hoff := oneF_off s z f pos hp
        have hva := vaF_on s f pos e hp
        have hwd : digZ (Utf8.decode s pos).1 ≠ 0 → wd s pos = (Utf8.decode s pos).2 := fun h => by
          unfold wd
          rw [if_neg]
          intro hb
          rw [bad_eq hb] at h
          exact h (by decide)
        have hdv := digV_eq (Utf8.decode s pos).1
        generalize rn s pos = r at *
        by_cases hzz : digZ (Utf8.decode s pos).1 = z
        · have hz0 : digZ (Utf8.decode s pos).1 ≠ 0 := by rw [hzz]; exact HZ.out
          rw [hwd hz0] at c5
          obtain ⟨_, d0, d9⟩ := hdv hz0
          obtain ⟨d, hd⟩ : ∃ d : Nat, digV (Utf8.decode s pos).1 = (d : Int) := ⟨(digV (Utf8.decode s pos).1).toNat, by omega⟩
          have hd9 : d ≤ 9 := by omega
          rw [hd] at c4 hva
          rw [hzz] at c4
          rw [hon hzz] at hR
          rw [hva, Int.toNat_natCast] at hV
          obtain ⟨n', hn', g1, g2, g3, g4, g5⟩ := va_step hd9 hn hl1 hl2
          have HG5 : Hid (¬ 1000000000000000000 < n → n' = 10 * n + d) := g5
          generalize (Utf8.decode s pos).2 = v at *
          have HR : Hid (R = oneF s z f (pos + v)) := hR
          have HV : Hid (V = vaF s f (pos + v) (e * 10 + d)) := hV
          have HG : Hid (n' < 18446744073709551616 ∧ (1000000000000000000 < n → 10000000000000000000 ≤ e * 10 + d) ∧ (lg = true → 10000000000000000000 ≤ e * 10 + d) ∧ (lg = false → ¬ 1000000000000000000 < n → n' = e * 10 + d ∧ n' ≤ 10000000000000000009)) := ⟨g1, g2, g3, g4⟩
          clear hon hoff hva hwd hdv hz0 d0 d9 hd hR hV g1 g2 g3 g4 g5 hl1 hl2 hzz
          by_cases hlt : 1000000000000000000 < n
          · go_wp2_with (first | (go_at_call 34; refine (c3.out _).mono ?_; rintro e w3 ⟨rfl, hb3⟩) | (go_at_call 59; refine (c4.out _).mono ?_; rintro e w4 ⟨rfl, hw4⟩; obtain rfl := hw4.symm) | (go_at_call 37; refine (c5.out _).mono ?_; rintro e w5 ⟨rfl, hb5⟩))
            all_goals
              obtain ⟨g1, g2, g3, g4⟩ := HG.out
              have hbb := (hb.trans (hb3.mono hb.size)).trans (hb5.mono (Nat.le_trans hb.size hb3.size))
              refine ⟨⟨pos + v, f, _, n', true, ?_, ?_, by simp, hbb, hw2, by omega, HR.out, HV.out, g1, (fun h => by cases h), fun _ => g2 hlt⟩, by simp only [iOf]; omega⟩
              · first | rfl | (rw [hn'])
              · rfl
          · have hlt' : ¬ (1000000000000000000 : Int) < (n : Int) := by omega
            go_wp2_with (first | (go_at_call 34; refine (c3.out _).mono ?_; rintro e w3 ⟨rfl, hb3⟩) | (go_at_call 59; refine (c4.out _).mono ?_; rintro e w4 ⟨rfl, hw4⟩; obtain rfl := hw4.symm) | (go_at_call 37; refine (c5.out _).mono ?_; rintro e w5 ⟨rfl, hb5⟩))
            all_goals
              obtain ⟨g1, g2, g3, g4⟩ := HG.out
              have hbb := (hb.trans (hb3.mono hb.size)).trans (hb5.mono (Nat.le_trans hb.size hb3.size))
              refine ⟨⟨pos + v, f, _, n', lg, ?_, ?_, by simp, hbb, hw2, by omega, HR.out, HV.out, g1, fun h => g4 h hlt, g3⟩, by simp only [iOf]; omega⟩
              · rw [HG5.out hlt]; simp
              · rfl
        · have HF : Hid (R = false) := by show R = false; rw [hR]; exact hoff hzz
          have hne : (digZ (Utf8.decode s pos).1 != z) = true := by simpa using hzz
          generalize digZ (Utf8.decode s pos).1 = zz at *
          generalize digV (Utf8.decode s pos).1 = dd at *
          clear hon hoff hva hwd hdv hR hV hl1 hl2 hzz c5
          go_wp2_with (first | (go_at_call 34; refine (c3.out _).mono ?_; rintro e w3 ⟨rfl, hb3⟩) | (go_at_call 59; refine (c4.out _).mono ?_; rintro e w4 ⟨rfl, hw4⟩; obtain rfl := hw4.symm))
          go_ret3
          refine ⟨0, false, retUBB rfl rfl HF.out.symm, by omega, fun h => ?_, hb.trans (hb3.mono hb.size)⟩
          rw [HF.out] at h; cases h
      · have HR : Hid (R = true) := by show R = true; rw [hR]; exact oneF_end s z f pos hp
        have HV : Hid (V = e) := by show V = e; rw [hV]; exact vaF_end s f pos e hp
        have HG : Hid ((lg = false → n = e ∧ n ≤ 10000000000000000009) ∧ (lg = true → 10000000000000000000 ≤ e)) := ⟨hl1, hl2⟩
        clear hR hV hl1 hl2
        go_wp2_with fail
        go_ret3
        refine ⟨n, lg, retUBB rfl rfl HR.out.symm, hn, fun _ => ⟨fun h => ?_, fun h => ?_⟩, hb⟩
        · rw [HV.out]; exact (HG.out.1 h).1
        · rw [HV.out]; exact HG.out.2 h

theorem decodeN_w45 (n b0 b1 b2 b3 : Nat) (h : (decodeN n b0 b1 b2 b3).1 = 45) : (decodeN n b0 b1 b2 b3).2 = 1 := by
  revert h
  unfold decodeN
  repeat' split
  all_goals simp
  all_goals omega
theorem decodeN_w8722 (n b0 b1 b2 b3 : Nat) (h0 : b0 < 256) (h1 : b1 < 256) (h2 : b2 < 256) (h3 : b3 < 256) (h : (decodeN n b0 b1 b2 b3).1 = 8722) : (decodeN n b0 b1 b2 b3).2 = 3 := by
  revert h
  unfold decodeN
  repeat' split
  all_goals simp
  all_goals omega
theorem rn_in (s : ByteArray) (h : rn s 0 ≠ -1) : 0 < s.size ∧ bad s 0 = false ∧ rn s 0 = (Utf8.decode s 0).1 := by
  unfold rn at *
  by_cases hp : 0 < s.size
  · rw [if_pos hp] at h ⊢
    cases hb : bad s 0
    · exact ⟨hp, rfl, by simp⟩
    · rw [hb] at h; simp at h
  · rw [if_neg hp] at h; exact absurd rfl h
theorem wd_45 (s : ByteArray) (h : rn s 0 = 45) : wdE s 0 = 1 ∧ 1 ≤ s.size := by
  obtain ⟨h1, h2, h3⟩ := rn_in s (by omega)
  refine ⟨?_, by omega⟩
  unfold wdE wd
  rw [if_pos h1, h2]
  rw [h3] at h
  simp only [Bool.false_eq_true, if_false]
  rw [decode_at] at h ⊢
  exact decodeN_w45 _ _ _ _ _ (by omega)
theorem wd_8722 (s : ByteArray) (h : rn s 0 = 8722) : wdE s 0 = 3 ∧ 3 ≤ s.size := by
  obtain ⟨h1, h2, h3⟩ := rn_in s (by omega)
  have hw : (Utf8.decode s 0).2 = 3 := by
    rw [h3, decode_at] at h
    rw [decode_at]
    exact decodeN_w8722 _ _ _ _ _ (UInt8.toNat_lt _) (UInt8.toNat_lt _) (UInt8.toNat_lt _) (UInt8.toNat_lt _) (by omega)
  refine ⟨?_, ?_⟩
  · unfold wdE wd
    rw [if_pos h1, h2]
    simpa using hw
  · have := dec_le s 0 h1; omega

set_option maxRecDepth 100000 in
set_option maxHeartbeats 4000000 in
/-- The end of Read, behind the minus. -/
theorem refRead_any (s : ByteArray) (w : World) (hs : s.size ≤ maxLen) :
    Calls Tryd.prog 60 #[.string s] w fun e w' => e = .returned (.tuple #[.int .i64 (rdA s).1, .int .i64 (rdA s).2]) ∧ Below w.heap.size w w' := by
  have hs' := hs
  unfold maxLen at hs'
  by_cases hl : 4096 < s.size
  · have e : rdA s = (0, 3) := by unfold rdA; rw [if_pos hl]
    rw [e]
    go_enter Tryd.func60, Tryd.ntmps60
    go_wp2_with fail
    go_ret2
    exact ⟨rfl, Below.refl _ _⟩
  · have hL : s.size ≤ 4096 := by omega
    have c1 : Hid (∀ W, Calls Tryd.prog 34 #[.string s, .int .i64 0] W fun e w' => e = .returned (.int .i32 (rn s 0)) ∧ Below W.heap.size W w') := fun W => refRune_any s 0 W hs (by omega)
    have c2 : Hid (∀ W, Calls Tryd.prog 37 #[.string s, .int .i64 0] W fun e w' => e = .returned (.int .i64 (wdE s 0)) ∧ Below W.heap.size W w') := fun W => refWidth_any s 0 W hs
    have hcut : (cutR s).2 = decide (rn s 0 = 45 ∨ rn s 0 = 8722) ∧ (cutR s).2 = (rn s 0 == 45 || rn s 0 == 8722) ∧ ((cutR s).2 = true → (cutR s).1 = s.extract (wdE s 0) s.size ∧ wdE s 0 ≤ s.size) ∧ ((cutR s).2 = false → (cutR s).1 = s) := by
      unfold cutR
      by_cases h1 : rn s 0 = 45
      · rw [if_pos h1]; simp [h1, wd_45 s h1]
      · rw [if_neg h1]
        by_cases h2 : rn s 0 = 8722
        · rw [if_pos h2]; simp [h2, wd_8722 s h2]
        · rw [if_neg h2]; simp [h1, h2]
    have hrd : rdA s = if one (cutR s).1 then (if most (cutR s).2 < vaA (cutR s).1 then (0, 10) else (if (cutR s).2 then -(vaA (cutR s).1 : Int) else vaA (cutR s).1, 0)) else (0, 6) := by
      unfold rdA; rw [if_neg hl]
    have cv : Hid (∀ W, Calls Tryd.prog 73 #[.string (cutR s).1] W fun e w' => ∃ (n : Nat) (lg : Bool), e = .returned (.tuple #[.int .u64 (n : Int), .bool lg, .bool (one (cutR s).1)]) ∧ n < 18446744073709551616 ∧ (one (cutR s).1 = true → (lg = false → n = vaA (cutR s).1) ∧ (lg = true → 10000000000000000000 ≤ vaA (cutR s).1)) ∧ Below W.heap.size W w') := fun W => value_any _ W (by
      have : (cutR s).1.size ≤ s.size := by
        cases hm : (cutR s).2
        · rw [hcut.2.2.2 hm]; exact Nat.le_refl _
        · rw [(hcut.2.2.1 hm).1, tail_size]; omega
      unfold maxLen; omega)
    obtain ⟨⟨d, m⟩, hdm⟩ : ∃ p, cutR s = p := ⟨_, rfl⟩
    rw [hdm] at hrd hcut cv
    simp only at hrd hcut cv
    have hmost : most m = if m then 9223372036854775808 else 9223372036854775807 := rfl
    have cs : Hid (∀ (n : Nat) W, n < 18446744073709551616 → Calls Tryd.prog 74 #[.int .u64 (n : Int), .bool m] W fun e w' => e = .returned (.int .i64 (wrap64 (if m then -(n : Int) else n))) ∧ w' = W) := fun n W h => signed_any n m W h
    generalize wdE s 0 = wd0 at *
    generalize rn s 0 = r at *
    have HRD : Hid (rdA s = if one d then (if most m < vaA d then (0, 10) else (if m then -(vaA d : Int) else vaA d, 0)) else (0, 6)) := hrd
    generalize rdA s = RR at *
    obtain ⟨R1, R2⟩ := RR
    generalize one d = ok at *
    generalize vaA d = V at *
    rw [hmost] at HRD
    clear hdm hl hs hrd hmost
    obtain ⟨hm1, hm2, hm3, hm4⟩ := hcut
    have fin : ∀ (n : Nat) (lg : Bool), n < 18446744073709551616 → ok = true → (lg = false → n = V) → (lg = true → 10000000000000000000 ≤ V) →
        ((lg = true ∨ 9223372036854775808 < n ∨ (n = 9223372036854775808 ∧ m = false)) → R1 = 0 ∧ R2 = 10) ∧ (¬ (lg = true ∨ 9223372036854775808 < n ∨ (n = 9223372036854775808 ∧ m = false)) → R1 = wrap64 (if m then -(n : Int) else n) ∧ R2 = 0) := by
      intro n lg hn ho h1 h2
      have hR := HRD.out
      rw [if_pos ho] at hR
      refine ⟨fun h => ?_, fun h => ?_⟩
      · have hbig : (if m then 9223372036854775808 else 9223372036854775807) < V := by
          cases lg
          · have e := h1 rfl
            cases m
            · simp only [Bool.false_eq_true, false_or, and_true, if_false] at h ⊢
              omega
            · simp only [Bool.false_eq_true, false_or, Bool.true_eq_false, and_false, or_false, if_true] at h ⊢
              omega
          · have e := h2 rfl
            cases m
            · simp only [Bool.false_eq_true, if_false]
              omega
            · simp only [if_true]
              omega
        rw [if_pos hbig] at hR
        cases hR; exact ⟨rfl, rfl⟩
      · cases lg
        · have e := h1 rfl
          subst e
          cases m
          · simp only [Bool.false_eq_true, if_false, false_or, and_true] at hR h ⊢
            rw [if_neg (by omega)] at hR
            cases hR
            exact ⟨by rw [w6_id (by unfold i6; omega)], rfl⟩
          · simp only [if_true, Bool.false_eq_true, false_or, Bool.true_eq_false, and_false, or_false] at hR h ⊢
            rw [if_neg (by omega)] at hR
            cases hR
            exact ⟨by rw [w6_id (by unfold i6; omega)], rfl⟩
        · exact absurd (.inl rfl) h
    have HFIN : Hid (∀ (n : Nat) (lg : Bool), n < 18446744073709551616 → ok = true → (lg = false → n = V) → (lg = true → 10000000000000000000 ≤ V) →
        ((lg = true ∨ 9223372036854775808 < n ∨ (n = 9223372036854775808 ∧ m = false)) → R1 = 0 ∧ R2 = 10) ∧ (¬ (lg = true ∨ 9223372036854775808 < n ∨ (n = 9223372036854775808 ∧ m = false)) → R1 = wrap64 (if m then -(n : Int) else n) ∧ R2 = 0)) := fin
    clear fin
    have HBAD : Hid (ok = false → R1 = 0 ∧ R2 = 6) := fun h => by
      have hR := HRD.out
      rw [h] at hR
      simp only [Bool.false_eq_true, if_false] at hR
      cases hR; exact ⟨rfl, rfl⟩
    clear HRD
    simp only
    cases m
    · have hd := hm4 rfl
      subst hd
      have g1 : (r == 45) = false := by have := hm2.symm; simp only [Bool.or_eq_false_iff] at this; exact this.1
      have g2 : (r == 8722) = false := by have := hm2.symm; simp only [Bool.or_eq_false_iff] at this; exact this.2
      clear hm1 hm2 hm3 hm4 c2
      go_enter Tryd.func60, Tryd.ntmps60
      go_wp2_with (first | (go_at_call 34; refine (c1.out _).mono ?_; rintro e w2 ⟨rfl, hb2⟩) | (go_at_call 73; refine (cv.out _).mono ?_; rintro e w3 ⟨n, lg, rfl, hn, hnl, hb3⟩; have HNL : Hid (ok = true → (lg = false → n = V) ∧ (lg = true → 10000000000000000000 ≤ V)) := hnl; clear hnl) | (go_at_call 74; refine (cs.out _ _ (by assumption)).mono ?_; rintro e w4 ⟨rfl, hw⟩; obtain rfl := hw.symm))
      all_goals
        go_ret2
        have hbb : Below w.heap.size w _ := hb2.trans (hb3.mono hb2.size)
        first
        | (obtain ⟨e1, e2⟩ := HBAD.out (by simpa using ‹(!ok) = true›)
           exact ⟨retII e1.symm e2.symm, hbb⟩)
        | (have hk : ok = true := by simpa using ‹(!ok) = false›
           obtain ⟨n1, n2⟩ := HNL.out hk
           obtain ⟨f1, f2⟩ := HFIN.out n lg hn hk n1 n2
           simp only [Bool.false_eq_true, if_false, if_true, Bool.true_eq_false, and_true, and_false, or_false] at f1 f2
           first
           | (obtain ⟨e1, e2⟩ := f1 (by first | (left; assumption) | (right; omega) | omega)
              exact ⟨retII e1.symm e2.symm, hbb⟩)
           | (obtain ⟨e1, e2⟩ := f2 (by rintro (c | c) <;> first | contradiction | omega | simp_all)
              exact ⟨retII e1.symm e2.symm, hbb⟩))
    · obtain ⟨hd, hwle⟩ := hm3 rfl
      have csL : Hid (∀ W, Calls Tryd.prog 74 #[.int .u64 9223372036854775808, .bool true] W fun e w' => e = .returned (.int .i64 (-9223372036854775808)) ∧ w' = W) := fun W => by
        have := cs.out 9223372036854775808 W (by omega)
        have e : wrap64 (if true = true then -((9223372036854775808 : Nat) : Int) else ((9223372036854775808 : Nat) : Int)) = -9223372036854775808 := by rw [if_pos rfl]; exact w6_id (by unfold i6; omega)
        rw [e] at this
        exact this
      have g12 : (r == 45 || r == 8722) = true := hm2.symm
      have HD : Hid (d = s.extract wd0 s.size) := hd
      rw [hd] at cv
      clear hm1 hm2 hm3 hm4 hd
      by_cases h45 : r = 45
      · subst h45
        go_enter Tryd.func60, Tryd.ntmps60
        go_wp2_with (first | (go_at_call 34; refine (c1.out _).mono ?_; rintro e w2 ⟨rfl, hb2⟩) | (go_at_call 37; refine (c2.out _).mono ?_; rintro e w5 ⟨rfl, hb5⟩) | (go_at_call 73; refine (cv.out _).mono ?_; rintro e w3 ⟨n, lg, rfl, hn, hnl, hb3⟩; have HNL : Hid (ok = true → (lg = false → n = V) ∧ (lg = true → 10000000000000000000 ≤ V)) := hnl; clear hnl) | (go_at_call_of 74 (Value.int .u64 9223372036854775808); refine (csL.out _).mono ?_; rintro e w4 ⟨rfl, hw⟩; obtain rfl := hw.symm) | (go_at_call 74; refine (cs.out _ _ (by assumption)).mono ?_; rintro e w4 ⟨rfl, hw⟩; obtain rfl := hw.symm))
        all_goals
          go_ret2
          have hbb : Below w.heap.size w _ := (hb2.trans (hb5.mono hb2.size)).trans (hb3.mono (Nat.le_trans hb2.size hb5.size))
          first
          | (obtain ⟨e1, e2⟩ := HBAD.out (by simpa using ‹(!ok) = true›)
             exact ⟨retII e1.symm e2.symm, hbb⟩)
          | (have hk : ok = true := by simpa using ‹(!ok) = false›
             obtain ⟨n1, n2⟩ := HNL.out hk
             obtain ⟨f1, f2⟩ := HFIN.out n lg hn hk n1 n2
             simp only [Bool.false_eq_true, if_false, if_true, Bool.true_eq_false, and_true, and_false, or_false] at f1 f2
             first
             | (obtain ⟨e1, e2⟩ := f1 (by first | (left; assumption) | (right; omega) | omega)
                exact ⟨retII e1.symm e2.symm, hbb⟩)
             | (obtain ⟨e1, e2⟩ := f2 (by rintro (c | c) <;> first | contradiction | omega | simp_all)
                have e3 : wrap64 (-(n : Int)) = -(n : Int) := w6_id (by unfold i6; omega)
                have e4 : R1 = -(n : Int) := e1.trans e3
                refine ⟨retII ?_ e2.symm, hbb⟩
                first | exact e1.symm | omega))
      · have h87 : r = 8722 := by simpa [h45] using g12
        subst h87
        clear h45
        go_enter Tryd.func60, Tryd.ntmps60
        go_wp2_with (first | (go_at_call 34; refine (c1.out _).mono ?_; rintro e w2 ⟨rfl, hb2⟩) | (go_at_call 37; refine (c2.out _).mono ?_; rintro e w5 ⟨rfl, hb5⟩) | (go_at_call 73; refine (cv.out _).mono ?_; rintro e w3 ⟨n, lg, rfl, hn, hnl, hb3⟩; have HNL : Hid (ok = true → (lg = false → n = V) ∧ (lg = true → 10000000000000000000 ≤ V)) := hnl; clear hnl) | (go_at_call_of 74 (Value.int .u64 9223372036854775808); refine (csL.out _).mono ?_; rintro e w4 ⟨rfl, hw⟩; obtain rfl := hw.symm) | (go_at_call 74; refine (cs.out _ _ (by assumption)).mono ?_; rintro e w4 ⟨rfl, hw⟩; obtain rfl := hw.symm))
        all_goals
          go_ret2
          have hbb : Below w.heap.size w _ := (hb2.trans (hb5.mono hb2.size)).trans (hb3.mono (Nat.le_trans hb2.size hb5.size))
          first
          | (obtain ⟨e1, e2⟩ := HBAD.out (by simpa using ‹(!ok) = true›)
             exact ⟨retII e1.symm e2.symm, hbb⟩)
          | (have hk : ok = true := by simpa using ‹(!ok) = false›
             obtain ⟨n1, n2⟩ := HNL.out hk
             obtain ⟨f1, f2⟩ := HFIN.out n lg hn hk n1 n2
             simp only [Bool.false_eq_true, if_false, if_true, Bool.true_eq_false, and_true, and_false, or_false] at f1 f2
             first
             | (obtain ⟨e1, e2⟩ := f1 (by first | (left; assumption) | (right; omega) | omega)
                exact ⟨retII e1.symm e2.symm, hbb⟩)
             | (obtain ⟨e1, e2⟩ := f2 (by rintro (c | c) <;> first | contradiction | omega | simp_all)
                have e3 : wrap64 (-(n : Int)) = -(n : Int) := w6_id (by unfold i6; omega)
                have e4 : R1 = -(n : Int) := e1.trans e3
                refine ⟨retII ?_ e2.symm, hbb⟩
                first | exact e1.symm | omega))
end Go.Proofs.YtpdohdmpjaklgaaDoor
