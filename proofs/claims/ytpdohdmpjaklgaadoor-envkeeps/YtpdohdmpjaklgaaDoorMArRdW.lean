/-
  Read, walked.
-/
import Derived.Test.YtpdohdmpjaklgaaDoorMArRdP
import Derived.Test.YtpdohdmpjaklgaaDoorMNumW
import Derived.Test.YtpdohdmpjaklgaaDoorMArW
set_option linter.unusedSimpArgs false
set_option linter.unusedVariables false
namespace Go.Proofs.YtpdohdmpjaklgaaDoor
open Go.RowKit Go.Lib

theorem number_I (s : ByteArray) (w : World) (hT : Tabs w) (hs : s.size ≤ maxLen) :
    Calls Tryd.prog 86 #[.string s, .int .i64 0] w fun e w' => e = .returned (.tuple #[.int .u64 (numI s 0).1, .int .i64 (numI s 0).2.1, .int .i64 (numI s 0).2.2]) ∧ Below w.heap.size w w' := by
  have e : numI s 0 = numP s 0 := by unfold numI; rw [if_neg (by omega)]; rfl
  rw [e]
  by_cases hz : digZ (rn s 0) = 0
  · have e2 : numP s 0 = (0, 0, 11) := by unfold numP; rw [if_pos hz]
    rw [e2]
    exact number_none s 0 w hT (by omega) hs hz
  · have e2 : numP s 0 = nuF s (digZ (rn s 0)) s.size 0 0 := by unfold numP; rw [if_neg hz]
    rw [e2]
    exact number_some s 0 w hT (by omega) hs _ rfl hz

/-- Does s begin with p? -/
def preB (s p : ByteArray) : Bool := decide (p.size ≤ s.size) && (s.extract 0 p.size).toList == p.toList
theorem hasPre_any (s p : ByteArray) (w : World) (hs : s.size ≤ maxLen) (hp : p.size ≤ 16) :
    Calls Tryd.prog 84 #[.string s, .string p] w fun e w' => e = .returned (.bool (preB s p)) ∧ w' = w := by
  unfold maxLen at hs
  have HR : Hid (preB s p = (decide (p.size ≤ s.size) && (s.extract 0 p.size).toList == p.toList)) := rfl
  generalize preB s p = R at *
  go_enter Tryd.func84, Tryd.ntmps84
  go_wp2
  all_goals
    go_ret
    refine ⟨ret_bool ?_, by first | rfl | trivial⟩
    rw [HR.out]
    simp [*]

theorem cutPre_any (s p : ByteArray) (w : World) (hs : s.size ≤ maxLen) (hp : p.size ≤ 16) :
    Calls Tryd.prog 99 #[.string s, .string p] w fun e w' => e = .returned (.tuple #[.string (if preB s p then s.extract p.size s.size else s), .bool (preB s p)]) ∧ w' = w := by
  have ch : Hid (∀ W, Calls Tryd.prog 84 #[.string s, .string p] W fun e w' => e = .returned (.bool (preB s p)) ∧ w' = W) := fun W => hasPre_any s p W hs hp
  have hle : preB s p = true → p.size ≤ s.size := fun h => by unfold preB at h; simp at h; exact h.1
  generalize preB s p = R at *
  unfold maxLen at hs
  have cc : Hid (∀ W, Calls Tryd.prog 100 #[.string s, .string p] W fun e w' => e = .returned (.tuple #[.string (if R then s.extract p.size s.size else s), .bool R]) ∧ w' = W) := fun W => by
    cases R
    · go_enter Tryd.func100, Tryd.ntmps100
      go_wp2_with (go_at_call 84; refine (ch.out _).mono ?_; rintro e w2 ⟨rfl, hw⟩; obtain rfl := hw.symm)
      go_ret2
      exact ⟨rfl, by first | rfl | trivial⟩
    · have hl := hle rfl
      clear hle
      go_enter Tryd.func100, Tryd.ntmps100
      go_wp2_with (go_at_call 84; refine (ch.out _).mono ?_; rintro e w2 ⟨rfl, hw⟩; obtain rfl := hw.symm)
      go_ret2
      exact ⟨rfl, by first | rfl | trivial⟩
  obtain ⟨X, hX⟩ : ∃ X, (if R then s.extract p.size s.size else s) = X := ⟨_, rfl⟩
  rw [hX] at cc ⊢
  clear hX hle ch
  go_enter Tryd.func99, Tryd.ntmps99
  go_wp2_with (go_at_call 100; refine (cc.out _).mono ?_; rintro e w2 ⟨rfl, hw⟩; obtain rfl := hw.symm)
  go_ret2
  exact ⟨rfl, by first | rfl | trivial⟩

theorem decodeN_45 (n b0 b1 b2 b3 : Nat) : (decodeN n b0 b1 b2 b3).1 = 45 ↔ b0 = 45 := by
  unfold decodeN
  constructor
  · intro h
    revert h
    repeat' split
    all_goals simp
    all_goals omega
  · intro h; subst h; simp
theorem decodeN_8722 (n b0 b1 b2 b3 : Nat) (h0 : b0 < 256) (h1 : b1 < 256) (h2 : b2 < 256) (h3 : b3 < 256) : (decodeN n b0 b1 b2 b3).1 = 8722 ↔ 2 < n ∧ b0 = 226 ∧ b1 = 136 ∧ b2 = 146 := by
  unfold decodeN
  constructor
  · intro h
    revert h
    repeat' split
    all_goals simp
    all_goals omega
  · rintro ⟨hn, rfl, rfl, rfl⟩
    have hn1 : 1 < n := by omega
    simp [hn, hn1]
theorem rn_eq (s : ByteArray) (c : Nat) (hc : c ≠ 65533) (h : 0 < s.size) : rn s 0 = (c : Int) ↔ (Utf8.decode s 0).1 = c := by
  unfold rn
  rw [if_pos h]
  cases hb : bad s 0
  · simp only [Bool.false_eq_true, if_false]; omega
  · rw [bad_eq hb]; simp; omega
theorem u8_lit (a : UInt8) (n : Nat) (hn : n < 256) : a = UInt8.ofNat n ↔ a.toNat = n := ⟨fun h => by rw [h]; simp [UInt8.toNat_ofNat]; omega, fun h => UInt8.toNat_inj.1 (by rw [h]; simp [UInt8.toNat_ofNat]; omega)⟩
theorem pre_45 (s : ByteArray) : preB s ⟨#[45]⟩ = decide (rn s 0 = 45) := by
  have e1 : (⟨#[45]⟩ : ByteArray).size = 1 := rfl
  unfold preB
  rw [e1]
  by_cases h : 1 ≤ s.size
  · rw [decide_eq_true h, Bool.true_and, Bool.eq_iff_iff, decide_eq_true_eq, beq_iff_eq]
    have hr := rn_eq s 45 (by omega) (by omega)
    rw [show ((45 : Nat) : Int) = 45 from rfl] at hr
    rw [hr, decode_at, decodeN_45]
    have e2 : (s.extract 0 1).toList = [s.get! 0] := by
      rw [toList_data]
      have hs : s.data.toList.length = s.size := (size_eq s).symm
      have : (s.extract 0 1).data.toList = s.data.toList.take 1 := by simp [extract_data]
      rw [this]
      obtain ⟨d⟩ := s
      obtain ⟨l⟩ := d
      cases l with
      | nil => exact absurd h (by decide)
      | cons a l => rfl
    rw [e2]
    have e3 : (⟨#[45]⟩ : ByteArray).toList = [45] := by rw [toList_data]
    rw [e3, List.cons.injEq]
    simp only [and_true]
    exact u8_lit _ 45 (by omega)
  · rw [decide_eq_false h, Bool.false_and]
    have : rn s 0 = -1 := by unfold rn; rw [if_neg (by omega)]
    rw [this]; rfl
theorem pre_8722 (s : ByteArray) : preB s ⟨#[226, 136, 146]⟩ = decide (rn s 0 = 8722) := by
  have e1 : (⟨#[226, 136, 146]⟩ : ByteArray).size = 3 := rfl
  unfold preB
  rw [e1]
  by_cases h : 3 ≤ s.size
  · rw [decide_eq_true h, Bool.true_and, Bool.eq_iff_iff, decide_eq_true_eq, beq_iff_eq]
    have hr := rn_eq s 8722 (by omega) (by omega)
    rw [show ((8722 : Nat) : Int) = 8722 from rfl] at hr
    rw [hr, decode_at, decodeN_8722 _ _ _ _ _ (UInt8.toNat_lt _) (UInt8.toNat_lt _) (UInt8.toNat_lt _) (UInt8.toNat_lt _)]
    have e2 : (s.extract 0 3).toList = [s.get! 0, s.get! 1, s.get! 2] := by
      rw [toList_data]; exact bytes3 s 0 (by omega)
    rw [e2]
    have e3 : (⟨#[226, 136, 146]⟩ : ByteArray).toList = [226, 136, 146] := by rw [toList_data]
    rw [e3]
    simp only [List.cons.injEq, and_true]
    have a := u8_lit (s.get! 0) 226 (by omega)
    have b := u8_lit (s.get! 1) 136 (by omega)
    have c := u8_lit (s.get! 2) 146 (by omega)
    constructor
    · rintro ⟨h1, h2, h3⟩; exact ⟨by omega, a.1 h1, b.1 h2, c.1 h3⟩
    · rintro ⟨_, h1, h2, h3⟩; exact ⟨a.2 h1, b.2 h2, c.2 h3⟩
  · rw [decide_eq_false h, Bool.false_and]
    symm
    rw [decide_eq_false_iff_not]
    intro hr
    by_cases h0 : 0 < s.size
    · have h2 := (rn_eq s 8722 (by omega) h0).1 hr
      rw [decode_at, decodeN_8722 _ _ _ _ _ (UInt8.toNat_lt _) (UInt8.toNat_lt _) (UInt8.toNat_lt _) (UInt8.toNat_lt _)] at h2
      omega
    · unfold rn at hr; rw [if_neg h0] at hr; omega

theorem cutMinus_any (s : ByteArray) (w : World) (hs : s.size ≤ maxLen) :
    Calls Tryd.prog 95 #[.string s] w fun e w' => e = .returned (.tuple #[.string (cutR s).1, .bool (cutR s).2]) ∧ w' = w := by
  have c1 : Hid (∀ W, Calls Tryd.prog 99 #[.string s, .string ⟨#[45]⟩] W fun e w' => e = .returned (.tuple #[.string (if preB s ⟨#[45]⟩ then s.extract 1 s.size else s), .bool (preB s ⟨#[45]⟩)]) ∧ w' = W) := fun W => cutPre_any s ⟨#[45]⟩ W hs (by decide)
  have c2 : Hid (∀ W, Calls Tryd.prog 99 #[.string s, .string ⟨#[226, 136, 146]⟩] W fun e w' => e = .returned (.tuple #[.string (if preB s ⟨#[226, 136, 146]⟩ then s.extract 3 s.size else s), .bool (preB s ⟨#[226, 136, 146]⟩)]) ∧ w' = W) := fun W => cutPre_any s ⟨#[226, 136, 146]⟩ W hs (by decide)
  rw [pre_45] at c1
  rw [pre_8722] at c2
  by_cases h1 : rn s 0 = 45
  · have e : cutR s = (s.extract 1 s.size, true) := by unfold cutR; rw [if_pos h1]
    rw [e]
    rw [decide_eq_true h1] at c1
    simp only [if_true] at c1 ⊢
    clear e h1 c2
    generalize s.extract 1 s.size = X at *
    go_enter Tryd.func95, Tryd.ntmps95
    go_wp2_with (go_at_call 99; refine (c1.out _).mono ?_; rintro e w2 ⟨rfl, hw⟩; obtain rfl := hw.symm)
    go_ret2
    exact ⟨rfl, by first | rfl | trivial⟩
  · rw [decide_eq_false h1] at c1
    simp only [Bool.false_eq_true, if_false] at c1
    obtain ⟨X, m, hX⟩ : ∃ X m, cutR s = (X, m) := ⟨_, _, rfl⟩
    have hc2 : (if decide (rn s 0 = 8722) = true then s.extract 3 s.size else s) = X ∧ decide (rn s 0 = 8722) = m := by
      unfold cutR at hX
      rw [if_neg h1] at hX
      by_cases h2 : rn s 0 = 8722
      · rw [if_pos h2] at hX; cases hX; simp [h2]
      · rw [if_neg h2] at hX; cases hX; simp [h2]
    rw [hc2.1, hc2.2] at c2
    rw [hX]
    clear hX hc2 h1
    go_enter Tryd.func95, Tryd.ntmps95
    go_wp2_with fail
    go_at_call 99
    refine (c1.out _).mono ?_
    rintro e w2 ⟨rfl, hw⟩
    obtain rfl := hw.symm
    go_wp2_with fail
    go_at_call 99
    refine (c2.out _).mono ?_
    rintro e w3 ⟨rfl, hw⟩
    obtain rfl := hw.symm
    go_wp2_with fail
    go_ret2
    exact ⟨rfl, by first | rfl | trivial⟩

/-! ### oneScript -/
theorem enc_size4 (r : Int) : (Utf8.encode r).size ≤ 4 := by
  have h1 : ∀ a : UInt8, (⟨#[a]⟩ : ByteArray).size = 1 := fun _ => rfl
  have h2 : ∀ a b : UInt8, (⟨#[a, b]⟩ : ByteArray).size = 2 := fun _ _ => rfl
  have h3 : ∀ a b c : UInt8, (⟨#[a, b, c]⟩ : ByteArray).size = 3 := fun _ _ _ => rfl
  have h4 : ∀ a b c d : UInt8, (⟨#[a, b, c, d]⟩ : ByteArray).size = 4 := fun _ _ _ _ => rfl
  have key : ∀ c : Nat, (if c < 0x80 then (⟨#[UInt8.ofNat c]⟩ : ByteArray)
    else if c < 0x800 then ⟨#[UInt8.ofNat (0xC0 + c / 64), UInt8.ofNat (0x80 + c % 64)]⟩
    else if c < 0x10000 then ⟨#[UInt8.ofNat (0xE0 + c / 4096), UInt8.ofNat (0x80 + c / 64 % 64), UInt8.ofNat (0x80 + c % 64)]⟩
    else ⟨#[UInt8.ofNat (0xF0 + c / 262144), UInt8.ofNat (0x80 + c / 4096 % 64), UInt8.ofNat (0x80 + c / 64 % 64), UInt8.ofNat (0x80 + c % 64)]⟩).size ≤ 4 := by
    intro c
    by_cases a : c < 0x80
    · rw [if_pos a, h1]; omega
    · rw [if_neg a]
      by_cases b : c < 0x800
      · rw [if_pos b, h2]; omega
      · rw [if_neg b]
        by_cases d : c < 0x10000
        · rw [if_pos d, h3]; omega
        · rw [if_neg d, h4]; omega
  exact key _

/-- One round of the range in oneScript: what is read is the number of one character. -/
structure OsInv (w : World) (s : ByteArray) (R : Bool) (z : Int) (c : Value) (wr : World) : Prop where
  ex : ∃ pos f : Nat, It w s pos wr ∧ pos ≤ s.size ∧ s.size ≤ pos + f ∧ ((pos = 0 ∧ c = .int .i32 0) ∨ (0 < pos ∧ c = .int .i32 z ∧ z ≠ 0 ∧ R = oneF s z f pos))

theorem dec_rune (s : ByteArray) (pos : Nat) : (Utf8.decode s pos).1 ≤ 1114111 := by
  rw [decode_at]
  have := UInt8.toNat_lt (s.get! pos)
  have := UInt8.toNat_lt (s.get! (pos + 1))
  have := UInt8.toNat_lt (s.get! (pos + 2))
  have := UInt8.toNat_lt (s.get! (pos + 3))
  unfold decodeN
  repeat' split
  all_goals simp
  all_goals omega

set_option maxRecDepth 100000 in
set_option maxHeartbeats 4000000 in
theorem oneScript_any (s : ByteArray) (w : World) (hT : Tabs w) (hs : s.size ≤ maxLen) :
    Calls Tryd.prog 96 #[.string s] w fun e w' => e = .returned (.bool (one s)) ∧ Below w.heap.size w w' := by
  unfold maxLen at hs
  have H0 : Hid (one s = (decide (s.size ≠ 0) && decide (sc0 s ≠ 0) && oneF s (sc0 s) s.size 0)) := rfl
  have HZ : Hid (sc0 s = digZ (Utf8.decode s 0).1) := rfl
  generalize one s = R at *
  generalize sc0 s = z at *
  go_enter Tryd.func96, Tryd.ntmps96
  go_wp2
  go_loopw [3] (fun c wr => OsInv w s R z c wr) (fun _ wr => s.size - wr.iterPos w.heap.size)
  case atStart => exact ⟨0, s.size, It.start w s, by omega, by omega, .inl ⟨rfl, rfl⟩⟩
  case round =>
    obtain ⟨⟨pos, f, hI, hp1, hf, hc⟩⟩ := hrel
    have hm := hI.pos
    by_cases hp : pos < s.size
    · have hnx : ∀ ty, (Instr.next (.pointer (some ⟨w.heap.size, 0, none⟩)) true ty).run Tryd.prog wr = _ := fun ty => run_next_any_at wr w.heap.size s pos ty hI.at_ hp
      obtain ⟨f, rfl⟩ : ∃ g, f = g + 1 := ⟨f - 1, by omega⟩
      have hw := width_pos s pos hp
      have hw2 := dec_le s pos hp
      have hI1 := hI.next (pos + (Utf8.decode s pos).2)
      have hT1 := hI1.tabs hT
      have hr1 := dec_rune s pos
      have hon := oneF_on s z f pos hp
      have hoff := oneF_off s z f pos hp
      have hz0 : pos = 0 → z = digZ (Utf8.decode s pos).1 := fun e => by rw [e]; exact HZ.out
      have hH : pos = 0 → z ≠ 0 → R = oneF s z f (pos + (Utf8.decode s pos).2) := fun e hz => by
        obtain ⟨g, hg⟩ : ∃ g, s.size = g + 1 := ⟨s.size - 1, by omega⟩
        have h1 : ∀ f g p, s.size ≤ p + f → s.size ≤ p + g → oneF s z f p = oneF s z g p := by
          intro f
          induction f with
          | zero => intro g p h1 h2; rw [oneF_end s z 0 p (by omega), oneF_end s z g p (by omega)]
          | succ f ih =>
            intro g p h1 h2
            by_cases hp : p < s.size
            · obtain ⟨g, rfl⟩ : ∃ k, g = k + 1 := ⟨g - 1, by omega⟩
              have hw := width_pos s p hp
              by_cases hz : digZ (Utf8.decode s p).1 = z
              · rw [oneF_on s z f p hp hz, oneF_on s z g p hp hz]; exact ih g _ (by omega) (by omega)
              · rw [oneF_off s z f p hp hz, oneF_off s z g p hp hz]
            · rw [oneF_end s z _ p hp, oneF_end s z _ p hp]
        rw [H0.out, ← hon (hz0 e).symm, h1 (f + 1) s.size pos (by omega) (by omega), e]
        rw [decide_eq_true (show s.size ≠ 0 by omega), decide_eq_true hz, Bool.true_and, Bool.true_and]
      have hnum := num_char (Utf8.decode s pos).1 (by omega)
      have hcN := number_I (Utf8.encode (Utf8.decode s pos).1) (wr.iterAt w.heap.size s (pos + (Utf8.decode s pos).2)) hT1 (by have := enc_size4 (Utf8.decode s pos).1; unfold maxLen; omega)
      rw [hnum] at hcN
      have hdv := digV_eq (Utf8.decode s pos).1
      generalize (Utf8.decode s pos).2 = v at *
      obtain ⟨r, hr⟩ : ∃ r : Int, ((Utf8.decode s pos).1 : Int) = r := ⟨_, rfl⟩
      have hr0 : 0 ≤ r := by omega
      have hr2 : r ≤ 1114111 := by omega
      rw [hr] at hnx hon hoff hz0 hcN hdv
      have HON : Hid (digZ r = z → oneF s z (f + 1) pos = oneF s z f (pos + v)) := hon
      have HOFF : Hid (¬ digZ r = z → oneF s z (f + 1) pos = false) := hoff
      have HZ0 : Hid (pos = 0 → z = digZ r) := hz0
      have HH : Hid (pos = 0 → z ≠ 0 → R = oneF s z f (pos + v)) := hH
      have HI1 : Hid (It w s (pos + v) (wr.iterAt w.heap.size s (pos + v))) := hI1
      clear hon hoff hz0 hH hnum hr1 hr hI1
      by_cases hd0 : digZ r = 0
      · rw [if_pos hd0] at hcN
        have cN : Hid (Calls Tryd.prog 86 #[.string (Utf8.encode r), .int .i64 0] (wr.iterAt w.heap.size s (pos + v)) fun e w' => e = .returned (.tuple #[.int .u64 0, .int .i64 0, .int .i64 11]) ∧ Below (wr.iterAt w.heap.size s (pos + v)).heap.size (wr.iterAt w.heap.size s (pos + v)) w') := hcN
        have HF : Hid (R = false) := by
          show R = false
          rcases hc with ⟨h0, _⟩ | ⟨h0, _, hz, hR⟩
          · have := HZ0.out h0
            rw [H0.out, this, hd0]; simp
          · rw [hR]; exact HOFF.out (by rw [hd0]; exact fun e => hz e.symm)
        have hcc : ∃ c0, u3 = .int .i32 c0 := by
          rcases hc with ⟨_, h⟩ | ⟨_, h, _⟩
          · exact ⟨_, h⟩
          · exact ⟨_, h⟩
        clear hc hcN hdv
        go_wp2_with (go_at_call 86; refine cN.out.mono ?_; rintro e w2 ⟨rfl, hb2⟩)
        go_ret
        exact ⟨ret_bool HF.out.symm, (HI1.out.call hb2).below⟩
      · rw [if_neg hd0] at hcN
        obtain ⟨dv1, dv2, dv3⟩ := hdv hd0
        obtain ⟨dv, hdvn⟩ : ∃ n : Nat, (digV r).toNat = n := ⟨_, rfl⟩
        obtain ⟨S, hS⟩ : ∃ n : Nat, (Utf8.encode r).size = n := ⟨_, rfl⟩
        rw [hdvn, hS] at hcN
        have cN : Hid (Calls Tryd.prog 86 #[.string (Utf8.encode r), .int .i64 0] (wr.iterAt w.heap.size s (pos + v)) fun e w' => e = .returned (.tuple #[.int .u64 (dv : Int), .int .i64 (S : Int), .int .i64 0]) ∧ Below (wr.iterAt w.heap.size s (pos + v)).heap.size (wr.iterAt w.heap.size s (pos + v)) w') := hcN
        have hd9 : dv ≤ 9 := by omega
        have hq : r - (dv : Int) = digZ r := by omega
        have HD0 : Hid (¬ digZ r = 0) := hd0
        clear hcN hdv hdvn hS dv1 dv2 dv3 hd0
        generalize digZ r = zz at *
        rcases hc with ⟨h0, rfl⟩ | ⟨h0, rfl, hz, hR⟩
        · subst h0
          have HR2 : Hid (R = oneF s z f (0 + v)) := HH.out rfl (by rw [HZ0.out rfl]; exact HD0.out)
          have HZZ : Hid (z = zz) := HZ0.out rfl
          clear HON HOFF HZ0 HH
          simp only [Nat.zero_add] at cN HI1 HR2 hw2 hnx hT1
          go_wp2_with (go_at_call 86; refine cN.out.mono ?_; rintro e w2 ⟨rfl, hb2⟩)
          all_goals
            have hJ := HI1.out.call hb2
            have hm2 := hJ.pos
            first
            | exact ⟨⟨v, f, hJ, hw2, by omega, .inr ⟨by omega, by rw [HZZ.out], by rw [HZZ.out]; exact HD0.out, HR2.out⟩⟩, by rw [hm, hm2]; omega⟩
            | trace_state
        · by_cases hzz : zz = z
          · subst hzz
            have HR2 : Hid (R = oneF s zz f (pos + v)) := by show R = _; rw [hR]; exact HON.out rfl
            have hpos : ((pos : Int) == 0) = false := by rw [beq_eq_false_iff_ne]; omega
            clear hR
            go_wp2_with (go_at_call 86; refine cN.out.mono ?_; rintro e w2 ⟨rfl, hb2⟩)
            all_goals
              have hJ := HI1.out.call hb2
              have hm2 := hJ.pos
              first
              | exact ⟨⟨pos + v, f, hJ, hw2, by omega, .inr ⟨by omega, rfl, HD0.out, HR2.out⟩⟩, by rw [hm, hm2]; omega⟩
              | trace_state
          · have HF : Hid (R = false) := by show R = false; rw [hR]; exact HOFF.out hzz
            have hne : (zz != z) = true := by simpa using hzz
            have hpos : ((pos : Int) == 0) = false := by rw [beq_eq_false_iff_ne]; omega
            clear hR hzz
            go_wp2_with (go_at_call 86; refine cN.out.mono ?_; rintro e w2 ⟨rfl, hb2⟩)
            go_ret
            exact ⟨ret_bool HF.out.symm, (HI1.out.call hb2).below⟩
    · have hnx : ∀ ty, (Instr.next (.pointer (some ⟨w.heap.size, 0, none⟩)) true ty).run Tryd.prog wr = _ := fun ty => run_next_end_at wr w.heap.size s pos ty hI.at_ hp
      have HB : Hid (Below w.heap.size w wr) := hI.below
      have HF : Hid (R = !s.toList.isEmpty) := by
        show R = _
        rcases hc with ⟨h0, _⟩ | ⟨h0, _, hz, hR⟩
        · have h00 : s.size = 0 := by omega
          rw [H0.out, h00, empty_yes s h00]; rfl
        · rw [hR, oneF_end s z f pos hp, empty_no s (by omega)]; rfl
      have hcc : ∃ c0, u3 = .int .i32 c0 := by
        rcases hc with ⟨_, h⟩ | ⟨_, h, _⟩
        · exact ⟨_, h⟩
        · exact ⟨_, h⟩
      clear hc
      go_wp2_with fail
      go_ret
      exact ⟨ret_bool HF.out.symm, HB.out⟩

theorem cutR_size (s : ByteArray) : (cutR s).1.size ≤ s.size := by
  unfold cutR
  split
  · simp [tail_size]
  · split
    · simp [tail_size]
    · exact Nat.le_refl _

set_option maxRecDepth 100000 in
set_option maxHeartbeats 4000000 in
/-- WHAT READ ANSWERS. -/
theorem read_any (s : ByteArray) (w : World) (hT : Tabs w) (hs : s.size ≤ maxLen) :
    Calls Tryd.prog 87 #[.string s] w fun e w' => e = .returned (.tuple #[.int .i64 (rdA s).1, .int .i64 (rdA s).2]) ∧ Below w.heap.size w w' := by
  have hs' := hs
  unfold maxLen at hs'
  by_cases hl : 4096 < s.size
  · have e : rdA s = (0, 3) := by unfold rdA; rw [if_pos hl]
    rw [e]
    go_enter Tryd.func87, Tryd.ntmps87
    go_wp2_with fail
    go_ret2
    exact ⟨rfl, Below.refl _ _⟩
  · have hcs := cutR_size s
    have cc : Hid (∀ W, Calls Tryd.prog 95 #[.string s] W fun e w' => e = .returned (.tuple #[.string (cutR s).1, .bool (cutR s).2]) ∧ w' = W) := fun W => cutMinus_any s W hs
    have hrd : rdA s = if one (cutR s).1 then (if most (cutR s).2 < vaA (cutR s).1 then (0, 10) else (if (cutR s).2 then -(vaA (cutR s).1 : Int) else vaA (cutR s).1, 0)) else (0, 6) := by
      unfold rdA; rw [if_neg hl]
    obtain ⟨⟨d, m⟩, hdm⟩ : ∃ p, cutR s = p := ⟨_, rfl⟩
    rw [hdm] at cc hrd hcs
    simp only at cc hrd hcs
    have c1 : Hid (∀ W, Tabs W → Calls Tryd.prog 96 #[.string d] W fun e w' => e = .returned (.bool (one d)) ∧ Below W.heap.size W w') := fun W hW => oneScript_any d W hW (by unfold maxLen; omega)
    have cn : Hid (∀ W, Tabs W → Calls Tryd.prog 86 #[.string d, .int .i64 0] W fun e w' => e = .returned (.tuple #[.int .u64 (numI d 0).1, .int .i64 (numI d 0).2.1, .int .i64 (numI d 0).2.2]) ∧ Below W.heap.size W w') := fun W hW => number_I d W hW (by unfold maxLen; omega)
    have hno := num_one d
    have hL : s.size ≤ 4096 := by omega
    clear hdm hl hs
    cases ho : one d
    · rw [ho] at c1 hrd
      simp only [Bool.false_eq_true, if_false] at hrd
      rw [hrd]
      clear hno cn hrd ho
      go_enter Tryd.func87, Tryd.ntmps87
      go_wp2_with (first | (go_at_call 95; refine (cc.out _).mono ?_; rintro e w2 ⟨rfl, hw⟩; obtain rfl := hw.symm) | (go_at_call 96; refine (c1.out _ hT).mono ?_; rintro e w3 ⟨rfl, hb3⟩))
      go_ret2
      exact ⟨rfl, hb3⟩
    · rw [ho] at c1 hrd
      rw [hno ho] at cn
      simp only [if_true] at hrd
      have HRD : Hid (rdA s = if most m < vaA d then (0, 10) else (if m then -(vaA d : Int) else vaA d, 0)) := hrd
      generalize rdA s = R at *
      obtain ⟨R1, R2⟩ := R
      simp only
      clear hrd hno ho
      generalize vaA d = V at *
      by_cases hV : V ≤ 18446744073709551615
      · rw [if_pos hV] at cn
        simp only at cn
        cases m
        · go_enter Tryd.func87, Tryd.ntmps87
          go_wp2_with (first | (go_at_call 95; refine (cc.out _).mono ?_; rintro e w2 ⟨rfl, hw⟩; obtain rfl := hw.symm) | (go_at_call 96; refine (c1.out _ hT).mono ?_; rintro e w3 ⟨rfl, hb3⟩; have hT3 := hT.below hb3) | (go_at_call 86; refine (cn.out _ hT3).mono ?_; rintro e w4 ⟨rfl, hb4⟩))
          all_goals
            go_ret2
            have hR := HRD.out
            simp only [most, Bool.false_eq_true, if_false] at hR
            refine ⟨retII ?_ ?_, hb3.trans (hb4.mono hb3.size)⟩
            · by_cases hm : 9223372036854775807 < V
              · rw [if_pos hm] at hR
                have := congrArg Prod.fst hR
                simp only at this
                rw [this] <;> omega
              · rw [if_neg hm] at hR
                have := congrArg Prod.fst hR
                simp only at this
                rw [this] <;> (try simp only [w6_def]) <;> omega
            · by_cases hm : 9223372036854775807 < V
              · rw [if_pos hm] at hR
                have := congrArg Prod.snd hR
                simp only at this
                rw [this] <;> omega
              · rw [if_neg hm] at hR
                have := congrArg Prod.snd hR
                simp only at this
                rw [this] <;> omega
        · go_enter Tryd.func87, Tryd.ntmps87
          go_wp2_with (first | (go_at_call 95; refine (cc.out _).mono ?_; rintro e w2 ⟨rfl, hw⟩; obtain rfl := hw.symm) | (go_at_call 96; refine (c1.out _ hT).mono ?_; rintro e w3 ⟨rfl, hb3⟩; have hT3 := hT.below hb3) | (go_at_call 86; refine (cn.out _ hT3).mono ?_; rintro e w4 ⟨rfl, hb4⟩))
          all_goals
            go_ret2
            have hR := HRD.out
            simp only [most, if_true] at hR
            refine ⟨retII ?_ ?_, hb3.trans (hb4.mono hb3.size)⟩
            · by_cases hm : 9223372036854775808 < V
              · rw [if_pos hm] at hR
                have := congrArg Prod.fst hR
                simp only at this
                rw [this] <;> omega
              · rw [if_neg hm] at hR
                have := congrArg Prod.fst hR
                simp only at this
                rw [this] <;> (try simp only [w6_def]) <;> omega
            · by_cases hm : 9223372036854775808 < V
              · rw [if_pos hm] at hR
                have := congrArg Prod.snd hR
                simp only at this
                rw [this] <;> omega
              · rw [if_neg hm] at hR
                have := congrArg Prod.snd hR
                simp only at this
                rw [this] <;> omega
      · rw [if_neg hV] at cn
        simp only at cn
        have hR := HRD.out
        rw [if_pos (by unfold most; split <;> omega)] at hR
        cases hR
        cases m
        all_goals
          go_enter Tryd.func87, Tryd.ntmps87
          go_wp2_with (first | (go_at_call 95; refine (cc.out _).mono ?_; rintro e w2 ⟨rfl, hw⟩; obtain rfl := hw.symm) | (go_at_call 96; refine (c1.out _ hT).mono ?_; rintro e w3 ⟨rfl, hb3⟩; have hT3 := hT.below hb3) | (go_at_call 86; refine (cn.out _ hT3).mono ?_; rintro e w4 ⟨rfl, hb4⟩))
          go_ret2
          exact ⟨rfl, hb3.trans (hb4.mono hb3.size)⟩
end Go.Proofs.YtpdohdmpjaklgaaDoor
