/-
  Numbers read off texts, plain: what one script's digits come to; what a minus ahead leaves.
-/
import Derived.Test.YtpdohdmpjaklgaaDoorMArPure
import Derived.Test.YtpdohdmpjaklgaaDoorMDigPure
set_option linter.unusedSimpArgs false
set_option linter.unusedVariables false
namespace Go.Proofs.YtpdohdmpjaklgaaDoor
open Go.Lib Go.RowKit

/-- From pos on all are digits of the script of z. -/
def oneF (s : ByteArray) (z : Int) : Nat → Nat → Bool
  | 0, _ => true
  | f + 1, pos => if pos < s.size then decide (digZ (Utf8.decode s pos).1 = z) && oneF s z f (pos + (Utf8.decode s pos).2) else true
/-- The first character's script; 0: it is no digit. -/
def sc0 (s : ByteArray) : Int := digZ (Utf8.decode s 0).1
/-- One or more digits of one script. -/
def one (s : ByteArray) : Bool := decide (s.size ≠ 0) && decide (sc0 s ≠ 0) && oneF s (sc0 s) s.size 0
/-- What the digits come to, without bound. -/
def vaF (s : ByteArray) : Nat → Nat → Nat → Nat
  | 0, _, n => n
  | f + 1, pos, n => if pos < s.size then vaF s f (pos + (Utf8.decode s pos).2) (n * 10 + (digV (Utf8.decode s pos).1).toNat) else n
def vaA (s : ByteArray) : Nat := vaF s s.size 0 0

theorem oneF_on (s : ByteArray) (z : Int) (f pos : Nat) (h : pos < s.size) (hz : digZ (Utf8.decode s pos).1 = z) : oneF s z (f + 1) pos = oneF s z f (pos + (Utf8.decode s pos).2) := by simp [oneF, h, hz]
theorem oneF_off (s : ByteArray) (z : Int) (f pos : Nat) (h : pos < s.size) (hz : ¬ digZ (Utf8.decode s pos).1 = z) : oneF s z (f + 1) pos = false := by simp [oneF, h, hz]
theorem oneF_end (s : ByteArray) (z : Int) (f pos : Nat) (h : ¬ pos < s.size) : oneF s z f pos = true := by cases f <;> simp [oneF, h]
theorem vaF_on (s : ByteArray) (f pos n : Nat) (h : pos < s.size) : vaF s (f + 1) pos n = vaF s f (pos + (Utf8.decode s pos).2) (n * 10 + (digV (Utf8.decode s pos).1).toNat) := by simp [vaF, h]
theorem vaF_end (s : ByteArray) (f pos n : Nat) (h : ¬ pos < s.size) : vaF s f pos n = n := by cases f <;> simp [vaF, h]
theorem vaF_ge (s : ByteArray) : ∀ (f pos n : Nat), n ≤ vaF s f pos n
  | 0, pos, n => Nat.le_refl _
  | f + 1, pos, n => by
    by_cases h : pos < s.size
    · rw [vaF_on s f pos n h]
      have := vaF_ge s f (pos + (Utf8.decode s pos).2) (n * 10 + (digV (Utf8.decode s pos).1).toNat)
      omega
    · rw [vaF_end s _ pos n h]; exact Nat.le_refl _

/-- How the program's Number reads them. -/
theorem nu_one (s : ByteArray) (z : Int) : ∀ (f pos n : Nat), oneF s z f pos = true → s.size ≤ pos + f → pos ≤ s.size → n ≤ 18446744073709551615 →
    nuF s z f pos n = if vaF s f pos n ≤ 18446744073709551615 then (vaF s f pos n, s.size, 0) else (0, 0, 10)
  | 0, pos, n, h1, hf, hp, hn => by
    have e : pos = s.size := by omega
    subst e
    rw [nuF_end s z 0 s.size n (by omega), vaF_end s 0 s.size n (by omega), if_pos hn]
  | f + 1, pos, n, h1, hf, hp, hn => by
    by_cases h : pos < s.size
    · by_cases hz : digZ (Utf8.decode s pos).1 = z
      · rw [oneF_on s z f pos h hz] at h1
        rw [vaF_on s f pos n h]
        have hw := width_pos s pos h
        have hw2 := dec_le s pos h
        have hge := vaF_ge s f (pos + (Utf8.decode s pos).2) (n * 10 + (digV (Utf8.decode s pos).1).toNat)
        by_cases hl : 18446744073709551615 < n * 10 + (digV (Utf8.decode s pos).1).toNat
        · rw [nuF_large s z f pos n h hz hl, if_neg (by omega)]
        · rw [nuF_on s z f pos n h hz hl]
          exact nu_one s z f _ _ h1 (by omega) hw2 (by omega)
      · rw [oneF_off s z f pos h hz] at h1; cases h1
    · have e : pos = s.size := by omega
      rw [e, nuF_end s z (f + 1) s.size n (by omega), vaF_end s (f + 1) s.size n (by omega), if_pos hn]
theorem num_one (s : ByteArray) (h : one s = true) : numI s 0 = if vaA s ≤ 18446744073709551615 then (vaA s, s.size, 0) else (0, 0, 10) := by
  unfold one at h
  simp only [Bool.and_eq_true, decide_eq_true_eq] at h
  obtain ⟨⟨h0, hz⟩, h1⟩ := h
  have hlt : 0 < s.size := by omega
  unfold numI
  rw [if_neg (by omega)]
  show numP s 0 = _
  unfold numP
  rw [digZ_rn s 0 hlt]
  have hz' : ¬ digZ (Utf8.decode s 0).1 = 0 := hz
  rw [if_neg hz']
  exact nu_one s _ s.size 0 0 h1 (by omega) (by omega) (by omega)

/-! ### A character by itself -/
def okR (r : Int) : Bool := Utf8.valid r
theorem enc_back (r : Int) : Utf8.decode (Utf8.encode r) 0 = (if Utf8.valid r then r.toNat else 65533, (Utf8.encode r).size) ∧ 1 ≤ (Utf8.encode r).size := by
  have hc : ∃ c : Nat, (if Utf8.valid r then r.toNat else 65533) = c ∧ (c < 55296 ∨ (57344 ≤ c ∧ c ≤ 1114111)) := by
    refine ⟨_, rfl, ?_⟩
    by_cases h : Utf8.valid r = true
    · rw [if_pos h]
      simp [Utf8.valid] at h
      omega
    · rw [if_neg h]; omega
  obtain ⟨c, hc, hv⟩ := hc
  have e : Utf8.encode r = if c < 0x80 then ⟨#[UInt8.ofNat c]⟩
    else if c < 0x800 then ⟨#[UInt8.ofNat (0xC0 + c / 64), UInt8.ofNat (0x80 + c % 64)]⟩
    else if c < 0x10000 then ⟨#[UInt8.ofNat (0xE0 + c / 4096), UInt8.ofNat (0x80 + c / 64 % 64), UInt8.ofNat (0x80 + c % 64)]⟩
    else ⟨#[UInt8.ofNat (0xF0 + c / 262144), UInt8.ofNat (0x80 + c / 4096 % 64), UInt8.ofNat (0x80 + c / 64 % 64), UInt8.ofNat (0x80 + c % 64)]⟩ := by
    have hc' : (if Utf8.valid r = true then r.toNat else Utf8.runeError) = c := hc
    simp only [Utf8.encode, hc']
  rw [hc]
  have n1 : ∀ x : Nat, x < 256 → (UInt8.ofNat x).toNat = x := fun x hx => by simp [UInt8.toNat_ofNat]; omega
  by_cases h1 : c < 0x80
  · rw [e, if_pos h1, decode_at]
    have g0 : ((⟨#[UInt8.ofNat c]⟩ : ByteArray).get! 0).toNat = c := n1 c (by omega)
    rw [g0]
    refine ⟨?_, Nat.le_refl _⟩
    unfold decodeN
    rw [if_pos (by omega)]
    rfl
  by_cases h2 : c < 0x800
  · rw [e, if_neg h1, if_pos h2, decode_at]
    have g0 : ((⟨#[UInt8.ofNat (0xC0 + c / 64), UInt8.ofNat (0x80 + c % 64)]⟩ : ByteArray).get! 0).toNat = 0xC0 + c / 64 := n1 _ (by omega)
    have g1 : ((⟨#[UInt8.ofNat (0xC0 + c / 64), UInt8.ofNat (0x80 + c % 64)]⟩ : ByteArray).get! (0 + 1)).toNat = 0x80 + c % 64 := n1 _ (by omega)
    have gs : (⟨#[UInt8.ofNat (0xC0 + c / 64), UInt8.ofNat (0x80 + c % 64)]⟩ : ByteArray).size = 2 := rfl
    rw [g0, g1, gs]
    refine ⟨?_, by omega⟩
    unfold decodeN
    rw [if_neg (by omega), if_pos (by omega), if_pos (by omega)]
    exact Prod.ext (by simp only; omega) rfl
  by_cases h3 : c < 0x10000
  · rw [e, if_neg h1, if_neg h2, if_pos h3, decode_at]
    have g0 : ((⟨#[UInt8.ofNat (0xE0 + c / 4096), UInt8.ofNat (0x80 + c / 64 % 64), UInt8.ofNat (0x80 + c % 64)]⟩ : ByteArray).get! 0).toNat = 0xE0 + c / 4096 := n1 _ (by omega)
    have g1 : ((⟨#[UInt8.ofNat (0xE0 + c / 4096), UInt8.ofNat (0x80 + c / 64 % 64), UInt8.ofNat (0x80 + c % 64)]⟩ : ByteArray).get! (0 + 1)).toNat = 0x80 + c / 64 % 64 := n1 _ (by omega)
    have g2 : ((⟨#[UInt8.ofNat (0xE0 + c / 4096), UInt8.ofNat (0x80 + c / 64 % 64), UInt8.ofNat (0x80 + c % 64)]⟩ : ByteArray).get! (0 + 2)).toNat = 0x80 + c % 64 := n1 _ (by omega)
    have gs : (⟨#[UInt8.ofNat (0xE0 + c / 4096), UInt8.ofNat (0x80 + c / 64 % 64), UInt8.ofNat (0x80 + c % 64)]⟩ : ByteArray).size = 3 := rfl
    rw [g0, g1, g2, gs]
    refine ⟨?_, by omega⟩
    unfold decodeN
    rw [if_neg (by omega), if_neg (by omega), if_pos (by omega), if_pos (by omega)]
    exact Prod.ext (by simp only; omega) rfl
  · rw [e, if_neg h1, if_neg h2, if_neg h3, decode_at]
    have g0 : ((⟨#[UInt8.ofNat (0xF0 + c / 262144), UInt8.ofNat (0x80 + c / 4096 % 64), UInt8.ofNat (0x80 + c / 64 % 64), UInt8.ofNat (0x80 + c % 64)]⟩ : ByteArray).get! 0).toNat = 0xF0 + c / 262144 := n1 _ (by omega)
    have g1 : ((⟨#[UInt8.ofNat (0xF0 + c / 262144), UInt8.ofNat (0x80 + c / 4096 % 64), UInt8.ofNat (0x80 + c / 64 % 64), UInt8.ofNat (0x80 + c % 64)]⟩ : ByteArray).get! (0 + 1)).toNat = 0x80 + c / 4096 % 64 := n1 _ (by omega)
    have g2 : ((⟨#[UInt8.ofNat (0xF0 + c / 262144), UInt8.ofNat (0x80 + c / 4096 % 64), UInt8.ofNat (0x80 + c / 64 % 64), UInt8.ofNat (0x80 + c % 64)]⟩ : ByteArray).get! (0 + 2)).toNat = 0x80 + c / 64 % 64 := n1 _ (by omega)
    have g3 : ((⟨#[UInt8.ofNat (0xF0 + c / 262144), UInt8.ofNat (0x80 + c / 4096 % 64), UInt8.ofNat (0x80 + c / 64 % 64), UInt8.ofNat (0x80 + c % 64)]⟩ : ByteArray).get! (0 + 3)).toNat = 0x80 + c % 64 := n1 _ (by omega)
    have gs : (⟨#[UInt8.ofNat (0xF0 + c / 262144), UInt8.ofNat (0x80 + c / 4096 % 64), UInt8.ofNat (0x80 + c / 64 % 64), UInt8.ofNat (0x80 + c % 64)]⟩ : ByteArray).size = 4 := rfl
    rw [g0, g1, g2, g3, gs]
    refine ⟨?_, by omega⟩
    unfold decodeN
    rw [if_neg (by omega), if_neg (by omega), if_neg (by omega), if_pos (by omega), if_pos (by omega)]
    exact Prod.ext (by simp only; omega) rfl

theorem digZ_enc (r : Int) (hr : 0 ≤ r) : digZ (Utf8.decode (Utf8.encode r) 0).1 = digZ r ∧ digV (Utf8.decode (Utf8.encode r) 0).1 = digV r := by
  rw [(enc_back r).1]
  by_cases h : Utf8.valid r = true
  · rw [if_pos h]
    simp only
    rw [Int.toNat_of_nonneg hr]
    exact ⟨rfl, rfl⟩
  · rw [if_neg h]
    have hb : ¬ hasB 48 57 r = true ∧ ¬ hasB 1632 1641 r = true ∧ ¬ hasB 65296 65305 r = true := by
      simp [Utf8.valid] at h
      simp only [hasB, decide_eq_true_eq]
      omega
    constructor
    · have : digZ r = 0 := by unfold digZ; rw [if_neg hb.1, if_neg hb.2.1, if_neg hb.2.2]
      rw [this]; show digZ ((65533 : Nat) : Int) = 0; decide
    · have : digV r = -1 := by unfold digV; rw [if_neg hb.1, if_neg hb.2.1, if_neg hb.2.2]
      rw [this]; show digV ((65533 : Nat) : Int) = -1; decide
/-- Number of one character. -/
theorem num_char (r : Int) (hr : 0 ≤ r) : numI (Utf8.encode r) 0 = if digZ r = 0 then (0, 0, 11) else ((digV r).toNat, (Utf8.encode r).size, 0) := by
  obtain ⟨hd, hs⟩ := enc_back r
  obtain ⟨hz, hv⟩ := digZ_enc r hr
  unfold numI
  rw [if_neg (by omega)]
  show numP (Utf8.encode r) 0 = _
  unfold numP
  rw [digZ_rn _ 0 (by omega), hz]
  by_cases h0 : digZ r = 0
  · rw [if_pos h0, if_pos h0]
  · rw [if_neg h0, if_neg h0]
    obtain ⟨f, hf⟩ : ∃ f, (Utf8.encode r).size = f + 1 := ⟨(Utf8.encode r).size - 1, by omega⟩
    have hv' := (digV_eq r h0).2
    have h2 : (Utf8.decode (Utf8.encode r) 0).2 = (Utf8.encode r).size := by rw [hd]
    have e := nuF_on (Utf8.encode r) (digZ r) f 0 0 (by omega) hz (by rw [hv]; omega)
    rw [hf, e, Nat.zero_add, h2, hv, nuF_end _ _ _ _ _ (by omega), hf]
    simp

/-! ### The minus -/
def cutR (s : ByteArray) : ByteArray × Bool := if rn s 0 = 45 then (s.extract 1 s.size, true) else if rn s 0 = 8722 then (s.extract 3 s.size, true) else (s, false)
def most (m : Bool) : Nat := if m then 9223372036854775808 else 9223372036854775807
/-- What is read. -/
def rdA (s : ByteArray) : Int × Int :=
  if 4096 < s.size then (0, 3)
  else if one (cutR s).1 then (if most (cutR s).2 < vaA (cutR s).1 then (0, 10) else (if (cutR s).2 then -(vaA (cutR s).1 : Int) else vaA (cutR s).1, 0))
  else (0, 6)
theorem rdA_in (s : ByteArray) : i6 (rdA s).1 := by
  unfold rdA most
  (repeat' split) <;> (unfold i6; simp only [] at *; try omega)
end Go.Proofs.YtpdohdmpjaklgaaDoor
