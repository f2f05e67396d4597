/-
  Plain facts: bad bytes, widths and runes as the document tells them.
-/
import Derived.Test.YtfhfokceeidhcaaDoorDecPure
set_option linter.unusedSimpArgs false
set_option linter.unusedVariables false
namespace Go.Proofs.YtfhfokceeidhcaaDoor
open Go.Lib

/-- A byte that belongs to no character. -/
def bad (s : ByteArray) (pos : Nat) : Bool := (Utf8.decode s pos).1 == 65533 && (Utf8.decode s pos).2 == 1
/-- U+FFFD, written out. -/
def fffd : List UInt8 := [239, 191, 189]

theorem decodeN_fffd (n b0 b1 b2 b3 : Nat) (h0 : b0 < 256) (h1 : b1 < 256) (h2 : b2 < 256) (h3 : b3 < 256) (h : (decodeN n b0 b1 b2 b3).1 = 65533) (hw : (decodeN n b0 b1 b2 b3).2 ≠ 1) : 2 < n ∧ b0 = 239 ∧ b1 = 191 ∧ b2 = 189 := by
  revert h hw
  unfold decodeN
  repeat' split
  all_goals simp
  all_goals omega
theorem decodeN_written (n b3 : Nat) (h : 2 < n) : decodeN n 239 191 189 b3 = (65533, 3) := by
  have h1 : 1 < n := by omega
  simp [decodeN, h, h1]
theorem decodeN_width (n b0 b1 b2 b3 : Nat) : 1 ≤ (decodeN n b0 b1 b2 b3).2 ∧ (decodeN n b0 b1 b2 b3).2 ≤ 4 := by
  unfold decodeN
  repeat' split
  all_goals simp

theorem bytes3 (s : ByteArray) (pos : Nat) (h : pos + 3 ≤ s.size) : (s.extract pos (pos + 3)).data.toList = [s.get! pos, s.get! (pos + 1), s.get! (pos + 2)] := by
  rw [extract_data]
  have e : pos + 3 - pos = 3 := by omega
  rw [e]
  have hl : s.data.toList.length = s.size := (size_eq s).symm
  rw [List.drop_eq_getElem_cons (by omega), List.drop_eq_getElem_cons (by omega), List.drop_eq_getElem_cons (by omega)]
  simp only [List.take_succ_cons, List.take_zero, List.cons.injEq, and_true]
  have g : ∀ (k : Nat) (hk : k < s.size), s.data.toList[k]'(by omega) = s.get! k := by
    intro k hk
    rw [Utf8W.get!_of_lt s k hk]; rfl
  exact ⟨g pos (by omega), g (pos + 1) (by omega), g (pos + 2) (by omega)⟩

theorem bad_iff (s : ByteArray) (pos : Nat) (hr : (Utf8.decode s pos).1 = 65533) : bad s pos = false ↔ (pos + 3 ≤ s.size ∧ (s.extract pos (pos + 3)).data.toList = fffd) := by
  have hb : ∀ k, (s.get! k).toNat < 256 := fun k => (s.get! k).toNat_lt
  have u8 : ∀ (a : UInt8) (n : Nat) (hn : n < 256), a.toNat = n → a = UInt8.ofNat n := by
    intro a n hn h; subst h; simp
  constructor
  · intro h
    have hw : (Utf8.decode s pos).2 ≠ 1 := by
      simp [bad, hr] at h; exact h
    rw [decode_at] at hr hw
    obtain ⟨hn, e0, e1, e2⟩ := decodeN_fffd _ _ _ _ _ (hb _) (hb _) (hb _) (hb _) hr hw
    have h3 : pos + 3 ≤ s.size := by omega
    refine ⟨h3, ?_⟩
    rw [bytes3 s pos h3, u8 _ 239 (by omega) e0, u8 _ 191 (by omega) e1, u8 _ 189 (by omega) e2]
    rfl
  · rintro ⟨h3, he⟩
    rw [bytes3 s pos h3] at he
    simp only [fffd, List.cons.injEq, and_true] at he
    obtain ⟨e0, e1, e2⟩ := he
    have hd : Utf8.decode s pos = (65533, 3) := by
      rw [decode_at, e0, e1, e2]
      exact decodeN_written _ _ (by omega)
    simp [bad, hd]

/-- The width of the character at pos: 0 for a bad byte. -/
def wd (s : ByteArray) (pos : Nat) : Nat := if bad s pos then 0 else (Utf8.decode s pos).2
def wdE (s : ByteArray) (pos : Nat) : Nat := if pos < s.size then wd s pos else 0
/-- The character at pos: -1 for a bad byte and at the end. -/
def rn (s : ByteArray) (pos : Nat) : Int := if pos < s.size then (if bad s pos then -1 else (Utf8.decode s pos).1) else -1
theorem bad_eq {s : ByteArray} {pos : Nat} (h : bad s pos = true) : Utf8.decode s pos = (65533, 1) := by
  simp [bad] at h; exact Prod.ext h.1 h.2
theorem kd_rn (s : ByteArray) (pos : Nat) (h : pos < s.size) : kd (rn s pos) = kd (Utf8.decode s pos).1 := by
  unfold rn
  rw [if_pos h]
  cases hb : bad s pos
  · rfl
  · rw [bad_eq hb]; decide
theorem onB_rn (s : ByteArray) (pos : Nat) (h : pos < s.size) : onB (rn s pos) = onB (Utf8.decode s pos).1 := by
  unfold onB; rw [kd_rn s pos h]
end Go.Proofs.YtfhfokceeidhcaaDoor
