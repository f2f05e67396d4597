/-
  Plain facts on the steps of a range over a text, of its tails, and of the order of two texts.
-/
import Derived.Test.YtkdcjkhpbbcncaaDoorPure
import Derived.Lib.RuneCountTail
set_option linter.unusedSimpArgs false
set_option linter.unusedVariables false
namespace Go.Proofs.YtkdcjkhpbbcncaaDoor
open Go.Lib

theorem tail_size (s : ByteArray) (k : Nat) : (s.extract k s.size).size = s.size - k := by simp [ByteArray.size_extract]
theorem dec_tail (s : ByteArray) (k i : Nat) : Utf8.decode (s.extract k s.size) i = Utf8.decode s (k + i) := by
  rw [decode_at, decode_at, tail_size, tail_get!, tail_get!, tail_get!, tail_get!]
  have : s.size - k - i = s.size - (k + i) := by omega
  rw [this]
  simp [Nat.add_assoc]
theorem decodeN_le (n b0 b1 b2 b3 : Nat) (h : 0 < n) : (decodeN n b0 b1 b2 b3).2 ≤ n := by
  unfold decodeN
  repeat' split
  all_goals first | omega | (simp only; omega)
theorem dec_le (s : ByteArray) (pos : Nat) (h : pos < s.size) : pos + (Utf8.decode s pos).2 ≤ s.size := by
  have := decodeN_le (s.size - pos) (s.get! pos).toNat (s.get! (pos + 1)).toNat (s.get! (pos + 2)).toNat (s.get! (pos + 3)).toNat (by omega)
  rw [decode_at]; omega
theorem decGo (s : ByteArray) (h : s.size ≠ 0) : decodeGo s = Utf8.decode s 0 := by simp [decodeGo, h]
theorem decGo_tail (s : ByteArray) (k : Nat) (h : k < s.size) : decodeGo (s.extract k s.size) = Utf8.decode s k := by
  rw [decGo _ (by rw [tail_size]; omega), dec_tail]; rfl
theorem tail_tail (s : ByteArray) (k j : Nat) : (s.extract k s.size).extract j (s.extract k s.size).size = s.extract (k + j) s.size := by
  apply ByteArray.ext
  apply Array.ext'
  rw [extract_data, extract_data, extract_data, tail_size]
  rw [List.drop_take, List.take_take, List.drop_drop]
  congr 1
  omega

theorem runesFrom_fuel (s : ByteArray) : ∀ (f g pos : Nat), s.size ≤ pos + f → s.size ≤ pos + g → runesFrom s f pos = runesFrom s g pos
  | 0, g, pos, h, _ => by rw [runesFrom_end s 0 pos (by omega), runesFrom_end s g pos (by omega)]
  | f + 1, 0, pos, _, h => by rw [runesFrom_end s 0 pos (by omega), runesFrom_end s _ pos (by omega)]
  | f + 1, g + 1, pos, hf, hg => by
    by_cases hp : pos < s.size
    · have hw := width_pos s pos hp
      rw [runesFrom_cons s f pos hp, runesFrom_cons s g pos hp, runesFrom_fuel s f g _ (by omega) (by omega)]
    · rw [runesFrom_end s _ pos hp, runesFrom_end s _ pos hp]

theorem empty_yes (s : ByteArray) (h : s.size = 0) : s.toList.isEmpty = true := by
  rw [Lib.toList_data]
  have : s.data.toList = [] := List.eq_nil_of_length_eq_zero (by rw [← Lib.size_eq]; exact h)
  rw [this]; rfl
theorem empty_no (s : ByteArray) (h : ¬ s.size = 0) : s.toList.isEmpty = false := by
  rw [Lib.toList_data]
  cases h' : s.data.toList with
  | nil => exact absurd (by rw [Lib.size_eq, h']; rfl) h
  | cons _ _ => rfl

/-- The runes of a text. -/
def rl (s : ByteArray) : List Int := runesFrom s s.size 0
theorem runesFrom_tail (s : ByteArray) (k : Nat) : ∀ (f pos : Nat), runesFrom (s.extract k s.size) f pos = runesFrom s f (k + pos)
  | 0, _ => rfl
  | f + 1, pos => by
    by_cases hp : k + pos < s.size
    · rw [runesFrom_cons s f _ hp, runesFrom_cons _ f pos (by rw [tail_size]; omega), dec_tail, runesFrom_tail s k f, Nat.add_assoc]
    · rw [runesFrom_end s _ _ hp, runesFrom_end _ _ _ (by rw [tail_size]; omega)]
theorem rl_tail (s : ByteArray) (k : Nat) : rl (s.extract k s.size) = runesFrom s s.size k := by
  unfold rl
  rw [runesFrom_tail, tail_size]
  by_cases h : k ≤ s.size
  · exact runesFrom_fuel s _ _ _ (by omega) (by omega)
  · rw [runesFrom_end s _ _ (by omega), runesFrom_end s _ _ (by omega)]
theorem rl_nil (s : ByteArray) (h : s.size = 0) : rl s = [] := runesFrom_end s _ 0 (by omega)
theorem rl_cons (s : ByteArray) (h : s.size ≠ 0) : rl s = ((decodeGo s).1 : Int) :: rl (s.extract (decodeGo s).2 s.size) := by
  have hp : 0 < s.size := by omega
  have hw := width_pos s 0 hp
  rw [rl_tail, decGo s h]
  unfold rl
  obtain ⟨f, hf⟩ : ∃ f, s.size = f + 1 := ⟨s.size - 1, by omega⟩
  rw [hf, runesFrom_cons s f 0 hp, runesFrom_fuel s f (f + 1) (0 + _) (by omega) (by omega), Nat.zero_add]

/-! ### The order of two texts -/
def cmp3 (a b : Int) : Int := if a < b then -1 else if b < a then 1 else 0
def cmpL : List Int → List Int → Int
  | [], [] => 0
  | [], _ :: _ => -1
  | _ :: _, [] => 1
  | a :: l, b :: m => if cmp3 a b = 0 then cmpL l m else cmp3 a b
def ordI (s t : ByteArray) : Int := cmpL (rl s) (rl t)
end Go.Proofs.YtkdcjkhpbbcncaaDoor

namespace Go.Proofs.YtkdcjkhpbbcncaaDoor
open Go.Lib

/-- A byte that belongs to no character. -/
def bad (s : ByteArray) (pos : Nat) : Bool := (Utf8.decode s pos).1 == 65533 && (Utf8.decode s pos).2 == 1
/-- U+FFFD, written out. -/
def fffd : List UInt8 := [239, 191, 189]

theorem decodeN_fffd (n b0 b1 b2 b3 : Nat) (h0 : b0 < 256) (h1 : b1 < 256) (h2 : b2 < 256) (h3 : b3 < 256) (h : (decodeN n b0 b1 b2 b3).1 = 65533) (hw : (decodeN n b0 b1 b2 b3).2 ≠ 1) : 2 < n ∧ b0 = 239 ∧ b1 = 191 ∧ b2 = 189 := by
  revert h hw
  unfold decodeN
  repeat' split
  all_goals simp
  all_goals omega
theorem decodeN_written (n b3 : Nat) (h : 2 < n) : decodeN n 239 191 189 b3 = (65533, 3) := by
  have h1 : 1 < n := by omega
  simp [decodeN, h, h1]
theorem decodeN_width (n b0 b1 b2 b3 : Nat) : 1 ≤ (decodeN n b0 b1 b2 b3).2 ∧ (decodeN n b0 b1 b2 b3).2 ≤ 4 := by
  unfold decodeN
  repeat' split
  all_goals simp

theorem bytes3 (s : ByteArray) (pos : Nat) (h : pos + 3 ≤ s.size) : (s.extract pos (pos + 3)).data.toList = [s.get! pos, s.get! (pos + 1), s.get! (pos + 2)] := by
  rw [extract_data]
  have e : pos + 3 - pos = 3 := by omega
  rw [e]
  have hl : s.data.toList.length = s.size := (size_eq s).symm
  rw [List.drop_eq_getElem_cons (by omega), List.drop_eq_getElem_cons (by omega), List.drop_eq_getElem_cons (by omega)]
  simp only [List.take_succ_cons, List.take_zero, List.cons.injEq, and_true]
  have g : ∀ (k : Nat) (hk : k < s.size), s.data.toList[k]'(by omega) = s.get! k := by
    intro k hk
    rw [Utf8W.get!_of_lt s k hk]; rfl
  exact ⟨g pos (by omega), g (pos + 1) (by omega), g (pos + 2) (by omega)⟩

theorem bad_iff (s : ByteArray) (pos : Nat) (hr : (Utf8.decode s pos).1 = 65533) : bad s pos = false ↔ (pos + 3 ≤ s.size ∧ (s.extract pos (pos + 3)).data.toList = fffd) := by
  have hb : ∀ k, (s.get! k).toNat < 256 := fun k => (s.get! k).toNat_lt
  have u8 : ∀ (a : UInt8) (n : Nat) (hn : n < 256), a.toNat = n → a = UInt8.ofNat n := by
    intro a n hn h; subst h; simp
  constructor
  · intro h
    have hw : (Utf8.decode s pos).2 ≠ 1 := by
      simp [bad, hr] at h; exact h
    rw [decode_at] at hr hw
    obtain ⟨hn, e0, e1, e2⟩ := decodeN_fffd _ _ _ _ _ (hb _) (hb _) (hb _) (hb _) hr hw
    have h3 : pos + 3 ≤ s.size := by omega
    refine ⟨h3, ?_⟩
    rw [bytes3 s pos h3, u8 _ 239 (by omega) e0, u8 _ 191 (by omega) e1, u8 _ 189 (by omega) e2]
    rfl
  · rintro ⟨h3, he⟩
    rw [bytes3 s pos h3] at he
    simp only [fffd, List.cons.injEq, and_true] at he
    obtain ⟨e0, e1, e2⟩ := he
    have hd : Utf8.decode s pos = (65533, 3) := by
      rw [decode_at, e0, e1, e2]
      exact decodeN_written _ _ (by omega)
    simp [bad, hd]

/-- The width of the character at pos: 0 for a bad byte. -/
def wd (s : ByteArray) (pos : Nat) : Nat := if bad s pos then 0 else (Utf8.decode s pos).2
def wdE (s : ByteArray) (pos : Nat) : Nat := if pos < s.size then wd s pos else 0
/-- The character at pos: -1 for a bad byte and at the end. -/
def rn (s : ByteArray) (pos : Nat) : Int := if pos < s.size then (if bad s pos then -1 else (Utf8.decode s pos).1) else -1
theorem bad_eq {s : ByteArray} {pos : Nat} (h : bad s pos = true) : Utf8.decode s pos = (65533, 1) := by
  simp [bad] at h; exact Prod.ext h.1 h.2
theorem kd_rn (s : ByteArray) (pos : Nat) (h : pos < s.size) : kd (rn s pos) = kd (Utf8.decode s pos).1 := by
  unfold rn
  rw [if_pos h]
  cases hb : bad s pos
  · rfl
  · rw [bad_eq hb]; decide
theorem onB_rn (s : ByteArray) (pos : Nat) (h : pos < s.size) : onB (rn s pos) = onB (Utf8.decode s pos).1 := by
  unfold onB; rw [kd_rn s pos h]
end Go.Proofs.YtkdcjkhpbbcncaaDoor

namespace Go.Proofs.YtkdcjkhpbbcncaaDoor
open Go.Lib

/-! ### Check -/
def chkF (s : ByteArray) : Nat → Nat → Nat × Int
  | 0, _ => (0, 0)
  | f + 1, pos => if pos < s.size then (if bad s pos then (pos, 4) else chkF s f (pos + (Utf8.decode s pos).2)) else (0, 0)
def chk (s : ByteArray) : Nat × Int := chkF s s.size 0
theorem chkF_bad (s : ByteArray) (f pos : Nat) (h : pos < s.size) (hb : bad s pos = true) : chkF s (f + 1) pos = (pos, 4) := by simp [chkF, h, hb]
theorem chkF_good (s : ByteArray) (f pos : Nat) (h : pos < s.size) (hb : bad s pos = false) : chkF s (f + 1) pos = chkF s f (pos + (Utf8.decode s pos).2) := by simp [chkF, h, hb]
theorem chkF_end (s : ByteArray) (f pos : Nat) (h : ¬ pos < s.size) : chkF s f pos = (0, 0) := by cases f <;> simp [chkF, h]

/-! ### Span -/
def spF (s : ByteArray) : Nat → Nat → Nat
  | 0, pos => pos
  | f + 1, pos => if pos < s.size then (if onB (Utf8.decode s pos).1 then spF s f (pos + (Utf8.decode s pos).2) else pos) else pos
theorem spF_on (s : ByteArray) (f pos : Nat) (h : pos < s.size) (ho : onB (Utf8.decode s pos).1 = true) : spF s (f + 1) pos = spF s f (pos + (Utf8.decode s pos).2) := by simp [spF, h, ho]
theorem spF_off (s : ByteArray) (f pos : Nat) (h : pos < s.size) (ho : onB (Utf8.decode s pos).1 = false) : spF s f pos = pos := by cases f <;> simp [spF, h, ho]
theorem spF_end (s : ByteArray) (f pos : Nat) (h : ¬ pos < s.size) : spF s f pos = pos := by cases f <;> simp [spF, h]
/-- The end of the name that begins at pos, and the error. -/
def spanP (s : ByteArray) (pos : Nat) : Int × Int := if kd (rn s pos) = 1 then ((spF s s.size pos : Nat), 0) else (0, 11)
def spanI (s : ByteArray) (at_ : Int) : Int × Int := if at_ < 0 ∨ (s.size : Int) < at_ then (0, 2) else spanP s at_.toNat

/-! ### Number -/
theorem kd_two (r : Int) : kd r = 2 ↔ digZ r ≠ 0 := by
  rw [kd_eq]
  constructor
  · intro h
    have hd : 0 ≤ digV r := by
      unfold kindR at h
      split at h
      · omega
      · split at h
        · assumption
        · split at h
          · omega
          · split at h
            · omega
            · unfold sgnK at h; split at h <;> omega
    unfold digV at hd
    unfold digZ
    repeat' split
    all_goals simp_all
  · intro h
    have hc : (48 ≤ r ∧ r ≤ 57) ∨ (1632 ≤ r ∧ r ≤ 1641) ∨ (65296 ≤ r ∧ r ≤ 65305) := by
      unfold digZ at h
      simp only [hasB, decide_eq_true_eq] at h
      split at h
      · exact .inl ‹_›
      · split at h
        · exact .inr (.inl ‹_›)
        · split at h
          · exact .inr (.inr ‹_›)
          · exact absurd rfl h
    have hl : letB r = false := by
      have : ¬ letB r = true := by
        rw [← lets_eq]
        simp only [lets, spanTab, List.take_succ_cons, List.take_zero, List.any_cons, List.any_nil, hasB]
        simp
        omega
      simpa using this
    have hd : 0 ≤ digV r := by
      unfold digV
      simp only [hasB, decide_eq_true_eq]
      repeat' split
      all_goals omega
    simp [kindR, hl, hd]
theorem spn_digit (r : Int) (h : digZ r ≠ 0) : spn r = (digZ r, digZ r + 9, 2) := by
  have hc : (48 ≤ r ∧ r ≤ 57) ∨ (1632 ≤ r ∧ r ≤ 1641) ∨ (65296 ≤ r ∧ r ≤ 65305) := by
    unfold digZ at h
    simp only [hasB, decide_eq_true_eq] at h
    split at h
    · exact .inl ‹_›
    · split at h
      · exact .inr (.inl ‹_›)
      · split at h
        · exact .inr (.inr ‹_›)
        · exact absurd rfl h
  have hn : ∀ p ∈ lets, hasB p.1 p.2.1 r = false := by
    have : ∀ p ∈ lets, ¬ (p.1 ≤ r ∧ r ≤ p.2.1) := by
      simp only [lets, spanTab, List.take_succ_cons, List.take_zero, List.mem_cons, List.not_mem_nil, or_false]
      intro p hp
      rcases hp with rfl | rfl | rfl | rfl | rfl | rfl | rfl | rfl | rfl | rfl | rfl | rfl | rfl <;> simp only <;> omega
    intro p hp
    simpa [hasB] using this p hp
  have hskip : ∀ (l m : List (Int × Int × Int)), (∀ p ∈ l, hasB p.1 p.2.1 r = false) → spanIn (l ++ m) r = spanIn m r := by
    intro l m
    induction l with
    | nil => intro _; rfl
    | cons p l ih =>
      intro hp
      have h1 := hp p (by simp)
      simp only [List.cons_append, spanIn, h1]
      exact ih (fun q hq => hp q (by simp [hq]))
  unfold spn
  rw [spanTab_parts, hskip lets _ hn]
  simp only [digs, spanTab, List.drop_succ_cons, List.drop_zero, List.take_succ_cons, List.take_zero, List.cons_append, spanIn, digZ]
  rcases hc with hc | hc | hc
  · have h1 : hasB 48 57 r = true := by simpa [hasB] using hc
    simp [h1]
  · have h1 : hasB 48 57 r = false := by simp [hasB]; omega
    have h2 : hasB 1632 1641 r = true := by simpa [hasB] using hc
    simp [h1, h2]
  · have h1 : hasB 48 57 r = false := by simp [hasB]; omega
    have h2 : hasB 1632 1641 r = false := by simp [hasB]; omega
    have h3 : hasB 65296 65305 r = true := by simpa [hasB] using hc
    simp [h1, h2, h3]
/-- A rune is a digit of the script of z. -/
theorem digZ_has (z r : Int) (hz : z = 48 ∨ z = 1632 ∨ z = 65296) : hasB z (z + 9) r = true ↔ digZ r = z := by
  unfold digZ
  simp only [hasB, decide_eq_true_eq]
  rcases hz with rfl | rfl | rfl <;> (repeat' split) <;> omega
theorem digZ_cases (r : Int) (h : digZ r ≠ 0) : digZ r = 48 ∨ digZ r = 1632 ∨ digZ r = 65296 := by
  unfold digZ at *
  simp only [hasB, decide_eq_true_eq] at *
  repeat' split
  all_goals simp_all
theorem digV_eq (r : Int) (h : digZ r ≠ 0) : digV r = r - digZ r ∧ 0 ≤ digV r ∧ digV r ≤ 9 := by
  unfold digZ digV at *
  simp only [hasB, decide_eq_true_eq] at *
  repeat' split
  all_goals simp_all
  all_goals omega

/-- The number from pos on, n ahead of it: value, end, error. -/
def nuF (s : ByteArray) (z : Int) : Nat → Nat → Nat → Nat × Nat × Int
  | 0, pos, n => (n, pos, 0)
  | f + 1, pos, n => if pos < s.size then
      (if digZ (Utf8.decode s pos).1 = z then
        (if 18446744073709551615 < n * 10 + (digV (Utf8.decode s pos).1).toNat then (0, 0, 10) else nuF s z f (pos + (Utf8.decode s pos).2) (n * 10 + (digV (Utf8.decode s pos).1).toNat))
       else (n, pos, 0))
     else (n, pos, 0)
theorem nuF_end (s : ByteArray) (z : Int) (f pos n : Nat) (h : ¬ pos < s.size) : nuF s z f pos n = (n, pos, 0) := by cases f <;> simp [nuF, h]
theorem nuF_off (s : ByteArray) (z : Int) (f pos n : Nat) (h : ¬ digZ (Utf8.decode s pos).1 = z) : nuF s z f pos n = (n, pos, 0) := by cases f <;> simp [nuF, h]
theorem nuF_large (s : ByteArray) (z : Int) (f pos n : Nat) (h : pos < s.size) (hz : digZ (Utf8.decode s pos).1 = z) (hl : 18446744073709551615 < n * 10 + (digV (Utf8.decode s pos).1).toNat) : nuF s z (f + 1) pos n = (0, 0, 10) := by
  simp [nuF, h, hz, hl]
theorem nuF_on (s : ByteArray) (z : Int) (f pos n : Nat) (h : pos < s.size) (hz : digZ (Utf8.decode s pos).1 = z) (hl : ¬ 18446744073709551615 < n * 10 + (digV (Utf8.decode s pos).1).toNat) : nuF s z (f + 1) pos n = nuF s z f (pos + (Utf8.decode s pos).2) (n * 10 + (digV (Utf8.decode s pos).1).toNat) := by
  simp [nuF, h, hz, hl]
def numP (s : ByteArray) (pos : Nat) : Nat × Nat × Int := if digZ (rn s pos) = 0 then (0, 0, 11) else nuF s (digZ (rn s pos)) s.size pos 0
def numI (s : ByteArray) (at_ : Int) : Nat × Nat × Int := if at_ < 0 ∨ (s.size : Int) < at_ then (0, 0, 2) else numP s at_.toNat
theorem digZ_rn (s : ByteArray) (pos : Nat) (h : pos < s.size) : digZ (rn s pos) = digZ (Utf8.decode s pos).1 := by
  unfold rn
  rw [if_pos h]
  cases hb : bad s pos
  · rfl
  · rw [bad_eq hb]; decide
theorem digV_rn (s : ByteArray) (pos : Nat) (h : pos < s.size) : digV (rn s pos) = digV (Utf8.decode s pos).1 := by
  unfold rn
  rw [if_pos h]
  cases hb : bad s pos
  · rfl
  · rw [bad_eq hb]; decide

/-! ### Column -/
/-- Line and first place of the line behind the first i bytes. -/
def lnF (s : ByteArray) : Nat → Nat × Nat
  | 0 => (1, 0)
  | i + 1 => if s.get! i = 10 then ((lnF s i).1 + 1, i + 1) else lnF s i
def coF (s : ByteArray) : Nat → Nat → Nat → Nat → Nat × Nat
  | 0, _, l, c => (l, c)
  | f + 1, pos, l, c => if pos < s.size then (if (Utf8.decode s pos).1 = 10 then coF s f (pos + (Utf8.decode s pos).2) (l + 1) 1 else coF s f (pos + (Utf8.decode s pos).2) l (c + 1)) else (l, c)
theorem coF_end (s : ByteArray) (f pos l c : Nat) (h : ¬ pos < s.size) : coF s f pos l c = (l, c) := by cases f <;> simp [coF, h]
theorem coF_nl (s : ByteArray) (f pos l c : Nat) (h : pos < s.size) (hr : (Utf8.decode s pos).1 = 10) : coF s (f + 1) pos l c = coF s f (pos + (Utf8.decode s pos).2) (l + 1) 1 := by simp [coF, h, hr]
theorem coF_on (s : ByteArray) (f pos l c : Nat) (h : pos < s.size) (hr : ¬ (Utf8.decode s pos).1 = 10) : coF s (f + 1) pos l c = coF s f (pos + (Utf8.decode s pos).2) l (c + 1) := by simp [coF, h, hr]

theorem decodeN_ten (n b0 b1 b2 b3 : Nat) (h : (decodeN n b0 b1 b2 b3).1 = 10) : b0 = 10 ∧ (decodeN n b0 b1 b2 b3).2 = 1 := by
  revert h
  unfold decodeN
  repeat' split
  all_goals simp
  all_goals omega
theorem decodeN_noten (n b0 b1 b2 b3 : Nat) (h : ¬ (decodeN n b0 b1 b2 b3).1 = 10) : b0 ≠ 10 ∧ (2 ≤ (decodeN n b0 b1 b2 b3).2 → b1 ≠ 10) ∧ (3 ≤ (decodeN n b0 b1 b2 b3).2 → b2 ≠ 10) ∧ (4 ≤ (decodeN n b0 b1 b2 b3).2 → b3 ≠ 10) := by
  revert h
  unfold decodeN
  repeat' split
  all_goals simp
  all_goals omega
theorem byte_ten (a : UInt8) : a = 10 ↔ a.toNat = 10 := ⟨fun h => by rw [h]; rfl, fun h => UInt8.toNat_inj.1 (by rw [h]; rfl)⟩
theorem lnF_nl (s : ByteArray) (pos : Nat) (hr : (Utf8.decode s pos).1 = 10) : (Utf8.decode s pos).2 = 1 ∧ lnF s (pos + 1) = ((lnF s pos).1 + 1, pos + 1) := by
  rw [decode_at] at hr ⊢
  have := decodeN_ten _ _ _ _ _ hr
  refine ⟨this.2, ?_⟩
  simp [lnF, (byte_ten _).2 this.1]
theorem lnF_on (s : ByteArray) (pos : Nat) (hr : ¬ (Utf8.decode s pos).1 = 10) : lnF s (pos + (Utf8.decode s pos).2) = lnF s pos := by
  rw [decode_at] at hr ⊢
  have h := decodeN_noten _ _ _ _ _ hr
  have hw := decodeN_width (s.size - pos) (s.get! pos).toNat (s.get! (pos + 1)).toNat (s.get! (pos + 2)).toNat (s.get! (pos + 3)).toNat
  generalize decodeN (s.size - pos) (s.get! pos).toNat (s.get! (pos + 1)).toNat (s.get! (pos + 2)).toNat (s.get! (pos + 3)).toNat = d at *
  obtain ⟨h0, h1, h2, h3⟩ := h
  have B : ∀ k, (s.get! k).toNat ≠ 10 → lnF s (k + 1) = lnF s k := fun k hk => by
    simp only [lnF]
    rw [if_neg (fun e => hk ((byte_ten _).1 e))]
  have e1 := B pos h0
  obtain hv | hv | hv | hv : d.2 = 1 ∨ d.2 = 2 ∨ d.2 = 3 ∨ d.2 = 4 := by omega
  · rw [hv]; exact e1
  · rw [hv]; exact (B (pos + 1) (h1 (by omega))).trans e1
  · rw [hv]; exact (B (pos + 2) (h2 (by omega))).trans ((B (pos + 1) (h1 (by omega))).trans e1)
  · rw [hv]; exact (B (pos + 3) (h3 (by omega))).trans ((B (pos + 2) (h2 (by omega))).trans ((B (pos + 1) (h1 (by omega))).trans e1))
theorem coF_last (s : ByteArray) (f pos l c : Nat) (h : ¬ pos < s.size) (hp : pos ≤ s.size) (hl : l = (lnF s pos).1) (hc : c + (runesFrom s s.size pos).length = 1 + (runesFrom s s.size (lnF s pos).2).length) :
    coF s f pos l c = ((lnF s s.size).1, 1 + (runesFrom s s.size (lnF s s.size).2).length) := by
  have hps : pos = s.size := by omega
  subst hps
  rw [coF_end s f _ l c h]
  rw [runesFrom_end s _ s.size (by omega)] at hc
  simp only [List.length_nil] at hc
  exact Prod.ext hl (by simp only; omega)
theorem coF_lnF (s : ByteArray) : ∀ (f pos l c : Nat), s.size ≤ pos + f → pos ≤ s.size → l = (lnF s pos).1 → (lnF s pos).2 ≤ s.size → c + (runesFrom s s.size pos).length = 1 + (runesFrom s s.size (lnF s pos).2).length →
    coF s f pos l c = ((lnF s s.size).1, 1 + (runesFrom s s.size (lnF s s.size).2).length)
  | 0, pos, l, c, hf, hp, hl, hq, hc => coF_last s 0 pos l c (by omega) hp hl hc
  | f + 1, pos, l, c, hf, hp, hl, hq, hc => by
    by_cases h : pos < s.size
    · have hv1 := width_pos s pos h
      have hv2 := dec_le s pos h
      obtain ⟨g, hg⟩ : ∃ g, s.size = g + 1 := ⟨s.size - 1, by omega⟩
      have hcons : runesFrom s s.size pos = ((Utf8.decode s pos).1 : Int) :: runesFrom s s.size (pos + (Utf8.decode s pos).2) := by
        rw [hg, runesFrom_cons s g pos h, runesFrom_fuel s g (g + 1) _ (by omega) (by omega)]
      by_cases hr : (Utf8.decode s pos).1 = 10
      · obtain ⟨hv, hln⟩ := lnF_nl s pos hr
        rw [coF_nl s f pos l c h hr, hv]
        exact coF_lnF s f (pos + 1) (l + 1) 1 (by omega) (by omega) (by rw [hln, hl]) (by rw [hln]; simp only; omega) (by rw [hln])
      · have hln := lnF_on s pos hr
        rw [coF_on s f pos l c h hr]
        exact coF_lnF s f _ l (c + 1) (by omega) hv2 (by rw [hln, hl]) (by rw [hln]; exact hq) (by rw [hln]; rw [hcons, List.length_cons] at hc; omega)
    · exact coF_last s (f + 1) pos l c h hp hl hc
/-- Line and column at the end of a text. -/
def colE (s : ByteArray) : Nat × Nat := coF s s.size 0 1 1
theorem colE_eq (s : ByteArray) : colE s = ((lnF s s.size).1, 1 + (runesFrom s s.size (lnF s s.size).2).length) :=
  coF_lnF s s.size 0 1 1 (by omega) (by omega) rfl (by simp [lnF]) (by simp [lnF])
theorem on_of_letter (r : Int) (h : kd r = 1) : onB r = true := by simp [onB, h]
theorem spF_le (s : ByteArray) : ∀ (f pos : Nat), pos ≤ s.size → pos ≤ spF s f pos ∧ spF s f pos ≤ s.size
  | 0, pos, h => ⟨Nat.le_refl _, h⟩
  | f + 1, pos, h => by
    by_cases hp : pos < s.size
    · have hv := width_pos s pos hp
      have hv2 := dec_le s pos hp
      cases ho : onB (Utf8.decode s pos).1
      · rw [spF_off s (f + 1) pos hp ho]; exact ⟨Nat.le_refl _, h⟩
      · rw [spF_on s f pos hp ho]
        have := spF_le s f _ hv2
        omega
    · rw [spF_end s _ pos hp]; exact ⟨Nat.le_refl _, h⟩
end Go.Proofs.YtkdcjkhpbbcncaaDoor
