/-
  Plain facts: Check, Span, Number and Column as steps over a text.
-/
import Derived.Test.YtfhfokceeidhcaaDoorDecPure2
import Derived.Test.YtfhfokceeidhcaaDoorKindEq
set_option linter.unusedSimpArgs false
set_option linter.unusedVariables false
namespace Go.Proofs.YtfhfokceeidhcaaDoor
open Go.Lib

/-! ### Check -/
def chkF (s : ByteArray) : Nat → Nat → Nat × Int
  | 0, _ => (0, 0)
  | f + 1, pos => if pos < s.size then (if bad s pos then (pos, 4) else chkF s f (pos + (Utf8.decode s pos).2)) else (0, 0)
def chk (s : ByteArray) : Nat × Int := chkF s s.size 0
theorem chkF_bad (s : ByteArray) (f pos : Nat) (h : pos < s.size) (hb : bad s pos = true) : chkF s (f + 1) pos = (pos, 4) := by simp [chkF, h, hb]
theorem chkF_good (s : ByteArray) (f pos : Nat) (h : pos < s.size) (hb : bad s pos = false) : chkF s (f + 1) pos = chkF s f (pos + (Utf8.decode s pos).2) := by simp [chkF, h, hb]
theorem chkF_end (s : ByteArray) (f pos : Nat) (h : ¬ pos < s.size) : chkF s f pos = (0, 0) := by cases f <;> simp [chkF, h]

/-! ### Span -/
def spF (s : ByteArray) : Nat → Nat → Nat
  | 0, pos => pos
  | f + 1, pos => if pos < s.size then (if onB (Utf8.decode s pos).1 then spF s f (pos + (Utf8.decode s pos).2) else pos) else pos
theorem spF_on (s : ByteArray) (f pos : Nat) (h : pos < s.size) (ho : onB (Utf8.decode s pos).1 = true) : spF s (f + 1) pos = spF s f (pos + (Utf8.decode s pos).2) := by simp [spF, h, ho]
theorem spF_off (s : ByteArray) (f pos : Nat) (h : pos < s.size) (ho : onB (Utf8.decode s pos).1 = false) : spF s f pos = pos := by cases f <;> simp [spF, h, ho]
theorem spF_end (s : ByteArray) (f pos : Nat) (h : ¬ pos < s.size) : spF s f pos = pos := by cases f <;> simp [spF, h]
/-- The end of the name that begins at pos, and the error. -/
def spanP (s : ByteArray) (pos : Nat) : Int × Int := if kd (rn s pos) = 1 then ((spF s s.size pos : Nat), 0) else (0, 11)
def spanI (s : ByteArray) (at_ : Int) : Int × Int := if at_ < 0 ∨ (s.size : Int) < at_ then (0, 2) else spanP s at_.toNat

/-! ### Number -/
theorem kd_two (r : Int) : kd r = 2 ↔ digZ r ≠ 0 := by
  rw [kd_eq]
  constructor
  · intro h
    have hd : 0 ≤ digV r := by
      unfold kindR at h
      split at h
      · omega
      · split at h
        · assumption
        · split at h
          · omega
          · split at h
            · omega
            · unfold sgnK at h; split at h <;> omega
    unfold digV at hd
    unfold digZ
    repeat' split
    all_goals simp_all
  · intro h
    have hc : (48 ≤ r ∧ r ≤ 57) ∨ (1632 ≤ r ∧ r ≤ 1641) ∨ (65296 ≤ r ∧ r ≤ 65305) := by
      unfold digZ at h
      simp only [hasB, decide_eq_true_eq] at h
      split at h
      · exact .inl ‹_›
      · split at h
        · exact .inr (.inl ‹_›)
        · split at h
          · exact .inr (.inr ‹_›)
          · exact absurd rfl h
    have hl : letB r = false := by
      have : ¬ letB r = true := by
        rw [← lets_eq]
        simp only [lets, spanTab, List.take_succ_cons, List.take_zero, List.any_cons, List.any_nil, hasB]
        simp
        omega
      simpa using this
    have hd : 0 ≤ digV r := by
      unfold digV
      simp only [hasB, decide_eq_true_eq]
      repeat' split
      all_goals omega
    simp [kindR, hl, hd]
theorem spn_digit (r : Int) (h : digZ r ≠ 0) : spn r = (digZ r, digZ r + 9, 2) := by
  have hc : (48 ≤ r ∧ r ≤ 57) ∨ (1632 ≤ r ∧ r ≤ 1641) ∨ (65296 ≤ r ∧ r ≤ 65305) := by
    unfold digZ at h
    simp only [hasB, decide_eq_true_eq] at h
    split at h
    · exact .inl ‹_›
    · split at h
      · exact .inr (.inl ‹_›)
      · split at h
        · exact .inr (.inr ‹_›)
        · exact absurd rfl h
  have hn : ∀ p ∈ lets, hasB p.1 p.2.1 r = false := by
    have : ∀ p ∈ lets, ¬ (p.1 ≤ r ∧ r ≤ p.2.1) := by
      simp only [lets, spanTab, List.take_succ_cons, List.take_zero, List.mem_cons, List.not_mem_nil, or_false]
      intro p hp
      rcases hp with rfl | rfl | rfl | rfl | rfl | rfl | rfl | rfl | rfl | rfl | rfl | rfl | rfl <;> simp only <;> omega
    intro p hp
    simpa [hasB] using this p hp
  have hskip : ∀ (l m : List (Int × Int × Int)), (∀ p ∈ l, hasB p.1 p.2.1 r = false) → spanIn (l ++ m) r = spanIn m r := by
    intro l m
    induction l with
    | nil => intro _; rfl
    | cons p l ih =>
      intro hp
      have h1 := hp p (by simp)
      simp only [List.cons_append, spanIn, h1]
      exact ih (fun q hq => hp q (by simp [hq]))
  unfold spn
  rw [spanTab_parts, hskip lets _ hn]
  simp only [digs, spanTab, List.drop_succ_cons, List.drop_zero, List.take_succ_cons, List.take_zero, List.cons_append, spanIn, digZ]
  rcases hc with hc | hc | hc
  · have h1 : hasB 48 57 r = true := by simpa [hasB] using hc
    simp [h1]
  · have h1 : hasB 48 57 r = false := by simp [hasB]; omega
    have h2 : hasB 1632 1641 r = true := by simpa [hasB] using hc
    simp [h1, h2]
  · have h1 : hasB 48 57 r = false := by simp [hasB]; omega
    have h2 : hasB 1632 1641 r = false := by simp [hasB]; omega
    have h3 : hasB 65296 65305 r = true := by simpa [hasB] using hc
    simp [h1, h2, h3]
/-- A rune is a digit of the script of z. -/
theorem digZ_has (z r : Int) (hz : z = 48 ∨ z = 1632 ∨ z = 65296) : hasB z (z + 9) r = true ↔ digZ r = z := by
  unfold digZ
  simp only [hasB, decide_eq_true_eq]
  rcases hz with rfl | rfl | rfl <;> (repeat' split) <;> omega
theorem digZ_cases (r : Int) (h : digZ r ≠ 0) : digZ r = 48 ∨ digZ r = 1632 ∨ digZ r = 65296 := by
  unfold digZ at *
  simp only [hasB, decide_eq_true_eq] at *
  repeat' split
  all_goals simp_all
theorem digV_eq (r : Int) (h : digZ r ≠ 0) : digV r = r - digZ r ∧ 0 ≤ digV r ∧ digV r ≤ 9 := by
  unfold digZ digV at *
  simp only [hasB, decide_eq_true_eq] at *
  repeat' split
  all_goals simp_all
  all_goals omega

/-- The number from pos on, n ahead of it: value, end, error. -/
def nuF (s : ByteArray) (z : Int) : Nat → Nat → Nat → Nat × Nat × Int
  | 0, pos, n => (n, pos, 0)
  | f + 1, pos, n => if pos < s.size then
      (if digZ (Utf8.decode s pos).1 = z then
        (if 18446744073709551615 < n * 10 + (digV (Utf8.decode s pos).1).toNat then (0, 0, 10) else nuF s z f (pos + (Utf8.decode s pos).2) (n * 10 + (digV (Utf8.decode s pos).1).toNat))
       else (n, pos, 0))
     else (n, pos, 0)
theorem nuF_end (s : ByteArray) (z : Int) (f pos n : Nat) (h : ¬ pos < s.size) : nuF s z f pos n = (n, pos, 0) := by cases f <;> simp [nuF, h]
theorem nuF_off (s : ByteArray) (z : Int) (f pos n : Nat) (h : ¬ digZ (Utf8.decode s pos).1 = z) : nuF s z f pos n = (n, pos, 0) := by cases f <;> simp [nuF, h]
theorem nuF_large (s : ByteArray) (z : Int) (f pos n : Nat) (h : pos < s.size) (hz : digZ (Utf8.decode s pos).1 = z) (hl : 18446744073709551615 < n * 10 + (digV (Utf8.decode s pos).1).toNat) : nuF s z (f + 1) pos n = (0, 0, 10) := by
  simp [nuF, h, hz, hl]
theorem nuF_on (s : ByteArray) (z : Int) (f pos n : Nat) (h : pos < s.size) (hz : digZ (Utf8.decode s pos).1 = z) (hl : ¬ 18446744073709551615 < n * 10 + (digV (Utf8.decode s pos).1).toNat) : nuF s z (f + 1) pos n = nuF s z f (pos + (Utf8.decode s pos).2) (n * 10 + (digV (Utf8.decode s pos).1).toNat) := by
  simp [nuF, h, hz, hl]
def numP (s : ByteArray) (pos : Nat) : Nat × Nat × Int := if digZ (rn s pos) = 0 then (0, 0, 11) else nuF s (digZ (rn s pos)) s.size pos 0
def numI (s : ByteArray) (at_ : Int) : Nat × Nat × Int := if at_ < 0 ∨ (s.size : Int) < at_ then (0, 0, 2) else numP s at_.toNat
theorem digZ_rn (s : ByteArray) (pos : Nat) (h : pos < s.size) : digZ (rn s pos) = digZ (Utf8.decode s pos).1 := by
  unfold rn
  rw [if_pos h]
  cases hb : bad s pos
  · rfl
  · rw [bad_eq hb]; decide
theorem digV_rn (s : ByteArray) (pos : Nat) (h : pos < s.size) : digV (rn s pos) = digV (Utf8.decode s pos).1 := by
  unfold rn
  rw [if_pos h]
  cases hb : bad s pos
  · rfl
  · rw [bad_eq hb]; decide

/-! ### Column -/
/-- Line and first place of the line behind the first i bytes. -/
def lnF (s : ByteArray) : Nat → Nat × Nat
  | 0 => (1, 0)
  | i + 1 => if s.get! i = 10 then ((lnF s i).1 + 1, i + 1) else lnF s i
def coF (s : ByteArray) : Nat → Nat → Nat → Nat → Nat × Nat
  | 0, _, l, c => (l, c)
  | f + 1, pos, l, c => if pos < s.size then (if (Utf8.decode s pos).1 = 10 then coF s f (pos + (Utf8.decode s pos).2) (l + 1) 1 else coF s f (pos + (Utf8.decode s pos).2) l (c + 1)) else (l, c)
theorem coF_end (s : ByteArray) (f pos l c : Nat) (h : ¬ pos < s.size) : coF s f pos l c = (l, c) := by cases f <;> simp [coF, h]
theorem coF_nl (s : ByteArray) (f pos l c : Nat) (h : pos < s.size) (hr : (Utf8.decode s pos).1 = 10) : coF s (f + 1) pos l c = coF s f (pos + (Utf8.decode s pos).2) (l + 1) 1 := by simp [coF, h, hr]
theorem coF_on (s : ByteArray) (f pos l c : Nat) (h : pos < s.size) (hr : ¬ (Utf8.decode s pos).1 = 10) : coF s (f + 1) pos l c = coF s f (pos + (Utf8.decode s pos).2) l (c + 1) := by simp [coF, h, hr]

theorem decodeN_ten (n b0 b1 b2 b3 : Nat) (h : (decodeN n b0 b1 b2 b3).1 = 10) : b0 = 10 ∧ (decodeN n b0 b1 b2 b3).2 = 1 := by
  revert h
  unfold decodeN
  repeat' split
  all_goals simp
  all_goals omega
theorem decodeN_noten (n b0 b1 b2 b3 : Nat) (h : ¬ (decodeN n b0 b1 b2 b3).1 = 10) : b0 ≠ 10 ∧ (2 ≤ (decodeN n b0 b1 b2 b3).2 → b1 ≠ 10) ∧ (3 ≤ (decodeN n b0 b1 b2 b3).2 → b2 ≠ 10) ∧ (4 ≤ (decodeN n b0 b1 b2 b3).2 → b3 ≠ 10) := by
  revert h
  unfold decodeN
  repeat' split
  all_goals simp
  all_goals omega
theorem byte_ten (a : UInt8) : a = 10 ↔ a.toNat = 10 := ⟨fun h => by rw [h]; rfl, fun h => UInt8.toNat_inj.1 (by rw [h]; rfl)⟩
theorem lnF_nl (s : ByteArray) (pos : Nat) (hr : (Utf8.decode s pos).1 = 10) : (Utf8.decode s pos).2 = 1 ∧ lnF s (pos + 1) = ((lnF s pos).1 + 1, pos + 1) := by
  rw [decode_at] at hr ⊢
  have := decodeN_ten _ _ _ _ _ hr
  refine ⟨this.2, ?_⟩
  simp [lnF, (byte_ten _).2 this.1]
theorem lnF_on (s : ByteArray) (pos : Nat) (hr : ¬ (Utf8.decode s pos).1 = 10) : lnF s (pos + (Utf8.decode s pos).2) = lnF s pos := by
  rw [decode_at] at hr ⊢
  have h := decodeN_noten _ _ _ _ _ hr
  have hw := decodeN_width (s.size - pos) (s.get! pos).toNat (s.get! (pos + 1)).toNat (s.get! (pos + 2)).toNat (s.get! (pos + 3)).toNat
  generalize decodeN (s.size - pos) (s.get! pos).toNat (s.get! (pos + 1)).toNat (s.get! (pos + 2)).toNat (s.get! (pos + 3)).toNat = d at *
  obtain ⟨h0, h1, h2, h3⟩ := h
  have B : ∀ k, (s.get! k).toNat ≠ 10 → lnF s (k + 1) = lnF s k := fun k hk => by
    simp only [lnF]
    rw [if_neg (fun e => hk ((byte_ten _).1 e))]
  have e1 := B pos h0
  obtain hv | hv | hv | hv : d.2 = 1 ∨ d.2 = 2 ∨ d.2 = 3 ∨ d.2 = 4 := by omega
  · rw [hv]; exact e1
  · rw [hv]; exact (B (pos + 1) (h1 (by omega))).trans e1
  · rw [hv]; exact (B (pos + 2) (h2 (by omega))).trans ((B (pos + 1) (h1 (by omega))).trans e1)
  · rw [hv]; exact (B (pos + 3) (h3 (by omega))).trans ((B (pos + 2) (h2 (by omega))).trans ((B (pos + 1) (h1 (by omega))).trans e1))
theorem coF_last (s : ByteArray) (f pos l c : Nat) (h : ¬ pos < s.size) (hp : pos ≤ s.size) (hl : l = (lnF s pos).1) (hc : c + (runesFrom s s.size pos).length = 1 + (runesFrom s s.size (lnF s pos).2).length) :
    coF s f pos l c = ((lnF s s.size).1, 1 + (runesFrom s s.size (lnF s s.size).2).length) := by
  have hps : pos = s.size := by omega
  subst hps
  rw [coF_end s f _ l c h]
  rw [runesFrom_end s _ s.size (by omega)] at hc
  simp only [List.length_nil] at hc
  exact Prod.ext hl (by simp only; omega)
theorem coF_lnF (s : ByteArray) : ∀ (f pos l c : Nat), s.size ≤ pos + f → pos ≤ s.size → l = (lnF s pos).1 → (lnF s pos).2 ≤ s.size → c + (runesFrom s s.size pos).length = 1 + (runesFrom s s.size (lnF s pos).2).length →
    coF s f pos l c = ((lnF s s.size).1, 1 + (runesFrom s s.size (lnF s s.size).2).length)
  | 0, pos, l, c, hf, hp, hl, hq, hc => coF_last s 0 pos l c (by omega) hp hl hc
  | f + 1, pos, l, c, hf, hp, hl, hq, hc => by
    by_cases h : pos < s.size
    · have hv1 := width_pos s pos h
      have hv2 := dec_le s pos h
      obtain ⟨g, hg⟩ : ∃ g, s.size = g + 1 := ⟨s.size - 1, by omega⟩
      have hcons : runesFrom s s.size pos = ((Utf8.decode s pos).1 : Int) :: runesFrom s s.size (pos + (Utf8.decode s pos).2) := by
        rw [hg, runesFrom_cons s g pos h, runesFrom_fuel s g (g + 1) _ (by omega) (by omega)]
      by_cases hr : (Utf8.decode s pos).1 = 10
      · obtain ⟨hv, hln⟩ := lnF_nl s pos hr
        rw [coF_nl s f pos l c h hr, hv]
        exact coF_lnF s f (pos + 1) (l + 1) 1 (by omega) (by omega) (by rw [hln, hl]) (by rw [hln]; simp only; omega) (by rw [hln])
      · have hln := lnF_on s pos hr
        rw [coF_on s f pos l c h hr]
        exact coF_lnF s f _ l (c + 1) (by omega) hv2 (by rw [hln, hl]) (by rw [hln]; exact hq) (by rw [hln]; rw [hcons, List.length_cons] at hc; omega)
    · exact coF_last s (f + 1) pos l c h hp hl hc
/-- Line and column at the end of a text. -/
def colE (s : ByteArray) : Nat × Nat := coF s s.size 0 1 1
theorem colE_eq (s : ByteArray) : colE s = ((lnF s s.size).1, 1 + (runesFrom s s.size (lnF s s.size).2).length) :=
  coF_lnF s s.size 0 1 1 (by omega) (by omega) rfl (by simp [lnF]) (by simp [lnF])
end Go.Proofs.YtfhfokceeidhcaaDoor
