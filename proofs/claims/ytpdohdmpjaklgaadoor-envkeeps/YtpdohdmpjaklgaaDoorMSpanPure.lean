/-
  Plain facts on spans: what lies in one, and where it ends.
-/
import Derived.Test.YtpdohdmpjaklgaaDoorMRangePure
import Derived.Test.YtpdohdmpjaklgaaDoorMRefSpanW
set_option linter.unusedSimpArgs false
set_option linter.unusedVariables false
namespace Go.Proofs.YtpdohdmpjaklgaaDoor
open Go.Lib

theorem spF_fuel (s : ByteArray) : ∀ (f g pos : Nat), s.size ≤ pos + f → s.size ≤ pos + g → spF s f pos = spF s g pos
  | 0, g, pos, h, _ => by rw [spF_end s 0 pos (by omega), spF_end s g pos (by omega)]
  | f + 1, 0, pos, _, h => by rw [spF_end s 0 pos (by omega), spF_end s _ pos (by omega)]
  | f + 1, g + 1, pos, hf, hg => by
    by_cases hp : pos < s.size
    · have hw := width_pos s pos hp
      cases ho : onB (Utf8.decode s pos).1
      · rw [spF_off s _ pos hp ho, spF_off s _ pos hp ho]
      · rw [spF_on s f pos hp ho, spF_on s g pos hp ho, spF_fuel s f g _ (by omega) (by omega)]
    · rw [spF_end s _ pos hp, spF_end s _ pos hp]
/-- At its end a span does not go on. -/
theorem spF_stop (s : ByteArray) : ∀ (f pos : Nat), s.size ≤ pos + f → spF s f pos < s.size → onB (Utf8.decode s (spF s f pos)).1 = false
  | 0, pos, h, hlt => by rw [spF_end s 0 pos (by omega)] at hlt; omega
  | f + 1, pos, h, hlt => by
    by_cases hp : pos < s.size
    · have hw := width_pos s pos hp
      cases ho : onB (Utf8.decode s pos).1
      · rw [spF_off s _ pos hp ho]; exact ho
      · rw [spF_on s f pos hp ho] at hlt ⊢
        exact spF_stop s f _ (by omega) hlt
    · rw [spF_end s _ pos hp] at hlt; omega
/-- A place inside a span: it goes on there, and what is left of the span begins behind it. -/
theorem spF_inside (s : ByteArray) (pos e : Nat) (hp : pos ≤ s.size) (he : spF s s.size pos = e) (hlt : pos < e) :
    onB (Utf8.decode s pos).1 = true ∧ pos + (Utf8.decode s pos).2 ≤ e ∧ spF s s.size (pos + (Utf8.decode s pos).2) = e := by
  have hle := spF_le s s.size pos hp
  have hps : pos < s.size := by omega
  have hw := width_pos s pos hps
  have hw2 := dec_le s pos hps
  cases ho : onB (Utf8.decode s pos).1
  · rw [spF_off s _ pos hps ho] at he; omega
  · obtain ⟨g, hg⟩ : ∃ g, s.size = g + 1 := ⟨s.size - 1, by omega⟩
    have e1 : spF s s.size pos = spF s s.size (pos + (Utf8.decode s pos).2) := by
      rw [hg, spF_on s g pos hps ho]; exact spF_fuel s _ _ _ (by omega) (by omega)
    have hle2 := spF_le s s.size _ hw2
    exact ⟨rfl, by omega, by omega⟩
theorem span_dec (s : ByteArray) (a e q : Nat) (he : e ≤ s.size) (hq : a + q < e) (ho : onB (Utf8.decode s (a + q)).1 = true) (hfit : a + q + (Utf8.decode s (a + q)).2 ≤ e) : Utf8.decode (s.extract a e) q = Utf8.decode s (a + q) := by
  rw [mid_eq s a e he, dec_tail]
  exact dec_head s e (a + q) he hq (good_of_on s _ ho) hfit
/-- A span of n runes is a name just if n is at most 16. -/
theorem nmF_span (s : ByteArray) (a e : Nat) (hes : e ≤ s.size) : ∀ (f q n : Nat), spF s s.size (a + q) = e → a + q ≤ e → e ≤ a + q + f → 1 ≤ n → nmF (s.extract a e) f q n = decide (n + (runesFrom (s.extract a e) f q).length ≤ 16)
  | 0, q, n, h, hle, hf, hn => by
    simp only [nmF, runesFrom, List.length_nil]
    exact decide_eq_decide.2 (by omega)
  | f + 1, q, n, h, hle, hf, hn => by
    have hsz := mid_size s a e hes
    by_cases hq : a + q < e
    · obtain ⟨ho, hfit, hnx⟩ := spF_inside s (a + q) e (by omega) h hq
      have hd := span_dec s a e q hes hq ho hfit
      have hw := width_pos s (a + q) (by omega)
      rw [nmF_step _ f q n (by omega), runesFrom_cons _ f q (by omega), hd, nmF_span s a e hes f _ (n + 1) (by rw [← Nat.add_assoc]; exact hnx) (by omega) (by omega) (by omega)]
      have hn0 : (n == 0) = false := by simp; omega
      simp only [nmS, ho, hn0, Bool.false_and, Bool.not_true, Bool.or_self, Bool.false_eq_true, if_false, List.length_cons]
      exact decide_eq_decide.2 (by omega)
    · rw [nmF_end _ _ q n (by omega), runesFrom_end _ _ q (by omega)]
      simp only [List.length_nil]
      exact decide_eq_decide.2 (by omega)
theorem name_span (s : ByteArray) (a e : Nat) (ha : a < s.size) (hk : kd (Utf8.decode s a).1 = 1) (he : spF s s.size a = e) : nameB (s.extract a e) = decide ((rl (s.extract a e)).length ≤ 16) := by
  have hle := spF_le s s.size a (by omega)
  have hon := on_of_letter _ hk
  have hlt : a < e := by
    have hw := width_pos s a ha
    have hw2 := dec_le s a ha
    obtain ⟨g, hg⟩ : ∃ g, s.size = g + 1 := ⟨s.size - 1, by omega⟩
    have e1 : spF s s.size a = spF s g (a + (Utf8.decode s a).2) := by rw [hg]; exact spF_on s g a ha hon
    have := spF_le s g _ hw2
    omega
  obtain ⟨_, hfit, hnx⟩ := spF_inside s a e (by omega) he hlt
  have hes : e ≤ s.size := by omega
  have hsz := mid_size s a e hes
  have hd : Utf8.decode (s.extract a e) 0 = Utf8.decode s a := span_dec s a e 0 hes (by omega) hon hfit
  have hw := width_pos s a ha
  obtain ⟨g, hg⟩ : ∃ g, (s.extract a e).size = g + 1 := ⟨(s.extract a e).size - 1, by omega⟩
  unfold nameB rl
  rw [hg, nmF_step _ g 0 0 (by omega), runesFrom_cons _ g 0 (by omega), hd, Nat.zero_add, nmF_span s a e hes g _ 1 hnx (by omega) (by omega) (Nat.le_refl _)]
  have hS : ∀ X : Bool, nmS ((Utf8.decode s a).1 : Int) 0 X = X := fun X => by simp [nmS, hon, hk]
  rw [hS, List.length_cons]
  exact decide_eq_decide.2 (by omega)
theorem kd_on (r : Int) : onB r = true → kd r = 1 ∨ kd r = 2 ∨ kd r = 5 := by
  intro h; simp [onB] at h; omega
theorem kd_off (r : Int) : onB r = false → (kd r == 1) = false ∧ (kd r == 2) = false ∧ (kd r == 5) = false := by
  intro h; simp [onB] at h; simp; omega
end Go.Proofs.YtpdohdmpjaklgaaDoor
