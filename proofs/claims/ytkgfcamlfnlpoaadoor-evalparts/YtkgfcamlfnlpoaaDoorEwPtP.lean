/-
  Parts and what is put in their place: what they come to, plainly.
-/
import Derived.Test.YtkgfcamlfnlpoaaDoorEwEvW
set_option linter.unusedSimpArgs false
set_option linter.unusedVariables false
namespace Go.Proofs.YtkgfcamlfnlpoaaDoor

theorem vA_part {bs : List Bd} {l : List Nd} {fr : List Nat} (h : BegOk l fr) (i : Nat) (hi : i < l.length) : ∀ j, fr.getD i 0 ≤ j → j ≤ i → vA bs (partL l (fr.getD i 0) i) (j - fr.getD i 0) = vA bs l j := by
  have hp := part_ok h i hi
  have hai := h.low i
  have hin := fun j hj hji => kids_inside h i hi j hj hji
  have hlen := partL_len l (fr.getD i 0) i hi hai
  have hat := fun j hj => partL_at l (fr.getD i 0) i j hi hai hj
  generalize fr.getD i 0 = a at *
  intro j h1 h2
  refine vt_map h.kidsUp hp.kidsUp (fun j => a ≤ j ∧ j ≤ i) (fun j => j - a) ?_ j ⟨h1, h2⟩
  rintro j ⟨h1, h2⟩
  have hg : (partL l a i).getD (j - a) nd0 = mvN 0 (-(a : Int)) (l.getD j nd0) := by
    rw [hat (j - a) (by omega), show a + (j - a) = j by omega]
  have hk := hin j h1 h2
  have hku := h.kidsUp j (by omega)
  refine ⟨by omega, by omega, .inr ?_⟩
  rw [hg]
  refine ⟨rfl, rfl, fun _ => rfl, ?_, fun k hkk => ?_⟩
  · show (l.getD j nd0).kids.map _ = (l.getD j nd0).kids.map _
    refine List.map_congr_left fun k hkk => ?_
    have := hk k hkk
    have := hku k hkk
    unfold mvK
    rw [if_pos (by omega)]
    omega
  · have := hk k hkk
    have := hku k hkk
    omega
/-- What a part comes to. -/
theorem evA_part {bs : List Bd} {l : List Nd} {fr : List Nat} (hb : begL l = some fr) (i : Nat) (hi : i < l.length) : evA bs (partL l (fr.getD i 0) i) = match vA bs l i with | some v => (v, 0) | none => (0, 12) := by
  have h := begOk_of (begL_some hb).2.2.1
  obtain ⟨fo, hfo⟩ := part_snd hb i hi
  have e := vA_part (bs := bs) h i hi i (h.low i) (Nat.le_refl _)
  have hlen := partL_len l (fr.getD i 0) i hi (h.low i)
  unfold evA
  rw [if_pos (snd_some hfo), hlen, show i + 1 - fr.getD i 0 - 1 = i - fr.getD i 0 by omega, e]
  cases vA bs l i <;> rfl

theorem vA_put {bs : List Bd} {l : List Nd} {fr : List Nat} (hb : begL l = some fr) (i : Nat) (hi : i < l.length) (n : Int) (hn : vA bs l i = some n) (m : List Nd) (hm : m = putL l (fr.getD i 0) i [⟨1, n, ⟨#[]⟩, []⟩]) (fo : List Nat) (ho : begL m = some fo) :
    vA bs m (m.length - 1) = vA bs l (l.length - 1) := by
  have h := begOk_of (begL_some hb).2.2.1
  have hmo := begOk_of (begL_some ho).2.2.1
  have hai := h.low i
  have hbe := fun j hij hj => kids_behind h hi j hij hj
  have hl := putL_len l [⟨1, n, ⟨#[]⟩, []⟩] (fr.getD i 0) i hi hai
  have h1 := fun j hj => putL_at1 l [⟨1, n, ⟨#[]⟩, []⟩] (fr.getD i 0) i j hi hai hj
  have h2 := fun j hj => putL_at2 l [⟨1, n, ⟨#[]⟩, []⟩] (fr.getD i 0) i j hi hai hj
  have h3 := fun j hj => putL_at3 l [⟨1, n, ⟨#[]⟩, []⟩] (fr.getD i 0) i j hi hai hj
  rw [← hm] at hl h1 h2 h3
  simp only [List.length_cons, List.length_nil] at hl h2 h3
  generalize fr.getD i 0 = a at *
  have key := vt_map (bs := bs) (bs' := bs) h.kidsUp hmo.kidsUp (fun j => j < l.length ∧ (j < a ∨ i ≤ j)) (fun j => if j < a then j else j - i + a) (by
    rintro j ⟨hjl, hj⟩
    have hku := h.kidsUp j hjl
    by_cases hja : j < a
    · rw [if_pos hja]
      refine ⟨hjl, by omega, .inr ?_⟩
      rw [h1 j hja]
      refine ⟨rfl, rfl, fun _ => rfl, ?_, fun k hk => ?_⟩
      · conv => lhs; rw [← List.map_id (l.getD j nd0).kids]
        refine List.map_congr_left fun k hk => ?_
        have := hku k hk
        rw [if_pos (by omega)]
        show k = _
        omega
      · have := hku k hk
        omega
    · rw [if_neg hja]
      by_cases hji : j = i
      · subst hji
        refine ⟨hjl, by omega, .inl ?_⟩
        have e := h2 0 (by omega)
        rw [show j - j + a = a + 0 by omega, hn, vA_at hmo.kidsUp (by omega), e]
        rfl
      · have hij : i < j := by omega
        have e := h3 (j - i - 1) (by omega)
        rw [show a + (0 + 1) + (j - i - 1) = j - i + a by omega, show i + 1 + (j - i - 1) = j by omega] at e
        refine ⟨hjl, by omega, .inr ?_⟩
        rw [e]
        refine ⟨rfl, rfl, fun _ => rfl, ?_, fun k hk => ?_⟩
        · show (l.getD j nd0).kids.map _ = (l.getD j nd0).kids.map _
          refine List.map_congr_left fun k hk => ?_
          have := hku k hk
          have := hbe j hij hjl k hk
          unfold mvK
          by_cases hki : (i : Int) ≤ k
          · rw [if_pos hki, if_neg (by omega)]
            omega
          · rw [if_neg hki, if_pos (by omega)]
            omega
        · have := hku k hk
          have := hbe j hij hjl k hk
          omega)
  have := key (l.length - 1) ⟨by omega, by omega⟩
  rw [if_neg (by omega)] at this
  rw [← this, hl]
  congr 1
  omega
theorem evA_put {bs : List Bd} {l : List Nd} {fr : List Nat} (hb : begL l = some fr) (i : Nat) (hi : i < l.length) (n : Int) (hn : vA bs l i = some n) : ∃ fo, begL (putL l (fr.getD i 0) i [⟨1, n, ⟨#[]⟩, []⟩]) = some fo ∧ evA bs (putL l (fr.getD i 0) i [⟨1, n, ⟨#[]⟩, []⟩]) = evA bs l := by
  have hlit : begL [(⟨1, n, ⟨#[]⟩, []⟩ : Nd)] = some [0] := by
    have hf : formB ⟨1, n, ⟨#[]⟩, []⟩ = true := by
      unfold formB fitB
      simp [aritI]
    refine begL_mk (by simp) (by simp) ?_ rfl
    show (stp [] _).bind _ = _
    unfold stp
    rw [if_pos hf]
    rfl
  have h64 := (begL_some hb).2.1
  have h := begOk_of (begL_some hb).2.2.1
  have hai := h.low i
  obtain ⟨fo, hfo, _⟩ := put_snd hb hlit i hi (by show l.length + 1 + fr.getD i 0 ≤ 64 + (i + 1); omega)
  refine ⟨fo, hfo, ?_⟩
  unfold evA
  rw [snd_some hfo, snd_some hb, vA_put hb i hi n hn _ rfl fo hfo]
end Go.Proofs.YtkgfcamlfnlpoaaDoor
