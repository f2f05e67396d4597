/-
  Traps of the whole and of its parts, plainly.
-/
import Derived.Test.YtkgfcamlfnlpoaaDoorEwPtP
set_option linter.unusedSimpArgs false
set_option linter.unusedVariables false
namespace Go.Proofs.YtkgfcamlfnlpoaaDoor

theorem parts_trap {bs : List Bd} {l : List Nd} {fr : List Nat} (hb : begL l = some fr) (k : Nat) (hk : k < l.length - 1) (hn : vA bs l k = none) : evA bs l = (0, 12) ∧ (evT bs l).2 = 0 ∧ (evT bs l).1 < (l.length : Int) - 1 := by
  have h := begOk_of (begL_some hb).2.2.1
  have e := trap_up (bs := bs) h (l.length - 1) (by omega) k (by rw [(begL_some hb).2.2.2]; omega) (by omega) hn
  have ho : okN bs l l.length ≤ k := by
    rcases Nat.lt_or_ge k (okN bs l l.length) with hlt | hge
    · exact absurd hn (okN_all bs l l.length k hlt)
    · exact hge
  have hT : evT bs l = (((okN bs l l.length : Nat) : Int), (0 : Int)) := by unfold evT; rw [if_pos (snd_some hb), if_neg (by omega)]
  refine ⟨by unfold evA; rw [if_pos (snd_some hb), e], ?_, ?_⟩
  · rw [hT]
  · rw [hT]; show ((okN bs l l.length : Nat) : Int) < _; omega
theorem parts_last {bs : List Bd} {l : List Nd} {fr : List Nat} (hb : begL l = some fr) (hk : ∀ k ∈ (l.getD (l.length - 1) nd0).kids, vA bs l k.toNat ≠ none) (hn : vA bs l (l.length - 1) = none) : evA bs l = (0, 12) ∧ evT bs l = ((l.length : Int) - 1, 0) := by
  have h := begOk_of (begL_some hb).2.2.1
  have h0 := (begL_some hb).1
  have hall : ∀ j, j < l.length - 1 → vA bs l j ≠ none := by
    intro j hj hn
    obtain ⟨_, hc⟩ := h.at_ (l.length - 1) (by omega)
    rw [(begL_some hb).2.2.2] at hc
    obtain ⟨k, hkm, k0, k1, k2⟩ := chain_in h.low _ _ _ hc j (by omega) hj
    have hkm' : k ∈ (l.getD (l.length - 1) nd0).kids := by simpa using hkm
    have hku := h.kidsUp (l.length - 1) (by omega) k hkm'
    exact hk k hkm' (trap_up h k.toNat (by omega) j k1 k2 hn)
  have ho : okN bs l l.length = l.length - 1 := by
    have h1 := okN_not bs l l.length
    have h2 := okN_le bs l l.length
    have h3 := okN_all bs l l.length
    rcases Nat.lt_trichotomy (okN bs l l.length) (l.length - 1) with hlt | he | hgt
    · exact absurd (h1 (by omega)) (hall _ hlt)
    · exact he
    · exact absurd hn (h3 _ hgt)
  refine ⟨by unfold evA; rw [if_pos (snd_some hb), hn], ?_⟩
  unfold evT
  rw [if_pos (snd_some hb), if_neg (by omega), ho]
  congr 1
  omega
theorem parts_some {bs : List Bd} {l : List Nd} {fr : List Nat} (hb : begL l = some fr) {v : Int} (hv : vA bs l (l.length - 1) = some v) : evA bs l = (v, 0) ∧ evT bs l = (0, 11) := by
  refine ⟨by unfold evA; rw [if_pos (snd_some hb), hv], ?_⟩
  unfold evT
  rw [if_pos (snd_some hb), if_pos ((snd_end (bs := bs) hb).1.2 (by rw [hv]; simp))]
theorem kid_last {l : List Nd} {fr : List Nat} (hb : begL l = some fr) : ∀ k ∈ (l.getD (l.length - 1) nd0).kids, 0 ≤ k ∧ k < (l.length : Int) - 1 := by
  have h := begOk_of (begL_some hb).2.2.1
  have h0 := (begL_some hb).1
  intro k hk
  have := h.kidsUp (l.length - 1) (by omega) k hk
  omega
end Go.Proofs.YtkgfcamlfnlpoaaDoor
