/-
  What the document's Make answers.
-/
import Derived.Test.YtdcfjopmddaemaaDoorMExJoiW
set_option linter.unusedSimpArgs false
set_option linter.unusedVariables false
namespace Go.Proofs.YtdcfjopmddaemaaDoor
open Go.RowKit Go.Lib

theorem snd_kids0 {l : List Nd} {fr : List Nat} (h : begL l = some fr) : ∀ x ∈ l, x.kids.length * 8 ≤ 140737488351232 ∧ ∀ k ∈ x.kids, 0 ≤ k ∧ k ≤ 9000 := by
  intro x hx
  obtain ⟨h1, h2⟩ := snd_bounds h
  refine ⟨by have := h2 x hx; omega, fun k hk => ?_⟩
  have := begR_kids (begL_some h).2.2.1 low_nil x hx k hk
  simp at this
  omega

set_option maxHeartbeats 4000000 in
theorem refMake_any (op n : Int) (nm : ByteArray) (vs : Value) (ps : List (List Nd)) (w : World) (B : Nat) (hBw : B ≤ w.heap.size) (hN : Lst w B vs ps) (hlen : ps.length * 24 ≤ 140737488355328) (hF : ∀ l ∈ ps, Fit l) (hnm : nm.size ≤ maxLen) :
    Calls Tryd.prog 50 #[.int .i64 op, .int .i64 n, .string nm, vs] w fun e w' => MakePost w op n nm ps e w' := by
  have HN : Hid (Lst w B vs ps) := hN
  obtain ⟨ao, cap0, rfl, hl, hm, hc⟩ := hN
  unfold maxLen at hm
  have HC : Hid (ps = [] ∨ ∃ b o, ao = some ⟨b, o, none⟩ ∧ b < B ∧ ∀ i, i < ps.length → ∃ pv, w.cell? ⟨b, o + i, none⟩ = some pv ∧ Nodes w B pv (ps.getD i [])) := hc
  clear hc
  have HFF : Hid (∀ l ∈ ps, Fit l) := hF
  have HNM : Hid (nm.size ≤ maxLen) := hnm
  clear hF hnm
  go_enter Tryd.func50, Tryd.ntmps50
  go_wp2_with fail
  go_loopw [10, 11] (fun s i wr => ∃ (k tot : Nat), k ≤ ps.length ∧ i = .int .i64 k ∧ s = .int .i64 (1 + (tot : Int)) ∧ Hid ((accS (ps.take k)).1.length = tot) ∧ tot ≤ 64 * k ∧ Hid (∀ l ∈ ps.take k, sndB l = true) ∧ Below w.heap.size w wr) (fun _ i _ => ps.length - (RowKit.intOf i).toNat)
  case atStart => exact ⟨0, 0, by omega, rfl, rfl, rfl, by omega, by intro l hl; simp at hl, Below.refl _ _⟩
  case round =>
    obtain ⟨k, tot, hk, rfl, rfl, htot, htk, hall, hB⟩ := hrel
    have hsz := hB.size
    by_cases hlt : k < ps.length
    · obtain ⟨b, o, rfl, hbl, hc⟩ : ∃ b o, ao = some ⟨b, o, none⟩ ∧ b < B ∧ ∀ i, i < ps.length → ∃ pv, w.cell? ⟨b, o + i, none⟩ = some pv ∧ Nodes w B pv (ps.getD i []) := by
        rcases HC.out with h | h
        · subst h; simp at hlt
        · exact h
      obtain ⟨pv, hpc, hpn⟩ := hc k hlt
      clear hc HC
      have hpc : wr.cell? ⟨b, o + k, none⟩ = some pv := (hB.cell (p := ⟨b, o + k, none⟩) (by show b < w.heap.size; omega)).trans hpc
      have hpn := hpn.below (hB.mono hBw) (Nat.le_refl _)
      have HMEM : Hid (ps.getD k [] ∈ ps) := by show ps.getD k [] ∈ ps; simp [hlt]
      have HS : Hid (ps.take (k + 1) = ps.take k ++ [ps.getD k []]) := by show ps.take (k + 1) = _; rw [List.take_succ_eq_append_getElem hlt]; simp [hlt]
      have HT2 : Hid ((accS (ps.take (k + 1))).1.length = tot + (ps.getD k []).length) := by
        show (accS (ps.take (k + 1))).1.length = _
        rw [HS.out, accS_snoc]; simp [htot.out]
      have hFk := (HFF.out _ HMEM.out).name
      generalize ps.getD k [] = l at *
      obtain ⟨pa, pc, rfl, hpn'⟩ := id hpn
      clear hpn'
      have cC : Hid (Calls Tryd.prog 10 #[.slice pa l.length pc] wr fun e w' => e = .returned (.int .i64 (chkE l)) ∧ Below wr.heap.size wr w') := refCheck_any _ l wr B (by omega) hpn hFk
      cases hs : sndB l with
      | false =>
        have HS0 : Hid (sndB l = false) := hs
        rw [chkE_no hs] at cC
        clear hs
        go_wp2_with fail
        refine cC.out.mono ?_
        rintro e w2 ⟨rfl, hb2⟩
        go_wp2_with fail
        go_ret2
        exact ⟨hB.trans (hb2.mono hsz), .inl ⟨⟨l, HMEM.out, HS0.out⟩, rfl⟩⟩
      | true =>
        have HS0 : Hid (sndB l = true) := hs
        rw [chkE_yes hs] at cC
        obtain ⟨fr, hfr⟩ := snd_some hs
        have hl64 := (snd_bounds hfr).1
        clear hs hfr
        go_wp2_with fail
        refine cC.out.mono ?_
        rintro e w2 ⟨rfl, hb2⟩
        have hpc2 : w2.cell? ⟨b, o + k, none⟩ = some (.slice pa l.length pc) := (hb2.cell (p := ⟨b, o + k, none⟩) (by show b < wr.heap.size; omega)).trans hpc
        clear hpc hpn cC
        go_wp2_with fail
        refine ⟨⟨k + 1, tot + l.length, by omega, by go_num, by go_num, HT2.out, by omega, ?_, hB.trans (hb2.mono hsz)⟩, by simp [RowKit.intOf]; omega⟩
        intro l' hl'
        rw [HS.out] at hl'
        rcases List.mem_append.1 hl' with h | h
        · exact hall.out l' h
        · simp at h; subst h; exact HS0.out
    · have hke : k = ps.length := by omega
      subst hke
      have hall2 : ∀ l ∈ ps, sndB l = true := by have := hall.out; rw [List.take_length] at this; exact this
      have HALL : Hid (∀ l ∈ ps, sndB l = true) := hall2
      have htot2 : (accS ps).1.length = tot := by have := htot.out; rw [List.take_length] at this; exact this
      have HTOT : Hid ((accS ps).1.length = tot) := htot2
      clear hall hall2 htot htot2
      have hmk := run_make_row' (P := Tryd.prog) 60 3 (.int .i64 0) 8 Tryd.underlying60 Tryd.info3 rfl .i64 .i64 ps.length (by omega) (by omega)
      have hkl2 : ps.length ≤ maxLen := by unfold maxLen; omega
      have cF : Hid (∀ W ka, Calls Tryd.prog 34 #[.agg #[.int .i64 op, .int .i64 n, .string nm, .slice ka ps.length ps.length]] W fun e w' => e = .returned (.bool (fitB op n nm ps.length)) ∧ Below W.heap.size W w') := fun W ka => form_any op n nm ka ps.length ps.length W HNM.out hkl2
      clear hkl2
      cases hf : fitB op n nm ps.length with
      | false =>
        have HF : Hid (fitB op n nm ps.length = false) := hf
        rw [hf] at cF
        clear hf
        go_wp2_with (go_at_call 34; refine (cF.out _ _).mono ?_; rintro e w2 ⟨rfl, hb2⟩)
        go_ret2
        refine ⟨?_, .inr (.inl ⟨HALL.out, HF.out, rfl⟩)⟩
        exact ((hB.alloc hsz _).alloc (by simp; omega) _).trans (hb2.mono (by simp; omega))
      | true =>
        have HF : Hid (fitB op n nm ps.length = true) := hf
        have hp3 : ps.length ≤ 3 := by
          unfold fitB at hf
          simp only [Bool.and_eq_true, decide_eq_true_eq] at hf
          have := aritI_le op
          omega
        rw [hf] at cF
        clear hf
        have HPS : Hid (∀ l ∈ ps, l.length ≤ 1000 ∧ ∀ x ∈ l, x.kids.length * 8 ≤ 140737488351232 ∧ ∀ k ∈ x.kids, 0 ≤ k ∧ k ≤ 9000) := fun l hl => by
          obtain ⟨fr, hfr⟩ := snd_some (HALL.out l hl)
          exact ⟨by have := (snd_bounds hfr).1; omega, snd_kids0 hfr⟩
        by_cases hlg : 64 < 1 + tot
        · have hlg2 : (64 : Int) < 1 + (tot : Int) := by omega
          go_wp2_with (go_at_call 34; refine (cF.out _ _).mono ?_; rintro e w2 ⟨rfl, hb2⟩)
          go_ret2
          refine ⟨?_, .inr (.inr (.inl ⟨HALL.out, HF.out, by rw [HTOT.out]; exact hlg, rfl⟩))⟩
          exact ((hB.alloc hsz _).alloc (by simp; omega) _).trans (hb2.mono (by simp; omega))
        · have hlg2 : ¬ (64 : Int) < 1 + (tot : Int) := by omega
          go_wp2_with fail
          refine (cF.out _ _).mono ?_
          rintro e w2 ⟨rfl, hb2⟩
          have hB2 : Below w.heap.size w w2 := ((hB.alloc hsz _).alloc (by simp; omega) _).trans (hb2.mono (by simp; omega))
          have hz2 : wr.heap.size + 2 ≤ w2.heap.size := by have := hb2.size; simp at this; omega
          have d0 : w2.cell? ⟨wr.heap.size + 1, 0, none⟩ = some (.int .i64 op) := by rw [hb2.cell (p := ⟨wr.heap.size + 1, 0, none⟩) (by simp)]; simp
          have d1 : w2.cell? ⟨wr.heap.size + 1, 1, none⟩ = some (.int .i64 n) := by rw [hb2.cell (p := ⟨wr.heap.size + 1, 1, none⟩) (by simp)]; simp
          have d2 : w2.cell? ⟨wr.heap.size + 1, 2, none⟩ = some (.string nm) := by rw [hb2.cell (p := ⟨wr.heap.size + 1, 2, none⟩) (by simp)]; simp
          have d3 : w2.cell? ⟨wr.heap.size + 1, 3, none⟩ = some (.slice (some ⟨wr.heap.size, 0, none⟩) ps.length ps.length) := by rw [hb2.cell (p := ⟨wr.heap.size + 1, 3, none⟩) (by simp)]; simp
          have hsz2 := hB2.size
          clear hmk cF hb2
          go_wp2_with fail
          refine (joined_any op n nm _ _ _ _ ps _ B (by omega) (HN.out.below (hB2.mono hBw) (Nat.le_refl _)) hp3 (fun l hl => ⟨Nat.le_trans (HPS.out l hl).1 (by omega), (HPS.out l hl).2⟩)).mono ?_
          rintro e w3 ⟨v3, rfl, hO3, hb3⟩
          obtain ⟨va, vn, vc, rfl⟩ := hO3.form
          have HO3 : Hid (OwnN w3 w.heap.size (.slice va vn vc) (joinL op n nm ps)) := OwnN_mono hO3 hsz2
          clear hO3
          go_wp2_with fail
          go_ret2
          exact ⟨hB2.trans (hb3.mono hsz2), .inr (.inr (.inr ⟨HALL.out, HF.out, by rw [HTOT.out]; omega, _, rfl, HO3.out⟩))⟩
end Go.Proofs.YtdcfjopmddaemaaDoor
