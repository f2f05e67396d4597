/-
  ForestPlays, walked.
-/
import Derived.Test.YtfnbkffphpidbaaFoSj
set_option linter.unusedSimpArgs false
set_option linter.unusedVariables false
namespace Go.Proofs.Ytfnbkffphpidbaa
open Go.RowKit Go.Lib Go.Sort

set_option maxRecDepth 20000 in
set_option maxHeartbeats 8000000 in
theorem forestPlays_walk (ao : Option Addr) (cap : Nat) (l : List Cl9) (w : World) (hS : Scr w ao cap l) (hbig : l.length * 32 ≤ 140737488351232) :
    Calls Try.prog 3 #[.slice ao l.length cap] w fun e w' => e = .returned (.bool true) ∧ Below w.heap.size w w' := by
  have HS : Hid (Scr w ao cap l) := hS
  obtain ⟨⟨hl1, hl2⟩, _⟩ := hS
  unfold maxLen at hl2
  go_enter Try.func3, Try.ntmps3
  go_wp2_with fail
  refine (awake9_any w).mono ?_
  rintro e w1 ⟨rfl, hb1⟩
  have HB1 : Hid (Below w.heap.size w w1) := hb1
  have hz1 := hb1.size
  clear hb1
  go_wp2_with fail
  refine (fnew_any w1).mono ?_
  rintro e w2 ⟨rfl, hw2⟩
  obtain ⟨w3, hw3⟩ : ∃ w3, w2.alloc (.cells #[.int .i64 0, .slice none 0 0] 29) = w3 := ⟨_, rfl⟩
  have hz2 : w2.heap.size = w1.heap.size + 1 := by rw [hw2]; exact World.size_alloc _ _
  have HB3 : Hid (Below w.heap.size w w3) := by
    rw [← hw3, hw2]
    exact (HB1.out.alloc hz1 _).alloc (by rw [World.size_alloc]; omega) _
  have HT3 : Hid (Bth w3 w1.heap.size (w1.heap.size + 1) (.slice none 0 0) (.slice none 0 0) [] [] []) := by
    refine ⟨?_, ⟨?_, World.ownsRow_nil _ _ _ _, by simp, by simp⟩, fun i hi => by simp at hi⟩
    · have h1 : Fo w2 w1.heap.size (.slice none 0 0) [] [] [] := by rw [hw2]; exact Fo.fresh w1
      have h2 := h1.below (w' := w3) (by rw [← hw3]; exact (Below.refl _ _).alloc (Nat.le_refl _) _)
      exact h2
    · rw [← hw3, ← hz2]; exact Deep.blk_alloc_new _ _
  rw [← hz2] at HT3
  have hpq : w1.heap.size ≤ w2.heap.size := by omega
  clear hw2 hz2
  go_wp2_with fail
  try rw [hw3]
  clear hw3
  go_loopw [5] (fun i wr => ∃ k : Nat, k ≤ l.length ∧ i = .int .i64 k ∧ (∃ v v2 L V m, Bth wr w1.heap.size w2.heap.size v v2 L V m ∧ L.length ≤ k) ∧ Below w.heap.size w wr) (fun i _ => l.length - (RowKit.intOf i).toNat)
  case atStart => exact ⟨0, by omega, rfl, ⟨_, _, [], [], [], HT3.out, by simp⟩, HB3.out⟩
  case round =>
    obtain ⟨k, hk, rfl, ⟨v, v2, L, V, m, hT, hLk⟩, hBr⟩ := hrel
    have HT : Hid (Bth wr w1.heap.size w2.heap.size v v2 L V m) := hT
    have HBr : Hid (Below w.heap.size w wr) := hBr
    have hszr := hBr.size
    clear hT hBr HT3 HB3
    by_cases hlt : k < l.length
    · have hltI : (k : Int) < (l.length : Int) := by omega
      obtain ⟨b, o, hao, hbl, hc⟩ : ∃ b o, ao = some ⟨b, o, none⟩ ∧ b < w.heap.size ∧ ∀ i, i < l.length → ClAt w b (o + i * 4) (l.getD i cl90) := by
        rcases HS.out.2 with h | h
        · subst h; simp at hlt
        · exact h
      subst hao
      obtain ⟨c0, c1, c2, c3⟩ := hc k hlt
      generalize l.getD k cl90 = x at *
      obtain ⟨kd, xa, xb, xy⟩ := x
      simp only at c0 c1 c2 c3
      have HCE : Hid (∀ W, Below w.heap.size w W → W.cell? ⟨b, o + k * 4, none⟩ = some (.int .i64 kd) ∧ W.cell? ⟨b, o + k * 4 + 1, none⟩ = some (.int .i64 xa) ∧ W.cell? ⟨b, o + k * 4 + 2, none⟩ = some (.int .i64 xb) ∧ W.cell? ⟨b, o + k * 4 + 3, none⟩ = some (.int .i64 xy)) := fun W hW => ⟨(hW.cell (p := ⟨b, o + k * 4, none⟩) hbl).trans c0, (hW.cell (p := ⟨b, o + k * 4 + 1, none⟩) hbl).trans c1, (hW.cell (p := ⟨b, o + k * 4 + 2, none⟩) hbl).trans c2, (hW.cell (p := ⟨b, o + k * 4 + 3, none⟩) hbl).trans c3⟩
      obtain ⟨q0, q1, q2, q3⟩ := HCE.out wr HBr.out
      have hll : (L.length + 2) * 24 ≤ 140737488355328 := by omega
      clear hc c0 c1 c2 c3
      go_wp2_with fail
      refine wp_region_noPanic ?_
      go_region_with (first | (go_at_call 10; refine (step_any _ w1.heap.size w2.heap.size v v2 L V m kd xa xb xy hpq hll (HT.out.below (Below.refl _ _).drew)).mono ?_; rintro e w5 ⟨rfl, v5, v25, L5, V5, m5, hB5, hl5, hb5⟩; have hb5' : Below w.heap.size w w5 := HBr.out.trans (((Below.refl _ _).drew.trans hb5).mono hz1); have n5 := hB5.rf.c0; have HN5 : Hid (Bth w5 w1.heap.size w2.heap.size v5 v25 L5 V5 m5) := hB5; have HB5 : Hid (Below w.heap.size w w5) := hb5'; have hmm : ((m5.length : Int) == (m5.length : Int)) = true := (by simp); obtain ⟨k0, k1, k2, k3⟩ := HCE.out w5 hb5') | (go_at_call 11; refine (flen_any _ w1.heap.size v5 m5 HN5.out.fo.fo).mono ?_; rintro e w6 ⟨rfl, hw6⟩; obtain rfl := hw6.symm))
      all_goals
        refine NoPanic.normal ?_
        go_wp2_with fail
        exact ⟨⟨k + 1, by omega, by go_num, ⟨_, _, _, _, _, HN5.out, by omega⟩, HB5.out⟩, by simp [RowKit.intOf]; omega⟩
    · have hke : k = l.length := by omega
      subst hke
      go_wp2_with fail
      go_ret
      exact ⟨rfl, HBr.out⟩
end Go.Proofs.Ytfnbkffphpidbaa
