/-
  grown, walked.
-/
import Derived.Test.YtfnbkffphpidbaaFoOp
import Derived.Deep.RegionHeld3
set_option linter.unusedSimpArgs false
set_option linter.unusedVariables false
namespace Go.Proofs.Ytfnbkffphpidbaa
open Go.RowKit Go.Lib

/-- A forest at a block. -/
def FoX (w : World) (p : Nat) : Prop := ∃ v J V m, Fo w p v J V m

set_option maxRecDepth 20000 in
set_option maxHeartbeats 4000000 in
theorem grown_any (ao : Option Addr) (cap : Nat) (l : List Cl9) (w : World) (hS : Scr w ao cap l) :
    Calls Try.prog 12 #[.slice ao l.length cap] w fun e w' => e = .returned (.pointer (some ⟨w.heap.size, 0, none⟩)) ∧ FoX w' w.heap.size ∧ Below w.heap.size w w' := by
  have HS : Hid (Scr w ao cap l) := hS
  obtain ⟨⟨hl1, hl2⟩, _⟩ := hS
  unfold maxLen at hl2
  have HB1 : Hid (Below w.heap.size w (w.alloc (.cells #[.slice none 0 0] 65))) := (Below.refl _ _).alloc (Nat.le_refl _) _
  have h1 := Fo.fresh w
  have HZ : Hid (w.heap.size < (w.alloc (.cells #[.slice none 0 0] 65)).heap.size) := by rw [Hid]; simp
  go_enter Try.func12, Try.ntmps12
  go_wp2_with fail
  refine (fnew_any w).mono ?_
  rintro e w1 ⟨rfl, rfl⟩
  generalize w.alloc (.cells #[.slice none 0 0] 65) = w1 at *
  have HX1 : Hid (FoX w1 w.heap.size) := ⟨_, _, _, _, h1⟩
  clear h1
  go_wp2_with fail
  go_loopw [4] (fun i wr => ∃ k : Nat, k ≤ l.length ∧ i = .int .i64 k ∧ FoX wr w.heap.size ∧ Below w.heap.size w wr) (fun i _ => l.length - (RowKit.intOf i).toNat)
  case atStart => exact ⟨0, by omega, rfl, HX1.out, HB1.out⟩
  case round =>
    obtain ⟨k, hk, rfl, ⟨v, J, V, m, hF⟩, hB⟩ := hrel
    have HB : Hid (Below w.heap.size w wr) := hB
    have hsw := hB.size
    by_cases hlt : k < l.length
    · obtain ⟨b, o, rfl, hbl, hc⟩ : ∃ b o, ao = some ⟨b, o, none⟩ ∧ b < w.heap.size ∧ ∀ i, i < l.length → ClAt w b (o + i * 4) (l.getD i cl90) := by
        rcases HS.out.2 with h | h
        · subst h; simp at hlt
        · exact h
      have hc := hc k hlt
      have HCE : Hid (∀ W, Below w.heap.size w W → W.cell? ⟨b, o + k * 4, none⟩ = some (.int .i64 (l.getD k cl90).kind) ∧ W.cell? ⟨b, o + k * 4 + 1, none⟩ = some (.int .i64 (l.getD k cl90).a) ∧ W.cell? ⟨b, o + k * 4 + 2, none⟩ = some (.int .i64 (l.getD k cl90).b) ∧ W.cell? ⟨b, o + k * 4 + 3, none⟩ = some (.int .i64 (l.getD k cl90).why)) := fun W hW => ⟨(hW.cell (p := ⟨b, o + k * 4, none⟩) hbl).trans hc.c0, (hW.cell (p := ⟨b, o + k * 4 + 1, none⟩) hbl).trans hc.c1, (hW.cell (p := ⟨b, o + k * 4 + 2, none⟩) hbl).trans hc.c2, (hW.cell (p := ⟨b, o + k * 4 + 3, none⟩) hbl).trans hc.c3⟩
      clear hc
      generalize l.getD k cl90 = x at *
      obtain ⟨kd, xa, xb, xy⟩ := x
      simp only at HCE
      obtain ⟨q0, q1, q2, q3⟩ := HCE.out wr hB
      have hkI : (k : Int) < (l.length : Int) := by omega
      have hbr : b < wr.heap.size := by omega
      by_cases g1 : kd = 1
      · subst g1
        have HF : Hid (Fo wr w.heap.size v J V m) := hF
        clear hF hB
        go_wp2_with fail
        go_region_held3 (fun W => W.cell? ⟨b, o + k * 4, none⟩ = some (.int .i64 1) ∧ W.cell? ⟨b, o + k * 4 + 1, none⟩ = some (.int .i64 xa) ∧ W.cell? ⟨b, o + k * 4 + 2, none⟩ = some (.int .i64 xb) ∧ W.cell? ⟨b, o + k * 4 + 3, none⟩ = some (.int .i64 xy)) (go_keep) (first | (go_at_call 21; refine (reason_any xy _).mono ?_; rintro e w3 ⟨u, rfl, hu, _, hb3⟩; have hbr3 : Below wr.heap.size wr w3 := (Below.refl wr.heap.size wr).drew.trans hb3; have hbw3 : Below w.heap.size w w3 := HB.out.trans (hbr3.mono hsw); have hF3 := HF.out.below hbr3; obtain ⟨k0, k1, k2, k3⟩ := HCE.out w3 hbw3) | (go_at_call 17; refine (fojoin hF3 xa xb hu).mono ?_; rintro e w4 ⟨rfl, m4, hT4, _, h4, _⟩; have hbw4 : Below w.heap.size w w4 := hbw3.trans hT4.below; have HX4 : Hid (FoX w4 w.heap.size) := ⟨_, _, _, _, h4⟩; obtain ⟨k0, k1, k2, k3⟩ := HCE.out w4 hbw4))
        all_goals
          have HB4 : Hid (Below w.heap.size w w4) := hbw4
          clear hT4 h4 hbw4 hbw3 hbr3 hF3
          go_wp2_with fail
          exact ⟨⟨k + 1, by omega, by go_num, HX4.out, HB4.out⟩, by simp [RowKit.intOf]; omega⟩
      · have d1 : (kd == 1) = false := by simp [g1]
        by_cases g : kd = 2 ∨ kd = 3 ∨ kd = 4 ∨ kd = 5
        · have HX : Hid (FoX wr w.heap.size) := ⟨_, _, _, _, hF⟩
          clear hF hB
          rcases g with rfl | rfl | rfl | rfl
          all_goals
            go_wp2_with fail
            exact ⟨⟨k + 1, by omega, by go_num, HX.out, HB.out⟩, by simp [RowKit.intOf]; omega⟩
        · have d2 : (kd == 2) = false := by simp; omega
          have d3 : (kd == 3) = false := by simp; omega
          have d4 : (kd == 4) = false := by simp; omega
          have d5 : (kd == 5) = false := by simp; omega
          have cA : Hid (Calls Try.prog 18 #[.pointer (some ⟨w.heap.size, 0, none⟩)] wr fun e w' => e = .returned (.tuple #[.int .i64 (addA m), .int .i64 (addE m)]) ∧ ∃ v', FoT wr w.heap.size v v' (addM m) w' ∧ Fo w' w.heap.size v' J V (addM m)) := foadd hF
          clear hF hB g g1
          go_wp2_with fail
          refine cA.out.mono ?_
          rintro e w4 ⟨rfl, v4, hT4, h4⟩
          have HB4 : Hid (Below w.heap.size w w4) := HB.out.trans hT4.below
          have HX4 : Hid (FoX w4 w.heap.size) := ⟨_, _, _, _, h4⟩
          clear hT4 h4
          go_wp2_with fail
          exact ⟨⟨k + 1, by omega, by go_num, HX4.out, HB4.out⟩, by simp [RowKit.intOf]; omega⟩
    · have hke : k = l.length := by omega
      subst hke
      have HX : Hid (FoX wr w.heap.size) := ⟨_, _, _, _, hF⟩
      clear hF hB
      go_wp2_with fail
      go_ret
      exact ⟨rfl, HX.out, HB.out⟩
end Go.Proofs.Ytfnbkffphpidbaa
