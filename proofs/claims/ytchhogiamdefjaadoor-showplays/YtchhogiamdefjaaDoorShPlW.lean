/-
  ShowPlays, walked.
-/
import Derived.Test.YtchhogiamdefjaaDoorRsdW
import Derived.Test.YtchhogiamdefjaaDoorShW
import Derived.Test.YtchhogiamdefjaaDoorExOpen
set_option linter.unusedSimpArgs false
set_option linter.unusedVariables false
namespace Go.Proofs.YtchhogiamdefjaaDoor
open Go.RowKit Go.Lib

set_option maxRecDepth 20000 in
set_option maxHeartbeats 1000000 in
theorem refShow_any {w : World} {ao : Option Addr} {cap : Nat} {l : List Nd} (hN : Rd w ao cap l) (hF : Fit l) (hnum : ∀ x ∈ l, num64 x.n) :
    Calls Tryd.prog 47 #[.slice ao l.length cap] w fun e w' => e = .returned (.tuple #[.string (shS betT l), .int .i64 (shE l)]) ∧ Below w.heap.size w w' := by
  have cS := refSound_any hN hF
  obtain ⟨hb1, hb2⟩ := hN.bound
  unfold maxLen at hb2
  cases hok : okSh l with
  | false =>
    rw [hok] at cS
    have HS : Hid (shS betT l = ⟨#[]⟩) := by show _ = _; unfold shS; rw [hok]; rfl
    have HE : Hid (shE l = 1) := by show _ = _; unfold shE; rw [hok]; rfl
    rw [HS.out, HE.out]
    clear hok hN hF hnum HS HE
    go_enter Tryd.func47, Tryd.ntmps47
    go_wp2_with (go_at_call 50; refine cS.mono ?_; rintro e w1 ⟨rfl, hq1⟩)
    go_ret2
    exact ⟨rfl, hq1⟩
  | true =>
    rw [hok] at cS
    obtain ⟨fr, hbeg⟩ : ∃ fr, begL (l.map fillN) = some fr := by
      unfold okSh at hok
      simp only [Bool.and_eq_true] at hok
      have := hok.2
      unfold sndB at this
      exact Option.isSome_iff_exists.1 this
    have hl0 : 0 < l.length := by have := (begL_some hbeg).1; simp at this; omega
    have HS : Hid (shS betT l = tx betT l (l.length - 1)) := by show _ = _; unfold shS; rw [hok, if_pos rfl, shF_tx]
    have HE : Hid (shE l = 0) := by show _ = _; unfold shE; rw [hok]; rfl
    rw [HS.out, HE.out]
    have cR : Hid (∀ W, Rd W ao cap l → Calls Tryd.prog 67 #[.slice ao l.length cap, .int .i64 ((l.length : Int) - 1)] W fun e w' => e = .returned (.string (tx betT l (l.length - 1))) ∧ Below W.heap.size W w') := fun W hW => by
      have := refShow_at hbeg hnum ao cap (l.length - 1) (by omega) W hW
      have e : ((l.length - 1 : Nat) : Int) = (l.length : Int) - 1 := by omega
      rw [e] at this; exact this
    generalize tx betT l (l.length - 1) = R at *
    have HN : Hid (Rd w ao cap l) := hN
    clear hok hN hF hnum HS HE hbeg
    go_enter Tryd.func47, Tryd.ntmps47
    go_wp2_with (first | (go_at_call 50; refine cS.mono ?_; rintro e w1 ⟨rfl, hq1⟩) | (go_at_call 67; refine (cR.out _ (HN.out.below hq1 hq1.size)).mono ?_; rintro e w2 ⟨rfl, hq2⟩))
    go_ret2
    exact ⟨rfl, hq1.trans (hq2.mono hq1.size)⟩

set_option maxHeartbeats 1000000 in
theorem ref5Show_any {w : World} {ao : Option Addr} {cap : Nat} {l : List Nd} (hN : Rd w ao cap l) (hF : Fit l) (hnum : ∀ x ∈ l, num64 x.n) :
    Calls Tryd.prog 23 #[.slice ao l.length cap] w fun e w' => e = .returned (.tuple #[.string (shS betT l), .int .i64 (shE l)]) ∧ Below w.heap.size w w' := by
  have c := refShow_any hN hF hnum
  generalize shS betT l = S at *
  generalize shE l = E at *
  clear hN hF hnum
  go_enter Tryd.func23, Tryd.ntmps23
  go_wp2_with (go_at_call 47; refine c.mono ?_; rintro e w1 ⟨rfl, hb1⟩)
  go_ret2
  exact ⟨rfl, hb1⟩

set_option maxRecDepth 20000 in
set_option maxHeartbeats 1000000 in
theorem refLisp_any {w : World} {ao : Option Addr} {cap : Nat} {l : List Nd} (hN : Rd w ao cap l) (hF : Fit l) (hnum : ∀ x ∈ l, num64 x.n) :
    Calls Tryd.prog 49 #[.slice ao l.length cap] w fun e w' => e = .returned (.tuple #[.string (shS ahdT l), .int .i64 (shE l)]) ∧ Below w.heap.size w w' := by
  have cS := refSound_any hN hF
  obtain ⟨hb1, hb2⟩ := hN.bound
  unfold maxLen at hb2
  cases hok : okSh l with
  | false =>
    rw [hok] at cS
    have HS : Hid (shS ahdT l = ⟨#[]⟩) := by show _ = _; unfold shS; rw [hok]; rfl
    have HE : Hid (shE l = 1) := by show _ = _; unfold shE; rw [hok]; rfl
    rw [HS.out, HE.out]
    clear hok hN hF hnum HS HE
    go_enter Tryd.func49, Tryd.ntmps49
    go_wp2_with (go_at_call 50; refine cS.mono ?_; rintro e w1 ⟨rfl, hq1⟩)
    go_ret2
    exact ⟨rfl, hq1⟩
  | true =>
    rw [hok] at cS
    obtain ⟨fr, hbeg⟩ : ∃ fr, begL (l.map fillN) = some fr := by
      unfold okSh at hok
      simp only [Bool.and_eq_true] at hok
      have := hok.2
      unfold sndB at this
      exact Option.isSome_iff_exists.1 this
    have hl0 : 0 < l.length := by have := (begL_some hbeg).1; simp at this; omega
    have HS : Hid (shS ahdT l = tx ahdT l (l.length - 1)) := by show _ = _; unfold shS; rw [hok, if_pos rfl, shF_tx]
    have HE : Hid (shE l = 0) := by show _ = _; unfold shE; rw [hok]; rfl
    rw [HS.out, HE.out]
    have cR : Hid (∀ W, Rd W ao cap l → Calls Tryd.prog 70 #[.slice ao l.length cap, .int .i64 ((l.length : Int) - 1)] W fun e w' => e = .returned (.string (tx ahdT l (l.length - 1))) ∧ Below W.heap.size W w') := fun W hW => by
      have := refLisp_at hbeg hnum ao cap (l.length - 1) (by omega) W hW
      have e : ((l.length - 1 : Nat) : Int) = (l.length : Int) - 1 := by omega
      rw [e] at this; exact this
    generalize tx ahdT l (l.length - 1) = R at *
    have HN : Hid (Rd w ao cap l) := hN
    clear hok hN hF hnum HS HE hbeg
    go_enter Tryd.func49, Tryd.ntmps49
    go_wp2_with (first | (go_at_call 50; refine cS.mono ?_; rintro e w1 ⟨rfl, hq1⟩) | (go_at_call 70; refine (cR.out _ (HN.out.below hq1 hq1.size)).mono ?_; rintro e w2 ⟨rfl, hq2⟩))
    go_ret2
    exact ⟨rfl, hq1.trans (hq2.mono hq1.size)⟩

set_option maxHeartbeats 1000000 in
theorem ref5Lisp_any {w : World} {ao : Option Addr} {cap : Nat} {l : List Nd} (hN : Rd w ao cap l) (hF : Fit l) (hnum : ∀ x ∈ l, num64 x.n) :
    Calls Tryd.prog 25 #[.slice ao l.length cap] w fun e w' => e = .returned (.tuple #[.string (shS ahdT l), .int .i64 (shE l)]) ∧ Below w.heap.size w w' := by
  have c := refLisp_any hN hF hnum
  generalize shS ahdT l = S at *
  generalize shE l = E at *
  clear hN hF hnum
  go_enter Tryd.func25, Tryd.ntmps25
  go_wp2_with (go_at_call 49; refine c.mono ?_; rintro e w1 ⟨rfl, hb1⟩)
  go_ret2
  exact ⟨rfl, hb1⟩

end Go.Proofs.YtchhogiamdefjaaDoor

namespace Go.Proofs.YtchhogiamdefjaaDoor
open Go.RowKit Go.Lib

theorem FitX.fit5' {l : List Nd} (h : FitX l) : Fit5 l := ⟨h.name, fun x hx => bounds_i64 (h.num x hx)⟩

set_option maxRecDepth 20000 in
set_option maxHeartbeats 4000000 in
theorem showPlays_any (w : World) (ao : Option Addr) (cap : Nat) (l : List Nd) (hT : Tb5 w) (hN : Rd w ao cap l) (hF : FitX l) :
    Calls Tryd.prog 4 #[.slice ao l.length cap] w fun e w' => e = .returned (.bool true) ∧ Below w.heap.size w w' := by
  have HT : Hid (Tb5 w) := hT
  have HN : Hid (Rd w ao cap l) := hN
  have HF : Hid (FitX l) := hF
  have cSh : Hid (∀ W ao cap, Tb5 W → Rd W ao cap l → Calls Tryd.prog 22 #[.slice ao l.length cap] W fun e w' => e = .returned (.tuple #[.string (shS betT l), .int .i64 (shE l)]) ∧ Below W.heap.size W w') := fun W ao cap h1 h2 => show_any h1 h2 HF.out.fit5'
  have cLi : Hid (∀ W ao cap, Tb5 W → Rd W ao cap l → Calls Tryd.prog 24 #[.slice ao l.length cap] W fun e w' => e = .returned (.tuple #[.string (shS ahdT l), .int .i64 (shE l)]) ∧ Below W.heap.size W w') := fun W ao cap h1 h2 => lisp_any h1 h2 HF.out.fit5'
  have cRs : Hid (∀ W ao cap, Rd W ao cap l → Calls Tryd.prog 23 #[.slice ao l.length cap] W fun e w' => e = .returned (.tuple #[.string (shS betT l), .int .i64 (shE l)]) ∧ Below W.heap.size W w') := fun W ao cap h2 => ref5Show_any h2 HF.out.fit HF.out.fit5'.num
  have cRl : Hid (∀ W ao cap, Rd W ao cap l → Calls Tryd.prog 25 #[.slice ao l.length cap] W fun e w' => e = .returned (.tuple #[.string (shS ahdT l), .int .i64 (shE l)]) ∧ Below W.heap.size W w') := fun W ao cap h2 => ref5Lisp_any h2 HF.out.fit HF.out.fit5'.num
  generalize shS betT l = S at *
  generalize shS ahdT l = L at *
  generalize shE l = E at *
  have cA := awake_any hT
  clear hT hN hF
  go_enter Tryd.func4, Tryd.ntmps4
  go_wp2_with (go_at_call 21; refine cA.mono ?_; rintro e w1 ⟨rfl, hb⟩)
  have B1 : Hid (Below w.heap.size w w1) := hb
  clear cA hb
  have c := copyR (HN.out.below B1.out B1.out.size) HF.out.fit
  go_wp2_with (go_at_call 9; refine c.mono ?_; rintro e w2 ⟨co2, cc2, rfl, hcr, hb⟩)
  have B2 : Hid (Below w.heap.size w w2) := B1.out.trans (hb.mono B1.out.size)
  have C2 : Hid (Rd w2 co2 cc2 l) := hcr
  clear c hb hcr
  have c := cSh.out w2 co2 cc2 (HT.out.below B2.out) C2.out
  go_wp2_with (go_at_call 22; refine c.mono ?_; rintro e w3 ⟨rfl, hb⟩)
  have B3 : Hid (Below w.heap.size w w3) := B2.out.trans (hb.mono B2.out.size)
  clear c hb
  have c := cRs.out w3 ao cap (HN.out.below B3.out B3.out.size)
  go_wp2_with (go_at_call 23; refine c.mono ?_; rintro e w4 ⟨rfl, hb⟩)
  have B4 : Hid (Below w.heap.size w w4) := B3.out.trans (hb.mono B3.out.size)
  clear c hb
  have c := copyR (HN.out.below B4.out B4.out.size) HF.out.fit
  go_wp2_with (go_at_call 9; refine c.mono ?_; rintro e w5 ⟨co5, cc5, rfl, hcr, hb⟩)
  have B5 : Hid (Below w.heap.size w w5) := B4.out.trans (hb.mono B4.out.size)
  have C5 : Hid (Rd w5 co5 cc5 l) := hcr
  clear c hb hcr
  have c := cLi.out w5 co5 cc5 (HT.out.below B5.out) C5.out
  go_wp2_with (go_at_call 24; refine c.mono ?_; rintro e w6 ⟨rfl, hb⟩)
  have B6 : Hid (Below w.heap.size w w6) := B5.out.trans (hb.mono B5.out.size)
  clear c hb
  have c := cRl.out w6 ao cap (HN.out.below B6.out B6.out.size)
  go_wp2_with (go_at_call 25; refine c.mono ?_; rintro e wz ⟨rfl, hb⟩)
  go_ret
  exact ⟨rfl, B6.out.trans (hb.mono B6.out.size)⟩
end Go.Proofs.YtchhogiamdefjaaDoor
