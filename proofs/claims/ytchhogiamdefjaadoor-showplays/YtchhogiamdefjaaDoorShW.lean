/-
  Show and Lisp, walked; that the program is awake.
-/
import Derived.Test.YtchhogiamdefjaaDoorTlW2
set_option linter.unusedSimpArgs false
set_option linter.unusedVariables false
namespace Go.Proofs.YtchhogiamdefjaaDoor
open Go.RowKit Go.Lib

/-- Within the reach of Show and Lisp. -/
structure Fit5 (l : List Nd) : Prop where
  name : ∀ x ∈ l, x.name.size ≤ maxLen
  num : ∀ x ∈ l, num64 x.n

def shS (J : JT) (l : List Nd) : ByteArray := if okSh l = true then shF J l else ⟨#[]⟩
def shE (l : List Nd) : Int := if okSh l = true then 0 else 1

set_option maxHeartbeats 1000000 in
theorem show_any {w : World} {ao : Option Addr} {cap : Nat} {l : List Nd} (hT : Tb5 w) (hN : Rd w ao cap l) (hF : Fit5 l) :
    Calls Tryd.prog 22 #[.slice ao l.length cap] w fun e w' => e = .returned (.tuple #[.string (shS betT l), .int .i64 (shE l)]) ∧ Below w.heap.size w w' := by
  have c := tell_bet hT hN hF.name hF.num
  have HV : Hid (tellV betT l = .tuple #[.string (shS betT l), .int .i64 (shE l)]) := rfl
  rw [HV.out] at c
  generalize shS betT l = S at *
  generalize shE l = E at *
  clear hT hN hF HV
  go_enter Tryd.func22, Tryd.ntmps22
  go_wp2_with (go_at_call 45; refine c.mono ?_; rintro e w1 ⟨rfl, hb1⟩)
  go_ret2
  exact ⟨rfl, hb1⟩
set_option maxHeartbeats 1000000 in
theorem lisp_any {w : World} {ao : Option Addr} {cap : Nat} {l : List Nd} (hT : Tb5 w) (hN : Rd w ao cap l) (hF : Fit5 l) :
    Calls Tryd.prog 24 #[.slice ao l.length cap] w fun e w' => e = .returned (.tuple #[.string (shS ahdT l), .int .i64 (shE l)]) ∧ Below w.heap.size w w' := by
  have c := tell_ahd hT hN hF.name hF.num
  have HV : Hid (tellV ahdT l = .tuple #[.string (shS ahdT l), .int .i64 (shE l)]) := rfl
  rw [HV.out] at c
  generalize shS ahdT l = S at *
  generalize shE l = E at *
  clear hT hN hF HV
  go_enter Tryd.func24, Tryd.ntmps24
  go_wp2_with (go_at_call 45; refine c.mono ?_; rintro e w1 ⟨rfl, hb1⟩)
  go_ret2
  exact ⟨rfl, hb1⟩

def seven : List Nd := [⟨1, 7, ⟨#[]⟩, []⟩]
theorem seven_ok : okSh seven = true := by
  have h := empty_yes ⟨#[]⟩ rfl
  simp [okSh, seven, hlsL, addNm, sndB, begL, begR, stp, formB, fitB, aritI, chainL, fillN, h]
theorem seven_shF : shF betT seven = ⟨#[55]⟩ := by
  have h : itoa 7 = [55] := by simp [itoa, decDigits]
  simp [shF, seven, tlL, tlS, ndT, leafT, txt, h]
set_option maxHeartbeats 1000000 in
theorem awake_any {w : World} (hT : Tb5 w) :
    Calls Tryd.prog 21 #[] w fun e w' => e = .returned (.bool true) ∧ Below w.heap.size w w' := by
  have hb : Below w.heap.size w (w.alloc (.cells #[.int .i64 1, .int .i64 7, .string ⟨#[]⟩, .slice none 0 0] 49)) := (Below.refl _ _).alloc (Nat.le_refl _) _
  have hR : Rd (w.alloc (.cells #[.int .i64 1, .int .i64 7, .string ⟨#[]⟩, .slice none 0 0] 49)) (some ⟨w.heap.size, 0, none⟩) 1 seven := by
    refine ⟨_, 1, rfl, by simp [seven], by simp [maxLen], .inr ⟨w.heap.size, 0, rfl, by simp, fun i hi => ?_⟩⟩
    have : i = 0 := by simp [seven] at hi; omega
    subst this
    exact ⟨.slice none 0 0, by simp [seven], by simp [seven], by simp [seven], by simp, ⟨none, 0, by simp [seven], by simp [seven], ⟨by simp [maxLen], fun _ => rfl⟩, .inl (by simp [seven])⟩⟩
  have c := show_any (hT.below hb) hR ⟨fun x hx => by simp [seven] at hx; subst hx; show 0 ≤ maxLen; exact Nat.zero_le _, by simp [seven, num64]⟩
  have e1 : shS betT seven = ⟨#[55]⟩ := by unfold shS; rw [seven_ok, if_pos rfl, seven_shF]
  have e2 : shE seven = 0 := by unfold shE; rw [seven_ok, if_pos rfl]
  have e3 : seven.length = 1 := rfl
  rw [e1, e2, e3] at c
  have HB : Hid (Below w.heap.size w (w.alloc (.cells #[.int .i64 1, .int .i64 7, .string ⟨#[]⟩, .slice none 0 0] 49))) := hb
  clear hT hR e1 e2 e3 hb
  go_enter Tryd.func21, Tryd.ntmps21
  go_wp2_with (go_at_call 22; refine c.mono ?_; rintro e w1 ⟨rfl, hb1⟩)
  go_ret
  exact ⟨rfl, HB.out.trans (hb1.mono HB.out.size)⟩
end Go.Proofs.YtchhogiamdefjaaDoor
