/-
  What the document's Heads answers.
-/
import Derived.Test.YteaipdmbdcmmeaaDoorExOrdT
import Derived.Test.YteaipdmbdcmmeaaDoorRefOrdW
set_option linter.unusedSimpArgs false
set_option linter.unusedVariables false
namespace Go.Proofs.YteaipdmbdcmmeaaDoor
open Go.RowKit Go.Lib

theorem cmp3_lt {a b : Int} (h : a < b) : cmp3 a b = -1 := by unfold cmp3; rw [if_pos h]
theorem cmp3_gt {a b : Int} (h : b < a) : cmp3 a b = 1 := by unfold cmp3; rw [if_neg (by omega), if_pos h]

set_option maxHeartbeats 2000000 in
theorem heads_any (x y : Nd) (v3 u3 : Value) (va ua : Option Addr) (vn vc un uc : Nat) (hv : v3 = .slice va vn vc) (hu : u3 = .slice ua un uc) (w : World) (hs : x.name.size ≤ 64) (ht : y.name.size ≤ 64) :
    Calls Tryd.prog 115 #[.agg #[.int .i64 x.op, .int .i64 x.n, .string x.name, v3], .agg #[.int .i64 y.op, .int .i64 y.n, .string y.name, u3]] w fun e w' => e = .returned (.int .i64 (heads x y)) ∧ Below w.heap.size w w' := by
  subst hv
  subst hu
  obtain ⟨op, n, nm, ks⟩ := x
  obtain ⟨oq, m, nn, ls⟩ := y
  simp only at hs ht
  have HH : Hid (heads ⟨op, n, nm, ks⟩ ⟨oq, m, nn, ls⟩ = if cmp3 op oq = 0 then (if cmp3 n m = 0 then orL [ordI nm nn] else cmp3 n m) else cmp3 op oq) := rfl
  generalize heads ⟨op, n, nm, ks⟩ ⟨oq, m, nn, ls⟩ = R at *
  have hor : Hid (orL [ordI nm nn] = ordI nm nn) := by
    show orL [ordI nm nn] = ordI nm nn
    unfold orL orL; split <;> omega
  have cO : Hid (∀ W, Calls Tryd.prog 26 #[.string nm, .string nn] W fun e w' => e = .returned (.int .i64 (ordI nm nn)) ∧ Below W.heap.size W w') := fun W => refOrder_any nm nn W (by omega) (by omega)
  have hW : Below w.heap.size w ((w.alloc (.cells #[.int .i64 op, .int .i64 n, .string nm, .slice va vn vc] 42)).alloc (.cells #[.int .i64 oq, .int .i64 m, .string nn, .slice ua un uc] 42)) := ((Below.refl _ _).alloc (Nat.le_refl _) _).alloc (by simp) _
  have HW : Hid (Below w.heap.size w ((w.alloc (.cells #[.int .i64 op, .int .i64 n, .string nm, .slice va vn vc] 42)).alloc (.cells #[.int .i64 oq, .int .i64 m, .string nn, .slice ua un uc] 42))) := hW
  clear hW
  rcases Int.lt_trichotomy op oq with h | h | h
  · have HR : Hid (R = -1) := by rw [Hid]; rw [HH.out, cmp3_lt h]; rfl
    clear HH
    go_enter Tryd.func115, Tryd.ntmps115
    go_wp2
    go_ret
    exact ⟨congrArg (fun z => Ending.returned (.int .i64 z)) HR.out.symm, HW.out⟩
  · subst h
    rcases Int.lt_trichotomy n m with h | h | h
    · have HR : Hid (R = -1) := by rw [Hid]; rw [HH.out, cmp3_self, if_pos rfl, cmp3_lt h]; rfl
      clear HH
      go_enter Tryd.func115, Tryd.ntmps115
      go_wp2
      go_ret
      exact ⟨congrArg (fun z => Ending.returned (.int .i64 z)) HR.out.symm, HW.out⟩
    · subst h
      have HR : Hid (R = ordI nm nn) := by rw [Hid]; rw [HH.out, cmp3_self, if_pos rfl, cmp3_self, if_pos rfl, hor.out]
      clear HH
      go_enter Tryd.func115, Tryd.ntmps115
      go_wp2_with (first | (go_at_call 26; refine (cO.out _).mono ?_; rintro e w2 ⟨rfl, hb2⟩))
      go_ret
      exact ⟨congrArg (fun z => Ending.returned (.int .i64 z)) HR.out.symm, HW.out.trans (hb2.mono HW.out.size)⟩
    · have HR : Hid (R = 1) := by rw [Hid]; rw [HH.out, cmp3_self, if_pos rfl, cmp3_gt h]; rfl
      clear HH
      go_enter Tryd.func115, Tryd.ntmps115
      go_wp2
      go_ret
      exact ⟨congrArg (fun z => Ending.returned (.int .i64 z)) HR.out.symm, HW.out⟩
  · have HR : Hid (R = 1) := by rw [Hid]; rw [HH.out, cmp3_gt h]; rfl
    clear HH
    go_enter Tryd.func115, Tryd.ntmps115
    go_wp2
    go_ret
    exact ⟨congrArg (fun z => Ending.returned (.int .i64 z)) HR.out.symm, HW.out⟩
end Go.Proofs.YteaipdmbdcmmeaaDoor
