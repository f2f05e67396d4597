/-
  told, walked.
-/
import Derived.Test.YtfnbkffphpidbaaFoL1
set_option linter.unusedSimpArgs false
set_option linter.unusedVariables false
namespace Go.Proofs.Ytfnbkffphpidbaa
open Go.RowKit Go.Lib

set_option maxRecDepth 20000 in
set_option maxHeartbeats 2000000 in
theorem reason1_any (k : Int) (b : Nat) (w : World) (hb : w.heap[b]? = some (.cells #[.int .i64 k] 3 (0, 0))) : Calls Try.prog 46 #[.pointer (some ⟨b, 0, none⟩)] w fun e w' => e = .returned (.int .i64 k) ∧ w' = w := by
  have c : w.cell? ⟨b, 0, none⟩ = some (.int .i64 k) := by simp [World.cell?, hb]
  clear hb
  go_enter Try.func46, Try.ntmps46
  go_wp2
  go_ret
  exact ⟨rfl, rfl⟩

set_option maxRecDepth 20000 in
set_option maxHeartbeats 4000000 in
theorem told_any (u : Value) (k : Int) (w : World) (h : Rsn w u k (bits .and .i64 k 7)) : Calls Try.prog 49 #[u, .int .i64 k] w fun e w' => e = .returned (.bool true) ∧ Below w.heap.size w w' := by
  have hkk : (k == k) = true := by simp
  obtain ⟨c, hc⟩ : ∃ c, bits .and .i64 k 7 = c := ⟨_, rfl⟩
  rw [hc] at h
  rcases h with ⟨h0, rfl⟩ | ⟨h0, rfl⟩ | ⟨h0, b, rfl, hb⟩ | ⟨h0, rfl⟩ | ⟨h0, b, rfl, hb⟩ | ⟨h0, rfl⟩ | ⟨h0, b, rfl, hb⟩ | ⟨h0, rfl⟩
  · subst h0
    have ht : ∀ W, (Instr.typeAssert (.iface 3 (.int .i64 k)) 20 3 true).run Try.prog W = .ok (.tuple #[.int .i64 k, .bool true]) W := fun W => by kernel_rfl
    go_enter Try.func49, Try.ntmps49
    go_wp2
    go_ret
    refine ⟨by first | rfl | simp, ?_⟩
    repeat (first | exact Below.refl _ _ | refine Below.alloc ?_ (by simp <;> omega) _ | refine Below.drew ?_ | refine Below.setCell ?_ (by simp <;> omega) _)
  · subst h0
    have ht : ∀ W, (Instr.typeAssert (.iface 98 (.agg #[.int .i64 k])) 20 98 true).run Try.prog W = .ok (.tuple #[.agg #[.int .i64 k], .bool true]) W := fun W => by kernel_rfl
    go_enter Try.func49, Try.ntmps49
    go_wp2
    go_ret
    refine ⟨by first | rfl | simp, ?_⟩
    repeat (first | exact Below.refl _ _ | refine Below.alloc ?_ (by simp <;> omega) _ | refine Below.drew ?_ | refine Below.setCell ?_ (by simp <;> omega) _)
  · subst h0
    have ht : ∀ W, (Instr.typeAssert (.iface 99 (.pointer (some ⟨b, 0, none⟩))) 20 99 true).run Try.prog W = .ok (.tuple #[.pointer (some ⟨b, 0, none⟩), .bool true]) W := fun W => by kernel_rfl
    have c0 : w.cell? ⟨b, 0, none⟩ = some (.int .i64 k) := by simp [World.cell?, hb]
    clear hb
    go_enter Try.func49, Try.ntmps49
    go_wp2
    go_ret
    refine ⟨by first | rfl | simp, ?_⟩
    repeat (first | exact Below.refl _ _ | refine Below.alloc ?_ (by simp <;> omega) _ | refine Below.drew ?_ | refine Below.setCell ?_ (by simp <;> omega) _)
  · subst h0
    have ht : ∀ W, (Instr.typeAssert (.iface 9 (.string (rb k))) 20 9 true).run Try.prog W = .ok (.tuple #[.string (rb k), .bool true]) W := fun W => by kernel_rfl
    have hcv := rb_conv k w.heap.size (w.alloc (.cells #[.int .u8 (k % 256), .int .u8 (k / 256 % 256)] 5)) (Deep.blk_alloc_new _ _)
    go_enter Try.func49, Try.ntmps49
    go_wp2
    go_ret
    refine ⟨by first | rfl | simp, ?_⟩
    repeat (first | exact Below.refl _ _ | refine Below.alloc ?_ (by simp <;> omega) _ | refine Below.drew ?_ | refine Below.setCell ?_ (by simp <;> omega) _)
  · subst h0
    have ht : ∀ W, (Instr.typeAssert (.iface 46 (.slice (some ⟨b, 0, none⟩) 1 1)) 20 46 true).run Try.prog W = .ok (.tuple #[.slice (some ⟨b, 0, none⟩) 1 1, .bool true]) W := fun W => by kernel_rfl
    have c0 : w.cell? ⟨b, 0, none⟩ = some (.int .i64 k) := by simp [World.cell?, hb]
    clear hb
    go_enter Try.func49, Try.ntmps49
    go_wp2
    go_ret
    refine ⟨by first | rfl | simp, ?_⟩
    repeat (first | exact Below.refl _ _ | refine Below.alloc ?_ (by simp <;> omega) _ | refine Below.drew ?_ | refine Below.setCell ?_ (by simp <;> omega) _)
  · subst h0
    have ht : ∀ W, (Instr.typeAssert (.iface 2 (.int .i64 k)) 20 2 true).run Try.prog W = .ok (.tuple #[.int .i64 k, .bool true]) W := fun W => by kernel_rfl
    go_enter Try.func49, Try.ntmps49
    go_wp2
    go_ret
    refine ⟨by first | rfl | simp, ?_⟩
    repeat (first | exact Below.refl _ _ | refine Below.alloc ?_ (by simp <;> omega) _ | refine Below.drew ?_ | refine Below.setCell ?_ (by simp <;> omega) _)
  · subst h0
    have ht : ∀ W, (Instr.typeAssert (.iface 33 (.func (.func 46) #[] #[.pointer (some ⟨b, 0, none⟩)])) 20 33 true).run Try.prog W = .ok (.tuple #[.func (.func 46) #[] #[.pointer (some ⟨b, 0, none⟩)], .bool true]) W := fun W => by kernel_rfl
    have hnf : ∀ W, (binOp BinOp.neq 33 (Value.func (Fn.func 46) #[] #[Value.pointer (some ⟨b, 0, none⟩)]) Value.nilFunc).run Try.prog W = .ok (.bool true) W := fun W => by kernel_rfl
    have CR : Hid (Calls Try.prog 46 #[.pointer (some ⟨b, 0, none⟩)] w fun e w' => e = .returned (.int .i64 k) ∧ w' = w) := reason1_any k b w hb
    clear hb
    go_enter Try.func49, Try.ntmps49
    go_wp2_with fail
    refine CR.out.mono ?_
    rintro e w' ⟨rfl, hw⟩
    obtain rfl := hw.symm
    go_wp2_with fail
    go_ret
    refine ⟨by first | rfl | simp, ?_⟩
    repeat (first | exact Below.refl _ _ | refine Below.alloc ?_ (by simp <;> omega) _ | refine Below.drew ?_ | refine Below.setCell ?_ (by simp <;> omega) _)
  · have g0 : (c == 0) = false := by simp; omega
    have g1 : (c == 1) = false := by simp; omega
    have g2 : (c == 2) = false := by simp; omega
    have g3 : (c == 3) = false := by simp; omega
    have g4 : (c == 4) = false := by simp; omega
    have g5 : (c == 5) = false := by simp; omega
    have g6 : (c == 6) = false := by simp; omega
    clear h0
    go_enter Try.func49, Try.ntmps49
    go_wp2
    go_ret
    refine ⟨by first | rfl | simp, ?_⟩
    repeat (first | exact Below.refl _ _ | refine Below.alloc ?_ (by simp <;> omega) _ | refine Below.drew ?_ | refine Below.setCell ?_ (by simp <;> omega) _)
end Go.Proofs.Ytfnbkffphpidbaa
