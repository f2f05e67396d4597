/-
  Whether a part stands in brackets, walked.
-/
import Derived.Test.YtchhogiamdefjaaDoorShMem
import Derived.BigQuiet
set_option linter.unusedSimpArgs false
set_option linter.unusedVariables false
namespace Go.Proofs.YtchhogiamdefjaaDoor
open Go.RowKit Go.Lib

theorem rk_nat (k : Nat) : rkT (k : Int) = (wrTab.getD k ([], [], 0)).2.2 := by unfold rkT wrAt; rw [Int.toNat_natCast]

set_option maxRecDepth 20000 in
set_option maxHeartbeats 2000000 in
theorem brk_any (op q place : Nat) (n : Int) (nm : ByteArray) (ks : List Int) (ka : Option Addr) (kn kc : Nat) (w : World) (hT : WrCells w) (ho : op < 19) (hq : q < 19) :
    Calls Tryd.prog 66 #[.int .i64 op, .int .i64 place, .agg #[.int .i64 q, .int .i64 n, .string nm, .slice ka kn kc] ] w fun e w' => e = .returned (.bool (brkB op place ⟨q, n, nm, ks⟩)) ∧ Below w.heap.size w w' := by
  have d1 := (hT op ho).2.2
  have d2 := (hT q hq).2.2
  have hg := World.block_lt_of_cell? w _ d1
  simp only at hg
  obtain ⟨a, ha⟩ : ∃ a, (wrTab.getD op ([], [], 0)).2.2 = a := ⟨_, rfl⟩
  obtain ⟨b, hb⟩ : ∃ b, (wrTab.getD q ([], [], 0)).2.2 = b := ⟨_, rfl⟩
  rw [ha] at d1
  rw [hb] at d2
  obtain ⟨R, hR⟩ : ∃ R, brkB op place ⟨q, n, nm, ks⟩ = R := ⟨_, rfl⟩
  have HR : Hid (R = if (op : Int) = 17 then decide (place = 0) && decide (b = a) else if (op : Int) = 15 ∨ (op : Int) = 16 then decide (b ≤ a) else if (op : Int) = 3 ∧ (q : Int) = 1 then decide (0 ≤ n) else if place = 0 then decide (b < a) else decide (b ≤ a)) := by
    show R = _
    rw [← hR, ← ha, ← hb, ← rk_nat, ← rk_nat]; rfl
  rw [hR]
  clear hR ha hb hT
  have hW : Below w.heap.size w (w.alloc (.cells #[.int .i64 q, .int .i64 n, .string nm, .slice ka kn kc] 49)) := (Below.refl _ _).alloc (Nat.le_refl _) _
  have HW : Hid (Below w.heap.size w (w.alloc (.cells #[.int .i64 q, .int .i64 n, .string nm, .slice ka kn kc] 49))) := hW
  clear hW
  by_cases h17 : op = 17
  · subst h17
    by_cases hp : place = 0
    · subst hp
      have HR2 : Hid (R = decide (b = a)) := by show R = _; rw [HR.out]; simp
      clear HR
      go_enter Tryd.func66, Tryd.ntmps66
      go_wp2_with fail
      go_quiet (fail)
      go_wp2_with fail
      go_ret
      exact ⟨by rw [HR2.out] <;> rfl, below_drewN' HW.out _⟩
    · have HR2 : Hid (R = false) := by show R = _; rw [HR.out]; simp [hp]
      have gp : ((place : Int) == 0) = false := by rw [beq_eq_false_iff_ne]; omega
      clear HR
      go_enter Tryd.func66, Tryd.ntmps66
      go_wp2_with fail
      go_quiet (fail)
      go_wp2_with fail
      go_ret
      exact ⟨by rw [HR2.out] <;> rfl, below_drewN' HW.out _⟩
  · have g17 : ((op : Int) == 17) = false := by rw [beq_eq_false_iff_ne]; omega
    by_cases h15 : op = 15
    · subst h15
      have HR2 : Hid (R = decide (b ≤ a)) := by show R = _; rw [HR.out]; simp
      clear HR
      go_enter Tryd.func66, Tryd.ntmps66
      go_wp2_with fail
      go_quiet (fail)
      go_wp2_with fail
      go_ret
      exact ⟨by rw [HR2.out] <;> rfl, below_drewN' HW.out _⟩
    · have g15 : ((op : Int) == 15) = false := by rw [beq_eq_false_iff_ne]; omega
      by_cases h16 : op = 16
      · subst h16
        have HR2 : Hid (R = decide (b ≤ a)) := by show R = _; rw [HR.out]; simp
        clear HR
        go_enter Tryd.func66, Tryd.ntmps66
        go_wp2_with fail
        go_quiet (fail)
        go_wp2_with fail
        go_ret
        exact ⟨by rw [HR2.out] <;> rfl, below_drewN' HW.out _⟩
      · have g16 : ((op : Int) == 16) = false := by rw [beq_eq_false_iff_ne]; omega
        by_cases hl : op = 3 ∧ q = 1
        · obtain ⟨rfl, rfl⟩ := hl
          have HR2 : Hid (R = decide (0 ≤ n)) := by show R = _; rw [HR.out]; simp
          clear HR
          go_enter Tryd.func66, Tryd.ntmps66
          go_wp2_with fail
          go_quiet (fail)
          go_wp2_with fail
          go_ret
          exact ⟨by rw [HR2.out] <;> rfl, below_drewN' HW.out _⟩
        · have HR3 : Hid (R = if place = 0 then decide (b < a) else decide (b ≤ a)) := by
            show R = _
            rw [HR.out, if_neg (by omega), if_neg (by omega), if_neg (by omega)]
          clear HR
          have fin : ∀ z : Bool, z = (if place = 0 then decide (b < a) else decide (b ≤ a)) → z = R := fun z hz => by rw [HR3.out, hz]
          have FIN : Hid (∀ z : Bool, z = (if place = 0 then decide (b < a) else decide (b ≤ a)) → z = R) := fin
          clear fin HR3
          by_cases h3 : op = 3
          · subst h3
            have gq : ((q : Int) == 1) = false := by rw [beq_eq_false_iff_ne]; omega
            by_cases hp : place = 0
            · subst hp
              go_enter Tryd.func66, Tryd.ntmps66
              go_wp2_with fail
              go_quiet (fail)
              go_wp2_with fail
              go_ret
              exact ⟨by rw [← FIN.out (decide (b < a)) (by simp)] <;> rfl, below_drewN' HW.out _⟩
            · have gp : ((place : Int) == 0) = false := by rw [beq_eq_false_iff_ne]; omega
              go_enter Tryd.func66, Tryd.ntmps66
              go_wp2_with fail
              go_quiet (fail)
              go_wp2_with fail
              go_ret
              exact ⟨by rw [← FIN.out (decide (b ≤ a)) (by simp [hp])] <;> rfl, below_drewN' HW.out _⟩
          · have g3 : ((op : Int) == 3) = false := by rw [beq_eq_false_iff_ne]; omega
            by_cases hp : place = 0
            · subst hp
              go_enter Tryd.func66, Tryd.ntmps66
              go_wp2_with fail
              go_quiet (fail)
              go_wp2_with fail
              go_ret
              exact ⟨by rw [← FIN.out (decide (b < a)) (by simp)] <;> rfl, below_drewN' HW.out _⟩
            · have gp : ((place : Int) == 0) = false := by rw [beq_eq_false_iff_ne]; omega
              go_enter Tryd.func66, Tryd.ntmps66
              go_wp2_with fail
              go_quiet (fail)
              go_wp2_with fail
              go_ret
              exact ⟨by rw [← FIN.out (decide (b ≤ a)) (by simp [hp])] <;> rfl, below_drewN' HW.out _⟩
end Go.Proofs.YtchhogiamdefjaaDoor
