/-
  What span.has, spanOf and Kind answer, for every rune.
-/
import Derived.Test.YtkdcjkhpbbcncaaDoorProg
import Derived.Test.YtkdcjkhpbbcncaaDoorPure
import Derived.Test.YtkdcjkhpbbcncaaDoorShelf
import Derived.WalkKit
import Derived.Deep.DeepFit
set_option linter.unusedSimpArgs false
namespace Go.Proofs.YtkdcjkhpbbcncaaDoor
open Go.RowKit

theorem ret_bool {a b : Bool} (h : a = b) : Ending.returned (.bool a) = .returned (.bool b) := by rw [h]
theorem ret_int {k : IntKind} {a b : Int} (h : a = b) : Ending.returned (.int k a) = .returned (.int k b) := by rw [h]

/-- The table of spans lies in memory. -/
def SpanCells (w : World) : Prop := ∀ k, k < 38 → w.cell? ⟨0, k * 3, none⟩ = some (.int .i32 (spanTab.getD k (0, 0, 0)).1) ∧ w.cell? ⟨0, k * 3 + 1, none⟩ = some (.int .i32 (spanTab.getD k (0, 0, 0)).2.1) ∧ w.cell? ⟨0, k * 3 + 2, none⟩ = some (.int .i64 (spanTab.getD k (0, 0, 0)).2.2)

set_option maxHeartbeats 400000 in
theorem has_any (a b c r : Int) (w : World) :
    Calls Tryd.prog 136 #[.agg #[.int .i32 a, .int .i32 b, .int .i64 c], .int .i32 r] w fun e w' => e = .returned (.bool (hasB a b r)) ∧ Below w.heap.size w w' := by
  by_cases h1 : a ≤ r
  · by_cases h2 : r ≤ b
    · have hb : hasB a b r = true := by simp [hasB, h1, h2]
      rw [hb]; clear hb
      go_enter Tryd.func136, Tryd.ntmps136
      go_wp2
      go_ret
      exact ⟨by simp [h1, h2], (Below.refl _ _).alloc (Nat.le_refl _) _⟩
    · have hb : hasB a b r = false := by simp [hasB, h1, h2]
      rw [hb]; clear hb
      go_enter Tryd.func136, Tryd.ntmps136
      go_wp2
      go_ret
      exact ⟨by simp [h1, h2], (Below.refl _ _).alloc (Nat.le_refl _) _⟩
  · have hb : hasB a b r = false := by simp [hasB, h1]
    rw [hb]; clear hb
    go_enter Tryd.func136, Tryd.ntmps136
    go_wp2
    go_ret
    exact ⟨by simp, (Below.refl _ _).alloc (Nat.le_refl _) _⟩

theorem SpanCells.below {w w' : World} (h : SpanCells w) (hb : Below w.heap.size w w') : SpanCells w' := by
  intro k hk
  obtain ⟨h0, h1, h2⟩ := h k hk
  have hl : 0 < w.heap.size := World.block_lt_of_cell? w _ h0
  exact ⟨(hb.cell (p := ⟨0, k * 3, none⟩) hl).trans h0, (hb.cell (p := ⟨0, k * 3 + 1, none⟩) hl).trans h1, (hb.cell (p := ⟨0, k * 3 + 2, none⟩) hl).trans h2⟩
theorem SpanCells.pos {w : World} (h : SpanCells w) : 0 < w.heap.size := World.block_lt_of_cell? w _ (h 0 (by omega)).1

set_option maxHeartbeats 400000 in
theorem spanOf_any (r : Int) (w : World) (hT : SpanCells w) :
    Calls Tryd.prog 125 #[.int .i32 r] w fun e w' => e = .returned (.agg #[.int .i32 (spn r).1, .int .i32 (spn r).2.1, .int .i64 (spn r).2.2]) ∧ Below w.heap.size w w' := by
  have hpos := hT.pos
  have HT : Hid (SpanCells w) := hT
  clear hT
  go_enter Tryd.func125, Tryd.ntmps125
  go_wp2
  go_loopw [4] (fun i w' => ∃ k : Nat, k ≤ 38 ∧ i = .int .i64 k ∧ spanIn (spanTab.drop k) r = spn r ∧ Below (w.heap.size + 1) (w.alloc (.cells #[.int .i32 0, .int .i32 0, .int .i64 0] 175)) w') (fun i _ => 38 - (intOf i).toNat)
  case atStart => exact ⟨0, by omega, rfl, rfl, Below.refl _ _⟩
  case round =>
    obtain ⟨k, hk, rfl, hs, hb⟩ := hrel
    have HS : Hid (spanIn (spanTab.drop k) r = spn r) := hs
    clear hs
    by_cases hlt : k < 38
    · have hb0 : Below w.heap.size w wr := ((Below.refl _ _).alloc (Nat.le_refl _) _).trans (hb.mono (by simp))
      obtain ⟨c0, c1, c2⟩ := (SpanCells.below HT.out hb0) k hlt
      generalize hp : spanTab.getD k (0, 0, 0) = p at c0 c1 c2
      obtain ⟨a, b, c⟩ := p
      simp only at c0 c1 c2
      have HP : Hid (spanTab.getD k (0, 0, 0) = (a, b, c)) := hp
      clear hp
      have hz : w.heap.size + 1 ≤ wr.heap.size := by have := hb.size; simpa using this
      have hl : w.heap.size ≠ 0 := by omega
      cases hh : hasB a b r
      · go_wp2_with (go_at_call 136; refine (has_any a b c r _).mono ?_; rintro e w' ⟨rfl, hb1⟩)
        go_roundw
        case rel => exact ⟨k + 1, by omega, by go_num, by rw [← HS.out, spanIn_drop_miss r k (by rw [spanTab_length]; exact hlt) (by rw [HP.out]; exact hh)], hb.trans (hb1.mono hz)⟩
        case measure => simp [intOf]; omega
      · go_wp2_with fail
        refine (has_any a b c r _).mono ?_
        rintro e w' ⟨rfl, hb1⟩
        have hb2 : Below (w.heap.size + 1) (w.alloc (.cells #[.int .i32 0, .int .i32 0, .int .i64 0] 175)) w' := hb.trans (hb1.mono hz)
        obtain ⟨d0, d1, d2⟩ := (SpanCells.below HT.out (hb0.trans (hb1.mono (by omega)))) k hlt
        rw [HP.out] at d0 d1 d2
        have e0 : w'.cell? ⟨w.heap.size, 0, none⟩ = some (.int .i32 0) := by rw [hb2.cell (p := ⟨w.heap.size, 0, none⟩) (Nat.lt_succ_self _)]; simp
        have e1 : w'.cell? ⟨w.heap.size, 1, none⟩ = some (.int .i32 0) := by rw [hb2.cell (p := ⟨w.heap.size, 1, none⟩) (Nat.lt_succ_self _)]; simp
        have e2 : w'.cell? ⟨w.heap.size, 2, none⟩ = some (.int .i64 0) := by rw [hb2.cell (p := ⟨w.heap.size, 2, none⟩) (Nat.lt_succ_self _)]; simp
        have f0 : ∀ o, w'.frozen? ⟨w.heap.size, o, none⟩ = false := by intro o; rw [hb2.frozen (p := ⟨w.heap.size, o, none⟩) (Nat.lt_succ_self _)]; simp
        go_wp2
        have hv : spn r = (a, b, c) := by rw [← HS.out, spanIn_drop_hit r k (by rw [spanTab_length]; exact hlt) (by rw [HP.out]; exact hh), HP.out]
        rw [hv]
        exact bodyPost_ret (v := .agg #[.int .i32 a, .int .i32 b, .int .i64 c]) (by simp [results, Tryd.results125, go_sem, e0, e1, e2]) rfl ⟨rfl, ((((Below.refl _ _).alloc (Nat.le_refl _) _).trans (hb2.mono (by simp))).setCell (by simp) _ |>.setCell (by simp) _).setCell (by simp) _⟩
    · obtain rfl : k = 38 := by omega
      have e0 : wr.cell? ⟨w.heap.size, 0, none⟩ = some (.int .i32 0) := by rw [hb.cell (p := ⟨w.heap.size, 0, none⟩) (Nat.lt_succ_self _)]; simp
      have e1 : wr.cell? ⟨w.heap.size, 1, none⟩ = some (.int .i32 0) := by rw [hb.cell (p := ⟨w.heap.size, 1, none⟩) (Nat.lt_succ_self _)]; simp
      have e2 : wr.cell? ⟨w.heap.size, 2, none⟩ = some (.int .i64 0) := by rw [hb.cell (p := ⟨w.heap.size, 2, none⟩) (Nat.lt_succ_self _)]; simp
      have f0 : ∀ o, wr.frozen? ⟨w.heap.size, o, none⟩ = false := by intro o; rw [hb.frozen (p := ⟨w.heap.size, o, none⟩) (Nat.lt_succ_self _)]; simp
      go_wp2
      have hv : spn r = (0, 0, 0) := by rw [← HS.out, spanIn_end r]
      rw [hv]
      exact bodyPost_ret (v := .agg #[.int .i32 0, .int .i32 0, .int .i64 0]) (by simp [results, Tryd.results125, go_sem, e0, e1, e2]) rfl ⟨rfl, ((((Below.refl _ _).alloc (Nat.le_refl _) _).trans (hb.mono (by simp))).setCell (by simp) _ |>.setCell (by simp) _).setCell (by simp) _⟩

theorem field_kind (a b c : Int) (w : World) : (Instr.field 175 (.agg #[.int .i32 a, .int .i32 b, .int .i64 c]) 2).run Tryd.prog w = .ok (.int .i64 c) w := by kernel_rfl
theorem field_first (a b c : Int) (w : World) : (Instr.field 175 (.agg #[.int .i32 a, .int .i32 b, .int .i64 c]) 0).run Tryd.prog w = .ok (.int .i32 a) w := by kernel_rfl

set_option maxHeartbeats 400000 in
theorem kind_any (r : Int) (w : World) (hT : SpanCells w) :
    Calls Tryd.prog 97 #[.int .i32 r] w fun e w' => e = .returned (.int .i64 (kd r)) ∧ Below w.heap.size w w' := by
  have hfd := field_kind (spn r).1 (spn r).2.1 (spn r).2.2
  go_enter Tryd.func97, Tryd.ntmps97
  go_wp2_with (go_at_call 125; refine (spanOf_any _ _ hT).mono ?_; rintro e w' ⟨rfl, hb1⟩)
  go_ret
  exact ⟨rfl, hb1⟩
/-- A rune that may stand in a name behind its first. -/
theorem goesOn_any (r : Int) (w : World) (hT : SpanCells w) :
    Calls Tryd.prog 98 #[.int .i32 r] w fun e w' => e = .returned (.bool (onB r)) ∧ Below w.heap.size w w' := by
  cases h1 : (kd r == 1)
  · cases h2 : (kd r == 2)
    · go_enter Tryd.func98, Tryd.ntmps98
      go_wp2_with (go_at_call 97; refine (kind_any _ _ hT).mono ?_; rintro e w' ⟨rfl, hb1⟩)
      go_ret
      exact ⟨ret_bool (by simp [onB, h1, h2]), hb1⟩
    · go_enter Tryd.func98, Tryd.ntmps98
      go_wp2_with (go_at_call 97; refine (kind_any _ _ hT).mono ?_; rintro e w' ⟨rfl, hb1⟩)
      go_ret
      exact ⟨ret_bool (by simp [onB, h1, h2]), hb1⟩
  · go_enter Tryd.func98, Tryd.ntmps98
    go_wp2_with (go_at_call 97; refine (kind_any _ _ hT).mono ?_; rintro e w' ⟨rfl, hb1⟩)
    go_ret
    exact ⟨ret_bool (by simp [onB, h1]), hb1⟩
end Go.Proofs.YtkdcjkhpbbcncaaDoor
