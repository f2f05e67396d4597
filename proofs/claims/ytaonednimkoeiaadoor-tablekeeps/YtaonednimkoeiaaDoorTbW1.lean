/-
  The table's small functions, walked.
-/
import Derived.Test.YtaonednimkoeiaaDoorTbM
import Derived.Test.YtaonednimkoeiaaDoorQTail
import Derived.Test.YtaonednimkoeiaaDoorExCopW
import Derived.Test.YtaonednimkoeiaaDoorExBegW
import Derived.Lib.QuietBelow
import Derived.Deep.QuietTactic
import Derived.Deep.RegionHeld3
import Derived.BigQuiet
import Derived.Laws.ResultCell
import Derived.Laws.CopyOwn
set_option linter.unusedSimpArgs false
set_option linter.unusedVariables false
namespace Go.Proofs.YtaonednimkoeiaaDoor
open Go.RowKit Go.Lib Go.Sort

set_option maxHeartbeats 1000000 in
theorem tnew_any (w : World) : Calls Tryd.prog 31 #[] w fun e w' => e = .returned (.pointer (some ⟨w.heap.size, 0, none⟩)) ∧ w' = w.alloc (.cells #[.slice none 0 0, .map none] 99) := by
  go_enter Tryd.func31, Tryd.ntmps31
  go_wp2
  go_ret
  exact ⟨rfl, rfl⟩
theorem TbM.fresh (w : World) : TbM (w.alloc (.cells #[.slice none 0 0, .map none] 99)) w.heap.size (.slice none 0 0) (.map none) [] :=
  ⟨Deep.blk_alloc_new _ _, World.ownsRow_nil _ _ _ _, .inl ⟨rfl, rfl⟩, TbI.nil, by simp⟩

set_option maxHeartbeats 1000000 in
theorem tlen_any (w : World) (p : Nat) (ev mv : Value) (L : List Nd) (h : TbM w p ev mv L) : Calls Tryd.prog 41 #[.pointer (some ⟨p, 0, none⟩)] w fun e w' => e = .returned (.int .i64 L.length) ∧ w' = w := by
  obtain ⟨ao, cap, rfl⟩ := h.form
  have c0 := h.c0
  go_enter Tryd.func41, Tryd.ntmps41
  go_wp2
  go_ret
  exact ⟨rfl, rfl⟩
set_option maxHeartbeats 1000000 in
theorem tlen_nil (w : World) : Calls Tryd.prog 41 #[.pointer none] w fun e w' => e = .returned (.int .i64 0) ∧ w' = w := by
  go_enter Tryd.func41, Tryd.ntmps41
  go_wp2
  go_ret
  exact ⟨rfl, rfl⟩

/-- Is it an entry's number? -/
def hasT (L : List Nd) (a : Int) : Bool := decide (0 ≤ a) && decide (a < (L.length : Int))
theorem hasT_iff {L : List Nd} {a : Int} : hasT L a = true ↔ ∃ k : Nat, a = k ∧ k < L.length := by
  unfold hasT
  simp only [Bool.and_eq_true, decide_eq_true_eq]
  constructor
  · rintro ⟨h1, h2⟩; exact ⟨a.toNat, by omega, by omega⟩
  · rintro ⟨k, rfl, h⟩; omega
set_option maxHeartbeats 1000000 in
theorem thas_any (w : World) (p : Nat) (ev mv : Value) (L : List Nd) (a : Int) (h : TbM w p ev mv L) : Calls Tryd.prog 66 #[.pointer (some ⟨p, 0, none⟩), .int .i64 a] w fun e w' => e = .returned (.bool (hasT L a)) ∧ w' = w := by
  have HL : Hid (∀ V, V = w → Calls Tryd.prog 41 #[.pointer (some ⟨p, 0, none⟩)] V fun e w' => e = .returned (.int .i64 L.length) ∧ w' = w) := fun V hV => by subst hV; exact tlen_any V p ev mv L h
  unfold hasT
  by_cases h0 : 0 ≤ a
  · obtain ⟨N, hN⟩ : ∃ N, L.length = N := ⟨_, rfl⟩
    rw [hN] at HL ⊢
    clear hN
    go_enter Tryd.func66, Tryd.ntmps66
    go_wp2_with (go_at_call 41; refine (HL.out _ rfl).mono ?_; rintro e w' ⟨rfl, rfl⟩)
    go_ret
    exact ⟨by simp [h0], rfl⟩
  · go_enter Tryd.func66, Tryd.ntmps66
    go_wp2
    go_ret
    exact ⟨by rw [show decide (0 ≤ a) = false from decide_eq_false (by omega), Bool.false_and]; rfl, rfl⟩
set_option maxHeartbeats 1000000 in
theorem thas_nil (w : World) (a : Int) : Calls Tryd.prog 66 #[.pointer none, .int .i64 a] w fun e w' => e = .returned (.bool false) ∧ w' = w := by
  by_cases h0 : 0 ≤ a
  · have h1 : ¬ a < 0 := by omega
    go_enter Tryd.func66, Tryd.ntmps66
    go_wp2_with (go_at_call 41; refine (tlen_nil _).mono ?_; rintro e w' ⟨rfl, rfl⟩)
    go_ret
    exact ⟨by simp [h1], rfl⟩
  · go_enter Tryd.func66, Tryd.ntmps66
    go_wp2
    go_ret
    exact ⟨rfl, rfl⟩

set_option maxHeartbeats 1000000 in
theorem tfits_any (op n : Int) (nm : ByteArray) (ka : Option Addr) (kl kc : Nat) (w : World) (hT : SpanCells w) :
    Calls Tryd.prog 91 #[.agg #[.int .i64 op, .int .i64 n, .string nm, .slice ka kl kc]] w fun e w' => e = .returned (.bool (fitB op n nm kl)) ∧ Below w.heap.size w w' := by
  have HF : Hid (fitB op n nm kl = (!(arE op != 0) && !((kl : Int) != arK op) && !(n != 0 && op != 1) && (if op = 2 then nameB nm else nm.toList.isEmpty))) := by
    show _ = _
    by_cases h : 0 ≤ aritI op
    · rw [(ar_of rfl h).1, (ar_of rfl h).2]
      unfold fitB
      rw [Bool.eq_iff_iff]
      simp [h]
    · have h1 : aritI op = -1 := by have := aritI_ge op; omega
      rw [(ar_none h1).1, (ar_none h1).2]
      unfold fitB
      simp [h1]
  have ca : Hid (∀ W, Calls Tryd.prog 81 #[.int .i64 op] W fun e w' => e = .returned (.tuple #[.int .i64 (arK op), .int .i64 (arE op)]) ∧ w' = W) := arity_any op
  generalize arK op = k at *
  generalize arE op = x at *
  obtain ⟨w1, hw1⟩ : ∃ w1, w.alloc (.cells #[.int .i64 op, .int .i64 n, .string nm, .slice ka kl kc] 59) = w1 := ⟨_, rfl⟩
  have HB1 : Hid (Below w.heap.size w w1) := by rw [← hw1]; exact (Below.refl _ _).alloc (Nat.le_refl _) _
  have hT1 : SpanCells w1 := hT.below (by rw [← hw1]; exact (Below.refl _ _).alloc (Nat.le_refl _) _)
  have c0 : w1.cell? ⟨w.heap.size, 0, none⟩ = some (.int .i64 op) := by rw [← hw1]; simp
  have c1 : w1.cell? ⟨w.heap.size, 1, none⟩ = some (.int .i64 n) := by rw [← hw1]; simp
  have c2 : w1.cell? ⟨w.heap.size, 2, none⟩ = some (.string nm) := by rw [← hw1]; simp
  have c3 : w1.cell? ⟨w.heap.size, 3, none⟩ = some (.slice ka kl kc) := by rw [← hw1]; simp
  have HW : Hid (w.alloc (.cells #[.int .i64 op, .int .i64 n, .string nm, .slice ka kl kc] 59) = w1) := hw1
  have hsz1 : w.heap.size ≤ w1.heap.size := HB1.out.size
  clear hw1
  go_enter Tryd.func91, Tryd.ntmps91
  go_wp2_with fail
  rw [HW.out]
  go_wp2_with (first | (go_at_call 81; refine (ca.out _).mono ?_; rintro e w' ⟨rfl, rfl⟩) | (go_at_call 57; refine (name_spans _ _ hT1).mono ?_; rintro e w' ⟨rfl, hb⟩))
  all_goals
    go_ret
    first
    | exact ⟨ret_bool (by rw [HF.out]; simp_all), HB1.out.trans (hb.mono hsz1)⟩
    | exact ⟨ret_bool (by rw [HF.out]; simp_all), HB1.out⟩
end Go.Proofs.YtaonednimkoeiaaDoor
