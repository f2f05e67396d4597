/-
  A nil table; TableNil, walked.
-/
import Derived.Test.YtaonednimkoeiaaDoorTbL2
import Derived.Test.YtaonednimkoeiaaDoorRgSeq
set_option linter.unusedSimpArgs false
set_option linter.unusedVariables false
namespace Go.Proofs.YtaonednimkoeiaaDoor
open Go.RowKit Go.Lib Go.Sort Go.Maps Go.Shelf
attribute [local go_sem] Oper.semAt_some

set_option maxRecDepth 20000 in
set_option maxHeartbeats 4000000 in
theorem nil_shape (w : World) (op n : Int) (nm : ByteArray) (ka : Option Addr) (kl kc : Nat) :
    Calls Tryd.prog 64 #[.pointer none, .agg #[.int .i64 op, .int .i64 n, .string nm, .slice ka kl kc]] w fun e w' => e = .returned (.tuple #[.agg #[.int .i64 0, .int .i64 0, .string ⟨#[]⟩, .int .i64 0, .int .i64 0, .int .i64 0], .int .i64 2]) ∧ Below w.heap.size w w' := by
  obtain ⟨w2, hw2⟩ : ∃ w2, (w.alloc (.cells #[.int .i64 op, .int .i64 n, .string nm, .slice ka kl kc] 59)).alloc (.cells #[.int .i64 0, .int .i64 0, .string ⟨#[]⟩, .int .i64 0, .int .i64 0, .int .i64 0] 102) = w2 := ⟨_, rfl⟩
  have HB2 : Sld (Below w.heap.size w w2) := ⟨by rw [← hw2]; exact ((Below.refl _ _).alloc (Nat.le_refl _) _).alloc (by simp) _⟩
  have hb1 : w2.heap[w.heap.size + 1]? = some (.cells #[.int .i64 0, .int .i64 0, .string ⟨#[]⟩, .int .i64 0, .int .i64 0, .int .i64 0] 102 (0, 0)) := by
    rw [← hw2]
    have := Deep.blk_alloc_new (w.alloc (.cells #[.int .i64 op, .int .i64 n, .string nm, .slice ka kl kc] 59)) (.cells #[.int .i64 0, .int .i64 0, .string ⟨#[]⟩, .int .i64 0, .int .i64 0, .int .i64 0] 102)
    simpa using this
  obtain ⟨r0, r1, r2, r3, r4, r5, rf⟩ := blk6 hb1
  go_enter Tryd.func64, Tryd.ntmps64
  go_wp2_with fail
  try rw [hw2]
  have hS := set6 hb1 (.int .i64 0) (.int .i64 0) (.string ⟨#[]⟩) (.int .i64 0) (.int .i64 0) (.int .i64 0)
  have HBE := below_set6 HB2.out (Nat.le_add_right _ 1) (.int .i64 0) (.int .i64 0) (.string ⟨#[]⟩) (.int .i64 0) (.int .i64 0) (.int .i64 0)
  generalize (((((w2.setCell ⟨w.heap.size + 1, 0, none⟩ (.int .i64 0)).setCell ⟨w.heap.size + 1, 1, none⟩ (.int .i64 0)).setCell ⟨w.heap.size + 1, 2, none⟩ (.string ⟨#[]⟩)).setCell ⟨w.heap.size + 1, 3, none⟩ (.int .i64 0)).setCell ⟨w.heap.size + 1, 4, none⟩ (.int .i64 0)).setCell ⟨w.heap.size + 1, 5, none⟩ (.int .i64 0) = W at *
  obtain ⟨y0, y1, y2, y3, y4, y5, _⟩ := blk6 hS
  refine bodyPost_ret (v := .tuple #[.agg #[.int .i64 0, .int .i64 0, .string ⟨#[]⟩, .int .i64 0, .int .i64 0, .int .i64 0], .int .i64 2]) (by simp [results, Tryd.results64, go_sem, y0, y1, y2, y3, y4, y5]) rfl ⟨rfl, HBE⟩

theorem nil_box (w : World) (op n : Int) (nm : ByteArray) (ka : Option Addr) (kl kc : Nat) : ∃ w1, w.alloc (.cells #[.int .i64 op, .int .i64 n, .string nm, .slice ka kl kc] 59) = w1 ∧ Below w.heap.size w w1 ∧ w1.heap[w.heap.size]? = some (.cells #[.int .i64 op, .int .i64 n, .string nm, .slice ka kl kc] 59 (0, 0)) :=
  ⟨_, rfl, (Below.refl _ _).alloc (Nat.le_refl _) _, Deep.blk_alloc_new _ _⟩
set_option maxRecDepth 20000 in
set_option maxHeartbeats 4000000 in
theorem nil_put (w : World) (op n : Int) (nm : ByteArray) (ka : Option Addr) (kl kc : Nat) :
    Calls Tryd.prog 33 #[.pointer none, .agg #[.int .i64 op, .int .i64 n, .string nm, .slice ka kl kc]] w fun e w' => e = .returned (.tuple #[.int .i64 0, .int .i64 2]) ∧ Below w.heap.size w w' := by
  obtain ⟨w1, hw1, hB1, hb⟩ := nil_box w op n nm ka kl kc
  have HB1 : Sld (Below w.heap.size w w1) := ⟨hB1⟩
  obtain ⟨b0, b1, b2, b3, _⟩ := blk4 hb
  have HW : Hid (w.alloc (.cells #[.int .i64 op, .int .i64 n, .string nm, .slice ka kl kc] 59) = w1) := hw1
  clear hw1 hb hB1
  go_enter Tryd.func33, Tryd.ntmps33
  go_wp2_with fail
  rw [HW.out]
  go_wp2_with fail
  refine (nil_shape w1 op n nm ka kl kc).mono ?_
  rintro e w2 ⟨rfl, hb2⟩
  have HB2 : Sld (Below w.heap.size w w2) := ⟨HB1.out.trans (hb2.mono HB1.out.size)⟩
  clear hb2
  go_wp2_with fail
  go_ret2
  exact ⟨rfl, HB2.out.alloc HB2.out.size _⟩
set_option maxRecDepth 20000 in
set_option maxHeartbeats 4000000 in
theorem nil_find (w : World) (op n : Int) (nm : ByteArray) (ka : Option Addr) (kl kc : Nat) :
    Calls Tryd.prog 37 #[.pointer none, .agg #[.int .i64 op, .int .i64 n, .string nm, .slice ka kl kc]] w fun e w' => e = .returned (.tuple #[.int .i64 0, .int .i64 2]) ∧ Below w.heap.size w w' := by
  obtain ⟨w1, hw1, hB1, hb⟩ := nil_box w op n nm ka kl kc
  have HB1 : Sld (Below w.heap.size w w1) := ⟨hB1⟩
  obtain ⟨b0, b1, b2, b3, _⟩ := blk4 hb
  have HW : Hid (w.alloc (.cells #[.int .i64 op, .int .i64 n, .string nm, .slice ka kl kc] 59) = w1) := hw1
  clear hw1 hb hB1
  go_enter Tryd.func37, Tryd.ntmps37
  go_wp2_with fail
  rw [HW.out]
  go_wp2_with fail
  refine (nil_shape w1 op n nm ka kl kc).mono ?_
  rintro e w2 ⟨rfl, hb2⟩
  have HB2 : Sld (Below w.heap.size w w2) := ⟨HB1.out.trans (hb2.mono HB1.out.size)⟩
  clear hb2
  go_wp2_with fail
  go_ret2
  exact ⟨rfl, HB2.out.alloc HB2.out.size _⟩
set_option maxRecDepth 20000 in
set_option maxHeartbeats 4000000 in
theorem nil_node (w : World) (a : Int) :
    Calls Tryd.prog 38 #[.pointer none, .int .i64 a] w fun e w' => e = .returned (.tuple #[.agg #[.int .i64 0, .int .i64 0, .string ⟨#[]⟩, .slice none 0 0], .int .i64 2]) ∧ Below w.heap.size w w' := by
  obtain ⟨w1, hw1⟩ : ∃ w1, w.alloc (.cells #[.int .i64 0, .int .i64 0, .string ⟨#[]⟩, .slice none 0 0] 59) = w1 := ⟨_, rfl⟩
  have HB1 : Hid (Below w.heap.size w w1) := by rw [← hw1]; exact (Below.refl _ _).alloc (Nat.le_refl _) _
  have hb : w1.heap[w.heap.size]? = some (.cells #[.int .i64 0, .int .i64 0, .string ⟨#[]⟩, .slice none 0 0] 59 (0, 0)) := by rw [← hw1, Deep.blk_alloc_new]
  have HW : Hid (w.alloc (.cells #[.int .i64 0, .int .i64 0, .string ⟨#[]⟩, .slice none 0 0] 59) = w1) := hw1
  obtain ⟨y0, y1, y2, y3, yf⟩ := blk4 hb
  clear hw1
  go_enter Tryd.func38, Tryd.ntmps38
  go_wp2_with fail
  rw [HW.out]
  go_wp2_with fail
  refine (thas_nil w1 a).mono ?_
  rintro e w4 ⟨rfl, hw4⟩
  subst hw4
  go_wp2_with fail
  have hS := set4 hb (.int .i64 0) (.int .i64 0) (.string ⟨#[]⟩) (.slice none 0 0)
  have HBE := below_set4 HB1.out (Nat.le_refl w.heap.size) (.int .i64 0) (.int .i64 0) (.string ⟨#[]⟩) (.slice none 0 0)
  generalize (((w4.setCell ⟨w.heap.size, 0, none⟩ (.int .i64 0)).setCell ⟨w.heap.size, 1, none⟩ (.int .i64 0)).setCell ⟨w.heap.size, 2, none⟩ (.string ⟨#[]⟩)).setCell ⟨w.heap.size, 3, none⟩ (.slice none 0 0) = W at *
  obtain ⟨x0, x1, x2, x3, _⟩ := blk4 hS
  refine bodyPost_ret (v := .tuple #[.agg #[.int .i64 0, .int .i64 0, .string ⟨#[]⟩, .slice none 0 0], .int .i64 2]) (by simp [results, Tryd.results38, go_sem, x0, x1, x2, x3]) rfl ⟨rfl, HBE⟩
set_option maxRecDepth 20000 in
set_option maxHeartbeats 4000000 in
theorem nil_add (w : World) (v : Value) : Calls Tryd.prog 39 #[.pointer none, v] w fun e w' => e = .returned (.tuple #[.int .i64 0, .int .i64 2]) ∧ w' = w := by
  go_enter Tryd.func39, Tryd.ntmps39
  go_wp2_with fail
  go_ret2
  exact ⟨rfl, rfl⟩
set_option maxRecDepth 20000 in
set_option maxHeartbeats 4000000 in
theorem nil_expr (w : World) (a : Int) : Calls Tryd.prog 36 #[.pointer none, .int .i64 a] w fun e w' => e = .returned (.tuple #[.slice none 0 0, .int .i64 2]) ∧ w' = w := by
  go_enter Tryd.func36, Tryd.ntmps36
  go_wp2_with (go_at_call 66; refine (thas_nil w a).mono ?_; rintro e w4 ⟨rfl, hw4⟩; subst hw4)
  go_ret2
  exact ⟨rfl, rfl⟩
set_option maxRecDepth 20000 in
set_option maxHeartbeats 4000000 in
theorem nil_size (w : World) (a : Int) : Calls Tryd.prog 35 #[.pointer none, .int .i64 a] w fun e w' => e = .returned (.tuple #[.int .i64 0, .int .i64 2]) ∧ w' = w := by
  go_enter Tryd.func35, Tryd.ntmps35
  go_wp2_with (go_at_call 66; refine (thas_nil w a).mono ?_; rintro e w4 ⟨rfl, hw4⟩; subst hw4)
  go_ret2
  exact ⟨rfl, rfl⟩
set_option maxRecDepth 20000 in
set_option maxHeartbeats 4000000 in
theorem nil_all (w : World) : Calls Tryd.prog 40 #[.pointer none] w fun e w' => e = .returned (.func (.func 71) #[] #[.pointer (some ⟨w.heap.size, 0, none⟩)]) ∧ w' = w.alloc (.cells #[.slice none 0 0] 96) := by
  go_enter Tryd.func40, Tryd.ntmps40
  go_wp2_with fail
  go_ret
  exact ⟨rfl, rfl⟩
set_option maxRecDepth 100000 in
set_option maxHeartbeats 2000000 in
theorem nil_all1 (F : Fence) (n : Nat) (h8 : F.fn 71) (hro : F.round = none) (l B : Nat) (J : Nat → World → Prop) (W : World) (hc : W.cell? ⟨B, 0, none⟩ = some (.slice none 0 0)) (h0 : J 0 W) :
    CallsIn F n Tryd.prog 71 #[.func (.yield l) #[] #[], .pointer (some ⟨B, 0, none⟩)] W fun e W' => (∃ v, e = .returned v) ∧ J 0 W' := by
  refine callsIn_of_wp Tryd.func71 rfl h8 ?_ hro
  simp only [Tryd.ntmps71, List.size_toArray, List.length_cons, List.length_nil, Nat.reduceAdd, Nat.reduceSub, Array.replicate_succ, Array.replicate_zero, List.push_toArray, List.append_toArray, List.nil_append, List.cons_append]
  gi_wp2
  gi_loopw [6] (fun i wr => i = .int .i64 0 ∧ J 0 wr) (fun _ _ => 0)
  case atStart => exact ⟨rfl, h0⟩
  case round =>
    obtain ⟨rfl, hJs⟩ := hrel
    gi_wp2
    go_end0
    exact ⟨⟨_, rfl⟩, hJs⟩
end Go.Proofs.YtaonednimkoeiaaDoor
