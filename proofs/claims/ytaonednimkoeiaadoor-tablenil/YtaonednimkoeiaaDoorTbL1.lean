/-
  What the statements of layer 10 share: awake, own.
-/
import Derived.Test.YtaonednimkoeiaaDoorTbE3
import Derived.Test.YtaonednimkoeiaaDoorExRefW
import Derived.Test.YtaonednimkoeiaaDoorExSameW
set_option linter.unusedSimpArgs false
set_option linter.unusedVariables false
namespace Go.Proofs.YtaonednimkoeiaaDoor
open Go.RowKit Go.Lib Go.Sort Go.Maps

def aw1 : Nd := ⟨1, 1, ⟨#[]⟩, []⟩
def aw2 : Nd := ⟨3, 0, ⟨#[]⟩, [0]⟩
theorem aw_beg : begL [aw1, aw2] = some [0, 0] := by
  have e : (ByteArray.mk #[]).toList = [] := by unfold ByteArray.toList ByteArray.toList.loop; rfl
  simp [begL, begR, stp, formB, fitB, aritI, chainL, aw1, aw2, e]
theorem aw_add : addR ([], []) [aw1, aw2] = some ([aw1, aw2], [0, 1]) := by
  have h1 : stA ([], []) aw1 = some ([aw1], [0]) := by
    unfold stA
    have e : adN [] aw1 = aw1 := rfl
    simp only [e, ixL_nil]
    simp
  have h2 : stA ([aw1], [0]) aw2 = some ([aw1, aw2], [0, 1]) := by
    unfold stA
    have e : adN [0] aw2 = aw2 := rfl
    have hn : ixL [aw1] aw2 = none := ixL_none.2 (by simp [aw1, aw2])
    simp only [e, hn]
    simp
  show (stA ([], []) aw1).bind (fun s => (stA s aw2).bind fun s => some s) = _
  rw [h1]
  show ((stA ([aw1], [0]) aw2).bind fun s => some s) = _
  rw [h2]
  rfl
theorem aw_own {w w3 : World} {b1 b2 : Nat} (h1 : w3.heap[b1]? = some (.cells #[.int .i64 0] 3 (0, 0))) (h2 : w3.heap[b2]? = some (.cells #[.int .i64 1, .int .i64 1, .string ⟨#[]⟩, .slice none 0 0, .int .i64 3, .int .i64 0, .string ⟨#[]⟩, .slice (some ⟨b1, 0, none⟩) 1 1] 59 (0, 0))) :
    OwnN w3 0 (.slice (some ⟨b2, 0, none⟩) 2 2) [aw1, aw2] := by
  refine ⟨[(aw1, .slice none 0 0), (aw2, .slice (some ⟨b1, 0, none⟩) 1 1)], rfl, ⟨rfl, .inr ⟨b2, 2, _, rfl, Nat.zero_le _, h2, Nat.le_refl 2, by unfold maxLen; omega, rfl, rfl⟩⟩, fun q hq => ?_⟩
  simp at hq
  rcases hq with rfl | rfl
  · exact World.ownsRow_nil _ _ _ _
  · exact ⟨rfl, .inr ⟨b1, 1, _, rfl, Nat.zero_le _, h1, Nat.le_refl 1, by unfold maxLen; omega, rfl, rfl⟩⟩

set_option maxRecDepth 20000 in
set_option maxHeartbeats 4000000 in
theorem awake10_any (w : World) (hT : SpanCells w) : Calls Tryd.prog 32 #[] w fun e w' => e = .returned (.bool true) ∧ Below w.heap.size w w' := by
  obtain ⟨w1, hw1⟩ : ∃ w1, w.alloc (.cells #[.slice none 0 0, .map none] 99) = w1 := ⟨_, rfl⟩
  have HB1 : Sld (Below w.heap.size w w1) := ⟨by rw [← hw1]; exact (Below.refl _ _).alloc (Nat.le_refl _) _⟩
  have hM1 : TbM w1 w.heap.size (.slice none 0 0) (.map none) [] := by rw [← hw1]; exact TbM.fresh w
  obtain ⟨w3, hw3⟩ : ∃ w3, (w1.alloc (.cells #[.int .i64 0] 3)).alloc (.cells #[.int .i64 1, .int .i64 1, .string ⟨#[]⟩, .slice none 0 0, .int .i64 3, .int .i64 0, .string ⟨#[]⟩, .slice (some ⟨w1.heap.size, 0, none⟩) 1 1] 59) = w3 := ⟨_, rfl⟩
  have hB3 : Below w1.heap.size w1 w3 := by rw [← hw3]; exact ((Below.refl _ _).alloc (Nat.le_refl _) _).alloc (by simp) _
  have hb1 : w3.heap[w1.heap.size]? = some (.cells #[.int .i64 0] 3 (0, 0)) := by rw [← hw3, Deep.blk_alloc_lt _ _ _ (by simp), Deep.blk_alloc_new]
  have hb2 : w3.heap[w1.heap.size + 1]? = some (.cells #[.int .i64 1, .int .i64 1, .string ⟨#[]⟩, .slice none 0 0, .int .i64 3, .int .i64 0, .string ⟨#[]⟩, .slice (some ⟨w1.heap.size, 0, none⟩) 1 1] 59 (0, 0)) := by
    rw [← hw3]
    have := Deep.blk_alloc_new (w1.alloc (.cells #[.int .i64 0] 3)) (.cells #[.int .i64 1, .int .i64 1, .string ⟨#[]⟩, .slice none 0 0, .int .i64 3, .int .i64 0, .string ⟨#[]⟩, .slice (some ⟨w1.heap.size, 0, none⟩) 1 1] 59)
    simpa using this
  have HB3 : Sld (Below w.heap.size w w3) := ⟨HB1.out.trans (hB3.mono HB1.out.size)⟩
  have CA : Sld (Calls Tryd.prog 39 #[.pointer (some ⟨w.heap.size, 0, none⟩), .slice (some ⟨w1.heap.size + 1, 0, none⟩) 2 2] w3 fun e w' => e = .returned (.tuple #[.int .i64 1, .int .i64 0]) ∧ ∃ ev' mv', TbT w3 w.heap.size (.slice none 0 0) (.map none) ev' mv' [aw1, aw2] w') := ⟨tAdd_ok w3 w.heap.size _ _ [] [aw1, aw2] [0, 0] 0 _ (hM1.below hB3) (hT.below HB3.out) (aw_own (w := w) hb1 hb2) aw_beg (by
    intro x hx
    simp at hx
    rcases hx with rfl | rfl
    · exact ⟨⟨by show (-9223372036854775808 : Int) ≤ 1; omega, by show (1 : Int) ≤ 9223372036854775807; omega⟩, by unfold aw1; decide⟩
    · exact ⟨⟨by show (-9223372036854775808 : Int) ≤ 0; omega, by show (0 : Int) ≤ 9223372036854775807; omega⟩, by unfold aw2; decide⟩) [aw1, aw2] [0, 1] aw_add⟩
  have HM3 : Sld (TbM w3 w.heap.size (.slice none 0 0) (.map none) []) := ⟨hM1.below hB3⟩
  clear hB3 hb1 hb2 hM1
  go_enter Tryd.func32, Tryd.ntmps32
  go_wp2_with fail
  refine (tnew_any w).mono ?_
  rintro e w2 ⟨rfl, hw2⟩
  rw [hw1] at hw2
  subst hw2
  go_wp2_with fail
  refine CA.out.mono ?_
  rintro e w4 ⟨rfl, ev4, mv4, hT4⟩
  have HL4 : Sld (Calls Tryd.prog 41 #[.pointer (some ⟨w.heap.size, 0, none⟩)] w4 fun e w' => e = .returned (.int .i64 2) ∧ w' = w4) := ⟨tlen_any w4 _ _ _ _ hT4.tb⟩
  have HB4 : Sld (Below w.heap.size w w4) := ⟨HB3.out.trans (hT4.below HM3.out)⟩
  clear hT4
  go_wp2_with (go_at_call 41; refine HL4.out.mono ?_; rintro e w5 ⟨rfl, hw5⟩; subst hw5)
  go_ret
  exact ⟨rfl, HB4.out⟩

end Go.Proofs.YtaonednimkoeiaaDoor
