/-
  What the statements of layer 10 share: awake, own.
-/
import Derived.Test.YtjidockolacghaaDoorTbE3
import Derived.Test.YtjidockolacghaaDoorExRefW
import Derived.Test.YtjidockolacghaaDoorExSameW
set_option linter.unusedSimpArgs false
set_option linter.unusedVariables false
namespace Go.Proofs.YtjidockolacghaaDoor
open Go.RowKit Go.Lib Go.Sort Go.Maps

def aw1 : Nd := ⟨1, 1, ⟨#[]⟩, []⟩
def aw2 : Nd := ⟨3, 0, ⟨#[]⟩, [0]⟩
theorem aw_beg : begL [aw1, aw2] = some [0, 0] := by
  have e : (ByteArray.mk #[]).toList = [] := by unfold ByteArray.toList ByteArray.toList.loop; rfl
  simp [begL, begR, stp, formB, fitB, aritI, chainL, aw1, aw2, e]
theorem aw_add : addR ([], []) [aw1, aw2] = some ([aw1, aw2], [0, 1]) := by
  have h1 : stA ([], []) aw1 = some ([aw1], [0]) := by
    unfold stA
    have e : adN [] aw1 = aw1 := rfl
    simp only [e, ixL_nil]
    simp
  have h2 : stA ([aw1], [0]) aw2 = some ([aw1, aw2], [0, 1]) := by
    unfold stA
    have e : adN [0] aw2 = aw2 := rfl
    have hn : ixL [aw1] aw2 = none := ixL_none.2 (by simp [aw1, aw2])
    simp only [e, hn]
    simp
  show (stA ([], []) aw1).bind (fun s => (stA s aw2).bind fun s => some s) = _
  rw [h1]
  show ((stA ([aw1], [0]) aw2).bind fun s => some s) = _
  rw [h2]
  rfl
theorem aw_own {w w3 : World} {b1 b2 : Nat} (h1 : w3.heap[b1]? = some (.cells #[.int .i64 0] 3 (0, 0))) (h2 : w3.heap[b2]? = some (.cells #[.int .i64 1, .int .i64 1, .string ⟨#[]⟩, .slice none 0 0, .int .i64 3, .int .i64 0, .string ⟨#[]⟩, .slice (some ⟨b1, 0, none⟩) 1 1] 47 (0, 0))) :
    OwnN w3 0 (.slice (some ⟨b2, 0, none⟩) 2 2) [aw1, aw2] := by
  refine ⟨[(aw1, .slice none 0 0), (aw2, .slice (some ⟨b1, 0, none⟩) 1 1)], rfl, ⟨rfl, .inr ⟨b2, 2, _, rfl, Nat.zero_le _, h2, Nat.le_refl 2, by unfold maxLen; omega, rfl, rfl⟩⟩, fun q hq => ?_⟩
  simp at hq
  rcases hq with rfl | rfl
  · exact World.ownsRow_nil _ _ _ _
  · exact ⟨rfl, .inr ⟨b1, 1, _, rfl, Nat.zero_le _, h1, Nat.le_refl 1, by unfold maxLen; omega, rfl, rfl⟩⟩

set_option maxRecDepth 20000 in
set_option maxHeartbeats 4000000 in
theorem awake10_any (w : World) (hT : SpanCells w) : Calls Tryd.prog 24 #[] w fun e w' => e = .returned (.bool true) ∧ Below w.heap.size w w' := by
  obtain ⟨w1, hw1⟩ : ∃ w1, w.alloc (.cells #[.slice none 0 0, .map none] 80) = w1 := ⟨_, rfl⟩
  have HB1 : Sld (Below w.heap.size w w1) := ⟨by rw [← hw1]; exact (Below.refl _ _).alloc (Nat.le_refl _) _⟩
  have hM1 : TbM w1 w.heap.size (.slice none 0 0) (.map none) [] := by rw [← hw1]; exact TbM.fresh w
  obtain ⟨w3, hw3⟩ : ∃ w3, (w1.alloc (.cells #[.int .i64 0] 3)).alloc (.cells #[.int .i64 1, .int .i64 1, .string ⟨#[]⟩, .slice none 0 0, .int .i64 3, .int .i64 0, .string ⟨#[]⟩, .slice (some ⟨w1.heap.size, 0, none⟩) 1 1] 47) = w3 := ⟨_, rfl⟩
  have hB3 : Below w1.heap.size w1 w3 := by rw [← hw3]; exact ((Below.refl _ _).alloc (Nat.le_refl _) _).alloc (by simp) _
  have hb1 : w3.heap[w1.heap.size]? = some (.cells #[.int .i64 0] 3 (0, 0)) := by rw [← hw3, Deep.blk_alloc_lt _ _ _ (by simp), Deep.blk_alloc_new]
  have hb2 : w3.heap[w1.heap.size + 1]? = some (.cells #[.int .i64 1, .int .i64 1, .string ⟨#[]⟩, .slice none 0 0, .int .i64 3, .int .i64 0, .string ⟨#[]⟩, .slice (some ⟨w1.heap.size, 0, none⟩) 1 1] 47 (0, 0)) := by
    rw [← hw3]
    have := Deep.blk_alloc_new (w1.alloc (.cells #[.int .i64 0] 3)) (.cells #[.int .i64 1, .int .i64 1, .string ⟨#[]⟩, .slice none 0 0, .int .i64 3, .int .i64 0, .string ⟨#[]⟩, .slice (some ⟨w1.heap.size, 0, none⟩) 1 1] 47)
    simpa using this
  have HB3 : Sld (Below w.heap.size w w3) := ⟨HB1.out.trans (hB3.mono HB1.out.size)⟩
  have CA : Sld (Calls Tryd.prog 29 #[.pointer (some ⟨w.heap.size, 0, none⟩), .slice (some ⟨w1.heap.size + 1, 0, none⟩) 2 2] w3 fun e w' => e = .returned (.tuple #[.int .i64 1, .int .i64 0]) ∧ ∃ ev' mv', TbT w3 w.heap.size (.slice none 0 0) (.map none) ev' mv' [aw1, aw2] w') := ⟨tAdd_ok w3 w.heap.size _ _ [] [aw1, aw2] [0, 0] 0 _ (hM1.below hB3) (hT.below HB3.out) (aw_own (w := w) hb1 hb2) aw_beg (by
    intro x hx
    simp at hx
    rcases hx with rfl | rfl
    · exact ⟨⟨by show (-9223372036854775808 : Int) ≤ 1; omega, by show (1 : Int) ≤ 9223372036854775807; omega⟩, by unfold aw1; decide⟩
    · exact ⟨⟨by show (-9223372036854775808 : Int) ≤ 0; omega, by show (0 : Int) ≤ 9223372036854775807; omega⟩, by unfold aw2; decide⟩) [aw1, aw2] [0, 1] aw_add⟩
  have HM3 : Sld (TbM w3 w.heap.size (.slice none 0 0) (.map none) []) := ⟨hM1.below hB3⟩
  clear hB3 hb1 hb2 hM1
  go_enter Tryd.func24, Tryd.ntmps24
  go_wp2_with fail
  refine (tnew_any w).mono ?_
  rintro e w2 ⟨rfl, hw2⟩
  rw [hw1] at hw2
  subst hw2
  go_wp2_with fail
  refine CA.out.mono ?_
  rintro e w4 ⟨rfl, ev4, mv4, hT4⟩
  have HL4 : Sld (Calls Tryd.prog 26 #[.pointer (some ⟨w.heap.size, 0, none⟩)] w4 fun e w' => e = .returned (.int .i64 2) ∧ w' = w4) := ⟨tlen_any w4 _ _ _ _ hT4.tb⟩
  have HB4 : Sld (Below w.heap.size w w4) := ⟨HB3.out.trans (hT4.below HM3.out)⟩
  clear hT4
  go_wp2_with (go_at_call 26; refine HL4.out.mono ?_; rintro e w5 ⟨rfl, hw5⟩; subst hw5)
  go_ret
  exact ⟨rfl, HB4.out⟩

set_option maxRecDepth 20000 in
set_option maxHeartbeats 4000000 in
theorem own10_any (x : Nd) (ka : Option Addr) (kc : Nat) (w : World) (hI : Ints w w.heap.size (.slice ka x.kids.length kc) x.kids) (hl : x.kids.length * 8 ≤ 140737488355328) :
    Calls Tryd.prog 34 #[.agg #[.int .i64 x.op, .int .i64 x.n, .string x.name, .slice ka x.kids.length kc]] w fun e w' => ∃ ao cap, e = .returned (.agg #[.int .i64 x.op, .int .i64 x.n, .string x.name, .slice ao x.kids.length cap]) ∧ OwnI w' w.heap.size (.slice ao x.kids.length cap) x.kids ∧ Below w.heap.size w w' := by
  obtain ⟨w3, hw3⟩ : ∃ w3, ((w.alloc (.cells #[.int .i64 x.op, .int .i64 x.n, .string x.name, .slice ka x.kids.length kc] 47)).alloc (.cells #[.int .i64 0, .int .i64 0, .string ⟨#[]⟩, .slice none 0 0] 47)).alloc (.cells #[.int .i64 x.op, .int .i64 x.n, .string x.name, .slice ka x.kids.length kc] 47) = w3 := ⟨_, rfl⟩
  have hB3 : Below w.heap.size w w3 := by rw [← hw3]; exact (((Below.refl _ _).alloc (Nat.le_refl _) _).alloc (by simp) _).alloc (by simp; omega) _
  have hsz3 : w3.heap.size = w.heap.size + 3 := by rw [← hw3]; simp
  have hb2 : w3.heap[w.heap.size + 2]? = some (.cells #[.int .i64 x.op, .int .i64 x.n, .string x.name, .slice ka x.kids.length kc] 47 (0, 0)) := by
    rw [← hw3]
    have := Deep.blk_alloc_new ((w.alloc (.cells #[.int .i64 x.op, .int .i64 x.n, .string x.name, .slice ka x.kids.length kc] 47)).alloc (.cells #[.int .i64 0, .int .i64 0, .string ⟨#[]⟩, .slice none 0 0] 47)) (.cells #[.int .i64 x.op, .int .i64 x.n, .string x.name, .slice ka x.kids.length kc] 47)
    simpa using this
  have hb1 : w3.heap[w.heap.size + 1]? = some (.cells #[.int .i64 0, .int .i64 0, .string ⟨#[]⟩, .slice none 0 0] 47 (0, 0)) := by
    rw [← hw3, Deep.blk_alloc_lt _ _ _ (by simp)]
    have := Deep.blk_alloc_new (w.alloc (.cells #[.int .i64 x.op, .int .i64 x.n, .string x.name, .slice ka x.kids.length kc] 47)) (.cells #[.int .i64 0, .int .i64 0, .string ⟨#[]⟩, .slice none 0 0] 47)
    simpa using this
  obtain ⟨q0, q1, q2, q3, _⟩ := blk4 hb2
  have hN : Nodes w3 w3.heap.size (.slice (some ⟨w.heap.size + 2, 0, none⟩) 1 1) [x] := ⟨_, 1, rfl, by simp, by unfold maxLen; omega, .inr ⟨w.heap.size + 2, 0, rfl, by omega, fun i hi => by
    obtain rfl : i = 0 := by simpa using hi
    exact ⟨_, q0, q1, q2, q3, hI.below hB3 hB3.size⟩⟩⟩
  have CC : Sld (Calls Tryd.prog 11 #[.slice (some ⟨w.heap.size + 2, 0, none⟩) 1 1] w3 fun e w' => ∃ g cap ao cap', e = .returned (.slice (some ⟨g, 0, none⟩) 1 cap) ∧ NodeAt w' w'.heap.size g 0 x (.slice ao x.kids.length cap') ∧ OwnI w' w3.heap.size (.slice ao x.kids.length cap') x.kids ∧ Below w3.heap.size w3 w') := ⟨(copy_any _ [x] w3 _ (Nat.le_refl _) hN (by simp) (by intro y hy; simp at hy; subst hy; exact hl)).mono fun e w' ⟨v', h1, h2, h3⟩ => by
    obtain ⟨p, hp1, hp2⟩ := h2
    obtain ⟨⟨y, kv⟩, rfl⟩ : ∃ y, p = [y] := by
      match p, hp1 with
      | [y], _ => exact ⟨y, rfl⟩
    simp at hp1
    subst hp1
    obtain ⟨g, cap, hv, _, _⟩ := rw_some hp2.row (by simp)
    have hk := hp2.kids _ (List.mem_singleton.2 rfl)
    obtain ⟨ao, cap', hkv⟩ := OwnI.form' hk
    simp only at hkv hk
    subst hkv
    have hc : ∀ j u, (ndCells [(y, Value.slice ao y.kids.length cap')])[j]? = some u → w'.cell? ⟨g, j, none⟩ = some u := fun j u hj => by
      subst hv
      obtain ⟨u', h4, h5⟩ := rw_cell hp2.row (i := j) (by
        have := (List.getElem?_eq_some_iff.1 hj).1
        simpa [ndCells] using this)
      rw [h4, ← h5, hj]
    subst hv
    exact ⟨g, cap, ao, cap', by simpa using h1, ⟨hc 0 _ rfl, hc 1 _ rfl, hc 2 _ rfl, hc 3 _ rfl, Ints_of_own hk (Nat.le_refl _)⟩, hk, h3⟩⟩
  have HB3 : Sld (Below w.heap.size w w3) := ⟨hB3⟩
  have HSZ : Hid (w3.heap.size = w.heap.size + 3) := hsz3
  have HB1 : Sld (w3.heap[w.heap.size + 1]? = some (.cells #[.int .i64 0, .int .i64 0, .string ⟨#[]⟩, .slice none 0 0] 47 (0, 0))) := ⟨hb1⟩
  clear hB3 hsz3 hb2 hb1 q0 q1 q2 q3 hN hI
  obtain ⟨op, n, nm, ks⟩ := x
  simp only at hw3 CC ⊢
  go_enter Tryd.func34, Tryd.ntmps34
  go_wp2_with fail
  try rw [hw3]
  clear hw3
  refine CC.out.mono ?_
  rintro e w5 ⟨g5, c5, ao5, cap5, rfl, hNA, hO5, hb5⟩
  have hn5 : w5.heap[w.heap.size + 1]? = some (.cells #[.int .i64 0, .int .i64 0, .string ⟨#[]⟩, .slice none 0 0] 47 (0, 0)) := (hb5.block _ (by have := HSZ.out; omega)).trans HB1.out
  obtain ⟨y0, y1, y2, y3, yf⟩ := blk4 hn5
  obtain ⟨d0, d1, d2, d3, _⟩ := hNA
  simp only at d0 d1 d2 d3
  have HO5 : Hid (OwnI w5 w3.heap.size (.slice ao5 ks.length cap5) ks) := hO5
  have HB5 : Sld (Below w.heap.size w w5) := ⟨HB3.out.trans (hb5.mono HB3.out.size)⟩
  clear hO5 hb5
  go_wp2_with fail
  have hS := set4 hn5 (.int .i64 op) (.int .i64 n) (.string nm) (.slice ao5 ks.length cap5)
  have HBE := below_set4 HB5.out (Nat.le_add_right w.heap.size 1) (.int .i64 op) (.int .i64 n) (.string nm) (.slice ao5 ks.length cap5)
  have HOE : OwnI ((((w5.setCell ⟨w.heap.size + 1, 0, none⟩ (.int .i64 op)).setCell ⟨w.heap.size + 1, 1, none⟩ (.int .i64 n)).setCell ⟨w.heap.size + 1, 2, none⟩ (.string nm)).setCell ⟨w.heap.size + 1, 3, none⟩ (.slice ao5 ks.length cap5)) w.heap.size (.slice ao5 ks.length cap5) ks := by
    have := ownI_far (b := w.heap.size + 1) HO5.out (by have := HSZ.out; omega) (w' := (((w5.setCell ⟨w.heap.size + 1, 0, none⟩ (.int .i64 op)).setCell ⟨w.heap.size + 1, 1, none⟩ (.int .i64 n)).setCell ⟨w.heap.size + 1, 2, none⟩ (.string nm)).setCell ⟨w.heap.size + 1, 3, none⟩ (.slice ao5 ks.length cap5)) (fun k hk => by
      rw [Deep.blk_setCell_other _ _ _ _ hk, Deep.blk_setCell_other _ _ _ _ hk, Deep.blk_setCell_other _ _ _ _ hk, Deep.blk_setCell_other _ _ _ _ hk])
    exact ownsRow_mono this (by have := HSZ.out; omega)
  generalize (((w5.setCell ⟨w.heap.size + 1, 0, none⟩ (.int .i64 op)).setCell ⟨w.heap.size + 1, 1, none⟩ (.int .i64 n)).setCell ⟨w.heap.size + 1, 2, none⟩ (.string nm)).setCell ⟨w.heap.size + 1, 3, none⟩ (.slice ao5 ks.length cap5) = W at *
  obtain ⟨x0, x1, x2, x3, _⟩ := blk4 hS
  refine bodyPost_ret (v := .agg #[.int .i64 op, .int .i64 n, .string nm, .slice ao5 ks.length cap5]) (by simp [results, Tryd.results34, go_sem, x0, x1, x2, x3]) rfl ⟨ao5, cap5, rfl, HOE, HBE⟩
end Go.Proofs.YtjidockolacghaaDoor
