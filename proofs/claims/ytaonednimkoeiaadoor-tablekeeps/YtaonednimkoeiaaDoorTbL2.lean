/-
  Add where there is room.
-/
import Derived.Test.YtaonednimkoeiaaDoorTbE3
import Derived.Test.YtaonednimkoeiaaDoorExRefW
import Derived.Test.YtaonednimkoeiaaDoorExSameW
import Derived.Test.YtaonednimkoeiaaDoorNmPure
import Derived.Test.YtaonednimkoeiaaDoorExOpen
set_option linter.unusedSimpArgs false
set_option linter.unusedVariables false
namespace Go.Proofs.YtaonednimkoeiaaDoor
open Go.RowKit Go.Lib Go.Sort Go.Maps

def aw1 : Nd := ⟨1, 1, ⟨#[]⟩, []⟩
def aw2 : Nd := ⟨3, 0, ⟨#[]⟩, [0]⟩
theorem aw_beg : begL [aw1, aw2] = some [0, 0] := by
  have e : (ByteArray.mk #[]).toList = [] := by unfold ByteArray.toList ByteArray.toList.loop; rfl
  simp [begL, begR, stp, formB, fitB, aritI, chainL, aw1, aw2, e]
theorem aw_add : addR ([], []) [aw1, aw2] = some ([aw1, aw2], [0, 1]) := by
  have h1 : stA ([], []) aw1 = some ([aw1], [0]) := by
    unfold stA
    have e : adN [] aw1 = aw1 := rfl
    simp only [e, ixL_nil]
    simp
  have h2 : stA ([aw1], [0]) aw2 = some ([aw1, aw2], [0, 1]) := by
    unfold stA
    have e : adN [0] aw2 = aw2 := rfl
    have hn : ixL [aw1] aw2 = none := ixL_none.2 (by simp [aw1, aw2])
    simp only [e, hn]
    simp
  show (stA ([], []) aw1).bind (fun s => (stA s aw2).bind fun s => some s) = _
  rw [h1]
  show ((stA ([aw1], [0]) aw2).bind fun s => some s) = _
  rw [h2]
  rfl
theorem aw_own {w w3 : World} {b1 b2 : Nat} (h1 : w3.heap[b1]? = some (.cells #[.int .i64 0] 3 (0, 0))) (h2 : w3.heap[b2]? = some (.cells #[.int .i64 1, .int .i64 1, .string ⟨#[]⟩, .slice none 0 0, .int .i64 3, .int .i64 0, .string ⟨#[]⟩, .slice (some ⟨b1, 0, none⟩) 1 1] 59 (0, 0))) :
    OwnN w3 0 (.slice (some ⟨b2, 0, none⟩) 2 2) [aw1, aw2] := by
  refine ⟨[(aw1, .slice none 0 0), (aw2, .slice (some ⟨b1, 0, none⟩) 1 1)], rfl, ⟨rfl, .inr ⟨b2, 2, _, rfl, Nat.zero_le _, h2, Nat.le_refl 2, by unfold maxLen; omega, rfl, rfl⟩⟩, fun q hq => ?_⟩
  simp at hq
  rcases hq with rfl | rfl
  · exact World.ownsRow_nil _ _ _ _
  · exact ⟨rfl, .inr ⟨b1, 1, _, rfl, Nat.zero_le _, h1, Nat.le_refl 1, by unfold maxLen; omega, rfl, rfl⟩⟩

set_option maxRecDepth 20000 in
set_option maxHeartbeats 4000000 in
theorem awake10_any (w : World) (hT : SpanCells w) : Calls Tryd.prog 32 #[] w fun e w' => e = .returned (.bool true) ∧ Below w.heap.size w w' := by
  obtain ⟨w1, hw1⟩ : ∃ w1, w.alloc (.cells #[.slice none 0 0, .map none] 99) = w1 := ⟨_, rfl⟩
  have HB1 : Sld (Below w.heap.size w w1) := ⟨by rw [← hw1]; exact (Below.refl _ _).alloc (Nat.le_refl _) _⟩
  have hM1 : TbM w1 w.heap.size (.slice none 0 0) (.map none) [] := by rw [← hw1]; exact TbM.fresh w
  obtain ⟨w3, hw3⟩ : ∃ w3, (w1.alloc (.cells #[.int .i64 0] 3)).alloc (.cells #[.int .i64 1, .int .i64 1, .string ⟨#[]⟩, .slice none 0 0, .int .i64 3, .int .i64 0, .string ⟨#[]⟩, .slice (some ⟨w1.heap.size, 0, none⟩) 1 1] 59) = w3 := ⟨_, rfl⟩
  have hB3 : Below w1.heap.size w1 w3 := by rw [← hw3]; exact ((Below.refl _ _).alloc (Nat.le_refl _) _).alloc (by simp) _
  have hb1 : w3.heap[w1.heap.size]? = some (.cells #[.int .i64 0] 3 (0, 0)) := by rw [← hw3, Deep.blk_alloc_lt _ _ _ (by simp), Deep.blk_alloc_new]
  have hb2 : w3.heap[w1.heap.size + 1]? = some (.cells #[.int .i64 1, .int .i64 1, .string ⟨#[]⟩, .slice none 0 0, .int .i64 3, .int .i64 0, .string ⟨#[]⟩, .slice (some ⟨w1.heap.size, 0, none⟩) 1 1] 59 (0, 0)) := by
    rw [← hw3]
    have := Deep.blk_alloc_new (w1.alloc (.cells #[.int .i64 0] 3)) (.cells #[.int .i64 1, .int .i64 1, .string ⟨#[]⟩, .slice none 0 0, .int .i64 3, .int .i64 0, .string ⟨#[]⟩, .slice (some ⟨w1.heap.size, 0, none⟩) 1 1] 59)
    simpa using this
  have HB3 : Sld (Below w.heap.size w w3) := ⟨HB1.out.trans (hB3.mono HB1.out.size)⟩
  have CA : Sld (Calls Tryd.prog 39 #[.pointer (some ⟨w.heap.size, 0, none⟩), .slice (some ⟨w1.heap.size + 1, 0, none⟩) 2 2] w3 fun e w' => e = .returned (.tuple #[.int .i64 1, .int .i64 0]) ∧ ∃ ev' mv', TbT w3 w.heap.size (.slice none 0 0) (.map none) ev' mv' [aw1, aw2] w') := ⟨tAdd_ok w3 w.heap.size _ _ [] [aw1, aw2] [0, 0] 0 _ (hM1.below hB3) (hT.below HB3.out) (aw_own (w := w) hb1 hb2) aw_beg (by
    intro x hx
    simp at hx
    rcases hx with rfl | rfl
    · exact ⟨⟨by show (-9223372036854775808 : Int) ≤ 1; omega, by show (1 : Int) ≤ 9223372036854775807; omega⟩, by unfold aw1; decide⟩
    · exact ⟨⟨by show (-9223372036854775808 : Int) ≤ 0; omega, by show (0 : Int) ≤ 9223372036854775807; omega⟩, by unfold aw2; decide⟩) [aw1, aw2] [0, 1] aw_add⟩
  have HM3 : Sld (TbM w3 w.heap.size (.slice none 0 0) (.map none) []) := ⟨hM1.below hB3⟩
  clear hB3 hb1 hb2 hM1
  go_enter Tryd.func32, Tryd.ntmps32
  go_wp2_with fail
  refine (tnew_any w).mono ?_
  rintro e w2 ⟨rfl, hw2⟩
  rw [hw1] at hw2
  subst hw2
  go_wp2_with fail
  refine CA.out.mono ?_
  rintro e w4 ⟨rfl, ev4, mv4, hT4⟩
  have HL4 : Sld (Calls Tryd.prog 41 #[.pointer (some ⟨w.heap.size, 0, none⟩)] w4 fun e w' => e = .returned (.int .i64 2) ∧ w' = w4) := ⟨tlen_any w4 _ _ _ _ hT4.tb⟩
  have HB4 : Sld (Below w.heap.size w w4) := ⟨HB3.out.trans (hT4.below HM3.out)⟩
  clear hT4
  go_wp2_with (go_at_call 41; refine HL4.out.mono ?_; rintro e w5 ⟨rfl, hw5⟩; subst hw5)
  go_ret
  exact ⟨rfl, HB4.out⟩

end Go.Proofs.YtaonednimkoeiaaDoor

namespace Go.Proofs.YtaonednimkoeiaaDoor
open Go.RowKit Go.Lib Go.Sort Go.Maps

/-- What Add answers. -/
def adP (L l : List Nd) : Nat × Int × List Nd :=
  match begL l with
  | none => (0, 1, L)
  | some _ => match addR (L, []) l with
    | some s => (s.2.getD (l.length - 1) 0, 0, s.1)
    | none => (0, 10, L)
theorem stA_room {L : List Nd} {ids : List Nat} (x : Nd) (h : L.length < 1048576) : ∃ L' ids', stA (L, ids) x = some (L', ids') ∧ L'.length ≤ L.length + 1 := by
  unfold stA
  simp only
  cases ixL L (adN ids x) with
  | some i => exact ⟨_, _, rfl, by omega⟩
  | none => simp only [h, if_true]; exact ⟨_, _, rfl, by simp⟩
theorem addR_room : ∀ (l : List Nd) (L : List Nd) (ids : List Nat), L.length + l.length ≤ 1048576 → ∃ s, addR (L, ids) l = some s
  | [], L, ids, _ => ⟨_, rfl⟩
  | x :: r, L, ids, h => by
    simp only [List.length_cons] at h
    obtain ⟨L', ids', h1, h2⟩ := stA_room (ids := ids) x (show L.length < 1048576 by omega)
    obtain ⟨s, hs⟩ := addR_room r L' ids' (by omega)
    exact ⟨s, by simp only [addR, h1, Option.bind_some]; exact hs⟩
/-- Of an expression that is sound. -/
structure AdOk (L l : List Nd) (ids : List Nat) (L' : List Nd) : Prop where
  run : addR (L, []) l = some (L', ids)
  inv : TbI L'
  pre : ∃ M, L' = L ++ M ∧ M.length ≤ l.length
  fnd : Fnd L' l ids
theorem adP_snd {L l : List Nd} {fr : List Nat} (hI : TbI L) (hb : begL l = some fr) (hr : L.length + 64 ≤ 1048576) : ∃ ids L', AdOk L l ids L' ∧ adP L l = (ids.getD (l.length - 1) 0, 0, L') := by
  obtain ⟨h0, h64, hbr, _⟩ := begL_some hb
  have hok := begOk_of hbr
  obtain ⟨⟨L', ids⟩, hs⟩ := addR_room l L [] (by omega)
  have h1 := addR_ok (kidsLo_ok hok) (fun j hj => (hok.at_ j hj).1) hI l.length (Nat.le_refl _) L' ids (by rw [List.take_length]; exact hs)
  rw [List.take_length] at h1
  refine ⟨ids, L', ⟨hs, h1.1, h1.2.1, h1.2.2⟩, ?_⟩
  unfold adP
  rw [hb, hs]
theorem AdOk.whole {L l L' : List Nd} {ids : List Nat} {fr : List Nat} (h : AdOk L l ids L') (hb : begL l = some fr) : exA L' (ids.getD (l.length - 1) 0) = l := h.fnd.whole h.inv hb
theorem AdOk.lt {L l L' : List Nd} {ids : List Nat} (h : AdOk L l ids L') (h0 : 0 < l.length) : ids.getD (l.length - 1) 0 < L'.length := (h.fnd.at_ (l.length - 1) (by omega)).1
theorem adP_bad {L l : List Nd} (hb : begL l = none) : adP L l = (0, 1, L) := by unfold adP; rw [hb]
theorem adP_len {L l : List Nd} (hI : TbI L) (hr : L.length + 64 ≤ 1048576) : (adP L l).2.2.length ≤ L.length + 64 ∧ TbI (adP L l).2.2 := by
  cases hb : begL l with
  | none => rw [adP_bad hb]; exact ⟨by simp, hI⟩
  | some fr =>
    obtain ⟨ids, L', h1, h2⟩ := adP_snd hI hb hr
    rw [h2]
    obtain ⟨M, hM, hMl⟩ := h1.pre
    obtain ⟨_, h64, _, _⟩ := begL_some hb
    refine ⟨?_, h1.inv⟩
    simp only
    rw [hM, List.length_append]
    omega
/-- Where its nodes are entries already. -/
theorem adP_fnd {L l : List Nd} {ids : List Nat} {fr : List Nat} (hI : TbI L) (hb : begL l = some fr) (h : Fnd L l ids) : adP L l = (ids.getD (l.length - 1) 0, 0, L) := by
  obtain ⟨_, _, hbr, _⟩ := begL_some hb
  unfold adP
  rw [hb, fnd_run (kidsLo_ok (begOk_of hbr)) hI.nodup h]
theorem tAdd_room (w : World) (p : Nat) (ev mv : Value) (L l : List Nd) (base : Nat) (vs : Value) (h : TbM w p ev mv L) (hT : SpanCells w) (ho : OwnN w base vs l) (hx : ∀ x ∈ l, (Lit.int .i64 x.n).wf = true) (hr : L.length + 64 ≤ 1048576) :
    Calls Tryd.prog 39 #[.pointer (some ⟨p, 0, none⟩), vs] w fun e w' => e = .returned (.tuple #[.int .i64 ((adP L l).1 : Nat), .int .i64 (adP L l).2.1]) ∧ ∃ ev' mv', TbT w p ev mv ev' mv' (adP L l).2.2 w' := by
  cases hb : begL l with
  | none =>
    rw [adP_bad hb]
    exact (tAdd_bad w p l vs hT (Nodes_of_own ho (Nat.le_refl _)) hb).mono fun e w' ⟨h1, h2⟩ => ⟨h1, ev, mv, TbT.of_below h h2⟩
  | some fr =>
    obtain ⟨ids, L', h1, h2⟩ := adP_snd h.inv hb hr
    rw [h2]
    obtain ⟨_, _, hbr, _⟩ := begL_some hb
    have hok := begOk_of hbr
    refine tAdd_ok w p ev mv L l fr base vs h hT ho hb (fun x hx' => ?_) L' ids h1.run
    have e1 : IntKind.min .i64 = -9223372036854775808 := by decide
    have e2 : IntKind.max .i64 = 9223372036854775807 := by decide
    have hw := hx x hx'
    simp only [Lit.wf, e1, e2, Bool.and_eq_true, decide_eq_true_eq] at hw
    refine ⟨hw, ?_⟩
    obtain ⟨j, hj, rfl⟩ := List.mem_iff_getElem.1 hx'
    have := (hok.at_ j hj).1
    have := (form_name this).2
    simp [hj] at this
    omega
theorem TbT.b {w w0 w' : World} {p B : Nat} {ev mv ev' mv' : Value} {L L' : List Nd} (h : TbT w p ev mv ev' mv' L' w') (hm : TbM w p ev mv L) (hb : Below B w0 w) (hB : B ≤ p) : Below B w0 w' := hb.trans ((h.below hm).mono hB)
/-- Copy, then Add. -/
theorem spans_b {B : Nat} {w w' : World} (h : SpanCells w) (hb : Below w.heap.size w w') : SpanCells w' := h.below hb
end Go.Proofs.YtaonednimkoeiaaDoor
