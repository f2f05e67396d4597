/-
  Add where there is room.
-/
import Derived.Test.YtjidockolacghaaDoorTbL1
import Derived.Test.YtjidockolacghaaDoorNmPure
import Derived.Test.YtjidockolacghaaDoorExOpen
set_option linter.unusedSimpArgs false
set_option linter.unusedVariables false
namespace Go.Proofs.YtjidockolacghaaDoor
open Go.RowKit Go.Lib Go.Sort Go.Maps

/-- What Add answers. -/
def adP (L l : List Nd) : Nat × Int × List Nd :=
  match begL l with
  | none => (0, 1, L)
  | some _ => match addR (L, []) l with
    | some s => (s.2.getD (l.length - 1) 0, 0, s.1)
    | none => (0, 10, L)
theorem stA_room {L : List Nd} {ids : List Nat} (x : Nd) (h : L.length < 1048576) : ∃ L' ids', stA (L, ids) x = some (L', ids') ∧ L'.length ≤ L.length + 1 := by
  unfold stA
  simp only
  cases ixL L (adN ids x) with
  | some i => exact ⟨_, _, rfl, by omega⟩
  | none => simp only [h, if_true]; exact ⟨_, _, rfl, by simp⟩
theorem addR_room : ∀ (l : List Nd) (L : List Nd) (ids : List Nat), L.length + l.length ≤ 1048576 → ∃ s, addR (L, ids) l = some s
  | [], L, ids, _ => ⟨_, rfl⟩
  | x :: r, L, ids, h => by
    simp only [List.length_cons] at h
    obtain ⟨L', ids', h1, h2⟩ := stA_room (ids := ids) x (show L.length < 1048576 by omega)
    obtain ⟨s, hs⟩ := addR_room r L' ids' (by omega)
    exact ⟨s, by simp only [addR, h1, Option.bind_some]; exact hs⟩
/-- Of an expression that is sound. -/
structure AdOk (L l : List Nd) (ids : List Nat) (L' : List Nd) : Prop where
  run : addR (L, []) l = some (L', ids)
  inv : TbI L'
  pre : ∃ M, L' = L ++ M ∧ M.length ≤ l.length
  fnd : Fnd L' l ids
theorem adP_snd {L l : List Nd} {fr : List Nat} (hI : TbI L) (hb : begL l = some fr) (hr : L.length + 64 ≤ 1048576) : ∃ ids L', AdOk L l ids L' ∧ adP L l = (ids.getD (l.length - 1) 0, 0, L') := by
  obtain ⟨h0, h64, hbr, _⟩ := begL_some hb
  have hok := begOk_of hbr
  obtain ⟨⟨L', ids⟩, hs⟩ := addR_room l L [] (by omega)
  have h1 := addR_ok (kidsLo_ok hok) (fun j hj => (hok.at_ j hj).1) hI l.length (Nat.le_refl _) L' ids (by rw [List.take_length]; exact hs)
  rw [List.take_length] at h1
  refine ⟨ids, L', ⟨hs, h1.1, h1.2.1, h1.2.2⟩, ?_⟩
  unfold adP
  rw [hb, hs]
theorem AdOk.whole {L l L' : List Nd} {ids : List Nat} {fr : List Nat} (h : AdOk L l ids L') (hb : begL l = some fr) : exA L' (ids.getD (l.length - 1) 0) = l := h.fnd.whole h.inv hb
theorem AdOk.lt {L l L' : List Nd} {ids : List Nat} (h : AdOk L l ids L') (h0 : 0 < l.length) : ids.getD (l.length - 1) 0 < L'.length := (h.fnd.at_ (l.length - 1) (by omega)).1
theorem adP_bad {L l : List Nd} (hb : begL l = none) : adP L l = (0, 1, L) := by unfold adP; rw [hb]
theorem adP_len {L l : List Nd} (hI : TbI L) (hr : L.length + 64 ≤ 1048576) : (adP L l).2.2.length ≤ L.length + 64 ∧ TbI (adP L l).2.2 := by
  cases hb : begL l with
  | none => rw [adP_bad hb]; exact ⟨by simp, hI⟩
  | some fr =>
    obtain ⟨ids, L', h1, h2⟩ := adP_snd hI hb hr
    rw [h2]
    obtain ⟨M, hM, hMl⟩ := h1.pre
    obtain ⟨_, h64, _, _⟩ := begL_some hb
    refine ⟨?_, h1.inv⟩
    simp only
    rw [hM, List.length_append]
    omega
/-- Where its nodes are entries already. -/
theorem adP_fnd {L l : List Nd} {ids : List Nat} {fr : List Nat} (hI : TbI L) (hb : begL l = some fr) (h : Fnd L l ids) : adP L l = (ids.getD (l.length - 1) 0, 0, L) := by
  obtain ⟨_, _, hbr, _⟩ := begL_some hb
  unfold adP
  rw [hb, fnd_run (kidsLo_ok (begOk_of hbr)) hI.nodup h]
theorem tAdd_room (w : World) (p : Nat) (ev mv : Value) (L l : List Nd) (base : Nat) (vs : Value) (h : TbM w p ev mv L) (hT : SpanCells w) (ho : OwnN w base vs l) (hx : ∀ x ∈ l, (Lit.int .i64 x.n).wf = true) (hr : L.length + 64 ≤ 1048576) :
    Calls Tryd.prog 29 #[.pointer (some ⟨p, 0, none⟩), vs] w fun e w' => e = .returned (.tuple #[.int .i64 ((adP L l).1 : Nat), .int .i64 (adP L l).2.1]) ∧ ∃ ev' mv', TbT w p ev mv ev' mv' (adP L l).2.2 w' := by
  cases hb : begL l with
  | none =>
    rw [adP_bad hb]
    exact (tAdd_bad w p l vs hT (Nodes_of_own ho (Nat.le_refl _)) hb).mono fun e w' ⟨h1, h2⟩ => ⟨h1, ev, mv, TbT.of_below h h2⟩
  | some fr =>
    obtain ⟨ids, L', h1, h2⟩ := adP_snd h.inv hb hr
    rw [h2]
    obtain ⟨_, _, hbr, _⟩ := begL_some hb
    have hok := begOk_of hbr
    refine tAdd_ok w p ev mv L l fr base vs h hT ho hb (fun x hx' => ?_) L' ids h1.run
    have e1 : IntKind.min .i64 = -9223372036854775808 := by decide
    have e2 : IntKind.max .i64 = 9223372036854775807 := by decide
    have hw := hx x hx'
    simp only [Lit.wf, e1, e2, Bool.and_eq_true, decide_eq_true_eq] at hw
    refine ⟨hw, ?_⟩
    obtain ⟨j, hj, rfl⟩ := List.mem_iff_getElem.1 hx'
    have := (hok.at_ j hj).1
    have := (form_name this).2
    simp [hj] at this
    omega
theorem TbT.b {w w0 w' : World} {p B : Nat} {ev mv ev' mv' : Value} {L L' : List Nd} (h : TbT w p ev mv ev' mv' L' w') (hm : TbM w p ev mv L) (hb : Below B w0 w) (hB : B ≤ p) : Below B w0 w' := hb.trans ((h.below hm).mono hB)
/-- Copy, then Add. -/
theorem spans_b {B : Nat} {w w' : World} (h : SpanCells w) (hb : Below w.heap.size w w') : SpanCells w' := h.below hb
end Go.Proofs.YtjidockolacghaaDoor
