/-
  The document's Path, walked.
-/
import Derived.Test.YtfnbkffphpidbaaFoRg
set_option linter.unusedSimpArgs false
set_option linter.unusedVariables false
namespace Go.Proofs.Ytfnbkffphpidbaa
open Go.RowKit Go.Lib

/-- A step as the document writes it: ends, the reason's number, the direction. -/
structure Eh where
  f : Nat
  t : Nat
  y : Int
  b : Bool
def rz (L : List Jt) (e : Ed) : Eh := ⟨eA (jJ L) e, eB (jJ L) e, (L.getD e.1 jt0).2.2, e.2⟩
def ehC (g : Eh) : List Value := [.int .i64 g.f, .int .i64 g.t, .int .i64 g.y, .bool g.b]
def ehCells : List Eh → List Value
  | [] => []
  | t :: r => ehC t ++ ehCells r
def eh0 : Eh := ⟨0, 0, 0, false⟩
theorem ehCells_append (a b : List Eh) : ehCells (a ++ b) = ehCells a ++ ehCells b := by
  induction a with
  | nil => rfl
  | cons t r ih => simp [ehCells, ih]
theorem ehCells_at : ∀ (L : List Eh) (i k : Nat), i < L.length → k < 4 → (ehCells L)[i * 4 + k]? = (ehC (L.getD i eh0))[k]?
  | [], i, k, h, _ => by simp at h
  | t :: r, 0, k, _, hk => by
    simp only [ehCells]
    rw [List.getElem?_append_left (by simp [ehC]; omega)]
    simp
  | t :: r, i + 1, k, h, hk => by
    simp only [ehCells]
    have e : (i + 1) * 4 + k = 4 + (i * 4 + k) := by omega
    rw [e, List.getElem?_append_right (by simp [ehC])]
    have e2 : 4 + (i * 4 + k) - (ehC t).length = i * 4 + k := by simp [ehC]
    rw [e2, ehCells_at r i k (by simpa using h) hk]
    rfl
def OwnH (w : World) (base : Nat) (v : Value) (l : List Eh) : Prop := w.ownsRow base 105 4 v l.length (ehCells l)
theorem OwnH.form {w : World} {base : Nat} {v : Value} {l : List Eh} (h : OwnH w base v l) : ∃ ao cap, v = .slice ao l.length cap := rw_form h
theorem OwnH.below {w w' : World} {base : Nat} {v : Value} {l : List Eh} (h : OwnH w base v l) (hb : Below w.heap.size w w') : OwnH w' base v l := rw_same h (fun b hb' => hb.block b (rw_block h hb').2.1)
theorem OwnH_snoc {w : World} {base : Nat} {v : Value} {l : List Eh} {x : Eh} (h : w.ownsRow base 105 4 v (l.length + 1) (ehCells l ++ [.int .i64 x.f, .int .i64 x.t, .int .i64 x.y, .bool x.b])) : OwnH w base v (l ++ [x]) := by
  unfold OwnH; rw [ehCells_append]; simpa [ehCells, ehC] using h
theorem Try.infoEh : (Try.prog.info? 105).map (fun i => (i.zero, i.size, i.bytes)) = some (some (.agg #[.int .i64 0, .int .i64 0, .int .i64 0, .bool false]), 4, 32) := by kernel_rfl

/-- What is left of a way, behind k steps. -/
theorem Pa.drop {J : List (Nat × Nat)} {a b : Nat} {P : List Ed} (h : Pa J a P b) {k : Nat} (hk : k ≤ P.length) : Pa J ((visL J a P).getD k 0) (P.drop k) b := by
  induction k generalizing a P with
  | zero => exact h
  | succ k ih =>
    cases P with
    | nil => simp at hk
    | cons e P =>
      have := ih h.tail (by simpa using hk)
      exact this
theorem rch_next {L : List Jt} {V : List Value} {m : List Mv} {x y : Nat} {l : List Int} {P : List Ed} (hI : FoI (jJ L) V m) (hR : Rch (jJ L) m.length y l) (hP : Pa (jJ L) x P y) (hx : x < m.length) {k : Nat} (hk : k < P.length) :
    (visL (jJ L) x P).getD k 0 < m.length ∧ (visL (jJ L) x P).getD k 0 ≠ y ∧ l.getD ((visL (jJ L) x P).getD k 0) 0 = (((P.getD k (0, false)).1 + 1 : Nat) : Int) ∧ (P.getD k (0, false)).1 < L.length := by
  have hd := hP.drop (Nat.le_of_lt hk)
  have hs : P.drop k = P.getD k (0, false) :: P.drop (k + 1) := by
    rw [List.getD_eq_getElem?_getD, List.getElem?_eq_getElem hk]
    exact List.drop_eq_getElem_cons hk
  have hlt : (visL (jJ L) x P).getD k 0 < m.length := by
    have h1 : Pa (jJ L) y (rv (P.drop k)) ((visL (jJ L) x P).getD k 0) := hd.rev
    have hy : y < m.length := hI.lt hP.1 hx
    exact hI.lt h1.1 hy
  have hne : (visL (jJ L) x P).getD k 0 ≠ y := fun e => by
    rw [e] at hd
    have := hI.fst.loop hd
    rw [hs] at this
    cases this
  rw [hs] at hd
  have h0 : l.getD ((visL (jJ L) x P).getD k 0) 0 ≠ 0 := (hR.iff_ _ hlt).2 hd.cn
  obtain ⟨i, d, q, h1, h2⟩ := hR.way _ hlt hne h0
  have h3 := hI.fst.uniq _ _ _ _ h2 hd
  injection h3 with h4 _
  refine ⟨hlt, hne, by rw [h1, ← h4], ?_⟩
  have := hd.lt
  rw [jJ_len] at this
  exact this
end Go.Proofs.Ytfnbkffphpidbaa
