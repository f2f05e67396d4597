/-
  What the texts on owned lists of nodes share.
-/
import Derived.Test.YtkdcjkhpbbcncaaDoorExSplPure
import Derived.Test.YtkdcjkhpbbcncaaDoorApBase
set_option linter.unusedSimpArgs false
set_option linter.unusedVariables false
namespace Go.Proofs.YtkdcjkhpbbcncaaDoor
open Go.RowKit Go.Lib

/-- A fact that the walk does not look into. -/
structure Sld (p : Prop) : Prop where
  out : p
/-- Kids lead to earlier places. -/
def KidsLo (e : List Nd) : Prop := ∀ j, j < e.length → ∀ k ∈ (e.getD j nd0).kids, 0 ≤ k ∧ k < (j : Int)
theorem kidsLo_ok {l : List Nd} {fr : List Nat} (h : BegOk l fr) : KidsLo l := fun j hj k hk => by
  obtain ⟨c, h0, hc, rfl⟩ := (chain_inv (fr := fr) (P := fun c => c ≤ j) (fun c _ hc => by have := h.low (c - 1); omega) _ _ _ (Nat.le_refl j) (h.at_ j hj).2).2 k (by simpa using hk)
  omega
theorem OwnI.cellT {w : World} {base g n cap : Nat} {ks : List Int} (h : OwnI w base (.slice (some ⟨g, 0, none⟩) n cap) ks) (hn : ks.length = n) {i : Nat} (hi : i < n) : w.cell? ⟨g, i, none⟩ = some (.int .i64 (ks.getD i 0)) := by
  subst hn
  obtain ⟨u, h1, h2⟩ := rw_cell h (i := i) (by omega)
  rw [h1, ← h2]
  simp [hi]
theorem OwnI.frT {w : World} {base g n cap : Nat} {ks : List Int} (h : OwnI w base (.slice (some ⟨g, 0, none⟩) n cap) ks) (hn : ks.length = n) (i : Nat) : w.frozen? ⟨g, i, none⟩ = false := by
  subst hn; exact rw_fro h i
theorem OwnI.putT {w : World} {base g n cap : Nat} {ks : List Int} (h : OwnI w base (.slice (some ⟨g, 0, none⟩) n cap) ks) (hn : ks.length = n) (i : Nat) (x : Int) : OwnI (w.setCell ⟨g, i, none⟩ (.int .i64 x)) base (.slice (some ⟨g, 0, none⟩) n cap) (ks.set i x) := by
  subst hn
  have := rw_put h i (.int .i64 x)
  unfold OwnI
  rw [List.length_set, List.map_set]
  exact this
theorem OwnI.form' {w : World} {base : Nat} {v : Value} {ks : List Int} (h : OwnI w base v ks) : ∃ ao cap, v = .slice ao ks.length cap := rw_form h
/-- No two rows of kids are one. -/
def KdAp (q : List (Nd × Value)) : Prop := q.Pairwise fun a b => ∀ g, a.2.ownBlock = some g → b.2.ownBlock ≠ some g
/-- An expression that is answered: all of its memory is young, no two rows of kids are one. -/
structure ExO (w : World) (v : Value) (l : List Nd) (w' : World) : Prop where
  ex : ∃ q : List (Nd × Value), q.map (·.1) = l ∧ OwnP w' w.heap.size v q ∧ KdAp q
  below : Below w.heap.size w w'
theorem ExO.own {w w' : World} {v : Value} {l : List Nd} (h : ExO w v l w') : OwnN w' w.heap.size v l := let ⟨q, h1, h2, _⟩ := h.ex; ⟨q, h1, h2⟩
end Go.Proofs.YtkdcjkhpbbcncaaDoor
