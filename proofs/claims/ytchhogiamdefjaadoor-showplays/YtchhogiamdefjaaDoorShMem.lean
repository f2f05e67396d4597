/-
  The table of the writings, and lists of parts, in memory.
-/
import Derived.Test.YtchhogiamdefjaaDoorShPure
import Derived.Test.YtchhogiamdefjaaDoorSwPure
set_option linter.unusedSimpArgs false
set_option linter.unusedVariables false
namespace Go.Proofs.YtchhogiamdefjaaDoor
open Go.RowKit Go.Lib

/-- The table lies in memory. -/
def WrCells (w : World) : Prop := ∀ k, k < 19 →
  w.cell? ⟨0, k * 3, none⟩ = some (.string (txt (wrTab.getD k ([], [], 0)).1)) ∧ w.cell? ⟨0, k * 3 + 1, none⟩ = some (.string (txt (wrTab.getD k ([], [], 0)).2.1)) ∧ w.cell? ⟨0, k * 3 + 2, none⟩ = some (.int .i64 (wrTab.getD k ([], [], 0)).2.2)
theorem WrCells.below {w w' : World} (h : WrCells w) (hb : Below w.heap.size w w') : WrCells w' := by
  intro k hk
  obtain ⟨h0, h1, h2⟩ := h k hk
  exact ⟨(hb.cell (World.block_lt_of_cell? w _ h0)).trans h0, (hb.cell (World.block_lt_of_cell? w _ h1)).trans h1, (hb.cell (World.block_lt_of_cell? w _ h2)).trans h2⟩

/-- A part at b, o. -/
structure PtAt (w : World) (b o : Nat) (p : Nd × ByteArray) : Prop where
  c0 : w.cell? ⟨b, o, none⟩ = some (.int .i64 p.1.op)
  c1 : w.cell? ⟨b, o + 1, none⟩ = some (.int .i64 p.1.n)
  c2 : w.cell? ⟨b, o + 2, none⟩ = some (.string p.1.name)
  c3 : ∃ ka kn kc, w.cell? ⟨b, o + 3, none⟩ = some (.slice ka kn kc)
  c4 : w.cell? ⟨b, o + 4, none⟩ = some (.string p.2)
theorem PtAt.below {w w' : World} {b o : Nat} {p : Nd × ByteArray} (h : PtAt w b o p) (hlt : b < w.heap.size) (hb : Below w.heap.size w w') : PtAt w' b o p := by
  obtain ⟨h0, h1, h2, ⟨ka, kn, kc, h3⟩, h4⟩ := h
  exact ⟨(hb.cell (p := ⟨b, o, none⟩) hlt).trans h0, (hb.cell (p := ⟨b, o + 1, none⟩) hlt).trans h1, (hb.cell (p := ⟨b, o + 2, none⟩) hlt).trans h2, ⟨ka, kn, kc, (hb.cell (p := ⟨b, o + 3, none⟩) hlt).trans h3⟩, (hb.cell (p := ⟨b, o + 4, none⟩) hlt).trans h4⟩
/-- The slice reads as the parts ps. -/
def Pts (w : World) (ao : Option Addr) (cap : Nat) (ps : List (Nd × ByteArray)) : Prop :=
  ps.length ≤ cap ∧ cap ≤ maxLen ∧ (ps = [] ∨ ∃ b o, ao = some ⟨b, o, none⟩ ∧ b < w.heap.size ∧ ∀ i, i < ps.length → PtAt w b (o + i * 5) (ps.getD i pt0))
theorem Pts.below {w w' : World} {ao : Option Addr} {cap : Nat} {ps : List (Nd × ByteArray)} (h : Pts w ao cap ps) (hb : Below w.heap.size w w') : Pts w' ao cap ps := by
  obtain ⟨h1, h2, h3⟩ := h
  refine ⟨h1, h2, ?_⟩
  rcases h3 with h3 | ⟨b, o, e, hlt, hc⟩
  · exact .inl h3
  · exact .inr ⟨b, o, e, Nat.lt_of_lt_of_le hlt hb.size, fun i hi => (hc i hi).below hlt hb⟩
theorem Pts.at_ {w : World} {ao : Option Addr} {cap : Nat} {ps : List (Nd × ByteArray)} (h : Pts w ao cap ps) {i : Nat} (hi : i < ps.length) : ∃ b o, ao = some ⟨b, o, none⟩ ∧ b < w.heap.size ∧ PtAt w b (o + i * 5) (ps.getD i pt0) := by
  rcases h.2.2 with h | ⟨b, o, e, hlt, hc⟩
  · subst h; simp at hi
  · exact ⟨b, o, e, hlt, hc i hi⟩

/-! ### rows of parts of the call's own -/
def ptCells : List ((Nd × ByteArray) × Value) → List Value
  | [] => []
  | (p, kv) :: r => .int .i64 p.1.op :: .int .i64 p.1.n :: .string p.1.name :: kv :: .string p.2 :: ptCells r
theorem ptCells_length (l : List ((Nd × ByteArray) × Value)) : (ptCells l).length = l.length * 5 := by
  induction l with
  | nil => rfl
  | cons a r ih => obtain ⟨x, kv⟩ := a; simp [ptCells, ih]; omega
theorem ptCells_append (l m : List ((Nd × ByteArray) × Value)) : ptCells (l ++ m) = ptCells l ++ ptCells m := by
  induction l with
  | nil => rfl
  | cons a r ih => obtain ⟨x, kv⟩ := a; simp [ptCells, ih]
theorem ptCells_at (l : List ((Nd × ByteArray) × Value)) (i : Nat) (x : Nd × ByteArray) (kv : Value) (h : l[i]? = some (x, kv)) :
    (ptCells l)[i * 5]? = some (.int .i64 x.1.op) ∧ (ptCells l)[i * 5 + 1]? = some (.int .i64 x.1.n) ∧ (ptCells l)[i * 5 + 2]? = some (.string x.1.name) ∧ (ptCells l)[i * 5 + 3]? = some kv ∧ (ptCells l)[i * 5 + 4]? = some (.string x.2) := by
  induction l generalizing i with
  | nil => simp at h
  | cons a r ih =>
    obtain ⟨y, kw⟩ := a
    cases i with
    | zero => simp at h; obtain ⟨rfl, rfl⟩ := h; simp [ptCells]
    | succ i =>
      have := ih i (by simpa using h)
      have e : (i + 1) * 5 = i * 5 + 5 := by omega
      rw [e]
      simpa [ptCells] using this
def Slc (v : Value) : Prop := ∃ ka kn kc, v = .slice ka kn kc
/-- Parts of the call's own; more may lie behind them. -/
def OwnT (w : World) (base : Nat) (v : Value) (n : Nat) (q : List ((Nd × ByteArray) × Value)) (rest : List Value) : Prop :=
  w.ownsRow base 86 5 v n (ptCells q ++ rest) ∧ ∀ x ∈ q, Slc x.2
theorem OwnT.pts {w : World} {base : Nat} {v : Value} {n : Nat} {q : List ((Nd × ByteArray) × Value)} {rest : List Value} (h : OwnT w base v n q rest) (hq : q.length ≤ n) : ∃ ao cap, v = .slice ao n cap ∧ n ≤ cap ∧ cap ≤ maxLen ∧ (q = [] ∨ ∃ b, ao = some ⟨b, 0, none⟩ ∧ b < w.heap.size ∧ base ≤ b ∧ ∀ i, i < q.length → PtAt w b (i * 5) ((q.map (·.1)).getD i pt0)) := by
  obtain ⟨⟨h1, h2⟩, hS⟩ := h
  rcases h2 with ⟨rfl, h0⟩ | ⟨g, cap, cur, rfl, hb, hg, hn, hm, hs, ht⟩
  · subst h0
    exact ⟨none, 0, rfl, Nat.le_refl _, by simp [maxLen], .inl (List.length_eq_zero_iff.1 (by omega))⟩
  · refine ⟨_, cap, rfl, hn, hm, .inr ⟨g, rfl, lt_of_block hg, hb, fun i hi => ?_⟩⟩
    have hp : q[i]? = some (q[i].1, q[i].2) := by simp [hi]
    have hx : (q.map (·.1)).getD i pt0 = q[i].1 := by simp [hi]
    obtain ⟨a0, a1, a2, a3, a4⟩ := ptCells_at q i _ _ hp
    have hl : (ptCells q).length = q.length * 5 := ptCells_length q
    have hc : ∀ j, j < q.length * 5 → w.cell? ⟨g, j, none⟩ = (ptCells q)[j]? := by
      intro j hj
      have e : w.cell? ⟨g, j, none⟩ = cur[j]? := by simp [World.cell?, hg]
      have e2 : (cur.toList.take (n * 5))[j]? = (ptCells q)[j]? := by rw [ht, List.getElem?_append_left (by omega)]
      rw [e, ← Array.getElem?_toList, ← e2, List.getElem?_take, if_pos (by omega)]
    obtain ⟨ka, kn, kc, hk⟩ := hS q[i] (by simp)
    rw [hx]
    refine ⟨?_, ?_, ?_, ⟨ka, kn, kc, ?_⟩, ?_⟩
    · rw [hc _ (by omega), a0]
    · rw [hc _ (by omega), a1]
    · rw [hc _ (by omega), a2]
    · rw [hc _ (by omega), a3, hk]
    · rw [hc _ (by omega), a4]
theorem OwnT.below {w w' : World} {base : Nat} {v : Value} {n : Nat} {q : List ((Nd × ByteArray) × Value)} {rest : List Value} (h : OwnT w base v n q rest) (hb : Below w.heap.size w w') : OwnT w' base v n q rest := ⟨ownsRow_below h.1 hb, h.2⟩
theorem OwnT.read {w : World} {base : Nat} {v : Value} {q : List ((Nd × ByteArray) × Value)} (h : OwnT w base v q.length q []) : ∃ ao cap, v = .slice ao q.length cap ∧ Pts w ao cap (q.map (·.1)) := by
  obtain ⟨ao, cap, e, h1, h2, h3⟩ := h.pts (Nat.le_refl _)
  refine ⟨ao, cap, e, by simpa using h1, h2, ?_⟩
  rcases h3 with h3 | ⟨b, e, hl, _, hc⟩
  · subst h3; exact .inl rfl
  · exact .inr ⟨b, 0, e, hl, fun i hi => by rw [Nat.zero_add]; exact hc i (by simpa using hi)⟩
end Go.Proofs.YtchhogiamdefjaaDoor
