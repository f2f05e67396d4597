/-
  A forest in memory: its block holds the list of its members, which is its own.
-/
import Derived.Test.YtfnbkffphpidbaaFoJ
import Derived.Test.YtfnbkffphpidbaaApBase
import Derived.Laws.AppendOwnNone
import Derived.Lib.OthersKept
import Derived.RangeFuncOwn
set_option linter.unusedSimpArgs false
set_option linter.unusedVariables false
namespace Go.Proofs.Ytfnbkffphpidbaa
open Go.RowKit Go.Lib

/-- A value of an interface. -/
def IfV (v : Value) : Prop := v = .nilIface ∨ ∃ u x, v = .iface u x
theorem IfV.one {v : Value} (h : IfV v) : v.oneCell' = true := by rcases h with rfl | ⟨u, x, rfl⟩ <;> rfl
theorem IfV.cells {v : Value} (h : IfV v) : v.cells = #[v] := by rcases h with rfl | ⟨u, x, rfl⟩ <;> rfl
theorem IfV.nil : IfV nilV := .inl rfl

def mbC (x : Mv) : List Value := [.int .i64 x.rt, .int .i64 x.up.f, .int .i64 x.up.t, x.up.w, .bool x.up.b, .int .i64 x.nx, .int .i64 x.sz, .int .i64 x.ls]
def mbCells : List Mv → List Value
  | [] => []
  | x :: r => mbC x ++ mbCells r
theorem mbCells_length (l : List Mv) : (mbCells l).length = l.length * 8 := by
  induction l with
  | nil => rfl
  | cons a r ih => simp [mbCells, mbC, ih]; omega
theorem mbCells_append (l m : List Mv) : mbCells (l ++ m) = mbCells l ++ mbCells m := by
  induction l with
  | nil => rfl
  | cons a r ih => simp [mbCells, ih]
theorem mbCells_at (l : List Mv) (i k : Nat) (hi : i < l.length) (hk : k < 8) : (mbCells l)[i * 8 + k]? = (mbC (mA l i))[k]? := by
  induction l generalizing i with
  | nil => simp at hi
  | cons a r ih =>
    cases i with
    | zero =>
      have e : mA (a :: r) 0 = a := rfl
      rw [e]
      simp only [mbCells, Nat.zero_mul, Nat.zero_add]
      rw [List.getElem?_append_left (by simp [mbC]; omega)]
    | succ i =>
      have e : mA (a :: r) (i + 1) = mA r i := rfl
      rw [e, ← ih i (by simpa using hi)]
      have e2 : (i + 1) * 8 + k = 8 + (i * 8 + k) := by omega
      rw [e2]
      simp only [mbCells]
      rw [List.getElem?_append_right (by simp [mbC])]
      congr 1
      simp [mbC]
theorem mbCells_set (l : List Mv) (i k : Nat) (u : Value) (y : Mv) (hi : i < l.length) (hk : k < 8) (hy : mbC y = (mbC (mA l i)).set k u) : mbCells (l.set i y) = (mbCells l).set (i * 8 + k) u := by
  induction l generalizing i with
  | nil => simp at hi
  | cons a r ih =>
    cases i with
    | zero =>
      have e : mA (a :: r) 0 = a := rfl
      rw [e] at hy
      simp only [List.set_cons_zero, mbCells, Nat.zero_mul, Nat.zero_add]
      rw [hy, List.set_append_left _ _ (by simp [mbC]; omega)]
    | succ i =>
      have e : mA (a :: r) (i + 1) = mA r i := rfl
      rw [e] at hy
      have e2 : (i + 1) * 8 + k = 8 + (i * 8 + k) := by omega
      rw [e2, List.set_cons_succ]
      simp only [mbCells]
      rw [ih i (by simpa using hi) hy, List.set_append_right _ _ (by simp [mbC])]
      congr 2
      simp [mbC]
theorem mbCells_mem (l : List Mv) (u : Value) (h : u ∈ mbCells l) : u.oneCell' = true ∨ ∃ x ∈ l, u = x.up.w := by
  induction l with
  | nil => simp [mbCells] at h
  | cons a r ih =>
    simp only [mbCells, List.mem_append] at h
    rcases h with h | h
    · simp [mbC] at h
      rcases h with rfl | rfl | rfl | rfl | rfl | rfl | rfl | rfl
      · exact .inl rfl
      · exact .inl rfl
      · exact .inl rfl
      · exact .inr ⟨a, by simp, rfl⟩
      · exact .inl rfl
      · exact .inl rfl
      · exact .inl rfl
      · exact .inl rfl
    · rcases ih h with h | ⟨x, hx, e⟩
      · exact .inl h
      · exact .inr ⟨x, by simp [hx], e⟩

theorem Try.infoMb : (Try.prog.info? 87).map (fun i => (i.zero, i.size, i.bytes)) = some (some (.agg #[.int .i64 0, .int .i64 0, .int .i64 0, .nilIface, .bool false, .int .i64 0, .int .i64 0, .int .i64 0]), 8, 72) := by kernel_rfl
theorem Try.infoEg : (Try.prog.info? 44).map (fun i => (i.zero, i.size, i.bytes)) = some (some (.agg #[.int .i64 0, .int .i64 0, .nilIface, .bool false]), 4, 40) := by kernel_rfl
theorem Try.infoInt : (Try.prog.info? 3).map (fun i => (i.zero, i.size, i.bytes)) = some (some (.int .i64 0), 1, 8) := by kernel_rfl

structure FoM (w : World) (p : Nat) (v : Value) (m : List Mv) : Prop where
  blk : w.heap[p]? = some (.cells #[v] 65 (0, 0))
  on : w.ownsRow (p + 1) 87 8 v m.length (mbCells m)
  ifv : ∀ x, IfV (mA m x).up.w
  le : m.length ≤ 1048576
theorem FoM.lt {w : World} {p : Nat} {v : Value} {m : List Mv} (h : FoM w p v m) : p < w.heap.size := lt_of_block h.blk
theorem FoM.same {w w' : World} {p : Nat} {v : Value} {m : List Mv} (h : FoM w p v m) (h0 : w'.heap[p]? = w.heap[p]?) (hs : ∀ b, v.ownBlock = some b → w'.heap[b]? = w.heap[b]?) : FoM w' p v m := ⟨h0.trans h.blk, rw_same h.on hs, h.ifv, h.le⟩
theorem FoM.below {w w' : World} {p : Nat} {v : Value} {m : List Mv} (h : FoM w p v m) (hb : Below w.heap.size w w') : FoM w' p v m :=
  h.same (hb.block _ h.lt) (fun b hb' => hb.block b (rw_block h.on hb').2.1)
theorem FoM.c0 {w : World} {p : Nat} {v : Value} {m : List Mv} (h : FoM w p v m) : w.cell? ⟨p, 0, none⟩ = some v := by simp [World.cell?, h.blk]
theorem FoM.f0 {w : World} {p : Nat} {v : Value} {m : List Mv} (h : FoM w p v m) : w.frozen? ⟨p, 0, none⟩ = false := by simp [World.frozen?, h.blk]
/-- The list, where there are members. -/
theorem FoM.row {w : World} {p : Nat} {v : Value} {m : List Mv} (h : FoM w p v m) {x : Nat} (hx : x < m.length) : ∃ g cap, v = .slice (some ⟨g, 0, none⟩) m.length cap ∧ p + 1 ≤ g ∧ g < w.heap.size ∧ m.length ≤ cap ∧ cap ≤ maxLen := by
  obtain ⟨h1, h2⟩ := h.on
  rcases h2 with ⟨rfl, h0⟩ | ⟨g, cap, cur, rfl, hb, hg, hn, hm, hs, ht⟩
  · omega
  · exact ⟨g, cap, rfl, hb, lt_of_block hg, hn, hm⟩
theorem FoM.form {w : World} {p : Nat} {v : Value} {m : List Mv} (h : FoM w p v m) : ∃ ao cap, v = .slice ao m.length cap := rw_form h.on
/-- A member's cells. -/
structure MbAt (w : World) (g o : Nat) (x : Mv) : Prop where
  c0 : w.cell? ⟨g, o, none⟩ = some (.int .i64 x.rt)
  c1 : w.cell? ⟨g, o + 1, none⟩ = some (.int .i64 x.up.f)
  c2 : w.cell? ⟨g, o + 2, none⟩ = some (.int .i64 x.up.t)
  c3 : w.cell? ⟨g, o + 3, none⟩ = some x.up.w
  c4 : w.cell? ⟨g, o + 4, none⟩ = some (.bool x.up.b)
  c5 : w.cell? ⟨g, o + 5, none⟩ = some (.int .i64 x.nx)
  c6 : w.cell? ⟨g, o + 6, none⟩ = some (.int .i64 x.sz)
  c7 : w.cell? ⟨g, o + 7, none⟩ = some (.int .i64 x.ls)
theorem FoM.at_ {w : World} {p g cap : Nat} {m : List Mv} (h : FoM w p (.slice (some ⟨g, 0, none⟩) m.length cap) m) {x : Nat} (hx : x < m.length) : MbAt w g (x * 8) (mA m x) := by
  have key : ∀ k, k < 8 → w.cell? ⟨g, x * 8 + k, none⟩ = (mbC (mA m x))[k]? := fun k hk => by
    obtain ⟨u, h1, h2⟩ := rw_cell h.on (i := x * 8 + k) (by omega)
    rw [h1, ← h2, mbCells_at m x k hx hk]
  exact ⟨key 0 (by omega), key 1 (by omega), key 2 (by omega), key 3 (by omega), key 4 (by omega), key 5 (by omega), key 6 (by omega), key 7 (by omega)⟩
theorem FoM.fr {w : World} {p g cap : Nat} {m : List Mv} (h : FoM w p (.slice (some ⟨g, 0, none⟩) m.length cap) m) (i : Nat) : w.frozen? ⟨g, i, none⟩ = false := rw_fro h.on i
/-- One cell of a member set. -/
theorem FoM.put {w : World} {p g cap : Nat} {m : List Mv} (h : FoM w p (.slice (some ⟨g, 0, none⟩) m.length cap) m) (hg : p + 1 ≤ g) {x k : Nat} (hx : x < m.length) (hk : k < 8) (u : Value) (y : Mv) (hy : mbC y = (mbC (mA m x)).set k u) (hi : IfV y.up.w) :
    FoM (w.setCell ⟨g, x * 8 + k, none⟩ u) p (.slice (some ⟨g, 0, none⟩) (m.set x y).length cap) (m.set x y) := by
  refine ⟨(Deep.blk_setCell_other _ _ _ _ (by show p ≠ g; omega)).trans (by rw [List.length_set]; exact h.blk), ?_, fun z => ?_, by simpa using h.le⟩
  · rw [mbCells_set m x k u y hx hk hy]
    rw [List.length_set]
    exact rw_put h.on _ _
  · rw [mA_set _ _ _ hx]; split
    · exact hi
    · exact h.ifv z

/-- What a forest's calls turn: its block, the list that it had, and what is young. -/
structure KoF (p : Nat) (v : Value) (w w' : World) : Prop where
  ko : KeepsOthers w w'
  same : ∀ b, b < w.heap.size → b ≠ p → some b ≠ v.ownBlock → w'.heap[b]? = w.heap[b]?
theorem kof_ko {w w' : World} (hb : Below w.heap.size w w') : KeepsOthers w w' := ⟨hb.size, fun k o hk _ => (hb.block k (lt_of_block hk)).trans hk⟩
theorem KoF.below {p : Nat} {v : Value} {w w' : World} (hb : Below w.heap.size w w') : KoF p v w w' := ⟨kof_ko hb, fun b h _ _ => hb.block b h⟩
theorem KoF.trans {p : Nat} {v v' : Value} {w w' w'' : World} (h : KoF p v w w') (hv : ∀ b, v'.ownBlock = some b → v.ownBlock = some b ∨ w.heap.size ≤ b) (k : KoF p v' w' w'') : KoF p v w w'' :=
  ⟨h.ko.trans k.ko, fun b h1 h2 h3 => (k.same b (Nat.lt_of_lt_of_le h1 h.ko.size) h2 (fun e => by rcases hv b e.symm with h4 | h4; exact h3 h4.symm; omega)).trans (h.same b h1 h2 h3)⟩
theorem KoF.trans1 {p : Nat} {v : Value} {w w' w'' : World} (h : KoF p v w w') (k : KoF p v w' w'') : KoF p v w w'' := h.trans (fun b e => .inl e) k
theorem KoF.set {p o : Nat} {v u : Value} {w : World} : KoF p v w (w.setCell ⟨p, o, none⟩ u) := ⟨KeepsOthers.setCell _ _ _, fun b _ h2 _ => Deep.blk_setCell_other _ _ _ _ h2⟩
theorem KoF.setRow {p g o n c : Nat} {u : Value} {w : World} : KoF p (.slice (some ⟨g, 0, none⟩) n c) w (w.setCell ⟨g, o, none⟩ u) := ⟨KeepsOthers.setCell _ _ _, fun b _ _ h3 => Deep.blk_setCell_other _ _ _ _ (fun e => h3 (by rw [show b = g from e]; rfl))⟩
theorem KoF.grown {p : Nat} {v : Value} {w w' : World} {base : Nat} {e : TypeId} {size n : Nat} {xs : List Value} (ho : w.ownsRow base e size v n xs) (hg : w.grownBy w' v.ownBlock) : KoF p v w w' :=
  ⟨⟨hg.size, fun k o hk hc => by
    rw [hg.block k (lt_of_block hk) (fun e' => ?_)]
    · exact hk
    · rcases ho.2 with ⟨rfl, _⟩ | ⟨g, cap, cur, rfl, _, hb, _⟩
      · cases e'
      · have e2 : k = g := by simpa [Value.ownBlock] using e'
        subst e2
        rw [hb] at hk
        cases hk
        cases hc⟩, fun b h1 _ h3 => hg.block b h1 h3⟩
theorem KoF.refl (p : Nat) (v : Value) (w : World) : KoF p v w w := KoF.below (Below.refl _ _)
end Go.Proofs.Ytfnbkffphpidbaa
