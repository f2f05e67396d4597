/-
  The parser's state in memory.
-/
import Derived.Test.YtaennaoakopgfaaDoorMGPk
import Derived.Test.YtaennaoakopgfaaDoorMGPs
import Derived.Test.YtaennaoakopgfaaDoorMSwPure
set_option linter.unusedSimpArgs false
set_option linter.unusedVariables false
namespace Go.Proofs.YtaennaoakopgfaaDoor
open Go.RowKit Go.Lib

def psCs (s : ByteArray) (pat : Bool) (t : Tk) (v : Value) (brk : Nat) : Array Value := #[.string s, .bool pat, .int .i32 t.what, .int .i64 t.from_, .int .i64 t.to, .int .u64 t.n, .int .i64 t.err, v, .int .i64 brk]
/-- Block B is the parser in the state st; v holds its nodes. -/
structure PsM (w : World) (B : Nat) (s : ByteArray) (pat : Bool) (st : Ps) (v : Value) : Prop where
  blk : w.heap[B]? = some (.cells (psCs s pat st.now v st.brk) 104 (0, 0))
  own : OwnN w (B + 1) v st.nodes
theorem PsM.lt {w : World} {B : Nat} {s : ByteArray} {pat : Bool} {st : Ps} {v : Value} (h : PsM w B s pat st v) : B < w.heap.size := lt_of_block h.blk
theorem PsM.below {w w' : World} {B : Nat} {s : ByteArray} {pat : Bool} {st : Ps} {v : Value} (h : PsM w B s pat st v) (hb : Below w.heap.size w w') : PsM w' B s pat st v :=
  ⟨(hb.block _ h.lt).trans h.blk, h.own.below hb⟩
theorem PsM.cell {w : World} {B : Nat} {s : ByteArray} {pat : Bool} {st : Ps} {v : Value} (h : PsM w B s pat st v) (i : Nat) : w.cell? ⟨B, i, none⟩ = (psCs s pat st.now v st.brk)[i]? := by simp [World.cell?, h.blk]
theorem PsM.tx {w : World} {B : Nat} {s : ByteArray} {pat : Bool} {st : Ps} {v : Value} (h : PsM w B s pat st v) : TxAt w B s pat := ⟨h.cell 0, h.cell 1⟩
theorem PsM.frozen {w : World} {B : Nat} {s : ByteArray} {pat : Bool} {st : Ps} {v : Value} (h : PsM w B s pat st v) (i : Nat) : w.frozen? ⟨B, i, none⟩ = false := by simp [World.frozen?, h.blk]

theorem own_setB {w : World} {B o : Nat} {u v : Value} {l : List Nd} (h : OwnN w (B + 1) v l) : OwnN (w.setCell ⟨B, o, none⟩ u) (B + 1) v l := by
  have key : ∀ {e : TypeId} {s n : Nat} {v : Value} {xs : List Value}, w.ownsRow (B + 1) e s v n xs → (w.setCell ⟨B, o, none⟩ u).ownsRow (B + 1) e s v n xs := fun {e s n v xs} hr =>
    World.ownsRow.kept (row := some B) hr ⟨rfl, rfl, rfl, by simp [World.setCell], fun k _ hk => Below.heap_setCell _ _ _ _ (fun e => hk (by simp [e]))⟩ (by
      cases hv : v.ownBlock with
      | none => exact .inl rfl
      | some j => exact .inr (fun e => by have h1 := (own_block' hr j hv).1; have : j = B := by simpa using e
                                          omega))
  obtain ⟨p, h1, h2⟩ := h
  exact ⟨p, h1, key h2.row, fun q hq => key (h2.kids q hq)⟩

/-- The token set. -/
def setNow (w : World) (B : Nat) (t : Tk) : World := ((((w.setCell ⟨B, 2, none⟩ (.int .i32 t.what)).setCell ⟨B, 3, none⟩ (.int .i64 t.from_)).setCell ⟨B, 4, none⟩ (.int .i64 t.to)).setCell ⟨B, 5, none⟩ (.int .u64 t.n)).setCell ⟨B, 6, none⟩ (.int .i64 t.err)
theorem below_setNow {w0 w : World} {B : Nat} (h : Below B w0 w) (t : Tk) : Below B w0 (setNow w B t) :=
  ((((h.setCell (Nat.le_refl _) _).setCell (Nat.le_refl _) _).setCell (Nat.le_refl _) _).setCell (Nat.le_refl _) _).setCell (Nat.le_refl _) _
theorem PsM.tok {w : World} {B : Nat} {s : ByteArray} {pat : Bool} {st : Ps} {v : Value} (h : PsM w B s pat st v) (t : Tk) : PsM (setNow w B t) B s pat { st with now := t } v := by
  refine ⟨?_, own_setB (own_setB (own_setB (own_setB (own_setB h.own))))⟩
  have h0 := heap_setCell_same w B 2 _ _ (.int .i32 t.what) h.blk
  have h1 := heap_setCell_same _ B 3 _ _ (.int .i64 (t.from_ : Int)) h0
  have h2 := heap_setCell_same _ B 4 _ _ (.int .i64 (t.to : Int)) h1
  have h3 := heap_setCell_same _ B 5 _ _ (.int .u64 (t.n : Int)) h2
  have h4 := heap_setCell_same _ B 6 _ _ (.int .i64 t.err) h3
  exact h4
/-- The nodes set. -/
theorem PsM.nds {w w' : World} {B : Nat} {s : ByteArray} {pat : Bool} {st : Ps} {v v' : Value} {l : List Nd} (h : PsM w B s pat st v) (hb : w'.heap[B]? = w.heap[B]?) (hO : OwnN w' (B + 1) v' l) : PsM (w'.setCell ⟨B, 7, none⟩ v') B s pat { st with nodes := l } v' :=
  ⟨heap_setCell_same w' B 7 _ _ v' (hb.trans h.blk), own_setB hO⟩
/-- The brackets set. -/
theorem PsM.brks {w : World} {B : Nat} {s : ByteArray} {pat : Bool} {st : Ps} {v : Value} (h : PsM w B s pat st v) (k : Nat) : PsM (w.setCell ⟨B, 8, none⟩ (.int .i64 k)) B s pat { st with brk := k } v :=
  ⟨heap_setCell_same w B 8 _ _ (.int .i64 (k : Int)) h.blk, own_setB h.own⟩

/-- The tables lie below the parser, since the world w0. -/
structure PEnv (w0 : World) (B : Nat) (w : World) : Prop where
  tabs : Tabs w0
  le : w0.heap.size ≤ B
  bel : Below w0.heap.size w0 w
theorem PEnv.tab {w0 : World} {B : Nat} {w : World} (h : PEnv w0 B w) : Tabs w := h.tabs.below h.bel
theorem PEnv.next {w0 : World} {B : Nat} {w w' : World} (h : PEnv w0 B w) (hb : Below B w w') : PEnv w0 B w' := ⟨h.tabs, h.le, h.bel.trans (hb.mono h.le)⟩

theorem psSkip_step (s : ByteArray) (f p : Nat) (hp : p < s.size) : psSkip s (f + 1) p = if kd (Utf8.decode s p).1 = 3 then psSkip s f (p + (Utf8.decode s p).2) else p := by
  simp [psSkip, hp]
theorem psSkip_end (s : ByteArray) (f p : Nat) (hp : ¬ p < s.size) : psSkip s f p = p := by cases f <;> simp [psSkip, hp]
theorem Ends.mono {α : Type} {x : Pr α} {e : Ending} {Q Q' : α → Prop} (h : Ends x e Q) (hq : ∀ a, x = .ok a → Q a → Q' a) : Ends x e Q' := by
  cases x with
  | ok a => exact hq a rfl h
  | bad p er => exact h
  | out => trivial
theorem Ends.map {α β : Type} {x : Pr α} {e : Ending} {f : α → β} {Q : β → Prop} (h : Ends x e (fun a => Q (f a))) : Ends (x.bind fun a => .ok (f a)) e Q := by
  cases x with
  | ok a => exact h
  | bad p er => exact h
  | out => trivial

/-- All but block B stands, and what is new lies behind. -/
theorem gr_of_below {w w' : World} (h : RowKit.Below w.heap.size w w') (row : Option Nat) : w.grownBy w' row := ⟨h.os, h.tape, h.output, h.size, fun k hk _ => h.block k hk⟩
theorem gr_setB {w0 w : World} {B o : Nat} {u : Value} (h : w0.grownBy w (some B)) : w0.grownBy (w.setCell ⟨B, o, none⟩ u) (some B) :=
  ⟨h.os, h.tape, h.output, by simpa [World.setCell] using h.size, fun k hk hne => (Below.heap_setCell _ _ _ _ (fun e => hne (by rw [e]))).trans (h.block k hk hne)⟩
theorem gr_setNow {w0 w : World} {B : Nat} (h : w0.grownBy w (some B)) (t : Tk) : w0.grownBy (setNow w B t) (some B) := gr_setB (gr_setB (gr_setB (gr_setB (gr_setB h))))
theorem below_of_gr {w w' : World} {B : Nat} (h : w.grownBy w' (some B)) (hB : B ≤ w.heap.size) : RowKit.Below B w w' := ⟨h.os, h.tape, h.output, h.size, fun k hk => h.block k (by omega) (by intro e; cases e; omega)⟩
end Go.Proofs.YtaennaoakopgfaaDoor
