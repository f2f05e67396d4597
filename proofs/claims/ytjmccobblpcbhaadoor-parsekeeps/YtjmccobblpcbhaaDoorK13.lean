/-
  PkSt, RrW, QTail, RrSkW.
-/
import Derived.Shelf.Unicode.DecodeSlow
import Derived.Laws.RangeAny
import Derived.Shelf.Strings.Builder1
import Derived.Shelf.Small.Utf8
import Derived.Shelf.Small.Bits
import Derived.Shelf.Strings.BuilderF
import Derived.Shelf.Strings.BuilderK
import Derived.Shelf.Strings.BuilderRune
import Derived.Shelf.Utf8.AppendRune
import Derived.Shelf.Strconv.Itoa0
import Derived.Shelf.Strconv.Itoa1
import Derived.Shelf.LaysM
import Derived.Shelf.Strconv.Itoa2
import Derived.Shelf.Strconv.Itoa3
import Derived.Shelf.Strconv.Itoa4
import Derived.Shelf.Strings.Prefix
import Derived.Shelf.Unicode.DecodeAny
import Derived.Test.YtjmccobblpcbhaaDoorProg
import Derived.WalkKit
import Derived.Deep.DeepFit
import Derived.Lib.OthersKept
import Derived.Lib.RuneCountTail
import Derived.Lib.Small
import Derived.Lib.Strings
import Derived.Lib.MapLaws
import Derived.Deep.AppendLies
import Derived.Deep.OwnRows
import Derived.Laws.AppendOwnNone
import Derived.Deep.QuietTactic
import Derived.BigQuiet
import Derived.Deep.RegionWith
import Derived.Laws.DeepStrings4
import Derived.Deep.RegionHeld3
import Derived.Laws.ResultCell
import Derived.Lib.QuietBelow
import Derived.Deep.Heap
import Derived.Laws.Rows
import Derived.Below
import Derived.StillTail
import Derived.Test.YtjmccobblpcbhaaDoorK01
import Derived.Test.YtjmccobblpcbhaaDoorK02
import Derived.Test.YtjmccobblpcbhaaDoorK03
import Derived.Test.YtjmccobblpcbhaaDoorK04
import Derived.Test.YtjmccobblpcbhaaDoorK05
import Derived.Test.YtjmccobblpcbhaaDoorK06
import Derived.Test.YtjmccobblpcbhaaDoorK07
import Derived.Test.YtjmccobblpcbhaaDoorK08
import Derived.Test.YtjmccobblpcbhaaDoorK09
import Derived.Test.YtjmccobblpcbhaaDoorK10
import Derived.Test.YtjmccobblpcbhaaDoorK11
import Derived.Test.YtjmccobblpcbhaaDoorK12
set_option linter.unusedSimpArgs false
set_option linter.unusedVariables false
namespace Go.Proofs.YtjmccobblpcbhaaDoor
open Go.RowKit Go.Lib

def psCs (s : ByteArray) (pat : Bool) (t : Tk) (v : Value) (brk : Nat) : Array Value := #[.string s, .bool pat, .int .i32 t.what, .int .i64 t.from_, .int .i64 t.to, .int .u64 t.n, .int .i64 t.err, v, .int .i64 brk]
/-- Nodes that are owned, no two rows of kids one. -/
def OwnA (w : World) (base : Nat) (v : Value) (l : List Nd) : Prop := ∃ p : List (Nd × Value), p.map (·.1) = l ∧ OwnP w base v p ∧ KdAp p
theorem OwnA.n {w : World} {base : Nat} {v : Value} {l : List Nd} (h : OwnA w base v l) : OwnN w base v l := let ⟨p, h1, h2, _⟩ := h; ⟨p, h1, h2⟩
theorem OwnA.below {w w' : World} {base : Nat} {v : Value} {l : List Nd} (h : OwnA w base v l) (hb : Below w.heap.size w w') : OwnA w' base v l := let ⟨p, h1, h2, h3⟩ := h; ⟨p, h1, h2.below hb, h3⟩
theorem OwnA.mono {w : World} {base base' : Nat} {v : Value} {l : List Nd} (h : OwnA w base v l) (hb : base' ≤ base) : OwnA w base' v l := let ⟨p, h1, h2, h3⟩ := h; ⟨p, h1, ⟨ownsRow_mono h2.row hb, fun q hq => ownsRow_mono (h2.kids q hq) hb⟩, h3⟩
theorem OwnA_nil (w : World) (base : Nat) : OwnA w base (.slice none 0 0) [] := ⟨[], rfl, ⟨World.ownsRow_nil _ _ _ _, by simp⟩, List.Pairwise.nil⟩
/-- Block B is the parser in the state st; v holds its nodes. -/
structure PsM (w : World) (B : Nat) (s : ByteArray) (pat : Bool) (st : Ps) (v : Value) : Prop where
  blk : w.heap[B]? = some (.cells (psCs s pat st.now v st.brk) 121 (0, 0))
  own : OwnA w (B + 1) v st.nodes
theorem PsM.lt {w : World} {B : Nat} {s : ByteArray} {pat : Bool} {st : Ps} {v : Value} (h : PsM w B s pat st v) : B < w.heap.size := lt_of_block h.blk
theorem PsM.below {w w' : World} {B : Nat} {s : ByteArray} {pat : Bool} {st : Ps} {v : Value} (h : PsM w B s pat st v) (hb : Below w.heap.size w w') : PsM w' B s pat st v :=
  ⟨(hb.block _ h.lt).trans h.blk, h.own.below hb⟩
theorem PsM.cell {w : World} {B : Nat} {s : ByteArray} {pat : Bool} {st : Ps} {v : Value} (h : PsM w B s pat st v) (i : Nat) : w.cell? ⟨B, i, none⟩ = (psCs s pat st.now v st.brk)[i]? := by simp [World.cell?, h.blk]
theorem PsM.tx {w : World} {B : Nat} {s : ByteArray} {pat : Bool} {st : Ps} {v : Value} (h : PsM w B s pat st v) : TxAt w B s pat := ⟨h.cell 0, h.cell 1⟩
theorem PsM.frozen {w : World} {B : Nat} {s : ByteArray} {pat : Bool} {st : Ps} {v : Value} (h : PsM w B s pat st v) (i : Nat) : w.frozen? ⟨B, i, none⟩ = false := by simp [World.frozen?, h.blk]

theorem own_setB {w : World} {B o : Nat} {u v : Value} {l : List Nd} (h : OwnA w (B + 1) v l) : OwnA (w.setCell ⟨B, o, none⟩ u) (B + 1) v l := by
  have key : ∀ {e : TypeId} {s n : Nat} {v : Value} {xs : List Value}, w.ownsRow (B + 1) e s v n xs → (w.setCell ⟨B, o, none⟩ u).ownsRow (B + 1) e s v n xs := fun {e s n v xs} hr =>
    World.ownsRow.kept (row := some B) hr ⟨rfl, rfl, rfl, by simp [World.setCell], fun k _ hk => Below.heap_setCell _ _ _ _ (fun e => hk (by simp [e]))⟩ (by
      cases hv : v.ownBlock with
      | none => exact .inl rfl
      | some j => exact .inr (fun e => by have h1 := (own_block' hr j hv).1; have : j = B := by simpa using e
                                          omega))
  obtain ⟨p, h1, h2, h3⟩ := h
  exact ⟨p, h1, ⟨key h2.row, fun q hq => key (h2.kids q hq)⟩, h3⟩

/-- The token set. -/
def setNow (w : World) (B : Nat) (t : Tk) : World := ((((w.setCell ⟨B, 2, none⟩ (.int .i32 t.what)).setCell ⟨B, 3, none⟩ (.int .i64 t.from_)).setCell ⟨B, 4, none⟩ (.int .i64 t.to)).setCell ⟨B, 5, none⟩ (.int .u64 t.n)).setCell ⟨B, 6, none⟩ (.int .i64 t.err)
theorem PsM.tok {w : World} {B : Nat} {s : ByteArray} {pat : Bool} {st : Ps} {v : Value} (h : PsM w B s pat st v) (t : Tk) : PsM (setNow w B t) B s pat { st with now := t } v := by
  refine ⟨?_, own_setB (own_setB (own_setB (own_setB (own_setB h.own))))⟩
  have h0 := heap_setCell_same w B 2 _ _ (.int .i32 t.what) h.blk
  have h1 := heap_setCell_same _ B 3 _ _ (.int .i64 (t.from_ : Int)) h0
  have h2 := heap_setCell_same _ B 4 _ _ (.int .i64 (t.to : Int)) h1
  have h3 := heap_setCell_same _ B 5 _ _ (.int .u64 (t.n : Int)) h2
  have h4 := heap_setCell_same _ B 6 _ _ (.int .i64 t.err) h3
  exact h4
/-- The nodes set. -/
theorem PsM.nds {w w' : World} {B : Nat} {s : ByteArray} {pat : Bool} {st : Ps} {v v' : Value} {l : List Nd} (h : PsM w B s pat st v) (hb : w'.heap[B]? = w.heap[B]?) (hO : OwnA w' (B + 1) v' l) : PsM (w'.setCell ⟨B, 7, none⟩ v') B s pat { st with nodes := l } v' :=
  ⟨heap_setCell_same w' B 7 _ _ v' (hb.trans h.blk), own_setB hO⟩
/-- The brackets set. -/
theorem PsM.brks {w : World} {B : Nat} {s : ByteArray} {pat : Bool} {st : Ps} {v : Value} (h : PsM w B s pat st v) (k : Nat) : PsM (w.setCell ⟨B, 8, none⟩ (.int .i64 k)) B s pat { st with brk := k } v :=
  ⟨heap_setCell_same w B 8 _ _ (.int .i64 (k : Int)) h.blk, own_setB h.own⟩

/-- The tables lie below the parser, since the world w0. -/
structure PEnv (w0 : World) (B : Nat) (w : World) : Prop where
  tabs : Tabs w0
  le : w0.heap.size ≤ B
  bel : Below w0.heap.size w0 w
theorem PEnv.tab {w0 : World} {B : Nat} {w : World} (h : PEnv w0 B w) : Tabs w := h.tabs.below h.bel
theorem PEnv.next {w0 : World} {B : Nat} {w w' : World} (h : PEnv w0 B w) (hb : Below B w w') : PEnv w0 B w' := ⟨h.tabs, h.le, h.bel.trans (hb.mono h.le)⟩

theorem psSkip_step (s : ByteArray) (f p : Nat) (hp : p < s.size) : psSkip s (f + 1) p = if kd (Utf8.decode s p).1 = 3 then psSkip s f (p + (Utf8.decode s p).2) else p := by
  simp [psSkip, hp]
theorem psSkip_end (s : ByteArray) (f p : Nat) (hp : ¬ p < s.size) : psSkip s f p = p := by cases f <;> simp [psSkip, hp]
theorem Ends.mono {α : Type} {x : Pr α} {e : Ending} {Q Q' : α → Prop} (h : Ends x e Q) (hq : ∀ a, x = .ok a → Q a → Q' a) : Ends x e Q' := by
  cases x with
  | ok a => exact hq a rfl h
  | bad p er => exact h
  | out => trivial
theorem Ends.map {α β : Type} {x : Pr α} {e : Ending} {f : α → β} {Q : β → Prop} (h : Ends x e (fun a => Q (f a))) : Ends (x.bind fun a => .ok (f a)) e Q := by
  cases x with
  | ok a => exact h
  | bad p er => exact h
  | out => trivial

/-- All but block B stands, and what is new lies behind. -/
theorem gr_of_below {w w' : World} (h : RowKit.Below w.heap.size w w') (row : Option Nat) : w.grownBy w' row := ⟨h.os, h.tape, h.output, h.size, fun k hk _ => h.block k hk⟩
theorem gr_setB {w0 w : World} {B o : Nat} {u : Value} (h : w0.grownBy w (some B)) : w0.grownBy (w.setCell ⟨B, o, none⟩ u) (some B) :=
  ⟨h.os, h.tape, h.output, by simpa [World.setCell] using h.size, fun k hk hne => (Below.heap_setCell _ _ _ _ (fun e => hne (by rw [e]))).trans (h.block k hk hne)⟩
theorem gr_setNow {w0 w : World} {B : Nat} (h : w0.grownBy w (some B)) (t : Tk) : w0.grownBy (setNow w B t) (some B) := gr_setB (gr_setB (gr_setB (gr_setB (gr_setB h))))
theorem below_of_gr {w w' : World} {B : Nat} (h : w.grownBy w' (some B)) (hB : B ≤ w.heap.size) : RowKit.Below B w w' := ⟨h.os, h.tape, h.output, h.size, fun k hk => h.block k (by omega) (by intro e; cases e; omega)⟩
end Go.Proofs.YtjmccobblpcbhaaDoor

set_option linter.unusedSimpArgs false
set_option linter.unusedVariables false
namespace Go.Proofs.YtjmccobblpcbhaaDoor
open Go.RowKit Go.Lib Go.Sort

/-- Block R is a reader at the place a, o brackets open, with the fault e at ft. -/
structure RdM (w : World) (R : Nat) (s : ByteArray) (pat : Bool) (a o ft : Nat) (e : Int) : Prop where
  blk : w.heap[R]? = some (.cells #[.string s, .bool pat, .int .i64 (a : Int), .int .i64 (o : Int), .int .i64 (ft : Int), .int .i64 e] 134 (0, 0))
theorem RdM.lt {w : World} {R : Nat} {s : ByteArray} {pat : Bool} {a o ft : Nat} {e : Int} (h : RdM w R s pat a o ft e) : R < w.heap.size := lt_of_block h.blk
theorem RdM.below {w w' : World} {R : Nat} {s : ByteArray} {pat : Bool} {a o ft : Nat} {e : Int} (h : RdM w R s pat a o ft e) (hb : Below w.heap.size w w') : RdM w' R s pat a o ft e := ⟨(hb.block _ h.lt).trans h.blk⟩
theorem RdM.cells {w : World} {R : Nat} {s : ByteArray} {pat : Bool} {a o ft : Nat} {e : Int} (h : RdM w R s pat a o ft e) : w.cell? ⟨R, 0, none⟩ = some (.string s) ∧ w.cell? ⟨R, 1, none⟩ = some (.bool pat) ∧ w.cell? ⟨R, 2, none⟩ = some (.int .i64 (a : Int)) ∧ w.cell? ⟨R, 3, none⟩ = some (.int .i64 (o : Int)) ∧ w.cell? ⟨R, 4, none⟩ = some (.int .i64 (ft : Int)) ∧ w.cell? ⟨R, 5, none⟩ = some (.int .i64 e) := by simp [World.cell?, h.blk]
theorem RdM.frozen {w : World} {R : Nat} {s : ByteArray} {pat : Bool} {a o ft : Nat} {e : Int} (h : RdM w R s pat a o ft e) (i : Nat) : w.frozen? ⟨R, i, none⟩ = false := by simp [World.frozen?, h.blk]
theorem RdM.at_ {w : World} {R : Nat} {s : ByteArray} {pat : Bool} {a o ft : Nat} {e : Int} (h : RdM w R s pat a o ft e) (b : Nat) : RdM (w.setCell ⟨R, 2, none⟩ (.int .i64 (b : Int))) R s pat b o ft e := ⟨by simpa using heap_setCell_same w R 2 _ _ (.int .i64 (b : Int)) h.blk⟩
theorem RdM.open_ {w : World} {R : Nat} {s : ByteArray} {pat : Bool} {a o ft : Nat} {e : Int} (h : RdM w R s pat a o ft e) (b : Nat) : RdM (w.setCell ⟨R, 3, none⟩ (.int .i64 (b : Int))) R s pat a b ft e := ⟨by simpa using heap_setCell_same w R 3 _ _ (.int .i64 (b : Int)) h.blk⟩
theorem RdM.err {w : World} {R : Nat} {s : ByteArray} {pat : Bool} {a o ft : Nat} {e : Int} (h : RdM w R s pat a o ft e) (p : Nat) (er : Int) : RdM ((w.setCell ⟨R, 4, none⟩ (.int .i64 (p : Int))).setCell ⟨R, 5, none⟩ (.int .i64 er)) R s pat a o p er := by
  have h1 : RdM (w.setCell ⟨R, 4, none⟩ (.int .i64 (p : Int))) R s pat a o p e := ⟨by simpa using heap_setCell_same w R 4 _ _ (.int .i64 (p : Int)) h.blk⟩
  exact ⟨by simpa using heap_setCell_same _ R 5 _ _ (.int .i64 er) h1.blk⟩

set_option maxHeartbeats 1000000 in
theorem rfail_any (w : World) (R : Nat) (s : ByteArray) (pat : Bool) (a o ft : Nat) (e : Int) (hM : RdM w R s pat a o ft e) (p : Nat) (er : Int) :
    Calls Tryd.prog 100 #[.pointer (some ⟨R, 0, none⟩), .int .i64 (p : Int), .int .i64 er] w fun x w' => x = .returned (.slice none 0 0) ∧ RdM w' R s pat a o (if e = 0 then p else ft) (if e = 0 then er else e) ∧ w.grownBy w' (some R) := by
  obtain ⟨c0, c1, c2, c3, c4, c5⟩ := hM.cells
  have fz := hM.frozen
  have hl := hM.lt
  have HE : Hid (RdM ((w.setCell ⟨R, 4, none⟩ (.int .i64 (p : Int))).setCell ⟨R, 5, none⟩ (.int .i64 er)) R s pat a o p er) := hM.err p er
  have HM : Hid (RdM w R s pat a o ft e) := hM
  have HG : Hid (w.grownBy ((w.setCell ⟨R, 4, none⟩ (.int .i64 (p : Int))).setCell ⟨R, 5, none⟩ (.int .i64 er)) (some R)) := gr_setB (gr_setB (World.grownBy.refl _ _))
  clear hM
  by_cases h0 : e = 0
  · rw [if_pos h0, if_pos h0]
    have g0 : (e == 0) = true := by simp [h0]
    clear h0
    go_enter Tryd.func100, Tryd.ntmps100
    go_wp2_with fail
    go_ret
    exact ⟨rfl, HE.out, HG.out⟩
  · rw [if_neg h0, if_neg h0]
    have g0 : (e == 0) = false := by simp [h0]
    clear h0
    go_enter Tryd.func100, Tryd.ntmps100
    go_wp2_with fail
    go_ret
    exact ⟨rfl, HM.out, World.grownBy.refl _ _⟩
end Go.Proofs.YtjmccobblpcbhaaDoor

namespace Go.Proofs.YtjmccobblpcbhaaDoor
open Go Go.Sort Go.RowKit

section
variable {P : Program} {ops : Array Oper} {md : Region.Mode} {C : World → Prop}

/-- f operations of the first n are still to come, each quiet in the class; behind them L. -/
def QHead (P : Program) (md : Region.Mode) (ops : Array Oper) (C : World → Prop) (n : Nat) (L : Array Bool → Act → Prop) : Nat → Array Bool → Act → Prop
  | 0, ls, a => L ls a
  | f + 1, ls, a => Region.ready md ops ls ≠ [] ∧ ∀ i ∈ Region.ready md ops ls, i < n ∧ qOp P ops C i (QHead P md ops C n L f (ls.setIfInBounds i true)) a

theorem QHead.any {n g : Nat} {L : Array Bool → Act → Prop} {Q : Exit → Act → World → Prop} (hL : ∀ ls a w, C w → L ls a → wpAny P md ops Q g ls a w) : ∀ (f : Nat) (ls : Array Bool) (a : Act) (w : World), C w → QHead P md ops C n L f ls a → wpAny P md ops Q (f + g) ls a w := by
  intro f
  induction f with
  | zero => intro ls a w hw h; rw [Nat.zero_add]; exact hL _ _ _ hw h
  | succ f ih =>
    intro ls a w hw h
    have e : f + 1 + g = (f + g) + 1 := by omega
    rw [e]
    exact ⟨fun h0 => absurd h0 h.1, fun i hi => wpOp_of_qOp hw (fun a' w' hw' h' => ih _ a' w' hw' h') (h.2 i hi).2⟩

/-- One that is ready, and apart from all that don't wait for it, may come first. -/
theorem QHead.first {n i : Nat} {oi : Oper} {v : Value} {L : Array Bool → Act → Prop} (hi : ops[i]? = some oi) (hsel : ∀ (j : Nat) (o : Oper) cs b, ops[j]? = some o → o.op ≠ .select cs b)
    (hs : Region.sinkB md ops n = true) (hc : Region.chainB md ops n = true) (hn : n < ops.size) (hin : i < n) (hdone : ∀ ls a, L ls a → ∀ j ∈ Region.ready md ops ls, n ≤ j) :
    ∀ (f : Nat) (ls : Array Bool) (a : Act), HeadInv md ops n ls →
      (∀ j oj, ops[j]? = some oj → j ≠ i → ls.getD j true = false → (∀ e ∈ oj.after, Region.binds md e = true → e.on ≠ i) → oi.apart ops oj = true) →
      i ∈ Region.ready md ops ls → YieldsIn P ops C oi v a → QHead P md ops C n L f (ls.setIfInBounds i true) (a.put oi.dst v) → QHead P md ops C n L (f + 1) ls a := by
  intro f
  induction f with
  | zero =>
    intro ls a inv _ hr hy H
    have hun := (mem_ready.1 hr).1
    constructor
    · intro h; rw [h] at hr; cases hr
    · intro j hj
      have hjn : j < n := Nat.lt_of_not_le fun h => tail_waits hs hc hn inv _ i rfl hin hun j h hj
      refine ⟨hjn, ?_⟩
      by_cases hji : j = i
      · subst hji; exact hy.qOp hi H
      · have := hdone _ _ H j (ready_mono hj hji); omega
  | succ f ih =>
    intro ls a inv hfree hr hy H
    have hun := (mem_ready.1 hr).1
    constructor
    · intro h; rw [h] at hr; cases hr
    · intro j hj
      have hjn : j < n := Nat.lt_of_not_le fun h => tail_waits hs hc hn inv _ i rfl hin hun j h hj
      refine ⟨hjn, ?_⟩
      by_cases hji : j = i
      · subst hji; exact hy.qOp hi H
      · obtain ⟨hjun, oj, hoj, hall⟩ := mem_ready.1 hj
        have hnot : ∀ e ∈ oj.after, Region.binds md e = true → e.on ≠ i := fun e he hb heq => by
          have h1 := hall e he hb
          rw [heq, getD_both hun] at h1
          cases h1
        have h2 := qOp_put hoj (hfree j oj hoj hji hjun hnot) (fun cs b => hsel i oi cs b hi) (fun cs b => hsel j oj cs b hoj) hy (H.2 j (ready_mono hj hji)).2
        have hfree' : ∀ k ok, ops[k]? = some ok → k ≠ i → (ls.setIfInBounds j true).getD k true = false → (∀ e ∈ ok.after, Region.binds md e = true → e.on ≠ i) → oi.apart ops ok = true := fun k ok hk hki hu hno => by
          refine hfree k ok hk hki ?_ hno
          by_cases hjk : j = k
          · subst hjk; exact hjun
          · rw [getD_set_ne true hjk] at hu; exact hu
        refine qOp_mono (fun a' h3 => ih (ls.setIfInBounds j true) a' (inv.set hj hjn) hfree' (ready_mono hr (Ne.symm hji)) h3.1 ?_) h2
        rw [Array.setIfInBounds_comm _ _ hji]
        exact h3.2

theorem QHead.lex {n g : Nat} {K : Act → Prop} (hsel : Region.noSelect ops = true) (hs : Region.sinkB md ops n = true) (hc : Region.chainB md ops n = true) (hn : n < ops.size) :
    ∀ (l : List Oper) (k : Nat) (ls : Array Bool) (a : Act), (∀ j, j < l.length → l[j]? = ops[k + j]?) → k + l.length = n → HeadInv md ops n ls → Region.lexHead md ops g l.length k ls = true → wpQuiet P ops C K l a →
      QHead P md ops C n (fun ls' a' => Region.seqB md ops g n ls' = true ∧ K a') l.length ls a := by
  intro l
  induction l with
  | nil =>
    intro k ls a _ hk _ hB h
    have : k = n := by simpa using hk
    subst this
    exact ⟨by simpa [Region.lexHead] using hB, h⟩
  | cons o l ih =>
    intro k ls a hl hk inv hB h
    have h0 : ops[k]? = some o := by simpa using (hl 0 (by simp)).symm
    simp only [List.length_cons, Region.lexHead, Bool.and_eq_true] at hB
    have hkn : k < n := by simp only [List.length_cons] at hk; omega
    have hr : k ∈ Region.ready md ops ls := by simpa using hB.1.1
    have hq : qOp P ops C k (wpQuiet P ops C K l) a := by unfold qOp; simp only [h0]; exact h
    obtain ⟨v, hy, hK⟩ := yieldsIn_of_qOp h0 hq
    refine QHead.first h0 (Region.noSelect_spec hsel) hs hc hn hkn (fun ls' a' hL => seqB_ready hL.1) l.length ls a inv (Region.free_spec h0 hB.1.2) hr hy ?_
    refine ih (k + 1) _ _ (fun j hj => ?_) (by simp only [List.length_cons] at hk; omega) (inv.set hr hkn) hB.2 hK
    have := hl (j + 1) (by simp; omega)
    simpa [Nat.add_assoc, Nat.add_comm 1 j] using this
end

/-- THE LAW, at the class 'w with new memory laid behind it'. -/
theorem wp_region_quiet_then {P : Program} {id : Nat} {Q : Exit → Act → World → Prop} {a : Act} {w : World} {l : List Oper} (n : Nat) (hm : P.follows .mixedOrders = true) (hB : Region.lexTailB .any l.toArray n = true)
    (h : wpQuiet P l.toArray (fun w' => ∃ p : Regrown, w' = grow (redrawn w p.d) p.os) (fun a' => ∀ w', (∃ p : Regrown, w' = grow (redrawn w p.d) p.os) → wpList P l.toArray Q (l.drop n) a' w') (l.take n) a) : (Code.region id l.toArray true).wp P Q a w := by
  simp only [Region.lexTailB, Bool.and_eq_true, decide_eq_true_eq] at hB
  obtain ⟨⟨⟨⟨hsel, hn⟩, hs⟩, hc⟩, hlex⟩ := hB
  have hn' : n < l.length := by simpa using hn
  have htl : (l.take n).length = n := by simp; omega
  have hdl : (l.drop n).length = l.toArray.size - n := by simp
  have inv0 : HeadInv .any l.toArray n (Array.replicate l.toArray.size false) :=
    ⟨by simp, fun j oj _ hl => (by rw [getD_replicate_false] at hl; cases hl), fun t _ ht => getD_in (by simpa using ht) (getD_replicate_false _ _)⟩
  have H := QHead.lex (P := P) (md := .any) (g := l.toArray.size - n) hsel hs hc hn (l.take n) 0 _ a (fun j hj => by
    have hj' : j < n := by rw [htl] at hj; exact hj
    simp [hj']) (by simpa using htl) inv0 (by rw [htl]; exact hlex) h
  refine wp_region_any hm ?_
  have := QHead.any (Q := Q) (g := l.toArray.size - n) (fun ls a' w' hw' hL => by
    have := wpAny_of_seq (md := .any) (Q' := Q) (l.drop n) n ls a' w' (fun j => by simp [List.getElem?_drop]) (by rw [hdl]; exact hL.1) (hL.2 w' hw')
    rwa [hdl] at this) _ _ _ { w with drawn := w.drawn + 1 } ⟨⟨w.drawn + 1, #[]⟩, by rw [grow_empty]; rfl⟩ H
  rw [htl, show n + (l.toArray.size - n) = l.toArray.size by omega] at this
  exact this
end Go.Proofs.YtjmccobblpcbhaaDoor

set_option linter.unusedSimpArgs false
set_option linter.unusedVariables false
namespace Go.Proofs.YtjmccobblpcbhaaDoor
open Go.RowKit Go.Lib Go.Sort

def atW (R : Nat) (w : World) : Nat := match w.cell? ⟨R, 2, none⟩ with
  | some (.int .i64 z) => z.toNat
  | _ => 0
theorem RdM.atW {w : World} {R : Nat} {s : ByteArray} {pat : Bool} {a o ft : Nat} {e : Int} (h : RdM w R s pat a o ft e) : atW R w = a := by
  unfold Go.Proofs.YtjmccobblpcbhaaDoor.atW
  rw [h.cells.2.2.1]; simp
theorem good_of_kd {s : ByteArray} {p : Nat} (h : kd (Utf8.decode s p).1 = 3) : wd s p = (Utf8.decode s p).2 := by
  unfold wd
  cases hb : bad s p
  · rfl
  · rw [bad_eq hb] at h
    exact absurd h (by decide)
theorem gr_trans_below {w w1 w2 : World} {R : Nat} (h : w.grownBy w1 (some R)) (hb : Below w1.heap.size w1 w2) : w.grownBy w2 (some R) := h.trans (gr_of_below hb _)

set_option maxHeartbeats 2000000 in
theorem rskip_any (w : World) (R : Nat) (s : ByteArray) (pat : Bool) (a o ft : Nat) (e : Int) (hM : RdM w R s pat a o ft e) (hs : s.size ≤ 4096) (ha : a ≤ s.size) :
    Calls Tryd.prog 97 #[.pointer (some ⟨R, 0, none⟩)] w fun x w' => x = .returned (.tuple #[]) ∧ RdM w' R s pat (skp s a) o ft e ∧ w.grownBy w' (some R) := by
  have hs0 : s.size ≤ maxLen := by unfold maxLen; omega
  obtain ⟨T, hT⟩ : ∃ T, skp s a = T := ⟨_, rfl⟩
  have HT : Hid (psSkip s s.size a = T) := hT
  rw [hT]
  have HM : Hid (RdM w R s pat a o ft e) := hM
  clear hT hM
  go_enter Tryd.func97, Tryd.ntmps97
  go_wp2_with fail
  go_loopw [] (fun wr => ∃ b f : Nat, RdM wr R s pat b o ft e ∧ Hid (psSkip s f b = T) ∧ s.size ≤ b + f ∧ b ≤ s.size ∧ w.grownBy wr (some R)) (fun wr => s.size - atW R wr)
  case atStart => exact ⟨a, s.size, HM.out, HT.out, by omega, ha, World.grownBy.refl _ _⟩
  case round =>
    obtain ⟨b, f, hr, HN, hf, hb, hg⟩ := hrel
    have hat := hr.atW
    obtain ⟨c0, c1, c2, c3, c4, c5⟩ := hr.cells
    have hl := hr.lt
    have g0 := cell_regrown c0
    have g2 := cell_regrown c2
    have HR : Hid (RdM wr R s pat b o ft e) := hr
    have HG : Hid (w.grownBy wr (some R)) := hg
    clear hr hg
    by_cases hp : b < s.size
    · obtain ⟨f, rfl⟩ : ∃ g, f = g + 1 := ⟨f - 1, by omega⟩
      have hw := width_pos s b hp
      have hw2 := dec_le s b hp
      have hR : Hid (∀ d os, Calls Tryd.prog 58 #[.string s, .int .i64 (b : Int)] (grow (redrawn wr d) os) fun e w'' => e = .returned (.int .i32 (rn s b)) ∧ ∃ p : Regrown, w'' = grow (redrawn wr p.d) p.os) := fun d os => Calls.regrown_of (refRune_any s b _ hs0 hb)
      have hK : Hid (∀ d os, Calls Tryd.prog 57 #[.int .i32 (rn s b)] (grow (redrawn wr d) os) fun e w'' => e = .returned (.int .i64 (kd (Utf8.decode s b).1)) ∧ ∃ p : Regrown, w'' = grow (redrawn wr p.d) p.os) := fun d os => Calls.regrown_of (by rw [← kd_rn s b hp]; exact refKind_kd _ _)
      have hst := psSkip_step s f b hp
      have gb : (b : Int) < (s.size : Int) := by omega
      by_cases hk : kd (Utf8.decode s b).1 = 3
      · have HX : Hid (psSkip s f (b + (Utf8.decode s b).2) = T) := by show _ = T; rw [← HN.out, hst, if_pos hk]
        have c7 : Hid (∀ W, Calls Tryd.prog 54 #[.string s, .int .i64 b] W fun e w' => e = .returned (.int .i64 ((Utf8.decode s b).2 : Nat)) ∧ Below W.heap.size W w') := fun W => by
          rw [← good_of_kd hk]; exact refWidth_in s b W hp hs0
        rw [hk] at hK
        generalize rn s b = rr at *
        generalize (Utf8.decode s b).2 = v at *
        clear hk hst HN
        have hv4 : (b : Int) + v ≤ 4096 := by omega
        go_wp2_with fail
        refine wp_region_quiet_below (by kernel_rfl) (by kernel_rfl) ?_
        iterate 23 (go_big_quiet_step ((first | (go_at_call 58; exact hR.out _ _) | (go_at_call 57; exact hK.out _ _))))
        refine wpQuiet_nil ?_
        intro _ hw'
        obtain ⟨⟨ds, oss⟩, hw''⟩ := hw'
        subst hw''
        have b4 := below_regrown wr ds oss
        have HR6 : RdM (grow (redrawn wr ds) oss) R s pat b o ft e := HR.out.below b4
        have G6 : Hid (w.grownBy (grow (redrawn wr ds) oss) (some R)) := gr_trans_below HG.out b4
        generalize grow (redrawn wr ds) oss = w6 at *
        obtain ⟨d0, d1, d2, d3, d4, d5⟩ := HR6.cells
        have hl6 := HR6.lt
        have H6 : Hid (RdM w6 R s pat b o ft e) := HR6
        clear HR6 b4 HR HG hR hK g0 g2 c0 c1 c2 c3 c4 c5
        have g0 := cell_regrown d0
        have g2 := cell_regrown d2
        have hW : Hid (∀ d os, Calls Tryd.prog 54 #[.string s, .int .i64 (b : Int)] (grow (redrawn w6 d) os) fun e w'' => e = .returned (.int .i64 (v : Int)) ∧ ∃ p : Regrown, w'' = grow (redrawn w6 p.d) p.os) := fun d os => Calls.regrown_of (c7.out _)
        go_wp2_with fail
        refine wp_region_quiet_then 15 (by kernel_rfl) (by kernel_rfl) ?_
        simp only [List.take_succ_cons, List.take_zero]
        iterate 15 (go_big_quiet_step ((go_at_call 54; exact hW.out _ _)))
        refine wpQuiet_nil ?_
        intro w' hw'
        obtain ⟨⟨dq, osq⟩, hw''⟩ := hw'
        subst hw''
        simp only [List.drop_succ_cons, List.drop_zero]
        have b5 := below_regrown w6 dq osq
        have HR7 : RdM (grow (redrawn w6 dq) osq) R s pat b o ft e := H6.out.below b5
        have G7 : Hid (w.grownBy (grow (redrawn w6 dq) osq) (some R)) := gr_trans_below G6.out b5
        generalize grow (redrawn w6 dq) osq = w7 at *
        have k2 := HR7.cells.2.2.1
        have kf := HR7.frozen 2
        have HR8 : Hid (RdM (w7.setCell ⟨R, 2, none⟩ (.int .i64 ((b + v : Nat) : Int))) R s pat (b + v) o ft e) := HR7.at_ (b + v)
        have G8 : Hid (w.grownBy (w7.setCell ⟨R, 2, none⟩ (.int .i64 ((b + v : Nat) : Int))) (some R)) := gr_setB G7.out
        have ebv : ((b + v : Nat) : Int) = (b : Int) + v := by omega
        rw [ebv] at HR8 G8
        clear HR7 b5 g0 g2 d0 d1 d2 d3 d4 d5 H6 G6 hW G7
        go_wp2_with fail
        refine ⟨⟨b + v, f, HR8.out, HX.out, by omega, by omega, G8.out⟩, ?_⟩
        rw [HR8.out.atW, hat]
        omega
      · have HX : Hid (b = T) := by show b = T; rw [← HN.out, hst, if_neg hk]
        have gk : (kd (Utf8.decode s b).1 == 3) = false := by simp [hk]
        generalize kd (Utf8.decode s b).1 = kk at *
        generalize rn s b = rr at *
        clear hk hst HN
        go_wp2_with fail
        refine wp_region_quiet_below (by kernel_rfl) (by kernel_rfl) ?_
        iterate 23 (go_big_quiet_step ((first | (go_at_call 58; exact hR.out _ _) | (go_at_call 57; exact hK.out _ _))))
        refine wpQuiet_nil ?_
        intro _ hw'
        obtain ⟨⟨ds, oss⟩, hw''⟩ := hw'
        subst hw''
        have b4 := below_regrown wr ds oss
        have HR6 : Hid (RdM (grow (redrawn wr ds) oss) R s pat b o ft e) := HR.out.below b4
        have G6 : Hid (w.grownBy (grow (redrawn wr ds) oss) (some R)) := gr_trans_below HG.out b4
        generalize grow (redrawn wr ds) oss = w6 at *
        clear b4 HR HG hR hK g0 g2 c0 c1 c2 c3 c4 c5
        go_wp2_with fail
        go_end0
        rw [← HX.out]
        exact ⟨rfl, HR6.out, G6.out⟩
    · have hbe : b = s.size := by omega
      have HX : Hid (b = T) := by show b = T; rw [← HN.out, psSkip_end s f b hp]
      have gb : ¬ (b : Int) < (s.size : Int) := by omega
      clear HN hbe
      go_wp2_with fail
      refine wp_region_quiet_below (by kernel_rfl) (by kernel_rfl) ?_
      iterate 23 (go_big_quiet_step (fail))
      refine wpQuiet_nil ?_
      intro _ hw'
      obtain ⟨⟨ds, oss⟩, hw''⟩ := hw'
      subst hw''
      have b4 := below_regrown wr ds oss
      have HR6 : Hid (RdM (grow (redrawn wr ds) oss) R s pat b o ft e) := HR.out.below b4
      have G6 : Hid (w.grownBy (grow (redrawn wr ds) oss) (some R)) := gr_trans_below HG.out b4
      generalize grow (redrawn wr ds) oss = w6 at *
      clear b4 HR HG g0 g2 c0 c1 c2 c3 c4 c5
      go_wp2_with fail
      go_end0
      rw [← HX.out]
      exact ⟨rfl, HR6.out, G6.out⟩
end Go.Proofs.YtjmccobblpcbhaaDoor
