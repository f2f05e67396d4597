/-
  PkNxW, PkSt, PkNuW, PkExW.
-/
import Derived.Shelf.Unicode.DecodeSlow
import Derived.Laws.RangeAny
import Derived.Shelf.Strings.Builder1
import Derived.Shelf.Small.Utf8
import Derived.Shelf.Small.Bits
import Derived.Shelf.Strings.BuilderF
import Derived.Shelf.Strings.BuilderK
import Derived.Shelf.Strings.BuilderRune
import Derived.Shelf.Utf8.AppendRune
import Derived.Shelf.Strconv.Itoa0
import Derived.Shelf.Strconv.Itoa1
import Derived.Shelf.LaysM
import Derived.Shelf.Strconv.Itoa2
import Derived.Shelf.Strconv.Itoa3
import Derived.Shelf.Strconv.Itoa4
import Derived.Shelf.Strings.Prefix
import Derived.Shelf.Unicode.DecodeAny
import Derived.Shelf.Slices.CompactS
import Derived.Ground.SlsfProg
import Derived.Shelf.SlSortCmp.Insertion
import Derived.Shelf.SlSortCmp.SiftDown1
import Derived.Shelf.SlSortCmp.HeapSort1
import Derived.Shelf.SlSortCmp.Insertion1
import Derived.Shelf.SlSortCmp.Median1
import Derived.Shelf.SlSortCmp.Pivot1
import Derived.Shelf.SlSortCmp.ReverseRange1
import Derived.Shelf.SlSortCmp.PartialInsertion1
import Derived.Shelf.SlSortCmp.PartitionEqual1
import Derived.Shelf.SlSortCmp.Partition1
import Derived.Shelf.SlSortCmp.Pdq1
import Derived.Shelf.SlSortCmp.Whole1
import Derived.Test.YtdcfffcimikfeaaDoorProg
import Derived.WalkKit
import Derived.Deep.DeepFit
import Derived.Lib.OthersKept
import Derived.Lib.RuneCountTail
import Derived.Laws.DeepStrings4
import Derived.Deep.AppendLies
import Derived.Deep.OwnRows
import Derived.Laws.AppendOwnNone
import Derived.Deep.QuietTactic
import Derived.BigQuiet
import Derived.Deep.RegionWith
import Derived.Lib.QuietBelow
import Derived.StillTail
import Derived.Lib.Small
import Derived.Lib.Strings
import Derived.Lib.MapLaws
import Derived.Deep.RegionHeld3
import Derived.Laws.ResultCell
import Derived.Deep.Heap
import Derived.Laws.Rows
import Derived.Test.YtdcfffcimikfeaaDoorY01
import Derived.Test.YtdcfffcimikfeaaDoorY02
import Derived.Test.YtdcfffcimikfeaaDoorY03
import Derived.Test.YtdcfffcimikfeaaDoorY04
import Derived.Test.YtdcfffcimikfeaaDoorY05
import Derived.Test.YtdcfffcimikfeaaDoorY06
import Derived.Test.YtdcfffcimikfeaaDoorY07
import Derived.Test.YtdcfffcimikfeaaDoorY08
import Derived.Test.YtdcfffcimikfeaaDoorY09
import Derived.Test.YtdcfffcimikfeaaDoorY13
import Derived.Test.YtdcfffcimikfeaaDoorY15
import Derived.Test.YtdcfffcimikfeaaDoorY16
import Derived.Test.YtdcfffcimikfeaaDoorY17
import Derived.Test.YtdcfffcimikfeaaDoorY18
set_option linter.unusedSimpArgs false
set_option linter.unusedVariables false
namespace Go.Proofs.YtdcfffcimikfeaaDoor
open Go.RowKit Go.Lib
open Go.Sort (grow)

def SgP (p : Nat) (x : Int × Int) (e : Ending) : Prop := (0 < x.2 ∧ e = .returned (tkV ⟨x.1, p, p + x.2.toNat, 0, 0⟩)) ∨ (¬ 0 < x.2 ∧ e = .panicked [{ v := fltV p 5, recovered := false }])

set_option maxHeartbeats 2000000 in
theorem at_sign (w : World) (B : Nat) (s : ByteArray) (pat : Bool) (most p : Nat) (r : Int) (hT : Tabs w) (hX : TxAt w B s pat) (hp : p < s.size) (hs : s.size ≤ 4096) (hk : kd r = 4) (hz : (psSign s pat p r).2 ≤ (s.size : Int) - p) :
    Calls Tryd.prog 148 #[.pointer (some ⟨B, 0, none⟩), .int .i64 p, .int .i32 r, .int .u64 most] w fun e w' => SgP p (psSign s pat p r) e ∧ Below w.heap.size w w' := by
  have hBl := hX.lt
  have hBn : B ≠ w.heap.size := by omega
  have hpn : ∀ (x : Value) (w : World), (Instr.panic (.iface 111 x)).run Tryd.prog w = .halt (.panic (.iface 111 x)) w := fun _ _ => rfl
  obtain ⟨W0, hW0⟩ : ∃ W0, w.alloc (.cells #[.int .i32 0, .int .i64 0, .int .i64 0, .int .u64 0, .int .i64 0] 114) = W0 := ⟨_, rfl⟩
  have b0 : Below w.heap.size w W0 := by rw [← hW0]; exact (Below.refl _ _).alloc (Nat.le_refl _) _
  have R0 : Tk5 W0 w.heap.size (.int .i32 0) (.int .i64 0) (.int .i64 0) (.int .u64 0) (.int .i64 0) := ⟨by rw [← hW0, Deep.blk_alloc_new]⟩
  have T0 := hT.below b0
  have X0 := hX.below b0
  have HW0 : Hid (w.alloc (.cells #[.int .i32 0, .int .i64 0, .int .i64 0, .int .u64 0, .int .i64 0] 114) = W0) := hW0
  have cK := kind_any r W0 T0.spans
  rw [hk] at cK
  have HK : Hid (Calls Tryd.prog 140 #[.int .i32 r] W0 fun e w' => e = .returned (.int .i64 4) ∧ Below W0.heap.size W0 w') := cK
  have CS : Hid (∀ W, TxAt W B s pat → Calls Tryd.prog 159 #[.pointer (some ⟨B, 0, none⟩), .int .i64 p, .int .i32 r] W fun e w' => e = .returned (.tuple #[.int .i32 (psSign s pat p r).1, .int .i64 (psSign s pat p r).2]) ∧ w' = W) := fun W hW => signAt_any W B s pat p r hW (by omega) (by unfold maxLen; omega)
  generalize psSign s pat p r = x at *
  obtain ⟨c, z⟩ := x
  simp only at CS hz
  clear hW0 cK hk hX hT
  by_cases hz0 : 0 < z
  · obtain ⟨z, rfl⟩ : ∃ n : Nat, z = (n : Int) := ⟨z.toNat, by omega⟩
    go_enter Tryd.func148, Tryd.ntmps148
    go_wp2_with fail
    rw [HW0.out]
    refine HK.out.mono ?_
    rintro e w1 ⟨rfl, b1⟩
    have R1 := R0.below b1
    have X1 := X0.below b1
    have bb1 : Below w.heap.size w w1 := b0.trans (b1.mono b0.size)
    obtain ⟨q0, q1, q2, q3, q4⟩ := R1.cells
    have qf := R1.frozen
    have HE : Hid (Tk5 (set5 w1 w.heap.size (.int .i32 c) (.int .i64 p) (.int .i64 ((p : Int) + z)) (.int .u64 0) (.int .i64 0)) w.heap.size (.int .i32 c) (.int .i64 p) (.int .i64 ((p : Int) + z)) (.int .u64 0) (.int .i64 0)) := five_set R1 _ _ _ _ _
    have HB : Hid (Below w.heap.size w (set5 w1 w.heap.size (.int .i32 c) (.int .i64 p) (.int .i64 ((p : Int) + z)) (.int .u64 0) (.int .i64 0))) := below_set5 bb1 _ _ _ _ _
    clear R0 T0 X0 b0 b1 R1 HK
    go_wp2_with (go_at_call 159; refine (CS.out _ X1).mono ?_; rintro e w2 ⟨rfl, rfl⟩)
    refine bodyPost_ret (at_ret HE.out (by rfl)) rfl ⟨.inl ⟨hz0, ?_⟩, HB.out⟩
    show Ending.returned (.agg #[.int .i32 c, .int .i64 p, .int .i64 ((p : Int) + z), .int .u64 0, .int .i64 0]) = .returned (.agg #[.int .i32 c, .int .i64 p, .int .i64 ((p + (z : Int).toNat : Nat) : Int), .int .u64 0, .int .i64 0])
    simp
  · go_enter Tryd.func148, Tryd.ntmps148
    go_wp2_with fail
    rw [HW0.out]
    refine HK.out.mono ?_
    rintro e w1 ⟨rfl, b1⟩
    have X1 := X0.below b1
    have bb1 : Below w.heap.size w w1 := b0.trans (b1.mono b0.size)
    clear R0 T0 X0 b0 b1 HK
    go_wp2_with (go_at_call 159; refine (CS.out _ X1).mono ?_; rintro e w2 ⟨rfl, rfl⟩)
    exact ⟨rfl, .inr ⟨Int.not_lt.2 hz0, rfl⟩, bb1⟩

set_option maxHeartbeats 2000000 in
theorem at_none (w : World) (B : Nat) (most p : Nat) (r : Int) (hT : Tabs w) (hk1 : kd r ≠ 1) (hk2 : kd r ≠ 2) (hk4 : kd r ≠ 4) :
    Calls Tryd.prog 148 #[.pointer (some ⟨B, 0, none⟩), .int .i64 p, .int .i32 r, .int .u64 most] w fun e w' => e = .panicked [{ v := fltV p 5, recovered := false }] ∧ Below w.heap.size w w' := by
  have hpn : ∀ (x : Value) (w : World), (Instr.panic (.iface 111 x)).run Tryd.prog w = .halt (.panic (.iface 111 x)) w := fun _ _ => rfl
  obtain ⟨W0, hW0⟩ : ∃ W0, w.alloc (.cells #[.int .i32 0, .int .i64 0, .int .i64 0, .int .u64 0, .int .i64 0] 114) = W0 := ⟨_, rfl⟩
  have b0 : Below w.heap.size w W0 := by rw [← hW0]; exact (Below.refl _ _).alloc (Nat.le_refl _) _
  have T0 := hT.below b0
  have HW0 : Hid (w.alloc (.cells #[.int .i32 0, .int .i64 0, .int .i64 0, .int .u64 0, .int .i64 0] 114) = W0) := hW0
  have cK := kind_any r W0 T0.spans
  have HK : Hid (Calls Tryd.prog 140 #[.int .i32 r] W0 fun e w' => e = .returned (.int .i64 (kd r)) ∧ Below W0.heap.size W0 w') := cK
  generalize kd r = k at *
  have h1 : (k == 1) = false := by simpa using hk1
  have h2 : (k == 2) = false := by simpa using hk2
  have h4 : (k == 4) = false := by simpa using hk4
  clear hW0 cK hT hk1 hk2 hk4
  go_enter Tryd.func148, Tryd.ntmps148
  go_wp2_with fail
  rw [HW0.out]
  refine HK.out.mono ?_
  rintro e w1 ⟨rfl, b1⟩
  have bb1 : Below w.heap.size w w1 := b0.trans (b1.mono b0.size)
  clear b0 b1 HK T0
  go_wp2_with fail
  exact ⟨rfl, rfl, bb1⟩

theorem at_any (w : World) (B : Nat) (s : ByteArray) (pat : Bool) (most p : Nat) (r : Int) (hT : Tabs w) (hX : TxAt w B s pat) (hp : p < s.size) (hs : s.size ≤ 4096) (hm : most ≤ 9223372036854775808) (hr : ((Utf8.decode s p).1 : Int) = r) :
    Calls Tryd.prog 148 #[.pointer (some ⟨B, 0, none⟩), .int .i64 p, .int .i32 r, .int .u64 most] w fun e w' => Ends (psAt s pat most p r) e (fun t => e = .returned (tkV t)) ∧ Below w.heap.size w w' := by
  by_cases h1 : kd r = 1
  · refine (at_letter w B s pat most p r hT hX hp hs hr h1).mono ?_
    rintro e w' ⟨rfl, hb⟩
    refine ⟨?_, hb⟩
    have hS := span_in' s p hp (by rw [hr]; exact h1)
    unfold psAt Ends
    rw [if_pos h1, hS.1]
    rfl
  · by_cases h2 : kd r = 2
    · refine (at_digit w B s pat most p r hT hX hp hs hm h2).mono ?_
      rintro e w' ⟨rfl, hb⟩
      refine ⟨?_, hb⟩
      unfold psAt Ends
      rw [if_neg h1, if_pos h2]
    · by_cases h4 : kd r = 4
      · have hz := sign_in s pat p hp (by rw [hr]; exact h4)
        rw [hr] at hz
        refine (at_sign w B s pat most p r hT hX hp hs h4 hz).mono ?_
        rintro e w' ⟨h, hb⟩
        refine ⟨?_, hb⟩
        unfold psAt Ends
        rw [if_neg h1, if_neg h2]
        rcases h with ⟨h0, rfl⟩ | ⟨h0, rfl⟩
        · rw [if_pos ⟨h4, h0⟩]
        · rw [if_neg (fun h => h0 h.2)]
      · refine (at_none w B most p r hT h1 h2 h4).mono ?_
        rintro e w' ⟨rfl, hb⟩
        refine ⟨?_, hb⟩
        unfold psAt Ends
        rw [if_neg h1, if_neg h2, if_neg (fun h => h4 h.1)]
end Go.Proofs.YtdcfffcimikfeaaDoor

set_option linter.unusedSimpArgs false
set_option linter.unusedVariables false
namespace Go.Proofs.YtdcfffcimikfeaaDoor
open Go.RowKit Go.Lib

def psCs (s : ByteArray) (pat : Bool) (t : Tk) (v : Value) (brk : Nat) : Array Value := #[.string s, .bool pat, .int .i32 t.what, .int .i64 t.from_, .int .i64 t.to, .int .u64 t.n, .int .i64 t.err, v, .int .i64 brk]
/-- Block B is the parser in the state st; v holds its nodes. -/
structure PsM (w : World) (B : Nat) (s : ByteArray) (pat : Bool) (st : Ps) (v : Value) : Prop where
  blk : w.heap[B]? = some (.cells (psCs s pat st.now v st.brk) 119 (0, 0))
  own : OwnN w (B + 1) v st.nodes
theorem PsM.lt {w : World} {B : Nat} {s : ByteArray} {pat : Bool} {st : Ps} {v : Value} (h : PsM w B s pat st v) : B < w.heap.size := lt_of_block h.blk
theorem PsM.below {w w' : World} {B : Nat} {s : ByteArray} {pat : Bool} {st : Ps} {v : Value} (h : PsM w B s pat st v) (hb : Below w.heap.size w w') : PsM w' B s pat st v :=
  ⟨(hb.block _ h.lt).trans h.blk, h.own.below hb⟩
theorem PsM.cell {w : World} {B : Nat} {s : ByteArray} {pat : Bool} {st : Ps} {v : Value} (h : PsM w B s pat st v) (i : Nat) : w.cell? ⟨B, i, none⟩ = (psCs s pat st.now v st.brk)[i]? := by simp [World.cell?, h.blk]
theorem PsM.tx {w : World} {B : Nat} {s : ByteArray} {pat : Bool} {st : Ps} {v : Value} (h : PsM w B s pat st v) : TxAt w B s pat := ⟨h.cell 0, h.cell 1⟩
theorem PsM.frozen {w : World} {B : Nat} {s : ByteArray} {pat : Bool} {st : Ps} {v : Value} (h : PsM w B s pat st v) (i : Nat) : w.frozen? ⟨B, i, none⟩ = false := by simp [World.frozen?, h.blk]

theorem own_setB {w : World} {B o : Nat} {u v : Value} {l : List Nd} (h : OwnN w (B + 1) v l) : OwnN (w.setCell ⟨B, o, none⟩ u) (B + 1) v l := by
  have key : ∀ {e : TypeId} {s n : Nat} {v : Value} {xs : List Value}, w.ownsRow (B + 1) e s v n xs → (w.setCell ⟨B, o, none⟩ u).ownsRow (B + 1) e s v n xs := fun {e s n v xs} hr =>
    World.ownsRow.kept (row := some B) hr ⟨rfl, rfl, rfl, by simp [World.setCell], fun k _ hk => Below.heap_setCell _ _ _ _ (fun e => hk (by simp [e]))⟩ (by
      cases hv : v.ownBlock with
      | none => exact .inl rfl
      | some j => exact .inr (fun e => by have h1 := (own_block' hr j hv).1; have : j = B := by simpa using e
                                          omega))
  obtain ⟨p, h1, h2⟩ := h
  exact ⟨p, h1, key h2.row, fun q hq => key (h2.kids q hq)⟩

/-- The token set. -/
def setNow (w : World) (B : Nat) (t : Tk) : World := ((((w.setCell ⟨B, 2, none⟩ (.int .i32 t.what)).setCell ⟨B, 3, none⟩ (.int .i64 t.from_)).setCell ⟨B, 4, none⟩ (.int .i64 t.to)).setCell ⟨B, 5, none⟩ (.int .u64 t.n)).setCell ⟨B, 6, none⟩ (.int .i64 t.err)
theorem PsM.tok {w : World} {B : Nat} {s : ByteArray} {pat : Bool} {st : Ps} {v : Value} (h : PsM w B s pat st v) (t : Tk) : PsM (setNow w B t) B s pat { st with now := t } v := by
  refine ⟨?_, own_setB (own_setB (own_setB (own_setB (own_setB h.own))))⟩
  have h0 := heap_setCell_same w B 2 _ _ (.int .i32 t.what) h.blk
  have h1 := heap_setCell_same _ B 3 _ _ (.int .i64 (t.from_ : Int)) h0
  have h2 := heap_setCell_same _ B 4 _ _ (.int .i64 (t.to : Int)) h1
  have h3 := heap_setCell_same _ B 5 _ _ (.int .u64 (t.n : Int)) h2
  have h4 := heap_setCell_same _ B 6 _ _ (.int .i64 t.err) h3
  exact h4
/-- The nodes set. -/
theorem PsM.nds {w w' : World} {B : Nat} {s : ByteArray} {pat : Bool} {st : Ps} {v v' : Value} {l : List Nd} (h : PsM w B s pat st v) (hb : w'.heap[B]? = w.heap[B]?) (hO : OwnN w' (B + 1) v' l) : PsM (w'.setCell ⟨B, 7, none⟩ v') B s pat { st with nodes := l } v' :=
  ⟨heap_setCell_same w' B 7 _ _ v' (hb.trans h.blk), own_setB hO⟩
/-- The brackets set. -/
theorem PsM.brks {w : World} {B : Nat} {s : ByteArray} {pat : Bool} {st : Ps} {v : Value} (h : PsM w B s pat st v) (k : Nat) : PsM (w.setCell ⟨B, 8, none⟩ (.int .i64 k)) B s pat { st with brk := k } v :=
  ⟨heap_setCell_same w B 8 _ _ (.int .i64 (k : Int)) h.blk, own_setB h.own⟩

/-- The tables lie below the parser, since the world w0. -/
structure PEnv (w0 : World) (B : Nat) (w : World) : Prop where
  tabs : Tabs w0
  le : w0.heap.size ≤ B
  bel : Below w0.heap.size w0 w
theorem PEnv.tab {w0 : World} {B : Nat} {w : World} (h : PEnv w0 B w) : Tabs w := h.tabs.below h.bel
theorem PEnv.next {w0 : World} {B : Nat} {w w' : World} (h : PEnv w0 B w) (hb : Below B w w') : PEnv w0 B w' := ⟨h.tabs, h.le, h.bel.trans (hb.mono h.le)⟩

theorem psSkip_step (s : ByteArray) (f p : Nat) (hp : p < s.size) : psSkip s (f + 1) p = if kd (Utf8.decode s p).1 = 3 then psSkip s f (p + (Utf8.decode s p).2) else p := by
  simp [psSkip, hp]
theorem psSkip_end (s : ByteArray) (f p : Nat) (hp : ¬ p < s.size) : psSkip s f p = p := by cases f <;> simp [psSkip, hp]
theorem Ends.mono {α : Type} {x : Pr α} {e : Ending} {Q Q' : α → Prop} (h : Ends x e Q) (hq : ∀ a, x = .ok a → Q a → Q' a) : Ends x e Q' := by
  cases x with
  | ok a => exact hq a rfl h
  | bad p er => exact h
  | out => trivial
theorem Ends.map {α β : Type} {x : Pr α} {e : Ending} {f : α → β} {Q : β → Prop} (h : Ends x e (fun a => Q (f a))) : Ends (x.bind fun a => .ok (f a)) e Q := by
  cases x with
  | ok a => exact h
  | bad p er => exact h
  | out => trivial

/-- All but block B stands, and what is new lies behind. -/
theorem gr_of_below {w w' : World} (h : RowKit.Below w.heap.size w w') (row : Option Nat) : w.grownBy w' row := ⟨h.os, h.tape, h.output, h.size, fun k hk _ => h.block k hk⟩
theorem gr_setB {w0 w : World} {B o : Nat} {u : Value} (h : w0.grownBy w (some B)) : w0.grownBy (w.setCell ⟨B, o, none⟩ u) (some B) :=
  ⟨h.os, h.tape, h.output, by simpa [World.setCell] using h.size, fun k hk hne => (Below.heap_setCell _ _ _ _ (fun e => hne (by rw [e]))).trans (h.block k hk hne)⟩
theorem gr_setNow {w0 w : World} {B : Nat} (h : w0.grownBy w (some B)) (t : Tk) : w0.grownBy (setNow w B t) (some B) := gr_setB (gr_setB (gr_setB (gr_setB (gr_setB h))))
theorem below_of_gr {w w' : World} {B : Nat} (h : w.grownBy w' (some B)) (hB : B ≤ w.heap.size) : RowKit.Below B w w' := ⟨h.os, h.tape, h.output, h.size, fun k hk => h.block k (by omega) (by intro e; cases e; omega)⟩
end Go.Proofs.YtdcfffcimikfeaaDoor

set_option linter.unusedSimpArgs false
set_option linter.unusedVariables false
namespace Go.Proofs.YtdcfffcimikfeaaDoor
open Go.RowKit Go.Lib Go.Sort

theorem psAt_in (s : ByteArray) (pat : Bool) (most p : Nat) (r : Int) : psAt s pat most p r ≠ .out := by
  unfold psAt
  split
  · intro h; cases h
  · split
    · intro h; cases h
    · split <;> (intro h; cases h)

/-- What nextUpTo does. -/
def NuP (w : World) (B : Nat) (s : ByteArray) (pat : Bool) (st : Ps) (v : Value) (x : Pr Tk) (e : Ending) (w' : World) : Prop :=
  Ends x e (fun t => e = .returned (.tuple #[]) ∧ PsM w' B s pat { st with now := t } v) ∧ w.grownBy w' (some B)

set_option maxRecDepth 20000 in
set_option maxHeartbeats 4000000 in
theorem nextUp_any (w0 w : World) (B : Nat) (s : ByteArray) (pat : Bool) (st : Ps) (v : Value) (most : Nat) (hE : PEnv w0 B w) (hM : PsM w B s pat st v) (hs : s.size ≤ 4096) (hto : st.now.to ≤ s.size) (hm : most ≤ 9223372036854775808) :
    Calls Tryd.prog 129 #[.pointer (some ⟨B, 0, none⟩), .int .u64 most] w fun e w' => NuP w B s pat st v (psNext s pat most st.now.to) e w' := by
  have c0 := hM.tx.text
  have c4 : w.cell? ⟨B, 4, none⟩ = some (.int .i64 (st.now.to : Int)) := hM.cell 4
  have hBl := hM.lt
  have hBn : B ≠ w.heap.size := by omega
  have HM : Hid (PsM w B s pat st v) := hM
  have HE : Hid (PEnv w0 B w) := hE
  obtain ⟨X, hX⟩ : ∃ X, psNext s pat most st.now.to = X := ⟨_, rfl⟩
  have HX : Hid (X = psFrom s pat most (psSkip s s.size st.now.to)) := hX.symm
  rw [hX]
  clear hX
  generalize hto' : st.now.to = to at *
  obtain ⟨t, ht⟩ : ∃ t, s.extract to s.size = t := ⟨_, rfl⟩
  have hts : t.size = s.size - to := by rw [← ht]; exact tail_size s to
  have HT : Hid (s.extract to s.size = t) := ht
  have HD : Hid (∀ i, Utf8.decode t i = Utf8.decode s (to + i)) := fun i => by rw [← ht]; exact dec_tail s to i
  clear hto' hM hE ht
  go_enter Tryd.func129, Tryd.ntmps129
  go_wp2_with fail
  rw [HT.out]
  go_loopw [] (fun wr => ∃ pos f : Nat, It w t pos wr ∧ Hid (psSkip s f (to + pos) = psSkip s s.size to) ∧ s.size ≤ to + pos + f ∧ pos ≤ t.size) (fun wr => t.size - wr.iterPos w.heap.size)
  case atStart => exact ⟨0, s.size, It.start w t, rfl, by omega, by omega⟩
  case round =>
    obtain ⟨pos, f, hI, hsk, hf, hpt⟩ := hrel
    have hit := hI.at_
    by_cases hp : pos < t.size
    · have hnx : ∀ ty, (Instr.next (.pointer (some ⟨w.heap.size, 0, none⟩)) true ty).run Tryd.prog wr = _ := fun ty => run_next_any_at wr w.heap.size t pos ty hit hp
      have hwd := width_pos t pos hp
      have hle := dec_le t pos hp
      have hps : to + pos < s.size := by omega
      obtain ⟨f, rfl⟩ : ∃ g, f = g + 1 := ⟨f - 1, by omega⟩
      have hst := psSkip_step s f (to + pos) hps
      rw [← HD.out pos] at hst
      have hI2 := hI.next (pos + (Utf8.decode t pos).2)
      have hpos := hI.pos
      have HR : Hid (((Utf8.decode s (to + pos)).1 : Int) = ((Utf8.decode t pos).1 : Int)) := by show _ = _; rw [HD.out pos]
      generalize hw2 : (Utf8.decode t pos).2 = wd at *
      generalize hr2 : ((Utf8.decode t pos).1 : Int) = r at *
      clear hw2 hr2
      have HST : Hid (psSkip s (f + 1) (to + pos) = if kd r = 3 then psSkip s f (to + pos + wd) else to + pos) := hst
      have hTab : Tabs (wr.iterAt w.heap.size t (pos + wd)) := HE.out.tab.below hI2.below
      have cK := kind_any r _ hTab.spans
      have HI2 : Hid (It w t (pos + wd) (wr.iterAt w.heap.size t (pos + wd))) := hI2
      clear hst hI hI2
      by_cases hk : kd r = 3
      · rw [hk] at cK
        have HSK : Hid (psSkip s f (to + (pos + wd)) = psSkip s s.size to) := by show _ = _; rw [← hsk.out, HST.out, if_pos hk, Nat.add_assoc]
        clear hk hsk HST
        go_wp2_with (go_at_call 140; refine cK.mono ?_; rintro e w2 ⟨rfl, hb2⟩)
        exact ⟨⟨pos + wd, f, HI2.out.call hb2, HSK.out, by omega, by omega⟩, by rw [(HI2.out.call hb2).pos, hpos]; omega⟩
      · have HXX : Hid (X = psAt s pat most (to + pos) r) := by
          show X = _
          rw [HX.out, ← hsk.out, HST.out, if_neg hk]
          unfold psFrom
          rw [if_pos hps, HR.out]
        have HNO : Hid (X ≠ .out) := by show X ≠ _; rw [HXX.out]; exact psAt_in _ _ _ _ _
        have hkb : (kd r != 3) = true := by simpa using hk
        generalize kd r = kr at *
        clear hk hsk HST
        go_wp2_with (go_at_call 140; refine cK.mono ?_; rintro e w2 ⟨rfl, hb2⟩)
        have hI3 := HI2.out.call hb2
        have hM2 := HM.out.below hI3.below
        have hbw2 : RowKit.Below w.heap.size w w2 := hI3.below
        have cA := at_any w2 B s pat most (to + pos) r (HE.out.tab.below hI3.below) hM2.tx hps hs hm HR.out
        rw [← HXX.out, Int.natCast_add] at cA
        have HM2 : Hid (PsM w2 B s pat st v) := hM2
        have HB2 : Hid (RowKit.Below w.heap.size w w2) := hbw2
        have hB2 := hM2.lt
        clear hI3 hM2 hbw2 HI2 HXX HX cK
        cases X with
        | ok tk =>
          have cA' : Calls Tryd.prog 148 #[.pointer (some ⟨B, 0, none⟩), .int .i64 ((to : Int) + (pos : Int)), .int .i32 r, .int .u64 most] w2 fun e w' => e = .returned (.agg #[.int .i32 tk.what, .int .i64 tk.from_, .int .i64 tk.to, .int .u64 tk.n, .int .i64 tk.err]) ∧ Below w2.heap.size w2 w' := cA
          clear cA
          go_wp2_with (go_at_call 148; refine cA'.mono ?_; rintro e w3 ⟨rfl, hb3⟩; have q2 : w3.cell? ⟨B, 2, none⟩ = some (.int .i32 st.now.what) := (HM2.out.below hb3).cell 2; have q3 : w3.cell? ⟨B, 3, none⟩ = some (.int .i64 st.now.from_) := (HM2.out.below hb3).cell 3; have q4 : w3.cell? ⟨B, 4, none⟩ = some (.int .i64 st.now.to) := (HM2.out.below hb3).cell 4; have q5 : w3.cell? ⟨B, 5, none⟩ = some (.int .u64 st.now.n) := (HM2.out.below hb3).cell 5; have q6 : w3.cell? ⟨B, 6, none⟩ = some (.int .i64 st.now.err) := (HM2.out.below hb3).cell 6; have qf := (HM2.out.below hb3).frozen)
          go_end0
          exact ⟨⟨rfl, (HM2.out.below hb3).tok tk⟩, gr_setNow (gr_of_below (HB2.out.trans (hb3.mono HB2.out.size)) _) tk⟩
        | bad p er =>
          have cA' : Calls Tryd.prog 148 #[.pointer (some ⟨B, 0, none⟩), .int .i64 ((to : Int) + (pos : Int)), .int .i32 r, .int .u64 most] w2 fun e w' => e = .panicked [{ v := fltV p er, recovered := false }] ∧ Below w2.heap.size w2 w' := cA
          clear cA
          go_wp2_with (go_at_call 148; refine cA'.mono ?_; rintro e w3 ⟨rfl, hb3⟩)
          exact ⟨rfl, rfl, gr_of_below (HB2.out.trans (hb3.mono HB2.out.size)) _⟩
        | out => exact absurd rfl HNO.out
    · have hnx : ∀ ty, (Instr.next (.pointer (some ⟨w.heap.size, 0, none⟩)) true ty).run Tryd.prog wr = _ := fun ty => run_next_end_at wr w.heap.size t pos ty hit hp
      have hXe : X = .ok (psEnd s) := by
        rw [HX.out, ← hsk.out, psSkip_end s f (to + pos) (by omega)]
        unfold psFrom
        rw [if_neg (by omega)]
      subst hXe
      have hM2 := HM.out.below hI.below
      have g0 := cell_regrown hM2.tx.text
      have HM2 : Hid (PsM wr B s pat st v) := hM2
      have HB2 : Hid (RowKit.Below w.heap.size w wr) := hI.below
      have hB2 := hM2.lt
      clear hsk hI hM2 HX
      go_wp2_with fail
      refine wp_region_quiet_then 14 (by kernel_rfl) (by kernel_rfl) ?_
      simp only [List.take_succ_cons, List.take_zero]
      iterate 14 (go_big_quiet_step (fail))
      refine wpQuiet_nil ?_
      intro w' hw'
      obtain ⟨⟨dq, osq⟩, hw''⟩ := hw'
      subst hw''
      simp only [List.drop_succ_cons, List.drop_zero]
      obtain ⟨w5, hw5⟩ : ∃ w5, grow (redrawn wr dq) osq = w5 := ⟨_, rfl⟩
      rw [hw5]
      have hb5 : RowKit.Below wr.heap.size wr w5 := by rw [← hw5]; exact below_regrown wr dq osq
      have hM5 := HM2.out.below hb5
      have q2 : w5.cell? ⟨B, 2, none⟩ = some (.int .i32 st.now.what) := hM5.cell 2
      have q3 : w5.cell? ⟨B, 3, none⟩ = some (.int .i64 st.now.from_) := hM5.cell 3
      have q4 : w5.cell? ⟨B, 4, none⟩ = some (.int .i64 st.now.to) := hM5.cell 4
      have q5 : w5.cell? ⟨B, 5, none⟩ = some (.int .u64 st.now.n) := hM5.cell 5
      have q6 : w5.cell? ⟨B, 6, none⟩ = some (.int .i64 st.now.err) := hM5.cell 6
      have qf := hM5.frozen
      have HFI : Hid (PsM (setNow w5 B (psEnd s)) B s pat { st with now := psEnd s } v) := hM5.tok (psEnd s)
      have HBI : Hid (w.grownBy (setNow w5 B (psEnd s)) (some B)) := gr_setNow (gr_of_below (HB2.out.trans (hb5.mono HB2.out.size)) _) _
      clear hM5 hw5 g0 hb5
      go_wp2_with fail
      go_end0
      exact ⟨⟨rfl, HFI.out⟩, HBI.out⟩
end Go.Proofs.YtdcfffcimikfeaaDoor

set_option linter.unusedSimpArgs false
set_option linter.unusedVariables false
namespace Go.Proofs.YtdcfffcimikfeaaDoor
open Go.RowKit Go.Lib Go.Sort

/-- What a call that leaves a state does. -/
def ExP (w : World) (B : Nat) (s : ByteArray) (pat : Bool) (v : Value) (x : Pr Ps) (e : Ending) (w' : World) : Prop :=
  Ends x e (fun st' => e = .returned (.tuple #[]) ∧ PsM w' B s pat st' v) ∧ w.grownBy w' (some B)
theorem psNext_in (s : ByteArray) (pat : Bool) (most p : Nat) : psNext s pat most p ≠ .out := by
  unfold psNext psFrom
  split
  · exact psAt_in _ _ _ _ _
  · intro h; cases h

set_option maxHeartbeats 1000000 in
theorem next_any (w0 w : World) (B : Nat) (s : ByteArray) (pat : Bool) (st : Ps) (v : Value) (hE : PEnv w0 B w) (hM : PsM w B s pat st v) (hs : s.size ≤ 4096) (hto : st.now.to ≤ s.size) :
    Calls Tryd.prog 88 #[.pointer (some ⟨B, 0, none⟩)] w fun e w' => ExP w B s pat v (psNx s pat mx63 st) e w' := by
  have c := nextUp_any w0 w B s pat st v mx63 hE hM hs hto (by unfold mx63; omega)
  have hno := psNext_in s pat mx63 st.now.to
  unfold psNx
  have e63 : ((mx63 : Nat) : Int) = 9223372036854775807 := rfl
  rw [e63] at c
  generalize psNext s pat mx63 st.now.to = X at *
  clear hE hM
  cases X with
  | ok t =>
    have c' : Calls Tryd.prog 129 #[.pointer (some ⟨B, 0, none⟩), .int .u64 9223372036854775807] w fun e w' => (e = .returned (.tuple #[]) ∧ PsM w' B s pat { st with now := t } v) ∧ w.grownBy w' (some B) := c
    clear c hno
    go_enter Tryd.func88, Tryd.ntmps88
    go_wp2_with (go_at_call 129; refine c'.mono ?_; rintro e w2 ⟨⟨rfl, h2⟩, hb2⟩)
    go_end0
    exact ⟨⟨rfl, h2⟩, hb2⟩
  | bad p er =>
    have c' : Calls Tryd.prog 129 #[.pointer (some ⟨B, 0, none⟩), .int .u64 9223372036854775807] w fun e w' => e = .panicked [{ v := fltV p er, recovered := false }] ∧ w.grownBy w' (some B) := c
    clear c hno
    go_enter Tryd.func88, Tryd.ntmps88
    go_wp2_with (go_at_call 129; refine c'.mono ?_; rintro e w2 ⟨rfl, hb2⟩)
    exact ⟨rfl, rfl, hb2⟩
  | out => exact absurd rfl hno

set_option maxHeartbeats 1000000 in
theorem touches_any (w0 w : World) (B : Nat) (s : ByteArray) (pat : Bool) (st : Ps) (v : Value) (hE : PEnv w0 B w) (hM : PsM w B s pat st v) (hs : s.size ≤ 4096) :
    Calls Tryd.prog 160 #[.pointer (some ⟨B, 0, none⟩)] w fun e w' => e = .returned (.bool (decide ((numI s st.now.to).2.2 ≠ 11))) ∧ RowKit.Below w.heap.size w w' := by
  have g0 := cell_regrown hM.tx.text
  have c4 : w.cell? ⟨B, 4, none⟩ = some (.int .i64 (st.now.to : Int)) := hM.cell 4
  have g4 := cell_regrown c4
  have cN : Hid (∀ d os, Calls Tryd.prog 71 #[.string s, .int .i64 (st.now.to : Int)] (grow (redrawn w d) os) fun e w'' => e = .returned (.tuple #[.int .u64 (numI s st.now.to).1, .int .i64 (numI s st.now.to).2.1, .int .i64 (numI s st.now.to).2.2]) ∧ ∃ p : Regrown, w'' = grow (redrawn w p.d) p.os) := fun d os =>
    Calls.regrown_of (number_any s (st.now.to : Int) _ (hE.tab.below (below_regrown w d os)) (by unfold maxLen; omega))
  generalize st.now.to = to at *
  generalize numI s (to : Int) = x at *
  obtain ⟨n, b, er⟩ := x
  simp only at cN
  have HB : Hid (decide (er ≠ 11) = (er != 11)) := by show _ = _; by_cases h : er = 11 <;> simp [h]
  show Calls _ _ _ _ fun e w' => e = .returned (.bool (decide (er ≠ 11))) ∧ _
  rw [HB.out]
  clear hM hE c4 HB
  go_enter Tryd.func160, Tryd.ntmps160
  go_wp2_with fail
  refine wp_region_quiet_below (by kernel_rfl) (by kernel_rfl) ?_
  iterate 17 (go_big_quiet_step ((go_at_call 71; exact cN.out _ _)))
  refine wpQuiet_nil ?_
  intro _ hw'
  obtain ⟨⟨ds, oss⟩, hw''⟩ := hw'
  subst hw''
  go_wp2_with fail
  go_ret
  exact ⟨rfl, below_regrown w ds oss⟩

set_option maxHeartbeats 1000000 in
theorem operator_any (c : Int) (w : World) :
    Calls Tryd.prog 150 #[.int .i32 c] w fun e w' => e = .returned (.tuple #[.int .i64 (psOp c).1, .int .i64 ((psOp c).2 : Nat)]) ∧ w' = w := by
  go_enter Tryd.func150, Tryd.ntmps150
  go_wp2
  all_goals go_ret2
  all_goals exact ⟨by first | (unfold psOp; simp_all; done) | (unfold psOp; simp_all; omega), rfl⟩
end Go.Proofs.YtdcfffcimikfeaaDoor
