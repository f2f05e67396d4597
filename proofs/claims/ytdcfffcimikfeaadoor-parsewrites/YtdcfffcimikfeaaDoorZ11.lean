/-
  PkNxW, SwPure, PkSt, QTail.
-/
import Derived.Shelf.Unicode.DecodeSlow
import Derived.Laws.RangeAny
import Derived.Shelf.Strings.Builder1
import Derived.Shelf.Small.Utf8
import Derived.Shelf.Small.Bits
import Derived.Shelf.Strings.BuilderF
import Derived.Shelf.Strings.BuilderK
import Derived.Shelf.Strings.BuilderRune
import Derived.Shelf.Utf8.AppendRune
import Derived.Shelf.Strconv.Itoa0
import Derived.Shelf.Strconv.Itoa1
import Derived.Shelf.LaysM
import Derived.Shelf.Strconv.Itoa2
import Derived.Shelf.Strconv.Itoa3
import Derived.Shelf.Strconv.Itoa4
import Derived.Shelf.Strings.Prefix
import Derived.Shelf.Unicode.DecodeAny
import Derived.Shelf.Slices.CompactS
import Derived.Ground.SlsfProg
import Derived.Shelf.SlSortCmp.Insertion
import Derived.Shelf.SlSortCmp.SiftDown1
import Derived.Shelf.SlSortCmp.HeapSort1
import Derived.Shelf.SlSortCmp.Insertion1
import Derived.Shelf.SlSortCmp.Median1
import Derived.Shelf.SlSortCmp.Pivot1
import Derived.Shelf.SlSortCmp.ReverseRange1
import Derived.Shelf.SlSortCmp.PartialInsertion1
import Derived.Shelf.SlSortCmp.PartitionEqual1
import Derived.Shelf.SlSortCmp.Partition1
import Derived.Shelf.SlSortCmp.Pdq1
import Derived.Shelf.SlSortCmp.Whole1
import Derived.Test.YtdcfffcimikfeaaDoorProg
import Derived.WalkKit
import Derived.Deep.DeepFit
import Derived.Lib.OthersKept
import Derived.Lib.RuneCountTail
import Derived.Deep.AppendLies
import Derived.Deep.OwnRows
import Derived.Laws.AppendOwnNone
import Derived.Deep.QuietTactic
import Derived.BigQuiet
import Derived.Deep.RegionWith
import Derived.Laws.DeepStrings4
import Derived.Lib.Small
import Derived.Lib.Strings
import Derived.Lib.MapLaws
import Derived.Deep.RegionHeld3
import Derived.Laws.ResultCell
import Derived.Lib.QuietBelow
import Derived.Deep.Heap
import Derived.Laws.Rows
import Derived.StillTail
import Derived.Test.YtdcfffcimikfeaaDoorZ01
import Derived.Test.YtdcfffcimikfeaaDoorZ02
import Derived.Test.YtdcfffcimikfeaaDoorZ03
import Derived.Test.YtdcfffcimikfeaaDoorZ04
import Derived.Test.YtdcfffcimikfeaaDoorZ05
import Derived.Test.YtdcfffcimikfeaaDoorZ06
import Derived.Test.YtdcfffcimikfeaaDoorZ07
import Derived.Test.YtdcfffcimikfeaaDoorZ08
import Derived.Test.YtdcfffcimikfeaaDoorZ09
import Derived.Test.YtdcfffcimikfeaaDoorZ10
set_option linter.unusedSimpArgs false
set_option linter.unusedVariables false
namespace Go.Proofs.YtdcfffcimikfeaaDoor
open Go.RowKit Go.Lib
open Go.Sort (grow)

def SgP (p : Nat) (x : Int × Int) (e : Ending) : Prop := (0 < x.2 ∧ e = .returned (tkV ⟨x.1, p, p + x.2.toNat, 0, 0⟩)) ∨ (¬ 0 < x.2 ∧ e = .panicked [{ v := fltV p 5, recovered := false }])

set_option maxHeartbeats 2000000 in
theorem at_sign (w : World) (B : Nat) (s : ByteArray) (pat : Bool) (most p : Nat) (r : Int) (hT : Tabs w) (hX : TxAt w B s pat) (hp : p < s.size) (hs : s.size ≤ 4096) (hk : kd r = 4) (hz : (psSign s pat p r).2 ≤ (s.size : Int) - p) :
    Calls Tryd.prog 148 #[.pointer (some ⟨B, 0, none⟩), .int .i64 p, .int .i32 r, .int .u64 most] w fun e w' => SgP p (psSign s pat p r) e ∧ Below w.heap.size w w' := by
  have hBl := hX.lt
  have hBn : B ≠ w.heap.size := by omega
  have hpn : ∀ (x : Value) (w : World), (Instr.panic (.iface 111 x)).run Tryd.prog w = .halt (.panic (.iface 111 x)) w := fun _ _ => rfl
  obtain ⟨W0, hW0⟩ : ∃ W0, w.alloc (.cells #[.int .i32 0, .int .i64 0, .int .i64 0, .int .u64 0, .int .i64 0] 114) = W0 := ⟨_, rfl⟩
  have b0 : Below w.heap.size w W0 := by rw [← hW0]; exact (Below.refl _ _).alloc (Nat.le_refl _) _
  have R0 : Tk5 W0 w.heap.size (.int .i32 0) (.int .i64 0) (.int .i64 0) (.int .u64 0) (.int .i64 0) := ⟨by rw [← hW0, Deep.blk_alloc_new]⟩
  have T0 := hT.below b0
  have X0 := hX.below b0
  have HW0 : Hid (w.alloc (.cells #[.int .i32 0, .int .i64 0, .int .i64 0, .int .u64 0, .int .i64 0] 114) = W0) := hW0
  have cK := kind_any r W0 T0.spans
  rw [hk] at cK
  have HK : Hid (Calls Tryd.prog 140 #[.int .i32 r] W0 fun e w' => e = .returned (.int .i64 4) ∧ Below W0.heap.size W0 w') := cK
  have CS : Hid (∀ W, TxAt W B s pat → Calls Tryd.prog 159 #[.pointer (some ⟨B, 0, none⟩), .int .i64 p, .int .i32 r] W fun e w' => e = .returned (.tuple #[.int .i32 (psSign s pat p r).1, .int .i64 (psSign s pat p r).2]) ∧ w' = W) := fun W hW => signAt_any W B s pat p r hW (by omega) (by unfold maxLen; omega)
  generalize psSign s pat p r = x at *
  obtain ⟨c, z⟩ := x
  simp only at CS hz
  clear hW0 cK hk hX hT
  by_cases hz0 : 0 < z
  · obtain ⟨z, rfl⟩ : ∃ n : Nat, z = (n : Int) := ⟨z.toNat, by omega⟩
    go_enter Tryd.func148, Tryd.ntmps148
    go_wp2_with fail
    rw [HW0.out]
    refine HK.out.mono ?_
    rintro e w1 ⟨rfl, b1⟩
    have R1 := R0.below b1
    have X1 := X0.below b1
    have bb1 : Below w.heap.size w w1 := b0.trans (b1.mono b0.size)
    obtain ⟨q0, q1, q2, q3, q4⟩ := R1.cells
    have qf := R1.frozen
    have HE : Hid (Tk5 (set5 w1 w.heap.size (.int .i32 c) (.int .i64 p) (.int .i64 ((p : Int) + z)) (.int .u64 0) (.int .i64 0)) w.heap.size (.int .i32 c) (.int .i64 p) (.int .i64 ((p : Int) + z)) (.int .u64 0) (.int .i64 0)) := five_set R1 _ _ _ _ _
    have HB : Hid (Below w.heap.size w (set5 w1 w.heap.size (.int .i32 c) (.int .i64 p) (.int .i64 ((p : Int) + z)) (.int .u64 0) (.int .i64 0))) := below_set5 bb1 _ _ _ _ _
    clear R0 T0 X0 b0 b1 R1 HK
    go_wp2_with (go_at_call 159; refine (CS.out _ X1).mono ?_; rintro e w2 ⟨rfl, rfl⟩)
    refine bodyPost_ret (at_ret HE.out (by rfl)) rfl ⟨.inl ⟨hz0, ?_⟩, HB.out⟩
    show Ending.returned (.agg #[.int .i32 c, .int .i64 p, .int .i64 ((p : Int) + z), .int .u64 0, .int .i64 0]) = .returned (.agg #[.int .i32 c, .int .i64 p, .int .i64 ((p + (z : Int).toNat : Nat) : Int), .int .u64 0, .int .i64 0])
    simp
  · go_enter Tryd.func148, Tryd.ntmps148
    go_wp2_with fail
    rw [HW0.out]
    refine HK.out.mono ?_
    rintro e w1 ⟨rfl, b1⟩
    have X1 := X0.below b1
    have bb1 : Below w.heap.size w w1 := b0.trans (b1.mono b0.size)
    clear R0 T0 X0 b0 b1 HK
    go_wp2_with (go_at_call 159; refine (CS.out _ X1).mono ?_; rintro e w2 ⟨rfl, rfl⟩)
    exact ⟨rfl, .inr ⟨Int.not_lt.2 hz0, rfl⟩, bb1⟩

set_option maxHeartbeats 2000000 in
theorem at_none (w : World) (B : Nat) (most p : Nat) (r : Int) (hT : Tabs w) (hk1 : kd r ≠ 1) (hk2 : kd r ≠ 2) (hk4 : kd r ≠ 4) :
    Calls Tryd.prog 148 #[.pointer (some ⟨B, 0, none⟩), .int .i64 p, .int .i32 r, .int .u64 most] w fun e w' => e = .panicked [{ v := fltV p 5, recovered := false }] ∧ Below w.heap.size w w' := by
  have hpn : ∀ (x : Value) (w : World), (Instr.panic (.iface 111 x)).run Tryd.prog w = .halt (.panic (.iface 111 x)) w := fun _ _ => rfl
  obtain ⟨W0, hW0⟩ : ∃ W0, w.alloc (.cells #[.int .i32 0, .int .i64 0, .int .i64 0, .int .u64 0, .int .i64 0] 114) = W0 := ⟨_, rfl⟩
  have b0 : Below w.heap.size w W0 := by rw [← hW0]; exact (Below.refl _ _).alloc (Nat.le_refl _) _
  have T0 := hT.below b0
  have HW0 : Hid (w.alloc (.cells #[.int .i32 0, .int .i64 0, .int .i64 0, .int .u64 0, .int .i64 0] 114) = W0) := hW0
  have cK := kind_any r W0 T0.spans
  have HK : Hid (Calls Tryd.prog 140 #[.int .i32 r] W0 fun e w' => e = .returned (.int .i64 (kd r)) ∧ Below W0.heap.size W0 w') := cK
  generalize kd r = k at *
  have h1 : (k == 1) = false := by simpa using hk1
  have h2 : (k == 2) = false := by simpa using hk2
  have h4 : (k == 4) = false := by simpa using hk4
  clear hW0 cK hT hk1 hk2 hk4
  go_enter Tryd.func148, Tryd.ntmps148
  go_wp2_with fail
  rw [HW0.out]
  refine HK.out.mono ?_
  rintro e w1 ⟨rfl, b1⟩
  have bb1 : Below w.heap.size w w1 := b0.trans (b1.mono b0.size)
  clear b0 b1 HK T0
  go_wp2_with fail
  exact ⟨rfl, rfl, bb1⟩

theorem at_any (w : World) (B : Nat) (s : ByteArray) (pat : Bool) (most p : Nat) (r : Int) (hT : Tabs w) (hX : TxAt w B s pat) (hp : p < s.size) (hs : s.size ≤ 4096) (hm : most ≤ 9223372036854775808) (hr : ((Utf8.decode s p).1 : Int) = r) :
    Calls Tryd.prog 148 #[.pointer (some ⟨B, 0, none⟩), .int .i64 p, .int .i32 r, .int .u64 most] w fun e w' => Ends (psAt s pat most p r) e (fun t => e = .returned (tkV t)) ∧ Below w.heap.size w w' := by
  by_cases h1 : kd r = 1
  · refine (at_letter w B s pat most p r hT hX hp hs hr h1).mono ?_
    rintro e w' ⟨rfl, hb⟩
    refine ⟨?_, hb⟩
    have hS := span_in' s p hp (by rw [hr]; exact h1)
    unfold psAt Ends
    rw [if_pos h1, hS.1]
    rfl
  · by_cases h2 : kd r = 2
    · refine (at_digit w B s pat most p r hT hX hp hs hm h2).mono ?_
      rintro e w' ⟨rfl, hb⟩
      refine ⟨?_, hb⟩
      unfold psAt Ends
      rw [if_neg h1, if_pos h2]
    · by_cases h4 : kd r = 4
      · have hz := sign_in s pat p hp (by rw [hr]; exact h4)
        rw [hr] at hz
        refine (at_sign w B s pat most p r hT hX hp hs h4 hz).mono ?_
        rintro e w' ⟨h, hb⟩
        refine ⟨?_, hb⟩
        unfold psAt Ends
        rw [if_neg h1, if_neg h2]
        rcases h with ⟨h0, rfl⟩ | ⟨h0, rfl⟩
        · rw [if_pos ⟨h4, h0⟩]
        · rw [if_neg (fun h => h0 h.2)]
      · refine (at_none w B most p r hT h1 h2 h4).mono ?_
        rintro e w' ⟨rfl, hb⟩
        refine ⟨?_, hb⟩
        unfold psAt Ends
        rw [if_neg h1, if_neg h2, if_neg (fun h => h4 h.1)]
end Go.Proofs.YtdcfffcimikfeaaDoor

set_option linter.unusedSimpArgs false
set_option linter.unusedVariables false
namespace Go.Proofs.YtdcfffcimikfeaaDoor
open Go.RowKit Go.Lib

/-- One cell of an owned row is set. -/
theorem own_put {w : World} {base : Nat} {e : TypeId} {s n g cap : Nat} {xs : List Value} {i : Nat} {u : Value} (h : w.ownsRow base e s (.slice (some ⟨g, 0, none⟩) n cap) n xs) (hi : i < xs.length) : (w.setCell ⟨g, i, none⟩ u).ownsRow base e s (.slice (some ⟨g, 0, none⟩) n cap) n (xs.set i u) := by
  obtain ⟨h1, h2⟩ := h
  refine ⟨by simpa using h1, ?_⟩
  rcases h2 with ⟨h2, _⟩ | ⟨g', cap', cur, h3, hb, hg, hn, hm, hs, ht⟩
  · cases h2
  · cases h3
    refine .inr ⟨g, cap, cur.setIfInBounds i u, rfl, hb, heap_setCell_same w g i cur e u hg, hn, hm, by simpa using hs, ?_⟩
    rw [← ht]
    simp [List.take_set]

theorem own_block' {w : World} {base : Nat} {e : TypeId} {s n : Nat} {v : Value} {xs : List Value} (h : w.ownsRow base e s v n xs) : ∀ b, v.ownBlock = some b → base ≤ b ∧ b < w.heap.size := by
  intro b hb
  rcases h.2 with ⟨rfl, _⟩ | ⟨g, cap, cur, rfl, h1, h2, _⟩
  · cases hb
  · simp [Value.ownBlock] at hb; subst hb; exact ⟨h1, lt_of_block h2⟩
theorem row_form' {w : World} {base : Nat} {e : TypeId} {s n : Nat} {v : Value} {xs : List Value} (h : w.ownsRow base e s v n xs) : ∃ ao cap, v = .slice ao n cap := by
  rcases h.2 with ⟨rfl, h0⟩ | ⟨g', cap', cur, rfl, _⟩
  · exact ⟨none, 0, by rw [h0]⟩
  · exact ⟨_, _, rfl⟩

/-- The names' list, the number to stop at: where the function finds them. -/
structure Cst (w : World) (A Sb Nb : Nat) (stop : Int) (na : Option Addr) (nc : Nat) (names : List ByteArray) : Prop where
  sb : Sb < A
  nb : Nb < A
  stopC : w.cell? ⟨Sb, 0, none⟩ = some (.int .i64 stop)
  namesC : w.cell? ⟨Nb, 0, none⟩ = some (.slice na names.length nc)
  len : names.length ≤ nc ∧ nc ≤ maxLen
  row : names = [] ∨ ∃ b o, na = some ⟨b, o, none⟩ ∧ b < A ∧ ∀ j, j < names.length → w.cell? ⟨b, o + j, none⟩ = some (.string (names.getD j ⟨#[]⟩))
theorem Cst.below {w w' : World} {A Sb Nb : Nat} {stop : Int} {na : Option Addr} {nc : Nat} {names : List ByteArray} (h : Cst w A Sb Nb stop na nc names) (hb : Below A w w') : Cst w' A Sb Nb stop na nc names :=
  ⟨h.sb, h.nb, (hb.cell (p := ⟨Sb, 0, none⟩) h.sb).trans h.stopC, (hb.cell (p := ⟨Nb, 0, none⟩) h.nb).trans h.namesC, h.len, by
    rcases h.row with h | ⟨b, o, e, hlt, hc⟩
    · exact .inl h
    · exact .inr ⟨b, o, e, hlt, fun j hj => (hb.cell (p := ⟨b, o + j, none⟩) hlt).trans (hc j hj)⟩⟩

/-- What has been asked. -/
structure AskAt (w : World) (A : Nat) (va : Value) (qs : List ByteArray) : Prop where
  blk : w.heap[A]? = some (.cells #[va] 33 (0, 0))
  row : w.ownsRow (A + 1) 9 1 va qs.length (qs.map Value.string)
theorem AskAt.below {w w' : World} {A : Nat} {va : Value} {qs : List ByteArray} (h : AskAt w A va qs) (hb : Below w.heap.size w w') : AskAt w' A va qs :=
  ⟨(hb.block _ (lt_of_block h.blk)).trans h.blk, ownsRow_below h.row hb⟩

theorem row_cell {w : World} {base : Nat} {e : TypeId} {v : Value} {n : Nat} {xs : List Value} (h : w.ownsRow base e 1 v n xs) {i : Nat} (hi : i < n) {d : Value} : ∃ g cap, v = .slice (some ⟨g, 0, none⟩) n cap ∧ g < w.heap.size ∧ n ≤ cap ∧ cap ≤ maxLen ∧ w.cell? ⟨g, i, none⟩ = some (xs.getD i d) := by
  obtain ⟨h1, h2⟩ := h
  rcases h2 with ⟨rfl, h0⟩ | ⟨g, cap, cur, rfl, hb, hg, hn, hm, hs, ht⟩
  · omega
  · refine ⟨g, cap, rfl, lt_of_block hg, hn, hm, ?_⟩
    have hc : w.cell? ⟨g, i, none⟩ = cur[i]? := by simp [World.cell?, hg]
    rw [hc, ← Array.getElem?_toList]
    have e : cur.toList[i]? = (cur.toList.take (n * 1))[i]? := by rw [List.getElem?_take, if_pos (by omega)]
    rw [e, ht]
    simp [show i < xs.length by omega]
end Go.Proofs.YtdcfffcimikfeaaDoor

set_option linter.unusedSimpArgs false
set_option linter.unusedVariables false
namespace Go.Proofs.YtdcfffcimikfeaaDoor
open Go.RowKit Go.Lib

def psCs (s : ByteArray) (pat : Bool) (t : Tk) (v : Value) (brk : Nat) : Array Value := #[.string s, .bool pat, .int .i32 t.what, .int .i64 t.from_, .int .i64 t.to, .int .u64 t.n, .int .i64 t.err, v, .int .i64 brk]
/-- Block B is the parser in the state st; v holds its nodes. -/
structure PsM (w : World) (B : Nat) (s : ByteArray) (pat : Bool) (st : Ps) (v : Value) : Prop where
  blk : w.heap[B]? = some (.cells (psCs s pat st.now v st.brk) 119 (0, 0))
  own : OwnN w (B + 1) v st.nodes
theorem PsM.lt {w : World} {B : Nat} {s : ByteArray} {pat : Bool} {st : Ps} {v : Value} (h : PsM w B s pat st v) : B < w.heap.size := lt_of_block h.blk
theorem PsM.below {w w' : World} {B : Nat} {s : ByteArray} {pat : Bool} {st : Ps} {v : Value} (h : PsM w B s pat st v) (hb : Below w.heap.size w w') : PsM w' B s pat st v :=
  ⟨(hb.block _ h.lt).trans h.blk, h.own.below hb⟩
theorem PsM.cell {w : World} {B : Nat} {s : ByteArray} {pat : Bool} {st : Ps} {v : Value} (h : PsM w B s pat st v) (i : Nat) : w.cell? ⟨B, i, none⟩ = (psCs s pat st.now v st.brk)[i]? := by simp [World.cell?, h.blk]
theorem PsM.tx {w : World} {B : Nat} {s : ByteArray} {pat : Bool} {st : Ps} {v : Value} (h : PsM w B s pat st v) : TxAt w B s pat := ⟨h.cell 0, h.cell 1⟩
theorem PsM.frozen {w : World} {B : Nat} {s : ByteArray} {pat : Bool} {st : Ps} {v : Value} (h : PsM w B s pat st v) (i : Nat) : w.frozen? ⟨B, i, none⟩ = false := by simp [World.frozen?, h.blk]

theorem own_setB {w : World} {B o : Nat} {u v : Value} {l : List Nd} (h : OwnN w (B + 1) v l) : OwnN (w.setCell ⟨B, o, none⟩ u) (B + 1) v l := by
  have key : ∀ {e : TypeId} {s n : Nat} {v : Value} {xs : List Value}, w.ownsRow (B + 1) e s v n xs → (w.setCell ⟨B, o, none⟩ u).ownsRow (B + 1) e s v n xs := fun {e s n v xs} hr =>
    World.ownsRow.kept (row := some B) hr ⟨rfl, rfl, rfl, by simp [World.setCell], fun k _ hk => Below.heap_setCell _ _ _ _ (fun e => hk (by simp [e]))⟩ (by
      cases hv : v.ownBlock with
      | none => exact .inl rfl
      | some j => exact .inr (fun e => by have h1 := (own_block' hr j hv).1; have : j = B := by simpa using e
                                          omega))
  obtain ⟨p, h1, h2⟩ := h
  exact ⟨p, h1, key h2.row, fun q hq => key (h2.kids q hq)⟩

/-- The token set. -/
def setNow (w : World) (B : Nat) (t : Tk) : World := ((((w.setCell ⟨B, 2, none⟩ (.int .i32 t.what)).setCell ⟨B, 3, none⟩ (.int .i64 t.from_)).setCell ⟨B, 4, none⟩ (.int .i64 t.to)).setCell ⟨B, 5, none⟩ (.int .u64 t.n)).setCell ⟨B, 6, none⟩ (.int .i64 t.err)
theorem PsM.tok {w : World} {B : Nat} {s : ByteArray} {pat : Bool} {st : Ps} {v : Value} (h : PsM w B s pat st v) (t : Tk) : PsM (setNow w B t) B s pat { st with now := t } v := by
  refine ⟨?_, own_setB (own_setB (own_setB (own_setB (own_setB h.own))))⟩
  have h0 := heap_setCell_same w B 2 _ _ (.int .i32 t.what) h.blk
  have h1 := heap_setCell_same _ B 3 _ _ (.int .i64 (t.from_ : Int)) h0
  have h2 := heap_setCell_same _ B 4 _ _ (.int .i64 (t.to : Int)) h1
  have h3 := heap_setCell_same _ B 5 _ _ (.int .u64 (t.n : Int)) h2
  have h4 := heap_setCell_same _ B 6 _ _ (.int .i64 t.err) h3
  exact h4
/-- The nodes set. -/
theorem PsM.nds {w w' : World} {B : Nat} {s : ByteArray} {pat : Bool} {st : Ps} {v v' : Value} {l : List Nd} (h : PsM w B s pat st v) (hb : w'.heap[B]? = w.heap[B]?) (hO : OwnN w' (B + 1) v' l) : PsM (w'.setCell ⟨B, 7, none⟩ v') B s pat { st with nodes := l } v' :=
  ⟨heap_setCell_same w' B 7 _ _ v' (hb.trans h.blk), own_setB hO⟩
/-- The brackets set. -/
theorem PsM.brks {w : World} {B : Nat} {s : ByteArray} {pat : Bool} {st : Ps} {v : Value} (h : PsM w B s pat st v) (k : Nat) : PsM (w.setCell ⟨B, 8, none⟩ (.int .i64 k)) B s pat { st with brk := k } v :=
  ⟨heap_setCell_same w B 8 _ _ (.int .i64 (k : Int)) h.blk, own_setB h.own⟩

/-- The tables lie below the parser, since the world w0. -/
structure PEnv (w0 : World) (B : Nat) (w : World) : Prop where
  tabs : Tabs w0
  le : w0.heap.size ≤ B
  bel : Below w0.heap.size w0 w
theorem PEnv.tab {w0 : World} {B : Nat} {w : World} (h : PEnv w0 B w) : Tabs w := h.tabs.below h.bel
theorem PEnv.next {w0 : World} {B : Nat} {w w' : World} (h : PEnv w0 B w) (hb : Below B w w') : PEnv w0 B w' := ⟨h.tabs, h.le, h.bel.trans (hb.mono h.le)⟩

theorem psSkip_step (s : ByteArray) (f p : Nat) (hp : p < s.size) : psSkip s (f + 1) p = if kd (Utf8.decode s p).1 = 3 then psSkip s f (p + (Utf8.decode s p).2) else p := by
  simp [psSkip, hp]
theorem psSkip_end (s : ByteArray) (f p : Nat) (hp : ¬ p < s.size) : psSkip s f p = p := by cases f <;> simp [psSkip, hp]
theorem Ends.mono {α : Type} {x : Pr α} {e : Ending} {Q Q' : α → Prop} (h : Ends x e Q) (hq : ∀ a, x = .ok a → Q a → Q' a) : Ends x e Q' := by
  cases x with
  | ok a => exact hq a rfl h
  | bad p er => exact h
  | out => trivial
theorem Ends.map {α β : Type} {x : Pr α} {e : Ending} {f : α → β} {Q : β → Prop} (h : Ends x e (fun a => Q (f a))) : Ends (x.bind fun a => .ok (f a)) e Q := by
  cases x with
  | ok a => exact h
  | bad p er => exact h
  | out => trivial

/-- All but block B stands, and what is new lies behind. -/
theorem gr_of_below {w w' : World} (h : RowKit.Below w.heap.size w w') (row : Option Nat) : w.grownBy w' row := ⟨h.os, h.tape, h.output, h.size, fun k hk _ => h.block k hk⟩
theorem gr_setB {w0 w : World} {B o : Nat} {u : Value} (h : w0.grownBy w (some B)) : w0.grownBy (w.setCell ⟨B, o, none⟩ u) (some B) :=
  ⟨h.os, h.tape, h.output, by simpa [World.setCell] using h.size, fun k hk hne => (Below.heap_setCell _ _ _ _ (fun e => hne (by rw [e]))).trans (h.block k hk hne)⟩
theorem gr_setNow {w0 w : World} {B : Nat} (h : w0.grownBy w (some B)) (t : Tk) : w0.grownBy (setNow w B t) (some B) := gr_setB (gr_setB (gr_setB (gr_setB (gr_setB h))))
theorem below_of_gr {w w' : World} {B : Nat} (h : w.grownBy w' (some B)) (hB : B ≤ w.heap.size) : RowKit.Below B w w' := ⟨h.os, h.tape, h.output, h.size, fun k hk => h.block k (by omega) (by intro e; cases e; omega)⟩
end Go.Proofs.YtdcfffcimikfeaaDoor

namespace Go.Proofs.YtdcfffcimikfeaaDoor
open Go Go.Sort Go.RowKit

section
variable {P : Program} {ops : Array Oper} {md : Region.Mode} {C : World → Prop}

/-- f operations of the first n are still to come, each quiet in the class; behind them L. -/
def QHead (P : Program) (md : Region.Mode) (ops : Array Oper) (C : World → Prop) (n : Nat) (L : Array Bool → Act → Prop) : Nat → Array Bool → Act → Prop
  | 0, ls, a => L ls a
  | f + 1, ls, a => Region.ready md ops ls ≠ [] ∧ ∀ i ∈ Region.ready md ops ls, i < n ∧ qOp P ops C i (QHead P md ops C n L f (ls.setIfInBounds i true)) a

theorem QHead.any {n g : Nat} {L : Array Bool → Act → Prop} {Q : Exit → Act → World → Prop} (hL : ∀ ls a w, C w → L ls a → wpAny P md ops Q g ls a w) : ∀ (f : Nat) (ls : Array Bool) (a : Act) (w : World), C w → QHead P md ops C n L f ls a → wpAny P md ops Q (f + g) ls a w := by
  intro f
  induction f with
  | zero => intro ls a w hw h; rw [Nat.zero_add]; exact hL _ _ _ hw h
  | succ f ih =>
    intro ls a w hw h
    have e : f + 1 + g = (f + g) + 1 := by omega
    rw [e]
    exact ⟨fun h0 => absurd h0 h.1, fun i hi => wpOp_of_qOp hw (fun a' w' hw' h' => ih _ a' w' hw' h') (h.2 i hi).2⟩

/-- One that is ready, and apart from all that don't wait for it, may come first. -/
theorem QHead.first {n i : Nat} {oi : Oper} {v : Value} {L : Array Bool → Act → Prop} (hi : ops[i]? = some oi) (hsel : ∀ (j : Nat) (o : Oper) cs b, ops[j]? = some o → o.op ≠ .select cs b)
    (hs : Region.sinkB md ops n = true) (hc : Region.chainB md ops n = true) (hn : n < ops.size) (hin : i < n) (hdone : ∀ ls a, L ls a → ∀ j ∈ Region.ready md ops ls, n ≤ j) :
    ∀ (f : Nat) (ls : Array Bool) (a : Act), HeadInv md ops n ls →
      (∀ j oj, ops[j]? = some oj → j ≠ i → ls.getD j true = false → (∀ e ∈ oj.after, Region.binds md e = true → e.on ≠ i) → oi.apart ops oj = true) →
      i ∈ Region.ready md ops ls → YieldsIn P ops C oi v a → QHead P md ops C n L f (ls.setIfInBounds i true) (a.put oi.dst v) → QHead P md ops C n L (f + 1) ls a := by
  intro f
  induction f with
  | zero =>
    intro ls a inv _ hr hy H
    have hun := (mem_ready.1 hr).1
    constructor
    · intro h; rw [h] at hr; cases hr
    · intro j hj
      have hjn : j < n := Nat.lt_of_not_le fun h => tail_waits hs hc hn inv _ i rfl hin hun j h hj
      refine ⟨hjn, ?_⟩
      by_cases hji : j = i
      · subst hji; exact hy.qOp hi H
      · have := hdone _ _ H j (ready_mono hj hji); omega
  | succ f ih =>
    intro ls a inv hfree hr hy H
    have hun := (mem_ready.1 hr).1
    constructor
    · intro h; rw [h] at hr; cases hr
    · intro j hj
      have hjn : j < n := Nat.lt_of_not_le fun h => tail_waits hs hc hn inv _ i rfl hin hun j h hj
      refine ⟨hjn, ?_⟩
      by_cases hji : j = i
      · subst hji; exact hy.qOp hi H
      · obtain ⟨hjun, oj, hoj, hall⟩ := mem_ready.1 hj
        have hnot : ∀ e ∈ oj.after, Region.binds md e = true → e.on ≠ i := fun e he hb heq => by
          have h1 := hall e he hb
          rw [heq, getD_both hun] at h1
          cases h1
        have h2 := qOp_put hoj (hfree j oj hoj hji hjun hnot) (fun cs b => hsel i oi cs b hi) (fun cs b => hsel j oj cs b hoj) hy (H.2 j (ready_mono hj hji)).2
        have hfree' : ∀ k ok, ops[k]? = some ok → k ≠ i → (ls.setIfInBounds j true).getD k true = false → (∀ e ∈ ok.after, Region.binds md e = true → e.on ≠ i) → oi.apart ops ok = true := fun k ok hk hki hu hno => by
          refine hfree k ok hk hki ?_ hno
          by_cases hjk : j = k
          · subst hjk; exact hjun
          · rw [getD_set_ne true hjk] at hu; exact hu
        refine qOp_mono (fun a' h3 => ih (ls.setIfInBounds j true) a' (inv.set hj hjn) hfree' (ready_mono hr (Ne.symm hji)) h3.1 ?_) h2
        rw [Array.setIfInBounds_comm _ _ hji]
        exact h3.2

theorem QHead.lex {n g : Nat} {K : Act → Prop} (hsel : Region.noSelect ops = true) (hs : Region.sinkB md ops n = true) (hc : Region.chainB md ops n = true) (hn : n < ops.size) :
    ∀ (l : List Oper) (k : Nat) (ls : Array Bool) (a : Act), (∀ j, j < l.length → l[j]? = ops[k + j]?) → k + l.length = n → HeadInv md ops n ls → Region.lexHead md ops g l.length k ls = true → wpQuiet P ops C K l a →
      QHead P md ops C n (fun ls' a' => Region.seqB md ops g n ls' = true ∧ K a') l.length ls a := by
  intro l
  induction l with
  | nil =>
    intro k ls a _ hk _ hB h
    have : k = n := by simpa using hk
    subst this
    exact ⟨by simpa [Region.lexHead] using hB, h⟩
  | cons o l ih =>
    intro k ls a hl hk inv hB h
    have h0 : ops[k]? = some o := by simpa using (hl 0 (by simp)).symm
    simp only [List.length_cons, Region.lexHead, Bool.and_eq_true] at hB
    have hkn : k < n := by simp only [List.length_cons] at hk; omega
    have hr : k ∈ Region.ready md ops ls := by simpa using hB.1.1
    have hq : qOp P ops C k (wpQuiet P ops C K l) a := by unfold qOp; simp only [h0]; exact h
    obtain ⟨v, hy, hK⟩ := yieldsIn_of_qOp h0 hq
    refine QHead.first h0 (Region.noSelect_spec hsel) hs hc hn hkn (fun ls' a' hL => seqB_ready hL.1) l.length ls a inv (Region.free_spec h0 hB.1.2) hr hy ?_
    refine ih (k + 1) _ _ (fun j hj => ?_) (by simp only [List.length_cons] at hk; omega) (inv.set hr hkn) hB.2 hK
    have := hl (j + 1) (by simp; omega)
    simpa [Nat.add_assoc, Nat.add_comm 1 j] using this
end

/-- THE LAW, at the class 'w with new memory laid behind it'. -/
theorem wp_region_quiet_then {P : Program} {id : Nat} {Q : Exit → Act → World → Prop} {a : Act} {w : World} {l : List Oper} (n : Nat) (hm : P.follows .mixedOrders = true) (hB : Region.lexTailB .any l.toArray n = true)
    (h : wpQuiet P l.toArray (fun w' => ∃ p : Regrown, w' = grow (redrawn w p.d) p.os) (fun a' => ∀ w', (∃ p : Regrown, w' = grow (redrawn w p.d) p.os) → wpList P l.toArray Q (l.drop n) a' w') (l.take n) a) : (Code.region id l.toArray true).wp P Q a w := by
  simp only [Region.lexTailB, Bool.and_eq_true, decide_eq_true_eq] at hB
  obtain ⟨⟨⟨⟨hsel, hn⟩, hs⟩, hc⟩, hlex⟩ := hB
  have hn' : n < l.length := by simpa using hn
  have htl : (l.take n).length = n := by simp; omega
  have hdl : (l.drop n).length = l.toArray.size - n := by simp
  have inv0 : HeadInv .any l.toArray n (Array.replicate l.toArray.size false) :=
    ⟨by simp, fun j oj _ hl => (by rw [getD_replicate_false] at hl; cases hl), fun t _ ht => getD_in (by simpa using ht) (getD_replicate_false _ _)⟩
  have H := QHead.lex (P := P) (md := .any) (g := l.toArray.size - n) hsel hs hc hn (l.take n) 0 _ a (fun j hj => by
    have hj' : j < n := by rw [htl] at hj; exact hj
    simp [hj']) (by simpa using htl) inv0 (by rw [htl]; exact hlex) h
  refine wp_region_any hm ?_
  have := QHead.any (Q := Q) (g := l.toArray.size - n) (fun ls a' w' hw' hL => by
    have := wpAny_of_seq (md := .any) (Q' := Q) (l.drop n) n ls a' w' (fun j => by simp [List.getElem?_drop]) (by rw [hdl]; exact hL.1) (hL.2 w' hw')
    rwa [hdl] at this) _ _ _ { w with drawn := w.drawn + 1 } ⟨⟨w.drawn + 1, #[]⟩, by rw [grow_empty]; rfl⟩ H
  rw [htl, show n + (l.toArray.size - n) = l.toArray.size by omega] at this
  exact this
end Go.Proofs.YtdcfffcimikfeaaDoor
