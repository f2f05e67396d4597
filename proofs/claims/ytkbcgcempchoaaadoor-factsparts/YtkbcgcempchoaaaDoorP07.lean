/-
  ExAddP, SwPure, EwW, EwEvW, FaP.
-/
import Derived.Shelf.Unicode.DecodeSlow
import Derived.Laws.RangeAny
import Derived.Shelf.Small.Bits
import Derived.Shelf.Strconv.Itoa0
import Derived.Shelf.LaysM
import Derived.Shelf.Strconv.Clone
import Derived.Shelf.Unicode.DecodeAny
import Derived.Ground.SlsfProg
import Derived.Shelf.SlSortCmp.Insertion
import Derived.Shelf.SlSortCmp.SiftDown1
import Derived.Shelf.SlSortCmp.HeapSort1
import Derived.Shelf.SlSortCmp.Insertion1
import Derived.Shelf.SlSortCmp.Median1
import Derived.Shelf.SlSortCmp.Pivot1
import Derived.Shelf.SlSortCmp.ReverseRange1
import Derived.Shelf.SlSortCmp.PartitionEqual1
import Derived.Test.YtkbcgcempchoaaaDoorProg
import Derived.WalkKit
import Derived.Deep.DeepFit
import Derived.Lib.OthersKept
import Derived.Lib.RuneCountTail
import Derived.RowKit
import Derived.Laws.Entries
import Derived.Below
import Derived.Deep.AppendLies
import Derived.Deep.OwnRows
import Derived.Laws.AppendOwnNone
import Derived.Deep.QuietTactic
import Derived.BigQuiet
import Derived.Deep.RegionWith
import Derived.Laws.DeepStrings4
import Derived.RangeFuncNested
import Derived.RangeFuncBound
import Derived.RangeFuncCalls
import Derived.RangeFuncLeaves
import Derived.RangeFuncBox
import Derived.Shelf.Abstract
import Derived.Shelf.RegionOpen
import Derived.OwnWalkIn
import Derived.TacticsInMore
import Derived.LoopNIn
import Derived.LoopIn
import Derived.Lib.Strings
import Derived.Lib.QuietBelow
import Derived.StillTail
import Derived.Deep.RegionLaw
import Derived.RangeFuncOwn
import Derived.Test.YtkbcgcempchoaaaDoorP01
import Derived.Test.YtkbcgcempchoaaaDoorP02
import Derived.Test.YtkbcgcempchoaaaDoorP03
import Derived.Test.YtkbcgcempchoaaaDoorP04
import Derived.Test.YtkbcgcempchoaaaDoorP05
import Derived.Test.YtkbcgcempchoaaaDoorP06
set_option linter.unusedSimpArgs false
set_option linter.unusedVariables false
namespace Go.Proofs.YtkbcgcempchoaaaDoor
open Go.RowKit Go.Lib

/-- In the middle of it. -/
structure AddMid (w : World) (base : Nat) (v : Value) (p : List (Nd × Value)) (ms : List Nd) (x : Value) (wr : World) : Prop where
  ex : ∃ p', OwnP wr base x (p ++ p') ∧ p'.map (·.1) = ms ∧ (∀ q ∈ p', OwnI wr w.heap.size q.2 q.1.kids) ∧ w.grownBy wr v.ownBlock ∧ (x.ownBlock = v.ownBlock ∨ ∀ g, x.ownBlock = some g → w.heap.size ≤ g) ∧ Below base w wr

theorem AddMid.start {w : World} {base : Nat} {v : Value} {p : List (Nd × Value)} (h : OwnP w base v p) : AddMid w base v p [] v w :=
  ⟨⟨[], by simpa using h, rfl, by simp, World.grownBy.refl _ _, .inl rfl, Below.refl _ _⟩⟩

/-- One node more: its kids are owned (new since wr), the append has gone through. -/
theorem AddMid.snoc {w : World} {base : Nat} {v x : Value} {p p' : List (Nd × Value)} {ms : List Nd} {wr W w1 : World} {y : Nd} {kv : Value} {g n cap : Nat} (hP : OwnP wr base x (p ++ p')) (hm : p'.map (·.1) = ms) (hkid : ∀ q ∈ p', OwnI wr w.heap.size q.2 q.1.kids) (hgr : w.grownBy wr v.ownBlock) (hx : x.ownBlock = v.ownBlock ∨ ∀ g, x.ownBlock = some g → w.heap.size ≤ g) (hB : Below base w wr)
    (hbase : base ≤ w.heap.size) (hBW : Below wr.heap.size wr W) (hk : OwnI W wr.heap.size kv y.kids) (hn : n = (p ++ p').length)
    (hown : w1.ownsRow base 50 4 (.slice (some ⟨g, 0, none⟩) (n + 1) cap) (n + 1) (ndCells (p ++ p') ++ [.int .i64 y.op, .int .i64 y.n, .string y.name, kv])) (hg : W.grownBy w1 x.ownBlock) (hat : x.ownBlock = some g ∨ g = W.heap.size) :
    AddMid w base v p (ms ++ [y]) (.slice (some ⟨g, 0, none⟩) (n + 1) cap) w1 := by
  have hsz : w.heap.size ≤ wr.heap.size := hgr.size
  have hPW := hP.below hBW
  have hkb : OwnI W base kv y.kids := ownsRow_mono hk (by omega)
  refine ⟨⟨p' ++ [(y, kv)], ?_, by simp [hm], fun q hq => ?_, ?_, ?_, ?_⟩⟩
  · rw [← List.append_assoc]
    subst hn
    exact hPW.snoc hkb hown hg
  · rcases List.mem_append.1 hq with hq | hq
    · have h1 := (hkid q hq).below hBW
      exact World.ownsRow.kept h1 hg (ownBlock_ne h1 hPW.row (by decide))
    · simp at hq; subst hq
      exact ownsRow_mono (World.ownsRow.kept hk hg (ownBlock_ne hk hPW.row (by decide))) hsz
  · refine ⟨hg.os.trans (hBW.os.trans hgr.os), hg.tape.trans (hBW.tape.trans hgr.tape), hg.output.trans (hBW.output.trans hgr.output), Nat.le_trans hsz (Nat.le_trans hBW.size hg.size), fun k hk1 hk2 => ?_⟩
    rw [hg.block k (by have := hBW.size; omega) (fun he => by
      rcases hx with hx | hx
      · rw [hx] at he; exact hk2 he
      · have := hx k he.symm; omega), hBW.block k (by omega), hgr.block k hk1 hk2]
  · rcases hat with hat | hat
    · rcases hx with hx | hx
      · left; show some g = v.ownBlock; rw [← hx, hat]
      · right; intro g' hg'; have e : g = g' := Option.some.inj hg'; have := hx g hat; omega
    · right; intro g' hg'; have e : g = g' := Option.some.inj hg'; have := hBW.size; omega
  · exact (hB.trans (hBW.mono (by omega))).grown hg (by have := hBW.size; omega) (fun k hk => (hPW.row.lt k hk).1)

end Go.Proofs.YtkbcgcempchoaaaDoor

namespace Go.Proofs.YtkbcgcempchoaaaDoor
open Go.RowKit Go.Lib

/-- The slice v reads as the lists ps, in blocks below B. -/
def Lst (w : World) (B : Nat) (v : Value) (ps : List (List Nd)) : Prop :=
  ∃ ao cap, v = .slice ao ps.length cap ∧ ps.length ≤ cap ∧ cap ≤ maxLen ∧ (ps = [] ∨ ∃ b o, ao = some ⟨b, o, none⟩ ∧ b < B ∧ ∀ i, i < ps.length → ∃ pv, w.cell? ⟨b, o + i, none⟩ = some pv ∧ Nodes w B pv (ps.getD i []))

theorem Lst.below {w w' : World} {B B' : Nat} {v : Value} {ps : List (List Nd)} (h : Lst w B v ps) (hb : Below B w w') (hB : B ≤ B') : Lst w' B' v ps := by
  obtain ⟨ao, cap, rfl, h1, h2, h3⟩ := h
  refine ⟨ao, cap, rfl, h1, h2, ?_⟩
  rcases h3 with h3 | ⟨b, o, rfl, hlt, hc⟩
  · exact .inl h3
  · exact .inr ⟨b, o, rfl, by omega, fun i hi => let ⟨pv, h4, h5⟩ := hc i hi; ⟨pv, (hb.cell (p := ⟨b, o + i, none⟩) hlt).trans h4, h5.below hb hB⟩⟩

theorem OwnP.kept {w w' : World} {base base' : Nat} {v v2 : Value} {p : List (Nd × Value)} {e : TypeId} {s n : Nat} {xs : List Value} (h : OwnP w base v p) (hg : w.grownBy w' v2.ownBlock) (hr : w.ownsRow base' e s v2 n xs) (h1 : 50 ≠ e) (h2 : 3 ≠ e) : OwnP w' base v p :=
  ⟨World.ownsRow.kept h.row hg (ownBlock_ne h.row hr h1), fun q hq => World.ownsRow.kept (h.kids q hq) hg (ownBlock_ne (h.kids q hq) hr h2)⟩
theorem OwnN.kept {w w' : World} {base base' : Nat} {v v2 : Value} {l : List Nd} {e : TypeId} {s n : Nat} {xs : List Value} (h : OwnN w base v l) (hg : w.grownBy w' v2.ownBlock) (hr : w.ownsRow base' e s v2 n xs) (h1 : 50 ≠ e) (h2 : 3 ≠ e) : OwnN w' base v l :=
  let ⟨p, h3, h4⟩ := h; ⟨p, h3, h4.kept hg hr h1 h2⟩

/-- Lists of lists of the call's own; pvs: the slices. -/
structure OwnLs (w : World) (base : Nat) (v : Value) (ps : List (List Nd)) (pvs : List Value) : Prop where
  len : pvs.length = ps.length
  row : w.ownsRow base 22 1 v ps.length pvs
  each : ∀ i, i < ps.length → OwnN w base (pvs.getD i (.slice none 0 0)) (ps.getD i [])

theorem OwnLs.snoc {w w1 : World} {base : Nat} {v v' : Value} {ps : List (List Nd)} {pvs : List Value} {l : List Nd} {pv : Value} (h : OwnLs w base v ps pvs) (hl : OwnN w base pv l)
    (hown : w1.ownsRow base 22 1 v' (ps.length + 1) (pvs ++ [pv])) (hg : w.grownBy w1 v.ownBlock) : OwnLs w1 base v' (ps ++ [l]) (pvs ++ [pv]) := by
  have hlen := h.len
  refine ⟨by simp [hlen], by simpa using hown, fun i hi => ?_⟩
  by_cases hlt : i < ps.length
  · have e1 : (pvs ++ [pv]).getD i (.slice none 0 0) = pvs.getD i (.slice none 0 0) := by simp only [List.getD_eq_getElem?_getD]; rw [List.getElem?_append_left (by omega)]
    have e2 : (ps ++ [l]).getD i [] = ps.getD i [] := by simp only [List.getD_eq_getElem?_getD]; rw [List.getElem?_append_left (by omega)]
    rw [e1, e2]
    exact (h.each i hlt).kept hg h.row (by decide) (by decide)
  · have he : i = ps.length := by simp at hi; omega
    have e1 : (pvs ++ [pv]).getD i (.slice none 0 0) = pv := by rw [he, ← hlen]; simp
    have e2 : (ps ++ [l]).getD i [] = l := by rw [he]; simp
    rw [e1, e2]
    exact hl.kept hg h.row (by decide) (by decide)

theorem OwnLs.below {w w' : World} {base : Nat} {v : Value} {ps : List (List Nd)} {pvs : List Value} (h : OwnLs w base v ps pvs) (hb : Below w.heap.size w w') : OwnLs w' base v ps pvs :=
  ⟨h.len, ownsRow_below h.row hb, fun i hi => (h.each i hi).below hb⟩

end Go.Proofs.YtkbcgcempchoaaaDoor

set_option linter.unusedSimpArgs false
set_option linter.unusedVariables false
namespace Go.Proofs.YtkbcgcempchoaaaDoor
open Go.RowKit Go.Lib

/-- One cell of an owned row is set. -/
theorem own_put {w : World} {base : Nat} {e : TypeId} {s n g cap : Nat} {xs : List Value} {i : Nat} {u : Value} (h : w.ownsRow base e s (.slice (some ⟨g, 0, none⟩) n cap) n xs) (hi : i < xs.length) : (w.setCell ⟨g, i, none⟩ u).ownsRow base e s (.slice (some ⟨g, 0, none⟩) n cap) n (xs.set i u) := by
  obtain ⟨h1, h2⟩ := h
  refine ⟨by simpa using h1, ?_⟩
  rcases h2 with ⟨h2, _⟩ | ⟨g', cap', cur, h3, hb, hg, hn, hm, hs, ht⟩
  · cases h2
  · cases h3
    refine .inr ⟨g, cap, cur.setIfInBounds i u, rfl, hb, heap_setCell_same w g i cur e u hg, hn, hm, by simpa using hs, ?_⟩
    rw [← ht]
    simp [List.take_set]

theorem own_block' {w : World} {base : Nat} {e : TypeId} {s n : Nat} {v : Value} {xs : List Value} (h : w.ownsRow base e s v n xs) : ∀ b, v.ownBlock = some b → base ≤ b ∧ b < w.heap.size := by
  intro b hb
  rcases h.2 with ⟨rfl, _⟩ | ⟨g, cap, cur, rfl, h1, h2, _⟩
  · cases hb
  · simp [Value.ownBlock] at hb; subst hb; exact ⟨h1, lt_of_block h2⟩
theorem row_form' {w : World} {base : Nat} {e : TypeId} {s n : Nat} {v : Value} {xs : List Value} (h : w.ownsRow base e s v n xs) : ∃ ao cap, v = .slice ao n cap := by
  rcases h.2 with ⟨rfl, h0⟩ | ⟨g', cap', cur, rfl, _⟩
  · exact ⟨none, 0, by rw [h0]⟩
  · exact ⟨_, _, rfl⟩

/-- The names' list, the number to stop at: where the function finds them. -/
structure Cst (w : World) (A Sb Nb : Nat) (stop : Int) (na : Option Addr) (nc : Nat) (names : List ByteArray) : Prop where
  sb : Sb < A
  nb : Nb < A
  stopC : w.cell? ⟨Sb, 0, none⟩ = some (.int .i64 stop)
  namesC : w.cell? ⟨Nb, 0, none⟩ = some (.slice na names.length nc)
  len : names.length ≤ nc ∧ nc ≤ maxLen
  row : names = [] ∨ ∃ b o, na = some ⟨b, o, none⟩ ∧ b < A ∧ ∀ j, j < names.length → w.cell? ⟨b, o + j, none⟩ = some (.string (names.getD j ⟨#[]⟩))
theorem Cst.below {w w' : World} {A Sb Nb : Nat} {stop : Int} {na : Option Addr} {nc : Nat} {names : List ByteArray} (h : Cst w A Sb Nb stop na nc names) (hb : Below A w w') : Cst w' A Sb Nb stop na nc names :=
  ⟨h.sb, h.nb, (hb.cell (p := ⟨Sb, 0, none⟩) h.sb).trans h.stopC, (hb.cell (p := ⟨Nb, 0, none⟩) h.nb).trans h.namesC, h.len, by
    rcases h.row with h | ⟨b, o, e, hlt, hc⟩
    · exact .inl h
    · exact .inr ⟨b, o, e, hlt, fun j hj => (hb.cell (p := ⟨b, o + j, none⟩) hlt).trans (hc j hj)⟩⟩

/-- What has been asked. -/
structure AskAt (w : World) (A : Nat) (va : Value) (qs : List ByteArray) : Prop where
  blk : w.heap[A]? = some (.cells #[va] 33 (0, 0))
  row : w.ownsRow (A + 1) 9 1 va qs.length (qs.map Value.string)
theorem AskAt.below {w w' : World} {A : Nat} {va : Value} {qs : List ByteArray} (h : AskAt w A va qs) (hb : Below w.heap.size w w') : AskAt w' A va qs :=
  ⟨(hb.block _ (lt_of_block h.blk)).trans h.blk, ownsRow_below h.row hb⟩

end Go.Proofs.YtkbcgcempchoaaaDoor

set_option linter.unusedSimpArgs false
set_option linter.unusedVariables false
namespace Go.Proofs.YtkbcgcempchoaaaDoor
open Go.RowKit Go.Lib

/-- A work: its block p holds the environment and the numbers' list, which is its own. -/
structure Ew (w : World) (p : Nat) (ev v : Value) (st : List Int) : Prop where
  blk : w.heap[p]? = some (.cells #[ev, v] 75 (0, 0))
  on : w.ownsRow (p + 1) 2 1 v st.length (st.map (Value.int .i64))
theorem Ew.lt {w : World} {p : Nat} {ev v : Value} {st : List Int} (h : Ew w p ev v st) : p < w.heap.size := lt_of_block h.blk
theorem Ew.below {w w' : World} {p : Nat} {ev v : Value} {st : List Int} (h : Ew w p ev v st) (hb : Below w.heap.size w w') : Ew w' p ev v st :=
  ⟨(hb.block _ h.lt).trans h.blk, ownsRow_below h.on hb⟩
theorem Ew.c0 {w : World} {p : Nat} {ev v : Value} {st : List Int} (h : Ew w p ev v st) : w.cell? ⟨p, 0, none⟩ = some ev := by simp [World.cell?, h.blk]
theorem Ew.c1 {w : World} {p : Nat} {ev v : Value} {st : List Int} (h : Ew w p ev v st) : w.cell? ⟨p, 1, none⟩ = some v := by simp [World.cell?, h.blk]
/-- Behind an append and the store. -/
theorem Ew.put {w w6 : World} {p : Nat} {ev v v' : Value} {st st' : List Int} (h : Ew w p ev v st) (hb : w6.heap[p]? = w.heap[p]?) (ho : w6.ownsRow (p + 1) 2 1 v' st'.length (st'.map (Value.int .i64))) : Ew (w6.setCell ⟨p, 1, none⟩ v') p ev v' st' := by
  refine ⟨?_, ownsRow_setCell_below ho (by show p < p + 1; omega) _⟩
  have := heap_setCell_same w6 p 1 #[ev, v] 75 v' (hb.trans h.blk)
  simpa using this
/-- What grew by its own row has turned no block but cells. -/
theorem ko_grown {w w' : World} {base : Nat} {e : TypeId} {size n : Nat} {v : Value} {xs : List Value} (ho : w.ownsRow base e size v n xs) (hg : w.grownBy w' v.ownBlock) : KeepsOthers w w' :=
  ⟨hg.size, fun k o hk hc => by
    rw [hg.block k (lt_of_block hk) (fun e' => ?_)]
    · exact hk
    · rcases ho.2 with ⟨rfl, _⟩ | ⟨g, cap, cur, rfl, _, hb, _⟩
      · cases e'
      · have e2 : k = g := by simpa [Value.ownBlock] using e'
        subst e2
        rw [hb] at hk
        cases hk
        cases hc⟩
theorem ko_below {w w' : World} (hb : Below w.heap.size w w') : KeepsOthers w w' := ⟨hb.size, fun k o hk _ => (hb.block k (lt_of_block hk)).trans hk⟩

/-- No block but cells has turned, and of those that lay none but the work and its row. -/
structure KoW (p : Nat) (v : Value) (w w' : World) : Prop where
  ko : KeepsOthers w w'
  same : ∀ b, b < w.heap.size → b ≠ p → some b ≠ v.ownBlock → w'.heap[b]? = w.heap[b]?
theorem KoW.below {p : Nat} {v : Value} {w w' : World} (hb : Below w.heap.size w w') : KoW p v w w' := ⟨ko_below hb, fun b h _ _ => hb.block b h⟩
theorem KoW.trans {p : Nat} {v : Value} {w w' w'' : World} (h : KoW p v w w') (k : KoW p v w' w'') : KoW p v w w'' :=
  ⟨h.ko.trans k.ko, fun b h1 h2 h3 => (k.same b (Nat.lt_of_lt_of_le h1 h.ko.size) h2 h3).trans (h.same b h1 h2 h3)⟩
theorem KoW.grown {p : Nat} {v : Value} {w w' : World} {base : Nat} {e : TypeId} {size n : Nat} {xs : List Value} (ho : w.ownsRow base e size v n xs) (hg : w.grownBy w' v.ownBlock) : KoW p v w w' := ⟨ko_grown ho hg, fun b h1 _ h3 => hg.block b h1 h3⟩
theorem KoW.set {p o : Nat} {v u : Value} {w : World} : KoW p v w (w.setCell ⟨p, o, none⟩ u) := ⟨KeepsOthers.setCell _ _ _, fun b _ h2 _ => Deep.blk_setCell_other _ _ _ _ h2⟩

end Go.Proofs.YtkbcgcempchoaaaDoor

set_option linter.unusedSimpArgs false
set_option linter.unusedVariables false
namespace Go.Proofs.YtkbcgcempchoaaaDoor
open Go.RowKit Go.Lib

/-- What eval's calls find. -/
structure EvIn (w : World) (ao : Option Addr) (cap : Nat) (l : List Nd) (eo : Option Addr) (ec : Nat) (bs : List Bd) : Prop where
  T : SpanCells w
  G : GrpCells w
  R : Rd w ao cap l
  B : Bds w eo ec bs
  reach : bs.length * 24 ≤ 140737488355328
theorem EvIn.below {w w' : World} {ao : Option Addr} {cap : Nat} {l : List Nd} {eo : Option Addr} {ec : Nat} {bs : List Bd} (h : EvIn w ao cap l eo ec bs) (hb : Below w.heap.size w w') : EvIn w' ao cap l eo ec bs :=
  ⟨h.T.below hb, h.G.below hb, h.R.below hb hb.size, h.B.below hb, h.reach⟩

end Go.Proofs.YtkbcgcempchoaaaDoor

set_option linter.unusedSimpArgs false
set_option linter.unusedVariables false
namespace Go.Proofs.YtkbcgcempchoaaaDoor

/-- A fact: Total, Const, N. -/
structure Fc where
  t : Bool
  c : Bool
  n : Int
def fc0 : Fc := ⟨false, false, 0⟩
/-- The fact at a place. -/
def fAt (fs : List Fc) (k : Int) : Fc := fs.getD k.toNat fc0
/-- Whether an operator is a constant, and which. -/
def cnsF (fs : List Fc) (op : Int) (ks : List Int) : Bool × Int :=
  if (ks.all fun k => (fAt fs k).c) = true then (decide ((apR op (ks.map fun k => (fAt fs k).n)).2 = 0), (apR op (ks.map fun k => (fAt fs k).n)).1) else (false, 0)
/-- Whether an operator never traps. -/
def totF (fs : List Fc) (op : Int) (ks : List Int) : Bool :=
  (ks.all fun k => (fAt fs k).t) && ((op != 8 && op != 9) || ((fAt fs (ks.getD 1 0)).c && (fAt fs (ks.getD 1 0)).n != 0))
/-- What a node tells. -/
def tdF (fs : List Fc) (x : Nd) : Fc :=
  if x.op = 1 then ⟨true, true, x.n⟩ else if x.op = 2 then ⟨true, false, 0⟩ else ⟨totF fs x.op x.kids, (cnsF fs x.op x.kids).1, (cnsF fs x.op x.kids).2⟩
def ftR (fs : List Fc) : List Nd → List Fc
  | [] => fs
  | x :: l => ftR (fs ++ [tdF fs x]) l
/-- The facts of all places. -/
def ft (l : List Nd) : List Fc := ftR [] l
def fA (l : List Nd) (i : Nat) : Fc := (ft l).getD i fc0
/-- What Of answers. -/
def ofR (l : List Nd) : Fc := fA l (l.length - 1)

theorem cnsF_congr {fs gs : List Fc} (op : Int) (ks : List Int) (h : ∀ k ∈ ks, fAt gs k = fAt fs k) : cnsF gs op ks = cnsF fs op ks := by
  unfold cnsF
  have e1 : (ks.all fun k => (fAt gs k).c) = ks.all fun k => (fAt fs k).c := by
    rw [Bool.eq_iff_iff, List.all_eq_true, List.all_eq_true]
    exact ⟨fun H k hk => by rw [← h k hk]; exact H k hk, fun H k hk => by rw [h k hk]; exact H k hk⟩
  have e2 : (ks.map fun k => (fAt gs k).n) = ks.map fun k => (fAt fs k).n := List.map_congr_left fun k hk => by rw [h k hk]
  rw [e1, e2]
theorem totF_congr {fs gs : List Fc} (op : Int) (ks : List Int) (hlen : op = 8 ∨ op = 9 → 1 < ks.length) (h : ∀ k ∈ ks, fAt gs k = fAt fs k) : totF gs op ks = totF fs op ks := by
  unfold totF
  have e1 : (ks.all fun k => (fAt gs k).t) = ks.all fun k => (fAt fs k).t := by
    rw [Bool.eq_iff_iff, List.all_eq_true, List.all_eq_true]
    exact ⟨fun H k hk => by rw [← h k hk]; exact H k hk, fun H k hk => by rw [h k hk]; exact H k hk⟩
  rw [e1]
  by_cases ho : op = 8 ∨ op = 9
  · have hl := hlen ho
    have hm : ks.getD 1 0 ∈ ks := by
      rw [List.getD_eq_getElem?_getD, List.getElem?_eq_getElem hl]; exact List.getElem_mem hl
    rw [h _ hm]
  · have g : (op != 8 && op != 9) = true := by simp; omega
    rw [g]; simp
theorem arity_two {x : Nd} (h : formB x = true) (ho : x.op = 8 ∨ x.op = 9) : x.kids.length = 2 := by
  unfold formB fitB at h
  simp only [Bool.and_eq_true, decide_eq_true_eq] at h
  have h2 := h.1.1.2
  rcases ho with e | e <;> (rw [e] at h2; simp [aritI] at h2; omega)
theorem tdF_congr {fs gs : List Fc} {x : Nd} (hf : formB x = true) (h : ∀ k ∈ x.kids, fAt gs k = fAt fs k) : tdF gs x = tdF fs x := by
  unfold tdF
  rw [cnsF_congr _ _ h, totF_congr _ _ (fun ho => by rw [arity_two hf ho]; omega) h]

theorem getD_snocF (os : List Fc) (a : Fc) (j : Nat) : (os ++ [a]).getD j fc0 = if j < os.length then os.getD j fc0 else if j = os.length then a else fc0 := by
  simp only [List.getD_eq_getElem?_getD, List.getElem?_append]
  split
  · rfl
  · split
    · subst_vars; simp
    · rw [List.getElem?_eq_none (by simp; omega)]; rfl
theorem ftR_len : ∀ (l : List Nd) (fs : List Fc), (ftR fs l).length = fs.length + l.length
  | [], fs => by simp [ftR]
  | x :: l, fs => by rw [ftR, ftR_len l]; simp; omega
theorem ftR_old : ∀ (l : List Nd) (fs : List Fc) (j : Nat), j < fs.length → (ftR fs l).getD j fc0 = fs.getD j fc0
  | [], fs, j, _ => rfl
  | x :: l, fs, j, h => by rw [ftR, ftR_old l _ j (by simp; omega), getD_snocF, if_pos h]
theorem ftR_at : ∀ (l : List Nd) (fs : List Fc) (i : Nat), i < l.length → (∀ k ∈ (l.getD i nd0).kids, 0 ≤ k ∧ k < (fs.length + i : Nat)) → formB (l.getD i nd0) = true →
    (ftR fs l).getD (fs.length + i) fc0 = tdF (ftR fs l) (l.getD i nd0)
  | [], fs, i, h, _, _ => by simp at h
  | x :: l, fs, 0, h, hk, hf => by
    rw [ftR, ftR_old l _ _ (by simp), getD_snocF, if_neg (by omega), if_pos (by omega)]
    show tdF fs x = tdF _ x
    have hk' : ∀ k ∈ x.kids, 0 ≤ k ∧ k < (fs.length + 0 : Nat) := by simpa using hk
    refine (tdF_congr (by simpa using hf) fun k hkk => ?_).symm
    have := hk' k hkk
    unfold fAt
    rw [ftR_old l _ _ (by simp; omega), getD_snocF, if_pos (by omega)]
  | x :: l, fs, i + 1, h, hk, hf => by
    have hk' : ∀ k ∈ (l.getD i nd0).kids, 0 ≤ k ∧ k < (fs.length + (i + 1) : Nat) := by simpa using hk
    have := ftR_at l (fs ++ [tdF fs x]) i (by simp at h; omega) (fun k hkk => by have := hk' k hkk; simp; omega) (by simpa using hf)
    rw [ftR]
    rw [show fs.length + (i + 1) = (fs ++ [tdF fs x]).length + i by simp; omega, this]
    simp
theorem ft_len (l : List Nd) : (ft l).length = l.length := by simpa [ft] using ftR_len l []
theorem fA_at {l : List Nd} {fr : List Nat} (h : BegOk l fr) {i : Nat} (hi : i < l.length) : fA l i = tdF (ft l) (l.getD i nd0) := by
  have := ftR_at l [] i hi (fun k hk => by have := h.kidsUp i hi k hk; simp; omega) (h.at_ i hi).1
  simpa [fA, ft] using this

/-- Two lists whose places answer to each other know the same there. -/
theorem ft_map {l m : List Nd} {fr fm : List Nat} (hl : BegOk l fr) (hm : BegOk m fm) (D : Nat → Prop) (f : Nat → Nat)
    (H : ∀ j, D j → j < l.length ∧ f j < m.length ∧ (m.getD (f j) nd0).op = (l.getD j nd0).op ∧ (m.getD (f j) nd0).n = (l.getD j nd0).n ∧
      (m.getD (f j) nd0).kids = (l.getD j nd0).kids.map (fun k => ((f k.toNat : Nat) : Int)) ∧ ∀ k ∈ (l.getD j nd0).kids, D k.toNat) : ∀ j, D j → fA m (f j) = fA l j := by
  intro j
  induction j using Nat.strongRecOn with
  | _ j ih =>
    intro hj
    obtain ⟨h1, h2, e1, e2, e4, e5⟩ := H j hj
    rw [fA_at hl h1, fA_at hm h2]
    have hform := (hl.at_ j h1).1
    have hku := hl.kidsUp j h1
    unfold tdF
    rw [e1, e2, e4]
    have key : ∀ k ∈ (l.getD j nd0).kids, fAt (ft m) ((f k.toNat : Nat) : Int) = fAt (ft l) k := fun k hk => by
      have := ih k.toNat (by have := hku k hk; omega) (e5 k hk)
      unfold fA at this
      unfold fAt
      rw [Int.toNat_natCast]
      exact this
    have c1 : cnsF (ft m) (l.getD j nd0).op ((l.getD j nd0).kids.map fun k => ((f k.toNat : Nat) : Int)) = cnsF (ft l) (l.getD j nd0).op (l.getD j nd0).kids := by
      unfold cnsF
      have a1 : (((l.getD j nd0).kids.map fun k => ((f k.toNat : Nat) : Int)).all fun k => (fAt (ft m) k).c) = (l.getD j nd0).kids.all fun k => (fAt (ft l) k).c := by
        rw [List.all_map, Bool.eq_iff_iff, List.all_eq_true, List.all_eq_true]
        exact ⟨fun H k hk => by rw [← key k hk]; exact H k hk, fun H k hk => by show (fAt (ft m) _).c = true; rw [key k hk]; exact H k hk⟩
      have a2 : (((l.getD j nd0).kids.map fun k => ((f k.toNat : Nat) : Int)).map fun k => (fAt (ft m) k).n) = (l.getD j nd0).kids.map fun k => (fAt (ft l) k).n := by
        rw [List.map_map]; exact List.map_congr_left fun k hk => by show (fAt (ft m) _).n = _; rw [key k hk]
      rw [a1, a2]
    have c2 : totF (ft m) (l.getD j nd0).op ((l.getD j nd0).kids.map fun k => ((f k.toNat : Nat) : Int)) = totF (ft l) (l.getD j nd0).op (l.getD j nd0).kids := by
      unfold totF
      have a1 : (((l.getD j nd0).kids.map fun k => ((f k.toNat : Nat) : Int)).all fun k => (fAt (ft m) k).t) = (l.getD j nd0).kids.all fun k => (fAt (ft l) k).t := by
        rw [List.all_map, Bool.eq_iff_iff, List.all_eq_true, List.all_eq_true]
        exact ⟨fun H k hk => by rw [← key k hk]; exact H k hk, fun H k hk => by show (fAt (ft m) _).t = true; rw [key k hk]; exact H k hk⟩
      rw [a1]
      by_cases ho : (l.getD j nd0).op = 8 ∨ (l.getD j nd0).op = 9
      · have h2 := arity_two hform ho
        generalize (l.getD j nd0).kids = ks at *
        match ks, h2 with
        | [a, b], _ =>
          have := key b (by simp)
          simp only [List.map_cons, List.map_nil, List.getD_cons_succ, List.getD_cons_zero]
          rw [this]
      · have g : ((l.getD j nd0).op != 8 && (l.getD j nd0).op != 9) = true := by rw [Bool.and_eq_true, bne_iff_ne, bne_iff_ne]; omega
        rw [g]; simp
    rw [c1, c2]

theorem fA_part {l : List Nd} {fr : List Nat} (hb : begL l = some fr) (i : Nat) (hi : i < l.length) : ofR (partL l (fr.getD i 0) i) = fA l i := by
  have h := begOk_of (begL_some hb).2.2.1
  have hp := part_ok h i hi
  have hai := h.low i
  have hin := fun j hj hji => kids_inside h i hi j hj hji
  have hlen := partL_len l (fr.getD i 0) i hi hai
  have hat := fun j hj => partL_at l (fr.getD i 0) i j hi hai hj
  unfold ofR
  rw [hlen]
  obtain ⟨a, ha⟩ : ∃ a, fr.getD i 0 = a := ⟨_, rfl⟩
  rw [ha] at hp hai hin hlen hat ⊢
  rw [show i + 1 - a - 1 = i - a by omega]
  refine ft_map h hp (fun j => a ≤ j ∧ j ≤ i) (fun j => j - a) ?_ i ⟨hai, Nat.le_refl _⟩
  rintro j ⟨h1, h2⟩
  have hg : (partL l a i).getD (j - a) nd0 = mvN 0 (-(a : Int)) (l.getD j nd0) := by
    rw [hat (j - a) (by omega), show a + (j - a) = j by omega]
  have hk := hin j h1 h2
  have hku := h.kidsUp j (by omega)
  refine ⟨by omega, by omega, ?_⟩
  rw [hg]
  refine ⟨rfl, rfl, ?_, fun k hkk => ?_⟩
  · show (l.getD j nd0).kids.map _ = (l.getD j nd0).kids.map _
    refine List.map_congr_left fun k hkk => ?_
    have := hk k hkk
    have := hku k hkk
    unfold mvK
    rw [if_pos (by omega)]
    omega
  · have := hk k hkk
    have := hku k hkk
    omega

end Go.Proofs.YtkbcgcempchoaaaDoor
