/-
  ExAddP, SwPure, EwW, EwApW.
-/
import Derived.Shelf.Unicode.DecodeSlow
import Derived.Laws.RangeAny
import Derived.Shelf.Small.Bits
import Derived.Shelf.Strconv.Itoa0
import Derived.Shelf.LaysM
import Derived.Shelf.Strconv.Clone
import Derived.Shelf.Unicode.DecodeAny
import Derived.Ground.SlsfProg
import Derived.Shelf.SlSortCmp.Insertion
import Derived.Shelf.SlSortCmp.SiftDown1
import Derived.Shelf.SlSortCmp.HeapSort1
import Derived.Shelf.SlSortCmp.Insertion1
import Derived.Shelf.SlSortCmp.Median1
import Derived.Shelf.SlSortCmp.Pivot1
import Derived.Shelf.SlSortCmp.ReverseRange1
import Derived.Shelf.SlSortCmp.PartitionEqual1
import Derived.Test.YtkbcgcempchoaaaDoorProg
import Derived.WalkKit
import Derived.Deep.DeepFit
import Derived.Lib.OthersKept
import Derived.Lib.RuneCountTail
import Derived.RowKit
import Derived.Laws.Entries
import Derived.Below
import Derived.Deep.AppendLies
import Derived.Deep.OwnRows
import Derived.Laws.AppendOwnNone
import Derived.Deep.QuietTactic
import Derived.BigQuiet
import Derived.Deep.RegionWith
import Derived.Laws.DeepStrings4
import Derived.RangeFuncNested
import Derived.RangeFuncBound
import Derived.RangeFuncCalls
import Derived.RangeFuncLeaves
import Derived.RangeFuncBox
import Derived.Shelf.Abstract
import Derived.Shelf.RegionOpen
import Derived.OwnWalkIn
import Derived.TacticsInMore
import Derived.LoopNIn
import Derived.LoopIn
import Derived.Lib.Strings
import Derived.Lib.QuietBelow
import Derived.StillTail
import Derived.Deep.RegionLaw
import Derived.RangeFuncOwn
import Derived.Test.YtkbcgcempchoaaaDoorH01
import Derived.Test.YtkbcgcempchoaaaDoorH02
import Derived.Test.YtkbcgcempchoaaaDoorH03
import Derived.Test.YtkbcgcempchoaaaDoorH04
import Derived.Test.YtkbcgcempchoaaaDoorH06
import Derived.Test.YtkbcgcempchoaaaDoorH07
import Derived.Test.YtkbcgcempchoaaaDoorH08
set_option linter.unusedSimpArgs false
set_option linter.unusedVariables false
namespace Go.Proofs.YtkbcgcempchoaaaDoor
open Go.RowKit Go.Lib

/-- In the middle of it. -/
structure AddMid (w : World) (base : Nat) (v : Value) (p : List (Nd × Value)) (ms : List Nd) (x : Value) (wr : World) : Prop where
  ex : ∃ p', OwnP wr base x (p ++ p') ∧ p'.map (·.1) = ms ∧ (∀ q ∈ p', OwnI wr w.heap.size q.2 q.1.kids) ∧ w.grownBy wr v.ownBlock ∧ (x.ownBlock = v.ownBlock ∨ ∀ g, x.ownBlock = some g → w.heap.size ≤ g) ∧ Below base w wr

theorem AddMid.start {w : World} {base : Nat} {v : Value} {p : List (Nd × Value)} (h : OwnP w base v p) : AddMid w base v p [] v w :=
  ⟨⟨[], by simpa using h, rfl, by simp, World.grownBy.refl _ _, .inl rfl, Below.refl _ _⟩⟩

/-- One node more: its kids are owned (new since wr), the append has gone through. -/
theorem AddMid.snoc {w : World} {base : Nat} {v x : Value} {p p' : List (Nd × Value)} {ms : List Nd} {wr W w1 : World} {y : Nd} {kv : Value} {g n cap : Nat} (hP : OwnP wr base x (p ++ p')) (hm : p'.map (·.1) = ms) (hkid : ∀ q ∈ p', OwnI wr w.heap.size q.2 q.1.kids) (hgr : w.grownBy wr v.ownBlock) (hx : x.ownBlock = v.ownBlock ∨ ∀ g, x.ownBlock = some g → w.heap.size ≤ g) (hB : Below base w wr)
    (hbase : base ≤ w.heap.size) (hBW : Below wr.heap.size wr W) (hk : OwnI W wr.heap.size kv y.kids) (hn : n = (p ++ p').length)
    (hown : w1.ownsRow base 50 4 (.slice (some ⟨g, 0, none⟩) (n + 1) cap) (n + 1) (ndCells (p ++ p') ++ [.int .i64 y.op, .int .i64 y.n, .string y.name, kv])) (hg : W.grownBy w1 x.ownBlock) (hat : x.ownBlock = some g ∨ g = W.heap.size) :
    AddMid w base v p (ms ++ [y]) (.slice (some ⟨g, 0, none⟩) (n + 1) cap) w1 := by
  have hsz : w.heap.size ≤ wr.heap.size := hgr.size
  have hPW := hP.below hBW
  have hkb : OwnI W base kv y.kids := ownsRow_mono hk (by omega)
  refine ⟨⟨p' ++ [(y, kv)], ?_, by simp [hm], fun q hq => ?_, ?_, ?_, ?_⟩⟩
  · rw [← List.append_assoc]
    subst hn
    exact hPW.snoc hkb hown hg
  · rcases List.mem_append.1 hq with hq | hq
    · have h1 := (hkid q hq).below hBW
      exact World.ownsRow.kept h1 hg (ownBlock_ne h1 hPW.row (by decide))
    · simp at hq; subst hq
      exact ownsRow_mono (World.ownsRow.kept hk hg (ownBlock_ne hk hPW.row (by decide))) hsz
  · refine ⟨hg.os.trans (hBW.os.trans hgr.os), hg.tape.trans (hBW.tape.trans hgr.tape), hg.output.trans (hBW.output.trans hgr.output), Nat.le_trans hsz (Nat.le_trans hBW.size hg.size), fun k hk1 hk2 => ?_⟩
    rw [hg.block k (by have := hBW.size; omega) (fun he => by
      rcases hx with hx | hx
      · rw [hx] at he; exact hk2 he
      · have := hx k he.symm; omega), hBW.block k (by omega), hgr.block k hk1 hk2]
  · rcases hat with hat | hat
    · rcases hx with hx | hx
      · left; show some g = v.ownBlock; rw [← hx, hat]
      · right; intro g' hg'; have e : g = g' := Option.some.inj hg'; have := hx g hat; omega
    · right; intro g' hg'; have e : g = g' := Option.some.inj hg'; have := hBW.size; omega
  · exact (hB.trans (hBW.mono (by omega))).grown hg (by have := hBW.size; omega) (fun k hk => (hPW.row.lt k hk).1)

end Go.Proofs.YtkbcgcempchoaaaDoor

namespace Go.Proofs.YtkbcgcempchoaaaDoor
open Go.RowKit Go.Lib

/-- The slice v reads as the lists ps, in blocks below B. -/
def Lst (w : World) (B : Nat) (v : Value) (ps : List (List Nd)) : Prop :=
  ∃ ao cap, v = .slice ao ps.length cap ∧ ps.length ≤ cap ∧ cap ≤ maxLen ∧ (ps = [] ∨ ∃ b o, ao = some ⟨b, o, none⟩ ∧ b < B ∧ ∀ i, i < ps.length → ∃ pv, w.cell? ⟨b, o + i, none⟩ = some pv ∧ Nodes w B pv (ps.getD i []))

theorem Lst.below {w w' : World} {B B' : Nat} {v : Value} {ps : List (List Nd)} (h : Lst w B v ps) (hb : Below B w w') (hB : B ≤ B') : Lst w' B' v ps := by
  obtain ⟨ao, cap, rfl, h1, h2, h3⟩ := h
  refine ⟨ao, cap, rfl, h1, h2, ?_⟩
  rcases h3 with h3 | ⟨b, o, rfl, hlt, hc⟩
  · exact .inl h3
  · exact .inr ⟨b, o, rfl, by omega, fun i hi => let ⟨pv, h4, h5⟩ := hc i hi; ⟨pv, (hb.cell (p := ⟨b, o + i, none⟩) hlt).trans h4, h5.below hb hB⟩⟩

theorem OwnP.kept {w w' : World} {base base' : Nat} {v v2 : Value} {p : List (Nd × Value)} {e : TypeId} {s n : Nat} {xs : List Value} (h : OwnP w base v p) (hg : w.grownBy w' v2.ownBlock) (hr : w.ownsRow base' e s v2 n xs) (h1 : 50 ≠ e) (h2 : 3 ≠ e) : OwnP w' base v p :=
  ⟨World.ownsRow.kept h.row hg (ownBlock_ne h.row hr h1), fun q hq => World.ownsRow.kept (h.kids q hq) hg (ownBlock_ne (h.kids q hq) hr h2)⟩
theorem OwnN.kept {w w' : World} {base base' : Nat} {v v2 : Value} {l : List Nd} {e : TypeId} {s n : Nat} {xs : List Value} (h : OwnN w base v l) (hg : w.grownBy w' v2.ownBlock) (hr : w.ownsRow base' e s v2 n xs) (h1 : 50 ≠ e) (h2 : 3 ≠ e) : OwnN w' base v l :=
  let ⟨p, h3, h4⟩ := h; ⟨p, h3, h4.kept hg hr h1 h2⟩

/-- Lists of lists of the call's own; pvs: the slices. -/
structure OwnLs (w : World) (base : Nat) (v : Value) (ps : List (List Nd)) (pvs : List Value) : Prop where
  len : pvs.length = ps.length
  row : w.ownsRow base 22 1 v ps.length pvs
  each : ∀ i, i < ps.length → OwnN w base (pvs.getD i (.slice none 0 0)) (ps.getD i [])

theorem OwnLs.snoc {w w1 : World} {base : Nat} {v v' : Value} {ps : List (List Nd)} {pvs : List Value} {l : List Nd} {pv : Value} (h : OwnLs w base v ps pvs) (hl : OwnN w base pv l)
    (hown : w1.ownsRow base 22 1 v' (ps.length + 1) (pvs ++ [pv])) (hg : w.grownBy w1 v.ownBlock) : OwnLs w1 base v' (ps ++ [l]) (pvs ++ [pv]) := by
  have hlen := h.len
  refine ⟨by simp [hlen], by simpa using hown, fun i hi => ?_⟩
  by_cases hlt : i < ps.length
  · have e1 : (pvs ++ [pv]).getD i (.slice none 0 0) = pvs.getD i (.slice none 0 0) := by simp only [List.getD_eq_getElem?_getD]; rw [List.getElem?_append_left (by omega)]
    have e2 : (ps ++ [l]).getD i [] = ps.getD i [] := by simp only [List.getD_eq_getElem?_getD]; rw [List.getElem?_append_left (by omega)]
    rw [e1, e2]
    exact (h.each i hlt).kept hg h.row (by decide) (by decide)
  · have he : i = ps.length := by simp at hi; omega
    have e1 : (pvs ++ [pv]).getD i (.slice none 0 0) = pv := by rw [he, ← hlen]; simp
    have e2 : (ps ++ [l]).getD i [] = l := by rw [he]; simp
    rw [e1, e2]
    exact hl.kept hg h.row (by decide) (by decide)

theorem OwnLs.below {w w' : World} {base : Nat} {v : Value} {ps : List (List Nd)} {pvs : List Value} (h : OwnLs w base v ps pvs) (hb : Below w.heap.size w w') : OwnLs w' base v ps pvs :=
  ⟨h.len, ownsRow_below h.row hb, fun i hi => (h.each i hi).below hb⟩

end Go.Proofs.YtkbcgcempchoaaaDoor

set_option linter.unusedSimpArgs false
set_option linter.unusedVariables false
namespace Go.Proofs.YtkbcgcempchoaaaDoor
open Go.RowKit Go.Lib

/-- The names of the variables, in the order of the nodes. -/
def vsL (l : List Nd) : List ByteArray := (l.filter (fun x => decide (x.op = 2))).map (·.name)
theorem vsL_succ (l : List Nd) (k : Nat) (h : k < l.length) : vsL (l.take (k + 1)) = vsL (l.take k) ++ (if (l.getD k nd0).op = 2 then [(l.getD k nd0).name] else []) := by
  have e : l.take (k + 1) = l.take k ++ [l.getD k nd0] := by rw [List.take_succ_eq_append_getElem h]; simp [h]
  rw [e]
  unfold vsL
  rw [List.filter_append, List.map_append]
  congr 1
  generalize l.getD k nd0 = x
  by_cases h2 : x.op = 2
  · rw [if_pos h2]; simp [h2]
  · rw [if_neg h2]; simp [h2]
theorem vsL_le (l : List Nd) : (vsL l).length ≤ l.length := by
  unfold vsL; rw [List.length_map]; exact List.length_filter_le _ _
/-- One cell of an owned row is set. -/
theorem own_put {w : World} {base : Nat} {e : TypeId} {s n g cap : Nat} {xs : List Value} {i : Nat} {u : Value} (h : w.ownsRow base e s (.slice (some ⟨g, 0, none⟩) n cap) n xs) (hi : i < xs.length) : (w.setCell ⟨g, i, none⟩ u).ownsRow base e s (.slice (some ⟨g, 0, none⟩) n cap) n (xs.set i u) := by
  obtain ⟨h1, h2⟩ := h
  refine ⟨by simpa using h1, ?_⟩
  rcases h2 with ⟨h2, _⟩ | ⟨g', cap', cur, h3, hb, hg, hn, hm, hs, ht⟩
  · cases h2
  · cases h3
    refine .inr ⟨g, cap, cur.setIfInBounds i u, rfl, hb, heap_setCell_same w g i cur e u hg, hn, hm, by simpa using hs, ?_⟩
    rw [← ht]
    simp [List.take_set]

theorem own_block' {w : World} {base : Nat} {e : TypeId} {s n : Nat} {v : Value} {xs : List Value} (h : w.ownsRow base e s v n xs) : ∀ b, v.ownBlock = some b → base ≤ b ∧ b < w.heap.size := by
  intro b hb
  rcases h.2 with ⟨rfl, _⟩ | ⟨g, cap, cur, rfl, h1, h2, _⟩
  · cases hb
  · simp [Value.ownBlock] at hb; subst hb; exact ⟨h1, lt_of_block h2⟩
theorem row_form' {w : World} {base : Nat} {e : TypeId} {s n : Nat} {v : Value} {xs : List Value} (h : w.ownsRow base e s v n xs) : ∃ ao cap, v = .slice ao n cap := by
  rcases h.2 with ⟨rfl, h0⟩ | ⟨g', cap', cur, rfl, _⟩
  · exact ⟨none, 0, by rw [h0]⟩
  · exact ⟨_, _, rfl⟩

/-- The names' list, the number to stop at: where the function finds them. -/
structure Cst (w : World) (A Sb Nb : Nat) (stop : Int) (na : Option Addr) (nc : Nat) (names : List ByteArray) : Prop where
  sb : Sb < A
  nb : Nb < A
  stopC : w.cell? ⟨Sb, 0, none⟩ = some (.int .i64 stop)
  namesC : w.cell? ⟨Nb, 0, none⟩ = some (.slice na names.length nc)
  len : names.length ≤ nc ∧ nc ≤ maxLen
  row : names = [] ∨ ∃ b o, na = some ⟨b, o, none⟩ ∧ b < A ∧ ∀ j, j < names.length → w.cell? ⟨b, o + j, none⟩ = some (.string (names.getD j ⟨#[]⟩))
theorem Cst.below {w w' : World} {A Sb Nb : Nat} {stop : Int} {na : Option Addr} {nc : Nat} {names : List ByteArray} (h : Cst w A Sb Nb stop na nc names) (hb : Below A w w') : Cst w' A Sb Nb stop na nc names :=
  ⟨h.sb, h.nb, (hb.cell (p := ⟨Sb, 0, none⟩) h.sb).trans h.stopC, (hb.cell (p := ⟨Nb, 0, none⟩) h.nb).trans h.namesC, h.len, by
    rcases h.row with h | ⟨b, o, e, hlt, hc⟩
    · exact .inl h
    · exact .inr ⟨b, o, e, hlt, fun j hj => (hb.cell (p := ⟨b, o + j, none⟩) hlt).trans (hc j hj)⟩⟩

/-- What has been asked. -/
structure AskAt (w : World) (A : Nat) (va : Value) (qs : List ByteArray) : Prop where
  blk : w.heap[A]? = some (.cells #[va] 33 (0, 0))
  row : w.ownsRow (A + 1) 9 1 va qs.length (qs.map Value.string)
theorem AskAt.below {w w' : World} {A : Nat} {va : Value} {qs : List ByteArray} (h : AskAt w A va qs) (hb : Below w.heap.size w w') : AskAt w' A va qs :=
  ⟨(hb.block _ (lt_of_block h.blk)).trans h.blk, ownsRow_below h.row hb⟩

end Go.Proofs.YtkbcgcempchoaaaDoor

set_option linter.unusedSimpArgs false
set_option linter.unusedVariables false
namespace Go.Proofs.YtkbcgcempchoaaaDoor
open Go.RowKit Go.Lib

theorem Tryd.infoL2 : (Tryd.prog.info? 2).map (fun i => (i.zero, i.size, i.bytes)) = some (some (.int .i64 0), 1, 8) := by kernel_rfl

/-- A work: its block p holds the environment and the numbers' list, which is its own. -/
structure Ew (w : World) (p : Nat) (ev v : Value) (st : List Int) : Prop where
  blk : w.heap[p]? = some (.cells #[ev, v] 75 (0, 0))
  on : w.ownsRow (p + 1) 2 1 v st.length (st.map (Value.int .i64))
theorem Ew.lt {w : World} {p : Nat} {ev v : Value} {st : List Int} (h : Ew w p ev v st) : p < w.heap.size := lt_of_block h.blk
theorem Ew.below {w w' : World} {p : Nat} {ev v : Value} {st : List Int} (h : Ew w p ev v st) (hb : Below w.heap.size w w') : Ew w' p ev v st :=
  ⟨(hb.block _ h.lt).trans h.blk, ownsRow_below h.on hb⟩
theorem Ew.c0 {w : World} {p : Nat} {ev v : Value} {st : List Int} (h : Ew w p ev v st) : w.cell? ⟨p, 0, none⟩ = some ev := by simp [World.cell?, h.blk]
theorem Ew.c1 {w : World} {p : Nat} {ev v : Value} {st : List Int} (h : Ew w p ev v st) : w.cell? ⟨p, 1, none⟩ = some v := by simp [World.cell?, h.blk]
theorem Ew.f1 {w : World} {p : Nat} {ev v : Value} {st : List Int} (h : Ew w p ev v st) : w.frozen? ⟨p, 1, none⟩ = false := by simp [World.frozen?, h.blk]

/-- Behind an append and the store. -/
theorem Ew.put {w w6 : World} {p : Nat} {ev v v' : Value} {st st' : List Int} (h : Ew w p ev v st) (hb : w6.heap[p]? = w.heap[p]?) (ho : w6.ownsRow (p + 1) 2 1 v' st'.length (st'.map (Value.int .i64))) : Ew (w6.setCell ⟨p, 1, none⟩ v') p ev v' st' := by
  refine ⟨?_, ownsRow_setCell_below ho (by show p < p + 1; omega) _⟩
  have := heap_setCell_same w6 p 1 #[ev, v] 75 v' (hb.trans h.blk)
  simpa using this
theorem own_take {w : World} {base g n cap k : Nat} {e : TypeId} {xs : List Value} (h : w.ownsRow base e 1 (.slice (some ⟨g, 0, none⟩) n cap) n xs) (hk : k ≤ n) : w.ownsRow base e 1 (.slice (some ⟨g, 0, none⟩) k cap) k (xs.take k) := by
  obtain ⟨h1, h2⟩ := h
  rcases h2 with ⟨h2, _⟩ | ⟨g', cap', cur, hv, hg, hb, hn, hm, hs, ht⟩
  · cases h2
  · cases hv
    refine ⟨by simp; omega, .inr ⟨g, cap, cur, rfl, hg, hb, by omega, hm, hs, ?_⟩⟩
    rw [← ht, List.take_take]; congr 1; omega

/-- What grew by its own row has turned no block but cells. -/
theorem ko_grown {w w' : World} {base : Nat} {e : TypeId} {size n : Nat} {v : Value} {xs : List Value} (ho : w.ownsRow base e size v n xs) (hg : w.grownBy w' v.ownBlock) : KeepsOthers w w' :=
  ⟨hg.size, fun k o hk hc => by
    rw [hg.block k (lt_of_block hk) (fun e' => ?_)]
    · exact hk
    · rcases ho.2 with ⟨rfl, _⟩ | ⟨g, cap, cur, rfl, _, hb, _⟩
      · cases e'
      · have e2 : k = g := by simpa [Value.ownBlock] using e'
        subst e2
        rw [hb] at hk
        cases hk
        cases hc⟩
theorem ko_below {w w' : World} (hb : Below w.heap.size w w') : KeepsOthers w w' := ⟨hb.size, fun k o hk _ => (hb.block k (lt_of_block hk)).trans hk⟩

/-- No block but cells has turned, and of those that lay none but the work and its row. -/
structure KoW (p : Nat) (v : Value) (w w' : World) : Prop where
  ko : KeepsOthers w w'
  same : ∀ b, b < w.heap.size → b ≠ p → some b ≠ v.ownBlock → w'.heap[b]? = w.heap[b]?
theorem KoW.below {p : Nat} {v : Value} {w w' : World} (hb : Below w.heap.size w w') : KoW p v w w' := ⟨ko_below hb, fun b h _ _ => hb.block b h⟩
theorem KoW.trans {p : Nat} {v : Value} {w w' w'' : World} (h : KoW p v w w') (k : KoW p v w' w'') : KoW p v w w'' :=
  ⟨h.ko.trans k.ko, fun b h1 h2 h3 => (k.same b (Nat.lt_of_lt_of_le h1 h.ko.size) h2 h3).trans (h.same b h1 h2 h3)⟩
theorem KoW.grown {p : Nat} {v : Value} {w w' : World} {base : Nat} {e : TypeId} {size n : Nat} {xs : List Value} (ho : w.ownsRow base e size v n xs) (hg : w.grownBy w' v.ownBlock) : KoW p v w w' := ⟨ko_grown ho hg, fun b h1 _ h3 => hg.block b h1 h3⟩
theorem KoW.set {p o : Nat} {v u : Value} {w : World} : KoW p v w (w.setCell ⟨p, o, none⟩ u) := ⟨KeepsOthers.setCell _ _ _, fun b _ h2 _ => Deep.blk_setCell_other _ _ _ _ h2⟩

set_option maxRecDepth 20000 in
set_option maxHeartbeats 2000000 in
theorem wput_ko (w : World) (p : Nat) (ev v : Value) (st : List Int) (n : Int) (hM : Ew w p ev v st) (hlen : st.length ≤ 100000) :
    Calls Tryd.prog 113 #[.pointer (some ⟨p, 0, none⟩), .int .i64 n] w fun e w' => e = .returned (.tuple #[]) ∧ (∃ v', Ew w' p ev v' (st ++ [n])) ∧ Below p w w' ∧ KoW p v w w' := by
  obtain ⟨i0, hi, hz0, hz1, hz2⟩ := info_parts Tryd.infoL2
  obtain ⟨va, vc, hv⟩ := row_form' hM.on
  subst hv
  have hpl := hM.lt
  have c1 := hM.c1
  have f1 := hM.f1
  have HM : Hid (Ew w p ev (.slice va st.length vc) st) := hM
  have hrow := hM.on
  obtain ⟨L, hL⟩ : ∃ L, st.length = L := ⟨_, rfl⟩
  rw [hL] at c1 hrow hlen
  have HL : Hid (st.length = L) := hL
  have z1 : ∀ o, (w.alloc o).cell? ⟨p, 1, none⟩ = some (.slice va L vc) := fun o => (World.cell?_alloc_past _ _ _ (by show p < w.heap.size; omega)).trans c1
  have HP6 : Hid (∀ (o : Obj) (w6 : World), (w.alloc o).grownBy w6 (Value.slice va L vc).ownBlock → w6.heap[p]? = w.heap[p]?) := fun o w6 hg => by
    have h1 := hg.block p (by rw [World.size_alloc]; omega) (fun e => by have := (own_block' hrow p e.symm).1; omega)
    exact h1.trans (Deep.blk_alloc_lt _ _ _ (by omega))
  clear hM hL
  go_enter Tryd.func113, Tryd.ntmps113
  go_wp2_with (at_builtin; refine wpList_append_lies _ rfl (.tmp 8) (.tmp 10) 51 rfl (p + 1) 2 i0 (.int .i64 0) 1 8 Tryd.underlying51 hi hz0 hz1 hz2 rfl (by decide) _ _ _ (by simp [Act.eval, Act.put]) (hrow.alloc _) ⟨w.heap.size, 0, none⟩ 1 1 [.int .i64 n] (by simp [Act.eval, Act.put]) rfl (cell_news_one w _ _) (by simp [Value.oneCell']) (by omega) (by unfold maxLen; omega) (by omega) (by simp; omega) _ rfl ?_; intro g6 cap6 w6 hown6 hg6 hat6 hl6; have hnd6 := HP6.out _ w6 hg6; have m6 : w6.cell? ⟨p, 1, none⟩ = some (.slice va L vc) := (World.cell?_of_block (a := ⟨p, 1, none⟩) hnd6).trans c1; have m6f : w6.frozen? ⟨p, 1, none⟩ = false := (World.frozen?_of_block (a := ⟨p, 1, none⟩) hnd6).trans f1)
  all_goals
    have hF : Ew (w6.setCell ⟨p, 1, none⟩ (.slice (some ⟨g6, 0, none⟩) (L + 1) cap6)) p ev (.slice (some ⟨g6, 0, none⟩) (L + 1) cap6) (st ++ [n]) := HM.out.put hnd6 (by rw [List.length_append, HL.out, List.map_append]; exact hown6)
    have hB : Below p w (w6.setCell ⟨p, 1, none⟩ (.slice (some ⟨g6, 0, none⟩) (L + 1) cap6)) := by
      have b1 : Below p w (w.alloc (.cells #[.int .i64 n] 2)) := ((Below.refl w.heap.size w).alloc (Nat.le_refl _) _).mono (by omega)
      have b2 := b1.grown hg6 (by show p ≤ (w.alloc _).heap.size; rw [World.size_alloc]; omega) (fun j hj => by have := (own_block' hrow j hj).1; omega)
      exact b2.setCell (p := ⟨p, 1, none⟩) (Nat.le_refl p) _
    have HF : Hid (Ew (w6.setCell ⟨p, 1, none⟩ (.slice (some ⟨g6, 0, none⟩) (L + 1) cap6)) p ev (.slice (some ⟨g6, 0, none⟩) (L + 1) cap6) (st ++ [n])) := hF
    have HB : Hid (Below p w (w6.setCell ⟨p, 1, none⟩ (.slice (some ⟨g6, 0, none⟩) (L + 1) cap6))) := hB
    have HKO : Hid (KoW p (.slice va L vc) w (w6.setCell ⟨p, 1, none⟩ (.slice (some ⟨g6, 0, none⟩) (L + 1) cap6))) := ((KoW.below ((Below.refl w.heap.size w).alloc (Nat.le_refl _) _)).trans (KoW.grown (hrow.alloc _) hg6)).trans KoW.set
    clear hF hB
    go_wp2_with fail
    go_end0
    exact ⟨rfl, ⟨_, HF.out⟩, HB.out, by rw [HL.out]; exact HKO.out⟩
theorem wput_any (w : World) (p : Nat) (ev v : Value) (st : List Int) (n : Int) (hM : Ew w p ev v st) (hlen : st.length ≤ 100000) :
    Calls Tryd.prog 113 #[.pointer (some ⟨p, 0, none⟩), .int .i64 n] w fun e w' => e = .returned (.tuple #[]) ∧ (∃ v', Ew w' p ev v' (st ++ [n])) ∧ Below p w w' :=
  (wput_ko w p ev v st n hM hlen).mono fun e w' ⟨h1, h2, h3, _⟩ => ⟨h1, h2, h3⟩
end Go.Proofs.YtkbcgcempchoaaaDoor

set_option linter.unusedSimpArgs false
set_option linter.unusedVariables false
namespace Go.Proofs.YtkbcgcempchoaaaDoor
open Go.RowKit Go.Lib

set_option maxRecDepth 20000 in
set_option maxHeartbeats 4000000 in
theorem wapply_ko (w : World) (p : Nat) (ev v : Value) (st : List Int) (op : Int) (k : Nat) (hM : Ew w p ev v st) (hlen : st.length ≤ 100000) (hk0 : 0 < k) (hk : k ≤ st.length) (hG : GrpCells w) :
    Calls Tryd.prog 115 #[.pointer (some ⟨p, 0, none⟩), .int .i64 op, .int .i64 k] w fun e w' => e = .returned (.int .i64 (apR op (st.drop (st.length - k))).2) ∧ (∃ v', Ew w' p ev v' (st.take (st.length - k) ++ [(apR op (st.drop (st.length - k))).1])) ∧ Below p w w' ∧ KoW p v w w' := by
  obtain ⟨i0, hi, hz0, hz1, hz2⟩ := info_parts Tryd.infoL2
  obtain ⟨g, vc, hv⟩ : ∃ g vc, v = .slice (some ⟨g, 0, none⟩) st.length vc := by
    rcases hM.on.2 with ⟨_, h0⟩ | ⟨g', cap', cur, rfl, _⟩
    · omega
    · exact ⟨_, _, rfl⟩
  subst hv
  have hcap : st.length ≤ vc ∧ vc ≤ maxLen := by
    rcases hM.on.2 with ⟨h0, _⟩ | ⟨g', cap', cur, hv, _, _, hn, hm, _⟩
    · cases h0
    · cases hv; exact ⟨hn, hm⟩
  have hpl := hM.lt
  have c1 := hM.c1
  have f1 := hM.f1
  have HM : Hid (Ew w p ev (.slice (some ⟨g, 0, none⟩) st.length vc) st) := hM
  have hrow0 := hM.on
  obtain ⟨L, hL⟩ : ∃ L, st.length - k = L := ⟨_, rfl⟩
  have hrow := own_take hrow0 (k := L) (by omega)
  rw [hL]
  obtain ⟨n, hn⟩ : ∃ n, st.length = n := ⟨_, rfl⟩
  have HST : Hid (st.length = n) := hn
  have cA : Hid (∀ (V : World), Below w.heap.size w V → Calls Tryd.prog 30 #[.int .i64 op, .slice (some ⟨g, L, none⟩) (n - L) (vc - L)] V fun e w' => e = .returned (.tuple #[.int .i64 (apR op (st.drop L)).1, .int .i64 (apR op (st.drop L)).2]) ∧ ∃ m, w' = V.drewN m) := fun V hV => by
    refine apply_any op _ (st.drop L) V (hG.below hV) ⟨_, _, by rw [List.length_drop, hn], .inr ⟨g, L, rfl, fun i x hx => ?_⟩⟩
    have hg : w.cell? ⟨g, L + i, none⟩ = some (.int .i64 x) := by
      have := hrow0.cellAt (L + i) (by
        have : i < (st.drop L).length := by
          rcases Nat.lt_or_ge i (st.drop L).length with h | h
          · exact h
          · rw [List.getElem?_eq_none h] at hx; cases hx
        rw [List.length_drop] at this; omega)
      rw [this, List.getElem?_map]
      rw [List.getElem?_drop] at hx
      rw [hx]; rfl
    exact (hV.cell (p := ⟨g, L + i, none⟩) (own_block' hrow0 g rfl).2).trans hg
  have hnl : n - L = k := by omega
  rw [hn] at c1 hrow0 hlen hcap
  have hLn : (L : Int) = (n : Int) - (k : Int) := by omega
  generalize apR op (st.drop L) = R at *
  have HL : Hid ((st.take L).length = L) := by rw [Hid, List.length_take]; omega
  have HTK : Hid ((st.map (Value.int .i64)).take L = (st.take L).map (Value.int .i64)) := by rw [Hid, List.map_take]
  rw [HTK.out] at hrow
  have c1g : ∀ m o, ((w.drewN m).alloc o).cell? ⟨p, 1, none⟩ = some (.slice (some ⟨g, 0, none⟩) n vc) := fun m o => (World.cell?_alloc_past _ _ _ (by show p < w.heap.size; omega)).trans c1
  have c1m : ∀ m, (w.drewN m).cell? ⟨p, 1, none⟩ = some (.slice (some ⟨g, 0, none⟩) n vc) := fun m => c1
  have HP6 : Hid (∀ (m : Nat) (o : Obj) (w6 : World), ((w.drewN m).alloc o).grownBy w6 (Value.slice (some ⟨g, 0, none⟩) L vc).ownBlock → w6.heap[p]? = w.heap[p]?) := fun m o w6 hg => by
    have h1 := hg.block p (by rw [World.size_alloc]; show p < w.heap.size + 1; omega) (fun e => by have := (own_block' hrow p e.symm).1; omega)
    exact h1.trans (Deep.blk_alloc_lt (w.drewN m) _ _ (by show p < w.heap.size; omega))
  have hLv : L ≤ vc := by omega
  have hLn2 : L ≤ n := by omega
  have hLI : (L : Int) ≤ (n : Int) := by omega
  have hLvI : (L : Int) ≤ (vc : Int) := by omega
  have hnI : (n : Int) ≤ (vc : Int) := by omega
  obtain ⟨_, hvm⟩ := hcap
  unfold maxLen at hvm
  rw [hn] at hL
  have hLL : n - k = L := hL
  have HLL : Hid (n - k = L) := hLL
  have hb0 : Below w.heap.size w w := Below.refl _ _
  have cA2 : Hid (∀ (V : World), Below w.heap.size w V → Calls Tryd.prog 30 #[.int .i64 op, .slice (some ⟨g, n - k, none⟩) (n - (n - k)) (vc - (n - k))] V fun e w' => e = .returned (.tuple #[.int .i64 R.1, .int .i64 R.2]) ∧ ∃ m, w' = V.drewN m) := fun V hV => by
    have := cA.out V hV
    rw [← hLL] at this
    exact this
  clear hM hn hL hLL cA
  go_enter Tryd.func115, Tryd.ntmps115
  go_wp2_with fail
  refine (cA2.out _ hb0).mono ?_
  rintro e w2 ⟨rfl, m, rfl⟩
  have q1 := c1m m
  have z1 := c1g m
  have hrm : (w.drewN m).ownsRow (p + 1) 2 1 (.slice (some ⟨g, 0, none⟩) L vc) L ((st.take L).map (Value.int .i64)) := hrow
  have hsz : (w.drewN m).heap.size = w.heap.size := rfl
  have P6 := fun o w6 => HP6.out m o w6
  have HB1 : Hid (Below w.heap.size w (w.drewN m)) := by rw [Hid]; exact ⟨rfl, rfl, rfl, Nat.le_refl _, fun _ _ => rfl⟩
  have f1m : (w.drewN m).frozen? ⟨p, 1, none⟩ = false := f1
  clear c1m c1g HP6 cA2 hb0 hG c1 f1 hrow
  generalize w.drewN m = W at *
  obtain rfl := HLL.out
  go_wp2_with (at_builtin; refine wpList_append_lies _ rfl (.tmp 34) (.tmp 36) 51 rfl (p + 1) 2 i0 (.int .i64 0) 1 8 Tryd.underlying51 hi hz0 hz1 hz2 rfl (by decide) _ _ _ (by simp [Act.eval, Act.put]) (hrm.alloc _) ⟨W.heap.size, 0, none⟩ 1 1 [.int .i64 R.1] (by simp [Act.eval, Act.put]) rfl (cell_news_one W _ _) (by simp [Value.oneCell']) (by omega) (by unfold maxLen; omega) (by omega) (by simp; omega) _ rfl ?_; intro g6 cap6 w6 hown6 hg6 hat6 hl6; have hnd6 := P6 _ w6 hg6; have hndW : w6.heap[p]? = W.heap[p]? := hnd6.trans (HB1.out.block p hpl).symm; have m6 : w6.cell? ⟨p, 1, none⟩ = some (.slice (some ⟨g, 0, none⟩) n vc) := (World.cell?_of_block (a := ⟨p, 1, none⟩) hndW).trans q1; have m6f : w6.frozen? ⟨p, 1, none⟩ = false := (World.frozen?_of_block (a := ⟨p, 1, none⟩) hndW).trans f1m)
  all_goals
    have hF : Ew (w6.setCell ⟨p, 1, none⟩ (.slice (some ⟨g6, 0, none⟩) (n - k + 1) cap6)) p ev (.slice (some ⟨g6, 0, none⟩) (n - k + 1) cap6) (st.take (n - k) ++ [R.1]) := HM.out.put hnd6 (by rw [List.length_append, HL.out, List.map_append]; exact hown6)
    have hB : Below p w (w6.setCell ⟨p, 1, none⟩ (.slice (some ⟨g6, 0, none⟩) (n - k + 1) cap6)) := by
      have b1 : Below p w (W.alloc (.cells #[.int .i64 R.1] 2)) := (HB1.out.trans (((Below.refl W.heap.size W).alloc (Nat.le_refl _) _).mono (by omega))).mono (by omega)
      have b2 := b1.grown hg6 (by rw [World.size_alloc]; omega) (fun j hj => by have := (own_block' hrm j hj).1; omega)
      exact b2.setCell (p := ⟨p, 1, none⟩) (Nat.le_refl p) _
    have HF : Hid (Ew (w6.setCell ⟨p, 1, none⟩ (.slice (some ⟨g6, 0, none⟩) (n - k + 1) cap6)) p ev (.slice (some ⟨g6, 0, none⟩) (n - k + 1) cap6) (st.take (n - k) ++ [R.1])) := hF
    have HB : Hid (Below p w (w6.setCell ⟨p, 1, none⟩ (.slice (some ⟨g6, 0, none⟩) (n - k + 1) cap6))) := hB
    have HKO : Hid (KoW p (.slice (some ⟨g, 0, none⟩) n vc) w (w6.setCell ⟨p, 1, none⟩ (.slice (some ⟨g6, 0, none⟩) (n - k + 1) cap6))) := (((KoW.below HB1.out).trans (KoW.below ((Below.refl W.heap.size W).alloc (Nat.le_refl _) _))).trans (by have h := KoW.grown (p := p) (hrm.alloc _) hg6; exact ⟨h.ko, h.same⟩)).trans KoW.set
    clear hF hB
    go_wp2_with fail
    go_ret
    exact ⟨rfl, ⟨_, HF.out⟩, HB.out, by rw [HST.out]; exact HKO.out⟩
theorem wapply_any (w : World) (p : Nat) (ev v : Value) (st : List Int) (op : Int) (k : Nat) (hM : Ew w p ev v st) (hlen : st.length ≤ 100000) (hk0 : 0 < k) (hk : k ≤ st.length) (hG : GrpCells w) :
    Calls Tryd.prog 115 #[.pointer (some ⟨p, 0, none⟩), .int .i64 op, .int .i64 k] w fun e w' => e = .returned (.int .i64 (apR op (st.drop (st.length - k))).2) ∧ (∃ v', Ew w' p ev v' (st.take (st.length - k) ++ [(apR op (st.drop (st.length - k))).1])) ∧ Below p w w' :=
  (wapply_ko w p ev v st op k hM hlen hk0 hk hG).mono fun e w' ⟨h1, h2, h3, _⟩ => ⟨h1, h2, h3⟩
end Go.Proofs.YtkbcgcempchoaaaDoor
