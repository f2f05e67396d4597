/-
  ExRdW, ExAddP, SwPure, ShMem, BrkW.
-/
import Derived.Shelf.Unicode.DecodeSlow
import Derived.Laws.RangeAny
import Derived.Shelf.Strings.Builder1
import Derived.Shelf.Small.Utf8
import Derived.Shelf.Small.Bits
import Derived.Shelf.Strings.BuilderF
import Derived.Shelf.Strings.BuilderK
import Derived.Shelf.Strings.BuilderRune
import Derived.Shelf.Utf8.AppendRune
import Derived.Shelf.Strconv.Itoa0
import Derived.Shelf.Strconv.Itoa1
import Derived.Shelf.LaysM
import Derived.Shelf.Strconv.Itoa2
import Derived.Shelf.Strconv.Itoa3
import Derived.Shelf.Strconv.Itoa4
import Derived.Shelf.Strings.Prefix
import Derived.Shelf.Unicode.DecodeAny
import Derived.Test.YtjmccobblpcbhaaDoorProg
import Derived.WalkKit
import Derived.Deep.DeepFit
import Derived.Lib.OthersKept
import Derived.Lib.RuneCountTail
import Derived.Lib.MapLaws
import Derived.Sort.Walk0
import Derived.Laws.DeepStrings4
import Derived.Lib.ItoaNum
import Derived.Deep.AppendLies
import Derived.Deep.OwnRows
import Derived.Laws.AppendOwnNone
import Derived.Deep.QuietTactic
import Derived.BigQuiet
import Derived.Deep.RegionWith
import Derived.Test.YtjmccobblpcbhaaDoorL01
import Derived.Test.YtjmccobblpcbhaaDoorL02
import Derived.Test.YtjmccobblpcbhaaDoorL03
import Derived.Test.YtjmccobblpcbhaaDoorL04
import Derived.Test.YtjmccobblpcbhaaDoorL05
import Derived.Test.YtjmccobblpcbhaaDoorL06
import Derived.Test.YtjmccobblpcbhaaDoorL07
set_option linter.unusedSimpArgs false
set_option linter.unusedVariables false
namespace Go.Proofs.YtjmccobblpcbhaaDoor
open Go.RowKit Go.Lib

/-- Within the reach. -/
structure Fit (l : List Nd) : Prop where
  len : l.length * 56 ≤ 140737488355328
  kids : ∀ x ∈ l, x.kids.length * 8 ≤ 140737488355328
  name : ∀ x ∈ l, x.name.size ≤ maxLen

/-- The slice reads as l, anywhere in memory. -/
def Rd (w : World) (ao : Option Addr) (cap : Nat) (l : List Nd) : Prop := Nodes w w.heap.size (.slice ao l.length cap) l
theorem Rd.below {w w' : World} {ao : Option Addr} {cap : Nat} {l : List Nd} (h : Rd w ao cap l) (hb : Below w.heap.size w w') (hs : w.heap.size ≤ w'.heap.size) : Rd w' ao cap l := Nodes.below h hb hs
theorem Rd_of_own {w : World} {base : Nat} {v : Value} {l : List Nd} (h : OwnN w base v l) : ∃ ao cap, v = .slice ao l.length cap ∧ Rd w ao cap l := by
  have hN := Nodes_of_own h (Nat.le_refl _)
  obtain ⟨ao, cap, rfl, _⟩ := id hN
  exact ⟨ao, cap, rfl, hN⟩
theorem Rd.bound {w : World} {ao : Option Addr} {cap : Nat} {l : List Nd} (h : Rd w ao cap l) : l.length ≤ cap ∧ cap ≤ maxLen := by
  obtain ⟨ao', cap', h1, h2, h3, _⟩ := h
  cases h1; exact ⟨h2, h3⟩

theorem copyR {w : World} {ao : Option Addr} {cap : Nat} {l : List Nd} (h : Rd w ao cap l) (hF : Fit l) :
    Calls Tryd.prog 10 #[.slice ao l.length cap] w fun e w' => ∃ ao' cap', e = .returned (.slice ao' l.length cap') ∧ Rd w' ao' cap' l ∧ Below w.heap.size w w' := by
  refine (copy_any _ l w _ (Nat.le_refl _) h hF.len hF.kids).mono ?_
  rintro e w' ⟨v', rfl, hO, hb⟩
  obtain ⟨ao', cap', rfl, hR⟩ := Rd_of_own hO
  exact ⟨ao', cap', rfl, hR, hb⟩
theorem sameR {w : World} {ao bo : Option Addr} {cap cb : Nat} {l m : List Nd} (h : Rd w ao cap l) (h2 : Rd w bo cb m) (r : Bool) (hr : decide (l = m) = r) :
    Calls Tryd.prog 14 #[.slice ao l.length cap, .slice bo m.length cb] w fun e w' => e = .returned (.bool r) ∧ Below w.heap.size w w' := by
  rw [← hr]; exact same_any _ _ l m w _ (Nat.le_refl _) h h2
end Go.Proofs.YtjmccobblpcbhaaDoor

set_option linter.unusedSimpArgs false
set_option linter.unusedVariables false
namespace Go.Proofs.YtjmccobblpcbhaaDoor
open Go.RowKit Go.Lib

/-- In the middle of it. -/
structure AddMid (w : World) (base : Nat) (v : Value) (p : List (Nd × Value)) (ms : List Nd) (x : Value) (wr : World) : Prop where
  ex : ∃ p', OwnP wr base x (p ++ p') ∧ p'.map (·.1) = ms ∧ (∀ q ∈ p', OwnI wr w.heap.size q.2 q.1.kids) ∧ w.grownBy wr v.ownBlock ∧ (x.ownBlock = v.ownBlock ∨ ∀ g, x.ownBlock = some g → w.heap.size ≤ g) ∧ Below base w wr

theorem AddMid.start {w : World} {base : Nat} {v : Value} {p : List (Nd × Value)} (h : OwnP w base v p) : AddMid w base v p [] v w :=
  ⟨⟨[], by simpa using h, rfl, by simp, World.grownBy.refl _ _, .inl rfl, Below.refl _ _⟩⟩

/-- One node more: its kids are owned (new since wr), the append has gone through. -/
theorem AddMid.snoc {w : World} {base : Nat} {v x : Value} {p p' : List (Nd × Value)} {ms : List Nd} {wr W w1 : World} {y : Nd} {kv : Value} {g n cap : Nat} (hP : OwnP wr base x (p ++ p')) (hm : p'.map (·.1) = ms) (hkid : ∀ q ∈ p', OwnI wr w.heap.size q.2 q.1.kids) (hgr : w.grownBy wr v.ownBlock) (hx : x.ownBlock = v.ownBlock ∨ ∀ g, x.ownBlock = some g → w.heap.size ≤ g) (hB : Below base w wr)
    (hbase : base ≤ w.heap.size) (hBW : Below wr.heap.size wr W) (hk : OwnI W wr.heap.size kv y.kids) (hn : n = (p ++ p').length)
    (hown : w1.ownsRow base 60 4 (.slice (some ⟨g, 0, none⟩) (n + 1) cap) (n + 1) (ndCells (p ++ p') ++ [.int .i64 y.op, .int .i64 y.n, .string y.name, kv])) (hg : W.grownBy w1 x.ownBlock) (hat : x.ownBlock = some g ∨ g = W.heap.size) :
    AddMid w base v p (ms ++ [y]) (.slice (some ⟨g, 0, none⟩) (n + 1) cap) w1 := by
  have hsz : w.heap.size ≤ wr.heap.size := hgr.size
  have hPW := hP.below hBW
  have hkb : OwnI W base kv y.kids := ownsRow_mono hk (by omega)
  refine ⟨⟨p' ++ [(y, kv)], ?_, by simp [hm], fun q hq => ?_, ?_, ?_, ?_⟩⟩
  · rw [← List.append_assoc]
    subst hn
    exact hPW.snoc hkb hown hg
  · rcases List.mem_append.1 hq with hq | hq
    · have h1 := (hkid q hq).below hBW
      exact World.ownsRow.kept h1 hg (ownBlock_ne h1 hPW.row (by decide))
    · simp at hq; subst hq
      exact ownsRow_mono (World.ownsRow.kept hk hg (ownBlock_ne hk hPW.row (by decide))) hsz
  · refine ⟨hg.os.trans (hBW.os.trans hgr.os), hg.tape.trans (hBW.tape.trans hgr.tape), hg.output.trans (hBW.output.trans hgr.output), Nat.le_trans hsz (Nat.le_trans hBW.size hg.size), fun k hk1 hk2 => ?_⟩
    rw [hg.block k (by have := hBW.size; omega) (fun he => by
      rcases hx with hx | hx
      · rw [hx] at he; exact hk2 he
      · have := hx k he.symm; omega), hBW.block k (by omega), hgr.block k hk1 hk2]
  · rcases hat with hat | hat
    · rcases hx with hx | hx
      · left; show some g = v.ownBlock; rw [← hx, hat]
      · right; intro g' hg'; have e : g = g' := Option.some.inj hg'; have := hx g hat; omega
    · right; intro g' hg'; have e : g = g' := Option.some.inj hg'; have := hBW.size; omega
  · exact (hB.trans (hBW.mono (by omega))).grown hg (by have := hBW.size; omega) (fun k hk => (hPW.row.lt k hk).1)

end Go.Proofs.YtjmccobblpcbhaaDoor

namespace Go.Proofs.YtjmccobblpcbhaaDoor
open Go.RowKit Go.Lib

/-- The slice v reads as the lists ps, in blocks below B. -/
def Lst (w : World) (B : Nat) (v : Value) (ps : List (List Nd)) : Prop :=
  ∃ ao cap, v = .slice ao ps.length cap ∧ ps.length ≤ cap ∧ cap ≤ maxLen ∧ (ps = [] ∨ ∃ b o, ao = some ⟨b, o, none⟩ ∧ b < B ∧ ∀ i, i < ps.length → ∃ pv, w.cell? ⟨b, o + i, none⟩ = some pv ∧ Nodes w B pv (ps.getD i []))

theorem Lst.below {w w' : World} {B B' : Nat} {v : Value} {ps : List (List Nd)} (h : Lst w B v ps) (hb : Below B w w') (hB : B ≤ B') : Lst w' B' v ps := by
  obtain ⟨ao, cap, rfl, h1, h2, h3⟩ := h
  refine ⟨ao, cap, rfl, h1, h2, ?_⟩
  rcases h3 with h3 | ⟨b, o, rfl, hlt, hc⟩
  · exact .inl h3
  · exact .inr ⟨b, o, rfl, by omega, fun i hi => let ⟨pv, h4, h5⟩ := hc i hi; ⟨pv, (hb.cell (p := ⟨b, o + i, none⟩) hlt).trans h4, h5.below hb hB⟩⟩

theorem OwnP.kept {w w' : World} {base base' : Nat} {v v2 : Value} {p : List (Nd × Value)} {e : TypeId} {s n : Nat} {xs : List Value} (h : OwnP w base v p) (hg : w.grownBy w' v2.ownBlock) (hr : w.ownsRow base' e s v2 n xs) (h1 : 60 ≠ e) (h2 : 3 ≠ e) : OwnP w' base v p :=
  ⟨World.ownsRow.kept h.row hg (ownBlock_ne h.row hr h1), fun q hq => World.ownsRow.kept (h.kids q hq) hg (ownBlock_ne (h.kids q hq) hr h2)⟩
theorem OwnN.kept {w w' : World} {base base' : Nat} {v v2 : Value} {l : List Nd} {e : TypeId} {s n : Nat} {xs : List Value} (h : OwnN w base v l) (hg : w.grownBy w' v2.ownBlock) (hr : w.ownsRow base' e s v2 n xs) (h1 : 60 ≠ e) (h2 : 3 ≠ e) : OwnN w' base v l :=
  let ⟨p, h3, h4⟩ := h; ⟨p, h3, h4.kept hg hr h1 h2⟩

/-- Lists of lists of the call's own; pvs: the slices. -/
structure OwnLs (w : World) (base : Nat) (v : Value) (ps : List (List Nd)) (pvs : List Value) : Prop where
  len : pvs.length = ps.length
  row : w.ownsRow base 22 1 v ps.length pvs
  each : ∀ i, i < ps.length → OwnN w base (pvs.getD i (.slice none 0 0)) (ps.getD i [])

theorem OwnLs.snoc {w w1 : World} {base : Nat} {v v' : Value} {ps : List (List Nd)} {pvs : List Value} {l : List Nd} {pv : Value} (h : OwnLs w base v ps pvs) (hl : OwnN w base pv l)
    (hown : w1.ownsRow base 22 1 v' (ps.length + 1) (pvs ++ [pv])) (hg : w.grownBy w1 v.ownBlock) : OwnLs w1 base v' (ps ++ [l]) (pvs ++ [pv]) := by
  have hlen := h.len
  refine ⟨by simp [hlen], by simpa using hown, fun i hi => ?_⟩
  by_cases hlt : i < ps.length
  · have e1 : (pvs ++ [pv]).getD i (.slice none 0 0) = pvs.getD i (.slice none 0 0) := by simp only [List.getD_eq_getElem?_getD]; rw [List.getElem?_append_left (by omega)]
    have e2 : (ps ++ [l]).getD i [] = ps.getD i [] := by simp only [List.getD_eq_getElem?_getD]; rw [List.getElem?_append_left (by omega)]
    rw [e1, e2]
    exact (h.each i hlt).kept hg h.row (by decide) (by decide)
  · have he : i = ps.length := by simp at hi; omega
    have e1 : (pvs ++ [pv]).getD i (.slice none 0 0) = pv := by rw [he, ← hlen]; simp
    have e2 : (ps ++ [l]).getD i [] = l := by rw [he]; simp
    rw [e1, e2]
    exact hl.kept hg h.row (by decide) (by decide)

theorem OwnLs.below {w w' : World} {base : Nat} {v : Value} {ps : List (List Nd)} {pvs : List Value} (h : OwnLs w base v ps pvs) (hb : Below w.heap.size w w') : OwnLs w' base v ps pvs :=
  ⟨h.len, ownsRow_below h.row hb, fun i hi => (h.each i hi).below hb⟩

end Go.Proofs.YtjmccobblpcbhaaDoor

set_option linter.unusedSimpArgs false
set_option linter.unusedVariables false
namespace Go.Proofs.YtjmccobblpcbhaaDoor
open Go.RowKit Go.Lib

/-- One cell of an owned row is set. -/
theorem own_put {w : World} {base : Nat} {e : TypeId} {s n g cap : Nat} {xs : List Value} {i : Nat} {u : Value} (h : w.ownsRow base e s (.slice (some ⟨g, 0, none⟩) n cap) n xs) (hi : i < xs.length) : (w.setCell ⟨g, i, none⟩ u).ownsRow base e s (.slice (some ⟨g, 0, none⟩) n cap) n (xs.set i u) := by
  obtain ⟨h1, h2⟩ := h
  refine ⟨by simpa using h1, ?_⟩
  rcases h2 with ⟨h2, _⟩ | ⟨g', cap', cur, h3, hb, hg, hn, hm, hs, ht⟩
  · cases h2
  · cases h3
    refine .inr ⟨g, cap, cur.setIfInBounds i u, rfl, hb, heap_setCell_same w g i cur e u hg, hn, hm, by simpa using hs, ?_⟩
    rw [← ht]
    simp [List.take_set]

theorem own_block' {w : World} {base : Nat} {e : TypeId} {s n : Nat} {v : Value} {xs : List Value} (h : w.ownsRow base e s v n xs) : ∀ b, v.ownBlock = some b → base ≤ b ∧ b < w.heap.size := by
  intro b hb
  rcases h.2 with ⟨rfl, _⟩ | ⟨g, cap, cur, rfl, h1, h2, _⟩
  · cases hb
  · simp [Value.ownBlock] at hb; subst hb; exact ⟨h1, lt_of_block h2⟩
theorem row_form' {w : World} {base : Nat} {e : TypeId} {s n : Nat} {v : Value} {xs : List Value} (h : w.ownsRow base e s v n xs) : ∃ ao cap, v = .slice ao n cap := by
  rcases h.2 with ⟨rfl, h0⟩ | ⟨g', cap', cur, rfl, _⟩
  · exact ⟨none, 0, by rw [h0]⟩
  · exact ⟨_, _, rfl⟩

/-- The names' list, the number to stop at: where the function finds them. -/
structure Cst (w : World) (A Sb Nb : Nat) (stop : Int) (na : Option Addr) (nc : Nat) (names : List ByteArray) : Prop where
  sb : Sb < A
  nb : Nb < A
  stopC : w.cell? ⟨Sb, 0, none⟩ = some (.int .i64 stop)
  namesC : w.cell? ⟨Nb, 0, none⟩ = some (.slice na names.length nc)
  len : names.length ≤ nc ∧ nc ≤ maxLen
  row : names = [] ∨ ∃ b o, na = some ⟨b, o, none⟩ ∧ b < A ∧ ∀ j, j < names.length → w.cell? ⟨b, o + j, none⟩ = some (.string (names.getD j ⟨#[]⟩))
theorem Cst.below {w w' : World} {A Sb Nb : Nat} {stop : Int} {na : Option Addr} {nc : Nat} {names : List ByteArray} (h : Cst w A Sb Nb stop na nc names) (hb : Below A w w') : Cst w' A Sb Nb stop na nc names :=
  ⟨h.sb, h.nb, (hb.cell (p := ⟨Sb, 0, none⟩) h.sb).trans h.stopC, (hb.cell (p := ⟨Nb, 0, none⟩) h.nb).trans h.namesC, h.len, by
    rcases h.row with h | ⟨b, o, e, hlt, hc⟩
    · exact .inl h
    · exact .inr ⟨b, o, e, hlt, fun j hj => (hb.cell (p := ⟨b, o + j, none⟩) hlt).trans (hc j hj)⟩⟩

/-- What has been asked. -/
structure AskAt (w : World) (A : Nat) (va : Value) (qs : List ByteArray) : Prop where
  blk : w.heap[A]? = some (.cells #[va] 33 (0, 0))
  row : w.ownsRow (A + 1) 9 1 va qs.length (qs.map Value.string)
theorem AskAt.below {w w' : World} {A : Nat} {va : Value} {qs : List ByteArray} (h : AskAt w A va qs) (hb : Below w.heap.size w w') : AskAt w' A va qs :=
  ⟨(hb.block _ (lt_of_block h.blk)).trans h.blk, ownsRow_below h.row hb⟩

theorem row_cell {w : World} {base : Nat} {e : TypeId} {v : Value} {n : Nat} {xs : List Value} (h : w.ownsRow base e 1 v n xs) {i : Nat} (hi : i < n) {d : Value} : ∃ g cap, v = .slice (some ⟨g, 0, none⟩) n cap ∧ g < w.heap.size ∧ n ≤ cap ∧ cap ≤ maxLen ∧ w.cell? ⟨g, i, none⟩ = some (xs.getD i d) := by
  obtain ⟨h1, h2⟩ := h
  rcases h2 with ⟨rfl, h0⟩ | ⟨g, cap, cur, rfl, hb, hg, hn, hm, hs, ht⟩
  · omega
  · refine ⟨g, cap, rfl, lt_of_block hg, hn, hm, ?_⟩
    have hc : w.cell? ⟨g, i, none⟩ = cur[i]? := by simp [World.cell?, hg]
    rw [hc, ← Array.getElem?_toList]
    have e : cur.toList[i]? = (cur.toList.take (n * 1))[i]? := by rw [List.getElem?_take, if_pos (by omega)]
    rw [e, ht]
    simp [show i < xs.length by omega]
end Go.Proofs.YtjmccobblpcbhaaDoor

set_option linter.unusedSimpArgs false
set_option linter.unusedVariables false
namespace Go.Proofs.YtjmccobblpcbhaaDoor
open Go.RowKit Go.Lib

/-- The table lies in memory. -/
def WrCells (w : World) : Prop := ∀ k, k < 19 →
  w.cell? ⟨0, k * 3, none⟩ = some (.string (txt (wrTab.getD k ([], [], 0)).1)) ∧ w.cell? ⟨0, k * 3 + 1, none⟩ = some (.string (txt (wrTab.getD k ([], [], 0)).2.1)) ∧ w.cell? ⟨0, k * 3 + 2, none⟩ = some (.int .i64 (wrTab.getD k ([], [], 0)).2.2)
theorem WrCells.below {w w' : World} (h : WrCells w) (hb : Below w.heap.size w w') : WrCells w' := by
  intro k hk
  obtain ⟨h0, h1, h2⟩ := h k hk
  exact ⟨(hb.cell (World.block_lt_of_cell? w _ h0)).trans h0, (hb.cell (World.block_lt_of_cell? w _ h1)).trans h1, (hb.cell (World.block_lt_of_cell? w _ h2)).trans h2⟩

/-- A part at b, o. -/
structure PtAt (w : World) (b o : Nat) (p : Nd × ByteArray) : Prop where
  c0 : w.cell? ⟨b, o, none⟩ = some (.int .i64 p.1.op)
  c1 : w.cell? ⟨b, o + 1, none⟩ = some (.int .i64 p.1.n)
  c2 : w.cell? ⟨b, o + 2, none⟩ = some (.string p.1.name)
  c3 : ∃ ka kn kc, w.cell? ⟨b, o + 3, none⟩ = some (.slice ka kn kc)
  c4 : w.cell? ⟨b, o + 4, none⟩ = some (.string p.2)
theorem PtAt.below {w w' : World} {b o : Nat} {p : Nd × ByteArray} (h : PtAt w b o p) (hlt : b < w.heap.size) (hb : Below w.heap.size w w') : PtAt w' b o p := by
  obtain ⟨h0, h1, h2, ⟨ka, kn, kc, h3⟩, h4⟩ := h
  exact ⟨(hb.cell (p := ⟨b, o, none⟩) hlt).trans h0, (hb.cell (p := ⟨b, o + 1, none⟩) hlt).trans h1, (hb.cell (p := ⟨b, o + 2, none⟩) hlt).trans h2, ⟨ka, kn, kc, (hb.cell (p := ⟨b, o + 3, none⟩) hlt).trans h3⟩, (hb.cell (p := ⟨b, o + 4, none⟩) hlt).trans h4⟩
/-- The slice reads as the parts ps. -/
def Pts (w : World) (ao : Option Addr) (cap : Nat) (ps : List (Nd × ByteArray)) : Prop :=
  ps.length ≤ cap ∧ cap ≤ maxLen ∧ (ps = [] ∨ ∃ b o, ao = some ⟨b, o, none⟩ ∧ b < w.heap.size ∧ ∀ i, i < ps.length → PtAt w b (o + i * 5) (ps.getD i pt0))
theorem Pts.below {w w' : World} {ao : Option Addr} {cap : Nat} {ps : List (Nd × ByteArray)} (h : Pts w ao cap ps) (hb : Below w.heap.size w w') : Pts w' ao cap ps := by
  obtain ⟨h1, h2, h3⟩ := h
  refine ⟨h1, h2, ?_⟩
  rcases h3 with h3 | ⟨b, o, e, hlt, hc⟩
  · exact .inl h3
  · exact .inr ⟨b, o, e, Nat.lt_of_lt_of_le hlt hb.size, fun i hi => (hc i hi).below hlt hb⟩
theorem Pts.at_ {w : World} {ao : Option Addr} {cap : Nat} {ps : List (Nd × ByteArray)} (h : Pts w ao cap ps) {i : Nat} (hi : i < ps.length) : ∃ b o, ao = some ⟨b, o, none⟩ ∧ b < w.heap.size ∧ PtAt w b (o + i * 5) (ps.getD i pt0) := by
  rcases h.2.2 with h | ⟨b, o, e, hlt, hc⟩
  · subst h; simp at hi
  · exact ⟨b, o, e, hlt, hc i hi⟩

/-! ### rows of parts of the call's own -/
def ptCells : List ((Nd × ByteArray) × Value) → List Value
  | [] => []
  | (p, kv) :: r => .int .i64 p.1.op :: .int .i64 p.1.n :: .string p.1.name :: kv :: .string p.2 :: ptCells r
theorem ptCells_length (l : List ((Nd × ByteArray) × Value)) : (ptCells l).length = l.length * 5 := by
  induction l with
  | nil => rfl
  | cons a r ih => obtain ⟨x, kv⟩ := a; simp [ptCells, ih]; omega
theorem ptCells_append (l m : List ((Nd × ByteArray) × Value)) : ptCells (l ++ m) = ptCells l ++ ptCells m := by
  induction l with
  | nil => rfl
  | cons a r ih => obtain ⟨x, kv⟩ := a; simp [ptCells, ih]
theorem ptCells_at (l : List ((Nd × ByteArray) × Value)) (i : Nat) (x : Nd × ByteArray) (kv : Value) (h : l[i]? = some (x, kv)) :
    (ptCells l)[i * 5]? = some (.int .i64 x.1.op) ∧ (ptCells l)[i * 5 + 1]? = some (.int .i64 x.1.n) ∧ (ptCells l)[i * 5 + 2]? = some (.string x.1.name) ∧ (ptCells l)[i * 5 + 3]? = some kv ∧ (ptCells l)[i * 5 + 4]? = some (.string x.2) := by
  induction l generalizing i with
  | nil => simp at h
  | cons a r ih =>
    obtain ⟨y, kw⟩ := a
    cases i with
    | zero => simp at h; obtain ⟨rfl, rfl⟩ := h; simp [ptCells]
    | succ i =>
      have := ih i (by simpa using h)
      have e : (i + 1) * 5 = i * 5 + 5 := by omega
      rw [e]
      simpa [ptCells] using this
def Slc (v : Value) : Prop := ∃ ka kn kc, v = .slice ka kn kc
/-- Parts of the call's own; more may lie behind them. -/
def OwnT (w : World) (base : Nat) (v : Value) (n : Nat) (q : List ((Nd × ByteArray) × Value)) (rest : List Value) : Prop :=
  w.ownsRow base 141 5 v n (ptCells q ++ rest) ∧ ∀ x ∈ q, Slc x.2
theorem OwnT.pts {w : World} {base : Nat} {v : Value} {n : Nat} {q : List ((Nd × ByteArray) × Value)} {rest : List Value} (h : OwnT w base v n q rest) (hq : q.length ≤ n) : ∃ ao cap, v = .slice ao n cap ∧ n ≤ cap ∧ cap ≤ maxLen ∧ (q = [] ∨ ∃ b, ao = some ⟨b, 0, none⟩ ∧ b < w.heap.size ∧ base ≤ b ∧ ∀ i, i < q.length → PtAt w b (i * 5) ((q.map (·.1)).getD i pt0)) := by
  obtain ⟨⟨h1, h2⟩, hS⟩ := h
  rcases h2 with ⟨rfl, h0⟩ | ⟨g, cap, cur, rfl, hb, hg, hn, hm, hs, ht⟩
  · subst h0
    exact ⟨none, 0, rfl, Nat.le_refl _, by simp [maxLen], .inl (List.length_eq_zero_iff.1 (by omega))⟩
  · refine ⟨_, cap, rfl, hn, hm, .inr ⟨g, rfl, lt_of_block hg, hb, fun i hi => ?_⟩⟩
    have hp : q[i]? = some (q[i].1, q[i].2) := by simp [hi]
    have hx : (q.map (·.1)).getD i pt0 = q[i].1 := by simp [hi]
    obtain ⟨a0, a1, a2, a3, a4⟩ := ptCells_at q i _ _ hp
    have hl : (ptCells q).length = q.length * 5 := ptCells_length q
    have hc : ∀ j, j < q.length * 5 → w.cell? ⟨g, j, none⟩ = (ptCells q)[j]? := by
      intro j hj
      have e : w.cell? ⟨g, j, none⟩ = cur[j]? := by simp [World.cell?, hg]
      have e2 : (cur.toList.take (n * 5))[j]? = (ptCells q)[j]? := by rw [ht, List.getElem?_append_left (by omega)]
      rw [e, ← Array.getElem?_toList, ← e2, List.getElem?_take, if_pos (by omega)]
    obtain ⟨ka, kn, kc, hk⟩ := hS q[i] (by simp)
    rw [hx]
    refine ⟨?_, ?_, ?_, ⟨ka, kn, kc, ?_⟩, ?_⟩
    · rw [hc _ (by omega), a0]
    · rw [hc _ (by omega), a1]
    · rw [hc _ (by omega), a2]
    · rw [hc _ (by omega), a3, hk]
    · rw [hc _ (by omega), a4]
theorem OwnT.below {w w' : World} {base : Nat} {v : Value} {n : Nat} {q : List ((Nd × ByteArray) × Value)} {rest : List Value} (h : OwnT w base v n q rest) (hb : Below w.heap.size w w') : OwnT w' base v n q rest := ⟨ownsRow_below h.1 hb, h.2⟩
theorem OwnT.read {w : World} {base : Nat} {v : Value} {q : List ((Nd × ByteArray) × Value)} (h : OwnT w base v q.length q []) : ∃ ao cap, v = .slice ao q.length cap ∧ Pts w ao cap (q.map (·.1)) := by
  obtain ⟨ao, cap, e, h1, h2, h3⟩ := h.pts (Nat.le_refl _)
  refine ⟨ao, cap, e, by simpa using h1, h2, ?_⟩
  rcases h3 with h3 | ⟨b, e, hl, _, hc⟩
  · subst h3; exact .inl rfl
  · exact .inr ⟨b, 0, e, hl, fun i hi => by rw [Nat.zero_add]; exact hc i (by simpa using hi)⟩
end Go.Proofs.YtjmccobblpcbhaaDoor

set_option linter.unusedSimpArgs false
set_option linter.unusedVariables false
namespace Go.Proofs.YtjmccobblpcbhaaDoor
open Go.RowKit Go.Lib

theorem rk_nat (k : Nat) : rkT (k : Int) = (wrTab.getD k ([], [], 0)).2.2 := by unfold rkT wrAt; rw [Int.toNat_natCast]

set_option maxRecDepth 20000 in
set_option maxHeartbeats 2000000 in
theorem brk_any (op q place : Nat) (n : Int) (nm : ByteArray) (ks : List Int) (ka : Option Addr) (kn kc : Nat) (w : World) (hT : WrCells w) (ho : op < 19) (hq : q < 19) :
    Calls Tryd.prog 103 #[.int .i64 op, .int .i64 place, .agg #[.int .i64 q, .int .i64 n, .string nm, .slice ka kn kc] ] w fun e w' => e = .returned (.bool (brkB op place ⟨q, n, nm, ks⟩)) ∧ Below w.heap.size w w' := by
  have d1 := (hT op ho).2.2
  have d2 := (hT q hq).2.2
  have hg := World.block_lt_of_cell? w _ d1
  simp only at hg
  obtain ⟨a, ha⟩ : ∃ a, (wrTab.getD op ([], [], 0)).2.2 = a := ⟨_, rfl⟩
  obtain ⟨b, hb⟩ : ∃ b, (wrTab.getD q ([], [], 0)).2.2 = b := ⟨_, rfl⟩
  rw [ha] at d1
  rw [hb] at d2
  obtain ⟨R, hR⟩ : ∃ R, brkB op place ⟨q, n, nm, ks⟩ = R := ⟨_, rfl⟩
  have HR : Hid (R = if (op : Int) = 17 then decide (place = 0) && decide (b = a) else if (op : Int) = 15 ∨ (op : Int) = 16 then decide (b ≤ a) else if (op : Int) = 3 ∧ (q : Int) = 1 then decide (0 ≤ n) else if place = 0 then decide (b < a) else decide (b ≤ a)) := by
    show R = _
    rw [← hR, ← ha, ← hb, ← rk_nat, ← rk_nat]; rfl
  rw [hR]
  clear hR ha hb hT
  have hW : Below w.heap.size w (w.alloc (.cells #[.int .i64 q, .int .i64 n, .string nm, .slice ka kn kc] 60)) := (Below.refl _ _).alloc (Nat.le_refl _) _
  have HW : Hid (Below w.heap.size w (w.alloc (.cells #[.int .i64 q, .int .i64 n, .string nm, .slice ka kn kc] 60))) := hW
  clear hW
  by_cases h17 : op = 17
  · subst h17
    by_cases hp : place = 0
    · subst hp
      have HR2 : Hid (R = decide (b = a)) := by show R = _; rw [HR.out]; simp
      clear HR
      go_enter Tryd.func103, Tryd.ntmps103
      go_wp2_with fail
      go_quiet (fail)
      go_wp2_with fail
      go_ret
      exact ⟨by rw [HR2.out] <;> rfl, below_drewN' HW.out _⟩
    · have HR2 : Hid (R = false) := by show R = _; rw [HR.out]; simp [hp]
      have gp : ((place : Int) == 0) = false := by rw [beq_eq_false_iff_ne]; omega
      clear HR
      go_enter Tryd.func103, Tryd.ntmps103
      go_wp2_with fail
      go_quiet (fail)
      go_wp2_with fail
      go_ret
      exact ⟨by rw [HR2.out] <;> rfl, below_drewN' HW.out _⟩
  · have g17 : ((op : Int) == 17) = false := by rw [beq_eq_false_iff_ne]; omega
    by_cases h15 : op = 15
    · subst h15
      have HR2 : Hid (R = decide (b ≤ a)) := by show R = _; rw [HR.out]; simp
      clear HR
      go_enter Tryd.func103, Tryd.ntmps103
      go_wp2_with fail
      go_quiet (fail)
      go_wp2_with fail
      go_ret
      exact ⟨by rw [HR2.out] <;> rfl, below_drewN' HW.out _⟩
    · have g15 : ((op : Int) == 15) = false := by rw [beq_eq_false_iff_ne]; omega
      by_cases h16 : op = 16
      · subst h16
        have HR2 : Hid (R = decide (b ≤ a)) := by show R = _; rw [HR.out]; simp
        clear HR
        go_enter Tryd.func103, Tryd.ntmps103
        go_wp2_with fail
        go_quiet (fail)
        go_wp2_with fail
        go_ret
        exact ⟨by rw [HR2.out] <;> rfl, below_drewN' HW.out _⟩
      · have g16 : ((op : Int) == 16) = false := by rw [beq_eq_false_iff_ne]; omega
        by_cases hl : op = 3 ∧ q = 1
        · obtain ⟨rfl, rfl⟩ := hl
          have HR2 : Hid (R = decide (0 ≤ n)) := by show R = _; rw [HR.out]; simp
          clear HR
          go_enter Tryd.func103, Tryd.ntmps103
          go_wp2_with fail
          go_quiet (fail)
          go_wp2_with fail
          go_ret
          exact ⟨by rw [HR2.out] <;> rfl, below_drewN' HW.out _⟩
        · have HR3 : Hid (R = if place = 0 then decide (b < a) else decide (b ≤ a)) := by
            show R = _
            rw [HR.out, if_neg (by omega), if_neg (by omega), if_neg (by omega)]
          clear HR
          have fin : ∀ z : Bool, z = (if place = 0 then decide (b < a) else decide (b ≤ a)) → z = R := fun z hz => by rw [HR3.out, hz]
          have FIN : Hid (∀ z : Bool, z = (if place = 0 then decide (b < a) else decide (b ≤ a)) → z = R) := fin
          clear fin HR3
          by_cases h3 : op = 3
          · subst h3
            have gq : ((q : Int) == 1) = false := by rw [beq_eq_false_iff_ne]; omega
            by_cases hp : place = 0
            · subst hp
              go_enter Tryd.func103, Tryd.ntmps103
              go_wp2_with fail
              go_quiet (fail)
              go_wp2_with fail
              go_ret
              exact ⟨by rw [← FIN.out (decide (b < a)) (by simp)] <;> rfl, below_drewN' HW.out _⟩
            · have gp : ((place : Int) == 0) = false := by rw [beq_eq_false_iff_ne]; omega
              go_enter Tryd.func103, Tryd.ntmps103
              go_wp2_with fail
              go_quiet (fail)
              go_wp2_with fail
              go_ret
              exact ⟨by rw [← FIN.out (decide (b ≤ a)) (by simp [hp])] <;> rfl, below_drewN' HW.out _⟩
          · have g3 : ((op : Int) == 3) = false := by rw [beq_eq_false_iff_ne]; omega
            by_cases hp : place = 0
            · subst hp
              go_enter Tryd.func103, Tryd.ntmps103
              go_wp2_with fail
              go_quiet (fail)
              go_wp2_with fail
              go_ret
              exact ⟨by rw [← FIN.out (decide (b < a)) (by simp)] <;> rfl, below_drewN' HW.out _⟩
            · have gp : ((place : Int) == 0) = false := by rw [beq_eq_false_iff_ne]; omega
              go_enter Tryd.func103, Tryd.ntmps103
              go_wp2_with fail
              go_quiet (fail)
              go_wp2_with fail
              go_ret
              exact ⟨by rw [← FIN.out (decide (b ≤ a)) (by simp [hp])] <;> rfl, below_drewN' HW.out _⟩
end Go.Proofs.YtjmccobblpcbhaaDoor
