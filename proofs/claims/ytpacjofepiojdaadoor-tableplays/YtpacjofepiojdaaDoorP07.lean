/-
  ExAddP, ExMakW, ExDecPure, ApFar.
-/
import Derived.Shelf.Unicode.DecodeSlow
import Derived.Laws.RangeAny
import Derived.Shelf.Small.Bits
import Derived.Shelf.Strconv.Itoa0
import Derived.Shelf.LaysM
import Derived.Shelf.Strconv.Clone
import Derived.Shelf.Unicode.DecodeAny
import Derived.Shelf.Slices.CompactS
import Derived.Ground.SlsfProg
import Derived.Shelf.SlSortCmp.Insertion
import Derived.Shelf.SlSortCmp.SiftDown1
import Derived.Shelf.SlSortCmp.HeapSort1
import Derived.Shelf.SlSortCmp.Insertion1
import Derived.Shelf.SlSortCmp.Median1
import Derived.Shelf.SlSortCmp.Pivot1
import Derived.Shelf.SlSortCmp.ReverseRange1
import Derived.Shelf.SlSortCmp.PartialInsertion1
import Derived.Shelf.SlSortCmp.PartitionEqual1
import Derived.Shelf.SlSortCmp.Partition1
import Derived.Shelf.SlSortCmp.Pdq1
import Derived.Shelf.SlSortCmp.Whole1
import Derived.Test.YtpacjofepiojdaaDoorProg
import Derived.WalkKit
import Derived.Deep.DeepFit
import Derived.Lib.OthersKept
import Derived.Lib.RuneCountTail
import Derived.Deep.AppendLies
import Derived.Deep.OwnRows
import Derived.Laws.AppendOwnNone
import Derived.Deep.QuietTactic
import Derived.BigQuiet
import Derived.Deep.RegionWith
import Derived.Laws.DeepStrings4
import Derived.Test.YtpacjofepiojdaaDoorP01
import Derived.Test.YtpacjofepiojdaaDoorP02
import Derived.Test.YtpacjofepiojdaaDoorP03
import Derived.Test.YtpacjofepiojdaaDoorP04
import Derived.Test.YtpacjofepiojdaaDoorP05
import Derived.Test.YtpacjofepiojdaaDoorP06
set_option linter.unusedSimpArgs false
set_option linter.unusedVariables false
namespace Go.Proofs.YtpacjofepiojdaaDoor
open Go.RowKit Go.Lib

/-- What was appended to a list of the call's own. -/
structure AddPost (w : World) (base : Nat) (v : Value) (p : List (Nd × Value)) (ms : List Nd) (e : Ending) (w' : World) : Prop where
  ex : ∃ v' p', e = .returned v' ∧ OwnP w' base v' (p ++ p') ∧ p'.map (·.1) = ms ∧ (∀ q ∈ p', OwnI w' w.heap.size q.2 q.1.kids) ∧ w.grownBy w' v.ownBlock ∧ (v'.ownBlock = v.ownBlock ∨ ∀ g, v'.ownBlock = some g → w.heap.size ≤ g) ∧ Below base w w'

/-- In the middle of it. -/
structure AddMid (w : World) (base : Nat) (v : Value) (p : List (Nd × Value)) (ms : List Nd) (x : Value) (wr : World) : Prop where
  ex : ∃ p', OwnP wr base x (p ++ p') ∧ p'.map (·.1) = ms ∧ (∀ q ∈ p', OwnI wr w.heap.size q.2 q.1.kids) ∧ w.grownBy wr v.ownBlock ∧ (x.ownBlock = v.ownBlock ∨ ∀ g, x.ownBlock = some g → w.heap.size ≤ g) ∧ Below base w wr

theorem AddMid.start {w : World} {base : Nat} {v : Value} {p : List (Nd × Value)} (h : OwnP w base v p) : AddMid w base v p [] v w :=
  ⟨⟨[], by simpa using h, rfl, by simp, World.grownBy.refl _ _, .inl rfl, Below.refl _ _⟩⟩

theorem grown_of_below {w w' : World} (h : Below w.heap.size w w') (row : Option Nat) : w.grownBy w' row := ⟨h.os, h.tape, h.output, h.size, fun k hk _ => h.block k hk⟩

/-- One node more: its kids are owned (new since wr), the append has gone through. -/
theorem AddMid.snoc {w : World} {base : Nat} {v x : Value} {p p' : List (Nd × Value)} {ms : List Nd} {wr W w1 : World} {y : Nd} {kv : Value} {g n cap : Nat} (hP : OwnP wr base x (p ++ p')) (hm : p'.map (·.1) = ms) (hkid : ∀ q ∈ p', OwnI wr w.heap.size q.2 q.1.kids) (hgr : w.grownBy wr v.ownBlock) (hx : x.ownBlock = v.ownBlock ∨ ∀ g, x.ownBlock = some g → w.heap.size ≤ g) (hB : Below base w wr)
    (hbase : base ≤ w.heap.size) (hBW : Below wr.heap.size wr W) (hk : OwnI W wr.heap.size kv y.kids) (hn : n = (p ++ p').length)
    (hown : w1.ownsRow base 63 4 (.slice (some ⟨g, 0, none⟩) (n + 1) cap) (n + 1) (ndCells (p ++ p') ++ [.int .i64 y.op, .int .i64 y.n, .string y.name, kv])) (hg : W.grownBy w1 x.ownBlock) (hat : x.ownBlock = some g ∨ g = W.heap.size) :
    AddMid w base v p (ms ++ [y]) (.slice (some ⟨g, 0, none⟩) (n + 1) cap) w1 := by
  have hsz : w.heap.size ≤ wr.heap.size := hgr.size
  have hPW := hP.below hBW
  have hkb : OwnI W base kv y.kids := ownsRow_mono hk (by omega)
  refine ⟨⟨p' ++ [(y, kv)], ?_, by simp [hm], fun q hq => ?_, ?_, ?_, ?_⟩⟩
  · rw [← List.append_assoc]
    subst hn
    exact hPW.snoc hkb hown hg
  · rcases List.mem_append.1 hq with hq | hq
    · have h1 := (hkid q hq).below hBW
      exact World.ownsRow.kept h1 hg (ownBlock_ne h1 hPW.row (by decide))
    · simp at hq; subst hq
      exact ownsRow_mono (World.ownsRow.kept hk hg (ownBlock_ne hk hPW.row (by decide))) hsz
  · refine ⟨hg.os.trans (hBW.os.trans hgr.os), hg.tape.trans (hBW.tape.trans hgr.tape), hg.output.trans (hBW.output.trans hgr.output), Nat.le_trans hsz (Nat.le_trans hBW.size hg.size), fun k hk1 hk2 => ?_⟩
    rw [hg.block k (by have := hBW.size; omega) (fun he => by
      rcases hx with hx | hx
      · rw [hx] at he; exact hk2 he
      · have := hx k he.symm; omega), hBW.block k (by omega), hgr.block k hk1 hk2]
  · rcases hat with hat | hat
    · rcases hx with hx | hx
      · left; show some g = v.ownBlock; rw [← hx, hat]
      · right; intro g' hg'; have e : g = g' := Option.some.inj hg'; have := hx g hat; omega
    · right; intro g' hg'; have e : g = g' := Option.some.inj hg'; have := hBW.size; omega
  · exact (hB.trans (hBW.mono (by omega))).grown hg (by have := hBW.size; omega) (fun k hk => (hPW.row.lt k hk).1)

end Go.Proofs.YtpacjofepiojdaaDoor

namespace Go.Proofs.YtpacjofepiojdaaDoor
open Go.RowKit Go.Lib

/-- The slice v reads as the lists ps, in blocks below B. -/
def Lst (w : World) (B : Nat) (v : Value) (ps : List (List Nd)) : Prop :=
  ∃ ao cap, v = .slice ao ps.length cap ∧ ps.length ≤ cap ∧ cap ≤ maxLen ∧ (ps = [] ∨ ∃ b o, ao = some ⟨b, o, none⟩ ∧ b < B ∧ ∀ i, i < ps.length → ∃ pv, w.cell? ⟨b, o + i, none⟩ = some pv ∧ Nodes w B pv (ps.getD i []))

theorem Lst.below {w w' : World} {B B' : Nat} {v : Value} {ps : List (List Nd)} (h : Lst w B v ps) (hb : Below B w w') (hB : B ≤ B') : Lst w' B' v ps := by
  obtain ⟨ao, cap, rfl, h1, h2, h3⟩ := h
  refine ⟨ao, cap, rfl, h1, h2, ?_⟩
  rcases h3 with h3 | ⟨b, o, rfl, hlt, hc⟩
  · exact .inl h3
  · exact .inr ⟨b, o, rfl, by omega, fun i hi => let ⟨pv, h4, h5⟩ := hc i hi; ⟨pv, (hb.cell (p := ⟨b, o + i, none⟩) hlt).trans h4, h5.below hb hB⟩⟩

theorem OwnP.kept {w w' : World} {base base' : Nat} {v v2 : Value} {p : List (Nd × Value)} {e : TypeId} {s n : Nat} {xs : List Value} (h : OwnP w base v p) (hg : w.grownBy w' v2.ownBlock) (hr : w.ownsRow base' e s v2 n xs) (h1 : 63 ≠ e) (h2 : 3 ≠ e) : OwnP w' base v p :=
  ⟨World.ownsRow.kept h.row hg (ownBlock_ne h.row hr h1), fun q hq => World.ownsRow.kept (h.kids q hq) hg (ownBlock_ne (h.kids q hq) hr h2)⟩
theorem OwnN.kept {w w' : World} {base base' : Nat} {v v2 : Value} {l : List Nd} {e : TypeId} {s n : Nat} {xs : List Value} (h : OwnN w base v l) (hg : w.grownBy w' v2.ownBlock) (hr : w.ownsRow base' e s v2 n xs) (h1 : 63 ≠ e) (h2 : 3 ≠ e) : OwnN w' base v l :=
  let ⟨p, h3, h4⟩ := h; ⟨p, h3, h4.kept hg hr h1 h2⟩

/-- Lists of lists of the call's own; pvs: the slices. -/
structure OwnLs (w : World) (base : Nat) (v : Value) (ps : List (List Nd)) (pvs : List Value) : Prop where
  len : pvs.length = ps.length
  row : w.ownsRow base 22 1 v ps.length pvs
  each : ∀ i, i < ps.length → OwnN w base (pvs.getD i (.slice none 0 0)) (ps.getD i [])

theorem OwnLs.snoc {w w1 : World} {base : Nat} {v v' : Value} {ps : List (List Nd)} {pvs : List Value} {l : List Nd} {pv : Value} (h : OwnLs w base v ps pvs) (hl : OwnN w base pv l)
    (hown : w1.ownsRow base 22 1 v' (ps.length + 1) (pvs ++ [pv])) (hg : w.grownBy w1 v.ownBlock) : OwnLs w1 base v' (ps ++ [l]) (pvs ++ [pv]) := by
  have hlen := h.len
  refine ⟨by simp [hlen], by simpa using hown, fun i hi => ?_⟩
  by_cases hlt : i < ps.length
  · have e1 : (pvs ++ [pv]).getD i (.slice none 0 0) = pvs.getD i (.slice none 0 0) := by simp only [List.getD_eq_getElem?_getD]; rw [List.getElem?_append_left (by omega)]
    have e2 : (ps ++ [l]).getD i [] = ps.getD i [] := by simp only [List.getD_eq_getElem?_getD]; rw [List.getElem?_append_left (by omega)]
    rw [e1, e2]
    exact (h.each i hlt).kept hg h.row (by decide) (by decide)
  · have he : i = ps.length := by simp at hi; omega
    have e1 : (pvs ++ [pv]).getD i (.slice none 0 0) = pv := by rw [he, ← hlen]; simp
    have e2 : (ps ++ [l]).getD i [] = l := by rw [he]; simp
    rw [e1, e2]
    exact hl.kept hg h.row (by decide) (by decide)

theorem OwnLs.below {w w' : World} {base : Nat} {v : Value} {ps : List (List Nd)} {pvs : List Value} (h : OwnLs w base v ps pvs) (hb : Below w.heap.size w w') : OwnLs w' base v ps pvs :=
  ⟨h.len, ownsRow_below h.row hb, fun i hi => (h.each i hi).below hb⟩

theorem Tryd.infoNodes : (Tryd.prog.info? 22).map (fun i => (i.zero, i.size, i.bytes)) = some (some (.slice none 0 0), 1, 24) := by kernel_rfl
end Go.Proofs.YtpacjofepiojdaaDoor

set_option linter.unusedSimpArgs false
set_option linter.unusedVariables false
namespace Go.Proofs.YtpacjofepiojdaaDoor
open Go.RowKit Go.Lib

/-- Parts behind one another, and the places of their own nodes. -/
def accS (ps : List (List Nd)) : List Nd × List Int := ps.foldl (fun s p => (s.1 ++ p.map (mvN 0 s.1.length), s.2 ++ [((s.1.length + p.length : Nat) : Int) - 1])) ([], [])
theorem accS_snoc (ps : List (List Nd)) (p : List Nd) : accS (ps ++ [p]) = ((accS ps).1 ++ p.map (mvN 0 (accS ps).1.length), (accS ps).2 ++ [(((accS ps).1.length + p.length : Nat) : Int) - 1]) := by
  unfold accS; rw [List.foldl_append]; rfl
theorem accS_nil : accS [] = ([], []) := rfl
theorem accS_len2 (ps : List (List Nd)) : (accS ps).2.length = ps.length := by
  have key : ∀ (qs rs : List (List Nd)), (accS rs).2.length = rs.length → (accS (rs ++ qs)).2.length = (rs ++ qs).length := by
    intro qs
    induction qs with
    | nil => intro rs h; simpa using h
    | cons q qs ih =>
      intro rs h
      have e : rs ++ q :: qs = (rs ++ [q]) ++ qs := by simp
      rw [e]
      exact ih (rs ++ [q]) (by rw [accS_snoc]; simp [h])
  simpa using key ps [] rfl

def joinL (op n : Int) (nm : ByteArray) (ps : List (List Nd)) : List Nd := (accS ps).1 ++ [⟨op, n, nm, (accS ps).2⟩]

theorem OwnP_nil (w : World) (base : Nat) : OwnP w base (.slice none 0 0) [] := ⟨World.ownsRow_nil _ _ _ _, by simp⟩

theorem OwnP.form {w : World} {base : Nat} {v : Value} {p : List (Nd × Value)} (h : OwnP w base v p) : ∃ ao cap, v = .slice ao p.length cap := by
  obtain ⟨_, h2⟩ := h.row
  rcases h2 with ⟨rfl, h0⟩ | ⟨g, cap, cur, rfl, _⟩
  · exact ⟨none, 0, by rw [h0]⟩
  · exact ⟨_, cap, rfl⟩
theorem accS_le' {ps : List (List Nd)} {N : Nat} (h : ∀ l ∈ ps, l.length ≤ N) : (accS ps).1.length ≤ N * ps.length := by
  have key : ∀ (qs rs : List (List Nd)), (∀ l ∈ qs, l.length ≤ N) → (accS rs).1.length ≤ N * rs.length → (accS (rs ++ qs)).1.length ≤ N * (rs ++ qs).length := by
    intro qs
    induction qs with
    | nil => intro rs _ h; simpa using h
    | cons q qs ih =>
      intro rs hq h
      have e : rs ++ q :: qs = (rs ++ [q]) ++ qs := by simp
      rw [e]
      refine ih (rs ++ [q]) (fun l hl => hq l (List.mem_cons_of_mem _ hl)) ?_
      have := hq q (List.mem_cons_self ..)
      rw [accS_snoc]; simp [Nat.mul_add]; omega
  simpa using key ps [] h (by simp [accS])

/-- In the third loop. -/
structure MkMid (w : World) (base : Nat) (ps : List (List Nd)) (v kv : Value) (wr : World) : Prop where
  ex : ∃ p, OwnP wr base v p ∧ p.map (·.1) = (accS ps).1 ∧ OwnI wr base kv (accS ps).2 ∧ (∀ q ∈ p, q.2.ownBlock = none ∨ q.2.ownBlock ≠ kv.ownBlock) ∧ Below base w wr

/-- The kids' list grows by one. -/
theorem mk_kids {W w1 : World} {base : Nat} {v kv : Value} {p : List (Nd × Value)} {ks : List Int} {z : Int} {g cap : Nat} (hP : OwnP W base v p) (hK : OwnI W base kv ks) (hd : ∀ q ∈ p, q.2.ownBlock = none ∨ q.2.ownBlock ≠ kv.ownBlock)
    (hown : w1.ownsRow base 3 1 (.slice (some ⟨g, 0, none⟩) (ks.length + 1) cap) (ks.length + 1) (ks.map (Value.int .i64) ++ [.int .i64 z])) (hg : W.grownBy w1 kv.ownBlock) (hat : kv.ownBlock = some g ∨ g = W.heap.size) :
    OwnP w1 base v p ∧ OwnI w1 base (.slice (some ⟨g, 0, none⟩) (ks.length + 1) cap) (ks ++ [z]) ∧ ∀ q ∈ p, q.2.ownBlock = none ∨ q.2.ownBlock ≠ (Value.slice (some ⟨g, 0, none⟩) (ks.length + 1) cap).ownBlock := by
  refine ⟨⟨World.ownsRow.kept hP.row hg (ownBlock_ne hP.row hK (by decide)), fun q hq => World.ownsRow.kept (hP.kids q hq) hg (hd q hq)⟩, OwnI_snoc hown, fun q hq => ?_⟩
  rcases hd q hq with h | h
  · exact .inl h
  · right
    show q.2.ownBlock ≠ some g
    rcases hat with hat | hat
    · rw [← hat]; exact h
    · intro he
      have := ((hP.kids q hq).lt g he).2
      omega

end Go.Proofs.YtpacjofepiojdaaDoor

set_option linter.unusedSimpArgs false
set_option linter.unusedVariables false
namespace Go.Proofs.YtpacjofepiojdaaDoor

/-- The part whose own node stands at a kid's place. -/
def kidPart (l : List Nd) (fr : List Nat) (k : Int) : List Nd := partL l (fr.getD k.toNat 0) k.toNat


theorem cut_split (l : List Nd) (a b c : Nat) (hab : a ≤ b) (hbc : b ≤ c) : (l.drop a).take (c - a) = (l.drop a).take (b - a) ++ (l.drop b).take (c - b) := by
  have e : c - a = (b - a) + (c - b) := by omega
  rw [e, List.take_add, List.drop_drop]
  have e2 : a + (b - a) = b := by omega
  rw [e2]

theorem acc_parts {l : List Nd} {fr : List Nat} (h : BegOk l fr) : ∀ (r : List Int) (c c0 : Nat), c ≤ l.length → chainL fr r c = some c0 →
    accS ((r.reverse).map (kidPart l fr)) = (((l.drop c0).take (c - c0)).map (mvN 0 (-(c0 : Int))), r.reverse.map (· - (c0 : Int))) := by
  intro r
  induction r with
  | nil =>
    intro c c0 _ hc
    simp only [chainL, Option.some.injEq] at hc
    subst hc
    simp [accS]
  | cons k r ih =>
    intro c c0 hcl hc
    simp only [chainL] at hc
    split at hc
    · cases hc
    · rename_i hn
      have hlo := h.low (c - 1)
      have hle := chainL_le h.low _ _ _ hc
      have hi := ih _ c0 (by omega) hc
      have hk : k = ((c - 1 : Nat) : Int) := by omega
      have hkt : k.toNat = c - 1 := by omega
      rw [List.reverse_cons, List.map_append, List.map_cons, List.map_nil, accS_snoc, hi]
      have hins := kids_inside h (c - 1) (by omega)
      have hplen := partL_len l (fr.getD (c - 1) 0) (c - 1) (by omega) hlo
      have hkp : kidPart l fr k = partL l (fr.getD (c - 1) 0) (c - 1) := by unfold kidPart; rw [hkt]
      rw [hkp]
      generalize hb : fr.getD (c - 1) 0 = b at *
      have hAl : ((((l.drop c0).take (b - c0)).map (mvN 0 (-(c0 : Int)))).length) = b - c0 := by simp; omega
      have hpart : (partL l b (c - 1)).map (mvN 0 ((b - c0 : Nat) : Int)) = ((l.drop b).take (c - b)).map (mvN 0 (-(c0 : Int))) := by
        unfold partL
        have e : c - 1 + 1 - b = c - b := by omega
        rw [e, List.map_map]
        apply List.map_congr_left
        intro x hx
        obtain ⟨j, hj, rfl⟩ := List.getElem_of_mem hx
        have hj' : j < c - b := by simp at hj; omega
        have hgx : ((l.drop b).take (c - b))[j] = l.getD (b + j) nd0 := by
          have hlt : b + j < l.length := by omega
          simp [hlt]
        rw [hgx]
        have hin := hins (b + j) (by omega) (by omega)
        show mvN 0 ((b - c0 : Nat) : Int) (mvN 0 (-(b : Int)) (l.getD (b + j) nd0)) = mvN 0 (-(c0 : Int)) (l.getD (b + j) nd0)
        unfold mvN
        simp only [List.map_map, Nd.mk.injEq, true_and]
        apply List.map_congr_left
        intro q hq
        have := hin q hq
        show mvK 0 ((b - c0 : Nat) : Int) (mvK 0 (-(b : Int)) q) = mvK 0 (-(c0 : Int)) q
        have e1 : mvK 0 (-(b : Int)) q = q - b := by unfold mvK; rw [if_pos (by omega)]; omega
        rw [e1]
        unfold mvK
        rw [if_pos (by omega), if_pos (by omega)]
        omega
      rw [hAl, hpart]
      refine Prod.ext ?_ ?_
      · show _ ++ _ = _
        rw [cut_split l c0 b c (by omega) (by omega), List.map_append]
      · show _ ++ _ = (r.reverse ++ [k]).map _
        rw [List.map_append, hplen, hk]
        simp
        omega

/-- The expression at a place is its operator with its parts. -/
theorem part_join {l : List Nd} {fr : List Nat} (h : BegOk l fr) (i : Nat) (hi : i < l.length) :
    partL l (fr.getD i 0) i = joinL (l.getD i nd0).op (l.getD i nd0).n (l.getD i nd0).name ((l.getD i nd0).kids.map (kidPart l fr)) := by
  have hc := (h.at_ i hi).2
  have hlo := h.low i
  have hacc := acc_parts h _ i _ (by omega) hc
  rw [List.reverse_reverse] at hacc
  unfold joinL
  rw [hacc]
  have hk0 := ok_kids h i hi
  generalize fr.getD i 0 = a at *
  unfold partL
  have e : i + 1 - a = (i - a) + 1 := by omega
  have hlt : i - a < (l.drop a).length := by simp; omega
  rw [e, List.take_succ_eq_append_getElem hlt, List.map_append]
  congr 1
  have hg : (l.drop a)[i - a] = l.getD i nd0 := by
    have e2 : a + (i - a) = i := by omega
    simp [e2, hi]
  rw [hg]
  simp only [List.map_cons, List.map_nil, List.cons.injEq, and_true]
  unfold mvN
  simp only [Nd.mk.injEq, true_and]
  apply List.map_congr_left
  intro k hk
  have := hk0 k hk
  unfold mvK
  rw [if_pos this]; omega

/-- The whole, made of its parts again. -/
theorem whole_join {l : List Nd} {fr : List Nat} (hb : begL l = some fr) :
    joinL (l.getD (l.length - 1) nd0).op (l.getD (l.length - 1) nd0).n (l.getD (l.length - 1) nd0).name ((l.getD (l.length - 1) nd0).kids.map (kidPart l fr)) = l := by
  obtain ⟨h0, _, hr, ht⟩ := begL_some hb
  have hok := begOk_of hr
  rw [← part_join hok (l.length - 1) (by omega), ht]
  unfold partL
  have e : l.length - 1 + 1 - 0 = l.length := by omega
  rw [e]
  simp [map_mvN_zero]
end Go.Proofs.YtpacjofepiojdaaDoor

set_option linter.unusedSimpArgs false
set_option linter.unusedVariables false
namespace Go.Proofs.YtpacjofepiojdaaDoor
open Go.RowKit

section
variable {P : Program} (w : World)

theorem run_append_far (t ty : TypeId) (base : Nat) (e : TypeId) (i : TypeInfo) (z : Value) (size bytes : Nat) (ht : P.underlying t = some (.slice e)) (hi : P.info? e = some i) (hz : i.zero = some z)
    (hsize : i.size = size) (hby : i.bytes = bytes) (hzs : z.cells.size = size) (hsz : 0 < size)
    (v : Value) (n : Nat) (xs : List Value) (hown : w.ownsRow base e size v n xs)
    (ad : Addr) (m c : Nat) (news : List Value) (hl : news.length = m * size) (hnews : ∀ j u, news[j]? = some u → w.cell? (ad.add j) = some u) (h1 : ∀ u ∈ news, u.oneCell' = true)
    (hm : 0 < m) (h63 : n + m ≤ maxLen) (hbytes : (n + m) * bytes ≤ 140737488355328) (hbase : base ≤ w.heap.size) (H : Nat) (hH : w.heap.size = H) :
    ∃ g cap w', (Builtin.append_ #[t, t] ty #[v, .slice (some ad) m c]).run P w = .ok (.slice (some ⟨g, 0, none⟩) (n + m) cap) w' ∧
      w'.ownsRow base e size (.slice (some ⟨g, 0, none⟩) (n + m) cap) (n + m) (xs ++ news) ∧ w.grownBy w' v.ownBlock ∧ ((v.ownBlock = some g) ∨ (g = H ∧ w.grownBy w' none)) ∧ g < w'.heap.size := by
  obtain ⟨g, cap, w', hr, h2, h3, h4, h5⟩ := run_append_lies (P := P) w t ty base e i z size bytes ht hi hz hsize hby hzs hsz v n xs hown ad m c news hl hnews h1 hm h63 hbytes hbase H hH
  refine ⟨g, cap, w', hr, h2, h3, ?_, h5⟩
  have hsmall : n + m ≤ 9223372036854775807 := by simp only [maxLen] at h63; omega
  rcases hown.2 with ⟨rfl, rfl⟩ | ⟨g0, cap0, cur, rfl, hbg, hg, hnc, hcm, hcs, htake⟩
  · rcases h4 with h4 | h4
    · cases h4
    · exact .inr ⟨h4, h3⟩
  · subst hsize
    subst hby
    by_cases hroom : n + m ≤ cap0
    · have hfit : n * i.size + news.length ≤ cur.size := by rw [hl, hcs, ← Nat.add_mul]; exact Nat.mul_le_mul_right _ hroom
      have hr2 := run_append_room (P := P) w t ty e i ht hi g0 n cap0 cur hg ad m c news hl hnews h1 hroom hfit
      rw [hr] at hr2
      simp only [Result.ok.injEq, Value.slice.injEq, Option.some.injEq, Addr.mk.injEq, true_and, and_true] at hr2
      exact .inl (by rw [hr2.1.1]; rfl)
    · have holds : ∀ j u, xs[j]? = some u → w.cell? ((⟨g0, 0, none⟩ : Addr).add j) = some u := hown.cells (g := g0) rfl
      have hr2 := run_append_grow (P := P) w t ty e i z ht hi hz ⟨g0, 0, none⟩ n cap0 xs hown.1 holds ad m c news hl hnews (by omega) (by omega) (growslice_fits (by omega) hbytes)
      rw [hr] at hr2
      simp only [Result.ok.injEq, Value.slice.injEq, Option.some.injEq, Addr.mk.injEq, true_and, and_true] at hr2
      refine .inr ⟨by omega, ?_⟩
      rw [hr2.2]
      exact ⟨rfl, rfl, rfl, by simp, fun k hk _ => Deep.blk_alloc_lt w.drew _ _ hk⟩

end
end Go.Proofs.YtpacjofepiojdaaDoor
