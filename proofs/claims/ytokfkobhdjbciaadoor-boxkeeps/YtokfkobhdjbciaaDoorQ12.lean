/-
  BxWk.
-/
import Derived.Shelf.Unicode.DecodeSlow
import Derived.Laws.RangeAny
import Derived.Shelf.Small.Bits
import Derived.Shelf.Strconv.Itoa0
import Derived.Shelf.Unicode.Decode
import Derived.Shelf.Unicode.DecodeAny
import Derived.Shelf.Slices.CompactS
import Derived.Shelf.Slices.Cells
import Derived.Ground.SlsfProg
import Derived.Shelf.SlSortCmp.Insertion
import Derived.Shelf.SlSortCmp.SiftDown1
import Derived.Shelf.SlSortCmp.HeapSort1
import Derived.Shelf.SlSortCmp.Insertion1
import Derived.Shelf.SlSortCmp.Median1
import Derived.Shelf.SlSortCmp.Pivot1
import Derived.Shelf.SlSortCmp.ReverseRange1
import Derived.Shelf.SlSortCmp.PartialInsertion1
import Derived.Shelf.SlSortCmp.PartitionEqual1
import Derived.Shelf.SlSortCmp.Partition1
import Derived.Shelf.SlSortCmp.Pdq1
import Derived.Shelf.SlSortCmp.Whole1
import Derived.Test.YtokfkobhdjbciaaDoorProg
import Derived.WalkKit
import Derived.Deep.DeepFit
import Derived.Lib.OthersKept
import Derived.Lib.RuneCountTail
import Derived.Deep.AppendLies
import Derived.Deep.OwnRows
import Derived.Laws.AppendOwnNone
import Derived.Deep.QuietTactic
import Derived.BigQuiet
import Derived.Deep.RegionWith
import Derived.Laws.DeepStrings4
import Derived.Below
import Derived.Test.YtokfkobhdjbciaaDoorChecked
import Derived.Defers
import Derived.Test.YtokfkobhdjbciaaDoorQ01
import Derived.Test.YtokfkobhdjbciaaDoorQ02
import Derived.Test.YtokfkobhdjbciaaDoorQ03
import Derived.Test.YtokfkobhdjbciaaDoorQ04
import Derived.Test.YtokfkobhdjbciaaDoorQ05
import Derived.Test.YtokfkobhdjbciaaDoorQ06
import Derived.Test.YtokfkobhdjbciaaDoorQ07
import Derived.Test.YtokfkobhdjbciaaDoorQ08
import Derived.Test.YtokfkobhdjbciaaDoorQ09
import Derived.Test.YtokfkobhdjbciaaDoorQ10
import Derived.Test.YtokfkobhdjbciaaDoorQ11
set_option linter.unusedSimpArgs false
set_option linter.unusedVariables false
namespace Go.Proofs.YtokfkobhdjbciaaDoor
open Go.RowKit Go.Lib

/-- The terms within a term, the parts ahead of the whole. -/
def subsT : Tm → List Tm
  | .un op a => subsT a ++ [.un op a]
  | .bin op a b => subsT a ++ subsT b ++ [.bin op a b]
  | .ifs c a b => subsT c ++ subsT a ++ subsT b ++ [.ifs c a b]
  | t => [t]
theorem subsT_eq (t : Tm) : subsT t = ((partsT t).map subsT).flatten ++ [t] := by
  cases t <;> simp [subsT, partsT]
/-- All parts of another type are so by the look of split. -/
def OthH : Tm → Prop
  | .un _ a => OthH a
  | .bin _ a b => OthH a ∧ OthH b
  | .ifs c a b => OthH c ∧ OthH a ∧ OthH b
  | t => Oth t
theorem OthH.oth {t : Tm} (h : OthH t) : Oth t := by
  cases t with
  | other u x => exact h
  | _ => trivial
theorem OthH.parts {t : Tm} (h : OthH t) : ∀ q ∈ partsT t, OthH q := by
  cases t with
  | un op a => intro q hq; simp [partsT] at hq; subst hq; exact h
  | bin op a b => intro q hq; simp [partsT] at hq; rcases hq with rfl | rfl; exact h.1; exact h.2
  | ifs c a b => intro q hq; simp [partsT] at hq; rcases hq with rfl | rfl | rfl; exact h.1; exact h.2.1; exact h.2.2
  | _ => intro q hq; simp [partsT] at hq

/-- The state of a walk: its block p. -/
structure Wk (w : World) (p : Nat) (vn vt : Value) (ns : List (Nd × Value)) (ts : List Tm) (k : Nat) : Prop where
  blk : w.heap[p]? = some (.cells #[vn, vt, .int .i64 k] 99 (0, 0))
  on : OwnP w (p + 1) vn ns
  ot : w.ownsRow (p + 1) 45 1 vt ts.length (ts.map tv)
  ap : KdAp ns

/-- What a step leaves: all but the walk and its two rows is as it was; a row stays, or is young. -/
structure Fr (w w' : World) (p : Nat) (vn vt vn' vt' : Value) : Prop where
  os : w'.os = w.os
  tape : w'.tape = w.tape
  output : w'.output = w.output
  size : w.heap.size ≤ w'.heap.size
  same : ∀ b, b < w.heap.size → b ≠ p → vn.ownBlock ≠ some b → vt.ownBlock ≠ some b → w'.heap[b]? = w.heap[b]?
  nn : ∀ b, vn'.ownBlock = some b → b < w.heap.size → vn.ownBlock = some b
  tt : ∀ b, vt'.ownBlock = some b → b < w.heap.size → vt.ownBlock = some b

theorem Fr.refl (w : World) (p : Nat) (vn vt : Value) : Fr w w p vn vt vn vt := ⟨rfl, rfl, rfl, Nat.le_refl _, fun _ _ _ _ _ => rfl, fun _ h _ => h, fun _ h _ => h⟩
theorem Fr.trans {w w' w'' : World} {p : Nat} {vn vt vn' vt' vn'' vt'' : Value} (h : Fr w w' p vn vt vn' vt') (h' : Fr w' w'' p vn' vt' vn'' vt'') : Fr w w'' p vn vt vn'' vt'' := by
  have hs := h.size
  refine ⟨h'.os.trans h.os, h'.tape.trans h.tape, h'.output.trans h.output, Nat.le_trans hs h'.size, fun b hb h1 h2 h3 => ?_, fun b hb hlt => h.nn b (h'.nn b hb (by omega)) hlt, fun b hb hlt => h.tt b (h'.tt b hb (by omega)) hlt⟩
  rw [h'.same b (by omega) h1 (fun e => h2 (h.nn b e hb)) (fun e => h3 (h.tt b e hb))]
  exact h.same b hb h1 h2 h3
theorem Fr.below {w w' : World} {p : Nat} {vn vt : Value} (hb : Below w.heap.size w w') : Fr w w' p vn vt vn vt :=
  ⟨hb.os, hb.tape, hb.output, hb.size, fun b h _ _ _ => hb.block b h, fun _ h _ => h, fun _ h _ => h⟩
/-- Of what lies below the walk nothing has turned. -/
theorem Fr.under {w w' : World} {p : Nat} {vn vt vn' vt' : Value} (h : Fr w w' p vn vt vn' vt') (hp : p ≤ w.heap.size) (hn : ∀ b, vn.ownBlock = some b → p < b) (ht : ∀ b, vt.ownBlock = some b → p < b) : Below p w w' :=
  ⟨h.os, h.tape, h.output, h.size, fun b hb => h.same b (by omega) (by omega) (fun e => by have := hn b e; omega) (fun e => by have := ht b e; omega)⟩

theorem own_block {w : World} {base : Nat} {e : TypeId} {s n : Nat} {v : Value} {xs : List Value} (h : w.ownsRow base e s v n xs) : ∀ b, v.ownBlock = some b → base ≤ b ∧ b < w.heap.size := by
  intro b hb
  rcases h.2 with ⟨rfl, _⟩ | ⟨g, cap, cur, rfl, h1, h2, _⟩
  · cases hb
  · simp [Value.ownBlock] at hb; subst hb; exact ⟨h1, lt_of_block h2⟩
theorem Wk.below {w w' : World} {p : Nat} {vn vt : Value} {ns : List (Nd × Value)} {ts : List Tm} {k : Nat} (h : Wk w p vn vt ns ts k) (hb : Below w.heap.size w w') : Wk w' p vn vt ns ts k :=
  ⟨(hb.block _ (lt_of_block h.blk)).trans h.blk, h.on.below hb, ownsRow_below h.ot hb, h.ap⟩

theorem own_set {w : World} {base p o : Nat} {e : TypeId} {s n : Nat} {v u : Value} {xs : List Value} (h : w.ownsRow base e s v n xs) (hp : p < base) : (w.setCell ⟨p, o, none⟩ u).ownsRow base e s v n xs := by
  rcases h with ⟨h1, h2⟩
  refine ⟨h1, ?_⟩
  rcases h2 with h2 | ⟨g, cap, cur, rfl, hg, hb, r⟩
  · exact .inl h2
  · exact .inr ⟨g, cap, cur, rfl, hg, by rw [Deep.blk_setCell_other _ _ _ _ (by show g ≠ p; omega)]; exact hb, r⟩
theorem ownP_set {w : World} {base p o : Nat} {v u : Value} {ns : List (Nd × Value)} (h : OwnP w base v ns) (hp : p < base) : OwnP (w.setCell ⟨p, o, none⟩ u) base v ns :=
  ⟨own_set h.row hp, fun q hq => own_set (h.kids q hq) hp⟩
theorem blk_set {w : World} {p o : Nat} {c : Array Value} {T : TypeId} {v : Value} (h : w.heap[p]? = some (.cells c T (0, 0))) : (w.setCell ⟨p, o, none⟩ v).heap[p]? = some (.cells (c.setIfInBounds o v) T (0, 0)) := by
  exact heap_setCell_same w p o c T v h
theorem Fr.set {w : World} {p o : Nat} {vn vt u : Value} : Fr w (w.setCell ⟨p, o, none⟩ u) p vn vt vn vt :=
  ⟨rfl, rfl, rfl, by simp, fun b h1 h2 _ _ => Deep.blk_setCell_other _ _ _ _ h2, fun _ h _ => h, fun _ h _ => h⟩

theorem accS_len1 (ps : List (List Nd)) : (accS ps).1.length = (ps.map List.length).sum := by
  have key : ∀ (qs rs : List (List Nd)), (accS rs).1.length = (rs.map List.length).sum → (accS (rs ++ qs)).1.length = ((rs ++ qs).map List.length).sum := by
    intro qs
    induction qs with
    | nil => intro rs h; simpa using h
    | cons q qs ih =>
      intro rs h
      have e : rs ++ q :: qs = (rs ++ [q]) ++ qs := by simp
      rw [e]
      refine ih _ ?_
      rw [accS_snoc]
      simp [h]
  have := key ps [] rfl
  simpa using this
theorem flat_len (t : Tm) : (flatT t).length = (((partsT t).map flatT).map List.length).sum + 1 := by
  rw [flatT_eq]; unfold joinL; rw [List.length_append, accS_len1]; rfl
theorem sum_mem {l : List Nat} {x : Nat} (h : x ∈ l) : x ≤ l.sum := by
  induction l with
  | nil => cases h
  | cons a l ih =>
    rcases List.mem_cons.1 h with rfl | h
    · simp
    · have := ih h; simp; omega
theorem flat_part_lt {t q : Tm} (h : q ∈ partsT t) : (flatT q).length < (flatT t).length := by
  rw [flat_len t]
  have : (flatT q).length ≤ (((partsT t).map flatT).map List.length).sum := sum_mem (by simp; exact ⟨q, h, rfl⟩)
  omega

/-- A row under a frame that does not name it. -/
theorem own_fr {w w' : World} {p : Nat} {vn vt vn' vt' : Value} (F : Fr w w' p vn vt vn' vt') {base : Nat} {e : TypeId} {s n : Nat} {v : Value} {xs : List Value} (h : w.ownsRow base e s v n xs) (hp : p < base) (hn : v.ownBlock = none ∨ v.ownBlock ≠ vn.ownBlock) (ht : v.ownBlock = none ∨ v.ownBlock ≠ vt.ownBlock) : w'.ownsRow base e s v n xs := by
  rcases h with ⟨h1, h2⟩
  refine ⟨h1, ?_⟩
  rcases h2 with h2 | ⟨g, cap, cur, rfl, hg, hb, r⟩
  · exact .inl h2
  · refine .inr ⟨g, cap, cur, rfl, hg, ?_, r⟩
    rw [F.same g (lt_of_block hb) (by omega) (fun e => ?_) (fun e => ?_)]
    · exact hb
    · rcases hn with h | h
      · cases h
      · exact h e.symm
    · rcases ht with h | h
      · cases h
      · exact h e.symm

theorem subs_len (t : Tm) : (subsT t).length = (flatT t).length := by
  induction t with
  | un op a iha => rw [flat_len]; simp [subsT, partsT, iha]
  | bin op a b iha ihb => rw [flat_len]; simp [subsT, partsT, iha, ihb]; omega
  | ifs c a b ihc iha ihb => rw [flat_len]; simp [subsT, partsT, ihc, iha, ihb]; omega
  | _ => rw [flat_len]; simp [subsT, partsT]
theorem subs_sum (ps : List Tm) : ((ps.map subsT).flatten).length = (accS (ps.map flatT)).1.length := by
  rw [accS_len1]
  induction ps with
  | nil => rfl
  | cons a ps ih => simp at ih ⊢; rw [subs_len, ih]
theorem own_ne_blk {w : World} {base M : Nat} {e T : TypeId} {s n : Nat} {v : Value} {xs : List Value} {c : Array Value} (h : w.ownsRow base e s v n xs) (hb : w.heap[M]? = some (.cells c T (0, 0))) (hne : e ≠ T) : v.ownBlock ≠ some M := by
  intro hv
  rcases h.2 with ⟨rfl, _⟩ | ⟨g, cap, cur, rfl, _, h2, _⟩
  · cases hv
  · simp [Value.ownBlock] at hv; subst hv; rw [hb] at h2; simp at h2; exact hne h2.2.symm

def AddP (w : World) (p : Nat) (vn vt : Value) (ns : List (Nd × Value)) (ts : List Tm) (k : Nat) (t : Tm) (e : Ending) (w' : World) : Prop :=
  (k + (flatT t).length ≤ 64 ∧ e = .returned (.bool true) ∧ ∃ vn' vt' ns', Wk w' p vn' vt' (ns ++ ns') (ts ++ subsT t) (k + (flatT t).length) ∧ ns'.map (·.1) = (flatT t).map (mvN 0 ns.length) ∧ (∀ q ∈ ns', OwnI w' w.heap.size q.2 q.1.kids) ∧ Fr w w' p vn vt vn' vt') ∨
  (64 < k + (flatT t).length ∧ e = .returned (.bool false) ∧ Below p w w')

/-- In the loop over the parts. -/
structure AMid (w : World) (p : Nat) (vn vt : Value) (ns : List (Nd × Value)) (ts : List Tm) (k : Nat) (t : Tm) (g M j : Nat) (vnj vtj kv : Value) (nsj : List (Nd × Value)) (wr : World) : Prop where
  wk : Wk wr p vnj vtj (ns ++ nsj) (ts ++ (((partsT t).take j).map subsT).flatten) (k + 1 + (accS (((partsT t).take j).map flatT)).1.length)
  nodes : nsj.map (·.1) = (accS (((partsT t).take j).map flatT)).1.map (mvN 0 ns.length)
  node : wr.heap[M]? = some (.cells #[.int .i64 (opT t), .int .i64 (nT t), .string (nameT t), kv] 67 (0, 0))
  kids : OwnI wr (M + 1) kv ((accS (((partsT t).take j).map flatT)).2.map (· + (ns.length : Int)))
  parts : PartsAt wr g t
  le64 : k + 1 + (accS (((partsT t).take j).map flatT)).1.length ≤ 64
  young : ∀ q ∈ nsj, OwnI wr w.heap.size q.2 q.1.kids
  apart : ∀ q ∈ ns ++ nsj, kv.ownBlock = none ∨ q.2.ownBlock ≠ kv.ownBlock
  nM : vnj.ownBlock ≠ some M
  tg : vtj.ownBlock ≠ some g
  fr : Fr w wr p vn vt vnj vtj

theorem Fr.young {w w5 w7 : World} {p : Nat} {vn vt vn5 vt5 : Value} (F : Fr w w5 p vn vt vn5 vt5) (ho : w7.os = w5.os) (ht : w7.tape = w5.tape) (hp : w7.output = w5.output) (hs : w5.heap.size ≤ w7.heap.size) (h : ∀ b, b < w.heap.size → w7.heap[b]? = w5.heap[b]?) : Fr w w7 p vn vt vn5 vt5 :=
  ⟨ho.trans F.os, ht.trans F.tape, hp.trans F.output, Nat.le_trans F.size hs, fun b h1 h2 h3 h4 => (h b h1).trans (F.same b h1 h2 h3 h4), F.nn, F.tt⟩
/-- A row under a change of two blocks. -/
theorem own_same {w w' : World} {base : Nat} {e : TypeId} {s n : Nat} {v : Value} {xs : List Value} (h : w.ownsRow base e s v n xs) (hb : ∀ b, v.ownBlock = some b → w'.heap[b]? = w.heap[b]?) : w'.ownsRow base e s v n xs := by
  rcases h with ⟨h1, h2⟩
  refine ⟨h1, ?_⟩
  rcases h2 with h2 | ⟨g, cap, cur, rfl, hg, h3, r⟩
  · exact .inl h2
  · exact .inr ⟨g, cap, cur, rfl, hg, (hb g rfl).trans h3, r⟩

theorem mvKK_comp (a b : Nat) (k : Int) : mvK 0 b (mvK 0 a k) = mvK 0 ((b + a : Nat) : Int) k := by
  unfold mvK
  by_cases h : 0 ≤ k
  · rw [if_pos h, if_pos h, if_pos (by omega)]; omega
  · rw [if_neg h, if_neg h, if_neg h]
theorem mvNN_comp (a b : Nat) (x : Nd) : mvN 0 b (mvN 0 a x) = mvN 0 ((b + a : Nat) : Int) x := by
  unfold mvN
  simp only [List.map_map, Nd.mk.injEq, true_and]
  apply List.map_congr_left
  intro k _
  exact mvKK_comp a b k

theorem accS_nn (ps : List (List Nd)) (h : ∀ l ∈ ps, 0 < l.length) : ∀ k ∈ (accS ps).2, 0 ≤ k := by
  have key : ∀ (qs rs : List (List Nd)), (∀ l ∈ qs, 0 < l.length) → (∀ k ∈ (accS rs).2, 0 ≤ k) → ∀ k ∈ (accS (rs ++ qs)).2, 0 ≤ k := by
    intro qs
    induction qs with
    | nil => intro rs _ h; simpa using h
    | cons q qs ih =>
      intro rs hq h
      have e : rs ++ q :: qs = (rs ++ [q]) ++ qs := by simp
      rw [e]
      refine ih _ (fun l hl => hq l (List.mem_cons_of_mem _ hl)) ?_
      rw [accS_snoc]
      intro k hk
      rcases List.mem_append.1 hk with hk | hk
      · exact h k hk
      · have := hq q (List.mem_cons_self ..)
        simp at hk; omega
  have := key ps [] h (by simp [accS_nil])
  simpa using this
/-- The nodes behind the last step. -/
theorem flat_end (t : Tm) (m : Nat) : (flatT t).map (mvN 0 m) = (accS ((partsT t).map flatT)).1.map (mvN 0 m) ++ [⟨opT t, nT t, nameT t, (accS ((partsT t).map flatT)).2.map (· + (m : Int))⟩] := by
  rw [flatT_eq]
  unfold joinL
  rw [List.map_append]
  congr 1
  simp only [List.map_cons, List.map_nil, List.cons.injEq, and_true]
  unfold mvN
  simp only [Nd.mk.injEq, true_and]
  apply List.map_congr_left
  intro k hk
  have := accS_nn _ (fun l hl => by obtain ⟨q, _, rfl⟩ := List.mem_map.1 hl; rw [flat_len]; omega) k hk
  unfold mvK
  rw [if_pos this]

/-- The end: a node and a term more. -/
theorem Wk.finish {w0 w1 w2 w3 w4 : World} {p K M : Nat} {vn vt kv vn' vt' : Value} {N : List (Nd × Value)} {T : List Tm} {x : Nd} {t : Tm} {o o' : Obj}
    (W : Wk w0 p vn vt N T K) (hk : OwnI w0 (M + 1) kv x.kids) (hapN : ∀ q ∈ N, kv.ownBlock = none ∨ q.2.ownBlock ≠ kv.ownBlock) (hpM : p ≤ M)
    (h1 : w1.ownsRow (p + 1) 67 4 vn' (N.length + 1) (ndCells N ++ [.int .i64 x.op, .int .i64 x.n, .string x.name, kv])) (g1 : (w0.alloc o).drew.grownBy w1 vn.ownBlock)
    (h2 : w2 = w1.setCell ⟨p, 0, none⟩ vn')
    (h3 : w3.ownsRow (p + 1) 45 1 vt' (T.length + 1) (T.map tv ++ [tv t])) (g3 : (w2.alloc o').grownBy w3 vt.ownBlock)
    (h4 : w4 = w3.setCell ⟨p, 1, none⟩ vt') (hb1 : ∀ b, vn'.ownBlock = some b → vn.ownBlock = some b ∨ w0.heap.size ≤ b) (hb3 : ∀ b, vt'.ownBlock = some b → vt.ownBlock = some b ∨ w2.heap.size ≤ b) :
    Wk w4 p vn' vt' (N ++ [(x, kv)]) (T ++ [t]) K ∧ OwnI w4 (M + 1) kv x.kids ∧ (∀ q ∈ N, OwnI w4 (p + 1) q.2 q.1.kids) ∧ Fr w0 w4 p vn vt vn' vt' := by
  have hp0 := lt_of_block W.blk
  have b0 : Below w0.heap.size w0 (w0.alloc o).drew := ((Below.refl _ _).alloc (Nat.le_refl _) _).drew
  have on0 := W.on.below b0
  have ot0 := ownsRow_below W.ot b0
  have hk0 : OwnI (w0.alloc o).drew (M + 1) kv x.kids := hk.below b0
  have on1 : OwnP w1 (p + 1) vn' (N ++ [(x, kv)]) := OwnP.snoc on0 (ownsRow_mono hk0 (by omega)) h1 g1
  have ot1 : w1.ownsRow (p + 1) 45 1 vt T.length (T.map tv) := World.ownsRow.kept ot0 g1 (ownBlock_ne ot0 on0.row (by decide))
  have hk1 : OwnI w1 (M + 1) kv x.kids := World.ownsRow.kept hk0 g1 (ownBlock_ne hk0 on0.row (by decide))
  have blk1 : w1.heap[p]? = w0.heap[p]? := (g1.block p (by show p < (w0.alloc o).heap.size; rw [World.size_alloc]; omega) (fun e => by have := (own_block W.on.row p e.symm).1; omega)).trans (Deep.blk_alloc_lt _ _ _ hp0)
  have on2 : OwnP w2 (p + 1) vn' (N ++ [(x, kv)]) := h2 ▸ ownP_set on1 (by omega)
  have ot2 : w2.ownsRow (p + 1) 45 1 vt T.length (T.map tv) := h2 ▸ own_set ot1 (by omega)
  have hk2 : OwnI w2 (M + 1) kv x.kids := h2 ▸ own_set hk1 (by omega)
  have blk2 : w2.heap[p]? = some (.cells #[vn', vt, .int .i64 K] 99 (0, 0)) := by
    have := blk_set (o := 0) (v := vn') (blk1.trans W.blk)
    rw [h2]; simpa using this
  have hp2 := lt_of_block blk2
  have b2 : Below w2.heap.size w2 (w2.alloc o') := (Below.refl _ _).alloc (Nat.le_refl _) _
  have on3 : OwnP w3 (p + 1) vn' (N ++ [(x, kv)]) := by
    have h := on2.below b2
    have r := ownsRow_below ot2 b2
    exact ⟨World.ownsRow.kept h.row g3 (ownBlock_ne h.row r (by decide)), fun q hq => World.ownsRow.kept (h.kids q hq) g3 (ownBlock_ne (h.kids q hq) r (by decide))⟩
  have hk3 : OwnI w3 (M + 1) kv x.kids := by
    have h : OwnI (w2.alloc o') (M + 1) kv x.kids := hk2.below b2
    exact World.ownsRow.kept h g3 (ownBlock_ne h (ownsRow_below ot2 b2) (by decide))
  have blk3 : w3.heap[p]? = w2.heap[p]? := (g3.block p (by rw [World.size_alloc]; omega) (fun e => by have := (own_block W.ot p e.symm).1; omega)).trans (Deep.blk_alloc_lt _ _ _ hp2)
  have on4 : OwnP w4 (p + 1) vn' (N ++ [(x, kv)]) := h4 ▸ ownP_set on3 (by omega)
  have s01 : w0.heap.size ≤ w1.heap.size := by have h := g1.size; have e : (w0.alloc o).drew.heap.size = w0.heap.size + 1 := World.size_alloc _ _; omega
  have s12 : w2.heap.size = w1.heap.size := by rw [h2]; simp
  have s23 : w2.heap.size ≤ w3.heap.size := by have h := g3.size; rw [World.size_alloc] at h; omega
  have s34 : w4.heap.size = w3.heap.size := by rw [h4]; simp
  have hapA : KdAp (N ++ [(x, kv)]) := by
    unfold KdAp
    rw [List.pairwise_append]
    refine ⟨W.ap, List.pairwise_singleton _ _, fun a ha b hb g h5 h6 => ?_⟩
    rw [List.mem_singleton.1 hb] at h6
    rcases hapN a ha with h7 | h7
    · rw [h7] at h6; cases h6
    · exact h7 (h5.trans h6.symm)
  refine ⟨⟨?_, on4, ?_, hapA⟩, h4 ▸ own_set hk3 (by omega), fun q hq => on4.kids q (by simp [hq]), ⟨?_, ?_, ?_, by omega, fun b hb e1 e2 e3 => ?_, fun b hb hlt => ?_, fun b hb hlt => ?_⟩⟩
  · have := blk_set (o := 1) (v := vt') (blk3.trans blk2)
    rw [h4]; simpa using this
  · have := own_set (o := 1) (u := vt') (p := p) h3 (by omega)
    rw [h4]; simpa using this
  · rw [h4, show (w3.setCell ⟨p, 1, none⟩ vt').os = w3.os from rfl, g3.os, show (w2.alloc o').os = w2.os from rfl, h2, show (w1.setCell ⟨p, 0, none⟩ vn').os = w1.os from rfl, g1.os]; rfl
  · rw [h4, show (w3.setCell ⟨p, 1, none⟩ vt').tape = w3.tape from rfl, g3.tape, show (w2.alloc o').tape = w2.tape from rfl, h2, show (w1.setCell ⟨p, 0, none⟩ vn').tape = w1.tape from rfl, g1.tape]; rfl
  · rw [h4, show (w3.setCell ⟨p, 1, none⟩ vt').output = w3.output from rfl, g3.output, show (w2.alloc o').output = w2.output from rfl, h2, show (w1.setCell ⟨p, 0, none⟩ vn').output = w1.output from rfl, g1.output]; rfl
  · rw [h4, Deep.blk_setCell_other _ _ _ _ e1, g3.block b (by rw [World.size_alloc]; omega) (fun e => e3 e.symm), Deep.blk_alloc_lt _ _ _ (by omega), h2, Deep.blk_setCell_other _ _ _ _ e1, g1.block b (by show b < (w0.alloc o).heap.size; rw [World.size_alloc]; omega) (fun e => e2 e.symm)]
    exact Deep.blk_alloc_lt _ _ _ hb
  · rcases hb1 b hb with h | h
    · exact h
    · omega
  · rcases hb3 b hb with h | h
    · exact h
    · omega

theorem AMid.step {w wr w5 w6 : World} {p g M j k g6 cap6 : Nat} {vn vt vnj vtj vn5 vt5 kv : Value} {ns nsj ns5 : List (Nd × Value)} {ts : List Tm} {t q : Tm} {o : Obj} {Z : Int}
    (HA : AMid w p vn vt ns ts k t g M j vnj vtj kv nsj wr) (hq : (partsT t).take (j + 1) = (partsT t).take j ++ [q]) (hj : ((partsT t).take j).length = j) (hMw : w.heap.size ≤ M) (hpM : p < M) (hgw : w.heap.size ≤ g)
    (WK : Wk w5 p vn5 vt5 (ns ++ nsj ++ ns5) (ts ++ (((partsT t).take j).map subsT).flatten ++ subsT q) (k + 1 + (accS (((partsT t).take j).map flatT)).1.length + (flatT q).length))
    (hm5 : ns5.map (·.1) = (flatT q).map (mvN 0 ((ns ++ nsj).length : Nat))) (hy5 : ∀ x ∈ ns5, OwnI w5 wr.heap.size x.2 x.1.kids) (FR : Fr wr w5 p vnj vtj vn5 vt5) (h64 : k + 1 + (accS (((partsT t).take j).map flatT)).1.length + (flatT q).length ≤ 64)
    (kids5 : OwnI w5 (M + 1) kv ((accS (((partsT t).take j).map flatT)).2.map (· + (ns.length : Int)))) (node5 : w5.heap[M]? = some (.cells #[.int .i64 (opT t), .int .i64 (nT t), .string (nameT t), kv] 67 (0, 0))) (parts5 : PartsAt w5 g t)
    (hg6 : (w5.alloc o).drew.grownBy w6 kv.ownBlock) (hown6 : w6.ownsRow (M + 1) 3 1 (.slice (some ⟨g6, 0, none⟩) (j + 1) cap6) (j + 1) (((accS (((partsT t).take j).map flatT)).2.map (· + (ns.length : Int))).map (Value.int .i64) ++ [.int .i64 Z]))
    (hat6 : kv.ownBlock = some g6 ∨ g6 = (w5.alloc o).heap.size) (hZ : Z = ((ns.length + (accS (((partsT t).take j).map flatT)).1.length + (flatT q).length : Nat) : Int) - 1) :
    AMid w p vn vt ns ts k t g M (j + 1) vn5 vt5 (.slice (some ⟨g6, 0, none⟩) (j + 1) cap6) (nsj ++ ns5) (w6.setCell ⟨M, 3, none⟩ (.slice (some ⟨g6, 0, none⟩) (j + 1) cap6)) := by
  have hM5 := lt_of_block node5
  have hMr := lt_of_block HA.node
  have hg6M : M + 1 ≤ g6 := by
    have := own_block hown6 g6 rfl; omega
  -- what both steps leave
  have keep : ∀ b, b < w5.heap.size → b ≠ M → kv.ownBlock ≠ some b → (w6.setCell ⟨M, 3, none⟩ (.slice (some ⟨g6, 0, none⟩) (j + 1) cap6)).heap[b]? = w5.heap[b]? := fun b hb h1 h2 => by
    rw [Deep.blk_setCell_other _ _ _ _ h1]
    have := hg6.block b (by show b < (w5.alloc o).heap.size; rw [World.size_alloc]; omega) (fun e => h2 e.symm)
    exact this.trans (Deep.blk_alloc_lt _ _ _ hb)
  have hk5 := own_block kids5
  have hvn5M : vn5.ownBlock ≠ some M := fun e => HA.nM (FR.nn M e hMr)
  have hrow6 : (w6.setCell ⟨M, 3, none⟩ (.slice (some ⟨g6, 0, none⟩) (j + 1) cap6)).ownsRow (M + 1) 3 1 (.slice (some ⟨g6, 0, none⟩) (j + 1) cap6) (j + 1) (((accS (((partsT t).take j).map flatT)).2.map (· + (ns.length : Int))).map (Value.int .i64) ++ [.int .i64 Z]) := own_set hown6 (by omega)
  have hnl : nsj.length = (accS (((partsT t).take j).map flatT)).1.length := by have := congrArg List.length HA.nodes; simpa using this
  have hap : ∀ x ∈ ns ++ nsj ++ ns5, kv.ownBlock = none ∨ x.2.ownBlock ≠ kv.ownBlock := by
    intro x hx
    rcases List.mem_append.1 hx with hx | hx
    · exact HA.apart x hx
    · cases hkv : kv.ownBlock with
      | none => exact .inl rfl
      | some b =>
        right
        intro e
        have h1 := (own_block (hy5 x hx) b e).1
        have h2 := (own_block HA.kids b hkv).2
        omega
  have kidK : ∀ x ∈ ns ++ nsj ++ ns5, ∀ b, x.2.ownBlock = some b → b < w5.heap.size ∧ b ≠ M ∧ kv.ownBlock ≠ some b := fun x hx b hb => by
    have hx5 := WK.on.kids x hx
    refine ⟨(own_block hx5 b hb).2, fun e => own_ne_blk hx5 node5 (by decide) (e ▸ hb), fun e => ?_⟩
    rcases hap x hx with h | h
    · rw [h] at e; cases e
    · exact h (hb.trans e.symm)
  have hA1 : accS (((partsT t).take (j + 1)).map flatT) = ((accS (((partsT t).take j).map flatT)).1 ++ (flatT q).map (mvN 0 (accS (((partsT t).take j).map flatT)).1.length), (accS (((partsT t).take j).map flatT)).2 ++ [(((accS (((partsT t).take j).map flatT)).1.length + (flatT q).length : Nat) : Int) - 1]) := by
    rw [hq, List.map_append]; exact accS_snoc _ _
  have hS1 : (((partsT t).take (j + 1)).map subsT).flatten = (((partsT t).take j).map subsT).flatten ++ subsT q := by rw [hq]; simp
  have hlen2 : (accS (((partsT t).take j).map flatT)).2.length = j := by rw [accS_len2, List.length_map, hj]
  refine ⟨⟨?_, ⟨?_, ?_⟩, ?_, (by have h := WK.ap; rw [List.append_assoc] at h; exact h)⟩, ?_, ?_, ?_, ?_, ?_, ?_, ?_, ?_, ?_, ?_⟩
  · rw [keep p (lt_of_block WK.blk) (by omega) (fun e => by have := (hk5 p e).1; omega), WK.blk, hA1]
    simp only [List.length_append, List.length_map]
    rw [show k + 1 + ((accS (((partsT t).take j).map flatT)).1.length + (flatT q).length) = k + 1 + (accS (((partsT t).take j).map flatT)).1.length + (flatT q).length by omega]
  · rw [← List.append_assoc]
    refine own_same WK.on.row fun b hb => keep b (own_block WK.on.row b hb).2 (fun e => hvn5M (e ▸ hb)) (fun e => ?_)
    rcases ownBlock_ne kids5 WK.on.row (by decide) with h | h
    · rw [h] at e; cases e
    · exact h (e.trans hb.symm)
  · intro x hx
    rw [← List.append_assoc] at hx
    exact own_same (WK.on.kids x hx) fun b hb => let ⟨h1, h2, h3⟩ := kidK x hx b hb; keep b h1 h2 h3
  · rw [hS1, ← List.append_assoc]
    refine own_same WK.ot fun b hb => keep b (own_block WK.ot b hb).2 (fun e => own_ne_blk WK.ot node5 (by decide) (e ▸ hb)) (fun e => ?_)
    rcases ownBlock_ne kids5 WK.ot (by decide) with h | h
    · rw [h] at e; cases e
    · exact h (e.trans hb.symm)
  · rw [hA1, List.map_append, List.map_append, HA.nodes, hm5]
    congr 1
    rw [List.map_map]
    apply List.map_congr_left
    intro x _
    show mvN 0 _ x = mvN 0 (ns.length : Nat) (mvN 0 _ x)
    rw [mvNN_comp, List.length_append, hnl]
  · have h6 : w6.heap[M]? = w5.heap[M]? := by
      have := hg6.block M (by show M < (w5.alloc o).heap.size; rw [World.size_alloc]; omega) (fun e => by have := (hk5 M e.symm).1; omega)
      exact this.trans (Deep.blk_alloc_lt _ _ _ hM5)
    have := blk_set (o := 3) (v := .slice (some ⟨g6, 0, none⟩) (j + 1) cap6) (h6.trans node5)
    simpa using this
  · unfold OwnI
    rw [hA1]
    have e1 : ((accS (((partsT t).take j).map flatT)).2 ++ [(((accS (((partsT t).take j).map flatT)).1.length + (flatT q).length : Nat) : Int) - 1]).map (· + (ns.length : Int)) = (accS (((partsT t).take j).map flatT)).2.map (· + (ns.length : Int)) ++ [Z] := by
      rw [List.map_append, hZ]; simp; omega
    simp only [e1, List.length_append, List.length_map, List.length_singleton, hlen2, List.map_append, List.map_cons, List.map_nil]
    exact hrow6
  · rcases parts5 with h | h
    · exact .inl h
    · refine .inr ((keep g (lt_of_block h) (fun e => ?_) (fun e => ?_)).trans h)
      · subst e; rw [node5] at h; simp at h
      · exact own_ne_blk kids5 h (by decide) e
  · rw [hA1]; simp only [List.length_append, List.length_map]; omega
  · intro x hx
    rcases List.mem_append.1 hx with hx' | hx'
    · have h5 : OwnI w5 w.heap.size x.2 x.1.kids := by
        have := WK.on.kids x (by simp [hx'])
        refine ⟨this.1, ?_⟩
        rcases this.2 with h | ⟨g', cap', cur, hv, _, r⟩
        · exact .inl h
        · have hy := (own_block (HA.young x hx') g' (by rw [hv]; rfl)).1
          exact .inr ⟨g', cap', cur, hv, hy, r⟩
      exact own_same h5 fun b hb => let ⟨h1, h2, h3⟩ := kidK x (by simp [hx']) b hb; keep b h1 h2 h3
    · have h5 : OwnI w5 w.heap.size x.2 x.1.kids := ownsRow_mono (hy5 x hx') HA.fr.size
      exact own_same h5 fun b hb => let ⟨h1, h2, h3⟩ := kidK x (by simp [hx']) b hb; keep b h1 h2 h3
  · intro x hx
    right
    rw [← List.append_assoc] at hx
    intro e
    have hb : x.2.ownBlock = some g6 := e
    obtain ⟨h1, h2, h3⟩ := kidK x hx g6 hb
    rcases hat6 with h | h
    · exact h3 h
    · rw [World.size_alloc] at h; omega
  · exact hvn5M
  · intro e
    by_cases hgr : g < wr.heap.size
    · exact HA.tg (FR.tt g e hgr)
    · rcases HA.parts with h | h
      · rw [h] at hq; simp at hq
      · exact hgr (lt_of_block h)
  · refine Fr.young (HA.fr.trans FR) (hg6.os) (hg6.tape) (hg6.output) ?_ (fun b hb => keep b (by have := HA.fr.size; have := FR.size; omega) (by omega) (fun e => by have := (hk5 b e).1; omega))
    have := hg6.size
    have e : (w6.setCell ⟨M, 3, none⟩ (.slice (some ⟨g6, 0, none⟩) (j + 1) cap6)).heap.size = w6.heap.size := by simp
    rw [e]
    have h2 : (w5.alloc o).drew.heap.size = w5.heap.size + 1 := by show (w5.alloc o).heap.size = _; rw [World.size_alloc]
    omega
end Go.Proofs.YtokfkobhdjbciaaDoor
