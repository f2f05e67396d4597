/-
  ExArW, ExMem, ExMovW, ExSameW.
-/
import Derived.Shelf.Unicode.DecodeSlow
import Derived.Laws.RangeAny
import Derived.Shelf.Strconv.Itoa0
import Derived.Shelf.Unicode.DecodeAny
import Derived.Test.YtjkcbigmebbkkaaDoorProg
import Derived.WalkKit
import Derived.Deep.DeepFit
import Derived.Lib.OthersKept
import Derived.Deep.AppendLies
import Derived.Deep.OwnRows
import Derived.Laws.AppendOwnNone
import Derived.Deep.QuietTactic
import Derived.BigQuiet
import Derived.Deep.RegionWith
import Derived.Test.YtjkcbigmebbkkaaDoorY01
set_option linter.unusedSimpArgs false
set_option linter.unusedVariables false
namespace Go.Proofs.YtjkcbigmebbkkaaDoor
open Go.RowKit Go.Lib

theorem ret2' {k l : IntKind} {a b c d : Int} (h : a = c) (h' : b = d) : Ending.returned (.tuple #[.int k a, .int l b]) = .returned (.tuple #[.int k c, .int l d]) := by rw [h, h']

def arK (op : Int) : Int := max (aritI op) 0
def arE (op : Int) : Int := if aritI op < 0 then 2 else 0
theorem ar_of {op a : Int} (h : aritI op = a) (h0 : 0 ≤ a) : arK op = a ∧ arE op = 0 := by
  unfold arK arE; rw [h, if_neg (by omega)]; exact ⟨by omega, rfl⟩
theorem ar_none {op : Int} (h : aritI op = -1) : arK op = 0 ∧ arE op = 2 := by
  unfold arK arE; rw [h]; exact ⟨by decide, by decide⟩

theorem ar_spec (op : Int) : (arK op = 0 ∧ arE op = 0 ∧ (op = 1 ∨ op = 2)) ∨ (arK op = 1 ∧ arE op = 0 ∧ (op = 3 ∨ op = 4)) ∨ (arK op = 2 ∧ arE op = 0 ∧ 5 ≤ op ∧ op ≤ 16) ∨ (arK op = 3 ∧ arE op = 0 ∧ op = 17) ∨ (arK op = 0 ∧ arE op = 2 ∧ (op < 1 ∨ 17 < op)) := by
  by_cases h1 : op = 1 ∨ op = 2
  · have := ar_of (op := op) (a := 0) (by simp [aritI, h1]) (by omega); omega
  by_cases h2 : op = 3 ∨ op = 4
  · have := ar_of (op := op) (a := 1) (by simp [aritI, h1, h2]) (by omega); omega
  by_cases h3 : 5 ≤ op ∧ op ≤ 16
  · have := ar_of (op := op) (a := 2) (by simp [aritI, h1, h2, h3]) (by omega); omega
  by_cases h4 : op = 17
  · have := ar_of (op := op) (a := 3) (by simp [aritI, h4]) (by omega); omega
  · have := ar_none (op := op) (by simp [aritI, h1, h2, h3, h4]); omega

set_option maxHeartbeats 400000 in
theorem arity_any (op : Int) (w : World) :
    Calls Tryd.prog 73 #[.int .i64 op] w fun e w' => e = .returned (.tuple #[.int .i64 (arK op), .int .i64 (arE op)]) ∧ w' = w := by
  go_enter Tryd.func73, Tryd.ntmps73
  go_wp2
  all_goals
    go_ret2
    have hs := ar_spec op
    simp only [beq_iff_eq, beq_eq_false_iff_ne, ne_eq] at *
    exact ⟨ret2' (by omega) (by omega), trivial⟩

set_option maxHeartbeats 400000 in
theorem fits_any (op n : Int) (name : ByteArray) (parts : Int) (w : World) (hT : SpanCells w) :
    Calls Tryd.prog 50 #[.int .i64 op, .int .i64 n, .string name, .int .i64 parts] w fun e w' => e = .returned (.bool (fitB op n name parts)) ∧ Below w.heap.size w w' := by
  have HF : Hid (fitB op n name parts = (!(arE op != 0) && !(parts != arK op) && !(n != 0 && op != 1) && (if op = 2 then nameB name else name.toList.isEmpty))) := by
    show _ = _
    by_cases h : 0 ≤ aritI op
    · rw [(ar_of rfl h).1, (ar_of rfl h).2]
      unfold fitB
      rw [Bool.eq_iff_iff]
      simp [h]
    · have h1 : aritI op = -1 := by have := aritI_ge op; omega
      rw [(ar_none h1).1, (ar_none h1).2]
      unfold fitB
      simp [h1]
  have ca : Hid (∀ W, Calls Tryd.prog 73 #[.int .i64 op] W fun e w' => e = .returned (.tuple #[.int .i64 (arK op), .int .i64 (arE op)]) ∧ w' = W) := arity_any op
  generalize arK op = k at *
  generalize arE op = x at *
  go_enter Tryd.func50, Tryd.ntmps50
  go_wp2_with (first | (go_at_call 73; refine (ca.out _).mono ?_; rintro e w' ⟨rfl, rfl⟩) | (go_at_call 52; refine (name_spans _ _ hT).mono ?_; rintro e w' ⟨rfl, hb⟩))
  all_goals
    go_ret
    first
    | exact ⟨ret_bool (by rw [HF.out]; simp_all), hb⟩
    | exact ⟨ret_bool (by rw [HF.out]; simp_all), Below.refl _ _⟩
end Go.Proofs.YtjkcbigmebbkkaaDoor

set_option linter.unusedSimpArgs false
set_option linter.unusedVariables false
namespace Go.Proofs.YtjkcbigmebbkkaaDoor
open Go.RowKit Go.Lib

/-- The slice v reads as the numbers ks, in blocks below B. -/
def Ints (w : World) (B : Nat) (v : Value) (ks : List Int) : Prop :=
  ∃ ao cap, v = .slice ao ks.length cap ∧ ks.length ≤ cap ∧ (cap ≤ maxLen ∧ (ao = none → cap = 0)) ∧ (ks = [] ∨ ∃ b o, ao = some ⟨b, o, none⟩ ∧ b < B ∧ ∀ j, j < ks.length → w.cell? ⟨b, o + j, none⟩ = some (.int .i64 (ks.getD j 0)))

/-- The four cells of a node at b, o. -/
structure NodeAt (w : World) (B b o : Nat) (x : Nd) (kv : Value) : Prop where
  c0 : w.cell? ⟨b, o, none⟩ = some (.int .i64 x.op)
  c1 : w.cell? ⟨b, o + 1, none⟩ = some (.int .i64 x.n)
  c2 : w.cell? ⟨b, o + 2, none⟩ = some (.string x.name)
  c3 : w.cell? ⟨b, o + 3, none⟩ = some kv
  kids : Ints w B kv x.kids

/-- The slice v reads as the nodes l, in blocks below B. -/
def Nodes (w : World) (B : Nat) (v : Value) (l : List Nd) : Prop :=
  ∃ ao cap, v = .slice ao l.length cap ∧ l.length ≤ cap ∧ cap ≤ maxLen ∧ (l = [] ∨ ∃ b o, ao = some ⟨b, o, none⟩ ∧ b < B ∧ ∀ i, i < l.length → ∃ kv, NodeAt w B b (o + i * 4) (l.getD i nd0) kv)

theorem Ints.below {w w' : World} {B B' : Nat} {v : Value} {ks : List Int} (h : Ints w B v ks) (hb : Below B w w') (hB : B ≤ B') : Ints w' B' v ks := by
  obtain ⟨ao, cap, rfl, h1, h2, h3⟩ := h
  refine ⟨ao, cap, rfl, h1, h2, ?_⟩
  rcases h3 with h3 | ⟨b, o, rfl, hlt, hc⟩
  · exact .inl h3
  · exact .inr ⟨b, o, rfl, by omega, fun j hj => (hb.cell (p := ⟨b, o + j, none⟩) hlt).trans (hc j hj)⟩

theorem NodeAt.below {w w' : World} {B B' b o : Nat} {x : Nd} {kv : Value} (h : NodeAt w B b o x kv) (hb : Below B w w') (hB : B ≤ B') (hlt : b < B) : NodeAt w' B' b o x kv :=
  ⟨(hb.cell (p := ⟨b, o, none⟩) hlt).trans h.c0, (hb.cell (p := ⟨b, o + 1, none⟩) hlt).trans h.c1, (hb.cell (p := ⟨b, o + 2, none⟩) hlt).trans h.c2, (hb.cell (p := ⟨b, o + 3, none⟩) hlt).trans h.c3, h.kids.below hb hB⟩

theorem Nodes.below {w w' : World} {B B' : Nat} {v : Value} {l : List Nd} (h : Nodes w B v l) (hb : Below B w w') (hB : B ≤ B') : Nodes w' B' v l := by
  obtain ⟨ao, cap, rfl, h1, h2, h3⟩ := h
  refine ⟨ao, cap, rfl, h1, h2, ?_⟩
  rcases h3 with h3 | ⟨b, o, rfl, hlt, hc⟩
  · exact .inl h3
  · exact .inr ⟨b, o, rfl, by omega, fun i hi => let ⟨kv, hk⟩ := hc i hi; ⟨kv, hk.below hb hB hlt⟩⟩

theorem Ints.mono {w : World} {B B' : Nat} {v : Value} {ks : List Int} (h : Ints w B v ks) (hB : B ≤ B') : Ints w B' v ks := h.below (Below.refl _ _) hB
theorem Nodes.mono {w : World} {B B' : Nat} {v : Value} {l : List Nd} (h : Nodes w B v l) (hB : B ≤ B') : Nodes w B' v l := h.below (Below.refl _ _) hB

/-- Numbers of the call's own. -/
def OwnI (w : World) (base : Nat) (v : Value) (ks : List Int) : Prop := w.ownsRow base 3 1 v ks.length (ks.map (Value.int .i64))

def ndCells : List (Nd × Value) → List Value
  | [] => []
  | (x, kv) :: r => .int .i64 x.op :: .int .i64 x.n :: .string x.name :: kv :: ndCells r

theorem ndCells_length (l : List (Nd × Value)) : (ndCells l).length = l.length * 4 := by
  induction l with
  | nil => rfl
  | cons a r ih => obtain ⟨x, kv⟩ := a; simp [ndCells, ih]; omega
theorem ndCells_append (l m : List (Nd × Value)) : ndCells (l ++ m) = ndCells l ++ ndCells m := by
  induction l with
  | nil => rfl
  | cons a r ih => obtain ⟨x, kv⟩ := a; simp [ndCells, ih]
theorem ndCells_at (l : List (Nd × Value)) (i : Nat) (x : Nd) (kv : Value) (h : l[i]? = some (x, kv)) :
    (ndCells l)[i * 4]? = some (.int .i64 x.op) ∧ (ndCells l)[i * 4 + 1]? = some (.int .i64 x.n) ∧ (ndCells l)[i * 4 + 2]? = some (.string x.name) ∧ (ndCells l)[i * 4 + 3]? = some kv := by
  induction l generalizing i with
  | nil => simp at h
  | cons a r ih =>
    obtain ⟨y, kw⟩ := a
    cases i with
    | zero => simp at h; obtain ⟨rfl, rfl⟩ := h; simp [ndCells]
    | succ i =>
      have := ih i (by simpa using h)
      have e : (i + 1) * 4 = i * 4 + 4 := by omega
      rw [e]
      simpa [ndCells] using this

/-- Nodes of the call's own; 'p' tells the kids' slices. -/
structure OwnP (w : World) (base : Nat) (v : Value) (p : List (Nd × Value)) : Prop where
  row : w.ownsRow base 71 4 v p.length (ndCells p)
  kids : ∀ q ∈ p, OwnI w base q.2 q.1.kids

def OwnN (w : World) (base : Nat) (v : Value) (l : List Nd) : Prop := ∃ p : List (Nd × Value), p.map (·.1) = l ∧ OwnP w base v p

theorem OwnI_nil (w : World) (base : Nat) : OwnI w base (.slice none 0 0) [] := World.ownsRow_nil _ _ _ _

theorem ownsRow_mono {w : World} {base base' : Nat} {e : TypeId} {size : Nat} {v : Value} {n : Nat} {xs : List Value} (h : w.ownsRow base e size v n xs) (hb : base' ≤ base) : w.ownsRow base' e size v n xs := by
  obtain ⟨h1, h2⟩ := h
  refine ⟨h1, ?_⟩
  rcases h2 with h2 | ⟨g, cap, cur, hv, hg, r⟩
  · exact .inl h2
  · exact .inr ⟨g, cap, cur, hv, by omega, r⟩

/-- A row is another's block only if the elements' types are one. -/
theorem ownBlock_ne {w : World} {base base' : Nat} {e e' : TypeId} {s s' n n' : Nat} {v v' : Value} {xs xs' : List Value} (h : w.ownsRow base e s v n xs) (h' : w.ownsRow base' e' s' v' n' xs') (hne : e ≠ e') : v.ownBlock = none ∨ v.ownBlock ≠ v'.ownBlock := by
  rcases h.2 with ⟨rfl, _⟩ | ⟨g, cap, cur, rfl, _, hg, _⟩
  · exact .inl rfl
  · right
    rcases h'.2 with ⟨rfl, _⟩ | ⟨g', cap', cur', rfl, _, hg', _⟩
    · simp [Value.ownBlock]
    · intro hh
      simp [Value.ownBlock] at hh
      subst hh
      rw [hg] at hg'
      simp at hg'
      exact hne hg'.2

theorem OwnI.below {w w' : World} {base : Nat} {v : Value} {ks : List Int} (h : OwnI w base v ks) (hb : Below w.heap.size w w') : OwnI w' base v ks :=
  World.ownsRow.kept (row := none) h ⟨hb.os, hb.tape, hb.output, hb.size, fun k hk _ => hb.block k hk⟩ (by
    cases hv : v.ownBlock
    · exact .inl rfl
    · exact .inr (by simp))
theorem ownsRow_below {w w' : World} {base : Nat} {e : TypeId} {size : Nat} {v : Value} {n : Nat} {xs : List Value} (h : w.ownsRow base e size v n xs) (hb : Below w.heap.size w w') : w'.ownsRow base e size v n xs :=
  World.ownsRow.kept (row := none) h ⟨hb.os, hb.tape, hb.output, hb.size, fun k hk _ => hb.block k hk⟩ (by
    cases hv : v.ownBlock
    · exact .inl rfl
    · exact .inr (by simp))
theorem OwnP.below {w w' : World} {base : Nat} {v : Value} {p : List (Nd × Value)} (h : OwnP w base v p) (hb : Below w.heap.size w w') : OwnP w' base v p :=
  ⟨ownsRow_below h.row hb, fun q hq => (h.kids q hq).below hb⟩
theorem OwnN.below {w w' : World} {base : Nat} {v : Value} {l : List Nd} (h : OwnN w base v l) (hb : Below w.heap.size w w') : OwnN w' base v l := let ⟨p, h1, h2⟩ := h; ⟨p, h1, h2.below hb⟩

/-- Behind an append of one node (its kids owned) onto owned nodes. -/
theorem OwnP.snoc {w w1 : World} {base : Nat} {v v' : Value} {p : List (Nd × Value)} {x : Nd} {kv : Value} (h : OwnP w base v p) (hk : OwnI w base kv x.kids)
    (hown : w1.ownsRow base 71 4 v' (p.length + 1) (ndCells p ++ [.int .i64 x.op, .int .i64 x.n, .string x.name, kv])) (hg : w.grownBy w1 v.ownBlock) : OwnP w1 base v' (p ++ [(x, kv)]) := by
  refine ⟨?_, fun q hq => ?_⟩
  · rw [ndCells_append]; simpa [ndCells] using hown
  · rcases List.mem_append.1 hq with hq | hq
    · exact World.ownsRow.kept (h.kids q hq) hg (ownBlock_ne (h.kids q hq) h.row (by decide))
    · simp at hq; subst hq
      exact World.ownsRow.kept hk hg (ownBlock_ne hk h.row (by decide))

theorem Ints_of_own {w : World} {base B : Nat} {v : Value} {ks : List Int} (h : OwnI w base v ks) (hB : w.heap.size ≤ B) : Ints w B v ks := by
  obtain ⟨h1, h2⟩ := h
  rcases h2 with ⟨rfl, h0⟩ | ⟨g, cap, cur, rfl, hb, hg, hn, hm, hs, ht⟩
  · have : ks = [] := List.length_eq_zero_iff.1 h0
    subst this
    exact ⟨none, 0, rfl, by simp, by simp, .inl rfl⟩
  · refine ⟨_, cap, rfl, hn, ⟨hm, by simp⟩, .inr ⟨g, 0, rfl, ?_, fun j hj => ?_⟩⟩
    · have := lt_of_block hg; omega
    · have hc : w.cell? ⟨g, 0 + j, none⟩ = cur[j]? := by simp [World.cell?, hg]
      rw [hc]
      have : cur.toList[j]? = (cur.toList.take (ks.length * 1))[j]? := by rw [List.getElem?_take, if_pos (by omega)]
      rw [← Array.getElem?_toList, this, ht]
      simp [hj]

theorem Nodes_of_ownP {w : World} {base B : Nat} {v : Value} {p : List (Nd × Value)} (h : OwnP w base v p) (hB : w.heap.size ≤ B) : Nodes w B v (p.map (·.1)) := by
  obtain ⟨h1, h2⟩ := h.row
  rcases h2 with ⟨rfl, h0⟩ | ⟨g, cap, cur, rfl, hb, hg, hn, hm, hs, ht⟩
  · have : p = [] := List.length_eq_zero_iff.1 h0
    subst this
    exact ⟨none, 0, rfl, by simp, by simp, .inl rfl⟩
  · refine ⟨_, cap, by simp, by simpa using hn, hm, .inr ⟨g, 0, rfl, ?_, fun i hi => ?_⟩⟩
    · have := lt_of_block hg; omega
    · simp at hi
      have hp : p[i]? = some (p[i].1, p[i].2) := by simp [hi]
      have hx : (p.map (·.1)).getD i nd0 = p[i].1 := by simp [hi]
      obtain ⟨a0, a1, a2, a3⟩ := ndCells_at p i _ _ hp
      have hc : ∀ j, j < p.length * 4 → w.cell? ⟨g, j, none⟩ = (ndCells p)[j]? := by
        intro j hj
        have : w.cell? ⟨g, j, none⟩ = cur[j]? := by simp [World.cell?, hg]
        rw [this, ← Array.getElem?_toList, ← ht, List.getElem?_take, if_pos (by omega)]
      rw [hx]
      refine ⟨p[i].2, ?_, ?_, ?_, ?_, ?_⟩
      · rw [Nat.zero_add, hc _ (by omega), a0]
      · rw [Nat.zero_add, hc _ (by omega), a1]
      · rw [Nat.zero_add, hc _ (by omega), a2]
      · rw [Nat.zero_add, hc _ (by omega), a3]
      · exact Ints_of_own (h.kids p[i] (by simp)) hB

theorem Nodes_of_own {w : World} {base B : Nat} {v : Value} {l : List Nd} (h : OwnN w base v l) (hB : w.heap.size ≤ B) : Nodes w B v l := by
  obtain ⟨p, rfl, h⟩ := h
  exact Nodes_of_ownP h hB

theorem Tryd.info3 : (Tryd.prog.info? 3).map (fun i => (i.zero, i.size, i.bytes)) = some (some (.int .i64 0), 1, 8) := by kernel_rfl
theorem Tryd.infoNode : (Tryd.prog.info? 71).map (fun i => (i.zero, i.size, i.bytes)) = some (some (.agg #[.int .i64 0, .int .i64 0, .string ⟨#[]⟩, .slice none 0 0]), 4, 56) := by kernel_rfl
end Go.Proofs.YtjkcbigmebbkkaaDoor

set_option linter.unusedSimpArgs false
set_option linter.unusedVariables false
namespace Go.Proofs.YtjkcbigmebbkkaaDoor
open Go.RowKit Go.Lib

def mvK (from_ by_ k : Int) : Int := if from_ ≤ k then k + by_ else k

theorem take_map_snoc {α β : Type} (f : α → β) (d : α) (l : List α) (k : Nat) (h : k < l.length) : (l.take (k + 1)).map f = (l.take k).map f ++ [f (l.getD k d)] := by
  rw [List.take_succ_eq_append_getElem h, List.map_append]; simp only [List.map_cons, List.map_nil, List.getD_eq_getElem?_getD, List.getElem?_eq_getElem h, Option.getD_some]

theorem cell_news_one (w : World) (v : Value) (t : TypeId) : ∀ j u, [v][j]? = some u → (w.alloc (.cells #[v] t)).cell? ((⟨w.heap.size, 0, none⟩ : Addr).add j) = some u := by
  intro j u hj
  match j, hj with
  | 0, hj => simp at hj; subst hj; simp [Addr.add]

theorem cell_news4 (w : World) (a b c d : Value) (t : TypeId) (H : Nat) (hH : w.heap.size = H) : ∀ j u, [a, b, c, d][j]? = some u → (w.alloc (.cells #[a, b, c, d] t)).cell? ((⟨H, 0, none⟩ : Addr).add j) = some u := by
  intro j u hj
  subst hH
  match j, hj with
  | 0, hj => simp at hj; subst hj; simp [Addr.add]
  | 1, hj => simp at hj; subst hj; simp [Addr.add]
  | 2, hj => simp at hj; subst hj; simp [Addr.add]
  | 3, hj => simp at hj; subst hj; simp [Addr.add]

theorem OwnI_snoc {w : World} {base : Nat} {v : Value} {M : List Int} {z : Int} (h : w.ownsRow base 3 1 v (M.length + 1) (M.map (Value.int .i64) ++ [.int .i64 z])) : OwnI w base v (M ++ [z]) := by
  unfold OwnI; simpa using h

set_option maxHeartbeats 1000000 in
theorem moved_any (v : Value) (ks : List Int) (fr by_ : Int) (w : World) (hI : Ints w w.heap.size v ks) (hlen : ks.length * 8 ≤ 140737488351232) (hks : ∀ k ∈ ks, -9000 ≤ k ∧ k ≤ 9000) (hb0 : -9000 ≤ by_) (hb1 : by_ ≤ 9000) :
    Calls Tryd.prog 65 #[v, .int .i64 fr, .int .i64 by_] w fun e w' => ∃ v', e = .returned v' ∧ OwnI w' w.heap.size v' (ks.map (mvK fr by_)) ∧ Below w.heap.size w w' := by
  obtain ⟨ao, cap0, rfl, hl, ⟨hm, _⟩, hc⟩ := hI
  obtain ⟨i0, hi, hz0, hz1, hz2⟩ := info_parts Tryd.info3
  unfold maxLen at hm
  have HC : Hid (ks = [] ∨ ∃ b o, ao = some ⟨b, o, none⟩ ∧ b < w.heap.size ∧ ∀ j, j < ks.length → w.cell? ⟨b, o + j, none⟩ = some (.int .i64 (ks.getD j 0))) := hc
  clear hc
  go_enter Tryd.func65, Tryd.ntmps65
  go_wp2
  go_loopw [7, 12] (fun x i wr => ∃ k : Nat, k ≤ ks.length ∧ i = .int .i64 k ∧ OwnI wr w.heap.size x ((ks.take k).map (mvK fr by_)) ∧ Below w.heap.size w wr) (fun _ i _ => ks.length - (RowKit.intOf i).toNat)
  case atStart => exact ⟨0, by omega, rfl, OwnI_nil _ _, Below.refl _ _⟩
  case round =>
    obtain ⟨k, hk, rfl, hown, hB⟩ := hrel
    have hsz := hB.size
    by_cases hlt : k < ks.length
    · obtain ⟨b, o, rfl, hbl, hc⟩ : ∃ b o, ao = some ⟨b, o, none⟩ ∧ b < w.heap.size ∧ ∀ j, j < ks.length → w.cell? ⟨b, o + j, none⟩ = some (.int .i64 (ks.getD j 0)) := by
        rcases HC.out with h | h
        · subst h; simp at hlt
        · exact h
      have hck : wr.cell? ⟨b, o + k, none⟩ = some (.int .i64 (ks.getD k 0)) := (hB.cell (p := ⟨b, o + k, none⟩) hbl).trans (hc k hlt)
      clear hc HC
      have hzr := hks (ks.getD k 0) (by simp [hlt])
      have HS := take_map_snoc (mvK fr by_) 0 ks k hlt
      have hMl : ((ks.take k).map (mvK fr by_)).length = k := by simp; omega
      generalize (ks.take k).map (mvK fr by_) = M at *
      generalize ks.getD k 0 = z at *
      have HS' : Hid ((ks.take (k + 1)).map (mvK fr by_) = M ++ [mvK fr by_ z]) := HS
      clear HS hks
      have HML : Hid (M.length = k) := hMl
      clear hMl
      have hown' := hown
      unfold OwnI at hown'
      by_cases hf : fr ≤ z
      · have hmv : Hid (mvK fr by_ z = z + by_) := by show mvK fr by_ z = z + by_; simp [mvK, hf]
        go_wp2_with (at_builtin; refine wpList_append_lies _ rfl (.tmp 22) (.tmp 24) 61 rfl w.heap.size 3 i0 (.int .i64 0) 1 8 Tryd.underlying61 hi hz0 hz1 hz2 rfl (by decide) _ _ _ rfl (hown'.alloc _) ⟨wr.heap.size, 0, none⟩ 1 1 [.int .i64 (z + by_)] rfl rfl (cell_news_one _ _ _) (by simp [Value.oneCell']) (by omega) (by have := HML.out; unfold maxLen; omega) (by have := HML.out; omega) (by simp; omega) _ rfl ?_; intro g cap w1 hown1 hg1 hat hl1)
        refine ⟨⟨k + 1, by omega, by go_num, ?_, ?_⟩, by simp [RowKit.intOf]; omega⟩
        · rw [HS'.out, hmv.out]; exact OwnI_snoc hown1
        · exact (hB.alloc hsz _).grown hg1 (by simp; omega) (fun k hk => (hown'.lt k hk).1)
      · have hmv : Hid (mvK fr by_ z = z) := by show mvK fr by_ z = z; simp [mvK, hf]
        go_wp2_with (at_builtin; refine wpList_append_lies _ rfl (.tmp 22) (.tmp 24) 61 rfl w.heap.size 3 i0 (.int .i64 0) 1 8 Tryd.underlying61 hi hz0 hz1 hz2 rfl (by decide) _ _ _ rfl (hown'.alloc _) ⟨wr.heap.size, 0, none⟩ 1 1 [.int .i64 z] rfl rfl (cell_news_one _ _ _) (by simp [Value.oneCell']) (by omega) (by have := HML.out; unfold maxLen; omega) (by have := HML.out; omega) (by simp; omega) _ rfl ?_; intro g cap w1 hown1 hg1 hat hl1)
        refine ⟨⟨k + 1, by omega, by go_num, ?_, ?_⟩, by simp [RowKit.intOf]; omega⟩
        · rw [HS'.out, hmv.out]; exact OwnI_snoc hown1
        · exact (hB.alloc hsz _).grown hg1 (by simp; omega) (fun k hk => (hown'.lt k hk).1)
    · have hke : k = ks.length := by omega
      subst hke
      go_wp2
      go_ret
      rw [List.take_length] at hown
      exact ⟨_, rfl, hown, hB⟩

theorem OwnI.form {w : World} {base : Nat} {v : Value} {ks : List Int} (h : OwnI w base v ks) : ∃ ao cap, v = .slice ao ks.length cap := by
  obtain ⟨ao, cap, h, _⟩ := Ints_of_own h (Nat.le_refl _)
  exact ⟨ao, cap, h⟩

def mvN (from_ by_ : Int) (x : Nd) : Nd := { x with kids := x.kids.map (mvK from_ by_) }

end Go.Proofs.YtjkcbigmebbkkaaDoor

set_option linter.unusedSimpArgs false
set_option linter.unusedVariables false
namespace Go.Proofs.YtjkcbigmebbkkaaDoor
open Go.RowKit Go.Lib

theorem Ints.drewN {w : World} {B : Nat} {v : Value} {ks : List Int} (h : Ints w B v ks) (n : Nat) : Ints (w.drewN n) B v ks := h

end Go.Proofs.YtjkcbigmebbkkaaDoor
