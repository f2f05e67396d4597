/-
  ExOpen, MaP.
-/
import Derived.Test.YtjkcbigmebbkkaaDoorChecked
import GoSem.PinnedTables
import GoSem.Claim
import GoSem.ClaimJoined
import GoSem.ClaimMapViews
import Derived.JoinedTies
import Derived.KernelRfl
import Derived.Shelf.Unicode.DecodeSlow
import Derived.Laws.RangeAny
import Derived.Shelf.Strconv.Itoa0
import Derived.Shelf.Unicode.DecodeAny
import Derived.Test.YtjkcbigmebbkkaaDoorProg
import Derived.WalkKit
import Derived.Deep.DeepFit
import Derived.Lib.OthersKept
import Derived.Lib.RuneCountTail
import Derived.Lib.LaidU8
import Derived.MakeChecks
import Derived.ProofKit
import Derived.OpenShut
import Derived.Deep.DeepHandedRow
import Derived.Deep.AppendLies
import Derived.Deep.OwnRows
import Derived.Laws.AppendOwnNone
import Derived.Deep.QuietTactic
import Derived.BigQuiet
import Derived.Deep.RegionWith
import Derived.Laws.DeepStrings4
import Derived.Deep.Slices
import Derived.SizedLaws
import Derived.Test.YtjkcbigmebbkkaaDoorRows
import Derived.Test.YtjkcbigmebbkkaaDoorZ01
import Derived.Test.YtjkcbigmebbkkaaDoorZ02
import Derived.Test.YtjkcbigmebbkkaaDoorZ03
import Derived.Test.YtjkcbigmebbkkaaDoorZ04
import Derived.Test.YtjkcbigmebbkkaaDoorZ05
import Derived.Test.YtjkcbigmebbkkaaDoorZ06
import Derived.Test.YtjkcbigmebbkkaaDoorZ07
set_option linter.unusedSimpArgs false
set_option linter.unusedVariables false
namespace Go.Proofs.YtjkcbigmebbkkaaDoor
open Go.RowKit Go.Lib Go.ChangeShapes Go.WideShapes Go.Deep

theorem Tryd.laidOut : laidOutB Tryd.prog = true := by kernel_rfl
theorem Tryd.cells3 : Tryd.prog.cellsOf 3 = 1 := by kernel_rfl
theorem Tryd.cells2 : Tryd.prog.cellsOf 2 = 1 := by kernel_rfl
theorem Tryd.cellsStr : Tryd.prog.cellsOf 9 = 1 := by kernel_rfl
theorem Tryd.cellsInts : Tryd.prog.cellsOf 61 = 1 := by kernel_rfl
theorem Tryd.cellsNode : Tryd.prog.cellsOf 71 = 4 := by kernel_rfl
theorem Tryd.bytes3 : Tryd.prog.bytesOf 3 = 8 := by kernel_rfl
theorem Tryd.bytesNode : Tryd.prog.bytesOf 71 = 56 := by kernel_rfl

theorem len4 {α : Type} (l : List α) (h : l.length = 4) : ∃ a b c d, l = [a, b, c, d] := by
  match l, h with
  | [a, b, c, d], _ => exact ⟨a, b, c, d, rfl⟩

theorem spot_none {w : World} {a : Addr} {v : Value} (h : w.cell? a = some v) : a.spot = none := by
  unfold World.cell? at h
  split at h
  · split at h
    · cases h
    · rename_i hs; simpa using hs
  · cases h

section
variable {H : Type} {enc : TypeId × Value → H} {w : World}

/-- The kids' slice. -/
theorem open_kids {fuel : Nat} {v : Value} {x : DataW H × List MemPlace} (h : DataW.trod enc Tryd.prog w 0 (fun _ => true) true fuel 61 [v] = some x) :
    ∃ ks, Ints w w.heap.size v ks ∧ ((∀ n ∈ x.1.weights Tryd.prog 61, n ≤ reachBytes) → ks.length * 8 ≤ 140737488351232) := by
  rcases open_ints Tryd.underlying61 Tryd.underlying3 Tryd.cells3 h with ⟨hcs, rfl⟩ | ⟨a, len, cap, zs, hcs, _, hl, hm, hz, rfl, hc, _⟩
  · simp only [List.cons.injEq, and_true] at hcs
    subst hcs
    exact ⟨[], ⟨none, 0, rfl, by simp, ⟨by simp [maxLen], fun _ => rfl⟩, .inl rfl⟩, fun _ => by simp⟩
  · simp only [List.cons.injEq, and_true] at hcs
    subst hcs
    simp only [if_true] at hz
    have hlen : (zs.take len).length = len := by simp; omega
    refine ⟨zs.take len, ⟨some a, cap, by rw [hlen], by omega, ⟨hm, by simp⟩, ?_⟩, fun hw => ?_⟩
    · by_cases h0 : len = 0
      · left; exact List.length_eq_zero_iff.1 (by omega)
      · right
        have hc0 := hc 0 (by omega)
        obtain ⟨b, o, sp⟩ := a
        have hsp : sp = none := by
          have e : (⟨b, o, sp⟩ : Addr).add 0 = ⟨b, o, sp⟩ := rfl
          rw [e] at hc0; exact spot_none hc0
        subst hsp
        refine ⟨b, o, rfl, World.block_lt_of_cell? _ _ hc0, fun j hj => ?_⟩
        rw [hlen] at hj
        have := hc j (by omega)
        rw [Go.WideShapes.add_plain] at this
        rw [this]
        simp [List.getElem?_take, hj]
    · have := hw ((((lits .i64 (zs.take len)).length : Nat) + (lits .i64 (zs.drop len)).length) * Tryd.prog.bytesOf 3) (by simp only [DataW.weights, Tryd.underlying61 ]; exact List.mem_cons_self ..)
      rw [Tryd.bytes3] at this
      simp only [lits, List.length_map, List.length_take, List.length_drop, reachBytes] at this
      rw [hlen]; omega

/-- One node. -/
theorem open_node {fuel : Nat} {cs : List Value} {x : DataW H × List MemPlace} (h : DataW.trod enc Tryd.prog w 0 (fun _ => true) true fuel 71 cs = some x) :
    ∃ (y : Nd) (kv : Value), cs = [.int .i64 y.op, .int .i64 y.n, .string y.name, kv] ∧ Ints w w.heap.size kv y.kids ∧ (y.name.size ≤ maxLen ∧ (Lit.int .i64 y.n).wf = true) ∧ ((∀ n ∈ x.1.weights Tryd.prog 71, n ≤ reachBytes) → y.kids.length * 8 ≤ 140737488351232) := by
  obtain ⟨xs, n, _, rfl, hl, hxl, hall⟩ := DataW.trod_struct Tryd.underlying71 h
  rw [Tryd.cellsNode] at hl
  obtain ⟨v0, v1, v2, v3, rfl⟩ := len4 cs hl
  obtain ⟨x0, x1, x2, x3, rfl⟩ := len4 xs hxl
  have g0 : DataW.trod enc Tryd.prog w 0 (fun _ => true) true n 3 (([v0, v1, v2, v3].drop 0).take (Tryd.prog.cellsOf 3)) = some x0 := hall 0 _ rfl
  have g1 : DataW.trod enc Tryd.prog w 0 (fun _ => true) true n 2 (([v0, v1, v2, v3].drop 1).take (Tryd.prog.cellsOf 2)) = some x1 := hall 1 _ rfl
  have g2 : DataW.trod enc Tryd.prog w 0 (fun _ => true) true n 9 (([v0, v1, v2, v3].drop 2).take (Tryd.prog.cellsOf 9)) = some x2 := hall 2 _ rfl
  have g3 : DataW.trod enc Tryd.prog w 0 (fun _ => true) true n 61 (([v0, v1, v2, v3].drop 3).take (Tryd.prog.cellsOf 61)) = some x3 := hall 3 _ rfl
  rw [Tryd.cells3] at g0
  rw [Tryd.cells2] at g1
  rw [Tryd.cellsStr] at g2
  rw [Tryd.cellsInts] at g3
  obtain ⟨z0, k0, _, _⟩ := DataW.trod_int Tryd.underlying3 g0
  obtain ⟨z1, k1, _, hz1⟩ := DataW.trod_int Tryd.underlying2 g1
  obtain ⟨s, k2, _, hs⟩ := DataW.trod_string Tryd.underlying9 g2
  simp at k0 k1 k2
  subst k0; subst k1; subst k2
  obtain ⟨ks, hI, hw⟩ := open_kids (v := v3) g3
  refine ⟨⟨z0, z1, s, ks⟩, v3, rfl, hI, ⟨hs, hz1⟩, fun hh => hw fun q hq => hh q ?_⟩
  simp only [DataW.weights, Tryd.underlying71 ]
  exact DataW.weights_mem_each (j := 3) (t := 61) (d := x3.1) rfl rfl q hq

theorem mem_weightsAll {P : Program} {e : TypeId} {d : DataW H} {n : Nat} : ∀ {ds : List (DataW H)}, d ∈ ds → n ∈ d.weights P e → n ∈ DataW.weightsAll P e ds
  | d0 :: ds, hd, hn => by
    simp only [DataW.weightsAll, List.mem_append]
    rcases List.mem_cons.1 hd with rfl | hd
    · exact .inl hn
    · exact .inr (mem_weightsAll hd hn)

/-- Within the reach, marks and all; the numbers are numbers of 64 bits. -/
structure FitX (l : List Nd) : Prop where
  len : l.length * 56 ≤ 140737488351232
  kids : ∀ x ∈ l, x.kids.length * 8 ≤ 140737488351232
  name : ∀ x ∈ l, x.name.size ≤ maxLen
  num : ∀ x ∈ l, (Lit.int .i64 x.n).wf = true
theorem FitX.fit {l : List Nd} (h : FitX l) : Fit l := ⟨by have := h.len; omega, fun x hx => by have := h.kids x hx; omega, h.name⟩

/-- The whole argument. -/
theorem open_nodesX {fuel : Nat} {v : Value} {x : DataW H × List MemPlace} (h : DataW.trod enc Tryd.prog w 0 (fun _ => true) true fuel 22 [v] = some x) :
    ∃ (ao : Option Addr) (cap : Nat) (l : List Nd), v = .slice ao l.length cap ∧ Rd w ao cap l ∧ ((∀ n ∈ x.1.weights Tryd.prog 22, n ≤ reachBytes) → FitX l) := by
  rcases open_slice Tryd.underlying22 h with ⟨hcs, rfl⟩ | ⟨a, len, cap, m, n, D, Pl, hcs, _, hl, hm, hmm, rfl, hx⟩
  · simp only [List.cons.injEq, and_true] at hcs
    subst hcs
    exact ⟨none, 0, [], rfl, ⟨none, 0, rfl, by simp, by simp, .inl rfl⟩, fun _ => ⟨by simp, by simp, by simp, by simp⟩⟩
  · simp only [List.cons.injEq, and_true] at hcs
    subst hcs
    simp only [if_true] at hmm
    subst hmm
    have each : ∀ i, i < m → ∃ y : Nd × Value, ∃ cs', w.cells? 0 (a.add (i * 4)) 4 = some cs' ∧ cs' = [.int .i64 y.1.op, .int .i64 y.1.n, .string y.1.name, y.2] ∧ Ints w w.heap.size y.2 y.1.kids ∧ (y.1.name.size ≤ maxLen ∧ (Lit.int .i64 y.1.n).wf = true) ∧ ((∀ n ∈ (D i).weights Tryd.prog 71, n ≤ reachBytes) → y.1.kids.length * 8 ≤ 140737488351232) := by
      intro i hi
      obtain ⟨cs', h1, h2⟩ := hx i hi
      rw [Tryd.cellsNode] at h1
      obtain ⟨y, kv, e, h3, h4, h5⟩ := open_node h2
      exact ⟨(y, kv), cs', h1, e, h3, h4, h5⟩
    have : Inhabited (Nd × Value) := ⟨(nd0, .slice none 0 0)⟩
    obtain ⟨q, hq⟩ := choose_lt each
    have hlen : ((List.range len).map fun i => (q i).1).length = len := by simp
    have hget : ∀ i, i < len → ((List.range len).map fun i => (q i).1).getD i nd0 = (q i).1 := fun i hi => by simp [hi]
    refine ⟨some a, m, (List.range len).map fun i => (q i).1, by rw [hlen], ⟨some a, m, rfl, by rw [hlen]; exact hl, hm, ?_⟩, fun hw => ⟨?_, ?_, ?_, ?_⟩⟩
    · by_cases h0 : len = 0
      · left; subst h0; rfl
      · right
        have hc0 : w.cell? a = some (.int .i64 (q 0).1.op) := by
          obtain ⟨cs', h1, rfl, _⟩ := hq 0 (by omega)
          have := (World.cells?_some h1).2.2 0 (by omega)
          rw [Nat.zero_mul] at this
          exact this
        obtain ⟨b, o, sp⟩ := a
        have hsp : sp = none := spot_none hc0
        subst hsp
        refine ⟨b, o, rfl, World.block_lt_of_cell? _ _ hc0, fun i hi => ?_⟩
        rw [hlen] at hi
        rw [hget i hi]
        obtain ⟨cs', h1, rfl, h3, _⟩ := hq i (by omega)
        have hcell := (World.cells?_some h1).2.2
        rw [Go.WideShapes.add_plain] at hcell
        refine ⟨(q i).2, ?_, ?_, ?_, ?_, h3⟩
        · have := hcell 0 (by omega); rw [Go.WideShapes.add_plain] at this; exact this
        · have := hcell 1 (by omega); rw [Go.WideShapes.add_plain] at this; exact this
        · have := hcell 2 (by omega); rw [Go.WideShapes.add_plain] at this; exact this
        · have := hcell 3 (by omega); rw [Go.WideShapes.add_plain] at this; exact this
    · have := hw ((((List.range len).map D).length + ((List.range (m - len)).map fun j => D (len + j)).length) * Tryd.prog.bytesOf 71) (by simp only [DataW.weights, Tryd.underlying22 ]; exact List.mem_cons_self ..)
      rw [Tryd.bytesNode] at this
      simp only [List.length_map, List.length_range, reachBytes] at this
      rw [hlen]; omega
    · intro y hy
      obtain ⟨i, hi, rfl⟩ := List.mem_map.1 hy
      rw [List.mem_range] at hi
      obtain ⟨cs', _, _, _, _, h5⟩ := hq i (by omega)
      have := h5 fun n hn => hw n (by
        simp only [DataW.weights, Tryd.underlying22, List.mem_cons, List.mem_append]
        exact .inr (.inl (mem_weightsAll (List.mem_map.2 ⟨i, List.mem_range.2 hi, rfl⟩) hn)))
      exact this
    · intro y hy
      obtain ⟨i, hi, rfl⟩ := List.mem_map.1 hy
      rw [List.mem_range] at hi
      obtain ⟨cs', _, _, _, h4, _⟩ := hq i (by omega)
      exact h4.1
    · intro y hy
      obtain ⟨i, hi, rfl⟩ := List.mem_map.1 hy
      rw [List.mem_range] at hi
      obtain ⟨cs', _, _, _, h4, _⟩ := hq i (by omega)
      exact h4.2
theorem open_nodes {fuel : Nat} {v : Value} {x : DataW H × List MemPlace} (h : DataW.trod enc Tryd.prog w 0 (fun _ => true) true fuel 22 [v] = some x) :
    ∃ (ao : Option Addr) (cap : Nat) (l : List Nd), v = .slice ao l.length cap ∧ Rd w ao cap l ∧ ((∀ n ∈ x.1.weights Tryd.prog 22, n ≤ reachBytes) → Fit l) := by
  obtain ⟨ao, cap, l, h1, h2, h3⟩ := open_nodesX h
  exact ⟨ao, cap, l, h1, h2, fun hw => (h3 hw).fit⟩
end

theorem spans_of_laid {W : World} (h : laidMetH Tryd.prog [("sorrel/runes.spans", Rows.laid_sorrel_runes_spans)] W) : SpanCells W := by
  rw [MakeChecks.laidMetH_plain _ _ _ (by kernel_rfl)] at h
  have r2 := laidMet.reads h (n := "sorrel/runes.spans") (d := Rows.laid_sorrel_runes_spans) (by simp)
  rw [spansData_eq] at r2
  exact spans_of_reads r2
end Go.Proofs.YtjkcbigmebbkkaaDoor

set_option linter.unusedSimpArgs false
set_option linter.unusedVariables false
namespace Go.Proofs.YtjkcbigmebbkkaaDoor

/-- A command. -/
structure Cm where
  kind : Int
  r : Int
  to : Int
  op : Int
  n : Int
  name : ByteArray
def cm0 : Cm := ⟨0, 0, 0, 0, 0, ⟨#[]⟩⟩
def bareB (c : Cm) : Bool := decide (c.op = 0) && decide (c.n = 0) && c.name.toList.isEmpty
def fitC (c : Cm) : Bool := fitB c.op c.n c.name (arK c.op)

/-- What the program has read so far. -/
structure Rg where
  slots : List Int
  looks : List (Int × Nd)
  holes : List Int
def chg (a b : Int) (l : List Int) : List Int := l.map fun z => if z = a then b else z
def chgL (a b : Int) (q : Int × Nd) : Int × Nd := (if q.1 = a then b else q.1, { q.2 with kids := chg a b q.2.kids })
def joinG (g : Rg) (x y : Int) : Rg := ⟨chg (max x y) (min x y) g.slots, g.looks.map (chgL (max x y) (min x y)), chg (max x y) (min x y) g.holes⟩
/-- The numbers from n on. -/
def upL (n k : Nat) : List Int := (List.range k).map fun j => ((n + j : Nat) : Int)
def lookG (g : Rg) (c : Cm) (k : Nat) : Rg := ⟨g.slots ++ upL g.slots.length k, g.looks ++ [(g.slots.getD c.r.toNat 0, ⟨c.op, c.n, c.name, upL g.slots.length k⟩)], g.holes⟩
def takeG (g : Rg) (c : Cm) : Rg := ⟨g.slots, g.looks, g.holes.set c.to.toNat (g.slots.getD c.r.toNat 0)⟩
def cmdG (g : Rg) (c : Cm) : Option Rg :=
  if c.kind = 1 then (if fitC c = true ∧ c.to = (g.slots.length : Nat) then some (lookG g c (arK c.op).toNat) else none)
  else if c.kind = 2 then (if bareB c = true ∧ 0 ≤ c.to ∧ c.to < (g.slots.length : Nat) then some (joinG g (g.slots.getD c.r.toNat 0) (g.slots.getD c.to.toNat 0)) else none)
  else if c.kind = 3 then (if bareB c = true ∧ 0 ≤ c.to ∧ c.to < (g.holes.length : Nat) ∧ g.holes.getD c.to.toNat 0 = -1 then some (takeG g c) else none)
  else none
def hasG (g : Rg) (z : Int) : Bool := decide (0 ≤ z) && decide (z < (g.slots.length : Nat))
def rgS (g : Rg) (c : Cm) : Option Rg := if hasG g c.r = true then cmdG g c else none
def rgL : Rg → List Cm → Option Rg
  | g, [] => some g
  | g, c :: l => match rgS g c with
    | none => none
    | some g' => rgL g' l
def rg0 (h : Nat) : Rg := ⟨[0], [], List.replicate h (-1)⟩
/-- What is read of a program. -/
def rgA (l : List Cm) (h : Int) : Option Rg :=
  if 0 ≤ h ∧ h ≤ 6 ∧ l.length ≤ 64 then (match rgL (rg0 h.toNat) l with
    | none => none
    | some g => if g.holes.any (fun z => decide (z = -1)) = true then none else some g) else none

/-- The document's. -/
def ckS (s : Nat × List Bool) (c : Cm) : Option (Nat × List Bool) :=
  if 0 ≤ c.r ∧ c.r < (s.1 : Nat) then
    (if c.kind = 1 then (if fitC c = true ∧ c.to = (s.1 : Nat) then some (s.1 + (arK c.op).toNat, s.2) else none)
    else if c.kind = 2 then (if bareB c = true ∧ 0 ≤ c.to ∧ c.to < (s.1 : Nat) then some s else none)
    else if c.kind = 3 then (if bareB c = true ∧ 0 ≤ c.to ∧ c.to < (s.2.length : Nat) ∧ s.2.getD c.to.toNat true = false then some (s.1, s.2.set c.to.toNat true) else none)
    else none)
  else none
def ckL : Nat × List Bool → List Cm → Option (Nat × List Bool)
  | s, [] => some s
  | s, c :: l => match ckS s c with
    | none => none
    | some s' => ckL s' l
def ckA (l : List Cm) (h : Int) : Bool :=
  decide (0 ≤ h ∧ h ≤ 6 ∧ l.length ≤ 64) && (match ckL (1, List.replicate h.toNat false) l with
    | none => false
    | some s => s.2.all fun b => b)

theorem ckL_app (s : Nat × List Bool) (a b : List Cm) : ckL s (a ++ b) = (ckL s a).bind fun s' => ckL s' b := by
  induction a generalizing s with
  | nil => rfl
  | cons c a ih =>
    simp only [List.cons_append, ckL]
    cases ckS s c with
    | none => rfl
    | some s' => exact ih s'
theorem rgL_app (g : Rg) (a b : List Cm) : rgL g (a ++ b) = (rgL g a).bind fun g' => rgL g' b := by
  induction a generalizing g with
  | nil => rfl
  | cons c a ih =>
    simp only [List.cons_append, rgL]
    cases rgS g c with
    | none => rfl
    | some g' => exact ih g'
theorem ckL_one (s : Nat × List Bool) (c : Cm) : ckL s [c] = ckS s c := by
  simp only [ckL]; cases ckS s c <;> rfl
theorem rgL_one (g : Rg) (c : Cm) : rgL g [c] = rgS g c := by
  simp only [rgL]; cases rgS g c <;> rfl
theorem rgL_take {g : Rg} {l : List Cm} {k : Nat} (hk : k < l.length) : rgL g (l.take (k + 1)) = (rgL g (l.take k)).bind fun g' => rgS g' (l.getD k cm0) := by
  have e : l.take (k + 1) = l.take k ++ [l.getD k cm0] := by rw [List.take_succ_eq_append_getElem hk]; simp [hk]
  rw [e, rgL_app]
  simp only [rgL_one]
theorem ckL_take {s : Nat × List Bool} {l : List Cm} {k : Nat} (hk : k < l.length) : ckL s (l.take (k + 1)) = (ckL s (l.take k)).bind fun g' => ckS g' (l.getD k cm0) := by
  have e : l.take (k + 1) = l.take k ++ [l.getD k cm0] := by rw [List.take_succ_eq_append_getElem hk]; simp [hk]
  rw [e, ckL_app]
  simp only [ckL_one]
theorem rgL_stop {g : Rg} {l : List Cm} {k : Nat} (h : rgL g (l.take k) = none) : rgL g l = none := by
  have := rgL_app g (l.take k) (l.drop k)
  rw [List.take_append_drop, h] at this
  exact this
theorem ckL_stop {s : Nat × List Bool} {l : List Cm} {k : Nat} (h : ckL s (l.take k) = none) : ckL s l = none := by
  have := ckL_app s (l.take k) (l.drop k)
  rw [List.take_append_drop, h] at this
  exact this

/-- Slots are numbers of registers; a hole's slot is one, or none. -/
structure RgI (g : Rg) : Prop where
  pos : 0 < g.slots.length
  slots : ∀ z ∈ g.slots, 0 ≤ z ∧ z < (g.slots.length : Nat)
  holes : ∀ z ∈ g.holes, -1 ≤ z
def tkB (l : List Int) : List Bool := l.map fun z => !decide (z = -1)
def rgC (g : Rg) : Nat × List Bool := (g.slots.length, tkB g.holes)
theorem chg_len (a b : Int) (l : List Int) : (chg a b l).length = l.length := by simp [chg]
theorem upL_len (n k : Nat) : (upL n k).length = k := by simp [upL]
theorem RgI.slot {g : Rg} (h : RgI g) {z : Int} (h0 : 0 ≤ z) (h1 : z < (g.slots.length : Nat)) : 0 ≤ g.slots.getD z.toNat 0 ∧ g.slots.getD z.toNat 0 < (g.slots.length : Nat) := by
  have hk : z.toNat < g.slots.length := by omega
  have e : g.slots.getD z.toNat 0 = g.slots[z.toNat] := by simp [hk]
  rw [e]; exact h.slots _ (List.getElem_mem hk)
theorem RgI.start (h : Nat) : RgI (rg0 h) := ⟨by simp [rg0], by simp [rg0], by
  intro z hz; simp [rg0] at hz; omega⟩
theorem tk_set (l : List Int) (k : Nat) (z : Int) (hz : 0 ≤ z) : tkB (l.set k z) = (tkB l).set k true := by
  unfold tkB
  rw [List.map_set]
  have : (!decide (z = -1)) = true := by simp; omega
  rw [this]
theorem tk_chg (l : List Int) (a b : Int) (ha : 0 ≤ a) (hb : 0 ≤ b) : tkB (chg a b l) = tkB l := by
  unfold tkB chg
  rw [List.map_map]
  apply List.map_congr_left
  intro z _
  simp only [Function.comp]
  split
  · rename_i e; subst e
    rw [decide_eq_false (by omega), decide_eq_false (by omega)]
  · rfl
theorem tk_at (l : List Int) (k : Nat) (hk : k < l.length) : (tkB l).getD k true = false ↔ l.getD k 0 = -1 := by
  simp [tkB, hk]
theorem rg_step {g : Rg} (h : RgI g) (c : Cm) : (rgS g c).map rgC = ckS (rgC g) c ∧ ∀ g', rgS g c = some g' → RgI g' := by
  unfold rgS ckS hasG rgC
  by_cases hr : 0 ≤ c.r ∧ c.r < (g.slots.length : Nat)
  · rw [if_pos (by simp [hr.1, hr.2]), if_pos hr]
    obtain ⟨s0, s1⟩ := h.slot hr.1 hr.2
    unfold cmdG
    by_cases k1 : c.kind = 1
    · rw [if_pos k1, if_pos k1]
      by_cases hc : fitC c = true ∧ c.to = (g.slots.length : Nat)
      · rw [if_pos hc, if_pos hc]
        refine ⟨by simp [lookG, upL_len], ?_⟩
        rintro g' ⟨⟩
        refine ⟨by simp [lookG]; have := h.pos; omega, fun z hz => ?_, h.holes⟩
        simp only [lookG, List.mem_append, List.length_append, upL_len] at hz ⊢
        rcases hz with hz | hz
        · have := h.slots z hz; omega
        · simp only [upL, List.mem_map, List.mem_range] at hz
          obtain ⟨j, hj, rfl⟩ := hz
          omega
      · rw [if_neg hc, if_neg hc]
        exact ⟨rfl, by rintro g' ⟨⟩⟩
    rw [if_neg k1, if_neg k1]
    by_cases k2 : c.kind = 2
    · rw [if_pos k2, if_pos k2]
      by_cases hc : bareB c = true ∧ 0 ≤ c.to ∧ c.to < (g.slots.length : Nat)
      · rw [if_pos hc, if_pos hc]
        obtain ⟨t0, t1⟩ := h.slot hc.2.1 hc.2.2
        generalize g.slots.getD c.r.toNat 0 = x at *
        generalize g.slots.getD c.to.toNat 0 = y at *
        refine ⟨by simp [joinG, chg_len, tk_chg _ (max x y) (min x y) (by omega) (by omega)], ?_⟩
        rintro g' ⟨⟩
        refine ⟨by simp [joinG, chg_len]; exact h.pos, fun z hz => ?_, fun z hz => ?_⟩
        · simp only [joinG, chg_len] at hz ⊢
          obtain ⟨u, hu, rfl⟩ := List.mem_map.1 hz
          have := h.slots u hu
          split <;> omega
        · simp only [joinG] at hz
          obtain ⟨u, hu, rfl⟩ := List.mem_map.1 hz
          have := h.holes u hu
          split <;> omega
      · rw [if_neg hc, if_neg hc]
        exact ⟨rfl, by rintro g' ⟨⟩⟩
    rw [if_neg k2, if_neg k2]
    by_cases k3 : c.kind = 3
    · rw [if_pos k3, if_pos k3]
      by_cases hc : bareB c = true ∧ 0 ≤ c.to ∧ c.to < (g.holes.length : Nat) ∧ g.holes.getD c.to.toNat 0 = -1
      · have hk : c.to.toNat < g.holes.length := by omega
        rw [if_pos hc, if_pos ⟨hc.1, hc.2.1, by simpa [tkB] using hc.2.2.1, (tk_at _ _ hk).2 hc.2.2.2⟩]
        refine ⟨by show some (g.slots.length, tkB (g.holes.set _ _)) = _; rw [tk_set _ _ _ s0], ?_⟩
        rintro g' ⟨⟩
        refine ⟨h.pos, h.slots, fun z hz => ?_⟩
        rcases List.mem_or_eq_of_mem_set hz with hz | rfl
        · exact h.holes z hz
        · omega
      · rw [if_neg hc, if_neg (fun h2 => hc ⟨h2.1, h2.2.1, by simpa [tkB] using h2.2.2.1, (tk_at _ _ (by have := h2.2.2.1; simp [tkB] at this; omega)).1 h2.2.2.2⟩)]
        exact ⟨rfl, by rintro g' ⟨⟩⟩
    rw [if_neg k3, if_neg k3]
    exact ⟨rfl, by rintro g' ⟨⟩⟩
  · rw [if_neg (by simpa using hr), if_neg hr]
    exact ⟨rfl, by rintro g' ⟨⟩⟩
theorem rg_run {l : List Cm} : ∀ {g : Rg}, RgI g → (rgL g l).map rgC = ckL (rgC g) l ∧ ∀ g', rgL g l = some g' → RgI g' := by
  induction l with
  | nil => intro g h; exact ⟨rfl, by rintro g' ⟨⟩; exact h⟩
  | cons c l ih =>
    intro g h
    obtain ⟨h1, h2⟩ := rg_step h c
    simp only [rgL, ckL]
    rw [← h1]
    cases hs : rgS g c with
    | none => exact ⟨rfl, by rintro g' ⟨⟩⟩
    | some g1 => exact ih (h2 g1 hs)
theorem rgC_start (h : Nat) : rgC (rg0 h) = (1, List.replicate h false) := by simp [rgC, rg0, tkB]
/-- The program's check is the document's. -/
theorem rg_ck (l : List Cm) (h : Int) : (rgA l h).isSome = ckA l h := by
  unfold rgA ckA
  by_cases hh : 0 ≤ h ∧ h ≤ 6 ∧ l.length ≤ 64
  · rw [if_pos hh, decide_eq_true hh, Bool.true_and, ← rgC_start, ← (rg_run (RgI.start _)).1]
    cases rgL (rg0 h.toNat) l with
    | none => rfl
    | some g =>
      simp only [Option.map_some, rgC]
      by_cases ha : g.holes.any (fun z => decide (z = -1)) = true
      · rw [if_pos ha]
        obtain ⟨z, hz, he⟩ := List.any_eq_true.1 ha
        have : (tkB g.holes).all (fun b => b) = false := by
          rw [Bool.eq_false_iff]
          intro hall
          have := List.all_eq_true.1 hall (!decide (z = -1)) (List.mem_map.2 ⟨z, hz, rfl⟩)
          rw [he] at this; cases this
        rw [this]; rfl
      · rw [if_neg ha]
        symm
        rw [Option.isSome_some, List.all_eq_true]
        intro b hb
        obtain ⟨z, hz, rfl⟩ := List.mem_map.1 hb
        cases hd : decide (z = -1) with
        | false => rfl
        | true => exact absurd (List.any_eq_true.2 ⟨z, hz, hd⟩) ha
  · rw [if_neg hh, decide_eq_false hh]; rfl
/-- What Check answers. -/
def ckE (l : List Cm) (h : Int) : Int := if ckA l h = true then 0 else 1
end Go.Proofs.YtjkcbigmebbkkaaDoor
