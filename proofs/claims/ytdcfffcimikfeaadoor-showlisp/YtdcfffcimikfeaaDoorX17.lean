/-
  ExOpen, PsPure, PsTok, PsGrow, PsFuel, PsNum, RdPure.
-/
import Derived.Test.YtdcfffcimikfeaaDoorChecked
import GoSem.PinnedTables
import GoSem.Claim
import GoSem.ClaimJoined
import GoSem.ClaimMapViews
import Derived.JoinedTies
import Derived.KernelRfl
import Derived.Shelf.Unicode.DecodeSlow
import Derived.Laws.RangeAny
import Derived.Shelf.Strings.Builder1
import Derived.Shelf.Small.Utf8
import Derived.Shelf.Small.Bits
import Derived.Shelf.Strings.BuilderF
import Derived.Shelf.Strings.BuilderK
import Derived.Shelf.Strings.BuilderRune
import Derived.Shelf.Utf8.AppendRune
import Derived.Shelf.Strconv.Itoa0
import Derived.Shelf.Strconv.Itoa1
import Derived.Shelf.LaysM
import Derived.Shelf.Strconv.Itoa2
import Derived.Shelf.Strconv.Itoa3
import Derived.Shelf.Strconv.Itoa4
import Derived.Shelf.Strings.Prefix
import Derived.Shelf.Unicode.DecodeAny
import Derived.Shelf.Slices.CompactS
import Derived.Ground.SlsfProg
import Derived.Shelf.SlSortCmp.Insertion
import Derived.Shelf.SlSortCmp.SiftDown1
import Derived.Shelf.SlSortCmp.HeapSort1
import Derived.Shelf.SlSortCmp.Insertion1
import Derived.Shelf.SlSortCmp.Median1
import Derived.Shelf.SlSortCmp.Pivot1
import Derived.Shelf.SlSortCmp.ReverseRange1
import Derived.Shelf.SlSortCmp.PartialInsertion1
import Derived.Shelf.SlSortCmp.PartitionEqual1
import Derived.Shelf.SlSortCmp.Partition1
import Derived.Shelf.SlSortCmp.Pdq1
import Derived.Shelf.SlSortCmp.Whole1
import Derived.Test.YtdcfffcimikfeaaDoorProg
import Derived.WalkKit
import Derived.Deep.DeepFit
import Derived.Lib.OthersKept
import Derived.Lib.RuneCountTail
import Derived.Lib.LaidU8
import Derived.MakeChecks
import Derived.ProofKit
import Derived.OpenShut
import Derived.Deep.DeepHandedRow
import Derived.Laws.DeepStrings4
import Derived.Deep.AppendLies
import Derived.Deep.OwnRows
import Derived.Laws.AppendOwnNone
import Derived.Deep.QuietTactic
import Derived.BigQuiet
import Derived.Deep.RegionWith
import Derived.Deep.Slices
import Derived.SizedLaws
import Derived.Lib.Small
import Derived.Lib.Strings
import Derived.Lib.MapLaws
import Derived.Test.YtdcfffcimikfeaaDoorRows
import Derived.Test.YtdcfffcimikfeaaDoorX01
import Derived.Test.YtdcfffcimikfeaaDoorX02
import Derived.Test.YtdcfffcimikfeaaDoorX03
import Derived.Test.YtdcfffcimikfeaaDoorX04
import Derived.Test.YtdcfffcimikfeaaDoorX05
import Derived.Test.YtdcfffcimikfeaaDoorX06
import Derived.Test.YtdcfffcimikfeaaDoorX07
import Derived.Test.YtdcfffcimikfeaaDoorX08
set_option linter.unusedSimpArgs false
set_option linter.unusedVariables false
namespace Go.Proofs.YtdcfffcimikfeaaDoor
open Go.RowKit Go.Lib Go.ChangeShapes Go.WideShapes Go.Deep

theorem Tryd.laidOut : laidOutB Tryd.prog = true := by kernel_rfl
theorem Tryd.cells3 : Tryd.prog.cellsOf 3 = 1 := by kernel_rfl
theorem Tryd.cells2 : Tryd.prog.cellsOf 2 = 1 := by kernel_rfl
theorem Tryd.cellsStr : Tryd.prog.cellsOf 9 = 1 := by kernel_rfl
theorem Tryd.cellsInts : Tryd.prog.cellsOf 60 = 1 := by kernel_rfl
theorem Tryd.cellsNode : Tryd.prog.cellsOf 62 = 4 := by kernel_rfl
theorem Tryd.bytes3 : Tryd.prog.bytesOf 3 = 8 := by kernel_rfl
theorem Tryd.bytesNode : Tryd.prog.bytesOf 62 = 56 := by kernel_rfl

theorem len4 {α : Type} (l : List α) (h : l.length = 4) : ∃ a b c d, l = [a, b, c, d] := by
  match l, h with
  | [a, b, c, d], _ => exact ⟨a, b, c, d, rfl⟩

theorem spot_none {w : World} {a : Addr} {v : Value} (h : w.cell? a = some v) : a.spot = none := by
  unfold World.cell? at h
  split at h
  · split at h
    · cases h
    · rename_i hs; simpa using hs
  · cases h

section
variable {H : Type} {enc : TypeId × Value → H} {w : World}

/-- The kids' slice. -/
theorem open_kids {fuel : Nat} {v : Value} {x : DataW H × List MemPlace} (h : DataW.trod enc Tryd.prog w 0 (fun _ => true) true fuel 60 [v] = some x) :
    ∃ ks, Ints w w.heap.size v ks ∧ ((∀ n ∈ x.1.weights Tryd.prog 60, n ≤ reachBytes) → ks.length * 8 ≤ 140737488351232) := by
  rcases open_ints Tryd.underlying60 Tryd.underlying3 Tryd.cells3 h with ⟨hcs, rfl⟩ | ⟨a, len, cap, zs, hcs, _, hl, hm, hz, rfl, hc, _⟩
  · simp only [List.cons.injEq, and_true] at hcs
    subst hcs
    exact ⟨[], ⟨none, 0, rfl, by simp, ⟨by simp [maxLen], fun _ => rfl⟩, .inl rfl⟩, fun _ => by simp⟩
  · simp only [List.cons.injEq, and_true] at hcs
    subst hcs
    simp only [if_true] at hz
    have hlen : (zs.take len).length = len := by simp; omega
    refine ⟨zs.take len, ⟨some a, cap, by rw [hlen], by omega, ⟨hm, by simp⟩, ?_⟩, fun hw => ?_⟩
    · by_cases h0 : len = 0
      · left; exact List.length_eq_zero_iff.1 (by omega)
      · right
        have hc0 := hc 0 (by omega)
        obtain ⟨b, o, sp⟩ := a
        have hsp : sp = none := by
          have e : (⟨b, o, sp⟩ : Addr).add 0 = ⟨b, o, sp⟩ := rfl
          rw [e] at hc0; exact spot_none hc0
        subst hsp
        refine ⟨b, o, rfl, World.block_lt_of_cell? _ _ hc0, fun j hj => ?_⟩
        rw [hlen] at hj
        have := hc j (by omega)
        rw [Go.WideShapes.add_plain] at this
        rw [this]
        simp [List.getElem?_take, hj]
    · have := hw ((((lits .i64 (zs.take len)).length : Nat) + (lits .i64 (zs.drop len)).length) * Tryd.prog.bytesOf 3) (by simp only [DataW.weights, Tryd.underlying60 ]; exact List.mem_cons_self ..)
      rw [Tryd.bytes3] at this
      simp only [lits, List.length_map, List.length_take, List.length_drop, reachBytes] at this
      rw [hlen]; omega

/-- One node. -/
theorem open_node {fuel : Nat} {cs : List Value} {x : DataW H × List MemPlace} (h : DataW.trod enc Tryd.prog w 0 (fun _ => true) true fuel 62 cs = some x) :
    ∃ (y : Nd) (kv : Value), cs = [.int .i64 y.op, .int .i64 y.n, .string y.name, kv] ∧ Ints w w.heap.size kv y.kids ∧ (y.name.size ≤ maxLen ∧ (Lit.int .i64 y.n).wf = true) ∧ ((∀ n ∈ x.1.weights Tryd.prog 62, n ≤ reachBytes) → y.kids.length * 8 ≤ 140737488351232) := by
  obtain ⟨xs, n, _, rfl, hl, hxl, hall⟩ := DataW.trod_struct Tryd.underlying62 h
  rw [Tryd.cellsNode] at hl
  obtain ⟨v0, v1, v2, v3, rfl⟩ := len4 cs hl
  obtain ⟨x0, x1, x2, x3, rfl⟩ := len4 xs hxl
  have g0 : DataW.trod enc Tryd.prog w 0 (fun _ => true) true n 3 (([v0, v1, v2, v3].drop 0).take (Tryd.prog.cellsOf 3)) = some x0 := hall 0 _ rfl
  have g1 : DataW.trod enc Tryd.prog w 0 (fun _ => true) true n 2 (([v0, v1, v2, v3].drop 1).take (Tryd.prog.cellsOf 2)) = some x1 := hall 1 _ rfl
  have g2 : DataW.trod enc Tryd.prog w 0 (fun _ => true) true n 9 (([v0, v1, v2, v3].drop 2).take (Tryd.prog.cellsOf 9)) = some x2 := hall 2 _ rfl
  have g3 : DataW.trod enc Tryd.prog w 0 (fun _ => true) true n 60 (([v0, v1, v2, v3].drop 3).take (Tryd.prog.cellsOf 60)) = some x3 := hall 3 _ rfl
  rw [Tryd.cells3] at g0
  rw [Tryd.cells2] at g1
  rw [Tryd.cellsStr] at g2
  rw [Tryd.cellsInts] at g3
  obtain ⟨z0, k0, _, _⟩ := DataW.trod_int Tryd.underlying3 g0
  obtain ⟨z1, k1, _, hz1⟩ := DataW.trod_int Tryd.underlying2 g1
  obtain ⟨s, k2, _, hs⟩ := DataW.trod_string Tryd.underlying9 g2
  simp at k0 k1 k2
  subst k0; subst k1; subst k2
  obtain ⟨ks, hI, hw⟩ := open_kids (v := v3) g3
  refine ⟨⟨z0, z1, s, ks⟩, v3, rfl, hI, ⟨hs, hz1⟩, fun hh => hw fun q hq => hh q ?_⟩
  simp only [DataW.weights, Tryd.underlying62 ]
  exact DataW.weights_mem_each (j := 3) (t := 60) (d := x3.1) rfl rfl q hq

theorem mem_weightsAll {P : Program} {e : TypeId} {d : DataW H} {n : Nat} : ∀ {ds : List (DataW H)}, d ∈ ds → n ∈ d.weights P e → n ∈ DataW.weightsAll P e ds
  | d0 :: ds, hd, hn => by
    simp only [DataW.weightsAll, List.mem_append]
    rcases List.mem_cons.1 hd with rfl | hd
    · exact .inl hn
    · exact .inr (mem_weightsAll hd hn)

/-- Within the reach, marks and all; the numbers are numbers of 64 bits. -/
structure FitX (l : List Nd) : Prop where
  len : l.length * 56 ≤ 140737488351232
  kids : ∀ x ∈ l, x.kids.length * 8 ≤ 140737488351232
  name : ∀ x ∈ l, x.name.size ≤ maxLen
  num : ∀ x ∈ l, (Lit.int .i64 x.n).wf = true
theorem FitX.fit {l : List Nd} (h : FitX l) : Fit l := ⟨by have := h.len; omega, fun x hx => by have := h.kids x hx; omega, h.name⟩

/-- The whole argument. -/
theorem open_nodesX {fuel : Nat} {v : Value} {x : DataW H × List MemPlace} (h : DataW.trod enc Tryd.prog w 0 (fun _ => true) true fuel 22 [v] = some x) :
    ∃ (ao : Option Addr) (cap : Nat) (l : List Nd), v = .slice ao l.length cap ∧ Rd w ao cap l ∧ ((∀ n ∈ x.1.weights Tryd.prog 22, n ≤ reachBytes) → FitX l) := by
  rcases open_slice Tryd.underlying22 h with ⟨hcs, rfl⟩ | ⟨a, len, cap, m, n, D, Pl, hcs, _, hl, hm, hmm, rfl, hx⟩
  · simp only [List.cons.injEq, and_true] at hcs
    subst hcs
    exact ⟨none, 0, [], rfl, ⟨none, 0, rfl, by simp, by simp, .inl rfl⟩, fun _ => ⟨by simp, by simp, by simp, by simp⟩⟩
  · simp only [List.cons.injEq, and_true] at hcs
    subst hcs
    simp only [if_true] at hmm
    subst hmm
    have each : ∀ i, i < m → ∃ y : Nd × Value, ∃ cs', w.cells? 0 (a.add (i * 4)) 4 = some cs' ∧ cs' = [.int .i64 y.1.op, .int .i64 y.1.n, .string y.1.name, y.2] ∧ Ints w w.heap.size y.2 y.1.kids ∧ (y.1.name.size ≤ maxLen ∧ (Lit.int .i64 y.1.n).wf = true) ∧ ((∀ n ∈ (D i).weights Tryd.prog 62, n ≤ reachBytes) → y.1.kids.length * 8 ≤ 140737488351232) := by
      intro i hi
      obtain ⟨cs', h1, h2⟩ := hx i hi
      rw [Tryd.cellsNode] at h1
      obtain ⟨y, kv, e, h3, h4, h5⟩ := open_node h2
      exact ⟨(y, kv), cs', h1, e, h3, h4, h5⟩
    have : Inhabited (Nd × Value) := ⟨(nd0, .slice none 0 0)⟩
    obtain ⟨q, hq⟩ := choose_lt each
    have hlen : ((List.range len).map fun i => (q i).1).length = len := by simp
    have hget : ∀ i, i < len → ((List.range len).map fun i => (q i).1).getD i nd0 = (q i).1 := fun i hi => by simp [hi]
    refine ⟨some a, m, (List.range len).map fun i => (q i).1, by rw [hlen], ⟨some a, m, rfl, by rw [hlen]; exact hl, hm, ?_⟩, fun hw => ⟨?_, ?_, ?_, ?_⟩⟩
    · by_cases h0 : len = 0
      · left; subst h0; rfl
      · right
        have hc0 : w.cell? a = some (.int .i64 (q 0).1.op) := by
          obtain ⟨cs', h1, rfl, _⟩ := hq 0 (by omega)
          have := (World.cells?_some h1).2.2 0 (by omega)
          rw [Nat.zero_mul] at this
          exact this
        obtain ⟨b, o, sp⟩ := a
        have hsp : sp = none := spot_none hc0
        subst hsp
        refine ⟨b, o, rfl, World.block_lt_of_cell? _ _ hc0, fun i hi => ?_⟩
        rw [hlen] at hi
        rw [hget i hi]
        obtain ⟨cs', h1, rfl, h3, _⟩ := hq i (by omega)
        have hcell := (World.cells?_some h1).2.2
        rw [Go.WideShapes.add_plain] at hcell
        refine ⟨(q i).2, ?_, ?_, ?_, ?_, h3⟩
        · have := hcell 0 (by omega); rw [Go.WideShapes.add_plain] at this; exact this
        · have := hcell 1 (by omega); rw [Go.WideShapes.add_plain] at this; exact this
        · have := hcell 2 (by omega); rw [Go.WideShapes.add_plain] at this; exact this
        · have := hcell 3 (by omega); rw [Go.WideShapes.add_plain] at this; exact this
    · have := hw ((((List.range len).map D).length + ((List.range (m - len)).map fun j => D (len + j)).length) * Tryd.prog.bytesOf 62) (by simp only [DataW.weights, Tryd.underlying22 ]; exact List.mem_cons_self ..)
      rw [Tryd.bytesNode] at this
      simp only [List.length_map, List.length_range, reachBytes] at this
      rw [hlen]; omega
    · intro y hy
      obtain ⟨i, hi, rfl⟩ := List.mem_map.1 hy
      rw [List.mem_range] at hi
      obtain ⟨cs', _, _, _, _, h5⟩ := hq i (by omega)
      have := h5 fun n hn => hw n (by
        simp only [DataW.weights, Tryd.underlying22, List.mem_cons, List.mem_append]
        exact .inr (.inl (mem_weightsAll (List.mem_map.2 ⟨i, List.mem_range.2 hi, rfl⟩) hn)))
      exact this
    · intro y hy
      obtain ⟨i, hi, rfl⟩ := List.mem_map.1 hy
      rw [List.mem_range] at hi
      obtain ⟨cs', _, _, _, h4, _⟩ := hq i (by omega)
      exact h4.1
    · intro y hy
      obtain ⟨i, hi, rfl⟩ := List.mem_map.1 hy
      rw [List.mem_range] at hi
      obtain ⟨cs', _, _, _, h4, _⟩ := hq i (by omega)
      exact h4.2
end

end Go.Proofs.YtdcfffcimikfeaaDoor

set_option linter.unusedSimpArgs false
set_option linter.unusedVariables false
namespace Go.Proofs.YtdcfffcimikfeaaDoor
open Go.Lib

/-! ### what may come out -/
/-- An answer; a fault at a place; or the fuel was too small. -/
inductive Pr (α : Type) where
  | ok (a : α)
  | bad (at_ : Nat) (err : Int)
  | out
def Pr.bind {α β : Type} : Pr α → (α → Pr β) → Pr β
  | .ok a, f => f a
  | .bad p e, _ => .bad p e
  | .out, _ => .out
theorem Pr.bind_ok {α β : Type} {x : Pr α} {f : α → Pr β} {b : β} (h : x.bind f = .ok b) : ∃ a, x = .ok a ∧ f a = .ok b := by
  cases x with
  | ok a => exact ⟨a, rfl, h⟩
  | bad p e => cases h
  | out => cases h
theorem Pr.bind_assoc {α β γ : Type} (x : Pr α) (f : α → Pr β) (g : β → Pr γ) : (x.bind f).bind g = x.bind fun a => (f a).bind g := by
  cases x <;> rfl

/-! ### tokens -/
structure Tk where
  what : Int
  from_ : Nat
  to : Nat
  n : Nat
  err : Int

def psPlain (r : Int) : Int :=
  if r = 8722 then 45 else if r = 215 ∨ r = 183 then 42 else if r = 247 then 47 else if r = 172 then 126 else if r = 8743 then 38 else if r = 8744 then 124 else if r = 8853 then 94 else r
/-- Two bytes c stand there. -/
def psTwo (s : ByteArray) (p : Nat) (c : UInt8) : Bool := hasPrefix (s.extract p s.size).data.toList [c, c]
def psSign (s : ByteArray) (pat : Bool) (p : Nat) (r : Int) : Int × Int :=
  if psTwo s p 61 then (8801, 2) else if psTwo s p 60 then (8810, 2) else if psTwo s p 62 then (8811, 2)
  else if r = 61 ∨ r = 62 ∨ r = 59 ∨ r = 44 then (0, 0) else if r = 64 ∧ pat = false then (0, 0) else (psPlain r, runeLen r)
def psAt (s : ByteArray) (pat : Bool) (most p : Nat) (r : Int) : Pr Tk :=
  if kd r = 1 then .ok ⟨97, p, (spanI s p).1.toNat, 0, if nameB (s.extract p (spanI s p).1.toNat) then 0 else 7⟩
  else if kd r = 2 then .ok ⟨48, p, (numI s p).2.1, (numI s p).1, if most < (numI s p).1 then 10 else (numI s p).2.2⟩
  else if kd r = 4 ∧ 0 < (psSign s pat p r).2 then .ok ⟨(psSign s pat p r).1, p, p + (psSign s pat p r).2.toNat, 0, 0⟩
  else .bad p 5
/-- The first place from p on at which no blank stands. -/
def psSkip (s : ByteArray) : Nat → Nat → Nat
  | 0, p => p
  | f + 1, p => if p < s.size then (if kd (Utf8.decode s p).1 = 3 then psSkip s f (p + (Utf8.decode s p).2) else p) else p
def psEnd (s : ByteArray) : Tk := ⟨0, s.size, s.size, 0, 0⟩
def psFrom (s : ByteArray) (pat : Bool) (most p : Nat) : Pr Tk := if p < s.size then psAt s pat most p (Utf8.decode s p).1 else .ok (psEnd s)
/-- The token behind a place. -/
def psNext (s : ByteArray) (pat : Bool) (most p : Nat) : Pr Tk := psFrom s pat most (psSkip s s.size p)

/-! ### the grammar -/
structure Ps where
  now : Tk
  nodes : List Nd
  brk : Nat

def mx63 : Nat := 9223372036854775807
def psNx (s : ByteArray) (pat : Bool) (most : Nat) (st : Ps) : Pr Ps := (psNext s pat most st.now.to).bind fun t => .ok { st with now := t }
def psEx (s : ByteArray) (pat : Bool) (what : Int) (st : Ps) : Pr Ps :=
  if st.now.what = what then (if st.now.err = 0 then psNx s pat mx63 st else .bad st.now.from_ st.now.err) else .bad st.now.from_ 6
def psAdd (x : Nd) (st : Ps) : Nat × Ps := (st.nodes.length, { st with nodes := st.nodes ++ [x] })
def psJoin (op : Int) (ks : List Nat) (st : Ps) : Nat × Ps := psAdd ⟨op, 0, ⟨#[]⟩, ks.map Int.ofNat⟩ st
def psLit (s : ByteArray) (pat : Bool) (v : Int) (st : Ps) : Pr (Nat × Ps) := (psEx s pat 48 st).bind fun st1 => .ok (psAdd ⟨1, v, ⟨#[]⟩, []⟩ st1)
def psNamed (s : ByteArray) (pat : Bool) (op : Int) (st : Ps) : Pr (Nat × Ps) := (psEx s pat 97 st).bind fun st1 => .ok (psAdd ⟨op, 0, s.extract st.now.from_ st.now.to, []⟩ st1)
/-- What a sign stands for between two parts, and its level. -/
def psOp (c : Int) : Int × Nat :=
  if c = 124 then (11, 1) else if c = 94 then (12, 2) else if c = 38 then (10, 3) else if c = 8801 then (15, 4) else if c = 60 then (16, 5) else if c = 8810 then (13, 6) else if c = 8811 then (14, 6)
  else if c = 43 then (5, 7) else if c = 45 then (6, 7) else if c = 42 then (7, 8) else if c = 47 then (8, 8) else if c = 37 then (9, 8) else (0, 0)

inductive Rl where
  | cond
  | pair (lv : Nat)
  | loop (lv a : Nat)
  | un
  | atom

def psRun (s : ByteArray) (pat : Bool) : Nat → Rl → Ps → Pr (Nat × Ps)
  | 0, _, _ => .out
  | f + 1, .cond, st => (psRun s pat f (.pair 1) st).bind fun c =>
      if c.2.now.what = 63 then
        (psNx s pat mx63 c.2).bind fun st2 => (psRun s pat f .cond st2).bind fun a => (psEx s pat 58 a.2).bind fun st4 => (psRun s pat f .cond st4).bind fun b => .ok (psJoin 17 [c.1, a.1, b.1] b.2)
      else .ok c
  | f + 1, .pair lv, st => if 8 < lv then psRun s pat f .un st else (psRun s pat f (.pair (lv + 1)) st).bind fun a => psRun s pat f (.loop lv a.1) a.2
  | f + 1, .loop lv a, st =>
      if (psOp st.now.what).2 = lv then
        (psNx s pat mx63 st).bind fun st1 => (psRun s pat f (.pair (lv + 1)) st1).bind fun b =>
          if (psOp st.now.what).1 = 15 ∨ (psOp st.now.what).1 = 16 then .ok (psJoin (psOp st.now.what).1 [a, b.1] b.2)
          else psRun s pat f (.loop lv (psJoin (psOp st.now.what).1 [a, b.1] b.2).1) (psJoin (psOp st.now.what).1 [a, b.1] b.2).2
      else .ok (a, st)
  | f + 1, .un, st =>
      if st.now.what = 45 then
        (if (numI s st.now.to).2.2 = 11 then (psNx s pat mx63 st).bind fun st1 => (psRun s pat f .un st1).bind fun x => .ok (psJoin 3 [x.1] x.2)
         else (psNx s pat (mx63 + 1) st).bind fun st1 => psLit s pat (-(st1.now.n : Int)) st1)
      else if st.now.what = 126 then (psNx s pat mx63 st).bind fun st1 => (psRun s pat f .un st1).bind fun x => .ok (psJoin 4 [x.1] x.2)
      else psRun s pat f .atom st
  | f + 1, .atom, st =>
      if st.now.what = 48 then psLit s pat st.now.n st
      else if st.now.what = 97 then psNamed s pat 2 st
      else if st.now.what = 64 then (psNx s pat mx63 st).bind fun st1 => psNamed s pat 18 st1
      else if st.now.what = 40 then
        (if st.brk = 100 then .bad st.now.from_ 10
         else (psNx s pat mx63 { st with brk := st.brk + 1 }).bind fun st1 => (psRun s pat f .cond st1).bind fun e => (psEx s pat 41 e.2).bind fun st3 => .ok (e.1, { st3 with brk := st3.brk - 1 }))
      else .bad st.now.from_ 6

/-! ### where tokens lie -/
end Go.Proofs.YtdcfffcimikfeaaDoor

set_option linter.unusedSimpArgs false
set_option linter.unusedVariables false
namespace Go.Proofs.YtdcfffcimikfeaaDoor
open Go.Lib

theorem psSkip_le (s : ByteArray) : ∀ (f p : Nat), p ≤ s.size → p ≤ psSkip s f p ∧ psSkip s f p ≤ s.size
  | 0, p, h => ⟨Nat.le_refl _, h⟩
  | f + 1, p, h => by
    unfold psSkip
    split
    · rename_i hp
      split
      · have hw := width_pos s p hp
        have hl := dec_le s p hp
        have := psSkip_le s f (p + (Utf8.decode s p).2) (by omega)
        omega
      · omega
    · omega
theorem nuF_le (s : ByteArray) (z : Int) : ∀ (f p n : Nat), p ≤ s.size → (nuF s z f p n).2.2 = 0 → p ≤ (nuF s z f p n).2.1 ∧ (nuF s z f p n).2.1 ≤ s.size
  | 0, p, n, h, _ => ⟨Nat.le_refl _, h⟩
  | f + 1, p, n, h, h0 => by
    unfold nuF at h0 ⊢
    split
    · rename_i hp
      rw [if_pos hp] at h0
      split
      · rename_i hz
        rw [if_pos hz] at h0
        split
        · rename_i hl
          rw [if_pos hl] at h0; simp at h0
        · rename_i hl
          rw [if_neg hl] at h0
          have hw := width_pos s p hp
          have hle := dec_le s p hp
          have := nuF_le s z f _ _ (by omega) h0
          omega
      · exact ⟨Nat.le_refl _, h⟩
    · exact ⟨Nat.le_refl _, h⟩
theorem num_in (s : ByteArray) (p : Nat) (hp : p < s.size) (hk : kd (Utf8.decode s p).1 = 2) (h0 : (numI s p).2.2 = 0) : p < (numI s p).2.1 ∧ (numI s p).2.1 ≤ s.size := by
  have hz := (kd_two _).1 hk
  unfold numI at h0 ⊢
  rw [if_neg (by omega), Int.toNat_natCast] at h0 ⊢
  unfold numP at h0 ⊢
  rw [digZ_rn s p hp, if_neg hz] at h0 ⊢
  obtain ⟨f, hf⟩ : ∃ f, s.size = f + 1 := ⟨s.size - 1, by omega⟩
  rw [hf] at h0 ⊢
  have hw := width_pos s p hp
  have hle := dec_le s p hp
  unfold nuF at h0 ⊢
  rw [if_pos hp, if_pos rfl] at h0 ⊢
  split
  · rename_i hl; rw [if_pos hl] at h0; simp at h0
  · rename_i hl
    rw [if_neg hl] at h0
    have := nuF_le s _ f _ _ (by omega) h0
    omega
theorem span_in' (s : ByteArray) (p : Nat) (hp : p < s.size) (hk : kd (Utf8.decode s p).1 = 1) : spanI s p = (((spF s s.size p : Nat) : Int), 0) ∧ p < spF s s.size p ∧ spF s s.size p ≤ s.size := by
  refine ⟨?_, ?_, (spF_le s _ p (by omega)).2⟩
  · unfold spanI spanP
    rw [if_neg (by omega), Int.toNat_natCast, kd_rn s p hp, if_pos hk]
  · obtain ⟨f, hf⟩ : ∃ f, s.size = f + 1 := ⟨s.size - 1, by omega⟩
    have hw := width_pos s p hp
    have hle := dec_le s p hp
    rw [hf, spF_on s f p hp (on_of_letter _ hk)]
    have := (spF_le s f (p + (Utf8.decode s p).2) (by omega)).1
    omega

theorem two_in (s : ByteArray) (p : Nat) (c : UInt8) (hp : p < s.size) (h : psTwo s p c = true) : p + 2 ≤ s.size := by
  unfold psTwo hasPrefix at h
  have hl := (List.isPrefixOf_iff_prefix.1 h).length_le
  have e : (s.extract p s.size).data.toList.length = s.size - p := by
    rw [Array.length_toList]; exact tail_size s p
  rw [e] at hl
  simp at hl
  omega
set_option maxRecDepth 100000 in
theorem kd_bad : kd 65533 ≠ 4 := by decide +kernel
theorem len_dec (s : ByteArray) (p : Nat) (hp : p < s.size) (h : kd (Utf8.decode s p).1 = 4) : runeLen (Utf8.decode s p).1 = (Utf8.decode s p).2 := by
  rw [decode_at] at h ⊢
  rcases decodeN_shape (s.size - p) (s.get! p).toNat (s.get! (p + 1)).toNat (s.get! (p + 2)).toNat (s.get! (p + 3)).toNat with ⟨c, e⟩ | ⟨k1, k2, k3, cv, e⟩ | ⟨k1, k2, k3, k4, cv, cs, e⟩ | ⟨k1, k2, k3, k4, k5, cv, cw, e⟩ | e
  all_goals rw [e] at h ⊢
  · unfold runeLen; simp only; rw [if_neg (by omega), if_pos (by omega)]; rfl
  · unfold runeLen; simp only; rw [if_neg (by omega), if_neg (by omega), if_pos (by omega)]; rfl
  · unfold runeLen; simp only; rw [if_neg (by omega), if_neg (by omega), if_neg (by omega), if_neg (by omega), if_pos (by omega)]; rfl
  · unfold runeLen; simp only; rw [if_neg (by omega), if_neg (by omega), if_neg (by omega), if_neg (by omega), if_neg (by omega), if_pos (by omega)]; rfl
  · exact absurd h kd_bad
theorem sign_in (s : ByteArray) (pat : Bool) (p : Nat) (hp : p < s.size) (h : kd (Utf8.decode s p).1 = 4) : (psSign s pat p (Utf8.decode s p).1).2 ≤ (s.size : Int) - p := by
  have hle := dec_le s p hp
  unfold psSign
  split
  · rename_i h2; have := two_in s p _ hp h2; simp only; omega
  · split
    · rename_i h2; have := two_in s p _ hp h2; simp only; omega
    · split
      · rename_i h2; have := two_in s p _ hp h2; simp only; omega
      · split
        · simp only; omega
        · split
          · simp only; omega
          · simp only; rw [len_dec s p hp h]; omega

/-- A token behind the place p. -/
structure TkAt (s : ByteArray) (p : Nat) (t : Tk) : Prop where
  low : p ≤ t.from_
  in_ : t.from_ ≤ s.size
  good : t.err = 0 → t.from_ ≤ t.to ∧ t.to ≤ s.size ∧ (t.what ≠ 0 → t.from_ < t.to)
  sign : t.what ≠ 48 → t.what ≠ 97 → t.err = 0
  name : t.what = 97 → t.from_ < t.to ∧ t.to ≤ s.size

end Go.Proofs.YtdcfffcimikfeaaDoor

set_option linter.unusedSimpArgs false
set_option linter.unusedVariables false
namespace Go.Proofs.YtdcfffcimikfeaaDoor
open Go.Lib

structure StOk (s : ByteArray) (st : Ps) : Prop where
  tk : TkAt s 0 st.now
  few : st.nodes.length ≤ st.now.from_

/-- From st on to st'. -/
structure Gr (st st' : Ps) : Prop where
  le : st.now.from_ ≤ st'.now.from_
  grow : st'.nodes.length + st.now.from_ ≤ st.nodes.length + st'.now.from_
  pre : ∃ t, st'.nodes = st.nodes ++ t
  brk : st'.brk = st.brk

theorem Gr.len {st st' : Ps} (h : Gr st st') : st.nodes.length ≤ st'.nodes.length := by
  obtain ⟨t, e⟩ := h.pre; rw [e]; simp
theorem Gr.trans {a b c : Ps} (h : Gr a b) (k : Gr b c) : Gr a c := by
  obtain ⟨t, e⟩ := h.pre
  obtain ⟨u, e'⟩ := k.pre
  have := h.le
  have := k.le
  have := h.grow
  have := k.grow
  exact ⟨by omega, by omega, ⟨t ++ u, by rw [e', e, List.append_assoc]⟩, k.brk.trans h.brk⟩
theorem Gr.refl (a : Ps) : Gr a a := ⟨Nat.le_refl _, Nat.le_refl _, ⟨[], by simp⟩, rfl⟩

/-- One token further. -/
structure Stp (st st' : Ps) : Prop where
  nodes : st'.nodes = st.nodes
  brk : st'.brk = st.brk
  lt : st.now.from_ < st'.now.from_

def Rl.ok (st : Ps) : Rl → Prop
  | .loop _ a => a < st.nodes.length
  | _ => True
def Rl.more : Rl → Nat
  | .loop _ _ => 0
  | _ => 1

/-- What a rule leaves. -/
structure RunOk (s : ByteArray) (st : Ps) (m : Nat) (r : Nat × Ps) : Prop where
  ok : StOk s r.2
  gr : Gr st r.2
  lt : r.1 < r.2.nodes.length
  more : st.now.from_ + m ≤ r.2.now.from_

theorem Stp.gr {a b : Ps} (h : Stp a b) : Gr a b := ⟨Nat.le_of_lt h.lt, by have := h.lt; rw [h.nodes]; omega, ⟨[], by rw [h.nodes]; simp⟩, h.brk⟩
theorem RunOk.behind {s : ByteArray} {st st1 : Ps} {m : Nat} {r : Nat × Ps} (h : RunOk s st1 m r) (hs : Stp st st1) : RunOk s st 1 r :=
  ⟨h.ok, hs.gr.trans h.gr, h.lt, by have := hs.lt; have := h.more; omega⟩

end Go.Proofs.YtdcfffcimikfeaaDoor

set_option linter.unusedSimpArgs false
set_option linter.unusedVariables false
namespace Go.Proofs.YtdcfffcimikfeaaDoor
open Go.Lib

def Rl.w : Rl → Nat
  | .cond => 12
  | .pair lv => 12 - lv
  | .loop _ _ => 1
  | .un => 2
  | .atom => 1
end Go.Proofs.YtdcfffcimikfeaaDoor

set_option linter.unusedSimpArgs false
set_option linter.unusedVariables false
namespace Go.Proofs.YtdcfffcimikfeaaDoor
open Go.Lib

def NmOk (m : Nat) (t : Tk) : Prop := t.what = 48 → t.err = 0 → t.n ≤ m
/-- A state that the grammar comes to. -/
structure StN (s : ByteArray) (q : Ps) : Prop where
  st : StOk s q
  nm : NmOk mx63 q.now
  bk : q.brk ≤ 100
end Go.Proofs.YtdcfffcimikfeaaDoor

set_option linter.unusedSimpArgs false
set_option linter.unusedVariables false
namespace Go.Proofs.YtdcfffcimikfeaaDoor
open Go.Lib

def shN (d : Nat) (x : Nd) : Nd := { x with kids := x.kids.map (· + (d : Int)) }
theorem shN_shN (d e : Nat) (x : Nd) : shN d (shN e x) = shN (e + d) x := by
  unfold shN
  simp [Int.add_assoc]
theorem map_shN (d e : Nat) (l : List Nd) : (l.map (shN e)).map (shN d) = l.map (shN (e + d)) := by
  rw [List.map_map]; exact List.map_congr_left fun x _ => shN_shN d e x
theorem shN_zero (l : List Nd) : l.map (shN 0) = l := by
  have : ∀ x ∈ l, shN 0 x = id x := fun x _ => by unfold shN; simp
  rw [List.map_congr_left this]; simp
def jn1 (op : Int) (a : List Nd) : List Nd := a ++ [⟨op, 0, ⟨#[]⟩, [((a.length - 1 : Nat) : Int)]⟩]
def jn2 (op : Int) (a b : List Nd) : List Nd := a ++ b.map (shN a.length) ++ [⟨op, 0, ⟨#[]⟩, [((a.length - 1 : Nat) : Int), ((a.length + b.length - 1 : Nat) : Int)]⟩]
def jn3 (op : Int) (a b c : List Nd) : List Nd := a ++ b.map (shN a.length) ++ c.map (shN (a.length + b.length)) ++ [⟨op, 0, ⟨#[]⟩, [((a.length - 1 : Nat) : Int), ((a.length + b.length - 1 : Nat) : Int), ((a.length + b.length + c.length - 1 : Nat) : Int)]⟩]

def skp (s : ByteArray) (p : Nat) : Nat := psSkip s s.size p
theorem psNx_eq (s : ByteArray) (pat : Bool) (most : Nat) (st : Ps) : psNx s pat most st = (psFrom s pat most (skp s st.now.to)).bind fun t => .ok { st with now := t } := rfl
theorem psFrom_here {s : ByteArray} {pat : Bool} {most p : Nat} {t : Tk} (h : psFrom s pat most p = .ok t) : psFrom s pat most t.from_ = .ok t := by
  unfold psFrom at h
  split at h
  · rename_i hp
    have e : t.from_ = p := by
      unfold psAt at h
      split at h
      · cases h; rfl
      · split at h
        · cases h; rfl
        · split at h
          · cases h; rfl
          · cases h
    unfold psFrom
    rw [e, if_pos hp]
    exact h
  · cases h
    unfold psFrom psEnd
    simp

inductive RdQ where
  | cond
  | level (lv : Nat)
  | loop (lv : Nat) (la : List Nd)
  | un
  | atom
def RdQ.rl (d : Nat) : RdQ → Rl
  | .cond => .cond
  | .level lv => .pair lv
  | .loop lv la => .loop lv (d + la.length - 1)
  | .un => .un
  | .atom => .atom
def RdQ.left : RdQ → List Nd
  | .loop _ la => la
  | _ => []

def rdLit (s : ByteArray) (v : Int) (t : Tk) : Pr (List Nd × Nat) := if t.what = 48 then (if t.err = 0 then .ok ([⟨1, v, ⟨#[]⟩, []⟩], skp s t.to) else .bad t.from_ t.err) else .bad t.from_ 6
def rdNamed (s : ByteArray) (op : Int) (t : Tk) : Pr (List Nd × Nat) := if t.what = 97 then (if t.err = 0 then .ok ([⟨op, 0, s.extract t.from_ t.to, []⟩], skp s t.to) else .bad t.from_ t.err) else .bad t.from_ 6

def rdRun (s : ByteArray) (pat : Bool) : Nat → RdQ → Tk → Nat → Pr (List Nd × Nat)
  | 0, _, _, _ => .out
  | f + 1, .cond, t, o => (rdRun s pat f (.level 1) t o).bind fun c => (psFrom s pat mx63 c.2).bind fun t1 =>
      if t1.what = 63 then
        (psFrom s pat mx63 (skp s t1.to)).bind fun t2 => (rdRun s pat f .cond t2 o).bind fun a => (psFrom s pat mx63 a.2).bind fun t3 =>
          if t3.what = 58 then (if t3.err = 0 then (psFrom s pat mx63 (skp s t3.to)).bind fun t4 => (rdRun s pat f .cond t4 o).bind fun b => .ok (jn3 17 c.1 a.1 b.1, b.2) else .bad t3.from_ t3.err) else .bad t3.from_ 6
      else .ok c
  | f + 1, .level lv, t, o => if 8 < lv then rdRun s pat f .un t o else (rdRun s pat f (.level (lv + 1)) t o).bind fun a => (psFrom s pat mx63 a.2).bind fun t1 => rdRun s pat f (.loop lv a.1) t1 o
  | f + 1, .loop lv la, t, o =>
      if (psOp t.what).2 = lv then
        (psFrom s pat mx63 (skp s t.to)).bind fun t1 => (rdRun s pat f (.level (lv + 1)) t1 o).bind fun b =>
          if (psOp t.what).1 = 15 ∨ (psOp t.what).1 = 16 then .ok (jn2 (psOp t.what).1 la b.1, b.2)
          else (psFrom s pat mx63 b.2).bind fun t2 => rdRun s pat f (.loop lv (jn2 (psOp t.what).1 la b.1)) t2 o
      else .ok (la, t.from_)
  | f + 1, .un, t, o =>
      if t.what = 45 then
        (if (numI s t.to).2.2 = 11 then (psFrom s pat mx63 (skp s t.to)).bind fun t1 => (rdRun s pat f .un t1 o).bind fun x => .ok (jn1 3 x.1, x.2)
         else (psFrom s pat (mx63 + 1) (skp s t.to)).bind fun t1 => rdLit s (-(t1.n : Int)) t1)
      else if t.what = 126 then (psFrom s pat mx63 (skp s t.to)).bind fun t1 => (rdRun s pat f .un t1 o).bind fun x => .ok (jn1 4 x.1, x.2)
      else rdRun s pat f .atom t o
  | f + 1, .atom, t, o =>
      if t.what = 48 then rdLit s t.n t
      else if t.what = 97 then rdNamed s 2 t
      else if t.what = 64 then (psFrom s pat mx63 (skp s t.to)).bind fun t1 => rdNamed s 18 t1
      else if t.what = 40 then
        (if o = 100 then .bad t.from_ 10
         else (psFrom s pat mx63 (skp s t.to)).bind fun t1 => (rdRun s pat f .cond t1 (o + 1)).bind fun e => (psFrom s pat mx63 e.2).bind fun t2 =>
          if t2.what = 41 then (if t2.err = 0 then .ok (e.1, skp s t2.to) else .bad t2.from_ t2.err) else .bad t2.from_ 6)
      else .bad t.from_ 6
end Go.Proofs.YtdcfffcimikfeaaDoor
