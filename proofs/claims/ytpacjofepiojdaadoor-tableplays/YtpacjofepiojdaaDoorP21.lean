/-
  NmPure, ExOpen, TbL2.
-/
import Derived.Test.YtpacjofepiojdaaDoorChecked
import GoSem.PinnedTables
import GoSem.Claim
import GoSem.ClaimJoined
import GoSem.ClaimMapViews
import Derived.JoinedTies
import Derived.KernelRfl
import Derived.Shelf.Unicode.DecodeSlow
import Derived.Laws.RangeAny
import Derived.Shelf.Small.Bits
import Derived.Shelf.Strconv.Itoa0
import Derived.Shelf.LaysM
import Derived.Shelf.Strconv.Clone
import Derived.Shelf.Unicode.DecodeAny
import Derived.Shelf.Slices.CompactS
import Derived.Ground.SlsfProg
import Derived.Shelf.SlSortCmp.Insertion
import Derived.Shelf.SlSortCmp.SiftDown1
import Derived.Shelf.SlSortCmp.HeapSort1
import Derived.Shelf.SlSortCmp.Insertion1
import Derived.Shelf.SlSortCmp.Median1
import Derived.Shelf.SlSortCmp.Pivot1
import Derived.Shelf.SlSortCmp.ReverseRange1
import Derived.Shelf.SlSortCmp.PartialInsertion1
import Derived.Shelf.SlSortCmp.PartitionEqual1
import Derived.Shelf.SlSortCmp.Partition1
import Derived.Shelf.SlSortCmp.Pdq1
import Derived.Shelf.SlSortCmp.Whole1
import Derived.Test.YtpacjofepiojdaaDoorProg
import Derived.WalkKit
import Derived.Deep.DeepFit
import Derived.Lib.OthersKept
import Derived.Lib.RuneCountTail
import Derived.Lib.LaidU8
import Derived.MakeChecks
import Derived.ProofKit
import Derived.OpenShut
import Derived.Deep.DeepHandedRow
import Derived.Deep.AppendLies
import Derived.Deep.OwnRows
import Derived.Laws.AppendOwnNone
import Derived.Deep.QuietTactic
import Derived.BigQuiet
import Derived.Deep.RegionWith
import Derived.Laws.DeepStrings4
import Derived.Below
import Derived.Maps.OwnSet
import Derived.Maps.Keyed
import Derived.DeepKeys4
import Derived.Lib.QuietBelow
import Derived.StillTail
import Derived.Deep.RegionHeld3
import Derived.Laws.ResultCell
import Derived.Laws.CopyOwn
import Derived.Laws.OwnMore
import Derived.Lib.MapLaws
import Derived.Sort.Walk0
import Derived.Deep.Slices
import Derived.SizedLaws
import Derived.Test.YtpacjofepiojdaaDoorRows
import Derived.Test.YtpacjofepiojdaaDoorP01
import Derived.Test.YtpacjofepiojdaaDoorP02
import Derived.Test.YtpacjofepiojdaaDoorP03
import Derived.Test.YtpacjofepiojdaaDoorP04
import Derived.Test.YtpacjofepiojdaaDoorP05
import Derived.Test.YtpacjofepiojdaaDoorP06
import Derived.Test.YtpacjofepiojdaaDoorP07
import Derived.Test.YtpacjofepiojdaaDoorP08
import Derived.Test.YtpacjofepiojdaaDoorP09
import Derived.Test.YtpacjofepiojdaaDoorP10
import Derived.Test.YtpacjofepiojdaaDoorP11
import Derived.Test.YtpacjofepiojdaaDoorP12
import Derived.Test.YtpacjofepiojdaaDoorP13
import Derived.Test.YtpacjofepiojdaaDoorP14
import Derived.Test.YtpacjofepiojdaaDoorP15
import Derived.Test.YtpacjofepiojdaaDoorP16
import Derived.Test.YtpacjofepiojdaaDoorP19
import Derived.Test.YtpacjofepiojdaaDoorP20
set_option linter.unusedSimpArgs false
set_option linter.unusedVariables false
namespace Go.Proofs.YtpacjofepiojdaaDoor
open Go.Lib

/-! ### names -/
theorem nmF_chk (s : ByteArray) : ∀ (f pos n : Nat), nmF s f pos n = true → (chkF s f pos).2 = 0
  | 0, pos, n, h => rfl
  | f + 1, pos, n, h => by
    by_cases hp : pos < s.size
    · rw [nmF_step s f pos n hp] at h
      unfold nmS at h
      split at h
      · simp at h
      · rename_i hk
        have ho : onB (Utf8.decode s pos).1 = true := by
          cases hq : onB (Utf8.decode s pos).1 with
          | true => rfl
          | false => simp [hq] at hk
        rw [chkF_good s f pos hp (good_of_on s pos ho)]
        exact nmF_chk s f _ _ h
    · rw [chkF_end s _ pos hp]
theorem name_chk (s : ByteArray) (h : nameB s = true) : (chk s).2 = 0 := nmF_chk s _ _ _ h
theorem empty_chk (s : ByteArray) (h : s.toList.isEmpty = true) : (chk s).2 = 0 := by
  rw [toList_data] at h
  have hz : s.size = 0 := by
    have : s.data.toList = [] := by simpa using h
    show s.data.size = 0
    rw [← Array.length_toList, this]; rfl
  unfold chk
  rw [chkF_end s _ 0 (by omega)]

theorem nmF_size (s : ByteArray) : ∀ (f pos n : Nat), s.size ≤ pos + f → nmF s f pos n = true → s.size ≤ pos + 4 * (16 - n)
  | 0, pos, n, hf, h => by omega
  | f + 1, pos, n, hf, h => by
    by_cases hp : pos < s.size
    · have hw := width_pos s pos hp
      have hw4 : (Utf8.decode s pos).2 ≤ 4 := by
        rw [decode_at s pos]; exact (decodeN_width _ _ _ _ _).2
      have hn : n < 16 := by
        by_cases hn : 16 ≤ n
        · exfalso
          rw [nmF_step s f pos n hp] at h
          unfold nmS at h
          split at h
          · simp at h
          · rw [nmF_long s f _ (n + 1) (by omega)] at h; simp at h
        · omega
      rw [nmF_step s f pos n hp] at h
      unfold nmS at h
      split at h
      · simp at h
      · have := nmF_size s f _ _ (by omega) h
        omega
    · omega
theorem name_size (s : ByteArray) (h : nameB s = true) : s.size ≤ 64 := by
  have := nmF_size s s.size 0 0 (by omega) h
  omega

theorem form_name {x : Nd} (h : formB x = true) : (chk x.name).2 = 0 ∧ x.name.size ≤ 64 := by
  unfold formB fitB at h
  simp only [Bool.and_eq_true] at h
  obtain ⟨_, h⟩ := h
  split at h
  · exact ⟨name_chk _ h, name_size _ h⟩
  · refine ⟨empty_chk _ h, ?_⟩
    rw [toList_data] at h
    have : x.name.data.toList = [] := by simpa using h
    show x.name.data.size ≤ 64
    rw [← Array.length_toList, this]; simp
end Go.Proofs.YtpacjofepiojdaaDoor

set_option linter.unusedSimpArgs false
set_option linter.unusedVariables false
namespace Go.Proofs.YtpacjofepiojdaaDoor
open Go.RowKit Go.Lib Go.ChangeShapes Go.WideShapes Go.Deep

theorem Tryd.laidOut : laidOutB Tryd.prog = true := by kernel_rfl
theorem Tryd.cells3 : Tryd.prog.cellsOf 3 = 1 := by kernel_rfl
theorem Tryd.cells2 : Tryd.prog.cellsOf 2 = 1 := by kernel_rfl
theorem Tryd.cellsStr : Tryd.prog.cellsOf 9 = 1 := by kernel_rfl
theorem Tryd.cellsInts : Tryd.prog.cellsOf 61 = 1 := by kernel_rfl
theorem Tryd.cellsNode : Tryd.prog.cellsOf 63 = 4 := by kernel_rfl
theorem Tryd.bytes3 : Tryd.prog.bytesOf 3 = 8 := by kernel_rfl
theorem Tryd.bytesNode : Tryd.prog.bytesOf 63 = 56 := by kernel_rfl

theorem len4 {α : Type} (l : List α) (h : l.length = 4) : ∃ a b c d, l = [a, b, c, d] := by
  match l, h with
  | [a, b, c, d], _ => exact ⟨a, b, c, d, rfl⟩

theorem spot_none {w : World} {a : Addr} {v : Value} (h : w.cell? a = some v) : a.spot = none := by
  unfold World.cell? at h
  split at h
  · split at h
    · cases h
    · rename_i hs; simpa using hs
  · cases h

section
variable {H : Type} {enc : TypeId × Value → H} {w : World}

/-- The kids' slice. -/
theorem open_kids {fuel : Nat} {v : Value} {x : DataW H × List MemPlace} (h : DataW.trod enc Tryd.prog w 0 (fun _ => true) true fuel 61 [v] = some x) :
    ∃ ks, Ints w w.heap.size v ks ∧ ((∀ n ∈ x.1.weights Tryd.prog 61, n ≤ reachBytes) → ks.length * 8 ≤ 140737488351232) := by
  rcases open_ints Tryd.underlying61 Tryd.underlying3 Tryd.cells3 h with ⟨hcs, rfl⟩ | ⟨a, len, cap, zs, hcs, _, hl, hm, hz, rfl, hc, _⟩
  · simp only [List.cons.injEq, and_true] at hcs
    subst hcs
    exact ⟨[], ⟨none, 0, rfl, by simp, ⟨by simp [maxLen], fun _ => rfl⟩, .inl rfl⟩, fun _ => by simp⟩
  · simp only [List.cons.injEq, and_true] at hcs
    subst hcs
    simp only [if_true] at hz
    have hlen : (zs.take len).length = len := by simp; omega
    refine ⟨zs.take len, ⟨some a, cap, by rw [hlen], by omega, ⟨hm, by simp⟩, ?_⟩, fun hw => ?_⟩
    · by_cases h0 : len = 0
      · left; exact List.length_eq_zero_iff.1 (by omega)
      · right
        have hc0 := hc 0 (by omega)
        obtain ⟨b, o, sp⟩ := a
        have hsp : sp = none := by
          have e : (⟨b, o, sp⟩ : Addr).add 0 = ⟨b, o, sp⟩ := rfl
          rw [e] at hc0; exact spot_none hc0
        subst hsp
        refine ⟨b, o, rfl, World.block_lt_of_cell? _ _ hc0, fun j hj => ?_⟩
        rw [hlen] at hj
        have := hc j (by omega)
        rw [Go.WideShapes.add_plain] at this
        rw [this]
        simp [List.getElem?_take, hj]
    · have := hw ((((lits .i64 (zs.take len)).length : Nat) + (lits .i64 (zs.drop len)).length) * Tryd.prog.bytesOf 3) (by simp only [DataW.weights, Tryd.underlying61 ]; exact List.mem_cons_self ..)
      rw [Tryd.bytes3] at this
      simp only [lits, List.length_map, List.length_take, List.length_drop, reachBytes] at this
      rw [hlen]; omega

/-- One node. -/
theorem open_node {fuel : Nat} {cs : List Value} {x : DataW H × List MemPlace} (h : DataW.trod enc Tryd.prog w 0 (fun _ => true) true fuel 63 cs = some x) :
    ∃ (y : Nd) (kv : Value), cs = [.int .i64 y.op, .int .i64 y.n, .string y.name, kv] ∧ Ints w w.heap.size kv y.kids ∧ (y.name.size ≤ maxLen ∧ (Lit.int .i64 y.n).wf = true) ∧ ((∀ n ∈ x.1.weights Tryd.prog 63, n ≤ reachBytes) → y.kids.length * 8 ≤ 140737488351232) := by
  obtain ⟨xs, n, _, rfl, hl, hxl, hall⟩ := DataW.trod_struct Tryd.underlying63 h
  rw [Tryd.cellsNode] at hl
  obtain ⟨v0, v1, v2, v3, rfl⟩ := len4 cs hl
  obtain ⟨x0, x1, x2, x3, rfl⟩ := len4 xs hxl
  have g0 : DataW.trod enc Tryd.prog w 0 (fun _ => true) true n 3 (([v0, v1, v2, v3].drop 0).take (Tryd.prog.cellsOf 3)) = some x0 := hall 0 _ rfl
  have g1 : DataW.trod enc Tryd.prog w 0 (fun _ => true) true n 2 (([v0, v1, v2, v3].drop 1).take (Tryd.prog.cellsOf 2)) = some x1 := hall 1 _ rfl
  have g2 : DataW.trod enc Tryd.prog w 0 (fun _ => true) true n 9 (([v0, v1, v2, v3].drop 2).take (Tryd.prog.cellsOf 9)) = some x2 := hall 2 _ rfl
  have g3 : DataW.trod enc Tryd.prog w 0 (fun _ => true) true n 61 (([v0, v1, v2, v3].drop 3).take (Tryd.prog.cellsOf 61)) = some x3 := hall 3 _ rfl
  rw [Tryd.cells3] at g0
  rw [Tryd.cells2] at g1
  rw [Tryd.cellsStr] at g2
  rw [Tryd.cellsInts] at g3
  obtain ⟨z0, k0, _, _⟩ := DataW.trod_int Tryd.underlying3 g0
  obtain ⟨z1, k1, _, hz1⟩ := DataW.trod_int Tryd.underlying2 g1
  obtain ⟨s, k2, _, hs⟩ := DataW.trod_string Tryd.underlying9 g2
  simp at k0 k1 k2
  subst k0; subst k1; subst k2
  obtain ⟨ks, hI, hw⟩ := open_kids (v := v3) g3
  refine ⟨⟨z0, z1, s, ks⟩, v3, rfl, hI, ⟨hs, hz1⟩, fun hh => hw fun q hq => hh q ?_⟩
  simp only [DataW.weights, Tryd.underlying63 ]
  exact DataW.weights_mem_each (j := 3) (t := 61) (d := x3.1) rfl rfl q hq

theorem mem_weightsAll {P : Program} {e : TypeId} {d : DataW H} {n : Nat} : ∀ {ds : List (DataW H)}, d ∈ ds → n ∈ d.weights P e → n ∈ DataW.weightsAll P e ds
  | d0 :: ds, hd, hn => by
    simp only [DataW.weightsAll, List.mem_append]
    rcases List.mem_cons.1 hd with rfl | hd
    · exact .inl hn
    · exact .inr (mem_weightsAll hd hn)

/-- Within the reach, marks and all; the numbers are numbers of 64 bits. -/
structure FitX (l : List Nd) : Prop where
  len : l.length * 56 ≤ 140737488351232
  kids : ∀ x ∈ l, x.kids.length * 8 ≤ 140737488351232
  name : ∀ x ∈ l, x.name.size ≤ maxLen
  num : ∀ x ∈ l, (Lit.int .i64 x.n).wf = true
theorem FitX.fit {l : List Nd} (h : FitX l) : Fit l := ⟨by have := h.len; omega, fun x hx => by have := h.kids x hx; omega, h.name⟩

/-- The whole argument. -/
theorem open_nodesX {fuel : Nat} {v : Value} {x : DataW H × List MemPlace} (h : DataW.trod enc Tryd.prog w 0 (fun _ => true) true fuel 22 [v] = some x) :
    ∃ (ao : Option Addr) (cap : Nat) (l : List Nd), v = .slice ao l.length cap ∧ Rd w ao cap l ∧ ((∀ n ∈ x.1.weights Tryd.prog 22, n ≤ reachBytes) → FitX l) := by
  rcases open_slice Tryd.underlying22 h with ⟨hcs, rfl⟩ | ⟨a, len, cap, m, n, D, Pl, hcs, _, hl, hm, hmm, rfl, hx⟩
  · simp only [List.cons.injEq, and_true] at hcs
    subst hcs
    exact ⟨none, 0, [], rfl, ⟨none, 0, rfl, by simp, by simp, .inl rfl⟩, fun _ => ⟨by simp, by simp, by simp, by simp⟩⟩
  · simp only [List.cons.injEq, and_true] at hcs
    subst hcs
    simp only [if_true] at hmm
    subst hmm
    have each : ∀ i, i < m → ∃ y : Nd × Value, ∃ cs', w.cells? 0 (a.add (i * 4)) 4 = some cs' ∧ cs' = [.int .i64 y.1.op, .int .i64 y.1.n, .string y.1.name, y.2] ∧ Ints w w.heap.size y.2 y.1.kids ∧ (y.1.name.size ≤ maxLen ∧ (Lit.int .i64 y.1.n).wf = true) ∧ ((∀ n ∈ (D i).weights Tryd.prog 63, n ≤ reachBytes) → y.1.kids.length * 8 ≤ 140737488351232) := by
      intro i hi
      obtain ⟨cs', h1, h2⟩ := hx i hi
      rw [Tryd.cellsNode] at h1
      obtain ⟨y, kv, e, h3, h4, h5⟩ := open_node h2
      exact ⟨(y, kv), cs', h1, e, h3, h4, h5⟩
    have : Inhabited (Nd × Value) := ⟨(nd0, .slice none 0 0)⟩
    obtain ⟨q, hq⟩ := choose_lt each
    have hlen : ((List.range len).map fun i => (q i).1).length = len := by simp
    have hget : ∀ i, i < len → ((List.range len).map fun i => (q i).1).getD i nd0 = (q i).1 := fun i hi => by simp [hi]
    refine ⟨some a, m, (List.range len).map fun i => (q i).1, by rw [hlen], ⟨some a, m, rfl, by rw [hlen]; exact hl, hm, ?_⟩, fun hw => ⟨?_, ?_, ?_, ?_⟩⟩
    · by_cases h0 : len = 0
      · left; subst h0; rfl
      · right
        have hc0 : w.cell? a = some (.int .i64 (q 0).1.op) := by
          obtain ⟨cs', h1, rfl, _⟩ := hq 0 (by omega)
          have := (World.cells?_some h1).2.2 0 (by omega)
          rw [Nat.zero_mul] at this
          exact this
        obtain ⟨b, o, sp⟩ := a
        have hsp : sp = none := spot_none hc0
        subst hsp
        refine ⟨b, o, rfl, World.block_lt_of_cell? _ _ hc0, fun i hi => ?_⟩
        rw [hlen] at hi
        rw [hget i hi]
        obtain ⟨cs', h1, rfl, h3, _⟩ := hq i (by omega)
        have hcell := (World.cells?_some h1).2.2
        rw [Go.WideShapes.add_plain] at hcell
        refine ⟨(q i).2, ?_, ?_, ?_, ?_, h3⟩
        · have := hcell 0 (by omega); rw [Go.WideShapes.add_plain] at this; exact this
        · have := hcell 1 (by omega); rw [Go.WideShapes.add_plain] at this; exact this
        · have := hcell 2 (by omega); rw [Go.WideShapes.add_plain] at this; exact this
        · have := hcell 3 (by omega); rw [Go.WideShapes.add_plain] at this; exact this
    · have := hw ((((List.range len).map D).length + ((List.range (m - len)).map fun j => D (len + j)).length) * Tryd.prog.bytesOf 63) (by simp only [DataW.weights, Tryd.underlying22 ]; exact List.mem_cons_self ..)
      rw [Tryd.bytesNode] at this
      simp only [List.length_map, List.length_range, reachBytes] at this
      rw [hlen]; omega
    · intro y hy
      obtain ⟨i, hi, rfl⟩ := List.mem_map.1 hy
      rw [List.mem_range] at hi
      obtain ⟨cs', _, _, _, _, h5⟩ := hq i (by omega)
      have := h5 fun n hn => hw n (by
        simp only [DataW.weights, Tryd.underlying22, List.mem_cons, List.mem_append]
        exact .inr (.inl (mem_weightsAll (List.mem_map.2 ⟨i, List.mem_range.2 hi, rfl⟩) hn)))
      exact this
    · intro y hy
      obtain ⟨i, hi, rfl⟩ := List.mem_map.1 hy
      rw [List.mem_range] at hi
      obtain ⟨cs', _, _, _, h4, _⟩ := hq i (by omega)
      exact h4.1
    · intro y hy
      obtain ⟨i, hi, rfl⟩ := List.mem_map.1 hy
      rw [List.mem_range] at hi
      obtain ⟨cs', _, _, _, h4, _⟩ := hq i (by omega)
      exact h4.2
end

theorem spans_of_laid {W : World} (h : laidMetH Tryd.prog [("sorrel/runes.spans", Rows.laid_sorrel_runes_spans)] W) : SpanCells W := by
  rw [MakeChecks.laidMetH_plain _ _ _ (by kernel_rfl)] at h
  have r2 := laidMet.reads h (n := "sorrel/runes.spans") (d := Rows.laid_sorrel_runes_spans) (by simp)
  rw [spansData_eq] at r2
  exact spans_of_reads r2
end Go.Proofs.YtpacjofepiojdaaDoor

set_option linter.unusedSimpArgs false
set_option linter.unusedVariables false
namespace Go.Proofs.YtpacjofepiojdaaDoor
open Go.RowKit Go.Lib Go.Sort Go.Maps

def aw1 : Nd := ⟨1, 1, ⟨#[]⟩, []⟩
def aw2 : Nd := ⟨3, 0, ⟨#[]⟩, [0]⟩
theorem aw_beg : begL [aw1, aw2] = some [0, 0] := by
  have e : (ByteArray.mk #[]).toList = [] := by unfold ByteArray.toList ByteArray.toList.loop; rfl
  simp [begL, begR, stp, formB, fitB, aritI, chainL, aw1, aw2, e]
theorem aw_add : addR ([], []) [aw1, aw2] = some ([aw1, aw2], [0, 1]) := by
  have h1 : stA ([], []) aw1 = some ([aw1], [0]) := by
    unfold stA
    have e : adN [] aw1 = aw1 := rfl
    simp only [e, ixL_nil]
    simp
  have h2 : stA ([aw1], [0]) aw2 = some ([aw1, aw2], [0, 1]) := by
    unfold stA
    have e : adN [0] aw2 = aw2 := rfl
    have hn : ixL [aw1] aw2 = none := ixL_none.2 (by simp [aw1, aw2])
    simp only [e, hn]
    simp
  show (stA ([], []) aw1).bind (fun s => (stA s aw2).bind fun s => some s) = _
  rw [h1]
  show ((stA ([aw1], [0]) aw2).bind fun s => some s) = _
  rw [h2]
  rfl
theorem aw_own {w w3 : World} {b1 b2 : Nat} (h1 : w3.heap[b1]? = some (.cells #[.int .i64 0] 3 (0, 0))) (h2 : w3.heap[b2]? = some (.cells #[.int .i64 1, .int .i64 1, .string ⟨#[]⟩, .slice none 0 0, .int .i64 3, .int .i64 0, .string ⟨#[]⟩, .slice (some ⟨b1, 0, none⟩) 1 1] 63 (0, 0))) :
    OwnN w3 0 (.slice (some ⟨b2, 0, none⟩) 2 2) [aw1, aw2] := by
  refine ⟨[(aw1, .slice none 0 0), (aw2, .slice (some ⟨b1, 0, none⟩) 1 1)], rfl, ⟨rfl, .inr ⟨b2, 2, _, rfl, Nat.zero_le _, h2, Nat.le_refl 2, by unfold maxLen; omega, rfl, rfl⟩⟩, fun q hq => ?_⟩
  simp at hq
  rcases hq with rfl | rfl
  · exact World.ownsRow_nil _ _ _ _
  · exact ⟨rfl, .inr ⟨b1, 1, _, rfl, Nat.zero_le _, h1, Nat.le_refl 1, by unfold maxLen; omega, rfl, rfl⟩⟩

set_option maxRecDepth 20000 in
set_option maxHeartbeats 4000000 in
theorem awake10_any (w : World) (hT : SpanCells w) : Calls Tryd.prog 31 #[] w fun e w' => e = .returned (.bool true) ∧ Below w.heap.size w w' := by
  obtain ⟨w1, hw1⟩ : ∃ w1, w.alloc (.cells #[.slice none 0 0, .map none] 104) = w1 := ⟨_, rfl⟩
  have HB1 : Sld (Below w.heap.size w w1) := ⟨by rw [← hw1]; exact (Below.refl _ _).alloc (Nat.le_refl _) _⟩
  have hM1 : TbM w1 w.heap.size (.slice none 0 0) (.map none) [] := by rw [← hw1]; exact TbM.fresh w
  obtain ⟨w3, hw3⟩ : ∃ w3, (w1.alloc (.cells #[.int .i64 0] 3)).alloc (.cells #[.int .i64 1, .int .i64 1, .string ⟨#[]⟩, .slice none 0 0, .int .i64 3, .int .i64 0, .string ⟨#[]⟩, .slice (some ⟨w1.heap.size, 0, none⟩) 1 1] 63) = w3 := ⟨_, rfl⟩
  have hB3 : Below w1.heap.size w1 w3 := by rw [← hw3]; exact ((Below.refl _ _).alloc (Nat.le_refl _) _).alloc (by simp) _
  have hb1 : w3.heap[w1.heap.size]? = some (.cells #[.int .i64 0] 3 (0, 0)) := by rw [← hw3, Deep.blk_alloc_lt _ _ _ (by simp), Deep.blk_alloc_new]
  have hb2 : w3.heap[w1.heap.size + 1]? = some (.cells #[.int .i64 1, .int .i64 1, .string ⟨#[]⟩, .slice none 0 0, .int .i64 3, .int .i64 0, .string ⟨#[]⟩, .slice (some ⟨w1.heap.size, 0, none⟩) 1 1] 63 (0, 0)) := by
    rw [← hw3]
    have := Deep.blk_alloc_new (w1.alloc (.cells #[.int .i64 0] 3)) (.cells #[.int .i64 1, .int .i64 1, .string ⟨#[]⟩, .slice none 0 0, .int .i64 3, .int .i64 0, .string ⟨#[]⟩, .slice (some ⟨w1.heap.size, 0, none⟩) 1 1] 63)
    simpa using this
  have HB3 : Sld (Below w.heap.size w w3) := ⟨HB1.out.trans (hB3.mono HB1.out.size)⟩
  have CA : Sld (Calls Tryd.prog 61 #[.pointer (some ⟨w.heap.size, 0, none⟩), .slice (some ⟨w1.heap.size + 1, 0, none⟩) 2 2] w3 fun e w' => e = .returned (.tuple #[.int .i64 1, .int .i64 0]) ∧ ∃ ev' mv', TbT w3 w.heap.size (.slice none 0 0) (.map none) ev' mv' [aw1, aw2] w') := ⟨tAdd_ok w3 w.heap.size _ _ [] [aw1, aw2] [0, 0] 0 _ (hM1.below hB3) (hT.below HB3.out) (aw_own (w := w) hb1 hb2) aw_beg (by
    intro x hx
    simp at hx
    rcases hx with rfl | rfl
    · exact ⟨⟨by show (-9223372036854775808 : Int) ≤ 1; omega, by show (1 : Int) ≤ 9223372036854775807; omega⟩, by unfold aw1; decide⟩
    · exact ⟨⟨by show (-9223372036854775808 : Int) ≤ 0; omega, by show (0 : Int) ≤ 9223372036854775807; omega⟩, by unfold aw2; decide⟩) [aw1, aw2] [0, 1] aw_add⟩
  have HM3 : Sld (TbM w3 w.heap.size (.slice none 0 0) (.map none) []) := ⟨hM1.below hB3⟩
  clear hB3 hb1 hb2 hM1
  go_enter Tryd.func31, Tryd.ntmps31
  go_wp2_with fail
  refine (tnew_any w).mono ?_
  rintro e w2 ⟨rfl, hw2⟩
  rw [hw1] at hw2
  subst hw2
  go_wp2_with fail
  refine CA.out.mono ?_
  rintro e w4 ⟨rfl, ev4, mv4, hT4⟩
  have HL4 : Sld (Calls Tryd.prog 33 #[.pointer (some ⟨w.heap.size, 0, none⟩)] w4 fun e w' => e = .returned (.int .i64 2) ∧ w' = w4) := ⟨tlen_any w4 _ _ _ _ hT4.tb⟩
  have HB4 : Sld (Below w.heap.size w w4) := ⟨HB3.out.trans (hT4.below HM3.out)⟩
  clear hT4
  go_wp2_with (go_at_call 33; refine HL4.out.mono ?_; rintro e w5 ⟨rfl, hw5⟩; subst hw5)
  go_ret
  exact ⟨rfl, HB4.out⟩

set_option maxRecDepth 20000 in
set_option maxHeartbeats 4000000 in
theorem own10_any (x : Nd) (ka : Option Addr) (kc : Nat) (w : World) (hI : Ints w w.heap.size (.slice ka x.kids.length kc) x.kids) (hl : x.kids.length * 8 ≤ 140737488355328) :
    Calls Tryd.prog 62 #[.agg #[.int .i64 x.op, .int .i64 x.n, .string x.name, .slice ka x.kids.length kc]] w fun e w' => ∃ ao cap, e = .returned (.agg #[.int .i64 x.op, .int .i64 x.n, .string x.name, .slice ao x.kids.length cap]) ∧ OwnI w' w.heap.size (.slice ao x.kids.length cap) x.kids ∧ Below w.heap.size w w' := by
  obtain ⟨w3, hw3⟩ : ∃ w3, ((w.alloc (.cells #[.int .i64 x.op, .int .i64 x.n, .string x.name, .slice ka x.kids.length kc] 63)).alloc (.cells #[.int .i64 0, .int .i64 0, .string ⟨#[]⟩, .slice none 0 0] 63)).alloc (.cells #[.int .i64 x.op, .int .i64 x.n, .string x.name, .slice ka x.kids.length kc] 63) = w3 := ⟨_, rfl⟩
  have hB3 : Below w.heap.size w w3 := by rw [← hw3]; exact (((Below.refl _ _).alloc (Nat.le_refl _) _).alloc (by simp) _).alloc (by simp; omega) _
  have hsz3 : w3.heap.size = w.heap.size + 3 := by rw [← hw3]; simp
  have hb2 : w3.heap[w.heap.size + 2]? = some (.cells #[.int .i64 x.op, .int .i64 x.n, .string x.name, .slice ka x.kids.length kc] 63 (0, 0)) := by
    rw [← hw3]
    have := Deep.blk_alloc_new ((w.alloc (.cells #[.int .i64 x.op, .int .i64 x.n, .string x.name, .slice ka x.kids.length kc] 63)).alloc (.cells #[.int .i64 0, .int .i64 0, .string ⟨#[]⟩, .slice none 0 0] 63)) (.cells #[.int .i64 x.op, .int .i64 x.n, .string x.name, .slice ka x.kids.length kc] 63)
    simpa using this
  have hb1 : w3.heap[w.heap.size + 1]? = some (.cells #[.int .i64 0, .int .i64 0, .string ⟨#[]⟩, .slice none 0 0] 63 (0, 0)) := by
    rw [← hw3, Deep.blk_alloc_lt _ _ _ (by simp)]
    have := Deep.blk_alloc_new (w.alloc (.cells #[.int .i64 x.op, .int .i64 x.n, .string x.name, .slice ka x.kids.length kc] 63)) (.cells #[.int .i64 0, .int .i64 0, .string ⟨#[]⟩, .slice none 0 0] 63)
    simpa using this
  obtain ⟨q0, q1, q2, q3, _⟩ := blk4 hb2
  have hN : Nodes w3 w3.heap.size (.slice (some ⟨w.heap.size + 2, 0, none⟩) 1 1) [x] := ⟨_, 1, rfl, by simp, by unfold maxLen; omega, .inr ⟨w.heap.size + 2, 0, rfl, by omega, fun i hi => by
    obtain rfl : i = 0 := by simpa using hi
    exact ⟨_, q0, q1, q2, q3, hI.below hB3 hB3.size⟩⟩⟩
  have CC : Sld (Calls Tryd.prog 9 #[.slice (some ⟨w.heap.size + 2, 0, none⟩) 1 1] w3 fun e w' => ∃ g cap ao cap', e = .returned (.slice (some ⟨g, 0, none⟩) 1 cap) ∧ NodeAt w' w'.heap.size g 0 x (.slice ao x.kids.length cap') ∧ OwnI w' w3.heap.size (.slice ao x.kids.length cap') x.kids ∧ Below w3.heap.size w3 w') := ⟨(copy_any _ [x] w3 _ (Nat.le_refl _) hN (by simp) (by intro y hy; simp at hy; subst hy; exact hl)).mono fun e w' ⟨v', h1, h2, h3⟩ => by
    obtain ⟨p, hp1, hp2⟩ := h2
    obtain ⟨⟨y, kv⟩, rfl⟩ : ∃ y, p = [y] := by
      match p, hp1 with
      | [y], _ => exact ⟨y, rfl⟩
    simp at hp1
    subst hp1
    obtain ⟨g, cap, hv, _, _⟩ := rw_some hp2.row (by simp)
    have hk := hp2.kids _ (List.mem_singleton.2 rfl)
    obtain ⟨ao, cap', hkv⟩ := OwnI.form' hk
    simp only at hkv hk
    subst hkv
    have hc : ∀ j u, (ndCells [(y, Value.slice ao y.kids.length cap')])[j]? = some u → w'.cell? ⟨g, j, none⟩ = some u := fun j u hj => by
      subst hv
      obtain ⟨u', h4, h5⟩ := rw_cell hp2.row (i := j) (by
        have := (List.getElem?_eq_some_iff.1 hj).1
        simpa [ndCells] using this)
      rw [h4, ← h5, hj]
    subst hv
    exact ⟨g, cap, ao, cap', by simpa using h1, ⟨hc 0 _ rfl, hc 1 _ rfl, hc 2 _ rfl, hc 3 _ rfl, Ints_of_own hk (Nat.le_refl _)⟩, hk, h3⟩⟩
  have HB3 : Sld (Below w.heap.size w w3) := ⟨hB3⟩
  have HSZ : Hid (w3.heap.size = w.heap.size + 3) := hsz3
  have HB1 : Sld (w3.heap[w.heap.size + 1]? = some (.cells #[.int .i64 0, .int .i64 0, .string ⟨#[]⟩, .slice none 0 0] 63 (0, 0))) := ⟨hb1⟩
  clear hB3 hsz3 hb2 hb1 q0 q1 q2 q3 hN hI
  obtain ⟨op, n, nm, ks⟩ := x
  simp only at hw3 CC ⊢
  go_enter Tryd.func62, Tryd.ntmps62
  go_wp2_with fail
  try rw [hw3]
  clear hw3
  refine CC.out.mono ?_
  rintro e w5 ⟨g5, c5, ao5, cap5, rfl, hNA, hO5, hb5⟩
  have hn5 : w5.heap[w.heap.size + 1]? = some (.cells #[.int .i64 0, .int .i64 0, .string ⟨#[]⟩, .slice none 0 0] 63 (0, 0)) := (hb5.block _ (by have := HSZ.out; omega)).trans HB1.out
  obtain ⟨y0, y1, y2, y3, yf⟩ := blk4 hn5
  obtain ⟨d0, d1, d2, d3, _⟩ := hNA
  simp only at d0 d1 d2 d3
  have HO5 : Hid (OwnI w5 w3.heap.size (.slice ao5 ks.length cap5) ks) := hO5
  have HB5 : Sld (Below w.heap.size w w5) := ⟨HB3.out.trans (hb5.mono HB3.out.size)⟩
  clear hO5 hb5
  go_wp2_with fail
  have hS := set4 hn5 (.int .i64 op) (.int .i64 n) (.string nm) (.slice ao5 ks.length cap5)
  have HBE := below_set4 HB5.out (Nat.le_add_right w.heap.size 1) (.int .i64 op) (.int .i64 n) (.string nm) (.slice ao5 ks.length cap5)
  have HOE : OwnI ((((w5.setCell ⟨w.heap.size + 1, 0, none⟩ (.int .i64 op)).setCell ⟨w.heap.size + 1, 1, none⟩ (.int .i64 n)).setCell ⟨w.heap.size + 1, 2, none⟩ (.string nm)).setCell ⟨w.heap.size + 1, 3, none⟩ (.slice ao5 ks.length cap5)) w.heap.size (.slice ao5 ks.length cap5) ks := by
    have := ownI_far (b := w.heap.size + 1) HO5.out (by have := HSZ.out; omega) (w' := (((w5.setCell ⟨w.heap.size + 1, 0, none⟩ (.int .i64 op)).setCell ⟨w.heap.size + 1, 1, none⟩ (.int .i64 n)).setCell ⟨w.heap.size + 1, 2, none⟩ (.string nm)).setCell ⟨w.heap.size + 1, 3, none⟩ (.slice ao5 ks.length cap5)) (fun k hk => by
      rw [Deep.blk_setCell_other _ _ _ _ hk, Deep.blk_setCell_other _ _ _ _ hk, Deep.blk_setCell_other _ _ _ _ hk, Deep.blk_setCell_other _ _ _ _ hk])
    exact ownsRow_mono this (by have := HSZ.out; omega)
  generalize (((w5.setCell ⟨w.heap.size + 1, 0, none⟩ (.int .i64 op)).setCell ⟨w.heap.size + 1, 1, none⟩ (.int .i64 n)).setCell ⟨w.heap.size + 1, 2, none⟩ (.string nm)).setCell ⟨w.heap.size + 1, 3, none⟩ (.slice ao5 ks.length cap5) = W at *
  obtain ⟨x0, x1, x2, x3, _⟩ := blk4 hS
  refine bodyPost_ret (v := .agg #[.int .i64 op, .int .i64 n, .string nm, .slice ao5 ks.length cap5]) (by simp [results, Tryd.results62, go_sem, x0, x1, x2, x3]) rfl ⟨ao5, cap5, rfl, HOE, HBE⟩
end Go.Proofs.YtpacjofepiojdaaDoor

namespace Go.Proofs.YtpacjofepiojdaaDoor
open Go.RowKit Go.Lib Go.Sort Go.Maps

/-- What Add answers. -/
def adP (L l : List Nd) : Nat × Int × List Nd :=
  match begL l with
  | none => (0, 1, L)
  | some _ => match addR (L, []) l with
    | some s => (s.2.getD (l.length - 1) 0, 0, s.1)
    | none => (0, 10, L)
theorem stA_room {L : List Nd} {ids : List Nat} (x : Nd) (h : L.length < 1048576) : ∃ L' ids', stA (L, ids) x = some (L', ids') ∧ L'.length ≤ L.length + 1 := by
  unfold stA
  simp only
  cases ixL L (adN ids x) with
  | some i => exact ⟨_, _, rfl, by omega⟩
  | none => simp only [h, if_true]; exact ⟨_, _, rfl, by simp⟩
theorem addR_room : ∀ (l : List Nd) (L : List Nd) (ids : List Nat), L.length + l.length ≤ 1048576 → ∃ s, addR (L, ids) l = some s
  | [], L, ids, _ => ⟨_, rfl⟩
  | x :: r, L, ids, h => by
    simp only [List.length_cons] at h
    obtain ⟨L', ids', h1, h2⟩ := stA_room (ids := ids) x (show L.length < 1048576 by omega)
    obtain ⟨s, hs⟩ := addR_room r L' ids' (by omega)
    exact ⟨s, by simp only [addR, h1, Option.bind_some]; exact hs⟩
/-- Of an expression that is sound. -/
structure AdOk (L l : List Nd) (ids : List Nat) (L' : List Nd) : Prop where
  run : addR (L, []) l = some (L', ids)
  inv : TbI L'
  pre : ∃ M, L' = L ++ M ∧ M.length ≤ l.length
  fnd : Fnd L' l ids
theorem adP_snd {L l : List Nd} {fr : List Nat} (hI : TbI L) (hb : begL l = some fr) (hr : L.length + 64 ≤ 1048576) : ∃ ids L', AdOk L l ids L' ∧ adP L l = (ids.getD (l.length - 1) 0, 0, L') := by
  obtain ⟨h0, h64, hbr, _⟩ := begL_some hb
  have hok := begOk_of hbr
  obtain ⟨⟨L', ids⟩, hs⟩ := addR_room l L [] (by omega)
  have h1 := addR_ok (kidsLo_ok hok) (fun j hj => (hok.at_ j hj).1) hI l.length (Nat.le_refl _) L' ids (by rw [List.take_length]; exact hs)
  rw [List.take_length] at h1
  refine ⟨ids, L', ⟨hs, h1.1, h1.2.1, h1.2.2⟩, ?_⟩
  unfold adP
  rw [hb, hs]
theorem AdOk.whole {L l L' : List Nd} {ids : List Nat} {fr : List Nat} (h : AdOk L l ids L') (hb : begL l = some fr) : exA L' (ids.getD (l.length - 1) 0) = l := h.fnd.whole h.inv hb
theorem AdOk.lt {L l L' : List Nd} {ids : List Nat} (h : AdOk L l ids L') (h0 : 0 < l.length) : ids.getD (l.length - 1) 0 < L'.length := (h.fnd.at_ (l.length - 1) (by omega)).1
theorem adP_bad {L l : List Nd} (hb : begL l = none) : adP L l = (0, 1, L) := by unfold adP; rw [hb]
theorem adP_len {L l : List Nd} (hI : TbI L) (hr : L.length + 64 ≤ 1048576) : (adP L l).2.2.length ≤ L.length + 64 ∧ TbI (adP L l).2.2 := by
  cases hb : begL l with
  | none => rw [adP_bad hb]; exact ⟨by simp, hI⟩
  | some fr =>
    obtain ⟨ids, L', h1, h2⟩ := adP_snd hI hb hr
    rw [h2]
    obtain ⟨M, hM, hMl⟩ := h1.pre
    obtain ⟨_, h64, _, _⟩ := begL_some hb
    refine ⟨?_, h1.inv⟩
    simp only
    rw [hM, List.length_append]
    omega
/-- Where its nodes are entries already. -/
theorem adP_fnd {L l : List Nd} {ids : List Nat} {fr : List Nat} (hI : TbI L) (hb : begL l = some fr) (h : Fnd L l ids) : adP L l = (ids.getD (l.length - 1) 0, 0, L) := by
  obtain ⟨_, _, hbr, _⟩ := begL_some hb
  unfold adP
  rw [hb, fnd_run (kidsLo_ok (begOk_of hbr)) hI.nodup h]
theorem TbT.b {w w0 w' : World} {p B : Nat} {ev mv ev' mv' : Value} {L L' : List Nd} (h : TbT w p ev mv ev' mv' L' w') (hm : TbM w p ev mv L) (hb : Below B w0 w) (hB : B ≤ p) : Below B w0 w' := hb.trans ((h.below hm).mono hB)
end Go.Proofs.YtpacjofepiojdaaDoor
