/-
  ExOpen, OrdPure, BytePure, NmPure, ShPure, CntW.
-/
import Derived.Test.YtlllkjbbldhddaaDoorChecked
import GoSem.PinnedTables
import GoSem.Claim
import GoSem.ClaimJoined
import GoSem.ClaimMapViews
import Derived.JoinedTies
import Derived.KernelRfl
import Derived.Shelf.Unicode.DecodeSlow
import Derived.Laws.RangeAny
import Derived.Shelf.Unicode.DecodeAny
import Derived.Test.YtlllkjbbldhddaaDoorProg
import Derived.WalkKit
import Derived.Deep.DeepFit
import Derived.Lib.OthersKept
import Derived.Lib.RuneCountTail
import Derived.Lib.LaidU8
import Derived.MakeChecks
import Derived.ProofKit
import Derived.OpenShut
import Derived.Deep.DeepHandedRow
import Derived.Deep.AppendLies
import Derived.Deep.OwnRows
import Derived.Laws.AppendOwnNone
import Derived.Deep.QuietTactic
import Derived.BigQuiet
import Derived.Deep.RegionWith
import Derived.Laws.DeepStrings4
import Derived.Deep.Slices
import Derived.SizedLaws
import Derived.Lib.MapLaws
import Derived.Sort.Walk0
import Derived.Lib.ItoaNum
import Derived.Maps.OwnSet
import Derived.StringKeys
import Derived.Test.YtlllkjbbldhddaaDoorRows
import Derived.Test.YtlllkjbbldhddaaDoorA01
import Derived.Test.YtlllkjbbldhddaaDoorA02
import Derived.Test.YtlllkjbbldhddaaDoorA03
import Derived.Test.YtlllkjbbldhddaaDoorA04
import Derived.Test.YtlllkjbbldhddaaDoorA05
set_option linter.unusedSimpArgs false
set_option linter.unusedVariables false
namespace Go.Proofs.YtlllkjbbldhddaaDoor
open Go.RowKit Go.Lib Go.ChangeShapes Go.WideShapes Go.Deep

theorem Tryd.laidOut : laidOutB Tryd.prog = true := by kernel_rfl
theorem Tryd.cells3 : Tryd.prog.cellsOf 3 = 1 := by kernel_rfl
theorem Tryd.cells2 : Tryd.prog.cellsOf 2 = 1 := by kernel_rfl
theorem Tryd.cellsStr : Tryd.prog.cellsOf 9 = 1 := by kernel_rfl
theorem Tryd.cellsInts : Tryd.prog.cellsOf 61 = 1 := by kernel_rfl
theorem Tryd.cellsNode : Tryd.prog.cellsOf 63 = 4 := by kernel_rfl
theorem Tryd.bytes3 : Tryd.prog.bytesOf 3 = 8 := by kernel_rfl
theorem Tryd.bytesNode : Tryd.prog.bytesOf 63 = 56 := by kernel_rfl

theorem len4 {α : Type} (l : List α) (h : l.length = 4) : ∃ a b c d, l = [a, b, c, d] := by
  match l, h with
  | [a, b, c, d], _ => exact ⟨a, b, c, d, rfl⟩

theorem spot_none {w : World} {a : Addr} {v : Value} (h : w.cell? a = some v) : a.spot = none := by
  unfold World.cell? at h
  split at h
  · split at h
    · cases h
    · rename_i hs; simpa using hs
  · cases h

section
variable {H : Type} {enc : TypeId × Value → H} {w : World}

/-- The kids' slice. -/
theorem open_kids {fuel : Nat} {v : Value} {x : DataW H × List MemPlace} (h : DataW.trod enc Tryd.prog w 0 (fun _ => true) true fuel 61 [v] = some x) :
    ∃ ks, Ints w w.heap.size v ks ∧ ((∀ n ∈ x.1.weights Tryd.prog 61, n ≤ reachBytes) → ks.length * 8 ≤ 140737488351232) := by
  rcases open_ints Tryd.underlying61 Tryd.underlying3 Tryd.cells3 h with ⟨hcs, rfl⟩ | ⟨a, len, cap, zs, hcs, _, hl, hm, hz, rfl, hc, _⟩
  · simp only [List.cons.injEq, and_true] at hcs
    subst hcs
    exact ⟨[], ⟨none, 0, rfl, by simp, ⟨by simp [maxLen], fun _ => rfl⟩, .inl rfl⟩, fun _ => by simp⟩
  · simp only [List.cons.injEq, and_true] at hcs
    subst hcs
    simp only [if_true] at hz
    have hlen : (zs.take len).length = len := by simp; omega
    refine ⟨zs.take len, ⟨some a, cap, by rw [hlen], by omega, ⟨hm, by simp⟩, ?_⟩, fun hw => ?_⟩
    · by_cases h0 : len = 0
      · left; exact List.length_eq_zero_iff.1 (by omega)
      · right
        have hc0 := hc 0 (by omega)
        obtain ⟨b, o, sp⟩ := a
        have hsp : sp = none := by
          have e : (⟨b, o, sp⟩ : Addr).add 0 = ⟨b, o, sp⟩ := rfl
          rw [e] at hc0; exact spot_none hc0
        subst hsp
        refine ⟨b, o, rfl, World.block_lt_of_cell? _ _ hc0, fun j hj => ?_⟩
        rw [hlen] at hj
        have := hc j (by omega)
        rw [Go.WideShapes.add_plain] at this
        rw [this]
        simp [List.getElem?_take, hj]
    · have := hw ((((lits .i64 (zs.take len)).length : Nat) + (lits .i64 (zs.drop len)).length) * Tryd.prog.bytesOf 3) (by simp only [DataW.weights, Tryd.underlying61 ]; exact List.mem_cons_self ..)
      rw [Tryd.bytes3] at this
      simp only [lits, List.length_map, List.length_take, List.length_drop, reachBytes] at this
      rw [hlen]; omega

/-- One node. -/
theorem open_node {fuel : Nat} {cs : List Value} {x : DataW H × List MemPlace} (h : DataW.trod enc Tryd.prog w 0 (fun _ => true) true fuel 63 cs = some x) :
    ∃ (y : Nd) (kv : Value), cs = [.int .i64 y.op, .int .i64 y.n, .string y.name, kv] ∧ Ints w w.heap.size kv y.kids ∧ (y.name.size ≤ maxLen ∧ (Lit.int .i64 y.n).wf = true) ∧ ((∀ n ∈ x.1.weights Tryd.prog 63, n ≤ reachBytes) → y.kids.length * 8 ≤ 140737488351232) := by
  obtain ⟨xs, n, _, rfl, hl, hxl, hall⟩ := DataW.trod_struct Tryd.underlying63 h
  rw [Tryd.cellsNode] at hl
  obtain ⟨v0, v1, v2, v3, rfl⟩ := len4 cs hl
  obtain ⟨x0, x1, x2, x3, rfl⟩ := len4 xs hxl
  have g0 : DataW.trod enc Tryd.prog w 0 (fun _ => true) true n 3 (([v0, v1, v2, v3].drop 0).take (Tryd.prog.cellsOf 3)) = some x0 := hall 0 _ rfl
  have g1 : DataW.trod enc Tryd.prog w 0 (fun _ => true) true n 2 (([v0, v1, v2, v3].drop 1).take (Tryd.prog.cellsOf 2)) = some x1 := hall 1 _ rfl
  have g2 : DataW.trod enc Tryd.prog w 0 (fun _ => true) true n 9 (([v0, v1, v2, v3].drop 2).take (Tryd.prog.cellsOf 9)) = some x2 := hall 2 _ rfl
  have g3 : DataW.trod enc Tryd.prog w 0 (fun _ => true) true n 61 (([v0, v1, v2, v3].drop 3).take (Tryd.prog.cellsOf 61)) = some x3 := hall 3 _ rfl
  rw [Tryd.cells3] at g0
  rw [Tryd.cells2] at g1
  rw [Tryd.cellsStr] at g2
  rw [Tryd.cellsInts] at g3
  obtain ⟨z0, k0, _, _⟩ := DataW.trod_int Tryd.underlying3 g0
  obtain ⟨z1, k1, _, hz1⟩ := DataW.trod_int Tryd.underlying2 g1
  obtain ⟨s, k2, _, hs⟩ := DataW.trod_string Tryd.underlying9 g2
  simp at k0 k1 k2
  subst k0; subst k1; subst k2
  obtain ⟨ks, hI, hw⟩ := open_kids (v := v3) g3
  refine ⟨⟨z0, z1, s, ks⟩, v3, rfl, hI, ⟨hs, hz1⟩, fun hh => hw fun q hq => hh q ?_⟩
  simp only [DataW.weights, Tryd.underlying63 ]
  exact DataW.weights_mem_each (j := 3) (t := 61) (d := x3.1) rfl rfl q hq

theorem mem_weightsAll {P : Program} {e : TypeId} {d : DataW H} {n : Nat} : ∀ {ds : List (DataW H)}, d ∈ ds → n ∈ d.weights P e → n ∈ DataW.weightsAll P e ds
  | d0 :: ds, hd, hn => by
    simp only [DataW.weightsAll, List.mem_append]
    rcases List.mem_cons.1 hd with rfl | hd
    · exact .inl hn
    · exact .inr (mem_weightsAll hd hn)

/-- Within the reach, marks and all; the numbers are numbers of 64 bits. -/
structure FitX (l : List Nd) : Prop where
  len : l.length * 56 ≤ 140737488351232
  kids : ∀ x ∈ l, x.kids.length * 8 ≤ 140737488351232
  name : ∀ x ∈ l, x.name.size ≤ maxLen
  num : ∀ x ∈ l, (Lit.int .i64 x.n).wf = true
theorem FitX.fit {l : List Nd} (h : FitX l) : Fit l := ⟨by have := h.len; omega, fun x hx => by have := h.kids x hx; omega, h.name⟩

/-- The whole argument. -/
theorem open_nodesX {fuel : Nat} {v : Value} {x : DataW H × List MemPlace} (h : DataW.trod enc Tryd.prog w 0 (fun _ => true) true fuel 22 [v] = some x) :
    ∃ (ao : Option Addr) (cap : Nat) (l : List Nd), v = .slice ao l.length cap ∧ Rd w ao cap l ∧ ((∀ n ∈ x.1.weights Tryd.prog 22, n ≤ reachBytes) → FitX l) := by
  rcases open_slice Tryd.underlying22 h with ⟨hcs, rfl⟩ | ⟨a, len, cap, m, n, D, Pl, hcs, _, hl, hm, hmm, rfl, hx⟩
  · simp only [List.cons.injEq, and_true] at hcs
    subst hcs
    exact ⟨none, 0, [], rfl, ⟨none, 0, rfl, by simp, by simp, .inl rfl⟩, fun _ => ⟨by simp, by simp, by simp, by simp⟩⟩
  · simp only [List.cons.injEq, and_true] at hcs
    subst hcs
    simp only [if_true] at hmm
    subst hmm
    have each : ∀ i, i < m → ∃ y : Nd × Value, ∃ cs', w.cells? 0 (a.add (i * 4)) 4 = some cs' ∧ cs' = [.int .i64 y.1.op, .int .i64 y.1.n, .string y.1.name, y.2] ∧ Ints w w.heap.size y.2 y.1.kids ∧ (y.1.name.size ≤ maxLen ∧ (Lit.int .i64 y.1.n).wf = true) ∧ ((∀ n ∈ (D i).weights Tryd.prog 63, n ≤ reachBytes) → y.1.kids.length * 8 ≤ 140737488351232) := by
      intro i hi
      obtain ⟨cs', h1, h2⟩ := hx i hi
      rw [Tryd.cellsNode] at h1
      obtain ⟨y, kv, e, h3, h4, h5⟩ := open_node h2
      exact ⟨(y, kv), cs', h1, e, h3, h4, h5⟩
    have : Inhabited (Nd × Value) := ⟨(nd0, .slice none 0 0)⟩
    obtain ⟨q, hq⟩ := choose_lt each
    have hlen : ((List.range len).map fun i => (q i).1).length = len := by simp
    have hget : ∀ i, i < len → ((List.range len).map fun i => (q i).1).getD i nd0 = (q i).1 := fun i hi => by simp [hi]
    refine ⟨some a, m, (List.range len).map fun i => (q i).1, by rw [hlen], ⟨some a, m, rfl, by rw [hlen]; exact hl, hm, ?_⟩, fun hw => ⟨?_, ?_, ?_, ?_⟩⟩
    · by_cases h0 : len = 0
      · left; subst h0; rfl
      · right
        have hc0 : w.cell? a = some (.int .i64 (q 0).1.op) := by
          obtain ⟨cs', h1, rfl, _⟩ := hq 0 (by omega)
          have := (World.cells?_some h1).2.2 0 (by omega)
          rw [Nat.zero_mul] at this
          exact this
        obtain ⟨b, o, sp⟩ := a
        have hsp : sp = none := spot_none hc0
        subst hsp
        refine ⟨b, o, rfl, World.block_lt_of_cell? _ _ hc0, fun i hi => ?_⟩
        rw [hlen] at hi
        rw [hget i hi]
        obtain ⟨cs', h1, rfl, h3, _⟩ := hq i (by omega)
        have hcell := (World.cells?_some h1).2.2
        rw [Go.WideShapes.add_plain] at hcell
        refine ⟨(q i).2, ?_, ?_, ?_, ?_, h3⟩
        · have := hcell 0 (by omega); rw [Go.WideShapes.add_plain] at this; exact this
        · have := hcell 1 (by omega); rw [Go.WideShapes.add_plain] at this; exact this
        · have := hcell 2 (by omega); rw [Go.WideShapes.add_plain] at this; exact this
        · have := hcell 3 (by omega); rw [Go.WideShapes.add_plain] at this; exact this
    · have := hw ((((List.range len).map D).length + ((List.range (m - len)).map fun j => D (len + j)).length) * Tryd.prog.bytesOf 63) (by simp only [DataW.weights, Tryd.underlying22 ]; exact List.mem_cons_self ..)
      rw [Tryd.bytesNode] at this
      simp only [List.length_map, List.length_range, reachBytes] at this
      rw [hlen]; omega
    · intro y hy
      obtain ⟨i, hi, rfl⟩ := List.mem_map.1 hy
      rw [List.mem_range] at hi
      obtain ⟨cs', _, _, _, _, h5⟩ := hq i (by omega)
      have := h5 fun n hn => hw n (by
        simp only [DataW.weights, Tryd.underlying22, List.mem_cons, List.mem_append]
        exact .inr (.inl (mem_weightsAll (List.mem_map.2 ⟨i, List.mem_range.2 hi, rfl⟩) hn)))
      exact this
    · intro y hy
      obtain ⟨i, hi, rfl⟩ := List.mem_map.1 hy
      rw [List.mem_range] at hi
      obtain ⟨cs', _, _, _, h4, _⟩ := hq i (by omega)
      exact h4.1
    · intro y hy
      obtain ⟨i, hi, rfl⟩ := List.mem_map.1 hy
      rw [List.mem_range] at hi
      obtain ⟨cs', _, _, _, h4, _⟩ := hq i (by omega)
      exact h4.2
theorem open_nodes {fuel : Nat} {v : Value} {x : DataW H × List MemPlace} (h : DataW.trod enc Tryd.prog w 0 (fun _ => true) true fuel 22 [v] = some x) :
    ∃ (ao : Option Addr) (cap : Nat) (l : List Nd), v = .slice ao l.length cap ∧ Rd w ao cap l ∧ ((∀ n ∈ x.1.weights Tryd.prog 22, n ≤ reachBytes) → Fit l) := by
  obtain ⟨ao, cap, l, h1, h2, h3⟩ := open_nodesX h
  exact ⟨ao, cap, l, h1, h2, fun hw => (h3 hw).fit⟩
end

end Go.Proofs.YtlllkjbbldhddaaDoor

set_option linter.unusedSimpArgs false
set_option linter.unusedVariables false
namespace Go.Proofs.YtlllkjbbldhddaaDoor
open Go.Lib

/-! ### an order -/
theorem cmp3_self (a : Int) : cmp3 a a = 0 := by simp [cmp3]
theorem cmp3_zero (a b : Int) : cmp3 a b = 0 ↔ a = b := by unfold cmp3; constructor <;> intro h <;> (repeat' split at *) <;> omega
theorem cmpL_self : ∀ l : List Int, cmpL l l = 0
  | [] => rfl
  | a :: l => by rw [cmpL, if_pos (cmp3_self a), cmpL_self l]
theorem cmpL_zero : ∀ l m : List Int, cmpL l m = 0 → l = m
  | [], [], _ => rfl
  | [], _ :: _, h => by simp [cmpL] at h
  | _ :: _, [], h => by simp [cmpL] at h
  | a :: l, b :: m, h => by
    rw [cmpL] at h
    split at h
    · rename_i e; rw [(cmp3_zero a b).1 e, cmpL_zero l m h]
    · rename_i e; exact absurd h e

/-! ### texts that are joined -/
theorem bad_false_iff (s : ByteArray) (pos : Nat) : bad s pos = false ↔ ¬ Utf8.decode s pos = (65533, 1) := by
  constructor
  · intro h e; simp [bad, e] at h
  · intro h
    cases hb : bad s pos
    · rfl
    · exact absurd (bad_eq hb) h
/-- Every place that is come to is good. -/
def Good (a : ByteArray) (pos : Nat) : Prop := ∃ f, a.size ≤ pos + f ∧ (chkF a f pos).2 = 0
theorem good_start (a : ByteArray) (h : (chk a).2 = 0) : Good a 0 := ⟨a.size, by omega, h⟩
theorem good_step (a : ByteArray) (pos : Nat) (hp : pos < a.size) (h : Good a pos) : bad a pos = false ∧ Good a (pos + (Utf8.decode a pos).2) := by
  obtain ⟨f, hf, hc⟩ := h
  obtain ⟨f, rfl⟩ : ∃ g, f = g + 1 := ⟨f - 1, by omega⟩
  have hv := width_pos a pos hp
  cases hb : bad a pos
  · rw [chkF_good a f pos hp hb] at hc
    exact ⟨rfl, f, by omega, hc⟩
  · rw [chkF_bad a f pos hp hb] at hc
    simp at hc
theorem ord_self (a : ByteArray) : ordI a a = 0 := cmpL_self _
end Go.Proofs.YtlllkjbbldhddaaDoor

set_option linter.unusedSimpArgs false
set_option linter.unusedVariables false
namespace Go.Proofs.YtlllkjbbldhddaaDoor
open Go.Lib

/-! ### a text without bad bytes -/
theorem bytes_good (s : ByteArray) : ∀ (f pos : Nat), s.size ≤ pos + f → pos ≤ s.size → Good s pos → s.data.toList.drop pos = (runesFrom s f pos).flatMap encodeRune
  | 0, pos, h1, h2, _ => by
    have : pos = s.size := by omega
    subst this
    rw [size_eq, List.drop_of_length_le (Nat.le_refl _)]; rfl
  | f + 1, pos, h1, h2, hg => by
    by_cases hp : pos < s.size
    · obtain ⟨hb, hg'⟩ := good_step s pos hp hg
      have hv := width_pos s pos hp
      have hv2 := dec_le s pos hp
      have hne : s.data.toList.drop pos ≠ [] := by
        intro e
        have := congrArg List.length e
        rw [List.length_drop, ← size_eq] at this
        simp at this; omega
      have he := encode_decode (s.data.toList.drop pos) hne (by
        rw [decodeL_drop]
        intro e
        exact (bad_false_iff s pos).1 hb (Prod.ext e.1 e.2))
      rw [decodeL_drop] at he
      rw [runesFrom_cons s f pos hp, List.flatMap_cons, he, ← bytes_good s f _ (by omega) hv2 hg', ← List.drop_drop, List.take_append_drop]
    · have : pos = s.size := by omega
      subst this
      rw [runesFrom_end s _ _ hp, size_eq, List.drop_of_length_le (Nat.le_refl _)]; rfl
theorem bytes_of_good (s : ByteArray) (h : (chk s).2 = 0) : s.data.toList = (rl s).flatMap encodeRune := by
  have := bytes_good s s.size 0 (by omega) (by omega) (good_start s h)
  simpa [rl] using this
theorem eq_good (a b : ByteArray) (ha : (chk a).2 = 0) (hb : (chk b).2 = 0) : (a.toList == b.toList) = decide (ordI a b = 0) := by
  rw [Bool.eq_iff_iff, beq_iff_eq, decide_eq_true_eq, toList_data, toList_data]
  constructor
  · intro h
    have : a = b := by
      apply ByteArray.ext; exact Array.ext' h
    rw [this]; exact ord_self b
  · intro h
    rw [bytes_of_good a ha, bytes_of_good b hb, cmpL_zero _ _ h]
end Go.Proofs.YtlllkjbbldhddaaDoor

set_option linter.unusedSimpArgs false
set_option linter.unusedVariables false
namespace Go.Proofs.YtlllkjbbldhddaaDoor
open Go.Lib

/-! ### names -/
theorem nmF_chk (s : ByteArray) : ∀ (f pos n : Nat), nmF s f pos n = true → (chkF s f pos).2 = 0
  | 0, pos, n, h => rfl
  | f + 1, pos, n, h => by
    by_cases hp : pos < s.size
    · rw [nmF_step s f pos n hp] at h
      unfold nmS at h
      split at h
      · simp at h
      · rename_i hk
        have ho : onB (Utf8.decode s pos).1 = true := by
          cases hq : onB (Utf8.decode s pos).1 with
          | true => rfl
          | false => simp [hq] at hk
        rw [chkF_good s f pos hp (good_of_on s pos ho)]
        exact nmF_chk s f _ _ h
    · rw [chkF_end s _ pos hp]
theorem name_chk (s : ByteArray) (h : nameB s = true) : (chk s).2 = 0 := nmF_chk s _ _ _ h
theorem empty_chk (s : ByteArray) (h : s.toList.isEmpty = true) : (chk s).2 = 0 := by
  rw [toList_data] at h
  have hz : s.size = 0 := by
    have : s.data.toList = [] := by simpa using h
    show s.data.size = 0
    rw [← Array.length_toList, this]; rfl
  unfold chk
  rw [chkF_end s _ 0 (by omega)]

theorem nmF_size (s : ByteArray) : ∀ (f pos n : Nat), s.size ≤ pos + f → nmF s f pos n = true → s.size ≤ pos + 4 * (16 - n)
  | 0, pos, n, hf, h => by omega
  | f + 1, pos, n, hf, h => by
    by_cases hp : pos < s.size
    · have hw := width_pos s pos hp
      have hw4 : (Utf8.decode s pos).2 ≤ 4 := by
        rw [decode_at s pos]; exact (decodeN_width _ _ _ _ _).2
      have hn : n < 16 := by
        by_cases hn : 16 ≤ n
        · exfalso
          rw [nmF_step s f pos n hp] at h
          unfold nmS at h
          split at h
          · simp at h
          · rw [nmF_long s f _ (n + 1) (by omega)] at h; simp at h
        · omega
      rw [nmF_step s f pos n hp] at h
      unfold nmS at h
      split at h
      · simp at h
      · have := nmF_size s f _ _ (by omega) h
        omega
    · omega
theorem name_size (s : ByteArray) (h : nameB s = true) : s.size ≤ 64 := by
  have := nmF_size s s.size 0 0 (by omega) h
  omega

theorem form_name {x : Nd} (h : formB x = true) : (chk x.name).2 = 0 ∧ x.name.size ≤ 64 := by
  unfold formB fitB at h
  simp only [Bool.and_eq_true] at h
  obtain ⟨_, h⟩ := h
  split at h
  · exact ⟨name_chk _ h, name_size _ h⟩
  · refine ⟨empty_chk _ h, ?_⟩
    rw [toList_data] at h
    have : x.name.data.toList = [] := by simpa using h
    show x.name.data.size ≤ 64
    rw [← Array.length_toList, this]; simp
theorem form_len {x y : Nd} (hx : formB x = true) (hy : formB y = true) (h : x.op = y.op) : x.kids.length = y.kids.length := by
  unfold formB fitB at hx hy
  simp only [Bool.and_eq_true, decide_eq_true_eq] at hx hy
  rw [h] at hx
  omega
theorem name_eq {a b : ByteArray} (ha : (chk a).2 = 0) (hb : (chk b).2 = 0) (h : ordI a b = 0) : a = b := by
  have := eq_good a b ha hb
  rw [h] at this
  simp only [decide_true, beq_iff_eq, toList_data] at this
  exact ByteArray.ext (Array.ext' this)

end Go.Proofs.YtlllkjbbldhddaaDoor

set_option linter.unusedSimpArgs false
set_option linter.unusedVariables false
namespace Go.Proofs.YtlllkjbbldhddaaDoor
open Go.Lib

/-! ### soundness -/
def fillN (x : Nd) : Nd := if x.op = 18 then { x with op := 2 } else x
def addNm (acc : List ByteArray) (x : Nd) : List ByteArray := if x.op = 18 then (if acc.any (fun y => decide (y = x.name)) = true then acc else acc ++ [x.name]) else acc
def hlsL (l : List Nd) : List ByteArray := l.foldl addNm []
theorem hlsL_snoc (l : List Nd) (x : Nd) : hlsL (l ++ [x]) = addNm (hlsL l) x := by simp [hlsL]
theorem addNm_len (acc : List ByteArray) (x : Nd) : (addNm acc x).length ≤ acc.length + 1 := by
  unfold addNm; split
  · split <;> simp
  · omega
theorem foldl_addNm_len : ∀ (l : List Nd) (acc : List ByteArray), (l.foldl addNm acc).length ≤ acc.length + l.length
  | [], acc => by simp
  | x :: l, acc => by
    have := foldl_addNm_len l (addNm acc x)
    have := addNm_len acc x
    simp; omega
theorem hlsL_len (l : List Nd) : (hlsL l).length ≤ l.length := by have := foldl_addNm_len l []; simpa [hlsL] using this
/-! ### texts -/
/-! ### the whole -/
def pt0 : Nd × ByteArray := (nd0, ⟨#[]⟩)
/-! ### sizes -/
/-- How much of the list a node's text may take. -/
def wgt (fr : List Nat) (k : Nat) : Nat := k + 1 - fr.getD k 0
def TlOk (fr : List Nat) (told : List (Nd × ByteArray)) : Prop := ∀ i, i < told.length → (told.getD i pt0).2.size ≤ 100 * wgt fr i
theorem TlOk.snoc {fr : List Nat} {told : List (Nd × ByteArray)} {x : Nd} {s : ByteArray} (hT : TlOk fr told) (hs : s.size ≤ 100 * wgt fr told.length) : TlOk fr (told ++ [(x, s)]) := by
  intro i hi
  simp only [List.length_append, List.length_cons, List.length_nil] at hi
  by_cases h : i < told.length
  · have := hT i h
    simpa [List.getElem?_append_left h] using this
  · have : i = told.length := by omega
    subst this
    simpa using hs
end Go.Proofs.YtlllkjbbldhddaaDoor

set_option linter.unusedSimpArgs false
set_option linter.unusedVariables false
namespace Go.Proofs.YtlllkjbbldhddaaDoor
open Go.RowKit Go.Lib Go.Maps

theorem cntLaw : Keyed Tryd.prog 9 := string_keyed Tryd.underlying9
theorem zeroInt (w : World) : (zeroValue 3).run Tryd.prog w = .ok (.int .i64 0) w := by kernel_rfl
def klB (s : ByteArray) : Lit := .string s.data.toList
theorem keyB {s : ByteArray} (h : s.size ≤ maxLen) : keyOf Tryd.prog 9 (.string s) = some (klB s) := Go.WideMaps.keyOf_string_mk Tryd.underlying9 h
theorem isKeyB (s : ByteArray) : WideAt.IsKeyLit (klB s) := trivial
theorem klB_inj {s t : ByteArray} (h : klB s = klB t) : s = t := by
  have : s.data.toList = t.data.toList := by simpa [klB] using h
  exact ByteArray.ext (by simpa using congrArg List.toArray this)

/-- Block B is a map of n stores whose keys are the texts ks. -/
def CntM (w : World) (B n : Nat) (ks : List ByteArray) : Prop :=
  ∃ D : DataW Unit, w.ownsMap Tryd.prog 9 (plainElem (H := Unit) Tryd.prog 3) B n D ∧ (∀ s, ∃ c : Nat, c ≤ n ∧ D.atKey (klB s) (.lit (.int .i64 0)) = .lit (.int .i64 (c : Int))) ∧ Maps.size D = ks.length ∧ (∀ s, has D (klB s) = ks.any (fun y => decide (y = s)))

theorem CntM.made (w : World) : CntM (w.alloc (.map #[] 0)) w.heap.size 0 [] :=
  ⟨.map [], World.ownsMap_made _ _ _ _, fun s => ⟨0, Nat.le_refl _, rfl⟩, rfl, fun s => rfl⟩
theorem CntM.lt {w : World} {B n : Nat} {ks : List ByteArray} (h : CntM w B n ks) : B < w.heap.size := let ⟨_, h, _⟩ := h; World.ownsMap.lt h
theorem CntM.kept {w w' : World} {B n : Nat} {ks : List ByteArray} {row : Option Nat} (h : CntM w B n ks) (hg : w.grownBy w' row) (hne : some B ≠ row) : CntM w' B n ks := let ⟨D, h, r⟩ := h; ⟨D, World.ownsMap.kept h hg hne, r⟩
theorem CntM.alloc {w : World} {B n : Nat} {ks : List ByteArray} (h : CntM w B n ks) (o : Obj) : CntM (w.alloc o) B n ks := let ⟨D, h, r⟩ := h; ⟨D, World.ownsMap.alloc h o, r⟩
theorem CntM.setCell {w : World} {B n : Nat} {ks : List ByteArray} (h : CntM w B n ks) {a : Addr} (ha : B ≠ a.block) (u : Value) : CntM (w.setCell a u) B n ks := let ⟨D, h, r⟩ := h; ⟨D, World.ownsMap.setCell h ha u, r⟩

/-- One more is counted: what is read, and what is laid. -/
theorem CntM.more {w : World} {B n : Nat} {ks : List ByteArray} (h : CntM w B n ks) (hn : n ≤ 1000) {s : ByteArray} (hs : s.size ≤ maxLen) :
    ∃ (c : Nat) (w' : World), c ≤ n ∧ (Instr.lookup 91 (.map (some B)) (.string s) false).run Tryd.prog w = .ok (.int .i64 (c : Int)) w ∧
      (Instr.mapUpdate 91 (.map (some B)) (.string s) (.int .i64 ((c : Int) + 1))).run Tryd.prog w = .ok () w' ∧ CntM w' B (n + 1) (if ks.any (fun y => decide (y = s)) = true then ks else ks ++ [s]) ∧ w.grownBy w' (some B) := by
  obtain ⟨D, hD, hc, hz, hh⟩ := h
  obtain ⟨c', hr, hat, hw⟩ := hD.lookup_int cntLaw Tryd.underlying91 Tryd.underlying3 (zeroInt w) (keyB hs)
  obtain ⟨c, hcn, hcs⟩ := hc s
  have e : c' = (c : Int) := by
    rw [hat] at hcs
    simpa using hcs
  subst e
  have hwf : (Lit.int .i64 ((c : Int) + 1)).wf = true := by
    have e1 : IntKind.min .i64 = -9223372036854775808 := by decide
    have e2 : IntKind.max .i64 = 9223372036854775807 := by decide
    simp only [Lit.wf, e1, e2, Bool.and_eq_true, decide_eq_true_eq]
    omega
  obtain ⟨w', h1, h2, h3⟩ := World.ownsMap.update hD cntLaw Tryd.underlying91 (by unfold maxLen; omega) (keyB hs) (plainElem_int Tryd.underlying3 hwf)
  refine ⟨c, w', hcn, hr, h1, ⟨_, h2, fun t => ?_, ?_, fun t => ?_⟩, h3⟩
  · by_cases e : t = s
    · subst e
      exact ⟨c + 1, by omega, by rw [atKey_put_same hD.isMap (isKeyB t)]; simp⟩
    · obtain ⟨ct, hct, hat'⟩ := hc t
      exact ⟨ct, by omega, by rw [atKey_put_other (fun e2 => e (klB_inj e2))]; exact hat'⟩
  · rw [size_put (hD.tidy cntLaw), hh s, hz]
    split
    · rfl
    · simp
  · by_cases e : t = s
    · subst e
      rw [has_put_same hD.isMap (isKeyB t)]
      split
      · rename_i h; rw [h]
      · simp
    · rw [has_put_other (fun e2 => e (klB_inj e2)), hh t]
      split
      · rfl
      · simp [Ne.symm e]
theorem CntM.len {w : World} {B n : Nat} {ks : List ByteArray} (h : CntM w B n ks) (ty : TypeId) :
    (Builtin.len_ #[91 ] ty #[.map (some B)]).run Tryd.prog w = .ok (.int .i64 (ks.length : Nat)) w := by
  obtain ⟨D, hD, _, hz, _⟩ := h
  rw [World.ownsMap.len hD Tryd.underlying91 ty, hz]
end Go.Proofs.YtlllkjbbldhddaaDoor
