/-
  ExPartW, ExSplPure, RefNm, ExRefW, ExRdW.
-/
import Derived.Shelf.Unicode.DecodeSlow
import Derived.Laws.RangeAny
import Derived.Shelf.Small.Bits
import Derived.Shelf.Strconv.Itoa0
import Derived.Shelf.LaysM
import Derived.Shelf.Strconv.Clone
import Derived.Shelf.Unicode.DecodeAny
import Derived.Shelf.Slices.CompactS
import Derived.Ground.SlsfProg
import Derived.Shelf.SlSortCmp.Insertion
import Derived.Shelf.SlSortCmp.SiftDown1
import Derived.Shelf.SlSortCmp.HeapSort1
import Derived.Shelf.SlSortCmp.Insertion1
import Derived.Shelf.SlSortCmp.Median1
import Derived.Shelf.SlSortCmp.Pivot1
import Derived.Shelf.SlSortCmp.ReverseRange1
import Derived.Shelf.SlSortCmp.PartialInsertion1
import Derived.Shelf.SlSortCmp.PartitionEqual1
import Derived.Shelf.SlSortCmp.Partition1
import Derived.Shelf.SlSortCmp.Pdq1
import Derived.Shelf.SlSortCmp.Whole1
import Derived.Test.YtpacjofepiojdaaDoorProg
import Derived.WalkKit
import Derived.Deep.DeepFit
import Derived.Lib.OthersKept
import Derived.Lib.RuneCountTail
import Derived.Deep.AppendLies
import Derived.Deep.OwnRows
import Derived.Laws.AppendOwnNone
import Derived.Deep.QuietTactic
import Derived.BigQuiet
import Derived.Deep.RegionWith
import Derived.Laws.DeepStrings4
import Derived.Test.YtpacjofepiojdaaDoorE01
import Derived.Test.YtpacjofepiojdaaDoorE02
import Derived.Test.YtpacjofepiojdaaDoorE03
import Derived.Test.YtpacjofepiojdaaDoorE04
set_option linter.unusedSimpArgs false
set_option linter.unusedVariables false
namespace Go.Proofs.YtpacjofepiojdaaDoor
open Go.RowKit Go.Lib

set_option maxHeartbeats 400000 in
theorem exOutside_any (ao : Option Addr) (n cap : Nat) (at_ : Int) (w : World) :
    Calls Tryd.prog 43 #[.slice ao n cap, .int .i64 at_] w fun e w' => e = .returned (.bool (decide (at_ < 0) || decide ((n : Int) ≤ at_))) ∧ w' = w := by
  by_cases h1 : at_ < 0
  · go_enter Tryd.func43, Tryd.ntmps43
    go_wp2
    go_ret
    exact ⟨ret_bool (by simp [h1]), rfl⟩
  · go_enter Tryd.func43, Tryd.ntmps43
    go_wp2
    go_ret
    exact ⟨ret_bool (by simp; omega), rfl⟩

/-- Of a sound list: how long, how many kids, which. -/
theorem snd_bounds {l : List Nd} {fr : List Nat} (h : begL l = some fr) : l.length ≤ 64 ∧ ∀ x ∈ l, x.kids.length ≤ 3 := by
  obtain ⟨_, h2, h3, _⟩ := begL_some h
  exact ⟨h2, fun x hx => formB_kids ((begR_some h3 low_nil).2.2.2 x hx)⟩

theorem chainL_kids {fr : List Nat} : ∀ (ks : List Int) (c a : Nat), chainL fr ks c = some a → Low fr → ∀ k ∈ ks, 0 ≤ k ∧ k < c := by
  intro ks
  induction ks with
  | nil => intro c a _ _ k hk; simp at hk
  | cons k0 ks ih =>
    intro c a h hl k hk
    simp only [chainL] at h
    split at h
    · cases h
    · rename_i hn
      have hlo := hl (c - 1)
      rcases List.mem_cons.1 hk with rfl | hk
      · omega
      · have := ih _ _ h hl k hk
        omega

theorem begR_kids {l : List Nd} : ∀ {fr fr' : List Nat}, begR fr l = some fr' → Low fr → ∀ x ∈ l, ∀ k ∈ x.kids, 0 ≤ k ∧ k < (fr.length + l.length : Nat) := by
  induction l with
  | nil => intro fr fr' _ _ x hx; simp at hx
  | cons y l ih =>
    intro fr fr' h hl x hx k hk
    simp only [begR] at h
    cases hs : stp fr y with
    | none => rw [hs] at h; cases h
    | some f2 =>
      rw [hs] at h
      simp only [Option.bind_some] at h
      obtain ⟨hf, a, hc, rfl⟩ := stp_some hs
      rcases List.mem_cons.1 hx with rfl | hx
      · have := chainL_kids _ _ _ hc hl k (by simpa using hk)
        simp; omega
      · have := ih h (hl.snoc (chainL_le hl _ _ _ hc)) x hx k hk
        simp at this ⊢; omega

theorem snd_kids {l : List Nd} {fr : List Nat} (h : begL l = some fr) : ∀ x ∈ l, x.kids.length * 8 ≤ 140737488351232 ∧ ∀ k ∈ x.kids, -9000 ≤ k ∧ k ≤ 9000 := by
  intro x hx
  obtain ⟨h1, h2⟩ := snd_bounds h
  refine ⟨by have := h2 x hx; omega, fun k hk => ?_⟩
  have := begR_kids (begL_some h).2.2.1 low_nil x hx k hk
  simp at this
  omega

theorem OwnN.form {w : World} {base : Nat} {v : Value} {l : List Nd} (h : OwnN w base v l) : ∃ ao n cap, v = .slice ao n cap := by
  obtain ⟨ao, cap, h, _⟩ := Nodes_of_own h (Nat.le_refl _)
  exact ⟨ao, _, cap, h⟩
theorem OwnN.len {w : World} {base : Nat} {ao : Option Addr} {n cap : Nat} {l : List Nd} (h : OwnN w base (.slice ao n cap) l) : n = l.length := by
  obtain ⟨ao', cap', h, _⟩ := Nodes_of_own h (Nat.le_refl _)
  cases h; rfl

def partL (l : List Nd) (a b : Nat) : List Nd := ((l.drop a).take (b + 1 - a)).map (mvN 0 (-(a : Int)))
def putL (l : List Nd) (a b : Nat) (m : List Nd) : List Nd := (l.take a).map (mvN 0 0) ++ m.map (mvN 0 a) ++ (l.drop (b + 1)).map (mvN b ((m.length : Int) - ((b : Int) + 1 - a)))

theorem getD_sub (l : List Nd) (a m i : Nat) (h : i < m) : ((l.drop a).take m).getD i nd0 = l.getD (a + i) nd0 := by
  simp only [List.getD_eq_getElem?_getD, List.getElem?_take, if_pos h, List.getElem?_drop]

/-- A cut of a list that is read. -/
theorem Nodes.cut {w : World} {B b o cap : Nat} {l : List Nd} (hc : ∀ i, i < l.length → ∃ kv, NodeAt w B b (o + i * 4) (l.getD i nd0) kv) (hb : b < B) (a m cap' : Nat) (ham : a + m ≤ l.length) (hm : m ≤ cap') (hcap : cap' ≤ maxLen)
    (ao : Option Addr) (hao : m ≠ 0 → ao = some ⟨b, o + a * 4, none⟩) : Nodes w B (.slice ao m cap') ((l.drop a).take m) := by
  have hl : ((l.drop a).take m).length = m := by simp; omega
  refine ⟨ao, cap', by rw [hl], by omega, hcap, ?_⟩
  by_cases h0 : m = 0
  · left; exact List.length_eq_zero_iff.1 (by omega)
  · right
    refine ⟨b, o + a * 4, hao h0, hb, fun i hi => ?_⟩
    rw [hl] at hi
    obtain ⟨kv, hk⟩ := hc (a + i) (by omega)
    rw [getD_sub l a m i hi]
    have e : o + a * 4 + i * 4 = o + (a + i) * 4 := by omega
    rw [e]; exact ⟨kv, hk⟩

set_option maxHeartbeats 1000000 in
theorem part_none (vs : Value) (l : List Nd) (at_ : Int) (w : World) (B : Nat) (hBw : B ≤ w.heap.size) (hT : SpanCells w) (hN : Nodes w B vs l) (h : begL l = none) :
    Calls Tryd.prog 11 #[vs, .int .i64 at_] w fun e w' => e = .returned (.tuple #[.slice none 0 0, .int .i64 1]) ∧ Below w.heap.size w w' := by
  have HS : Hid (begL l = none) := h
  clear h
  have hnil := eql_nil
  go_enter Tryd.func11, Tryd.ntmps11
  go_wp2_with (go_at_call 40; refine (begins_none vs l _ B hBw hT hN HS.out).mono ?_; rintro e w2 ⟨rfl, hb2⟩)
  go_ret2
  exact ⟨rfl, hb2⟩

set_option maxHeartbeats 1000000 in
theorem part_out (vs : Value) (l : List Nd) (fr : List Nat) (at_ : Int) (w : World) (B : Nat) (hBw : B ≤ w.heap.size) (hT : SpanCells w) (hN : Nodes w B vs l) (h : begL l = some fr) (hat : at_ < 0 ∨ (l.length : Int) ≤ at_) :
    Calls Tryd.prog 11 #[vs, .int .i64 at_] w fun e w' => e = .returned (.tuple #[.slice none 0 0, .int .i64 2]) ∧ Below w.heap.size w w' := by
  have HS : Hid (begL l = some fr) := h
  clear h
  obtain ⟨ao, cap, rfl, hN0⟩ := id hN
  clear hN0
  have hnil := eql_nil
  have co : Hid (∀ W, Calls Tryd.prog 43 #[.slice ao l.length cap, .int .i64 at_] W fun e w' => e = .returned (.bool true) ∧ w' = W) := fun W => by
    have := exOutside_any ao l.length cap at_ W
    have e : (decide (at_ < 0) || decide ((l.length : Int) ≤ at_)) = true := by simpa using hat
    rw [e] at this; exact this
  clear hat
  go_enter Tryd.func11, Tryd.ntmps11
  go_wp2_with (first | (go_at_call 40; refine (begins_some _ l fr _ B hBw hT hN HS.out).mono ?_; rintro e w2 ⟨g, rfl, hg1, hg2, hg3, hb2⟩; have HG3 : Hid (∀ j, j < l.length → w2.cell? ⟨g, j, none⟩ = some (.int .i64 (fr.getD j 0 : Nat))) := hg3; clear hg3) | (go_at_call 43; refine (co.out _).mono ?_; rintro e w3 ⟨rfl, rfl⟩))
  go_ret2
  exact ⟨rfl, hb2⟩

set_option maxHeartbeats 1000000 in
theorem put_none1 (vs vp : Value) (l m : List Nd) (at_ : Int) (w : World) (B : Nat) (hBw : B ≤ w.heap.size) (hT : SpanCells w) (hN : Nodes w B vs l) (h : begL l = none) :
    Calls Tryd.prog 14 #[vs, .int .i64 at_, vp] w fun e w' => e = .returned (.tuple #[.slice none 0 0, .int .i64 1]) ∧ Below w.heap.size w w' := by
  have HS : Hid (begL l = none) := h
  clear h
  have hnil := eql_nil
  go_enter Tryd.func14, Tryd.ntmps14
  go_wp2_with (go_at_call 40; refine (begins_none vs l _ B hBw hT hN HS.out).mono ?_; rintro e w2 ⟨rfl, hb2⟩)
  go_ret2
  exact ⟨rfl, hb2⟩

set_option maxHeartbeats 1000000 in
theorem put_none2 (vs vp : Value) (l m : List Nd) (fr : List Nat) (at_ : Int) (w : World) (B : Nat) (hBw : B ≤ w.heap.size) (hT : SpanCells w) (hN : Nodes w B vs l) (hM : Nodes w B vp m) (h : begL l = some fr) (h2 : begL m = none) :
    Calls Tryd.prog 14 #[vs, .int .i64 at_, vp] w fun e w' => e = .returned (.tuple #[.slice none 0 0, .int .i64 1]) ∧ Below w.heap.size w w' := by
  have HS : Hid (begL l = some fr) := h
  have HS2 : Hid (begL m = none) := h2
  clear h h2
  have hnil := eql_nil
  go_enter Tryd.func14, Tryd.ntmps14
  go_wp2_with (first | (go_at_call 40; refine (begins_some _ l fr _ B hBw hT hN HS.out).mono ?_; rintro e w2 ⟨g, rfl, hg1, hg2, hg3, hb2⟩; have HG3 : Hid (∀ j, j < l.length → w2.cell? ⟨g, j, none⟩ = some (.int .i64 (fr.getD j 0 : Nat))) := hg3; clear hg3) | (go_at_call 8; refine (check_none _ m _ B (by have := hb2.size; omega) (hT.below hb2) (hM.below (hb2.mono hBw) (Nat.le_refl _)) HS2.out).mono ?_; rintro e w3 ⟨rfl, hb3⟩))
  go_ret2
  exact ⟨rfl, hb2.trans (hb3.mono hb2.size)⟩

set_option maxHeartbeats 1000000 in
theorem put_out (vs vp : Value) (l m : List Nd) (fr fm : List Nat) (at_ : Int) (w : World) (B : Nat) (hBw : B ≤ w.heap.size) (hT : SpanCells w) (hN : Nodes w B vs l) (hM : Nodes w B vp m) (h : begL l = some fr) (h2 : begL m = some fm) (hat : at_ < 0 ∨ (l.length : Int) ≤ at_) :
    Calls Tryd.prog 14 #[vs, .int .i64 at_, vp] w fun e w' => e = .returned (.tuple #[.slice none 0 0, .int .i64 2]) ∧ Below w.heap.size w w' := by
  have HS : Hid (begL l = some fr) := h
  have HS2 : Hid (begL m = some fm) := h2
  clear h h2
  obtain ⟨ao, cap, rfl, hN0⟩ := id hN
  clear hN0
  have hnil := eql_nil
  have co : Hid (∀ W, Calls Tryd.prog 43 #[.slice ao l.length cap, .int .i64 at_] W fun e w' => e = .returned (.bool true) ∧ w' = W) := fun W => by
    have := exOutside_any ao l.length cap at_ W
    have e : (decide (at_ < 0) || decide ((l.length : Int) ≤ at_)) = true := by simpa using hat
    rw [e] at this; exact this
  clear hat
  go_enter Tryd.func14, Tryd.ntmps14
  go_wp2_with (first | (go_at_call 40; refine (begins_some _ l fr _ B hBw hT hN HS.out).mono ?_; rintro e w2 ⟨g, rfl, hg1, hg2, hg3, hb2⟩; have HG3 : Hid (∀ j, j < l.length → w2.cell? ⟨g, j, none⟩ = some (.int .i64 (fr.getD j 0 : Nat))) := hg3; clear hg3) | (go_at_call 8; refine (check_some _ m fm _ B (by have := hb2.size; omega) (hT.below hb2) (hM.below (hb2.mono hBw) (Nat.le_refl _)) HS2.out).mono ?_; rintro e w3 ⟨rfl, hb3⟩) | (go_at_call 43; refine (co.out _).mono ?_; rintro e w4 ⟨rfl, rfl⟩))
  go_ret2
  exact ⟨rfl, hb2.trans (hb3.mono hb2.size)⟩

set_option maxHeartbeats 2000000 in
theorem put_large (vs vp : Value) (l m : List Nd) (fr fm : List Nat) (i a : Nat) (w : World) (B : Nat) (hBw : B ≤ w.heap.size) (hT : SpanCells w) (hN : Nodes w B vs l) (hM : Nodes w B vp m) (h : begL l = some fr) (h2 : begL m = some fm) (hi : i < l.length) (ha : fr.getD i 0 = a) (hsz : 64 + (i + 1) < l.length + m.length + a) :
    Calls Tryd.prog 14 #[vs, .int .i64 i, vp] w fun e w' => e = .returned (.tuple #[.slice none 0 0, .int .i64 10]) ∧ Below w.heap.size w w' := by
  have hai : a ≤ i := by rw [← ha]; exact (begR_some (begL_some h).2.2.1 low_nil).2.1 i
  have h64 := (snd_bounds h).1
  have m64 := (snd_bounds h2).1
  have HK := snd_kids h
  have HKM : Hid (∀ x ∈ m, x.kids.length * 8 ≤ 140737488351232 ∧ ∀ k ∈ x.kids, -9000 ≤ k ∧ k ≤ 9000) := snd_kids h2
  have HS : Hid (begL l = some fr) := h
  have HS2 : Hid (begL m = some fm) := h2
  have HA : Hid (fr.getD i 0 = a) := ha
  clear h h2 ha
  obtain ⟨ao, cap, rfl, hl, hm, hc⟩ := id hN
  obtain ⟨am, capm, rfl, hlm, hmm, _⟩ := id hM
  unfold maxLen at hmm
  obtain ⟨b, o, rfl, hbl, hc'⟩ : ∃ b o, ao = some ⟨b, o, none⟩ ∧ b < B ∧ ∀ i, i < l.length → ∃ kv, NodeAt w B b (o + i * 4) (l.getD i nd0) kv := by
    rcases hc with h | h
    · subst h; simp at hi
    · exact h
  clear hc
  have hm' := hm
  unfold maxLen at hm
  have hnil := eql_nil
  have co : Hid (∀ W, Calls Tryd.prog 43 #[.slice (some ⟨b, o, none⟩) l.length cap, .int .i64 i] W fun e w' => e = .returned (.bool false) ∧ w' = W) := fun W => by
    have := exOutside_any (some ⟨b, o, none⟩) l.length cap i W
    have e : (decide ((i : Int) < 0) || decide ((l.length : Int) ≤ i)) = false := by simp; omega
    rw [e] at this; exact this
  have HC1 : Hid (Nodes w B (.slice (some ⟨b, o, none⟩) a cap) (l.take a)) := by
    have := Nodes.cut (cap := cap) hc' hbl 0 a cap (by omega) (by omega) (by omega) (some ⟨b, o, none⟩) (fun _ => by simp)
    rw [List.drop_zero] at this; exact this
  have HC2 : Hid (∀ ao' cap', l.length - (i + 1) ≤ cap' → cap' ≤ maxLen → (l.length - (i + 1) ≠ 0 → ao' = some ⟨b, o + (i + 1) * 4, none⟩) → Nodes w B (.slice ao' (l.length - (i + 1)) cap') (l.drop (i + 1))) := fun ao' cap' h1 h2 hao => by
    have := Nodes.cut (cap := cap) hc' hbl (i + 1) (l.length - (i + 1)) cap' (by omega) h1 h2 ao' hao
    rw [List.take_of_length_le (by simp)] at this; exact this
  clear hc'
  have HK1 : Hid (∀ x ∈ l.take a, x.kids.length * 8 ≤ 140737488351232 ∧ ∀ k ∈ x.kids, -9000 ≤ k ∧ k ≤ 9000) := fun x hx => HK x (List.mem_of_mem_take hx)
  have HK2 : Hid (∀ x ∈ l.drop (i + 1), x.kids.length * 8 ≤ 140737488351232 ∧ ∀ k ∈ x.kids, -9000 ≤ k ∧ k ≤ 9000) := fun x hx => HK x (List.mem_of_mem_drop hx)
  clear HK
  go_enter Tryd.func14, Tryd.ntmps14
  go_wp2_with (first | (go_at_call 40; refine (begins_some _ l fr _ B hBw hT hN HS.out).mono ?_; rintro e w2 ⟨g, rfl, hg1, hg2, hg3, hb2⟩; have hgi := hg3 i hi; rw [HA.out] at hgi; have HG3 : Hid (∀ j, j < l.length → w2.cell? ⟨g, j, none⟩ = some (.int .i64 (fr.getD j 0 : Nat))) := hg3; clear hg3) | (go_at_call 8; refine (check_some _ m fm _ B (by have := hb2.size; omega) (hT.below hb2) (hM.below (hb2.mono hBw) (Nat.le_refl _)) HS2.out).mono ?_; rintro e w3 ⟨rfl, hb3⟩; have hgi3 : w3.cell? ⟨g, i, none⟩ = some (.int .i64 a) := (hb3.cell (p := ⟨g, i, none⟩) hg2).trans hgi) | (go_at_call 43; refine (co.out _).mono ?_; rintro e w4 ⟨rfl, rfl⟩))
  go_ret2
  exact ⟨rfl, hb2.trans (hb3.mono hb2.size)⟩
end Go.Proofs.YtpacjofepiojdaaDoor

set_option linter.unusedSimpArgs false
set_option linter.unusedVariables false
namespace Go.Proofs.YtpacjofepiojdaaDoor

def chainO (os : List (Option Nat)) : List Int → Nat → Option Nat
  | [], c => some c
  | k :: ks, c => if c = 0 ∨ k ≠ (c : Int) - 1 then none else (os.getD (c - 1) none).bind fun b => chainO os ks b

def stsR (os : List (Option Nat)) : List Nd → List (Option Nat)
  | [] => os
  | x :: l => stsR (os ++ [chainO os x.kids.reverse os.length]) l

def sts (l : List Nd) : List (Option Nat) := stsR [] l

/-- No entry is above its place. -/
def LowO (os : List (Option Nat)) : Prop := ∀ j b, os.getD j none = some b → b ≤ j

theorem chainO_le {os : List (Option Nat)} (h : LowO os) : ∀ (ks : List Int) (c a : Nat), chainO os ks c = some a → a ≤ c := by
  intro ks
  induction ks with
  | nil => intro c a h; simp [chainO] at h; omega
  | cons k ks ih =>
    intro c a hh
    simp only [chainO] at hh
    split at hh
    · cases hh
    · cases hb : os.getD (c - 1) none with
      | none => rw [hb] at hh; cases hh
      | some b =>
        rw [hb] at hh
        simp only [Option.bind_some] at hh
        have := ih _ _ hh
        have := h _ _ hb
        omega

theorem getD_snocO (os : List (Option Nat)) (a : Option Nat) (j : Nat) : (os ++ [a]).getD j none = if j < os.length then os.getD j none else if j = os.length then a else none := by
  simp only [List.getD_eq_getElem?_getD, List.getElem?_append]
  split
  · rfl
  · split
    · subst_vars; simp
    · rw [List.getElem?_eq_none (by simp; omega)]; rfl

theorem LowO.snoc {os : List (Option Nat)} (h : LowO os) {a : Option Nat} (ha : ∀ b, a = some b → b ≤ os.length) : LowO (os ++ [a]) := by
  intro j b hj
  rw [getD_snocO] at hj
  split at hj
  · exact h j b hj
  · split at hj
    · have := ha b hj; omega
    · cases hj

/-- Only the entries below the cursor count. -/
theorem chainO_congr {os os' : List (Option Nat)} (h : LowO os) : ∀ (ks : List Int) (c : Nat), (∀ j, j < c → os'.getD j none = os.getD j none) → chainO os' ks c = chainO os ks c := by
  intro ks
  induction ks with
  | nil => intro c _; rfl
  | cons k ks ih =>
    intro c hc
    simp only [chainO]
    split
    · rfl
    · rename_i hn
      rw [hc (c - 1) (by omega)]
      cases hb : os.getD (c - 1) none with
      | none => rfl
      | some b =>
        simp only [Option.bind_some]
        have := h _ _ hb
        exact ih b (fun j hj => hc j (by omega))

theorem stsR_spec (l : List Nd) : ∀ (os : List (Option Nat)), LowO os → (stsR os l).length = os.length + l.length ∧ LowO (stsR os l) ∧ (∀ j, j < os.length → (stsR os l).getD j none = os.getD j none) ∧
    ∀ i, i < l.length → (stsR os l).getD (os.length + i) none = chainO (stsR os l) (l.getD i nd0).kids.reverse (os.length + i) := by
  induction l with
  | nil => intro os h; exact ⟨by simp [stsR], h, fun j hj => rfl, fun i hi => by simp at hi⟩
  | cons x l ih =>
    intro os h
    have hlow := h.snoc (a := chainO os x.kids.reverse os.length) (fun b hb => chainO_le h _ _ _ hb)
    obtain ⟨h1, h2, h3, h4⟩ := ih _ hlow
    simp only [List.length_append, List.length_cons, List.length_nil] at h1 h3 h4
    simp only [stsR]
    refine ⟨by simp; omega, h2, fun j hj => ?_, fun i hi => ?_⟩
    · rw [h3 j (by omega), getD_snocO, if_pos hj]
    · cases i with
      | zero =>
        rw [Nat.add_zero, h3 _ (by omega), getD_snocO, if_neg (by omega), if_pos rfl]
        show _ = chainO _ x.kids.reverse os.length
        refine (chainO_congr h _ _ ?_).symm
        intro j hj
        rw [h3 j (by omega), getD_snocO, if_pos hj]
      | succ i =>
        have := h4 i (by simp at hi; omega)
        have e : os.length + (0 + 1) + i = os.length + (i + 1) := by omega
        rw [e] at this
        rw [this]
        simp

theorem lowO_nil : LowO [] := by intro j b h; simp at h

theorem sts_at (l : List Nd) (i : Nat) (h : i < l.length) : (sts l).getD i none = chainO (sts l) (l.getD i nd0).kids.reverse i := by
  have := (stsR_spec l [] lowO_nil).2.2.2 i h
  simpa [sts] using this
theorem chain_some {fr : List Nat} (hl : Low fr) : ∀ (ks : List Int) (c : Nat), c ≤ fr.length → chainO (fr.map some) ks c = chainL fr ks c := by
  intro ks
  induction ks with
  | nil => intro c _; rfl
  | cons k ks ih =>
    intro c hc
    simp only [chainO, chainL]
    split
    · rfl
    · rename_i hn
      have e : (fr.map some).getD (c - 1) none = some (fr.getD (c - 1) 0) := by
        have : c - 1 < fr.length := by omega
        simp [this]
      rw [e]
      simp only [Option.bind_some]
      exact ih _ (by have := hl (c - 1); omega)

theorem sts_of_beg (l : List Nd) : ∀ (fr fr' : List Nat), Low fr → begR fr l = some fr' → stsR (fr.map some) l = fr'.map some := by
  induction l with
  | nil => intro fr fr' _ h; simp [begR] at h; subst h; rfl
  | cons x l ih =>
    intro fr fr' hl h
    simp only [begR] at h
    cases hs : stp fr x with
    | none => rw [hs] at h; cases h
    | some f2 =>
      rw [hs] at h
      simp only [Option.bind_some] at h
      obtain ⟨hf, a, hc, rfl⟩ := stp_some hs
      have := ih _ _ (hl.snoc (chainL_le hl _ _ _ hc)) h
      simp only [stsR, List.length_map]
      rw [chain_some hl _ _ (Nat.le_refl _), hc]
      simpa using this

end Go.Proofs.YtpacjofepiojdaaDoor

namespace Go.Proofs.YtpacjofepiojdaaDoor

theorem mvK_zero (k : Int) (f : Int) : mvK f 0 k = k := by unfold mvK; split <;> omega
theorem mvN_zero (f : Int) (x : Nd) : mvN f 0 x = x := by
  obtain ⟨a, b, c, d⟩ := x
  have : d.map (mvK f 0) = d := by
    conv => rhs; rw [← List.map_id d]
    exact List.map_congr_left (fun k _ => mvK_zero k f)
  simp [mvN, this]
theorem map_mvN_zero (f : Int) (l : List Nd) : l.map (mvN f 0) = l := by
  conv => rhs; rw [← List.map_id l]
  exact List.map_congr_left (fun x _ => mvN_zero f x)

/-- Where all begin, place by place. -/
structure BegOk (l : List Nd) (fr : List Nat) : Prop where
  len : fr.length = l.length
  low : Low fr
  at_ : ∀ j, j < l.length → formB (l.getD j nd0) = true ∧ chainL fr (l.getD j nd0).kids.reverse j = some (fr.getD j 0)

theorem begOk_of {l : List Nd} {fr : List Nat} (h : begR [] l = some fr) : BegOk l fr := by
  have hlen := begR_len h
  obtain ⟨_, hlow, _, hform⟩ := begR_some h low_nil
  refine ⟨hlen, hlow, fun j hj => ⟨hform _ (by simp [hj]), ?_⟩⟩
  have hs := sts_of_beg l [] fr low_nil h
  have h1 := sts_at l j hj
  have e : sts l = fr.map some := hs
  rw [e, chain_some hlow _ _ (by omega)] at h1
  rw [← h1]
  have : j < fr.length := by omega
  simp [this]

/-- What holds of the cursors of a chain. -/
theorem chain_inv {fr : List Nat} {P : Nat → Prop} (hstep : ∀ c, 0 < c → P c → P (fr.getD (c - 1) 0)) : ∀ (ks : List Int) (c r : Nat), P c → chainL fr ks c = some r → P r ∧ ∀ k ∈ ks, ∃ c', 0 < c' ∧ P c' ∧ k = (c' : Int) - 1 := by
  intro ks
  induction ks with
  | nil => intro c r hP h; simp [chainL] at h; subst h; exact ⟨hP, by simp⟩
  | cons k ks ih =>
    intro c r hP h
    simp only [chainL] at h
    split at h
    · cases h
    · rename_i hn
      obtain ⟨h1, h2⟩ := ih _ r (hstep c (by omega) hP) h
      refine ⟨h1, fun k' hk' => ?_⟩
      rcases List.mem_cons.1 hk' with rfl | hk'
      · exact ⟨c, by omega, hP, by omega⟩
      · exact h2 k' hk'

theorem ok_kids {l : List Nd} {fr : List Nat} (h : BegOk l fr) (j : Nat) (hj : j < l.length) : ∀ k ∈ (l.getD j nd0).kids, 0 ≤ k := by
  intro k hk
  obtain ⟨c, h0, _, rfl⟩ := (chain_inv (fr := fr) (P := fun _ => True) (fun _ _ _ => trivial) _ _ _ trivial (h.at_ j hj).2).2 k (by simpa using hk)
  omega

end Go.Proofs.YtpacjofepiojdaaDoor

set_option linter.unusedSimpArgs false
set_option linter.unusedVariables false
namespace Go.Proofs.YtpacjofepiojdaaDoor
open Go.RowKit Go.Lib

theorem good_of_on (s : ByteArray) (p : Nat) (h : onB (Utf8.decode s p).1 = true) : bad s p = false := by
  cases hb : bad s p
  · rfl
  · rw [bad_eq hb] at h; exact absurd h (by decide)
/-! ### Name -/
end Go.Proofs.YtpacjofepiojdaaDoor

set_option linter.unusedSimpArgs false
set_option linter.unusedVariables false
namespace Go.Proofs.YtpacjofepiojdaaDoor
open Go.RowKit Go.Lib

theorem below_drewN' {B : Nat} {w w' : World} (h : Below B w w') (n : Nat) : Below B w (w'.drewN n) := ⟨h.os, h.tape, h.output, h.size, h.block⟩

end Go.Proofs.YtpacjofepiojdaaDoor

set_option linter.unusedSimpArgs false
set_option linter.unusedVariables false
namespace Go.Proofs.YtpacjofepiojdaaDoor
open Go.RowKit Go.Lib

/-- Within the reach. -/
structure Fit (l : List Nd) : Prop where
  len : l.length * 56 ≤ 140737488355328
  kids : ∀ x ∈ l, x.kids.length * 8 ≤ 140737488355328
  name : ∀ x ∈ l, x.name.size ≤ maxLen

/-- The slice reads as l, anywhere in memory. -/
def Rd (w : World) (ao : Option Addr) (cap : Nat) (l : List Nd) : Prop := Nodes w w.heap.size (.slice ao l.length cap) l
theorem Rd.below {w w' : World} {ao : Option Addr} {cap : Nat} {l : List Nd} (h : Rd w ao cap l) (hb : Below w.heap.size w w') (hs : w.heap.size ≤ w'.heap.size) : Rd w' ao cap l := Nodes.below h hb hs
theorem Rd_of_own {w : World} {base : Nat} {v : Value} {l : List Nd} (h : OwnN w base v l) : ∃ ao cap, v = .slice ao l.length cap ∧ Rd w ao cap l := by
  have hN := Nodes_of_own h (Nat.le_refl _)
  obtain ⟨ao, cap, rfl, _⟩ := id hN
  exact ⟨ao, cap, rfl, hN⟩
theorem Rd.bound {w : World} {ao : Option Addr} {cap : Nat} {l : List Nd} (h : Rd w ao cap l) : l.length ≤ cap ∧ cap ≤ maxLen := by
  obtain ⟨ao', cap', h1, h2, h3, _⟩ := h
  cases h1; exact ⟨h2, h3⟩

theorem sameR {w : World} {ao bo : Option Addr} {cap cb : Nat} {l m : List Nd} (h : Rd w ao cap l) (h2 : Rd w bo cb m) (r : Bool) (hr : decide (l = m) = r) :
    Calls Tryd.prog 13 #[.slice ao l.length cap, .slice bo m.length cb] w fun e w' => e = .returned (.bool r) ∧ Below w.heap.size w w' := by
  rw [← hr]; exact same_any _ _ l m w _ (Nat.le_refl _) h h2
end Go.Proofs.YtpacjofepiojdaaDoor
