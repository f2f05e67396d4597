/-
  Pure, KindW, IterW, DecPure, Frame, ExPure.
-/
import Derived.Test.YtjkcbigmebbkkaaDoorChecked
import GoSem.PinnedTables
import GoSem.Claim
import GoSem.ClaimJoined
import GoSem.ClaimMapViews
import Derived.JoinedTies
import Derived.KernelRfl
import Derived.Shelf.Unicode.DecodeSlow
import Derived.Laws.RangeAny
import Derived.Shelf.Strconv.Itoa0
import Derived.Shelf.Unicode.DecodeAny
import Derived.Test.YtjkcbigmebbkkaaDoorProg
import Derived.WalkKit
import Derived.Deep.DeepFit
import Derived.Lib.OthersKept
import Derived.Lib.RuneCountTail
import Derived.Lib.LaidU8
import Derived.MakeChecks
import Derived.ProofKit
import Derived.OpenShut
import Derived.Deep.DeepHandedRow
import Derived.Test.YtjkcbigmebbkkaaDoorRows
set_option linter.unusedSimpArgs false
namespace Go.Proofs.YtjkcbigmebbkkaaDoor

/-- The spans as the program's table lays them: first, last, kind. -/
def spanTab : List (Int × Int × Int) := [(97, 122, 1), (65, 90, 1), (95, 95, 1), (192, 214, 1), (216, 246, 1), (248, 591, 1), (880, 893, 1), (895, 902, 1), (904, 1023, 1), (1024, 1153, 1), (1162, 1327, 1), (19968, 40959, 1), (66560, 66639, 1), (48, 57, 2), (1632, 1641, 2), (65296, 65305, 2), (9, 10, 3), (13, 13, 3), (32, 32, 3), (160, 160, 3), (12288, 12288, 3), (37, 38, 4), (40, 45, 4), (47, 47, 4), (58, 64, 4), (94, 94, 4), (124, 124, 4), (126, 126, 4), (172, 172, 4), (183, 183, 4), (215, 215, 4), (247, 247, 4), (8722, 8722, 4), (8743, 8744, 4), (8801, 8801, 4), (8810, 8811, 4), (8853, 8853, 4), (8320, 8329, 5)]

/-- Does r stand in the span from a to b? -/
def hasB (a b r : Int) : Bool := decide (a ≤ r ∧ r ≤ b)

def spanIn : List (Int × Int × Int) → Int → Int × Int × Int
  | [], _ => (0, 0, 0)
  | p :: l, r => if hasB p.1 p.2.1 r then p else spanIn l r

/-- The span of r; its kind. -/
def spn (r : Int) : Int × Int × Int := spanIn spanTab r
def kd (r : Int) : Int := (spn r).2.2

/-- May r stand in a name behind its first? -/
def onB (r : Int) : Bool := kd r == 1 || kd r == 2 || kd r == 5

theorem spanTab_length : spanTab.length = 38 := rfl

theorem spanIn_drop_hit (r : Int) (k : Nat) (h : k < spanTab.length) (hh : hasB (spanTab.getD k (0, 0, 0)).1 (spanTab.getD k (0, 0, 0)).2.1 r = true) : spanIn (spanTab.drop k) r = spanTab.getD k (0, 0, 0) := by
  rw [List.drop_eq_getElem_cons h]
  have e : spanTab.getD k (0, 0, 0) = spanTab[k] := by simp [h]
  rw [e] at hh ⊢
  simp [spanIn, hh]
theorem spanIn_drop_miss (r : Int) (k : Nat) (h : k < spanTab.length) (hh : hasB (spanTab.getD k (0, 0, 0)).1 (spanTab.getD k (0, 0, 0)).2.1 r = false) : spanIn (spanTab.drop k) r = spanIn (spanTab.drop (k + 1)) r := by
  rw [List.drop_eq_getElem_cons h]
  have e : spanTab.getD k (0, 0, 0) = spanTab[k] := by simp [h]
  rw [e] at hh
  simp [spanIn, hh]
theorem spanIn_end (r : Int) : spanIn (spanTab.drop 38) r = (0, 0, 0) := rfl

/-! ### The steps of a range over a text -/
theorem width_pos (s : ByteArray) (pos : Nat) (h : pos < s.size) : 1 ≤ (Utf8.decode s pos).2 := by
  by_cases ha : (s[pos]'h).toNat < 128
  · rw [decode_ascii s pos h ha]
    exact Nat.le_refl _
  · exact (decode_high s pos h (by omega)).2

/-! ### Names -/
/-- One step: r is the next rune, n were ahead, 'rest' is what the rest says. -/
def nmS (r : Int) (n : Nat) (rest : Bool) : Bool := if (n == 0 && kd r != 1) || !onB r then false else rest
def nmF (s : ByteArray) : Nat → Nat → Nat → Bool
  | 0, _, n => decide (1 ≤ n ∧ n ≤ 16)
  | f + 1, pos, n => if pos < s.size then nmS (Utf8.decode s pos).1 n (nmF s f (pos + (Utf8.decode s pos).2) (n + 1)) else decide (1 ≤ n ∧ n ≤ 16)
def nameB (s : ByteArray) : Bool := nmF s s.size 0 0
theorem nmF_step (s : ByteArray) (f pos n : Nat) (h : pos < s.size) : nmF s (f + 1) pos n = nmS (Utf8.decode s pos).1 n (nmF s f (pos + (Utf8.decode s pos).2) (n + 1)) := by
  simp [nmF, h]
theorem nmF_end (s : ByteArray) (f pos n : Nat) (h : ¬ pos < s.size) : nmF s f pos n = decide (1 ≤ n ∧ n ≤ 16) := by
  cases f <;> simp [nmF, h]
theorem nmF_long (s : ByteArray) : ∀ (f pos n : Nat), 17 ≤ n → nmF s f pos n = false
  | 0, _, n, h => by simp [nmF]; omega
  | f + 1, pos, n, h => by
    by_cases hp : pos < s.size
    · rw [nmF_step s f pos n hp, nmF_long s f _ (n + 1) (by omega)]
      simp [nmS]
    · rw [nmF_end s _ pos n hp]; simp; omega
end Go.Proofs.YtjkcbigmebbkkaaDoor

namespace Go.Proofs.YtjkcbigmebbkkaaDoor

end Go.Proofs.YtjkcbigmebbkkaaDoor

set_option linter.unusedSimpArgs false
namespace Go.Proofs.YtjkcbigmebbkkaaDoor
open Go.RowKit

theorem ret_bool {a b : Bool} (h : a = b) : Ending.returned (.bool a) = .returned (.bool b) := by rw [h]
/-- The table of spans lies in memory. -/
def SpanCells (w : World) : Prop := ∀ k, k < 38 → w.cell? ⟨0, k * 3, none⟩ = some (.int .i32 (spanTab.getD k (0, 0, 0)).1) ∧ w.cell? ⟨0, k * 3 + 1, none⟩ = some (.int .i32 (spanTab.getD k (0, 0, 0)).2.1) ∧ w.cell? ⟨0, k * 3 + 2, none⟩ = some (.int .i64 (spanTab.getD k (0, 0, 0)).2.2)

set_option maxHeartbeats 400000 in
theorem has_any (a b c r : Int) (w : World) :
    Calls Tryd.prog 124 #[.agg #[.int .i32 a, .int .i32 b, .int .i64 c], .int .i32 r] w fun e w' => e = .returned (.bool (hasB a b r)) ∧ Below w.heap.size w w' := by
  by_cases h1 : a ≤ r
  · by_cases h2 : r ≤ b
    · have hb : hasB a b r = true := by simp [hasB, h1, h2]
      rw [hb]; clear hb
      go_enter Tryd.func124, Tryd.ntmps124
      go_wp2
      go_ret
      exact ⟨by simp [h1, h2], (Below.refl _ _).alloc (Nat.le_refl _) _⟩
    · have hb : hasB a b r = false := by simp [hasB, h1, h2]
      rw [hb]; clear hb
      go_enter Tryd.func124, Tryd.ntmps124
      go_wp2
      go_ret
      exact ⟨by simp [h1, h2], (Below.refl _ _).alloc (Nat.le_refl _) _⟩
  · have hb : hasB a b r = false := by simp [hasB, h1]
    rw [hb]; clear hb
    go_enter Tryd.func124, Tryd.ntmps124
    go_wp2
    go_ret
    exact ⟨by simp, (Below.refl _ _).alloc (Nat.le_refl _) _⟩

theorem SpanCells.below {w w' : World} (h : SpanCells w) (hb : Below w.heap.size w w') : SpanCells w' := by
  intro k hk
  obtain ⟨h0, h1, h2⟩ := h k hk
  have hl : 0 < w.heap.size := World.block_lt_of_cell? w _ h0
  exact ⟨(hb.cell (p := ⟨0, k * 3, none⟩) hl).trans h0, (hb.cell (p := ⟨0, k * 3 + 1, none⟩) hl).trans h1, (hb.cell (p := ⟨0, k * 3 + 2, none⟩) hl).trans h2⟩
theorem SpanCells.pos {w : World} (h : SpanCells w) : 0 < w.heap.size := World.block_lt_of_cell? w _ (h 0 (by omega)).1

set_option maxHeartbeats 400000 in
theorem spanOf_any (r : Int) (w : World) (hT : SpanCells w) :
    Calls Tryd.prog 107 #[.int .i32 r] w fun e w' => e = .returned (.agg #[.int .i32 (spn r).1, .int .i32 (spn r).2.1, .int .i64 (spn r).2.2]) ∧ Below w.heap.size w w' := by
  have hpos := hT.pos
  have HT : Hid (SpanCells w) := hT
  clear hT
  go_enter Tryd.func107, Tryd.ntmps107
  go_wp2
  go_loopw [4] (fun i w' => ∃ k : Nat, k ≤ 38 ∧ i = .int .i64 k ∧ spanIn (spanTab.drop k) r = spn r ∧ Below (w.heap.size + 1) (w.alloc (.cells #[.int .i32 0, .int .i32 0, .int .i64 0] 159)) w') (fun i _ => 38 - (intOf i).toNat)
  case atStart => exact ⟨0, by omega, rfl, rfl, Below.refl _ _⟩
  case round =>
    obtain ⟨k, hk, rfl, hs, hb⟩ := hrel
    have HS : Hid (spanIn (spanTab.drop k) r = spn r) := hs
    clear hs
    by_cases hlt : k < 38
    · have hb0 : Below w.heap.size w wr := ((Below.refl _ _).alloc (Nat.le_refl _) _).trans (hb.mono (by simp))
      obtain ⟨c0, c1, c2⟩ := (SpanCells.below HT.out hb0) k hlt
      generalize hp : spanTab.getD k (0, 0, 0) = p at c0 c1 c2
      obtain ⟨a, b, c⟩ := p
      simp only at c0 c1 c2
      have HP : Hid (spanTab.getD k (0, 0, 0) = (a, b, c)) := hp
      clear hp
      have hz : w.heap.size + 1 ≤ wr.heap.size := by have := hb.size; simpa using this
      have hl : w.heap.size ≠ 0 := by omega
      cases hh : hasB a b r
      · go_wp2_with (go_at_call 124; refine (has_any a b c r _).mono ?_; rintro e w' ⟨rfl, hb1⟩)
        go_roundw
        case rel => exact ⟨k + 1, by omega, by go_num, by rw [← HS.out, spanIn_drop_miss r k (by rw [spanTab_length]; exact hlt) (by rw [HP.out]; exact hh)], hb.trans (hb1.mono hz)⟩
        case measure => simp [intOf]; omega
      · go_wp2_with fail
        refine (has_any a b c r _).mono ?_
        rintro e w' ⟨rfl, hb1⟩
        have hb2 : Below (w.heap.size + 1) (w.alloc (.cells #[.int .i32 0, .int .i32 0, .int .i64 0] 159)) w' := hb.trans (hb1.mono hz)
        obtain ⟨d0, d1, d2⟩ := (SpanCells.below HT.out (hb0.trans (hb1.mono (by omega)))) k hlt
        rw [HP.out] at d0 d1 d2
        have e0 : w'.cell? ⟨w.heap.size, 0, none⟩ = some (.int .i32 0) := by rw [hb2.cell (p := ⟨w.heap.size, 0, none⟩) (Nat.lt_succ_self _)]; simp
        have e1 : w'.cell? ⟨w.heap.size, 1, none⟩ = some (.int .i32 0) := by rw [hb2.cell (p := ⟨w.heap.size, 1, none⟩) (Nat.lt_succ_self _)]; simp
        have e2 : w'.cell? ⟨w.heap.size, 2, none⟩ = some (.int .i64 0) := by rw [hb2.cell (p := ⟨w.heap.size, 2, none⟩) (Nat.lt_succ_self _)]; simp
        have f0 : ∀ o, w'.frozen? ⟨w.heap.size, o, none⟩ = false := by intro o; rw [hb2.frozen (p := ⟨w.heap.size, o, none⟩) (Nat.lt_succ_self _)]; simp
        go_wp2
        have hv : spn r = (a, b, c) := by rw [← HS.out, spanIn_drop_hit r k (by rw [spanTab_length]; exact hlt) (by rw [HP.out]; exact hh), HP.out]
        rw [hv]
        exact bodyPost_ret (v := .agg #[.int .i32 a, .int .i32 b, .int .i64 c]) (by simp [results, Tryd.results107, go_sem, e0, e1, e2]) rfl ⟨rfl, ((((Below.refl _ _).alloc (Nat.le_refl _) _).trans (hb2.mono (by simp))).setCell (by simp) _ |>.setCell (by simp) _).setCell (by simp) _⟩
    · obtain rfl : k = 38 := by omega
      have e0 : wr.cell? ⟨w.heap.size, 0, none⟩ = some (.int .i32 0) := by rw [hb.cell (p := ⟨w.heap.size, 0, none⟩) (Nat.lt_succ_self _)]; simp
      have e1 : wr.cell? ⟨w.heap.size, 1, none⟩ = some (.int .i32 0) := by rw [hb.cell (p := ⟨w.heap.size, 1, none⟩) (Nat.lt_succ_self _)]; simp
      have e2 : wr.cell? ⟨w.heap.size, 2, none⟩ = some (.int .i64 0) := by rw [hb.cell (p := ⟨w.heap.size, 2, none⟩) (Nat.lt_succ_self _)]; simp
      have f0 : ∀ o, wr.frozen? ⟨w.heap.size, o, none⟩ = false := by intro o; rw [hb.frozen (p := ⟨w.heap.size, o, none⟩) (Nat.lt_succ_self _)]; simp
      go_wp2
      have hv : spn r = (0, 0, 0) := by rw [← HS.out, spanIn_end r]
      rw [hv]
      exact bodyPost_ret (v := .agg #[.int .i32 0, .int .i32 0, .int .i64 0]) (by simp [results, Tryd.results107, go_sem, e0, e1, e2]) rfl ⟨rfl, ((((Below.refl _ _).alloc (Nat.le_refl _) _).trans (hb.mono (by simp))).setCell (by simp) _ |>.setCell (by simp) _).setCell (by simp) _⟩

theorem field_kind (a b c : Int) (w : World) : (Instr.field 159 (.agg #[.int .i32 a, .int .i32 b, .int .i64 c]) 2).run Tryd.prog w = .ok (.int .i64 c) w := by kernel_rfl
set_option maxHeartbeats 400000 in
theorem kind_any (r : Int) (w : World) (hT : SpanCells w) :
    Calls Tryd.prog 80 #[.int .i32 r] w fun e w' => e = .returned (.int .i64 (kd r)) ∧ Below w.heap.size w w' := by
  have hfd := field_kind (spn r).1 (spn r).2.1 (spn r).2.2
  go_enter Tryd.func80, Tryd.ntmps80
  go_wp2_with (go_at_call 107; refine (spanOf_any _ _ hT).mono ?_; rintro e w' ⟨rfl, hb1⟩)
  go_ret
  exact ⟨rfl, hb1⟩
/-- A rune that may stand in a name behind its first. -/
theorem goesOn_any (r : Int) (w : World) (hT : SpanCells w) :
    Calls Tryd.prog 81 #[.int .i32 r] w fun e w' => e = .returned (.bool (onB r)) ∧ Below w.heap.size w w' := by
  cases h1 : (kd r == 1)
  · cases h2 : (kd r == 2)
    · go_enter Tryd.func81, Tryd.ntmps81
      go_wp2_with (go_at_call 80; refine (kind_any _ _ hT).mono ?_; rintro e w' ⟨rfl, hb1⟩)
      go_ret
      exact ⟨ret_bool (by simp [onB, h1, h2]), hb1⟩
    · go_enter Tryd.func81, Tryd.ntmps81
      go_wp2_with (go_at_call 80; refine (kind_any _ _ hT).mono ?_; rintro e w' ⟨rfl, hb1⟩)
      go_ret
      exact ⟨ret_bool (by simp [onB, h1, h2]), hb1⟩
  · go_enter Tryd.func81, Tryd.ntmps81
    go_wp2_with (go_at_call 80; refine (kind_any _ _ hT).mono ?_; rintro e w' ⟨rfl, hb1⟩)
    go_ret
    exact ⟨ret_bool (by simp [onB, h1]), hb1⟩
end Go.Proofs.YtjkcbigmebbkkaaDoor

set_option linter.unusedSimpArgs false
namespace Go.Proofs.YtjkcbigmebbkkaaDoor
open Go.RowKit Go.Lib

/-- The tables that the program reads lie in memory. -/
structure Tabs (w : World) : Prop where
  spans : SpanCells w
  utf : Lib.Utf8Tabs 1 2 w

theorem Tabs.below {w w' : World} (h : Tabs w) (hb : Below w.heap.size w w') : Tabs w' := by
  refine ⟨h.spans.below hb, fun c hc => ?_, fun i hi => ?_⟩
  · have h0 := h.utf.1 c hc
    exact (hb.cell (World.block_lt_of_cell? w _ h0)).trans h0
  · have h0 := h.utf.2 i hi
    exact ⟨(hb.cell (World.block_lt_of_cell? w _ h0.1)).trans h0.1, (hb.cell (World.block_lt_of_cell? w _ h0.2)).trans h0.2⟩

/-- The iterator over s, laid when the world was w, stands at pos; nothing of w has turned. -/
structure It (w : World) (s : ByteArray) (pos : Nat) (wr : World) : Prop where
  at_ : wr.heap[w.heap.size]? = some (.stringIter s pos)
  below : Below w.heap.size w wr

theorem It.start (w : World) (s : ByteArray) : It w s 0 (w.iter s 0) := ⟨World.iter_heap w s 0, (Below.refl _ _).alloc (Nat.le_refl _) _⟩
theorem It.lt {w : World} {s : ByteArray} {pos : Nat} {wr : World} (h : It w s pos wr) : w.heap.size < wr.heap.size := (Array.getElem?_eq_some_iff.1 h.at_).1
theorem It.next {w : World} {s : ByteArray} {pos : Nat} {wr : World} (h : It w s pos wr) (pos' : Nat) : It w s pos' (wr.iterAt w.heap.size s pos') :=
  ⟨iterAt_heap wr _ s pos pos' h.at_, below_iterAt h.below (Nat.le_refl _) s pos'⟩
theorem It.call {w : World} {s : ByteArray} {pos : Nat} {wr w2 : World} (h : It w s pos wr) (hb : Below wr.heap.size wr w2) : It w s pos w2 :=
  ⟨(hb.block _ h.lt).trans h.at_, h.below.trans (hb.mono (Nat.le_of_lt h.lt))⟩
theorem It.pos {w : World} {s : ByteArray} {pos : Nat} {wr : World} (h : It w s pos wr) : wr.iterPos w.heap.size = pos := by
  simp [World.iterPos, h.at_]
theorem It.tabs {w : World} {s : ByteArray} {pos : Nat} {wr : World} (h : It w s pos wr) (hT : Tabs w) : Tabs wr := hT.below h.below

/-! ### Name -/
set_option maxHeartbeats 1000000 in
theorem name_spans (s : ByteArray) (w : World) (hT : SpanCells w) :
    Calls Tryd.prog 52 #[.string s] w fun e w' => e = .returned (.bool (nameB s)) ∧ Below w.heap.size w w' := by
  go_enter Tryd.func52, Tryd.ntmps52
  go_wp2
  go_loopw [3] (fun c w' => ∃ (pos f n : Nat), It w s pos w' ∧ c = .int .i64 n ∧ n ≤ 16 ∧ (pos = 0 ↔ n = 0) ∧ Hid (nmF s f pos n = nameB s) ∧ s.size ≤ pos + f) (fun _ w' => s.size - w'.iterPos w.heap.size)
  case atStart => exact ⟨0, s.size, 0, It.start w s, rfl, by omega, by simp, rfl, by omega⟩
  case round =>
    obtain ⟨pos, f, n, hI, rfl, hn, h0, HN, hf⟩ := hrel
    have hm := hI.pos
    by_cases hp : pos < s.size
    · have hnx : ∀ ty, (Instr.next (.pointer (some ⟨w.heap.size, 0, none⟩)) true ty).run Tryd.prog wr = _ := fun ty => run_next_any_at wr w.heap.size s pos ty hI.at_ hp
      obtain ⟨f, rfl⟩ : ∃ g, f = g + 1 := ⟨f - 1, by omega⟩
      have hw := width_pos s pos hp
      have HX := nmF_step s f pos n hp
      generalize (Utf8.decode s pos).2 = v at *
      generalize ((Utf8.decode s pos).1 : Int) = r at *
      have hI1 := hI.next (pos + v)
      have hT1 := hT.below hI1.below
      have HY : Hid (nmF s (f + 1) pos n = nmS r n (nmF s f (pos + v) (n + 1))) := HX
      clear HX
      go_wp2_with (first | (go_at_call 80; refine (kind_any _ _ hT1).mono ?_; rintro e w2 ⟨rfl, hb2⟩; have hT2 := hT1.below hb2) | (go_at_call 81; refine (goesOn_any _ _ (by first | exact hT2 | exact hT1)).mono ?_; rintro e w3 ⟨rfl, hb3⟩))
      · have hI3 := (hI1.call hb2).call hb3
        have hn0 : n = 0 := by assumption
        subst hn0
        have hk : kd r = 1 := by assumption
        refine ⟨⟨pos + v, f, 1, hI3, rfl, by omega, by omega, ?_, by omega⟩, ?_⟩
        · show nmF s f (pos + v) 1 = nameB s
          rw [← HN.out, HY.out]; simp [nmS, *]
        · rw [hI3.pos, hm]; omega
      · go_ret
        have hn0 : n = 0 := by assumption
        subst hn0
        have hk : kd r = 1 := by assumption
        exact ⟨ret_bool (by rw [← HN.out, HY.out]; simp [nmS, *]), ((hI1.call hb2).call hb3).below⟩
      · go_ret
        have hn0 : n = 0 := by assumption
        subst hn0
        exact ⟨ret_bool (by rw [← HN.out, HY.out]; simp [nmS, *]), (hI1.call hb2).below⟩
      · go_ret
        have hn16 : n = 16 := by have : ((n : Int) == 16) = true := by assumption
                                 simp at this; omega
        subst hn16
        exact ⟨ret_bool (by rw [← HN.out, HY.out, nmF_long s f _ 17 (by omega)]; simp [nmS]), (hI1.call hb3).below⟩
      · have hI3 := hI1.call hb3
        have hn16 : ¬ n = 16 := by have : ((n : Int) == 16) = false := by assumption
                                   simp at this; omega
        have hn0 : ¬ n = 0 := by assumption
        refine ⟨⟨pos + v, f, n + 1, hI3, by go_num, by omega, by omega, ?_, by omega⟩, ?_⟩
        · show nmF s f (pos + v) (n + 1) = nameB s
          rw [← HN.out, HY.out]; simp [nmS, *]
        · rw [hI3.pos, hm]; omega
      · go_ret
        exact ⟨ret_bool (by rw [← HN.out, HY.out]; simp [nmS, *]), (hI1.call hb3).below⟩
    · have hnx : ∀ ty, (Instr.next (.pointer (some ⟨w.heap.size, 0, none⟩)) true ty).run Tryd.prog wr = _ := fun ty => run_next_end_at wr w.heap.size s pos ty hI.at_ hp
      go_wp2
      go_ret
      exact ⟨ret_bool (by rw [← HN.out, nmF_end s f pos n hp]; apply decide_eq_decide.2; omega), hI.below⟩

end Go.Proofs.YtjkcbigmebbkkaaDoor

set_option linter.unusedSimpArgs false
set_option linter.unusedVariables false
namespace Go.Proofs.YtjkcbigmebbkkaaDoor
open Go.Lib

/-! ### The order of two texts -/
end Go.Proofs.YtjkcbigmebbkkaaDoor

namespace Go.Proofs.YtjkcbigmebbkkaaDoor
open Go.Lib

/-- A byte that belongs to no character. -/
def bad (s : ByteArray) (pos : Nat) : Bool := (Utf8.decode s pos).1 == 65533 && (Utf8.decode s pos).2 == 1
end Go.Proofs.YtjkcbigmebbkkaaDoor

namespace Go.Proofs.YtjkcbigmebbkkaaDoor
open Go.Lib

/-! ### Check -/
/-! ### Span -/
/-! ### Number -/
/-! ### Column -/
end Go.Proofs.YtjkcbigmebbkkaaDoor

set_option linter.unusedSimpArgs false
namespace Go.Proofs.YtjkcbigmebbkkaaDoor
open Go.RowKit Go.Lib

theorem c_first : Tryd.prog.cellsOf 21 = 1 := by kernel_rfl
theorem c_kind : Tryd.prog.cellsOf 3 = 1 := by kernel_rfl
theorem c_span : Tryd.prog.cellsOf 159 = 3 := by kernel_rfl
theorem gSpans : Tryd.prog.globalNamed "sorrel/runes.spans" = some 0 := by kernel_rfl
theorem gSpansType : (Tryd.prog.globals[ 0 ]?).map (·.type) = some 178 := by kernel_rfl

def spansData : DataW Unit := .agg (spanTab.map fun p => .agg [.lit (.int .i32 p.1), .lit (.int .i32 p.2.1), .lit (.int .i64 p.2.2)])
theorem spansData_eq : Rows.laid_sorrel_runes_spans = spansData := rfl

theorem spans_of_reads {w : World} (h : VarReads Tryd.prog w "sorrel/runes.spans" spansData) : SpanCells w := by
  intro k hk
  obtain ⟨g, t, cs, fuel, p, hg, hty, hvar, hd⟩ := h
  obtain rfl := Option.some.inj (gSpans.symm.trans hg)
  obtain rfl := Option.some.inj (gSpansType.symm.trans hty)
  obtain ⟨fuel', d, q, hdi, he⟩ := array_elem Tryd.underlying178 hd k hk
  have hkl : k < spanTab.length := by rw [spanTab_length]; exact hk
  have e : spanTab.getD k (0, 0, 0) = spanTab[k] := by simp [hkl]
  rw [List.getElem?_map, List.getElem?_eq_getElem hkl, Option.map_some, Option.some.injEq] at hdi
  rw [← e] at hdi
  generalize spanTab.getD k (0, 0, 0) = P at *
  obtain ⟨a, b, c⟩ := P
  simp only at hdi ⊢
  subst hdi
  rw [c_span] at he
  obtain ⟨xs, n, _, hx, hl, hxl, hall⟩ := DataW.trod_struct Tryd.underlying159 he
  have hxs : xs.map (·.1) = [.lit (.int .i32 a), .lit (.int .i32 b), .lit (.int .i64 c)] := by
    have := congrArg Prod.fst hx
    simpa using this.symm
  have g0 : DataW.trod (fun _ => ()) Tryd.prog w 0 (fun _ => true) false n 21 ((((cs.toList.drop (k * 3)).take 3).drop 0).take (Tryd.prog.cellsOf 21)) = xs[0]? := hall 0 _ rfl
  have g1 : DataW.trod (fun _ => ()) Tryd.prog w 0 (fun _ => true) false n 21 ((((cs.toList.drop (k * 3)).take 3).drop 1).take (Tryd.prog.cellsOf 21)) = xs[1]? := hall 1 _ rfl
  have g2 : DataW.trod (fun _ => ()) Tryd.prog w 0 (fun _ => true) false n 3 ((((cs.toList.drop (k * 3)).take 3).drop 2).take (Tryd.prog.cellsOf 3)) = xs[2]? := hall 2 _ rfl
  rw [c_first] at g0 g1
  rw [c_kind] at g2
  match xs, hxs with
  | [x0, x1, x2], hxs =>
    simp only [List.map_cons, List.map_nil, List.cons.injEq, and_true] at hxs
    obtain ⟨x0e, x1e, x2e⟩ := hxs
    simp only [List.getElem?_cons_zero, List.getElem?_cons_succ] at g0 g1 g2
    obtain ⟨z0, k0, d0, _⟩ := DataW.trod_int Tryd.underlying21 g0
    obtain ⟨z1, k1, d1, _⟩ := DataW.trod_int Tryd.underlying21 g1
    obtain ⟨z2, k2, d2, _⟩ := DataW.trod_int Tryd.underlying3 g2
    rw [d0] at x0e
    rw [d1] at x1e
    rw [d2] at x2e
    simp only [DataW.lit.injEq, Lit.int.injEq, true_and] at x0e x1e x2e
    subst x0e; subst x1e; subst x2e
    have f0 := congrArg (·[0]?) k0
    have f1 := congrArg (·[0]?) k1
    have f2 := congrArg (·[0]?) k2
    simp only [List.getElem?_take, List.getElem?_drop] at f0 f1 f2
    refine ⟨?_, ?_, ?_⟩
    · rw [World.var?_cell hg hvar (k * 3), ← Array.getElem?_toList]; simpa using f0
    · rw [World.var?_cell hg hvar (k * 3 + 1), ← Array.getElem?_toList]; simpa using f1
    · rw [World.var?_cell hg hvar (k * 3 + 2), ← Array.getElem?_toList]; simpa using f2

end Go.Proofs.YtjkcbigmebbkkaaDoor

namespace Go.Proofs.YtjkcbigmebbkkaaDoor
open Go.ChangeShapes Go.WideShapes Go.ChangeAt Go.RowKit Go.Lib

theorem own : ownKnob Tryd.prog.godebug = none := by kernel_rfl

def spanVals : Array Value := (spanTab.flatMap fun p => [Value.int .i32 p.1, Value.int .i32 p.2.1, Value.int .i64 p.2.2]).toArray
def firstVals : Array Value := (firstTab.map fun z => Value.int .u8 z).toArray
def acceptVals : Array Value := ((List.range 16).flatMap fun i => [Value.int .u8 (accLo i), Value.int .u8 (accHi i)]).toArray

def setVals (h : Array Obj) (g : Nat) (vs : Array Value) : Array Obj := h.modify g fun
  | .cells _ t frozen => .cells vs t frozen
  | o => o
def laidWorldOf (P : Program) (os : Os) : World :=
  { World.holding P os ⟨#[], #[], []⟩ with heap := setVals (setVals (setVals (World.holding P os ⟨#[], #[], []⟩).heap 0 spanVals) 1 firstVals) 2 acceptVals }

/-- THE END OF A CALL THAT ONLY ADDS MEMORY: its bool, and the arguments as they were. -/
theorem post_below {H : Type} {enc : TypeId × Value → H} {P : Program} {f : Func} {s : ChangeSpec} {W W' : World} {args : Array Value} {v : Value} {ds gs : List (DataW H)} {before pa pv : List MemPlace}
    (hW : DataW.Whole enc P f.params.toList s.vars false W args.toList ds gs before)
    (hres : ∀ (b : Nat) (sp : Nat → Bool) (hd : Bool), DataW.TrodAll enc P W' b sp hd f.resultTypes.toList (v.resultList f.resultTypes.size) (s.fn H (ds ++ gs)).results [])
    (hargs : ∀ sp : Nat → Bool, (∀ p ∈ before, sp p.block = true) → DataW.TrodAll enc P W' 0 sp true f.params.toList args.toList (s.fn H (ds ++ gs)).args pa)
    (hvars : ∀ sp : Nat → Bool, (∀ p ∈ before, sp p.block = true) → DataW.TrodVars enc P W' sp s.vars (s.fn H (ds ++ gs)).vars pv)
    (hps : before = pa ++ pv) (hk : W.keptBut W' (· ∈ before)) : s.post enc P f false true false false W args v W' := by
  have hold : ∀ p ∈ before, (fun b => decide (b < W.heap.size)) p.block = true := fun p hp => by simpa using hW.lt p hp
  refine ⟨ds, gs, before, [], pa, pv, hW, hres _ _ _, hargs _ hold, hvars _ hold, World.keptBut_mono (fun p hp => ⟨hp, ?_⟩) hk, fun h => by cases h⟩
  rw [hps, List.mem_append] at hp
  exact Or.inr hp
end Go.Proofs.YtjkcbigmebbkkaaDoor

set_option linter.unusedSimpArgs false
set_option linter.unusedVariables false
namespace Go.Proofs.YtjkcbigmebbkkaaDoor

structure Nd where
  op : Int
  n : Int
  name : ByteArray
  kids : List Int
  deriving DecidableEq

def nd0 : Nd := ⟨0, 0, ⟨#[]⟩, []⟩

def aritI (op : Int) : Int := if op = 1 ∨ op = 2 then 0 else if op = 3 ∨ op = 4 then 1 else if 5 ≤ op ∧ op ≤ 16 then 2 else if op = 17 then 3 else -1

theorem aritI_le (op : Int) : aritI op ≤ 3 := by
  unfold aritI; split <;> (try split) <;> (try split) <;> (try split) <;> omega
theorem aritI_ge (op : Int) : -1 ≤ aritI op := by
  unfold aritI; split <;> (try split) <;> (try split) <;> (try split) <;> omega

/-- May a node have all these together? -/
def fitB (op n : Int) (name : ByteArray) (parts : Int) : Bool :=
  decide (0 ≤ aritI op) && decide (parts = aritI op) && (decide (n = 0) || decide (op = 1)) && (if op = 2 then nameB name else name.toList.isEmpty)

def formB (x : Nd) : Bool := fitB x.op x.n x.name x.kids.length

theorem formB_kids {x : Nd} (h : formB x = true) : x.kids.length ≤ 3 := by
  unfold formB fitB at h
  simp only [Bool.and_eq_true, decide_eq_true_eq] at h
  have := aritI_le x.op
  omega

/-- From a cursor down through the kids, the last first. -/
def chainL (fr : List Nat) : List Int → Nat → Option Nat
  | [], c => some c
  | k :: ks, c => if c = 0 ∨ k ≠ (c : Int) - 1 then none else chainL fr ks (fr.getD (c - 1) 0)

def stp (fr : List Nat) (x : Nd) : Option (List Nat) := if formB x = true then (chainL fr x.kids.reverse fr.length).map (fun a => fr ++ [a]) else none

def begR (fr : List Nat) : List Nd → Option (List Nat)
  | [] => some fr
  | x :: l => (stp fr x).bind fun fr' => begR fr' l

def begL (l : List Nd) : Option (List Nat) :=
  if l.length = 0 ∨ 64 < l.length then none else (begR [] l).bind fun fr => if fr.getD (l.length - 1) 0 = 0 then some fr else none

def sndB (l : List Nd) : Bool := (begL l).isSome

/-- No entry is above its place. -/
def Low (fr : List Nat) : Prop := ∀ j, fr.getD j 0 ≤ j

theorem chainL_le {fr : List Nat} (h : Low fr) : ∀ (ks : List Int) (c a : Nat), chainL fr ks c = some a → a ≤ c := by
  intro ks
  induction ks with
  | nil => intro c a h; simp [chainL] at h; omega
  | cons k ks ih =>
    intro c a hh
    simp only [chainL] at hh
    split at hh
    · cases hh
    · have := ih _ _ hh
      have := h (c - 1)
      omega

theorem stp_some {fr fr' : List Nat} {x : Nd} (h : stp fr x = some fr') : formB x = true ∧ ∃ a, chainL fr x.kids.reverse fr.length = some a ∧ fr' = fr ++ [a] := by
  unfold stp at h
  split at h
  · rename_i hf
    cases hc : chainL fr x.kids.reverse fr.length with
    | none => rw [hc] at h; cases h
    | some a => rw [hc] at h; simp at h; exact ⟨hf, a, rfl, h.symm⟩
  · cases h

theorem getD_snoc (fr : List Nat) (a j : Nat) : (fr ++ [a]).getD j 0 = if j < fr.length then fr.getD j 0 else if j = fr.length then a else 0 := by
  simp only [List.getD_eq_getElem?_getD, List.getElem?_append]
  split
  · rfl
  · split
    · subst_vars; simp
    · rw [List.getElem?_eq_none (by simp; omega)]; rfl

theorem Low.snoc {fr : List Nat} (h : Low fr) {a : Nat} (ha : a ≤ fr.length) : Low (fr ++ [a]) := by
  intro j
  rw [getD_snoc]
  split
  · exact h j
  · split <;> omega

theorem begR_append (fr : List Nat) (l m : List Nd) : begR fr (l ++ m) = (begR fr l).bind fun fr' => begR fr' m := by
  induction l generalizing fr with
  | nil => simp [begR]
  | cons x l ih =>
    simp only [List.cons_append, begR]
    cases stp fr x with
    | none => rfl
    | some fr' => simp [ih]

theorem begR_snoc (fr : List Nat) (l : List Nd) (x : Nd) : begR fr (l ++ [x]) = (begR fr l).bind fun fr' => stp fr' x := by
  rw [begR_append]
  congr
  funext fr'
  simp [begR]

theorem begR_some {l : List Nd} : ∀ {fr fr' : List Nat}, begR fr l = some fr' → Low fr → fr'.length = fr.length + l.length ∧ Low fr' ∧ (∀ j, j < fr.length → fr'.getD j 0 = fr.getD j 0) ∧ ∀ x ∈ l, formB x = true := by
  induction l with
  | nil => intro fr fr' h hl; simp [begR] at h; subst h; simp [hl]
  | cons x l ih =>
    intro fr fr' h hl
    simp only [begR] at h
    cases hs : stp fr x with
    | none => rw [hs] at h; cases h
    | some f2 =>
      rw [hs] at h
      simp only [Option.bind_some] at h
      obtain ⟨hf, a, hc, rfl⟩ := stp_some hs
      obtain ⟨h1, h2, h3, h4⟩ := ih h (hl.snoc (chainL_le hl _ _ _ hc))
      refine ⟨by simp at h1 ⊢; omega, h2, fun j hj => ?_, ?_⟩
      · rw [h3 j (by simp; omega), getD_snoc, if_pos hj]
      · intro y hy
        rcases List.mem_cons.1 hy with rfl | hy
        · exact hf
        · exact h4 y hy

theorem low_nil : Low [] := by intro j; simp

theorem begR_take_none {l : List Nd} {i : Nat} (h : begR [] (l.take i) = none) : begR [] l = none := by
  rw [← List.take_append_drop i l, begR_append, h]; rfl

theorem begL_some {l : List Nd} {fr : List Nat} (h : begL l = some fr) : 0 < l.length ∧ l.length ≤ 64 ∧ begR [] l = some fr ∧ fr.getD (l.length - 1) 0 = 0 := by
  unfold begL at h
  split at h
  · cases h
  · rename_i hl
    cases hr : begR [] l with
    | none => rw [hr] at h; cases h
    | some f =>
      rw [hr] at h
      simp only [Option.bind_some] at h
      split at h
      · cases h; exact ⟨by omega, by omega, rfl, by assumption⟩
      · cases h

theorem begL_mk {l : List Nd} {fr : List Nat} (h0 : 0 < l.length) (h1 : l.length ≤ 64) (hr : begR [] l = some fr) (h2 : fr.getD (l.length - 1) 0 = 0) : begL l = some fr := by
  unfold begL
  rw [if_neg (by omega), hr, Option.bind_some, if_pos h2]

theorem begR_len {l : List Nd} {fr : List Nat} (h : begR [] l = some fr) : fr.length = l.length := by
  have := (begR_some h low_nil).1
  simpa using this
end Go.Proofs.YtjkcbigmebbkkaaDoor
