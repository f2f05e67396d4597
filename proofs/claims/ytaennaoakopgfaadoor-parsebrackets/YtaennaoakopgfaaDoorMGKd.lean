/-
  KindW, IterW, FirstW.
-/
import Derived.Test.YtaennaoakopgfaaDoorProg
import Derived.Test.YtaennaoakopgfaaDoorMPure
import Derived.Test.YtaennaoakopgfaaDoorMShelf
import Derived.WalkKit
import Derived.Deep.DeepFit
import Derived.Lib.OthersKept
import Derived.Test.YtaennaoakopgfaaDoorMDecPure
set_option linter.unusedSimpArgs false
namespace Go.Proofs.YtaennaoakopgfaaDoor
open Go.RowKit

theorem ret_bool {a b : Bool} (h : a = b) : Ending.returned (.bool a) = .returned (.bool b) := by rw [h]
theorem ret_int {k : IntKind} {a b : Int} (h : a = b) : Ending.returned (.int k a) = .returned (.int k b) := by rw [h]

/-- The table of spans lies in memory. -/
def SpanCells (w : World) : Prop := ∀ k, k < 38 → w.cell? ⟨2, k * 3, none⟩ = some (.int .i32 (spanTab.getD k (0, 0, 0)).1) ∧ w.cell? ⟨2, k * 3 + 1, none⟩ = some (.int .i32 (spanTab.getD k (0, 0, 0)).2.1) ∧ w.cell? ⟨2, k * 3 + 2, none⟩ = some (.int .i64 (spanTab.getD k (0, 0, 0)).2.2)

set_option maxHeartbeats 400000 in
theorem has_any (a b c r : Int) (w : World) :
    Calls Tryd.prog 141 #[.agg #[.int .i32 a, .int .i32 b, .int .i64 c], .int .i32 r] w fun e w' => e = .returned (.bool (hasB a b r)) ∧ Below w.heap.size w w' := by
  by_cases h1 : a ≤ r
  · by_cases h2 : r ≤ b
    · have hb : hasB a b r = true := by simp [hasB, h1, h2]
      rw [hb]; clear hb
      go_enter Tryd.func141, Tryd.ntmps141
      go_wp2
      go_ret
      exact ⟨by simp [h1, h2], (Below.refl _ _).alloc (Nat.le_refl _) _⟩
    · have hb : hasB a b r = false := by simp [hasB, h1, h2]
      rw [hb]; clear hb
      go_enter Tryd.func141, Tryd.ntmps141
      go_wp2
      go_ret
      exact ⟨by simp [h1, h2], (Below.refl _ _).alloc (Nat.le_refl _) _⟩
  · have hb : hasB a b r = false := by simp [hasB, h1]
    rw [hb]; clear hb
    go_enter Tryd.func141, Tryd.ntmps141
    go_wp2
    go_ret
    exact ⟨by simp, (Below.refl _ _).alloc (Nat.le_refl _) _⟩

theorem SpanCells.below {w w' : World} (h : SpanCells w) (hb : Below w.heap.size w w') : SpanCells w' := by
  intro k hk
  obtain ⟨h0, h1, h2⟩ := h k hk
  have hl : 2 < w.heap.size := World.block_lt_of_cell? w _ h0
  exact ⟨(hb.cell (p := ⟨2, k * 3, none⟩) hl).trans h0, (hb.cell (p := ⟨2, k * 3 + 1, none⟩) hl).trans h1, (hb.cell (p := ⟨2, k * 3 + 2, none⟩) hl).trans h2⟩
theorem SpanCells.pos {w : World} (h : SpanCells w) : 2 < w.heap.size := World.block_lt_of_cell? w _ (h 0 (by omega)).1

set_option maxHeartbeats 400000 in
theorem spanOf_any (r : Int) (w : World) (hT : SpanCells w) :
    Calls Tryd.prog 130 #[.int .i32 r] w fun e w' => e = .returned (.agg #[.int .i32 (spn r).1, .int .i32 (spn r).2.1, .int .i64 (spn r).2.2]) ∧ Below w.heap.size w w' := by
  have hpos := hT.pos
  have HT : Hid (SpanCells w) := hT
  clear hT
  go_enter Tryd.func130, Tryd.ntmps130
  go_wp2
  go_loopw [4] (fun i w' => ∃ k : Nat, k ≤ 38 ∧ i = .int .i64 k ∧ spanIn (spanTab.drop k) r = spn r ∧ Below (w.heap.size + 1) (w.alloc (.cells #[.int .i32 0, .int .i32 0, .int .i64 0] 168)) w') (fun i _ => 38 - (intOf i).toNat)
  case atStart => exact ⟨0, by omega, rfl, rfl, Below.refl _ _⟩
  case round =>
    obtain ⟨k, hk, rfl, hs, hb⟩ := hrel
    have HS : Hid (spanIn (spanTab.drop k) r = spn r) := hs
    clear hs
    by_cases hlt : k < 38
    · have hb0 : Below w.heap.size w wr := ((Below.refl _ _).alloc (Nat.le_refl _) _).trans (hb.mono (by simp))
      obtain ⟨c0, c1, c2⟩ := (SpanCells.below HT.out hb0) k hlt
      generalize hp : spanTab.getD k (0, 0, 0) = p at c0 c1 c2
      obtain ⟨a, b, c⟩ := p
      simp only at c0 c1 c2
      have HP : Hid (spanTab.getD k (0, 0, 0) = (a, b, c)) := hp
      clear hp
      have hz : w.heap.size + 1 ≤ wr.heap.size := by have := hb.size; simpa using this
      have hl : w.heap.size ≠ 0 := by omega
      cases hh : hasB a b r
      · go_wp2_with (go_at_call 141; refine (has_any a b c r _).mono ?_; rintro e w' ⟨rfl, hb1⟩)
        go_roundw
        case rel => exact ⟨k + 1, by omega, by go_num, by rw [← HS.out, spanIn_drop_miss r k (by rw [spanTab_length]; exact hlt) (by rw [HP.out]; exact hh)], hb.trans (hb1.mono hz)⟩
        case measure => simp [intOf]; omega
      · go_wp2_with fail
        refine (has_any a b c r _).mono ?_
        rintro e w' ⟨rfl, hb1⟩
        have hb2 : Below (w.heap.size + 1) (w.alloc (.cells #[.int .i32 0, .int .i32 0, .int .i64 0] 168)) w' := hb.trans (hb1.mono hz)
        obtain ⟨d0, d1, d2⟩ := (SpanCells.below HT.out (hb0.trans (hb1.mono (by omega)))) k hlt
        rw [HP.out] at d0 d1 d2
        have e0 : w'.cell? ⟨w.heap.size, 0, none⟩ = some (.int .i32 0) := by rw [hb2.cell (p := ⟨w.heap.size, 0, none⟩) (Nat.lt_succ_self _)]; simp
        have e1 : w'.cell? ⟨w.heap.size, 1, none⟩ = some (.int .i32 0) := by rw [hb2.cell (p := ⟨w.heap.size, 1, none⟩) (Nat.lt_succ_self _)]; simp
        have e2 : w'.cell? ⟨w.heap.size, 2, none⟩ = some (.int .i64 0) := by rw [hb2.cell (p := ⟨w.heap.size, 2, none⟩) (Nat.lt_succ_self _)]; simp
        have f0 : ∀ o, w'.frozen? ⟨w.heap.size, o, none⟩ = false := by intro o; rw [hb2.frozen (p := ⟨w.heap.size, o, none⟩) (Nat.lt_succ_self _)]; simp
        go_wp2
        have hv : spn r = (a, b, c) := by rw [← HS.out, spanIn_drop_hit r k (by rw [spanTab_length]; exact hlt) (by rw [HP.out]; exact hh), HP.out]
        rw [hv]
        exact bodyPost_ret (v := .agg #[.int .i32 a, .int .i32 b, .int .i64 c]) (by simp [results, Tryd.results130, go_sem, e0, e1, e2]) rfl ⟨rfl, ((((Below.refl _ _).alloc (Nat.le_refl _) _).trans (hb2.mono (by simp))).setCell (by simp) _ |>.setCell (by simp) _).setCell (by simp) _⟩
    · obtain rfl : k = 38 := by omega
      have e0 : wr.cell? ⟨w.heap.size, 0, none⟩ = some (.int .i32 0) := by rw [hb.cell (p := ⟨w.heap.size, 0, none⟩) (Nat.lt_succ_self _)]; simp
      have e1 : wr.cell? ⟨w.heap.size, 1, none⟩ = some (.int .i32 0) := by rw [hb.cell (p := ⟨w.heap.size, 1, none⟩) (Nat.lt_succ_self _)]; simp
      have e2 : wr.cell? ⟨w.heap.size, 2, none⟩ = some (.int .i64 0) := by rw [hb.cell (p := ⟨w.heap.size, 2, none⟩) (Nat.lt_succ_self _)]; simp
      have f0 : ∀ o, wr.frozen? ⟨w.heap.size, o, none⟩ = false := by intro o; rw [hb.frozen (p := ⟨w.heap.size, o, none⟩) (Nat.lt_succ_self _)]; simp
      go_wp2
      have hv : spn r = (0, 0, 0) := by rw [← HS.out, spanIn_end r]
      rw [hv]
      exact bodyPost_ret (v := .agg #[.int .i32 0, .int .i32 0, .int .i64 0]) (by simp [results, Tryd.results130, go_sem, e0, e1, e2]) rfl ⟨rfl, ((((Below.refl _ _).alloc (Nat.le_refl _) _).trans (hb.mono (by simp))).setCell (by simp) _ |>.setCell (by simp) _).setCell (by simp) _⟩

theorem field_kind (a b c : Int) (w : World) : (Instr.field 168 (.agg #[.int .i32 a, .int .i32 b, .int .i64 c]) 2).run Tryd.prog w = .ok (.int .i64 c) w := by kernel_rfl
theorem field_first (a b c : Int) (w : World) : (Instr.field 168 (.agg #[.int .i32 a, .int .i32 b, .int .i64 c]) 0).run Tryd.prog w = .ok (.int .i32 a) w := by kernel_rfl

set_option maxHeartbeats 400000 in
theorem kind_any (r : Int) (w : World) (hT : SpanCells w) :
    Calls Tryd.prog 113 #[.int .i32 r] w fun e w' => e = .returned (.int .i64 (kd r)) ∧ Below w.heap.size w w' := by
  have hfd := field_kind (spn r).1 (spn r).2.1 (spn r).2.2
  go_enter Tryd.func113, Tryd.ntmps113
  go_wp2_with (go_at_call 130; refine (spanOf_any _ _ hT).mono ?_; rintro e w' ⟨rfl, hb1⟩)
  go_ret
  exact ⟨rfl, hb1⟩
/-- A rune that may stand in a name behind its first. -/
theorem goesOn_any (r : Int) (w : World) (hT : SpanCells w) :
    Calls Tryd.prog 114 #[.int .i32 r] w fun e w' => e = .returned (.bool (onB r)) ∧ Below w.heap.size w w' := by
  cases h1 : (kd r == 1)
  · cases h2 : (kd r == 2)
    · go_enter Tryd.func114, Tryd.ntmps114
      go_wp2_with (go_at_call 113; refine (kind_any _ _ hT).mono ?_; rintro e w' ⟨rfl, hb1⟩)
      go_ret
      exact ⟨ret_bool (by simp [onB, h1, h2]), hb1⟩
    · go_enter Tryd.func114, Tryd.ntmps114
      go_wp2_with (go_at_call 113; refine (kind_any _ _ hT).mono ?_; rintro e w' ⟨rfl, hb1⟩)
      go_ret
      exact ⟨ret_bool (by simp [onB, h1, h2]), hb1⟩
  · go_enter Tryd.func114, Tryd.ntmps114
    go_wp2_with (go_at_call 113; refine (kind_any _ _ hT).mono ?_; rintro e w' ⟨rfl, hb1⟩)
    go_ret
    exact ⟨ret_bool (by simp [onB, h1]), hb1⟩
end Go.Proofs.YtaennaoakopgfaaDoor

set_option linter.unusedSimpArgs false
namespace Go.Proofs.YtaennaoakopgfaaDoor
open Go.RowKit Go.Lib

/-- The tables that the program reads lie in memory. -/
structure Tabs (w : World) : Prop where
  spans : SpanCells w
  utf : Lib.Utf8Tabs 0 1 w

theorem Tabs.below {w w' : World} (h : Tabs w) (hb : Below w.heap.size w w') : Tabs w' := by
  refine ⟨h.spans.below hb, fun c hc => ?_, fun i hi => ?_⟩
  · have h0 := h.utf.1 c hc
    exact (hb.cell (World.block_lt_of_cell? w _ h0)).trans h0
  · have h0 := h.utf.2 i hi
    exact ⟨(hb.cell (World.block_lt_of_cell? w _ h0.1)).trans h0.1, (hb.cell (World.block_lt_of_cell? w _ h0.2)).trans h0.2⟩

/-- The iterator over s, laid when the world was w, stands at pos; nothing of w has turned. -/
structure It (w : World) (s : ByteArray) (pos : Nat) (wr : World) : Prop where
  at_ : wr.heap[w.heap.size]? = some (.stringIter s pos)
  below : Below w.heap.size w wr

theorem It.start (w : World) (s : ByteArray) : It w s 0 (w.iter s 0) := ⟨World.iter_heap w s 0, (Below.refl _ _).alloc (Nat.le_refl _) _⟩
theorem It.lt {w : World} {s : ByteArray} {pos : Nat} {wr : World} (h : It w s pos wr) : w.heap.size < wr.heap.size := (Array.getElem?_eq_some_iff.1 h.at_).1
theorem It.next {w : World} {s : ByteArray} {pos : Nat} {wr : World} (h : It w s pos wr) (pos' : Nat) : It w s pos' (wr.iterAt w.heap.size s pos') :=
  ⟨iterAt_heap wr _ s pos pos' h.at_, below_iterAt h.below (Nat.le_refl _) s pos'⟩
theorem It.call {w : World} {s : ByteArray} {pos : Nat} {wr w2 : World} (h : It w s pos wr) (hb : Below wr.heap.size wr w2) : It w s pos w2 :=
  ⟨(hb.block _ h.lt).trans h.at_, h.below.trans (hb.mono (Nat.le_of_lt h.lt))⟩
theorem It.pos {w : World} {s : ByteArray} {pos : Nat} {wr : World} (h : It w s pos wr) : wr.iterPos w.heap.size = pos := by
  simp [World.iterPos, h.at_]
theorem It.tabs {w : World} {s : ByteArray} {pos : Nat} {wr : World} (h : It w s pos wr) (hT : Tabs w) : Tabs wr := hT.below h.below

/-! ### Name -/
set_option maxHeartbeats 1000000 in
theorem name_spans (s : ByteArray) (w : World) (hT : SpanCells w) :
    Calls Tryd.prog 86 #[.string s] w fun e w' => e = .returned (.bool (nameB s)) ∧ Below w.heap.size w w' := by
  go_enter Tryd.func86, Tryd.ntmps86
  go_wp2
  go_loopw [3] (fun c w' => ∃ (pos f n : Nat), It w s pos w' ∧ c = .int .i64 n ∧ n ≤ 16 ∧ (pos = 0 ↔ n = 0) ∧ Hid (nmF s f pos n = nameB s) ∧ s.size ≤ pos + f) (fun _ w' => s.size - w'.iterPos w.heap.size)
  case atStart => exact ⟨0, s.size, 0, It.start w s, rfl, by omega, by simp, rfl, by omega⟩
  case round =>
    obtain ⟨pos, f, n, hI, rfl, hn, h0, HN, hf⟩ := hrel
    have hm := hI.pos
    by_cases hp : pos < s.size
    · have hnx : ∀ ty, (Instr.next (.pointer (some ⟨w.heap.size, 0, none⟩)) true ty).run Tryd.prog wr = _ := fun ty => run_next_any_at wr w.heap.size s pos ty hI.at_ hp
      obtain ⟨f, rfl⟩ : ∃ g, f = g + 1 := ⟨f - 1, by omega⟩
      have hw := width_pos s pos hp
      have HX := nmF_step s f pos n hp
      generalize (Utf8.decode s pos).2 = v at *
      generalize ((Utf8.decode s pos).1 : Int) = r at *
      have hI1 := hI.next (pos + v)
      have hT1 := hT.below hI1.below
      have HY : Hid (nmF s (f + 1) pos n = nmS r n (nmF s f (pos + v) (n + 1))) := HX
      clear HX
      go_wp2_with (first | (go_at_call 113; refine (kind_any _ _ hT1).mono ?_; rintro e w2 ⟨rfl, hb2⟩; have hT2 := hT1.below hb2) | (go_at_call 114; refine (goesOn_any _ _ (by first | exact hT2 | exact hT1)).mono ?_; rintro e w3 ⟨rfl, hb3⟩))
      · have hI3 := (hI1.call hb2).call hb3
        have hn0 : n = 0 := by assumption
        subst hn0
        have hk : kd r = 1 := by assumption
        refine ⟨⟨pos + v, f, 1, hI3, rfl, by omega, by omega, ?_, by omega⟩, ?_⟩
        · show nmF s f (pos + v) 1 = nameB s
          rw [← HN.out, HY.out]; simp [nmS, *]
        · rw [hI3.pos, hm]; omega
      · go_ret
        have hn0 : n = 0 := by assumption
        subst hn0
        have hk : kd r = 1 := by assumption
        exact ⟨ret_bool (by rw [← HN.out, HY.out]; simp [nmS, *]), ((hI1.call hb2).call hb3).below⟩
      · go_ret
        have hn0 : n = 0 := by assumption
        subst hn0
        exact ⟨ret_bool (by rw [← HN.out, HY.out]; simp [nmS, *]), (hI1.call hb2).below⟩
      · go_ret
        have hn16 : n = 16 := by have : ((n : Int) == 16) = true := by assumption
                                 simp at this; omega
        subst hn16
        exact ⟨ret_bool (by rw [← HN.out, HY.out, nmF_long s f _ 17 (by omega)]; simp [nmS]), (hI1.call hb3).below⟩
      · have hI3 := hI1.call hb3
        have hn16 : ¬ n = 16 := by have : ((n : Int) == 16) = false := by assumption
                                   simp at this; omega
        have hn0 : ¬ n = 0 := by assumption
        refine ⟨⟨pos + v, f, n + 1, hI3, by go_num, by omega, by omega, ?_, by omega⟩, ?_⟩
        · show nmF s f (pos + v) (n + 1) = nameB s
          rw [← HN.out, HY.out]; simp [nmS, *]
        · rw [hI3.pos, hm]; omega
      · go_ret
        exact ⟨ret_bool (by rw [← HN.out, HY.out]; simp [nmS, *]), (hI1.call hb3).below⟩
    · have hnx : ∀ ty, (Instr.next (.pointer (some ⟨w.heap.size, 0, none⟩)) true ty).run Tryd.prog wr = _ := fun ty => run_next_end_at wr w.heap.size s pos ty hI.at_ hp
      go_wp2
      go_ret
      exact ⟨ret_bool (by rw [← HN.out, nmF_end s f pos n hp]; apply decide_eq_decide.2; omega), hI.below⟩

theorem name_any (s : ByteArray) (w : World) (hT : Tabs w) :
    Calls Tryd.prog 86 #[.string s] w fun e w' => e = .returned (.bool (nameB s)) ∧ Below w.heap.size w w' := name_spans s w hT.spans
end Go.Proofs.YtaennaoakopgfaaDoor

set_option linter.unusedSimpArgs false
namespace Go.Proofs.YtaennaoakopgfaaDoor
open Go.RowKit Go.Lib

theorem first_any (s : ByteArray) (w : World) (hT : Tabs w) :
    Calls Tryd.prog 67 #[.string s] w fun e w' => e = .returned (.int .i32 (decodeGo s).1) ∧ Below w.heap.size w w' := by
  go_enter Tryd.func67, Tryd.ntmps67
  go_wp2_with (go_at_call 102; refine (Tryd.utf8_DecodeRuneInString _ _ hT.utf).mono ?_; rintro e w2 ⟨rfl, hb2⟩)
  go_ret
  exact ⟨rfl, hb2⟩
theorem width_any (s : ByteArray) (w : World) (hT : Tabs w) :
    Calls Tryd.prog 68 #[.string s] w fun e w' => e = .returned (.int .i64 (decodeGo s).2) ∧ Below w.heap.size w w' := by
  go_enter Tryd.func68, Tryd.ntmps68
  go_wp2_with (go_at_call 102; refine (Tryd.utf8_DecodeRuneInString _ _ hT.utf).mono ?_; rintro e w2 ⟨rfl, hb2⟩)
  go_ret
  exact ⟨rfl, hb2⟩
end Go.Proofs.YtaennaoakopgfaaDoor
