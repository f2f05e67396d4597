/-
  KindW, IterW, DecPure, FirstW.
-/
import Derived.Shelf.Unicode.DecodeSlow
import Derived.Laws.RangeAny
import Derived.Shelf.Strings.Builder1
import Derived.Shelf.Small.Utf8
import Derived.Shelf.Small.Bits
import Derived.Shelf.Strings.BuilderF
import Derived.Shelf.Strings.BuilderK
import Derived.Shelf.Strings.BuilderRune
import Derived.Shelf.Utf8.AppendRune
import Derived.Shelf.Strconv.Itoa0
import Derived.Shelf.Strconv.Itoa1
import Derived.Shelf.LaysM
import Derived.Shelf.Strconv.Itoa2
import Derived.Shelf.Strconv.Itoa3
import Derived.Shelf.Strconv.Itoa4
import Derived.Shelf.Strings.Prefix
import Derived.Shelf.Unicode.DecodeAny
import Derived.Test.YtjmccobblpcbhaaDoorProg
import Derived.WalkKit
import Derived.Deep.DeepFit
import Derived.Lib.OthersKept
import Derived.Lib.RuneCountTail
import Derived.Test.YtjmccobblpcbhaaDoorM01
set_option linter.unusedSimpArgs false
namespace Go.Proofs.YtjmccobblpcbhaaDoor
open Go.RowKit

theorem ret_bool {a b : Bool} (h : a = b) : Ending.returned (.bool a) = .returned (.bool b) := by rw [h]
theorem ret_int {k : IntKind} {a b : Int} (h : a = b) : Ending.returned (.int k a) = .returned (.int k b) := by rw [h]

/-- The table of spans lies in memory. -/
def SpanCells (w : World) : Prop := ∀ k, k < 38 → w.cell? ⟨1, k * 3, none⟩ = some (.int .i32 (spanTab.getD k (0, 0, 0)).1) ∧ w.cell? ⟨1, k * 3 + 1, none⟩ = some (.int .i32 (spanTab.getD k (0, 0, 0)).2.1) ∧ w.cell? ⟨1, k * 3 + 2, none⟩ = some (.int .i64 (spanTab.getD k (0, 0, 0)).2.2)

set_option maxHeartbeats 400000 in
theorem has_any (a b c r : Int) (w : World) :
    Calls Tryd.prog 150 #[.agg #[.int .i32 a, .int .i32 b, .int .i64 c], .int .i32 r] w fun e w' => e = .returned (.bool (hasB a b r)) ∧ Below w.heap.size w w' := by
  by_cases h1 : a ≤ r
  · by_cases h2 : r ≤ b
    · have hb : hasB a b r = true := by simp [hasB, h1, h2]
      rw [hb]; clear hb
      go_enter Tryd.func150, Tryd.ntmps150
      go_wp2
      go_ret
      exact ⟨by simp [h1, h2], (Below.refl _ _).alloc (Nat.le_refl _) _⟩
    · have hb : hasB a b r = false := by simp [hasB, h1, h2]
      rw [hb]; clear hb
      go_enter Tryd.func150, Tryd.ntmps150
      go_wp2
      go_ret
      exact ⟨by simp [h1, h2], (Below.refl _ _).alloc (Nat.le_refl _) _⟩
  · have hb : hasB a b r = false := by simp [hasB, h1]
    rw [hb]; clear hb
    go_enter Tryd.func150, Tryd.ntmps150
    go_wp2
    go_ret
    exact ⟨by simp, (Below.refl _ _).alloc (Nat.le_refl _) _⟩

theorem SpanCells.below {w w' : World} (h : SpanCells w) (hb : Below w.heap.size w w') : SpanCells w' := by
  intro k hk
  obtain ⟨h0, h1, h2⟩ := h k hk
  have hl : 1 < w.heap.size := World.block_lt_of_cell? w _ h0
  exact ⟨(hb.cell (p := ⟨1, k * 3, none⟩) hl).trans h0, (hb.cell (p := ⟨1, k * 3 + 1, none⟩) hl).trans h1, (hb.cell (p := ⟨1, k * 3 + 2, none⟩) hl).trans h2⟩
theorem SpanCells.pos {w : World} (h : SpanCells w) : 1 < w.heap.size := World.block_lt_of_cell? w _ (h 0 (by omega)).1

set_option maxHeartbeats 400000 in
theorem spanOf_any (r : Int) (w : World) (hT : SpanCells w) :
    Calls Tryd.prog 134 #[.int .i32 r] w fun e w' => e = .returned (.agg #[.int .i32 (spn r).1, .int .i32 (spn r).2.1, .int .i64 (spn r).2.2]) ∧ Below w.heap.size w w' := by
  have hpos := hT.pos
  have HT : Hid (SpanCells w) := hT
  clear hT
  go_enter Tryd.func134, Tryd.ntmps134
  go_wp2
  go_loopw [4] (fun i w' => ∃ k : Nat, k ≤ 38 ∧ i = .int .i64 k ∧ spanIn (spanTab.drop k) r = spn r ∧ Below (w.heap.size + 1) (w.alloc (.cells #[.int .i32 0, .int .i32 0, .int .i64 0] 179)) w') (fun i _ => 38 - (intOf i).toNat)
  case atStart => exact ⟨0, by omega, rfl, rfl, Below.refl _ _⟩
  case round =>
    obtain ⟨k, hk, rfl, hs, hb⟩ := hrel
    have HS : Hid (spanIn (spanTab.drop k) r = spn r) := hs
    clear hs
    by_cases hlt : k < 38
    · have hb0 : Below w.heap.size w wr := ((Below.refl _ _).alloc (Nat.le_refl _) _).trans (hb.mono (by simp))
      obtain ⟨c0, c1, c2⟩ := (SpanCells.below HT.out hb0) k hlt
      generalize hp : spanTab.getD k (0, 0, 0) = p at c0 c1 c2
      obtain ⟨a, b, c⟩ := p
      simp only at c0 c1 c2
      have HP : Hid (spanTab.getD k (0, 0, 0) = (a, b, c)) := hp
      clear hp
      have hz : w.heap.size + 1 ≤ wr.heap.size := by have := hb.size; simpa using this
      have hl : w.heap.size ≠ 0 := by omega
      cases hh : hasB a b r
      · go_wp2_with (go_at_call 150; refine (has_any a b c r _).mono ?_; rintro e w' ⟨rfl, hb1⟩)
        go_roundw
        case rel => exact ⟨k + 1, by omega, by go_num, by rw [← HS.out, spanIn_drop_miss r k (by rw [spanTab_length]; exact hlt) (by rw [HP.out]; exact hh)], hb.trans (hb1.mono hz)⟩
        case measure => simp [intOf]; omega
      · go_wp2_with fail
        refine (has_any a b c r _).mono ?_
        rintro e w' ⟨rfl, hb1⟩
        have hb2 : Below (w.heap.size + 1) (w.alloc (.cells #[.int .i32 0, .int .i32 0, .int .i64 0] 179)) w' := hb.trans (hb1.mono hz)
        obtain ⟨d0, d1, d2⟩ := (SpanCells.below HT.out (hb0.trans (hb1.mono (by omega)))) k hlt
        rw [HP.out] at d0 d1 d2
        have e0 : w'.cell? ⟨w.heap.size, 0, none⟩ = some (.int .i32 0) := by rw [hb2.cell (p := ⟨w.heap.size, 0, none⟩) (Nat.lt_succ_self _)]; simp
        have e1 : w'.cell? ⟨w.heap.size, 1, none⟩ = some (.int .i32 0) := by rw [hb2.cell (p := ⟨w.heap.size, 1, none⟩) (Nat.lt_succ_self _)]; simp
        have e2 : w'.cell? ⟨w.heap.size, 2, none⟩ = some (.int .i64 0) := by rw [hb2.cell (p := ⟨w.heap.size, 2, none⟩) (Nat.lt_succ_self _)]; simp
        have f0 : ∀ o, w'.frozen? ⟨w.heap.size, o, none⟩ = false := by intro o; rw [hb2.frozen (p := ⟨w.heap.size, o, none⟩) (Nat.lt_succ_self _)]; simp
        go_wp2
        have hv : spn r = (a, b, c) := by rw [← HS.out, spanIn_drop_hit r k (by rw [spanTab_length]; exact hlt) (by rw [HP.out]; exact hh), HP.out]
        rw [hv]
        exact bodyPost_ret (v := .agg #[.int .i32 a, .int .i32 b, .int .i64 c]) (by simp [results, Tryd.results134, go_sem, e0, e1, e2]) rfl ⟨rfl, ((((Below.refl _ _).alloc (Nat.le_refl _) _).trans (hb2.mono (by simp))).setCell (by simp) _ |>.setCell (by simp) _).setCell (by simp) _⟩
    · obtain rfl : k = 38 := by omega
      have e0 : wr.cell? ⟨w.heap.size, 0, none⟩ = some (.int .i32 0) := by rw [hb.cell (p := ⟨w.heap.size, 0, none⟩) (Nat.lt_succ_self _)]; simp
      have e1 : wr.cell? ⟨w.heap.size, 1, none⟩ = some (.int .i32 0) := by rw [hb.cell (p := ⟨w.heap.size, 1, none⟩) (Nat.lt_succ_self _)]; simp
      have e2 : wr.cell? ⟨w.heap.size, 2, none⟩ = some (.int .i64 0) := by rw [hb.cell (p := ⟨w.heap.size, 2, none⟩) (Nat.lt_succ_self _)]; simp
      have f0 : ∀ o, wr.frozen? ⟨w.heap.size, o, none⟩ = false := by intro o; rw [hb.frozen (p := ⟨w.heap.size, o, none⟩) (Nat.lt_succ_self _)]; simp
      go_wp2
      have hv : spn r = (0, 0, 0) := by rw [← HS.out, spanIn_end r]
      rw [hv]
      exact bodyPost_ret (v := .agg #[.int .i32 0, .int .i32 0, .int .i64 0]) (by simp [results, Tryd.results134, go_sem, e0, e1, e2]) rfl ⟨rfl, ((((Below.refl _ _).alloc (Nat.le_refl _) _).trans (hb.mono (by simp))).setCell (by simp) _ |>.setCell (by simp) _).setCell (by simp) _⟩

theorem field_kind (a b c : Int) (w : World) : (Instr.field 179 (.agg #[.int .i32 a, .int .i32 b, .int .i64 c]) 2).run Tryd.prog w = .ok (.int .i64 c) w := by kernel_rfl
set_option maxHeartbeats 400000 in
theorem kind_any (r : Int) (w : World) (hT : SpanCells w) :
    Calls Tryd.prog 104 #[.int .i32 r] w fun e w' => e = .returned (.int .i64 (kd r)) ∧ Below w.heap.size w w' := by
  have hfd := field_kind (spn r).1 (spn r).2.1 (spn r).2.2
  go_enter Tryd.func104, Tryd.ntmps104
  go_wp2_with (go_at_call 134; refine (spanOf_any _ _ hT).mono ?_; rintro e w' ⟨rfl, hb1⟩)
  go_ret
  exact ⟨rfl, hb1⟩
/-- A rune that may stand in a name behind its first. -/
theorem goesOn_any (r : Int) (w : World) (hT : SpanCells w) :
    Calls Tryd.prog 105 #[.int .i32 r] w fun e w' => e = .returned (.bool (onB r)) ∧ Below w.heap.size w w' := by
  cases h1 : (kd r == 1)
  · cases h2 : (kd r == 2)
    · go_enter Tryd.func105, Tryd.ntmps105
      go_wp2_with (go_at_call 104; refine (kind_any _ _ hT).mono ?_; rintro e w' ⟨rfl, hb1⟩)
      go_ret
      exact ⟨ret_bool (by simp [onB, h1, h2]), hb1⟩
    · go_enter Tryd.func105, Tryd.ntmps105
      go_wp2_with (go_at_call 104; refine (kind_any _ _ hT).mono ?_; rintro e w' ⟨rfl, hb1⟩)
      go_ret
      exact ⟨ret_bool (by simp [onB, h1, h2]), hb1⟩
  · go_enter Tryd.func105, Tryd.ntmps105
    go_wp2_with (go_at_call 104; refine (kind_any _ _ hT).mono ?_; rintro e w' ⟨rfl, hb1⟩)
    go_ret
    exact ⟨ret_bool (by simp [onB, h1]), hb1⟩
end Go.Proofs.YtjmccobblpcbhaaDoor

set_option linter.unusedSimpArgs false
namespace Go.Proofs.YtjmccobblpcbhaaDoor
open Go.RowKit Go.Lib

/-- The tables that the program reads lie in memory. -/
structure Tabs (w : World) : Prop where
  spans : SpanCells w
  utf : Lib.Utf8Tabs 2 3 w

theorem Tabs.below {w w' : World} (h : Tabs w) (hb : Below w.heap.size w w') : Tabs w' := by
  refine ⟨h.spans.below hb, fun c hc => ?_, fun i hi => ?_⟩
  · have h0 := h.utf.1 c hc
    exact (hb.cell (World.block_lt_of_cell? w _ h0)).trans h0
  · have h0 := h.utf.2 i hi
    exact ⟨(hb.cell (World.block_lt_of_cell? w _ h0.1)).trans h0.1, (hb.cell (World.block_lt_of_cell? w _ h0.2)).trans h0.2⟩

/-- The iterator over s, laid when the world was w, stands at pos; nothing of w has turned. -/
structure It (w : World) (s : ByteArray) (pos : Nat) (wr : World) : Prop where
  at_ : wr.heap[w.heap.size]? = some (.stringIter s pos)
  below : Below w.heap.size w wr

theorem It.start (w : World) (s : ByteArray) : It w s 0 (w.iter s 0) := ⟨World.iter_heap w s 0, (Below.refl _ _).alloc (Nat.le_refl _) _⟩
theorem It.lt {w : World} {s : ByteArray} {pos : Nat} {wr : World} (h : It w s pos wr) : w.heap.size < wr.heap.size := (Array.getElem?_eq_some_iff.1 h.at_).1
theorem It.next {w : World} {s : ByteArray} {pos : Nat} {wr : World} (h : It w s pos wr) (pos' : Nat) : It w s pos' (wr.iterAt w.heap.size s pos') :=
  ⟨iterAt_heap wr _ s pos pos' h.at_, below_iterAt h.below (Nat.le_refl _) s pos'⟩
theorem It.call {w : World} {s : ByteArray} {pos : Nat} {wr w2 : World} (h : It w s pos wr) (hb : Below wr.heap.size wr w2) : It w s pos w2 :=
  ⟨(hb.block _ h.lt).trans h.at_, h.below.trans (hb.mono (Nat.le_of_lt h.lt))⟩
theorem It.pos {w : World} {s : ByteArray} {pos : Nat} {wr : World} (h : It w s pos wr) : wr.iterPos w.heap.size = pos := by
  simp [World.iterPos, h.at_]
theorem It.tabs {w : World} {s : ByteArray} {pos : Nat} {wr : World} (h : It w s pos wr) (hT : Tabs w) : Tabs wr := hT.below h.below

/-! ### Name -/
set_option maxHeartbeats 1000000 in
theorem name_spans (s : ByteArray) (w : World) (hT : SpanCells w) :
    Calls Tryd.prog 70 #[.string s] w fun e w' => e = .returned (.bool (nameB s)) ∧ Below w.heap.size w w' := by
  go_enter Tryd.func70, Tryd.ntmps70
  go_wp2
  go_loopw [3] (fun c w' => ∃ (pos f n : Nat), It w s pos w' ∧ c = .int .i64 n ∧ n ≤ 16 ∧ (pos = 0 ↔ n = 0) ∧ Hid (nmF s f pos n = nameB s) ∧ s.size ≤ pos + f) (fun _ w' => s.size - w'.iterPos w.heap.size)
  case atStart => exact ⟨0, s.size, 0, It.start w s, rfl, by omega, by simp, rfl, by omega⟩
  case round =>
    obtain ⟨pos, f, n, hI, rfl, hn, h0, HN, hf⟩ := hrel
    have hm := hI.pos
    by_cases hp : pos < s.size
    · have hnx : ∀ ty, (Instr.next (.pointer (some ⟨w.heap.size, 0, none⟩)) true ty).run Tryd.prog wr = _ := fun ty => run_next_any_at wr w.heap.size s pos ty hI.at_ hp
      obtain ⟨f, rfl⟩ : ∃ g, f = g + 1 := ⟨f - 1, by omega⟩
      have hw := width_pos s pos hp
      have HX := nmF_step s f pos n hp
      generalize (Utf8.decode s pos).2 = v at *
      generalize ((Utf8.decode s pos).1 : Int) = r at *
      have hI1 := hI.next (pos + v)
      have hT1 := hT.below hI1.below
      have HY : Hid (nmF s (f + 1) pos n = nmS r n (nmF s f (pos + v) (n + 1))) := HX
      clear HX
      go_wp2_with (first | (go_at_call 104; refine (kind_any _ _ hT1).mono ?_; rintro e w2 ⟨rfl, hb2⟩; have hT2 := hT1.below hb2) | (go_at_call 105; refine (goesOn_any _ _ (by first | exact hT2 | exact hT1)).mono ?_; rintro e w3 ⟨rfl, hb3⟩))
      · have hI3 := (hI1.call hb2).call hb3
        have hn0 : n = 0 := by assumption
        subst hn0
        have hk : kd r = 1 := by assumption
        refine ⟨⟨pos + v, f, 1, hI3, rfl, by omega, by omega, ?_, by omega⟩, ?_⟩
        · show nmF s f (pos + v) 1 = nameB s
          rw [← HN.out, HY.out]; simp [nmS, *]
        · rw [hI3.pos, hm]; omega
      · go_ret
        have hn0 : n = 0 := by assumption
        subst hn0
        have hk : kd r = 1 := by assumption
        exact ⟨ret_bool (by rw [← HN.out, HY.out]; simp [nmS, *]), ((hI1.call hb2).call hb3).below⟩
      · go_ret
        have hn0 : n = 0 := by assumption
        subst hn0
        exact ⟨ret_bool (by rw [← HN.out, HY.out]; simp [nmS, *]), (hI1.call hb2).below⟩
      · go_ret
        have hn16 : n = 16 := by have : ((n : Int) == 16) = true := by assumption
                                 simp at this; omega
        subst hn16
        exact ⟨ret_bool (by rw [← HN.out, HY.out, nmF_long s f _ 17 (by omega)]; simp [nmS]), (hI1.call hb3).below⟩
      · have hI3 := hI1.call hb3
        have hn16 : ¬ n = 16 := by have : ((n : Int) == 16) = false := by assumption
                                   simp at this; omega
        have hn0 : ¬ n = 0 := by assumption
        refine ⟨⟨pos + v, f, n + 1, hI3, by go_num, by omega, by omega, ?_, by omega⟩, ?_⟩
        · show nmF s f (pos + v) (n + 1) = nameB s
          rw [← HN.out, HY.out]; simp [nmS, *]
        · rw [hI3.pos, hm]; omega
      · go_ret
        exact ⟨ret_bool (by rw [← HN.out, HY.out]; simp [nmS, *]), (hI1.call hb3).below⟩
    · have hnx : ∀ ty, (Instr.next (.pointer (some ⟨w.heap.size, 0, none⟩)) true ty).run Tryd.prog wr = _ := fun ty => run_next_end_at wr w.heap.size s pos ty hI.at_ hp
      go_wp2
      go_ret
      exact ⟨ret_bool (by rw [← HN.out, nmF_end s f pos n hp]; apply decide_eq_decide.2; omega), hI.below⟩

theorem name_any (s : ByteArray) (w : World) (hT : Tabs w) :
    Calls Tryd.prog 70 #[.string s] w fun e w' => e = .returned (.bool (nameB s)) ∧ Below w.heap.size w w' := name_spans s w hT.spans
end Go.Proofs.YtjmccobblpcbhaaDoor

set_option linter.unusedSimpArgs false
set_option linter.unusedVariables false
namespace Go.Proofs.YtjmccobblpcbhaaDoor
open Go.Lib

theorem tail_size (s : ByteArray) (k : Nat) : (s.extract k s.size).size = s.size - k := by simp [ByteArray.size_extract]
theorem dec_tail (s : ByteArray) (k i : Nat) : Utf8.decode (s.extract k s.size) i = Utf8.decode s (k + i) := by
  rw [decode_at, decode_at, tail_size, tail_get!, tail_get!, tail_get!, tail_get!]
  have : s.size - k - i = s.size - (k + i) := by omega
  rw [this]
  simp [Nat.add_assoc]
theorem decodeN_le (n b0 b1 b2 b3 : Nat) (h : 0 < n) : (decodeN n b0 b1 b2 b3).2 ≤ n := by
  unfold decodeN
  repeat' split
  all_goals first | omega | (simp only; omega)
theorem dec_le (s : ByteArray) (pos : Nat) (h : pos < s.size) : pos + (Utf8.decode s pos).2 ≤ s.size := by
  have := decodeN_le (s.size - pos) (s.get! pos).toNat (s.get! (pos + 1)).toNat (s.get! (pos + 2)).toNat (s.get! (pos + 3)).toNat (by omega)
  rw [decode_at]; omega
theorem decGo (s : ByteArray) (h : s.size ≠ 0) : decodeGo s = Utf8.decode s 0 := by simp [decodeGo, h]
theorem decGo_tail (s : ByteArray) (k : Nat) (h : k < s.size) : decodeGo (s.extract k s.size) = Utf8.decode s k := by
  rw [decGo _ (by rw [tail_size]; omega), dec_tail]; rfl
theorem empty_yes (s : ByteArray) (h : s.size = 0) : s.toList.isEmpty = true := by
  rw [Lib.toList_data]
  have : s.data.toList = [] := List.eq_nil_of_length_eq_zero (by rw [← Lib.size_eq]; exact h)
  rw [this]; rfl
/-- The runes of a text. -/
def rl (s : ByteArray) : List Int := runesFrom s s.size 0
/-! ### The order of two texts -/
end Go.Proofs.YtjmccobblpcbhaaDoor

namespace Go.Proofs.YtjmccobblpcbhaaDoor
open Go.Lib

/-- A byte that belongs to no character. -/
def bad (s : ByteArray) (pos : Nat) : Bool := (Utf8.decode s pos).1 == 65533 && (Utf8.decode s pos).2 == 1
/-- U+FFFD, written out. -/
def fffd : List UInt8 := [239, 191, 189]

theorem decodeN_fffd (n b0 b1 b2 b3 : Nat) (h0 : b0 < 256) (h1 : b1 < 256) (h2 : b2 < 256) (h3 : b3 < 256) (h : (decodeN n b0 b1 b2 b3).1 = 65533) (hw : (decodeN n b0 b1 b2 b3).2 ≠ 1) : 2 < n ∧ b0 = 239 ∧ b1 = 191 ∧ b2 = 189 := by
  revert h hw
  unfold decodeN
  repeat' split
  all_goals simp
  all_goals omega
theorem decodeN_written (n b3 : Nat) (h : 2 < n) : decodeN n 239 191 189 b3 = (65533, 3) := by
  have h1 : 1 < n := by omega
  simp [decodeN, h, h1]
theorem decodeN_width (n b0 b1 b2 b3 : Nat) : 1 ≤ (decodeN n b0 b1 b2 b3).2 ∧ (decodeN n b0 b1 b2 b3).2 ≤ 4 := by
  unfold decodeN
  repeat' split
  all_goals simp

theorem bytes3 (s : ByteArray) (pos : Nat) (h : pos + 3 ≤ s.size) : (s.extract pos (pos + 3)).data.toList = [s.get! pos, s.get! (pos + 1), s.get! (pos + 2)] := by
  rw [extract_data]
  have e : pos + 3 - pos = 3 := by omega
  rw [e]
  have hl : s.data.toList.length = s.size := (size_eq s).symm
  rw [List.drop_eq_getElem_cons (by omega), List.drop_eq_getElem_cons (by omega), List.drop_eq_getElem_cons (by omega)]
  simp only [List.take_succ_cons, List.take_zero, List.cons.injEq, and_true]
  have g : ∀ (k : Nat) (hk : k < s.size), s.data.toList[k]'(by omega) = s.get! k := by
    intro k hk
    rw [Utf8W.get!_of_lt s k hk]; rfl
  exact ⟨g pos (by omega), g (pos + 1) (by omega), g (pos + 2) (by omega)⟩

theorem bad_iff (s : ByteArray) (pos : Nat) (hr : (Utf8.decode s pos).1 = 65533) : bad s pos = false ↔ (pos + 3 ≤ s.size ∧ (s.extract pos (pos + 3)).data.toList = fffd) := by
  have hb : ∀ k, (s.get! k).toNat < 256 := fun k => (s.get! k).toNat_lt
  have u8 : ∀ (a : UInt8) (n : Nat) (hn : n < 256), a.toNat = n → a = UInt8.ofNat n := by
    intro a n hn h; subst h; simp
  constructor
  · intro h
    have hw : (Utf8.decode s pos).2 ≠ 1 := by
      simp [bad, hr] at h; exact h
    rw [decode_at] at hr hw
    obtain ⟨hn, e0, e1, e2⟩ := decodeN_fffd _ _ _ _ _ (hb _) (hb _) (hb _) (hb _) hr hw
    have h3 : pos + 3 ≤ s.size := by omega
    refine ⟨h3, ?_⟩
    rw [bytes3 s pos h3, u8 _ 239 (by omega) e0, u8 _ 191 (by omega) e1, u8 _ 189 (by omega) e2]
    rfl
  · rintro ⟨h3, he⟩
    rw [bytes3 s pos h3] at he
    simp only [fffd, List.cons.injEq, and_true] at he
    obtain ⟨e0, e1, e2⟩ := he
    have hd : Utf8.decode s pos = (65533, 3) := by
      rw [decode_at, e0, e1, e2]
      exact decodeN_written _ _ (by omega)
    simp [bad, hd]

/-- The width of the character at pos: 0 for a bad byte. -/
def wd (s : ByteArray) (pos : Nat) : Nat := if bad s pos then 0 else (Utf8.decode s pos).2
def wdE (s : ByteArray) (pos : Nat) : Nat := if pos < s.size then wd s pos else 0
/-- The character at pos: -1 for a bad byte and at the end. -/
def rn (s : ByteArray) (pos : Nat) : Int := if pos < s.size then (if bad s pos then -1 else (Utf8.decode s pos).1) else -1
theorem bad_eq {s : ByteArray} {pos : Nat} (h : bad s pos = true) : Utf8.decode s pos = (65533, 1) := by
  simp [bad] at h; exact Prod.ext h.1 h.2
theorem kd_rn (s : ByteArray) (pos : Nat) (h : pos < s.size) : kd (rn s pos) = kd (Utf8.decode s pos).1 := by
  unfold rn
  rw [if_pos h]
  cases hb : bad s pos
  · rfl
  · rw [bad_eq hb]; decide
theorem onB_rn (s : ByteArray) (pos : Nat) (h : pos < s.size) : onB (rn s pos) = onB (Utf8.decode s pos).1 := by
  unfold onB; rw [kd_rn s pos h]
end Go.Proofs.YtjmccobblpcbhaaDoor

namespace Go.Proofs.YtjmccobblpcbhaaDoor
open Go.Lib

/-! ### Check -/
def chkF (s : ByteArray) : Nat → Nat → Nat × Int
  | 0, _ => (0, 0)
  | f + 1, pos => if pos < s.size then (if bad s pos then (pos, 4) else chkF s f (pos + (Utf8.decode s pos).2)) else (0, 0)
def chk (s : ByteArray) : Nat × Int := chkF s s.size 0
theorem chkF_bad (s : ByteArray) (f pos : Nat) (h : pos < s.size) (hb : bad s pos = true) : chkF s (f + 1) pos = (pos, 4) := by simp [chkF, h, hb]
theorem chkF_good (s : ByteArray) (f pos : Nat) (h : pos < s.size) (hb : bad s pos = false) : chkF s (f + 1) pos = chkF s f (pos + (Utf8.decode s pos).2) := by simp [chkF, h, hb]
theorem chkF_end (s : ByteArray) (f pos : Nat) (h : ¬ pos < s.size) : chkF s f pos = (0, 0) := by cases f <;> simp [chkF, h]

/-! ### Span -/
def spF (s : ByteArray) : Nat → Nat → Nat
  | 0, pos => pos
  | f + 1, pos => if pos < s.size then (if onB (Utf8.decode s pos).1 then spF s f (pos + (Utf8.decode s pos).2) else pos) else pos
theorem spF_on (s : ByteArray) (f pos : Nat) (h : pos < s.size) (ho : onB (Utf8.decode s pos).1 = true) : spF s (f + 1) pos = spF s f (pos + (Utf8.decode s pos).2) := by simp [spF, h, ho]
theorem spF_off (s : ByteArray) (f pos : Nat) (h : pos < s.size) (ho : onB (Utf8.decode s pos).1 = false) : spF s f pos = pos := by cases f <;> simp [spF, h, ho]
theorem spF_end (s : ByteArray) (f pos : Nat) (h : ¬ pos < s.size) : spF s f pos = pos := by cases f <;> simp [spF, h]
/-- The end of the name that begins at pos, and the error. -/
def spanP (s : ByteArray) (pos : Nat) : Int × Int := if kd (rn s pos) = 1 then ((spF s s.size pos : Nat), 0) else (0, 11)
def spanI (s : ByteArray) (at_ : Int) : Int × Int := if at_ < 0 ∨ (s.size : Int) < at_ then (0, 2) else spanP s at_.toNat

/-! ### Number -/
theorem kd_two (r : Int) : kd r = 2 ↔ digZ r ≠ 0 := by
  rw [kd_eq]
  constructor
  · intro h
    have hd : 0 ≤ digV r := by
      unfold kindR at h
      split at h
      · omega
      · split at h
        · assumption
        · split at h
          · omega
          · split at h
            · omega
            · unfold sgnK at h; split at h <;> omega
    unfold digV at hd
    unfold digZ
    repeat' split
    all_goals simp_all
  · intro h
    have hc : (48 ≤ r ∧ r ≤ 57) ∨ (1632 ≤ r ∧ r ≤ 1641) ∨ (65296 ≤ r ∧ r ≤ 65305) := by
      unfold digZ at h
      simp only [hasB, decide_eq_true_eq] at h
      split at h
      · exact .inl ‹_›
      · split at h
        · exact .inr (.inl ‹_›)
        · split at h
          · exact .inr (.inr ‹_›)
          · exact absurd rfl h
    have hl : letB r = false := by
      have : ¬ letB r = true := by
        rw [← lets_eq]
        simp only [lets, spanTab, List.take_succ_cons, List.take_zero, List.any_cons, List.any_nil, hasB]
        simp
        omega
      simpa using this
    have hd : 0 ≤ digV r := by
      unfold digV
      simp only [hasB, decide_eq_true_eq]
      repeat' split
      all_goals omega
    simp [kindR, hl, hd]
theorem spn_digit (r : Int) (h : digZ r ≠ 0) : spn r = (digZ r, digZ r + 9, 2) := by
  have hc : (48 ≤ r ∧ r ≤ 57) ∨ (1632 ≤ r ∧ r ≤ 1641) ∨ (65296 ≤ r ∧ r ≤ 65305) := by
    unfold digZ at h
    simp only [hasB, decide_eq_true_eq] at h
    split at h
    · exact .inl ‹_›
    · split at h
      · exact .inr (.inl ‹_›)
      · split at h
        · exact .inr (.inr ‹_›)
        · exact absurd rfl h
  have hn : ∀ p ∈ lets, hasB p.1 p.2.1 r = false := by
    have : ∀ p ∈ lets, ¬ (p.1 ≤ r ∧ r ≤ p.2.1) := by
      simp only [lets, spanTab, List.take_succ_cons, List.take_zero, List.mem_cons, List.not_mem_nil, or_false]
      intro p hp
      rcases hp with rfl | rfl | rfl | rfl | rfl | rfl | rfl | rfl | rfl | rfl | rfl | rfl | rfl <;> simp only <;> omega
    intro p hp
    simpa [hasB] using this p hp
  have hskip : ∀ (l m : List (Int × Int × Int)), (∀ p ∈ l, hasB p.1 p.2.1 r = false) → spanIn (l ++ m) r = spanIn m r := by
    intro l m
    induction l with
    | nil => intro _; rfl
    | cons p l ih =>
      intro hp
      have h1 := hp p (by simp)
      simp only [List.cons_append, spanIn, h1]
      exact ih (fun q hq => hp q (by simp [hq]))
  unfold spn
  rw [spanTab_parts, hskip lets _ hn]
  simp only [digs, spanTab, List.drop_succ_cons, List.drop_zero, List.take_succ_cons, List.take_zero, List.cons_append, spanIn, digZ]
  rcases hc with hc | hc | hc
  · have h1 : hasB 48 57 r = true := by simpa [hasB] using hc
    simp [h1]
  · have h1 : hasB 48 57 r = false := by simp [hasB]; omega
    have h2 : hasB 1632 1641 r = true := by simpa [hasB] using hc
    simp [h1, h2]
  · have h1 : hasB 48 57 r = false := by simp [hasB]; omega
    have h2 : hasB 1632 1641 r = false := by simp [hasB]; omega
    have h3 : hasB 65296 65305 r = true := by simpa [hasB] using hc
    simp [h1, h2, h3]
/-- A rune is a digit of the script of z. -/
theorem digZ_has (z r : Int) (hz : z = 48 ∨ z = 1632 ∨ z = 65296) : hasB z (z + 9) r = true ↔ digZ r = z := by
  unfold digZ
  simp only [hasB, decide_eq_true_eq]
  rcases hz with rfl | rfl | rfl <;> (repeat' split) <;> omega
theorem digZ_cases (r : Int) (h : digZ r ≠ 0) : digZ r = 48 ∨ digZ r = 1632 ∨ digZ r = 65296 := by
  unfold digZ at *
  simp only [hasB, decide_eq_true_eq] at *
  repeat' split
  all_goals simp_all
theorem digV_eq (r : Int) (h : digZ r ≠ 0) : digV r = r - digZ r ∧ 0 ≤ digV r ∧ digV r ≤ 9 := by
  unfold digZ digV at *
  simp only [hasB, decide_eq_true_eq] at *
  repeat' split
  all_goals simp_all
  all_goals omega

/-- The number from pos on, n ahead of it: value, end, error. -/
def nuF (s : ByteArray) (z : Int) : Nat → Nat → Nat → Nat × Nat × Int
  | 0, pos, n => (n, pos, 0)
  | f + 1, pos, n => if pos < s.size then
      (if digZ (Utf8.decode s pos).1 = z then
        (if 18446744073709551615 < n * 10 + (digV (Utf8.decode s pos).1).toNat then (0, 0, 10) else nuF s z f (pos + (Utf8.decode s pos).2) (n * 10 + (digV (Utf8.decode s pos).1).toNat))
       else (n, pos, 0))
     else (n, pos, 0)
theorem nuF_end (s : ByteArray) (z : Int) (f pos n : Nat) (h : ¬ pos < s.size) : nuF s z f pos n = (n, pos, 0) := by cases f <;> simp [nuF, h]
theorem nuF_off (s : ByteArray) (z : Int) (f pos n : Nat) (h : ¬ digZ (Utf8.decode s pos).1 = z) : nuF s z f pos n = (n, pos, 0) := by cases f <;> simp [nuF, h]
theorem nuF_large (s : ByteArray) (z : Int) (f pos n : Nat) (h : pos < s.size) (hz : digZ (Utf8.decode s pos).1 = z) (hl : 18446744073709551615 < n * 10 + (digV (Utf8.decode s pos).1).toNat) : nuF s z (f + 1) pos n = (0, 0, 10) := by
  simp [nuF, h, hz, hl]
theorem nuF_on (s : ByteArray) (z : Int) (f pos n : Nat) (h : pos < s.size) (hz : digZ (Utf8.decode s pos).1 = z) (hl : ¬ 18446744073709551615 < n * 10 + (digV (Utf8.decode s pos).1).toNat) : nuF s z (f + 1) pos n = nuF s z f (pos + (Utf8.decode s pos).2) (n * 10 + (digV (Utf8.decode s pos).1).toNat) := by
  simp [nuF, h, hz, hl]
def numP (s : ByteArray) (pos : Nat) : Nat × Nat × Int := if digZ (rn s pos) = 0 then (0, 0, 11) else nuF s (digZ (rn s pos)) s.size pos 0
def numI (s : ByteArray) (at_ : Int) : Nat × Nat × Int := if at_ < 0 ∨ (s.size : Int) < at_ then (0, 0, 2) else numP s at_.toNat
theorem digZ_rn (s : ByteArray) (pos : Nat) (h : pos < s.size) : digZ (rn s pos) = digZ (Utf8.decode s pos).1 := by
  unfold rn
  rw [if_pos h]
  cases hb : bad s pos
  · rfl
  · rw [bad_eq hb]; decide
/-! ### Column -/
theorem on_of_letter (r : Int) (h : kd r = 1) : onB r = true := by simp [onB, h]
theorem spF_le (s : ByteArray) : ∀ (f pos : Nat), pos ≤ s.size → pos ≤ spF s f pos ∧ spF s f pos ≤ s.size
  | 0, pos, h => ⟨Nat.le_refl _, h⟩
  | f + 1, pos, h => by
    by_cases hp : pos < s.size
    · have hv := width_pos s pos hp
      have hv2 := dec_le s pos hp
      cases ho : onB (Utf8.decode s pos).1
      · rw [spF_off s (f + 1) pos hp ho]; exact ⟨Nat.le_refl _, h⟩
      · rw [spF_on s f pos hp ho]
        have := spF_le s f _ hv2
        omega
    · rw [spF_end s _ pos hp]; exact ⟨Nat.le_refl _, h⟩
end Go.Proofs.YtjmccobblpcbhaaDoor

set_option linter.unusedSimpArgs false
namespace Go.Proofs.YtjmccobblpcbhaaDoor
open Go.RowKit Go.Lib

theorem first_any (s : ByteArray) (w : World) (hT : Tabs w) :
    Calls Tryd.prog 80 #[.string s] w fun e w' => e = .returned (.int .i32 (decodeGo s).1) ∧ Below w.heap.size w w' := by
  go_enter Tryd.func80, Tryd.ntmps80
  go_wp2_with (go_at_call 119; refine (Tryd.utf8_DecodeRuneInString _ _ hT.utf).mono ?_; rintro e w2 ⟨rfl, hb2⟩)
  go_ret
  exact ⟨rfl, hb2⟩
theorem width_any (s : ByteArray) (w : World) (hT : Tabs w) :
    Calls Tryd.prog 81 #[.string s] w fun e w' => e = .returned (.int .i64 (decodeGo s).2) ∧ Below w.heap.size w w' := by
  go_enter Tryd.func81, Tryd.ntmps81
  go_wp2_with (go_at_call 119; refine (Tryd.utf8_DecodeRuneInString _ _ hT.utf).mono ?_; rintro e w2 ⟨rfl, hb2⟩)
  go_ret
  exact ⟨rfl, hb2⟩
end Go.Proofs.YtjmccobblpcbhaaDoor
