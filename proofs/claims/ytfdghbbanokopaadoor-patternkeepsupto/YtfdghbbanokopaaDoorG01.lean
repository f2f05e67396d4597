/-
  Pure, Shelf, KindW, IterW, DecPure, FirstW.
-/
import Derived.Shelf.Unicode.DecodeSlow
import Derived.Laws.RangeAny
import Derived.Shelf.Strconv.Itoa0
import Derived.Shelf.Unicode.DecodeAny
import Derived.Test.YtfdghbbanokopaaDoorProg
import Derived.WalkKit
import Derived.Deep.DeepFit
import Derived.Lib.OthersKept
import Derived.Lib.RuneCountTail
set_option linter.unusedSimpArgs false
namespace Go.Proofs.YtfdghbbanokopaaDoor

/-- The spans as the program's table lays them: first, last, kind. -/
def spanTab : List (Int × Int × Int) := [(97, 122, 1), (65, 90, 1), (95, 95, 1), (192, 214, 1), (216, 246, 1), (248, 591, 1), (880, 893, 1), (895, 902, 1), (904, 1023, 1), (1024, 1153, 1), (1162, 1327, 1), (19968, 40959, 1), (66560, 66639, 1), (48, 57, 2), (1632, 1641, 2), (65296, 65305, 2), (9, 10, 3), (13, 13, 3), (32, 32, 3), (160, 160, 3), (12288, 12288, 3), (37, 38, 4), (40, 45, 4), (47, 47, 4), (58, 64, 4), (94, 94, 4), (124, 124, 4), (126, 126, 4), (172, 172, 4), (183, 183, 4), (215, 215, 4), (247, 247, 4), (8722, 8722, 4), (8743, 8744, 4), (8801, 8801, 4), (8810, 8811, 4), (8853, 8853, 4), (8320, 8329, 5)]

/-- Does r stand in the span from a to b? -/
def hasB (a b r : Int) : Bool := decide (a ≤ r ∧ r ≤ b)

def spanIn : List (Int × Int × Int) → Int → Int × Int × Int
  | [], _ => (0, 0, 0)
  | p :: l, r => if hasB p.1 p.2.1 r then p else spanIn l r

/-- The span of r; its kind. -/
def spn (r : Int) : Int × Int × Int := spanIn spanTab r
def kd (r : Int) : Int := (spn r).2.2

/-- May r stand in a name behind its first? -/
def onB (r : Int) : Bool := kd r == 1 || kd r == 2 || kd r == 5

theorem spanTab_length : spanTab.length = 38 := rfl

theorem spanIn_drop_hit (r : Int) (k : Nat) (h : k < spanTab.length) (hh : hasB (spanTab.getD k (0, 0, 0)).1 (spanTab.getD k (0, 0, 0)).2.1 r = true) : spanIn (spanTab.drop k) r = spanTab.getD k (0, 0, 0) := by
  rw [List.drop_eq_getElem_cons h]
  have e : spanTab.getD k (0, 0, 0) = spanTab[k] := by simp [h]
  rw [e] at hh ⊢
  simp [spanIn, hh]
theorem spanIn_drop_miss (r : Int) (k : Nat) (h : k < spanTab.length) (hh : hasB (spanTab.getD k (0, 0, 0)).1 (spanTab.getD k (0, 0, 0)).2.1 r = false) : spanIn (spanTab.drop k) r = spanIn (spanTab.drop (k + 1)) r := by
  rw [List.drop_eq_getElem_cons h]
  have e : spanTab.getD k (0, 0, 0) = spanTab[k] := by simp [h]
  rw [e] at hh
  simp [spanIn, hh]
theorem spanIn_end (r : Int) : spanIn (spanTab.drop 38) r = (0, 0, 0) := rfl

/-! ### The steps of a range over a text -/
def runesFrom (s : ByteArray) : Nat → Nat → List Int
  | 0, _ => []
  | f + 1, pos => if pos < s.size then ((Utf8.decode s pos).1 : Int) :: runesFrom s f (pos + (Utf8.decode s pos).2) else []
theorem runesFrom_cons (s : ByteArray) (f pos : Nat) (h : pos < s.size) : runesFrom s (f + 1) pos = ((Utf8.decode s pos).1 : Int) :: runesFrom s f (pos + (Utf8.decode s pos).2) := by
  simp [runesFrom, h]
theorem runesFrom_end (s : ByteArray) (f pos : Nat) (h : ¬ pos < s.size) : runesFrom s f pos = [] := by
  cases f <;> simp [runesFrom, h]

theorem width_pos (s : ByteArray) (pos : Nat) (h : pos < s.size) : 1 ≤ (Utf8.decode s pos).2 := by
  by_cases ha : (s[pos]'h).toNat < 128
  · rw [decode_ascii s pos h ha]
    exact Nat.le_refl _
  · exact (decode_high s pos h (by omega)).2

/-! ### Names -/
/-- One step: r is the next rune, n were ahead, 'rest' is what the rest says. -/
def nmS (r : Int) (n : Nat) (rest : Bool) : Bool := if (n == 0 && kd r != 1) || !onB r then false else rest
def nmF (s : ByteArray) : Nat → Nat → Nat → Bool
  | 0, _, n => decide (1 ≤ n ∧ n ≤ 16)
  | f + 1, pos, n => if pos < s.size then nmS (Utf8.decode s pos).1 n (nmF s f (pos + (Utf8.decode s pos).2) (n + 1)) else decide (1 ≤ n ∧ n ≤ 16)
def nameB (s : ByteArray) : Bool := nmF s s.size 0 0
theorem nmF_step (s : ByteArray) (f pos n : Nat) (h : pos < s.size) : nmF s (f + 1) pos n = nmS (Utf8.decode s pos).1 n (nmF s f (pos + (Utf8.decode s pos).2) (n + 1)) := by
  simp [nmF, h]
theorem nmF_end (s : ByteArray) (f pos n : Nat) (h : ¬ pos < s.size) : nmF s f pos n = decide (1 ≤ n ∧ n ≤ 16) := by
  cases f <;> simp [nmF, h]
theorem nmF_long (s : ByteArray) : ∀ (f pos n : Nat), 17 ≤ n → nmF s f pos n = false
  | 0, _, n, h => by simp [nmF]; omega
  | f + 1, pos, n, h => by
    by_cases hp : pos < s.size
    · rw [nmF_step s f pos n hp, nmF_long s f _ (n + 1) (by omega)]
      simp [nmS]
    · rw [nmF_end s _ pos n hp]; simp; omega
end Go.Proofs.YtfdghbbanokopaaDoor

namespace Go.Proofs.YtfdghbbanokopaaDoor

end Go.Proofs.YtfdghbbanokopaaDoor

namespace Go.Proofs
open Go.Shelf
def Tryd.lays260_ren : Go.Shelf.Ren := ⟨fun | 260 => 118 | n => n, fun | 9 => 9 | 21 => 21 | 3 => 3 | 4 => 4 | 5 => 5 | 119 => 183 | 0 => 0 | 46 => 112 | 139 => 186 | 138 => 185 | n => n, fun | 3 => 0 | 4 => 1 | n => n⟩
theorem Tryd.lays260 : Go.Proofs.Lays.n260 Tryd.prog Tryd.lays260_ren := {
  mixed := by kernel_rfl
  f260 := Tryd.func118.trans (congrArg some (by kernel_rfl))
  t0 := Tryd.underlying0
  a0 := Tryd.isAgg0
  z0 := Tryd.sizeOf0
  v0 := Tryd.zeroValue0
  t3 := Tryd.underlying3
  a3 := Tryd.isAgg3
  z3 := Tryd.sizeOf3
  v3 := Tryd.zeroValue3
  t4 := Tryd.underlying4
  a4 := Tryd.isAgg4
  z4 := Tryd.sizeOf4
  v4 := Tryd.zeroValue4
  t5 := Tryd.underlying5
  a5 := Tryd.isAgg5
  z5 := Tryd.sizeOf5
  v5 := Tryd.zeroValue5
  t9 := Tryd.underlying9
  a9 := Tryd.isAgg9
  z9 := Tryd.sizeOf9
  v9 := Tryd.zeroValue9
  t21 := Tryd.underlying21
  a21 := Tryd.isAgg21
  z21 := Tryd.sizeOf21
  v21 := Tryd.zeroValue21
  t46 := Tryd.underlying112
  a46 := Tryd.isAgg112
  z46 := Tryd.sizeOf112
  v46 := Tryd.zeroValue112
  t119 := Tryd.underlying183
  a119 := Tryd.isAgg183
  z119 := Tryd.sizeOf183
  t138 := Tryd.underlying185
  a138 := Tryd.isAgg185
  z138 := Tryd.sizeOf185
  v138 := Tryd.zeroValue185
  t139 := Tryd.underlying186
  a139 := Tryd.isAgg186
  z139 := Tryd.sizeOf186
  v139 := Tryd.zeroValue186
  g3 := by kernel_rfl
  g4 := by kernel_rfl }
def Tryd.lays197_ren : Go.Shelf.Ren := ⟨fun | 197 => 102 | 260 => 118 | n => n, fun | 9 => 9 | 21 => 21 | 3 => 3 | 4 => 4 | 5 => 5 | 105 => 145 | 119 => 183 | 0 => 0 | 46 => 112 | 139 => 186 | 138 => 185 | n => n, fun | 3 => 0 | 4 => 1 | n => n⟩
theorem Tryd.lays197 : Go.Proofs.Lays.n197 Tryd.prog Tryd.lays197_ren := {
  mixed := by kernel_rfl
  f197 := Tryd.func102.trans (congrArg some (by kernel_rfl))
  f260 := Tryd.func118.trans (congrArg some (by kernel_rfl))
  t0 := Tryd.underlying0
  a0 := Tryd.isAgg0
  z0 := Tryd.sizeOf0
  v0 := Tryd.zeroValue0
  t3 := Tryd.underlying3
  a3 := Tryd.isAgg3
  z3 := Tryd.sizeOf3
  v3 := Tryd.zeroValue3
  t4 := Tryd.underlying4
  a4 := Tryd.isAgg4
  z4 := Tryd.sizeOf4
  v4 := Tryd.zeroValue4
  t5 := Tryd.underlying5
  a5 := Tryd.isAgg5
  z5 := Tryd.sizeOf5
  v5 := Tryd.zeroValue5
  t9 := Tryd.underlying9
  a9 := Tryd.isAgg9
  z9 := Tryd.sizeOf9
  v9 := Tryd.zeroValue9
  t21 := Tryd.underlying21
  a21 := Tryd.isAgg21
  z21 := Tryd.sizeOf21
  v21 := Tryd.zeroValue21
  t46 := Tryd.underlying112
  a46 := Tryd.isAgg112
  z46 := Tryd.sizeOf112
  v46 := Tryd.zeroValue112
  t105 := Tryd.underlying145
  a105 := Tryd.isAgg145
  z105 := Tryd.sizeOf145
  v105 := Tryd.zeroValue145
  t119 := Tryd.underlying183
  a119 := Tryd.isAgg183
  z119 := Tryd.sizeOf183
  t138 := Tryd.underlying185
  a138 := Tryd.isAgg185
  z138 := Tryd.sizeOf185
  v138 := Tryd.zeroValue185
  t139 := Tryd.underlying186
  a139 := Tryd.isAgg186
  z139 := Tryd.sizeOf186
  v139 := Tryd.zeroValue186
  g3 := by kernel_rfl
  g4 := by kernel_rfl }
open Go.RowKit Go.Lib in
/-- **unicode/utf8.DecodeRuneInString AT EVERY STRING.** (LAID: no walk: one application.) -/
theorem Tryd.utf8_DecodeRuneInString (s : ByteArray) (w : World) (hT : Lib.Utf8Tabs 0 1 w) :
    Calls Tryd.prog 102 #[.string s] w fun e w' => e = .returned (.tuple #[.int .i32 (Lib.decodeGo s).1, .int .i64 (Lib.decodeGo s).2]) ∧ Below w.heap.size w w' := Any.utf8_DecodeRuneInString Tryd.lays197 s w hT
end Go.Proofs

set_option linter.unusedSimpArgs false
namespace Go.Proofs.YtfdghbbanokopaaDoor
open Go.RowKit

theorem ret_bool {a b : Bool} (h : a = b) : Ending.returned (.bool a) = .returned (.bool b) := by rw [h]
theorem ret_int {k : IntKind} {a b : Int} (h : a = b) : Ending.returned (.int k a) = .returned (.int k b) := by rw [h]

/-- The table of spans lies in memory. -/
def SpanCells (w : World) : Prop := ∀ k, k < 38 → w.cell? ⟨3, k * 3, none⟩ = some (.int .i32 (spanTab.getD k (0, 0, 0)).1) ∧ w.cell? ⟨3, k * 3 + 1, none⟩ = some (.int .i32 (spanTab.getD k (0, 0, 0)).2.1) ∧ w.cell? ⟨3, k * 3 + 2, none⟩ = some (.int .i64 (spanTab.getD k (0, 0, 0)).2.2)

set_option maxHeartbeats 400000 in
theorem has_any (a b c r : Int) (w : World) :
    Calls Tryd.prog 141 #[.agg #[.int .i32 a, .int .i32 b, .int .i64 c], .int .i32 r] w fun e w' => e = .returned (.bool (hasB a b r)) ∧ Below w.heap.size w w' := by
  by_cases h1 : a ≤ r
  · by_cases h2 : r ≤ b
    · have hb : hasB a b r = true := by simp [hasB, h1, h2]
      rw [hb]; clear hb
      go_enter Tryd.func141, Tryd.ntmps141
      go_wp2
      go_ret
      exact ⟨by simp [h1, h2], (Below.refl _ _).alloc (Nat.le_refl _) _⟩
    · have hb : hasB a b r = false := by simp [hasB, h1, h2]
      rw [hb]; clear hb
      go_enter Tryd.func141, Tryd.ntmps141
      go_wp2
      go_ret
      exact ⟨by simp [h1, h2], (Below.refl _ _).alloc (Nat.le_refl _) _⟩
  · have hb : hasB a b r = false := by simp [hasB, h1]
    rw [hb]; clear hb
    go_enter Tryd.func141, Tryd.ntmps141
    go_wp2
    go_ret
    exact ⟨by simp, (Below.refl _ _).alloc (Nat.le_refl _) _⟩

theorem SpanCells.below {w w' : World} (h : SpanCells w) (hb : Below w.heap.size w w') : SpanCells w' := by
  intro k hk
  obtain ⟨h0, h1, h2⟩ := h k hk
  have hl : 3 < w.heap.size := World.block_lt_of_cell? w _ h0
  exact ⟨(hb.cell (p := ⟨3, k * 3, none⟩) hl).trans h0, (hb.cell (p := ⟨3, k * 3 + 1, none⟩) hl).trans h1, (hb.cell (p := ⟨3, k * 3 + 2, none⟩) hl).trans h2⟩
theorem SpanCells.pos {w : World} (h : SpanCells w) : 3 < w.heap.size := World.block_lt_of_cell? w _ (h 0 (by omega)).1

set_option maxHeartbeats 400000 in
theorem spanOf_any (r : Int) (w : World) (hT : SpanCells w) :
    Calls Tryd.prog 133 #[.int .i32 r] w fun e w' => e = .returned (.agg #[.int .i32 (spn r).1, .int .i32 (spn r).2.1, .int .i64 (spn r).2.2]) ∧ Below w.heap.size w w' := by
  have hpos := hT.pos
  have HT : Hid (SpanCells w) := hT
  clear hT
  go_enter Tryd.func133, Tryd.ntmps133
  go_wp2
  go_loopw [4] (fun i w' => ∃ k : Nat, k ≤ 38 ∧ i = .int .i64 k ∧ spanIn (spanTab.drop k) r = spn r ∧ Below (w.heap.size + 1) (w.alloc (.cells #[.int .i32 0, .int .i32 0, .int .i64 0] 178)) w') (fun i _ => 38 - (intOf i).toNat)
  case atStart => exact ⟨0, by omega, rfl, rfl, Below.refl _ _⟩
  case round =>
    obtain ⟨k, hk, rfl, hs, hb⟩ := hrel
    have HS : Hid (spanIn (spanTab.drop k) r = spn r) := hs
    clear hs
    by_cases hlt : k < 38
    · have hb0 : Below w.heap.size w wr := ((Below.refl _ _).alloc (Nat.le_refl _) _).trans (hb.mono (by simp))
      obtain ⟨c0, c1, c2⟩ := (SpanCells.below HT.out hb0) k hlt
      generalize hp : spanTab.getD k (0, 0, 0) = p at c0 c1 c2
      obtain ⟨a, b, c⟩ := p
      simp only at c0 c1 c2
      have HP : Hid (spanTab.getD k (0, 0, 0) = (a, b, c)) := hp
      clear hp
      have hz : w.heap.size + 1 ≤ wr.heap.size := by have := hb.size; simpa using this
      have hl : w.heap.size ≠ 0 := by omega
      cases hh : hasB a b r
      · go_wp2_with (go_at_call 141; refine (has_any a b c r _).mono ?_; rintro e w' ⟨rfl, hb1⟩)
        go_roundw
        case rel => exact ⟨k + 1, by omega, by go_num, by rw [← HS.out, spanIn_drop_miss r k (by rw [spanTab_length]; exact hlt) (by rw [HP.out]; exact hh)], hb.trans (hb1.mono hz)⟩
        case measure => simp [intOf]; omega
      · go_wp2_with fail
        refine (has_any a b c r _).mono ?_
        rintro e w' ⟨rfl, hb1⟩
        have hb2 : Below (w.heap.size + 1) (w.alloc (.cells #[.int .i32 0, .int .i32 0, .int .i64 0] 178)) w' := hb.trans (hb1.mono hz)
        obtain ⟨d0, d1, d2⟩ := (SpanCells.below HT.out (hb0.trans (hb1.mono (by omega)))) k hlt
        rw [HP.out] at d0 d1 d2
        have e0 : w'.cell? ⟨w.heap.size, 0, none⟩ = some (.int .i32 0) := by rw [hb2.cell (p := ⟨w.heap.size, 0, none⟩) (Nat.lt_succ_self _)]; simp
        have e1 : w'.cell? ⟨w.heap.size, 1, none⟩ = some (.int .i32 0) := by rw [hb2.cell (p := ⟨w.heap.size, 1, none⟩) (Nat.lt_succ_self _)]; simp
        have e2 : w'.cell? ⟨w.heap.size, 2, none⟩ = some (.int .i64 0) := by rw [hb2.cell (p := ⟨w.heap.size, 2, none⟩) (Nat.lt_succ_self _)]; simp
        have f0 : ∀ o, w'.frozen? ⟨w.heap.size, o, none⟩ = false := by intro o; rw [hb2.frozen (p := ⟨w.heap.size, o, none⟩) (Nat.lt_succ_self _)]; simp
        go_wp2
        have hv : spn r = (a, b, c) := by rw [← HS.out, spanIn_drop_hit r k (by rw [spanTab_length]; exact hlt) (by rw [HP.out]; exact hh), HP.out]
        rw [hv]
        exact bodyPost_ret (v := .agg #[.int .i32 a, .int .i32 b, .int .i64 c]) (by simp [results, Tryd.results133, go_sem, e0, e1, e2]) rfl ⟨rfl, ((((Below.refl _ _).alloc (Nat.le_refl _) _).trans (hb2.mono (by simp))).setCell (by simp) _ |>.setCell (by simp) _).setCell (by simp) _⟩
    · obtain rfl : k = 38 := by omega
      have e0 : wr.cell? ⟨w.heap.size, 0, none⟩ = some (.int .i32 0) := by rw [hb.cell (p := ⟨w.heap.size, 0, none⟩) (Nat.lt_succ_self _)]; simp
      have e1 : wr.cell? ⟨w.heap.size, 1, none⟩ = some (.int .i32 0) := by rw [hb.cell (p := ⟨w.heap.size, 1, none⟩) (Nat.lt_succ_self _)]; simp
      have e2 : wr.cell? ⟨w.heap.size, 2, none⟩ = some (.int .i64 0) := by rw [hb.cell (p := ⟨w.heap.size, 2, none⟩) (Nat.lt_succ_self _)]; simp
      have f0 : ∀ o, wr.frozen? ⟨w.heap.size, o, none⟩ = false := by intro o; rw [hb.frozen (p := ⟨w.heap.size, o, none⟩) (Nat.lt_succ_self _)]; simp
      go_wp2
      have hv : spn r = (0, 0, 0) := by rw [← HS.out, spanIn_end r]
      rw [hv]
      exact bodyPost_ret (v := .agg #[.int .i32 0, .int .i32 0, .int .i64 0]) (by simp [results, Tryd.results133, go_sem, e0, e1, e2]) rfl ⟨rfl, ((((Below.refl _ _).alloc (Nat.le_refl _) _).trans (hb.mono (by simp))).setCell (by simp) _ |>.setCell (by simp) _).setCell (by simp) _⟩

theorem field_kind (a b c : Int) (w : World) : (Instr.field 178 (.agg #[.int .i32 a, .int .i32 b, .int .i64 c]) 2).run Tryd.prog w = .ok (.int .i64 c) w := by kernel_rfl
set_option maxHeartbeats 400000 in
theorem kind_any (r : Int) (w : World) (hT : SpanCells w) :
    Calls Tryd.prog 108 #[.int .i32 r] w fun e w' => e = .returned (.int .i64 (kd r)) ∧ Below w.heap.size w w' := by
  have hfd := field_kind (spn r).1 (spn r).2.1 (spn r).2.2
  go_enter Tryd.func108, Tryd.ntmps108
  go_wp2_with (go_at_call 133; refine (spanOf_any _ _ hT).mono ?_; rintro e w' ⟨rfl, hb1⟩)
  go_ret
  exact ⟨rfl, hb1⟩
/-- A rune that may stand in a name behind its first. -/
theorem goesOn_any (r : Int) (w : World) (hT : SpanCells w) :
    Calls Tryd.prog 109 #[.int .i32 r] w fun e w' => e = .returned (.bool (onB r)) ∧ Below w.heap.size w w' := by
  cases h1 : (kd r == 1)
  · cases h2 : (kd r == 2)
    · go_enter Tryd.func109, Tryd.ntmps109
      go_wp2_with (go_at_call 108; refine (kind_any _ _ hT).mono ?_; rintro e w' ⟨rfl, hb1⟩)
      go_ret
      exact ⟨ret_bool (by simp [onB, h1, h2]), hb1⟩
    · go_enter Tryd.func109, Tryd.ntmps109
      go_wp2_with (go_at_call 108; refine (kind_any _ _ hT).mono ?_; rintro e w' ⟨rfl, hb1⟩)
      go_ret
      exact ⟨ret_bool (by simp [onB, h1, h2]), hb1⟩
  · go_enter Tryd.func109, Tryd.ntmps109
    go_wp2_with (go_at_call 108; refine (kind_any _ _ hT).mono ?_; rintro e w' ⟨rfl, hb1⟩)
    go_ret
    exact ⟨ret_bool (by simp [onB, h1]), hb1⟩
end Go.Proofs.YtfdghbbanokopaaDoor

set_option linter.unusedSimpArgs false
namespace Go.Proofs.YtfdghbbanokopaaDoor
open Go.RowKit Go.Lib

/-- The tables that the program reads lie in memory. -/
structure Tabs (w : World) : Prop where
  spans : SpanCells w
  utf : Lib.Utf8Tabs 0 1 w

theorem Tabs.below {w w' : World} (h : Tabs w) (hb : Below w.heap.size w w') : Tabs w' := by
  refine ⟨h.spans.below hb, fun c hc => ?_, fun i hi => ?_⟩
  · have h0 := h.utf.1 c hc
    exact (hb.cell (World.block_lt_of_cell? w _ h0)).trans h0
  · have h0 := h.utf.2 i hi
    exact ⟨(hb.cell (World.block_lt_of_cell? w _ h0.1)).trans h0.1, (hb.cell (World.block_lt_of_cell? w _ h0.2)).trans h0.2⟩

/-- The iterator over s, laid when the world was w, stands at pos; nothing of w has turned. -/
structure It (w : World) (s : ByteArray) (pos : Nat) (wr : World) : Prop where
  at_ : wr.heap[w.heap.size]? = some (.stringIter s pos)
  below : Below w.heap.size w wr

theorem It.start (w : World) (s : ByteArray) : It w s 0 (w.iter s 0) := ⟨World.iter_heap w s 0, (Below.refl _ _).alloc (Nat.le_refl _) _⟩
theorem It.lt {w : World} {s : ByteArray} {pos : Nat} {wr : World} (h : It w s pos wr) : w.heap.size < wr.heap.size := (Array.getElem?_eq_some_iff.1 h.at_).1
theorem It.next {w : World} {s : ByteArray} {pos : Nat} {wr : World} (h : It w s pos wr) (pos' : Nat) : It w s pos' (wr.iterAt w.heap.size s pos') :=
  ⟨iterAt_heap wr _ s pos pos' h.at_, below_iterAt h.below (Nat.le_refl _) s pos'⟩
theorem It.call {w : World} {s : ByteArray} {pos : Nat} {wr w2 : World} (h : It w s pos wr) (hb : Below wr.heap.size wr w2) : It w s pos w2 :=
  ⟨(hb.block _ h.lt).trans h.at_, h.below.trans (hb.mono (Nat.le_of_lt h.lt))⟩
theorem It.pos {w : World} {s : ByteArray} {pos : Nat} {wr : World} (h : It w s pos wr) : wr.iterPos w.heap.size = pos := by
  simp [World.iterPos, h.at_]
theorem It.tabs {w : World} {s : ByteArray} {pos : Nat} {wr : World} (h : It w s pos wr) (hT : Tabs w) : Tabs wr := hT.below h.below

/-! ### Name -/
set_option maxHeartbeats 1000000 in
theorem name_spans (s : ByteArray) (w : World) (hT : SpanCells w) :
    Calls Tryd.prog 85 #[.string s] w fun e w' => e = .returned (.bool (nameB s)) ∧ Below w.heap.size w w' := by
  go_enter Tryd.func85, Tryd.ntmps85
  go_wp2
  go_loopw [3] (fun c w' => ∃ (pos f n : Nat), It w s pos w' ∧ c = .int .i64 n ∧ n ≤ 16 ∧ (pos = 0 ↔ n = 0) ∧ Hid (nmF s f pos n = nameB s) ∧ s.size ≤ pos + f) (fun _ w' => s.size - w'.iterPos w.heap.size)
  case atStart => exact ⟨0, s.size, 0, It.start w s, rfl, by omega, by simp, rfl, by omega⟩
  case round =>
    obtain ⟨pos, f, n, hI, rfl, hn, h0, HN, hf⟩ := hrel
    have hm := hI.pos
    by_cases hp : pos < s.size
    · have hnx : ∀ ty, (Instr.next (.pointer (some ⟨w.heap.size, 0, none⟩)) true ty).run Tryd.prog wr = _ := fun ty => run_next_any_at wr w.heap.size s pos ty hI.at_ hp
      obtain ⟨f, rfl⟩ : ∃ g, f = g + 1 := ⟨f - 1, by omega⟩
      have hw := width_pos s pos hp
      have HX := nmF_step s f pos n hp
      generalize (Utf8.decode s pos).2 = v at *
      generalize ((Utf8.decode s pos).1 : Int) = r at *
      have hI1 := hI.next (pos + v)
      have hT1 := hT.below hI1.below
      have HY : Hid (nmF s (f + 1) pos n = nmS r n (nmF s f (pos + v) (n + 1))) := HX
      clear HX
      go_wp2_with (first | (go_at_call 108; refine (kind_any _ _ hT1).mono ?_; rintro e w2 ⟨rfl, hb2⟩; have hT2 := hT1.below hb2) | (go_at_call 109; refine (goesOn_any _ _ (by first | exact hT2 | exact hT1)).mono ?_; rintro e w3 ⟨rfl, hb3⟩))
      · have hI3 := (hI1.call hb2).call hb3
        have hn0 : n = 0 := by assumption
        subst hn0
        have hk : kd r = 1 := by assumption
        refine ⟨⟨pos + v, f, 1, hI3, rfl, by omega, by omega, ?_, by omega⟩, ?_⟩
        · show nmF s f (pos + v) 1 = nameB s
          rw [← HN.out, HY.out]; simp [nmS, *]
        · rw [hI3.pos, hm]; omega
      · go_ret
        have hn0 : n = 0 := by assumption
        subst hn0
        have hk : kd r = 1 := by assumption
        exact ⟨ret_bool (by rw [← HN.out, HY.out]; simp [nmS, *]), ((hI1.call hb2).call hb3).below⟩
      · go_ret
        have hn0 : n = 0 := by assumption
        subst hn0
        exact ⟨ret_bool (by rw [← HN.out, HY.out]; simp [nmS, *]), (hI1.call hb2).below⟩
      · go_ret
        have hn16 : n = 16 := by have : ((n : Int) == 16) = true := by assumption
                                 simp at this; omega
        subst hn16
        exact ⟨ret_bool (by rw [← HN.out, HY.out, nmF_long s f _ 17 (by omega)]; simp [nmS]), (hI1.call hb3).below⟩
      · have hI3 := hI1.call hb3
        have hn16 : ¬ n = 16 := by have : ((n : Int) == 16) = false := by assumption
                                   simp at this; omega
        have hn0 : ¬ n = 0 := by assumption
        refine ⟨⟨pos + v, f, n + 1, hI3, by go_num, by omega, by omega, ?_, by omega⟩, ?_⟩
        · show nmF s f (pos + v) (n + 1) = nameB s
          rw [← HN.out, HY.out]; simp [nmS, *]
        · rw [hI3.pos, hm]; omega
      · go_ret
        exact ⟨ret_bool (by rw [← HN.out, HY.out]; simp [nmS, *]), (hI1.call hb3).below⟩
    · have hnx : ∀ ty, (Instr.next (.pointer (some ⟨w.heap.size, 0, none⟩)) true ty).run Tryd.prog wr = _ := fun ty => run_next_end_at wr w.heap.size s pos ty hI.at_ hp
      go_wp2
      go_ret
      exact ⟨ret_bool (by rw [← HN.out, nmF_end s f pos n hp]; apply decide_eq_decide.2; omega), hI.below⟩

end Go.Proofs.YtfdghbbanokopaaDoor

set_option linter.unusedSimpArgs false
set_option linter.unusedVariables false
namespace Go.Proofs.YtfdghbbanokopaaDoor
open Go.Lib

theorem tail_size (s : ByteArray) (k : Nat) : (s.extract k s.size).size = s.size - k := by simp [ByteArray.size_extract]
theorem dec_tail (s : ByteArray) (k i : Nat) : Utf8.decode (s.extract k s.size) i = Utf8.decode s (k + i) := by
  rw [decode_at, decode_at, tail_size, tail_get!, tail_get!, tail_get!, tail_get!]
  have : s.size - k - i = s.size - (k + i) := by omega
  rw [this]
  simp [Nat.add_assoc]
theorem decodeN_le (n b0 b1 b2 b3 : Nat) (h : 0 < n) : (decodeN n b0 b1 b2 b3).2 ≤ n := by
  unfold decodeN
  repeat' split
  all_goals first | omega | (simp only; omega)
theorem dec_le (s : ByteArray) (pos : Nat) (h : pos < s.size) : pos + (Utf8.decode s pos).2 ≤ s.size := by
  have := decodeN_le (s.size - pos) (s.get! pos).toNat (s.get! (pos + 1)).toNat (s.get! (pos + 2)).toNat (s.get! (pos + 3)).toNat (by omega)
  rw [decode_at]; omega
theorem decGo (s : ByteArray) (h : s.size ≠ 0) : decodeGo s = Utf8.decode s 0 := by simp [decodeGo, h]
theorem runesFrom_fuel (s : ByteArray) : ∀ (f g pos : Nat), s.size ≤ pos + f → s.size ≤ pos + g → runesFrom s f pos = runesFrom s g pos
  | 0, g, pos, h, _ => by rw [runesFrom_end s 0 pos (by omega), runesFrom_end s g pos (by omega)]
  | f + 1, 0, pos, _, h => by rw [runesFrom_end s 0 pos (by omega), runesFrom_end s _ pos (by omega)]
  | f + 1, g + 1, pos, hf, hg => by
    by_cases hp : pos < s.size
    · have hw := width_pos s pos hp
      rw [runesFrom_cons s f pos hp, runesFrom_cons s g pos hp, runesFrom_fuel s f g _ (by omega) (by omega)]
    · rw [runesFrom_end s _ pos hp, runesFrom_end s _ pos hp]

theorem empty_yes (s : ByteArray) (h : s.size = 0) : s.toList.isEmpty = true := by
  rw [Lib.toList_data]
  have : s.data.toList = [] := List.eq_nil_of_length_eq_zero (by rw [← Lib.size_eq]; exact h)
  rw [this]; rfl
theorem empty_no (s : ByteArray) (h : ¬ s.size = 0) : s.toList.isEmpty = false := by
  rw [Lib.toList_data]
  cases h' : s.data.toList with
  | nil => exact absurd (by rw [Lib.size_eq, h']; rfl) h
  | cons _ _ => rfl

/-- The runes of a text. -/
def rl (s : ByteArray) : List Int := runesFrom s s.size 0
theorem runesFrom_tail (s : ByteArray) (k : Nat) : ∀ (f pos : Nat), runesFrom (s.extract k s.size) f pos = runesFrom s f (k + pos)
  | 0, _ => rfl
  | f + 1, pos => by
    by_cases hp : k + pos < s.size
    · rw [runesFrom_cons s f _ hp, runesFrom_cons _ f pos (by rw [tail_size]; omega), dec_tail, runesFrom_tail s k f, Nat.add_assoc]
    · rw [runesFrom_end s _ _ hp, runesFrom_end _ _ _ (by rw [tail_size]; omega)]
theorem rl_tail (s : ByteArray) (k : Nat) : rl (s.extract k s.size) = runesFrom s s.size k := by
  unfold rl
  rw [runesFrom_tail, tail_size]
  by_cases h : k ≤ s.size
  · exact runesFrom_fuel s _ _ _ (by omega) (by omega)
  · rw [runesFrom_end s _ _ (by omega), runesFrom_end s _ _ (by omega)]
theorem rl_nil (s : ByteArray) (h : s.size = 0) : rl s = [] := runesFrom_end s _ 0 (by omega)
theorem rl_cons (s : ByteArray) (h : s.size ≠ 0) : rl s = ((decodeGo s).1 : Int) :: rl (s.extract (decodeGo s).2 s.size) := by
  have hp : 0 < s.size := by omega
  have hw := width_pos s 0 hp
  rw [rl_tail, decGo s h]
  unfold rl
  obtain ⟨f, hf⟩ : ∃ f, s.size = f + 1 := ⟨s.size - 1, by omega⟩
  rw [hf, runesFrom_cons s f 0 hp, runesFrom_fuel s f (f + 1) (0 + _) (by omega) (by omega), Nat.zero_add]

/-! ### The order of two texts -/
def cmp3 (a b : Int) : Int := if a < b then -1 else if b < a then 1 else 0
def cmpL : List Int → List Int → Int
  | [], [] => 0
  | [], _ :: _ => -1
  | _ :: _, [] => 1
  | a :: l, b :: m => if cmp3 a b = 0 then cmpL l m else cmp3 a b
def ordI (s t : ByteArray) : Int := cmpL (rl s) (rl t)
end Go.Proofs.YtfdghbbanokopaaDoor

namespace Go.Proofs.YtfdghbbanokopaaDoor
open Go.Lib

/-- A byte that belongs to no character. -/
def bad (s : ByteArray) (pos : Nat) : Bool := (Utf8.decode s pos).1 == 65533 && (Utf8.decode s pos).2 == 1
theorem decodeN_width (n b0 b1 b2 b3 : Nat) : 1 ≤ (decodeN n b0 b1 b2 b3).2 ∧ (decodeN n b0 b1 b2 b3).2 ≤ 4 := by
  unfold decodeN
  repeat' split
  all_goals simp

theorem bytes3 (s : ByteArray) (pos : Nat) (h : pos + 3 ≤ s.size) : (s.extract pos (pos + 3)).data.toList = [s.get! pos, s.get! (pos + 1), s.get! (pos + 2)] := by
  rw [extract_data]
  have e : pos + 3 - pos = 3 := by omega
  rw [e]
  have hl : s.data.toList.length = s.size := (size_eq s).symm
  rw [List.drop_eq_getElem_cons (by omega), List.drop_eq_getElem_cons (by omega), List.drop_eq_getElem_cons (by omega)]
  simp only [List.take_succ_cons, List.take_zero, List.cons.injEq, and_true]
  have g : ∀ (k : Nat) (hk : k < s.size), s.data.toList[k]'(by omega) = s.get! k := by
    intro k hk
    rw [Utf8W.get!_of_lt s k hk]; rfl
  exact ⟨g pos (by omega), g (pos + 1) (by omega), g (pos + 2) (by omega)⟩

theorem bad_eq {s : ByteArray} {pos : Nat} (h : bad s pos = true) : Utf8.decode s pos = (65533, 1) := by
  simp [bad] at h; exact Prod.ext h.1 h.2
end Go.Proofs.YtfdghbbanokopaaDoor

namespace Go.Proofs.YtfdghbbanokopaaDoor
open Go.Lib

/-! ### Check -/
def chkF (s : ByteArray) : Nat → Nat → Nat × Int
  | 0, _ => (0, 0)
  | f + 1, pos => if pos < s.size then (if bad s pos then (pos, 4) else chkF s f (pos + (Utf8.decode s pos).2)) else (0, 0)
def chk (s : ByteArray) : Nat × Int := chkF s s.size 0
theorem chkF_bad (s : ByteArray) (f pos : Nat) (h : pos < s.size) (hb : bad s pos = true) : chkF s (f + 1) pos = (pos, 4) := by simp [chkF, h, hb]
theorem chkF_good (s : ByteArray) (f pos : Nat) (h : pos < s.size) (hb : bad s pos = false) : chkF s (f + 1) pos = chkF s f (pos + (Utf8.decode s pos).2) := by simp [chkF, h, hb]
theorem chkF_end (s : ByteArray) (f pos : Nat) (h : ¬ pos < s.size) : chkF s f pos = (0, 0) := by cases f <;> simp [chkF, h]

/-! ### Span -/
/-! ### Number -/
/-! ### Column -/
end Go.Proofs.YtfdghbbanokopaaDoor

set_option linter.unusedSimpArgs false
namespace Go.Proofs.YtfdghbbanokopaaDoor
open Go.RowKit Go.Lib

theorem first_any (s : ByteArray) (w : World) (hT : Tabs w) :
    Calls Tryd.prog 75 #[.string s] w fun e w' => e = .returned (.int .i32 (decodeGo s).1) ∧ Below w.heap.size w w' := by
  go_enter Tryd.func75, Tryd.ntmps75
  go_wp2_with (go_at_call 102; refine (Tryd.utf8_DecodeRuneInString _ _ hT.utf).mono ?_; rintro e w2 ⟨rfl, hb2⟩)
  go_ret
  exact ⟨rfl, hb2⟩
theorem width_any (s : ByteArray) (w : World) (hT : Tabs w) :
    Calls Tryd.prog 76 #[.string s] w fun e w' => e = .returned (.int .i64 (decodeGo s).2) ∧ Below w.heap.size w w' := by
  go_enter Tryd.func76, Tryd.ntmps76
  go_wp2_with (go_at_call 102; refine (Tryd.utf8_DecodeRuneInString _ _ hT.utf).mono ?_; rintro e w2 ⟨rfl, hb2⟩)
  go_ret
  exact ⟨rfl, hb2⟩
end Go.Proofs.YtfdghbbanokopaaDoor
