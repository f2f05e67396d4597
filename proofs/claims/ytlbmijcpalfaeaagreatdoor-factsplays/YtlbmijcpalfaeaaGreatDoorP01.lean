/-
  Pure, Shelf, KindW, IterW.
-/
import Derived.Test.YtlbmijcpalfaeaaGreatDoorProg
import Derived.Shelf.Unicode.DecodeSlow
import Derived.Laws.RangeAny
import Derived.Shelf.LaysM
import Derived.Shelf.Strconv.Clone
import Derived.Shelf.Unicode.Decode
import Derived.Shelf.Unicode.DecodeAny
import Derived.Ground.Names2Prog
import Derived.Shelf.Slices.Clone
import Derived.Shelf.Slices.SearchI
import Derived.Ground.SlgnProg
import Derived.Shelf.SlicesE.Clone
import Derived.WalkKit
import Derived.Deep.DeepFit
import Derived.Lib.OthersKept
set_option linter.unusedSimpArgs false
namespace Go.Proofs.YtlbmijcpalfaeaaGreatDoor

/-- The spans as the program's table lays them: first, last, kind. -/
def spanTab : List (Int × Int × Int) := [(97, 122, 1), (65, 90, 1), (95, 95, 1), (192, 214, 1), (216, 246, 1), (248, 591, 1), (880, 893, 1), (895, 902, 1), (904, 1023, 1), (1024, 1153, 1), (1162, 1327, 1), (19968, 40959, 1), (66560, 66639, 1), (48, 57, 2), (1632, 1641, 2), (65296, 65305, 2), (9, 10, 3), (13, 13, 3), (32, 32, 3), (160, 160, 3), (12288, 12288, 3), (37, 38, 4), (40, 45, 4), (47, 47, 4), (58, 64, 4), (94, 94, 4), (124, 124, 4), (126, 126, 4), (172, 172, 4), (183, 183, 4), (215, 215, 4), (247, 247, 4), (8722, 8722, 4), (8743, 8744, 4), (8801, 8801, 4), (8810, 8811, 4), (8853, 8853, 4), (8320, 8329, 5)]

/-- Does r stand in the span from a to b? -/
def hasB (a b r : Int) : Bool := decide (a ≤ r ∧ r ≤ b)

def spanIn : List (Int × Int × Int) → Int → Int × Int × Int
  | [], _ => (0, 0, 0)
  | p :: l, r => if hasB p.1 p.2.1 r then p else spanIn l r

/-- The span of r; its kind. -/
def spn (r : Int) : Int × Int × Int := spanIn spanTab r
def kd (r : Int) : Int := (spn r).2.2

/-- May r stand in a name behind its first? -/
def onB (r : Int) : Bool := kd r == 1 || kd r == 2 || kd r == 5

/-- The document's own tests, as it writes them. -/
def letB (r : Int) : Bool :=
  if hasB 97 122 r || hasB 65 90 r || r == 95 then true
  else if hasB 192 591 r then r != 215 && r != 247
  else if hasB 880 1023 r then r != 894 && r != 903
  else if hasB 1024 1327 r then !hasB 1154 1161 r
  else hasB 19968 40959 r || hasB 66560 66639 r
def digV (r : Int) : Int := if hasB 48 57 r then r - 48 else if hasB 1632 1641 r then r - 1632 else if hasB 65296 65305 r then r - 65296 else -1
def digZ (r : Int) : Int := if hasB 48 57 r then 48 else if hasB 1632 1641 r then 1632 else if hasB 65296 65305 r then 65296 else 0

def blkB (r : Int) : Bool := r == 32 || r == 9 || r == 10 || r == 13 || r == 160 || r == 12288
def signList : List Int := [40, 41, 43, 45, 42, 47, 37, 38, 124, 94, 126, 60, 62, 61, 63, 58, 59, 44, 64, 172, 183, 215, 247, 8722, 8743, 8744, 8801, 8810, 8811, 8853]
def isSign (r : Int) : Bool := signList.any (· == r)
def sgnK (b : Bool) : Int := if b then 4 else 0
/-- The document's kind, as it writes it. -/
def kindR (r : Int) : Int := if letB r then 1 else if 0 ≤ digV r then 2 else if blkB r then 3 else if hasB 8320 8329 r then 5 else sgnK (isSign r)

theorem spanTab_length : spanTab.length = 38 := rfl

theorem spanIn_drop_hit (r : Int) (k : Nat) (h : k < spanTab.length) (hh : hasB (spanTab.getD k (0, 0, 0)).1 (spanTab.getD k (0, 0, 0)).2.1 r = true) : spanIn (spanTab.drop k) r = spanTab.getD k (0, 0, 0) := by
  rw [List.drop_eq_getElem_cons h]
  have e : spanTab.getD k (0, 0, 0) = spanTab[k] := by simp [h]
  rw [e] at hh ⊢
  simp [spanIn, hh]
theorem spanIn_drop_miss (r : Int) (k : Nat) (h : k < spanTab.length) (hh : hasB (spanTab.getD k (0, 0, 0)).1 (spanTab.getD k (0, 0, 0)).2.1 r = false) : spanIn (spanTab.drop k) r = spanIn (spanTab.drop (k + 1)) r := by
  rw [List.drop_eq_getElem_cons h]
  have e : spanTab.getD k (0, 0, 0) = spanTab[k] := by simp [h]
  rw [e] at hh
  simp [spanIn, hh]
theorem spanIn_end (r : Int) : spanIn (spanTab.drop 38) r = (0, 0, 0) := rfl

/-! ### The steps of a range over a text -/
def runesFrom (s : ByteArray) : Nat → Nat → List Int
  | 0, _ => []
  | f + 1, pos => if pos < s.size then ((Utf8.decode s pos).1 : Int) :: runesFrom s f (pos + (Utf8.decode s pos).2) else []
theorem runesFrom_cons (s : ByteArray) (f pos : Nat) (h : pos < s.size) : runesFrom s (f + 1) pos = ((Utf8.decode s pos).1 : Int) :: runesFrom s f (pos + (Utf8.decode s pos).2) := by
  simp [runesFrom, h]
theorem runesFrom_end (s : ByteArray) (f pos : Nat) (h : ¬ pos < s.size) : runesFrom s f pos = [] := by
  cases f <;> simp [runesFrom, h]

theorem width_pos (s : ByteArray) (pos : Nat) (h : pos < s.size) : 1 ≤ (Utf8.decode s pos).2 := by
  by_cases ha : (s[pos]'h).toNat < 128
  · rw [decode_ascii s pos h ha]
    exact Nat.le_refl _
  · exact (decode_high s pos h (by omega)).2

/-- The document's signs, as its text holds them. -/
def signs : ByteArray := ⟨#[40, 41, 43, 45, 42, 47, 37, 38, 124, 94, 126, 60, 62, 61, 63, 58, 59, 44, 64, 194, 172, 194, 183, 195, 151, 195, 183, 226, 136, 146, 226, 136, 167, 226, 136, 168, 226, 137, 161, 226, 137, 170, 226, 137, 171, 226, 138, 149]⟩
theorem runesFrom_signs : runesFrom signs 48 0 = signList := by decide +kernel

/-! ### Names -/
/-- One step: r is the next rune, n were ahead, 'rest' is what the rest says. -/
def nmS (r : Int) (n : Nat) (rest : Bool) : Bool := if (n == 0 && kd r != 1) || !onB r then false else rest
def nmF (s : ByteArray) : Nat → Nat → Nat → Bool
  | 0, _, n => decide (1 ≤ n ∧ n ≤ 16)
  | f + 1, pos, n => if pos < s.size then nmS (Utf8.decode s pos).1 n (nmF s f (pos + (Utf8.decode s pos).2) (n + 1)) else decide (1 ≤ n ∧ n ≤ 16)
def nameB (s : ByteArray) : Bool := nmF s s.size 0 0
theorem nmF_step (s : ByteArray) (f pos n : Nat) (h : pos < s.size) : nmF s (f + 1) pos n = nmS (Utf8.decode s pos).1 n (nmF s f (pos + (Utf8.decode s pos).2) (n + 1)) := by
  simp [nmF, h]
theorem nmF_end (s : ByteArray) (f pos n : Nat) (h : ¬ pos < s.size) : nmF s f pos n = decide (1 ≤ n ∧ n ≤ 16) := by
  cases f <;> simp [nmF, h]
theorem nmF_long (s : ByteArray) : ∀ (f pos n : Nat), 17 ≤ n → nmF s f pos n = false
  | 0, _, n, h => by simp [nmF]; omega
  | f + 1, pos, n, h => by
    by_cases hp : pos < s.size
    · rw [nmF_step s f pos n hp, nmF_long s f _ (n + 1) (by omega)]
      simp [nmS]
    · rw [nmF_end s _ pos n hp]; simp; omega
end Go.Proofs.YtlbmijcpalfaeaaGreatDoor

namespace Go.Proofs.YtlbmijcpalfaeaaGreatDoor

theorem kindIn_const (k : Int) (m : List (Int × Int × Int)) (r : Int) : ∀ l : List (Int × Int × Int), (l.all fun p => p.2.2 == k) = true → (spanIn (l ++ m) r).2.2 = if (l.any fun p => hasB p.1 p.2.1 r) = true then k else (spanIn m r).2.2
  | [], _ => by simp
  | p :: l, h => by
    simp only [List.all_cons, Bool.and_eq_true, beq_iff_eq] at h
    have ih := kindIn_const k m r l h.2
    by_cases hp : hasB p.1 p.2.1 r = true
    · have e1 : ((p :: l).any fun p => hasB p.1 p.2.1 r) = true := by simp [hp]
      have e2 : spanIn (p :: l ++ m) r = p := by simp [spanIn, hp]
      rw [e1, e2, if_pos rfl, h.1]
    · simp only [Bool.not_eq_true] at hp
      have e1 : ((p :: l).any fun p => hasB p.1 p.2.1 r) = l.any fun p => hasB p.1 p.2.1 r := by rw [List.any_cons, hp, Bool.false_or]
      have e2 : spanIn (p :: l ++ m) r = spanIn (l ++ m) r := by simp [spanIn, hp]
      rw [e1, e2, ih]

def lets : List (Int × Int × Int) := spanTab.take 13
def digs : List (Int × Int × Int) := (spanTab.drop 13).take 3
def blks : List (Int × Int × Int) := (spanTab.drop 16).take 5
def sgns : List (Int × Int × Int) := (spanTab.drop 21).take 16
def idxs : List (Int × Int × Int) := spanTab.drop 37
theorem spanTab_parts : spanTab = lets ++ (digs ++ (blks ++ (sgns ++ (idxs ++ [])))) := rfl

theorem kd_parts (r : Int) : kd r = if (lets.any fun p => hasB p.1 p.2.1 r) = true then 1 else if (digs.any fun p => hasB p.1 p.2.1 r) = true then 2 else if (blks.any fun p => hasB p.1 p.2.1 r) = true then 3 else if (sgns.any fun p => hasB p.1 p.2.1 r) = true then 4 else if (idxs.any fun p => hasB p.1 p.2.1 r) = true then 5 else 0 := by
  unfold kd spn
  rw [spanTab_parts, kindIn_const 1 _ r lets (by decide), kindIn_const 2 _ r digs (by decide), kindIn_const 3 _ r blks (by decide), kindIn_const 4 _ r sgns (by decide), kindIn_const 5 _ r idxs (by decide)]
  rfl

theorem lets_eq (r : Int) : (lets.any fun p => hasB p.1 p.2.1 r) = letB r := by
  rw [Bool.eq_iff_iff]
  simp only [lets, spanTab, List.take_succ_cons, List.take_zero, List.any_cons, List.any_nil, letB, hasB]
  by_cases h1 : 192 ≤ r ∧ r ≤ 591
  · simp [h1]; omega
  · by_cases h2 : 880 ≤ r ∧ r ≤ 1023
    · simp [h1, h2]; omega
    · by_cases h3 : 1024 ≤ r ∧ r ≤ 1327
      · simp [h1, h2, h3]; omega
      · simp [h1, h2, h3]; omega
theorem digs_eq (r : Int) : (digs.any fun p => hasB p.1 p.2.1 r) = decide (0 ≤ digV r) := by
  rw [Bool.eq_iff_iff]
  simp only [digs, spanTab, List.take_succ_cons, List.take_zero, List.drop_succ_cons, List.drop_zero, List.any_cons, List.any_nil, digV, hasB, decide_eq_true_eq, Bool.or_eq_true]
  simp only [Bool.false_eq_true, or_false]
  split
  · omega
  · split
    · omega
    · split <;> omega
theorem blks_eq (r : Int) : (blks.any fun p => hasB p.1 p.2.1 r) = blkB r := by
  rw [Bool.eq_iff_iff]
  simp only [blks, spanTab, List.take_succ_cons, List.take_zero, List.drop_succ_cons, List.drop_zero, List.any_cons, List.any_nil, blkB, hasB, decide_eq_true_eq, Bool.or_eq_true, beq_iff_eq]
  simp
  omega
theorem sgns_eq (r : Int) : (sgns.any fun p => hasB p.1 p.2.1 r) = isSign r := by
  rw [Bool.eq_iff_iff]
  simp only [sgns, spanTab, List.take_succ_cons, List.take_zero, List.drop_succ_cons, List.drop_zero, List.any_cons, List.any_nil, isSign, signList, hasB, decide_eq_true_eq, Bool.or_eq_true, beq_iff_eq]
  simp
  omega
theorem idxs_eq (r : Int) : (idxs.any fun p => hasB p.1 p.2.1 r) = hasB 8320 8329 r := by
  simp [idxs, spanTab]
/-- Signs are no indices. -/
theorem sign_no_index (r : Int) (h : hasB 8320 8329 r = true) : isSign r = false := by
  have hb : 8320 ≤ r ∧ r ≤ 8329 := by simpa [hasB] using h
  have hn : ¬ isSign r = true := by
    simp only [isSign, signList, List.any_cons, List.any_nil, Bool.or_eq_true, beq_iff_eq]
    simp
    omega
  simpa using hn

theorem kd_eq (r : Int) : kd r = kindR r := by
  rw [kd_parts, lets_eq, digs_eq, blks_eq, sgns_eq, idxs_eq]
  unfold kindR
  cases h1 : letB r
  · by_cases h2 : 0 ≤ digV r
    · simp [h2]
    · cases h3 : blkB r
      · cases h4 : hasB 8320 8329 r
        · cases h5 : isSign r <;> simp [h2, sgnK]
        · simp [h2, sign_no_index r h4]
      · simp [h2]
  · simp
end Go.Proofs.YtlbmijcpalfaeaaGreatDoor

namespace Go.Proofs
open Go.Shelf
def Tryz.laysM316_ren : Go.Shelf.Ren := ⟨fun | 316 => 114 | n => n, fun | 9 => 9 | 3 => 3 | 4 => 4 | 37 => 91 | 0 => 0 | 127 => 170 | 5 => 5 | n => n, fun | n => n⟩
theorem Tryz.laysM316 : Go.Proofs.LaysM.n316 Tryz.prog Tryz.laysM316_ren := {
  mixed := by kernel_rfl
  f316 := Tryz.func114.trans (congrArg some (by kernel_rfl))
  t0 := Tryz.underlying0
  a0 := Tryz.isAgg0
  z0 := Tryz.sizeOf0
  v0 := Tryz.zeroValue0
  t3 := Tryz.underlying3
  a3 := Tryz.isAgg3
  z3 := Tryz.sizeOf3
  v3 := Tryz.zeroValue3
  t4 := Tryz.underlying4
  a4 := Tryz.isAgg4
  z4 := Tryz.sizeOf4
  v4 := Tryz.zeroValue4
  t9 := Tryz.underlying9
  a9 := Tryz.isAgg9
  z9 := Tryz.sizeOf9
  v9 := Tryz.zeroValue9
  t37 := Tryz.underlying91
  a37 := Tryz.isAgg91
  z37 := Tryz.sizeOf91
  v37 := Tryz.zeroValue91
  t127 := Tryz.underlying170
  a127 := Tryz.isAgg170
  z127 := Tryz.sizeOf170
  v127 := Tryz.zeroValue170
  t5 := Tryz.underlying5
  a5 := Tryz.isAgg5
  z5 := Tryz.sizeOf5
  v5 := Tryz.zeroValue5
  i0 := by kernel_rfl
  i3 := by kernel_rfl
  i4 := by kernel_rfl
  i5 := by kernel_rfl
  i9 := by kernel_rfl
  i37 := by kernel_rfl
  i127 := by kernel_rfl }
open Go.RowKit in
/-- internal/stringslite.Clone (what strings.Clone calls): "Clone returns a fresh copy of s.": THE SAME BYTES. Of what was there nothing has turned (a new row is laid, and frozen, where s is not empty). (LAID: no walk: one application.) -/
theorem Tryz.stringslite_Clone (s : ByteArray) (w : World) (hlim : s.size ≤ 281474976710656) :
    Calls Tryz.prog 114 #[.string s] w fun e w' => e = .returned (.string s) ∧ Below w.heap.size w w' := Any.stringslite_Clone Tryz.laysM316 s w hlim
def Tryz.lays197_ren : Go.Shelf.Ren := ⟨fun | 197 => 117 | 260 => 118 | n => n, fun | 9 => 9 | 21 => 21 | 3 => 3 | 4 => 4 | 5 => 5 | 105 => 168 | 119 => 171 | 0 => 0 | 46 => 121 | 139 => 174 | 138 => 173 | n => n, fun | 3 => 2 | 4 => 3 | n => n⟩
theorem Tryz.lays197 : Go.Proofs.Lays.n197 Tryz.prog Tryz.lays197_ren := {
  mixed := by kernel_rfl
  f197 := Tryz.func117.trans (congrArg some (by kernel_rfl))
  f260 := Tryz.func118.trans (congrArg some (by kernel_rfl))
  t0 := Tryz.underlying0
  a0 := Tryz.isAgg0
  z0 := Tryz.sizeOf0
  v0 := Tryz.zeroValue0
  t3 := Tryz.underlying3
  a3 := Tryz.isAgg3
  z3 := Tryz.sizeOf3
  v3 := Tryz.zeroValue3
  t4 := Tryz.underlying4
  a4 := Tryz.isAgg4
  z4 := Tryz.sizeOf4
  v4 := Tryz.zeroValue4
  t5 := Tryz.underlying5
  a5 := Tryz.isAgg5
  z5 := Tryz.sizeOf5
  v5 := Tryz.zeroValue5
  t9 := Tryz.underlying9
  a9 := Tryz.isAgg9
  z9 := Tryz.sizeOf9
  v9 := Tryz.zeroValue9
  t21 := Tryz.underlying21
  a21 := Tryz.isAgg21
  z21 := Tryz.sizeOf21
  v21 := Tryz.zeroValue21
  t46 := Tryz.underlying121
  a46 := Tryz.isAgg121
  z46 := Tryz.sizeOf121
  v46 := Tryz.zeroValue121
  t105 := Tryz.underlying168
  a105 := Tryz.isAgg168
  z105 := Tryz.sizeOf168
  v105 := Tryz.zeroValue168
  t119 := Tryz.underlying171
  a119 := Tryz.isAgg171
  z119 := Tryz.sizeOf171
  t138 := Tryz.underlying173
  a138 := Tryz.isAgg173
  z138 := Tryz.sizeOf173
  v138 := Tryz.zeroValue173
  t139 := Tryz.underlying174
  a139 := Tryz.isAgg174
  z139 := Tryz.sizeOf174
  v139 := Tryz.zeroValue174
  g3 := by kernel_rfl
  g4 := by kernel_rfl }
def Tryz.lays260_ren : Go.Shelf.Ren := ⟨fun | 260 => 118 | n => n, fun | 9 => 9 | 21 => 21 | 3 => 3 | 4 => 4 | 5 => 5 | 119 => 171 | 0 => 0 | 46 => 121 | 139 => 174 | 138 => 173 | n => n, fun | 3 => 2 | 4 => 3 | n => n⟩
theorem Tryz.lays260 : Go.Proofs.Lays.n260 Tryz.prog Tryz.lays260_ren := {
  mixed := by kernel_rfl
  f260 := Tryz.func118.trans (congrArg some (by kernel_rfl))
  t0 := Tryz.underlying0
  a0 := Tryz.isAgg0
  z0 := Tryz.sizeOf0
  v0 := Tryz.zeroValue0
  t3 := Tryz.underlying3
  a3 := Tryz.isAgg3
  z3 := Tryz.sizeOf3
  v3 := Tryz.zeroValue3
  t4 := Tryz.underlying4
  a4 := Tryz.isAgg4
  z4 := Tryz.sizeOf4
  v4 := Tryz.zeroValue4
  t5 := Tryz.underlying5
  a5 := Tryz.isAgg5
  z5 := Tryz.sizeOf5
  v5 := Tryz.zeroValue5
  t9 := Tryz.underlying9
  a9 := Tryz.isAgg9
  z9 := Tryz.sizeOf9
  v9 := Tryz.zeroValue9
  t21 := Tryz.underlying21
  a21 := Tryz.isAgg21
  z21 := Tryz.sizeOf21
  v21 := Tryz.zeroValue21
  t46 := Tryz.underlying121
  a46 := Tryz.isAgg121
  z46 := Tryz.sizeOf121
  v46 := Tryz.zeroValue121
  t119 := Tryz.underlying171
  a119 := Tryz.isAgg171
  z119 := Tryz.sizeOf171
  t138 := Tryz.underlying173
  a138 := Tryz.isAgg173
  z138 := Tryz.sizeOf173
  v138 := Tryz.zeroValue173
  t139 := Tryz.underlying174
  a139 := Tryz.isAgg174
  z139 := Tryz.sizeOf174
  v139 := Tryz.zeroValue174
  g3 := by kernel_rfl
  g4 := by kernel_rfl }
open Go.RowKit Go.Lib in
/-- **unicode/utf8.DecodeRuneInString AT EVERY STRING.** (LAID: no walk: one application.) -/
theorem Tryz.utf8_DecodeRuneInString (s : ByteArray) (w : World) (hT : Lib.Utf8Tabs 2 3 w) :
    Calls Tryz.prog 117 #[.string s] w fun e w' => e = .returned (.tuple #[.int .i32 (Lib.decodeGo s).1, .int .i64 (Lib.decodeGo s).2]) ∧ Below w.heap.size w w' := Any.utf8_DecodeRuneInString Tryz.lays197 s w hT
end Go.Proofs

set_option linter.unusedSimpArgs false
namespace Go.Proofs.YtlbmijcpalfaeaaGreatDoor
open Go.RowKit

theorem ret_bool {a b : Bool} (h : a = b) : Ending.returned (.bool a) = .returned (.bool b) := by rw [h]
theorem ret_int {k : IntKind} {a b : Int} (h : a = b) : Ending.returned (.int k a) = .returned (.int k b) := by rw [h]

/-- The table of spans lies in memory. -/
def SpanCells (w : World) : Prop := ∀ k, k < 38 → w.cell? ⟨1, k * 3, none⟩ = some (.int .i32 (spanTab.getD k (0, 0, 0)).1) ∧ w.cell? ⟨1, k * 3 + 1, none⟩ = some (.int .i32 (spanTab.getD k (0, 0, 0)).2.1) ∧ w.cell? ⟨1, k * 3 + 2, none⟩ = some (.int .i64 (spanTab.getD k (0, 0, 0)).2.2)

set_option maxHeartbeats 400000 in
theorem has_any (a b c r : Int) (w : World) :
    Calls Tryz.prog 108 #[.agg #[.int .i32 a, .int .i32 b, .int .i64 c], .int .i32 r] w fun e w' => e = .returned (.bool (hasB a b r)) ∧ Below w.heap.size w w' := by
  by_cases h1 : a ≤ r
  · by_cases h2 : r ≤ b
    · have hb : hasB a b r = true := by simp [hasB, h1, h2]
      rw [hb]; clear hb
      go_enter Tryz.func108, Tryz.ntmps108
      go_wp2
      go_ret
      exact ⟨by simp [h1, h2], (Below.refl _ _).alloc (Nat.le_refl _) _⟩
    · have hb : hasB a b r = false := by simp [hasB, h1, h2]
      rw [hb]; clear hb
      go_enter Tryz.func108, Tryz.ntmps108
      go_wp2
      go_ret
      exact ⟨by simp [h1, h2], (Below.refl _ _).alloc (Nat.le_refl _) _⟩
  · have hb : hasB a b r = false := by simp [hasB, h1]
    rw [hb]; clear hb
    go_enter Tryz.func108, Tryz.ntmps108
    go_wp2
    go_ret
    exact ⟨by simp, (Below.refl _ _).alloc (Nat.le_refl _) _⟩

theorem SpanCells.below {w w' : World} (h : SpanCells w) (hb : Below w.heap.size w w') : SpanCells w' := by
  intro k hk
  obtain ⟨h0, h1, h2⟩ := h k hk
  have hl : 1 < w.heap.size := World.block_lt_of_cell? w _ h0
  exact ⟨(hb.cell (p := ⟨1, k * 3, none⟩) hl).trans h0, (hb.cell (p := ⟨1, k * 3 + 1, none⟩) hl).trans h1, (hb.cell (p := ⟨1, k * 3 + 2, none⟩) hl).trans h2⟩
theorem SpanCells.pos {w : World} (h : SpanCells w) : 1 < w.heap.size := World.block_lt_of_cell? w _ (h 0 (by omega)).1

set_option maxHeartbeats 400000 in
theorem spanOf_any (r : Int) (w : World) (hT : SpanCells w) :
    Calls Tryz.prog 97 #[.int .i32 r] w fun e w' => e = .returned (.agg #[.int .i32 (spn r).1, .int .i32 (spn r).2.1, .int .i64 (spn r).2.2]) ∧ Below w.heap.size w w' := by
  have hpos := hT.pos
  have HT : Hid (SpanCells w) := hT
  clear hT
  go_enter Tryz.func97, Tryz.ntmps97
  go_wp2
  go_loopw [4] (fun i w' => ∃ k : Nat, k ≤ 38 ∧ i = .int .i64 k ∧ spanIn (spanTab.drop k) r = spn r ∧ Below (w.heap.size + 1) (w.alloc (.cells #[.int .i32 0, .int .i32 0, .int .i64 0] 149)) w') (fun i _ => 38 - (intOf i).toNat)
  case atStart => exact ⟨0, by omega, rfl, rfl, Below.refl _ _⟩
  case round =>
    obtain ⟨k, hk, rfl, hs, hb⟩ := hrel
    have HS : Hid (spanIn (spanTab.drop k) r = spn r) := hs
    clear hs
    by_cases hlt : k < 38
    · have hb0 : Below w.heap.size w wr := ((Below.refl _ _).alloc (Nat.le_refl _) _).trans (hb.mono (by simp))
      obtain ⟨c0, c1, c2⟩ := (SpanCells.below HT.out hb0) k hlt
      generalize hp : spanTab.getD k (0, 0, 0) = p at c0 c1 c2
      obtain ⟨a, b, c⟩ := p
      simp only at c0 c1 c2
      have HP : Hid (spanTab.getD k (0, 0, 0) = (a, b, c)) := hp
      clear hp
      have hz : w.heap.size + 1 ≤ wr.heap.size := by have := hb.size; simpa using this
      have hl : w.heap.size ≠ 0 := by omega
      cases hh : hasB a b r
      · go_wp2_with (go_at_call 108; refine (has_any a b c r _).mono ?_; rintro e w' ⟨rfl, hb1⟩)
        go_roundw
        case rel => exact ⟨k + 1, by omega, by go_num, by rw [← HS.out, spanIn_drop_miss r k (by rw [spanTab_length]; exact hlt) (by rw [HP.out]; exact hh)], hb.trans (hb1.mono hz)⟩
        case measure => simp [intOf]; omega
      · go_wp2_with fail
        refine (has_any a b c r _).mono ?_
        rintro e w' ⟨rfl, hb1⟩
        have hb2 : Below (w.heap.size + 1) (w.alloc (.cells #[.int .i32 0, .int .i32 0, .int .i64 0] 149)) w' := hb.trans (hb1.mono hz)
        obtain ⟨d0, d1, d2⟩ := (SpanCells.below HT.out (hb0.trans (hb1.mono (by omega)))) k hlt
        rw [HP.out] at d0 d1 d2
        have e0 : w'.cell? ⟨w.heap.size, 0, none⟩ = some (.int .i32 0) := by rw [hb2.cell (p := ⟨w.heap.size, 0, none⟩) (Nat.lt_succ_self _)]; simp
        have e1 : w'.cell? ⟨w.heap.size, 1, none⟩ = some (.int .i32 0) := by rw [hb2.cell (p := ⟨w.heap.size, 1, none⟩) (Nat.lt_succ_self _)]; simp
        have e2 : w'.cell? ⟨w.heap.size, 2, none⟩ = some (.int .i64 0) := by rw [hb2.cell (p := ⟨w.heap.size, 2, none⟩) (Nat.lt_succ_self _)]; simp
        have f0 : ∀ o, w'.frozen? ⟨w.heap.size, o, none⟩ = false := by intro o; rw [hb2.frozen (p := ⟨w.heap.size, o, none⟩) (Nat.lt_succ_self _)]; simp
        go_wp2
        have hv : spn r = (a, b, c) := by rw [← HS.out, spanIn_drop_hit r k (by rw [spanTab_length]; exact hlt) (by rw [HP.out]; exact hh), HP.out]
        rw [hv]
        exact bodyPost_ret (v := .agg #[.int .i32 a, .int .i32 b, .int .i64 c]) (by simp [results, Tryz.results97, go_sem, e0, e1, e2]) rfl ⟨rfl, ((((Below.refl _ _).alloc (Nat.le_refl _) _).trans (hb2.mono (by simp))).setCell (by simp) _ |>.setCell (by simp) _).setCell (by simp) _⟩
    · obtain rfl : k = 38 := by omega
      have e0 : wr.cell? ⟨w.heap.size, 0, none⟩ = some (.int .i32 0) := by rw [hb.cell (p := ⟨w.heap.size, 0, none⟩) (Nat.lt_succ_self _)]; simp
      have e1 : wr.cell? ⟨w.heap.size, 1, none⟩ = some (.int .i32 0) := by rw [hb.cell (p := ⟨w.heap.size, 1, none⟩) (Nat.lt_succ_self _)]; simp
      have e2 : wr.cell? ⟨w.heap.size, 2, none⟩ = some (.int .i64 0) := by rw [hb.cell (p := ⟨w.heap.size, 2, none⟩) (Nat.lt_succ_self _)]; simp
      have f0 : ∀ o, wr.frozen? ⟨w.heap.size, o, none⟩ = false := by intro o; rw [hb.frozen (p := ⟨w.heap.size, o, none⟩) (Nat.lt_succ_self _)]; simp
      go_wp2
      have hv : spn r = (0, 0, 0) := by rw [← HS.out, spanIn_end r]
      rw [hv]
      exact bodyPost_ret (v := .agg #[.int .i32 0, .int .i32 0, .int .i64 0]) (by simp [results, Tryz.results97, go_sem, e0, e1, e2]) rfl ⟨rfl, ((((Below.refl _ _).alloc (Nat.le_refl _) _).trans (hb.mono (by simp))).setCell (by simp) _ |>.setCell (by simp) _).setCell (by simp) _⟩

theorem field_kind (a b c : Int) (w : World) : (Instr.field 149 (.agg #[.int .i32 a, .int .i32 b, .int .i64 c]) 2).run Tryz.prog w = .ok (.int .i64 c) w := by kernel_rfl
set_option maxHeartbeats 400000 in
theorem kind_any (r : Int) (w : World) (hT : SpanCells w) :
    Calls Tryz.prog 72 #[.int .i32 r] w fun e w' => e = .returned (.int .i64 (kd r)) ∧ Below w.heap.size w w' := by
  have hfd := field_kind (spn r).1 (spn r).2.1 (spn r).2.2
  go_enter Tryz.func72, Tryz.ntmps72
  go_wp2_with (go_at_call 97; refine (spanOf_any _ _ hT).mono ?_; rintro e w' ⟨rfl, hb1⟩)
  go_ret
  exact ⟨rfl, hb1⟩
/-- A rune that may stand in a name behind its first. -/
theorem goesOn_any (r : Int) (w : World) (hT : SpanCells w) :
    Calls Tryz.prog 73 #[.int .i32 r] w fun e w' => e = .returned (.bool (onB r)) ∧ Below w.heap.size w w' := by
  cases h1 : (kd r == 1)
  · cases h2 : (kd r == 2)
    · go_enter Tryz.func73, Tryz.ntmps73
      go_wp2_with (go_at_call 72; refine (kind_any _ _ hT).mono ?_; rintro e w' ⟨rfl, hb1⟩)
      go_ret
      exact ⟨ret_bool (by simp [onB, h1, h2]), hb1⟩
    · go_enter Tryz.func73, Tryz.ntmps73
      go_wp2_with (go_at_call 72; refine (kind_any _ _ hT).mono ?_; rintro e w' ⟨rfl, hb1⟩)
      go_ret
      exact ⟨ret_bool (by simp [onB, h1, h2]), hb1⟩
  · go_enter Tryz.func73, Tryz.ntmps73
    go_wp2_with (go_at_call 72; refine (kind_any _ _ hT).mono ?_; rintro e w' ⟨rfl, hb1⟩)
    go_ret
    exact ⟨ret_bool (by simp [onB, h1]), hb1⟩
end Go.Proofs.YtlbmijcpalfaeaaGreatDoor

set_option linter.unusedSimpArgs false
namespace Go.Proofs.YtlbmijcpalfaeaaGreatDoor
open Go.RowKit Go.Lib

/-- The tables that the program reads lie in memory. -/
structure Tabs (w : World) : Prop where
  spans : SpanCells w
  utf : Lib.Utf8Tabs 2 3 w

theorem Tabs.below {w w' : World} (h : Tabs w) (hb : Below w.heap.size w w') : Tabs w' := by
  refine ⟨h.spans.below hb, fun c hc => ?_, fun i hi => ?_⟩
  · have h0 := h.utf.1 c hc
    exact (hb.cell (World.block_lt_of_cell? w _ h0)).trans h0
  · have h0 := h.utf.2 i hi
    exact ⟨(hb.cell (World.block_lt_of_cell? w _ h0.1)).trans h0.1, (hb.cell (World.block_lt_of_cell? w _ h0.2)).trans h0.2⟩

/-- The iterator over s, laid when the world was w, stands at pos; nothing of w has turned. -/
structure It (w : World) (s : ByteArray) (pos : Nat) (wr : World) : Prop where
  at_ : wr.heap[w.heap.size]? = some (.stringIter s pos)
  below : Below w.heap.size w wr

theorem It.start (w : World) (s : ByteArray) : It w s 0 (w.iter s 0) := ⟨World.iter_heap w s 0, (Below.refl _ _).alloc (Nat.le_refl _) _⟩
theorem It.lt {w : World} {s : ByteArray} {pos : Nat} {wr : World} (h : It w s pos wr) : w.heap.size < wr.heap.size := (Array.getElem?_eq_some_iff.1 h.at_).1
theorem It.next {w : World} {s : ByteArray} {pos : Nat} {wr : World} (h : It w s pos wr) (pos' : Nat) : It w s pos' (wr.iterAt w.heap.size s pos') :=
  ⟨iterAt_heap wr _ s pos pos' h.at_, below_iterAt h.below (Nat.le_refl _) s pos'⟩
theorem It.call {w : World} {s : ByteArray} {pos : Nat} {wr w2 : World} (h : It w s pos wr) (hb : Below wr.heap.size wr w2) : It w s pos w2 :=
  ⟨(hb.block _ h.lt).trans h.at_, h.below.trans (hb.mono (Nat.le_of_lt h.lt))⟩
theorem It.pos {w : World} {s : ByteArray} {pos : Nat} {wr : World} (h : It w s pos wr) : wr.iterPos w.heap.size = pos := by
  simp [World.iterPos, h.at_]
theorem It.tabs {w : World} {s : ByteArray} {pos : Nat} {wr : World} (h : It w s pos wr) (hT : Tabs w) : Tabs wr := hT.below h.below

/-! ### Name -/
set_option maxHeartbeats 1000000 in
theorem name_spans (s : ByteArray) (w : World) (hT : SpanCells w) :
    Calls Tryz.prog 52 #[.string s] w fun e w' => e = .returned (.bool (nameB s)) ∧ Below w.heap.size w w' := by
  go_enter Tryz.func52, Tryz.ntmps52
  go_wp2
  go_loopw [3] (fun c w' => ∃ (pos f n : Nat), It w s pos w' ∧ c = .int .i64 n ∧ n ≤ 16 ∧ (pos = 0 ↔ n = 0) ∧ Hid (nmF s f pos n = nameB s) ∧ s.size ≤ pos + f) (fun _ w' => s.size - w'.iterPos w.heap.size)
  case atStart => exact ⟨0, s.size, 0, It.start w s, rfl, by omega, by simp, rfl, by omega⟩
  case round =>
    obtain ⟨pos, f, n, hI, rfl, hn, h0, HN, hf⟩ := hrel
    have hm := hI.pos
    by_cases hp : pos < s.size
    · have hnx : ∀ ty, (Instr.next (.pointer (some ⟨w.heap.size, 0, none⟩)) true ty).run Tryz.prog wr = _ := fun ty => run_next_any_at wr w.heap.size s pos ty hI.at_ hp
      obtain ⟨f, rfl⟩ : ∃ g, f = g + 1 := ⟨f - 1, by omega⟩
      have hw := width_pos s pos hp
      have HX := nmF_step s f pos n hp
      generalize (Utf8.decode s pos).2 = v at *
      generalize ((Utf8.decode s pos).1 : Int) = r at *
      have hI1 := hI.next (pos + v)
      have hT1 := hT.below hI1.below
      have HY : Hid (nmF s (f + 1) pos n = nmS r n (nmF s f (pos + v) (n + 1))) := HX
      clear HX
      go_wp2_with (first | (go_at_call 72; refine (kind_any _ _ hT1).mono ?_; rintro e w2 ⟨rfl, hb2⟩; have hT2 := hT1.below hb2) | (go_at_call 73; refine (goesOn_any _ _ (by first | exact hT2 | exact hT1)).mono ?_; rintro e w3 ⟨rfl, hb3⟩))
      · have hI3 := (hI1.call hb2).call hb3
        have hn0 : n = 0 := by assumption
        subst hn0
        have hk : kd r = 1 := by assumption
        refine ⟨⟨pos + v, f, 1, hI3, rfl, by omega, by omega, ?_, by omega⟩, ?_⟩
        · show nmF s f (pos + v) 1 = nameB s
          rw [← HN.out, HY.out]; simp [nmS, *]
        · rw [hI3.pos, hm]; omega
      · go_ret
        have hn0 : n = 0 := by assumption
        subst hn0
        have hk : kd r = 1 := by assumption
        exact ⟨ret_bool (by rw [← HN.out, HY.out]; simp [nmS, *]), ((hI1.call hb2).call hb3).below⟩
      · go_ret
        have hn0 : n = 0 := by assumption
        subst hn0
        exact ⟨ret_bool (by rw [← HN.out, HY.out]; simp [nmS, *]), (hI1.call hb2).below⟩
      · go_ret
        have hn16 : n = 16 := by have : ((n : Int) == 16) = true := by assumption
                                 simp at this; omega
        subst hn16
        exact ⟨ret_bool (by rw [← HN.out, HY.out, nmF_long s f _ 17 (by omega)]; simp [nmS]), (hI1.call hb3).below⟩
      · have hI3 := hI1.call hb3
        have hn16 : ¬ n = 16 := by have : ((n : Int) == 16) = false := by assumption
                                   simp at this; omega
        have hn0 : ¬ n = 0 := by assumption
        refine ⟨⟨pos + v, f, n + 1, hI3, by go_num, by omega, by omega, ?_, by omega⟩, ?_⟩
        · show nmF s f (pos + v) (n + 1) = nameB s
          rw [← HN.out, HY.out]; simp [nmS, *]
        · rw [hI3.pos, hm]; omega
      · go_ret
        exact ⟨ret_bool (by rw [← HN.out, HY.out]; simp [nmS, *]), (hI1.call hb3).below⟩
    · have hnx : ∀ ty, (Instr.next (.pointer (some ⟨w.heap.size, 0, none⟩)) true ty).run Tryz.prog wr = _ := fun ty => run_next_end_at wr w.heap.size s pos ty hI.at_ hp
      go_wp2
      go_ret
      exact ⟨ret_bool (by rw [← HN.out, nmF_end s f pos n hp]; apply decide_eq_decide.2; omega), hI.below⟩

end Go.Proofs.YtlbmijcpalfaeaaGreatDoor
