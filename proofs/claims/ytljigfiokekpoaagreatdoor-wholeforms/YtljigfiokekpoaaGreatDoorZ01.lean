/-
  Pure, Shelf.
-/
import Derived.Shelf.Unicode.DecodeSlow
import Derived.Laws.RangeAny
import Derived.Shelf.Strings.Builder1
import Derived.Shelf.Small.Utf8
import Derived.Shelf.Strings.BuilderF
import Derived.Shelf.Strings.BuilderK
import Derived.Shelf.Strings.BuilderRune
import Derived.Shelf.Utf8.AppendRune
import Derived.Shelf.Strconv.Itoa0
import Derived.Shelf.Strconv.Itoa1
import Derived.Shelf.LaysM
import Derived.Shelf.Strconv.Itoa2
import Derived.Shelf.Strconv.Itoa3
import Derived.Shelf.Strconv.Itoa4
import Derived.Shelf.Strings.Prefix
import Derived.Shelf.Unicode.DecodeAny
import Derived.Test.YtljigfiokekpoaaGreatDoorProg
set_option linter.unusedSimpArgs false
namespace Go.Proofs.YtljigfiokekpoaaGreatDoor

/-- The spans as the program's table lays them: first, last, kind. -/
def spanTab : List (Int × Int × Int) := [(97, 122, 1), (65, 90, 1), (95, 95, 1), (192, 214, 1), (216, 246, 1), (248, 591, 1), (880, 893, 1), (895, 902, 1), (904, 1023, 1), (1024, 1153, 1), (1162, 1327, 1), (19968, 40959, 1), (66560, 66639, 1), (48, 57, 2), (1632, 1641, 2), (65296, 65305, 2), (9, 10, 3), (13, 13, 3), (32, 32, 3), (160, 160, 3), (12288, 12288, 3), (37, 38, 4), (40, 45, 4), (47, 47, 4), (58, 64, 4), (94, 94, 4), (124, 124, 4), (126, 126, 4), (172, 172, 4), (183, 183, 4), (215, 215, 4), (247, 247, 4), (8722, 8722, 4), (8743, 8744, 4), (8801, 8801, 4), (8810, 8811, 4), (8853, 8853, 4), (8320, 8329, 5)]

/-- Does r stand in the span from a to b? -/
def hasB (a b r : Int) : Bool := decide (a ≤ r ∧ r ≤ b)

def spanIn : List (Int × Int × Int) → Int → Int × Int × Int
  | [], _ => (0, 0, 0)
  | p :: l, r => if hasB p.1 p.2.1 r then p else spanIn l r

/-- The span of r; its kind. -/
def spn (r : Int) : Int × Int × Int := spanIn spanTab r
def kd (r : Int) : Int := (spn r).2.2

/-- May r stand in a name behind its first? -/
def onB (r : Int) : Bool := kd r == 1 || kd r == 2 || kd r == 5

/-- The document's own tests, as it writes them. -/
def letB (r : Int) : Bool :=
  if hasB 97 122 r || hasB 65 90 r || r == 95 then true
  else if hasB 192 591 r then r != 215 && r != 247
  else if hasB 880 1023 r then r != 894 && r != 903
  else if hasB 1024 1327 r then !hasB 1154 1161 r
  else hasB 19968 40959 r || hasB 66560 66639 r
def digV (r : Int) : Int := if hasB 48 57 r then r - 48 else if hasB 1632 1641 r then r - 1632 else if hasB 65296 65305 r then r - 65296 else -1
def digZ (r : Int) : Int := if hasB 48 57 r then 48 else if hasB 1632 1641 r then 1632 else if hasB 65296 65305 r then 65296 else 0

def blkB (r : Int) : Bool := r == 32 || r == 9 || r == 10 || r == 13 || r == 160 || r == 12288
def signList : List Int := [40, 41, 43, 45, 42, 47, 37, 38, 124, 94, 126, 60, 62, 61, 63, 58, 59, 44, 64, 172, 183, 215, 247, 8722, 8743, 8744, 8801, 8810, 8811, 8853]
def isSign (r : Int) : Bool := signList.any (· == r)
def sgnK (b : Bool) : Int := if b then 4 else 0
/-- The document's kind, as it writes it. -/
def kindR (r : Int) : Int := if letB r then 1 else if 0 ≤ digV r then 2 else if blkB r then 3 else if hasB 8320 8329 r then 5 else sgnK (isSign r)

theorem spanTab_length : spanTab.length = 38 := rfl

theorem spanIn_drop_hit (r : Int) (k : Nat) (h : k < spanTab.length) (hh : hasB (spanTab.getD k (0, 0, 0)).1 (spanTab.getD k (0, 0, 0)).2.1 r = true) : spanIn (spanTab.drop k) r = spanTab.getD k (0, 0, 0) := by
  rw [List.drop_eq_getElem_cons h]
  have e : spanTab.getD k (0, 0, 0) = spanTab[k] := by simp [h]
  rw [e] at hh ⊢
  simp [spanIn, hh]
theorem spanIn_drop_miss (r : Int) (k : Nat) (h : k < spanTab.length) (hh : hasB (spanTab.getD k (0, 0, 0)).1 (spanTab.getD k (0, 0, 0)).2.1 r = false) : spanIn (spanTab.drop k) r = spanIn (spanTab.drop (k + 1)) r := by
  rw [List.drop_eq_getElem_cons h]
  have e : spanTab.getD k (0, 0, 0) = spanTab[k] := by simp [h]
  rw [e] at hh
  simp [spanIn, hh]
theorem spanIn_end (r : Int) : spanIn (spanTab.drop 38) r = (0, 0, 0) := rfl

/-! ### The steps of a range over a text -/
def runesFrom (s : ByteArray) : Nat → Nat → List Int
  | 0, _ => []
  | f + 1, pos => if pos < s.size then ((Utf8.decode s pos).1 : Int) :: runesFrom s f (pos + (Utf8.decode s pos).2) else []
theorem width_pos (s : ByteArray) (pos : Nat) (h : pos < s.size) : 1 ≤ (Utf8.decode s pos).2 := by
  by_cases ha : (s[pos]'h).toNat < 128
  · rw [decode_ascii s pos h ha]
    exact Nat.le_refl _
  · exact (decode_high s pos h (by omega)).2

/-- The document's signs, as its text holds them. -/
def signs : ByteArray := ⟨#[40, 41, 43, 45, 42, 47, 37, 38, 124, 94, 126, 60, 62, 61, 63, 58, 59, 44, 64, 194, 172, 194, 183, 195, 151, 195, 183, 226, 136, 146, 226, 136, 167, 226, 136, 168, 226, 137, 161, 226, 137, 170, 226, 137, 171, 226, 138, 149]⟩
/-! ### Names -/
/-- One step: r is the next rune, n were ahead, 'rest' is what the rest says. -/
def nmS (r : Int) (n : Nat) (rest : Bool) : Bool := if (n == 0 && kd r != 1) || !onB r then false else rest
def nmF (s : ByteArray) : Nat → Nat → Nat → Bool
  | 0, _, n => decide (1 ≤ n ∧ n ≤ 16)
  | f + 1, pos, n => if pos < s.size then nmS (Utf8.decode s pos).1 n (nmF s f (pos + (Utf8.decode s pos).2) (n + 1)) else decide (1 ≤ n ∧ n ≤ 16)
def nameB (s : ByteArray) : Bool := nmF s s.size 0 0
theorem nmF_step (s : ByteArray) (f pos n : Nat) (h : pos < s.size) : nmF s (f + 1) pos n = nmS (Utf8.decode s pos).1 n (nmF s f (pos + (Utf8.decode s pos).2) (n + 1)) := by
  simp [nmF, h]
theorem nmF_end (s : ByteArray) (f pos n : Nat) (h : ¬ pos < s.size) : nmF s f pos n = decide (1 ≤ n ∧ n ≤ 16) := by
  cases f <;> simp [nmF, h]
theorem nmF_long (s : ByteArray) : ∀ (f pos n : Nat), 17 ≤ n → nmF s f pos n = false
  | 0, _, n, h => by simp [nmF]; omega
  | f + 1, pos, n, h => by
    by_cases hp : pos < s.size
    · rw [nmF_step s f pos n hp, nmF_long s f _ (n + 1) (by omega)]
      simp [nmS]
    · rw [nmF_end s _ pos n hp]; simp; omega
end Go.Proofs.YtljigfiokekpoaaGreatDoor

namespace Go.Proofs.YtljigfiokekpoaaGreatDoor

theorem kindIn_const (k : Int) (m : List (Int × Int × Int)) (r : Int) : ∀ l : List (Int × Int × Int), (l.all fun p => p.2.2 == k) = true → (spanIn (l ++ m) r).2.2 = if (l.any fun p => hasB p.1 p.2.1 r) = true then k else (spanIn m r).2.2
  | [], _ => by simp
  | p :: l, h => by
    simp only [List.all_cons, Bool.and_eq_true, beq_iff_eq] at h
    have ih := kindIn_const k m r l h.2
    by_cases hp : hasB p.1 p.2.1 r = true
    · have e1 : ((p :: l).any fun p => hasB p.1 p.2.1 r) = true := by simp [hp]
      have e2 : spanIn (p :: l ++ m) r = p := by simp [spanIn, hp]
      rw [e1, e2, if_pos rfl, h.1]
    · simp only [Bool.not_eq_true] at hp
      have e1 : ((p :: l).any fun p => hasB p.1 p.2.1 r) = l.any fun p => hasB p.1 p.2.1 r := by rw [List.any_cons, hp, Bool.false_or]
      have e2 : spanIn (p :: l ++ m) r = spanIn (l ++ m) r := by simp [spanIn, hp]
      rw [e1, e2, ih]

def lets : List (Int × Int × Int) := spanTab.take 13
def digs : List (Int × Int × Int) := (spanTab.drop 13).take 3
def blks : List (Int × Int × Int) := (spanTab.drop 16).take 5
def sgns : List (Int × Int × Int) := (spanTab.drop 21).take 16
def idxs : List (Int × Int × Int) := spanTab.drop 37
theorem spanTab_parts : spanTab = lets ++ (digs ++ (blks ++ (sgns ++ (idxs ++ [])))) := rfl

theorem kd_parts (r : Int) : kd r = if (lets.any fun p => hasB p.1 p.2.1 r) = true then 1 else if (digs.any fun p => hasB p.1 p.2.1 r) = true then 2 else if (blks.any fun p => hasB p.1 p.2.1 r) = true then 3 else if (sgns.any fun p => hasB p.1 p.2.1 r) = true then 4 else if (idxs.any fun p => hasB p.1 p.2.1 r) = true then 5 else 0 := by
  unfold kd spn
  rw [spanTab_parts, kindIn_const 1 _ r lets (by decide), kindIn_const 2 _ r digs (by decide), kindIn_const 3 _ r blks (by decide), kindIn_const 4 _ r sgns (by decide), kindIn_const 5 _ r idxs (by decide)]
  rfl

theorem lets_eq (r : Int) : (lets.any fun p => hasB p.1 p.2.1 r) = letB r := by
  rw [Bool.eq_iff_iff]
  simp only [lets, spanTab, List.take_succ_cons, List.take_zero, List.any_cons, List.any_nil, letB, hasB]
  by_cases h1 : 192 ≤ r ∧ r ≤ 591
  · simp [h1]; omega
  · by_cases h2 : 880 ≤ r ∧ r ≤ 1023
    · simp [h1, h2]; omega
    · by_cases h3 : 1024 ≤ r ∧ r ≤ 1327
      · simp [h1, h2, h3]; omega
      · simp [h1, h2, h3]; omega
theorem digs_eq (r : Int) : (digs.any fun p => hasB p.1 p.2.1 r) = decide (0 ≤ digV r) := by
  rw [Bool.eq_iff_iff]
  simp only [digs, spanTab, List.take_succ_cons, List.take_zero, List.drop_succ_cons, List.drop_zero, List.any_cons, List.any_nil, digV, hasB, decide_eq_true_eq, Bool.or_eq_true]
  simp only [Bool.false_eq_true, or_false]
  split
  · omega
  · split
    · omega
    · split <;> omega
theorem blks_eq (r : Int) : (blks.any fun p => hasB p.1 p.2.1 r) = blkB r := by
  rw [Bool.eq_iff_iff]
  simp only [blks, spanTab, List.take_succ_cons, List.take_zero, List.drop_succ_cons, List.drop_zero, List.any_cons, List.any_nil, blkB, hasB, decide_eq_true_eq, Bool.or_eq_true, beq_iff_eq]
  simp
  omega
theorem sgns_eq (r : Int) : (sgns.any fun p => hasB p.1 p.2.1 r) = isSign r := by
  rw [Bool.eq_iff_iff]
  simp only [sgns, spanTab, List.take_succ_cons, List.take_zero, List.drop_succ_cons, List.drop_zero, List.any_cons, List.any_nil, isSign, signList, hasB, decide_eq_true_eq, Bool.or_eq_true, beq_iff_eq]
  simp
  omega
theorem idxs_eq (r : Int) : (idxs.any fun p => hasB p.1 p.2.1 r) = hasB 8320 8329 r := by
  simp [idxs, spanTab]
/-- Signs are no indices. -/
theorem sign_no_index (r : Int) (h : hasB 8320 8329 r = true) : isSign r = false := by
  have hb : 8320 ≤ r ∧ r ≤ 8329 := by simpa [hasB] using h
  have hn : ¬ isSign r = true := by
    simp only [isSign, signList, List.any_cons, List.any_nil, Bool.or_eq_true, beq_iff_eq]
    simp
    omega
  simpa using hn

theorem kd_eq (r : Int) : kd r = kindR r := by
  rw [kd_parts, lets_eq, digs_eq, blks_eq, sgns_eq, idxs_eq]
  unfold kindR
  cases h1 : letB r
  · by_cases h2 : 0 ≤ digV r
    · simp [h2]
    · cases h3 : blkB r
      · cases h4 : hasB 8320 8329 r
        · cases h5 : isSign r <;> simp [h2, sgnK]
        · simp [h2, sign_no_index r h4]
      · simp [h2]
  · simp
end Go.Proofs.YtljigfiokekpoaaGreatDoor

namespace Go.Proofs
open Go.Shelf
def Tryz.lays169_ren : Go.Shelf.Ren := ⟨fun | 169 => 49 | n => n, fun | 70 => 113 | 9 => 9 | 0 => 0 | 72 => 116 | 37 => 114 | 127 => 139 | 3 => 3 | 5 => 5 | n => n, fun | n => n⟩
theorem Tryz.lays169 : Go.Proofs.Lays.n169 Tryz.prog Tryz.lays169_ren := {
  mixed := by kernel_rfl
  f169 := Tryz.func49.trans (congrArg some (by kernel_rfl))
  t0 := Tryz.underlying0
  a0 := Tryz.isAgg0
  z0 := Tryz.sizeOf0
  v0 := Tryz.zeroValue0
  t3 := Tryz.underlying3
  a3 := Tryz.isAgg3
  z3 := Tryz.sizeOf3
  v3 := Tryz.zeroValue3
  t9 := Tryz.underlying9
  a9 := Tryz.isAgg9
  z9 := Tryz.sizeOf9
  v9 := Tryz.zeroValue9
  t37 := Tryz.underlying114
  a37 := Tryz.isAgg114
  z37 := Tryz.sizeOf114
  v37 := Tryz.zeroValue114
  t70 := Tryz.underlying113
  a70 := Tryz.isAgg113
  z70 := Tryz.sizeOf113
  v70 := Tryz.zeroValue113
  t72 := Tryz.underlying116
  a72 := Tryz.isAgg116
  z72 := Tryz.sizeOf116
  v72 := Tryz.zeroValue116
  t127 := Tryz.underlying139
  a127 := Tryz.isAgg139
  z127 := Tryz.sizeOf139
  v127 := Tryz.zeroValue139 }
theorem Tryz.Builder_Extra_169 : Builder.Extra Tryz.prog Tryz.lays169_ren := {
  sizeBuilder := by kernel_rfl
  liesBuilder := by kernel_rfl
  t5 := Tryz.underlying5
  a5 := Tryz.isAgg5
  z5 := Tryz.sizeOf5
  v5 := Tryz.zeroValue5
  infoByte := by kernel_rfl
  cellsByte := by kernel_rfl
  sizeByte := by kernel_rfl
  neB5 := by decide }
def Tryz.lays118_ren : Go.Shelf.Ren := ⟨fun | 118 => 104 | n => n, fun | 21 => 21 | 3 => 3 | 4 => 4 | n => n, fun | n => n⟩
theorem Tryz.lays118 : Go.Proofs.Lays.n118 Tryz.prog Tryz.lays118_ren := {
  mixed := by kernel_rfl
  f118 := Tryz.func104.trans (congrArg some (by kernel_rfl))
  t3 := Tryz.underlying3
  a3 := Tryz.isAgg3
  z3 := Tryz.sizeOf3
  v3 := Tryz.zeroValue3
  t4 := Tryz.underlying4
  a4 := Tryz.isAgg4
  z4 := Tryz.sizeOf4
  v4 := Tryz.zeroValue4
  t21 := Tryz.underlying21
  a21 := Tryz.isAgg21
  z21 := Tryz.sizeOf21
  v21 := Tryz.zeroValue21 }
/-- utf8.RuneLen: "RuneLen returns the number of bytes in the UTF-8 encoding of the rune. It returns -1 if the rune is not a valid value to encode in UTF-8.": IT RETURNS 'Lib.runeLen r'; the world is as it was. (LAID: no walk: one application.) -/
theorem Tryz.utf8_RuneLen (r : Int) (w : World) :
    Calls Tryz.prog 104 #[.int .i32 r] w fun e w' => e = .returned (.int .i64 (Lib.runeLen r)) ∧ w' = w := Any.utf8_RuneLen Tryz.lays118 r w
open Go.RowKit in
/-- (*strings.Builder).String: "String returns the accumulated string.": WHATEVER THE BUILDER HOLDS; THE FORM '_k': OVER 'Lib.IsBuilderF' (a builder that 'String()' may have read), AND WITH THE FRAME THAT REACHES ABOVE THE BUILDER: 'Lib.OthersKept': every block that is not b and is no row of uint8's stands as it stood: the iterator of a range among them. (LAID: no walk: one application.) -/
theorem Tryz.Builder_String_any_k (B b : Nat) (l : List UInt8) (w : World) (h : Lib.IsBuilderF 116 5 B b (Lib.byteCells l) w) (hBw : B ≤ w.heap.size) :
    Calls Tryz.prog 49 #[.pointer (some ⟨b, 0, none⟩)] w fun e w' => e = .returned (.string ⟨l.toArray⟩) ∧ (Lib.IsBuilderF 116 5 B b (Lib.byteCells l) w' ∧ Below B w w' ∧ Lib.OthersKept 5 (some b) w w') := Any.Builder_String_any_k Tryz.lays169 Tryz.Builder_Extra_169 B b l w h hBw
def Tryz.lays242_ren : Go.Shelf.Ren := ⟨fun | 242 => 61 | 278 => 78 | n => n, fun | 37 => 114 | 21 => 21 | 51 => 163 | 4 => 4 | 5 => 5 | 46 => 180 | n => n, fun | n => n⟩
theorem Tryz.lays242 : Go.Proofs.Lays.n242 Tryz.prog Tryz.lays242_ren := {
  mixed := by kernel_rfl
  f242 := Tryz.func61.trans (congrArg some (by kernel_rfl))
  f278 := Tryz.func78.trans (congrArg some (by kernel_rfl))
  t4 := Tryz.underlying4
  a4 := Tryz.isAgg4
  z4 := Tryz.sizeOf4
  v4 := Tryz.zeroValue4
  t5 := Tryz.underlying5
  a5 := Tryz.isAgg5
  z5 := Tryz.sizeOf5
  v5 := Tryz.zeroValue5
  t21 := Tryz.underlying21
  a21 := Tryz.isAgg21
  z21 := Tryz.sizeOf21
  v21 := Tryz.zeroValue21
  t37 := Tryz.underlying114
  a37 := Tryz.isAgg114
  z37 := Tryz.sizeOf114
  v37 := Tryz.zeroValue114
  t46 := Tryz.underlying180
  a46 := Tryz.isAgg180
  z46 := Tryz.sizeOf180
  v46 := Tryz.zeroValue180
  t51 := Tryz.underlying163
  a51 := Tryz.isAgg163
  z51 := Tryz.sizeOf163
  v51 := Tryz.zeroValue163 }
open Go.RowKit in
/-- unicode/utf8.AppendRune: "AppendRune appends the UTF-8 encoding of r to the end of p and returns the extended buffer. If the rune is out of range, it appends the encoding of RuneError.": ONTO A ROW OF BYTES THAT THE CALL OWNS (its head frozen or not): EVERY int32: 'Lib.runeCells r' goes in behind what the row holds; the world: one new block (the bytes as the call's variadic argument), then what 'append' does to the row. (LAID: no walk: one application.) -/
theorem Tryz.utf8_AppendRune_row (B : Nat) (v : Value) (n : Nat) (xs : List Value) (r : Int) (hr0 : -2147483648 ≤ r) (hr1 : r ≤ 2147483647) (w : World) (hown : w.ownsRowF B 5 1 v n xs) (hlen : n + 4 ≤ 140737488355328) (hBw : B ≤ w.heap.size) :
    Calls Tryz.prog 61 #[v, .int .i32 r] w fun e w' => ∃ v', e = .returned v' ∧ w'.ownsRowF B 5 1 v' (n + (Lib.runeCells r).length) (xs ++ Lib.runeCells r) ∧ ∃ o, (w.alloc o).grownBy w' v.ownBlock := Any.utf8_AppendRune_row Tryz.lays242 (by kernel_rfl) B v n xs r hr0 hr1 w hown hlen hBw
def Tryz.laysM173_ren : Go.Shelf.Ren := ⟨fun | 173 => 47 | 246 => 59 | 283 => 73 | 284 => 74 | 285 => 75 | 286 => 76 | 129 => 94 | 317 => 93 | 318 => 95 | 319 => 96 | 320 => 97 | 337 => 107 | 338 => 108 | n => n, fun | 2 => 2 | 3 => 3 | 9 => 9 | 4 => 4 | 171 => 156 | 0 => 0 | 53 => 101 | 37 => 114 | 5 => 5 | 173 => 159 | 212 => 177 | 51 => 163 | 20 => 20 | 213 => 178 | 46 => 180 | 232 => 192 | 233 => 193 | n => n, fun | 17 => 2 | 18 => 6 | 19 => 7 | n => n⟩
theorem Tryz.laysM173 : Go.Proofs.LaysM.n173 Tryz.prog Tryz.laysM173_ren := {
  mixed := by kernel_rfl
  f129 := Tryz.func94.trans (congrArg some (by kernel_rfl))
  f173 := Tryz.func47.trans (congrArg some (by kernel_rfl))
  f246 := Tryz.func59.trans (congrArg some (by kernel_rfl))
  f283 := Tryz.func73.trans (congrArg some (by kernel_rfl))
  f284 := Tryz.func74.trans (congrArg some (by kernel_rfl))
  f285 := Tryz.func75.trans (congrArg some (by kernel_rfl))
  f286 := Tryz.func76.trans (congrArg some (by kernel_rfl))
  f317 := Tryz.func93.trans (congrArg some (by kernel_rfl))
  f318 := Tryz.func95.trans (congrArg some (by kernel_rfl))
  f319 := Tryz.func96.trans (congrArg some (by kernel_rfl))
  f320 := Tryz.func97.trans (congrArg some (by kernel_rfl))
  f337 := Tryz.func107.trans (congrArg some (by kernel_rfl))
  f338 := Tryz.func108.trans (congrArg some (by kernel_rfl))
  t0 := Tryz.underlying0
  a0 := Tryz.isAgg0
  z0 := Tryz.sizeOf0
  v0 := Tryz.zeroValue0
  t2 := Tryz.underlying2
  a2 := Tryz.isAgg2
  z2 := Tryz.sizeOf2
  v2 := Tryz.zeroValue2
  t3 := Tryz.underlying3
  a3 := Tryz.isAgg3
  z3 := Tryz.sizeOf3
  v3 := Tryz.zeroValue3
  t4 := Tryz.underlying4
  a4 := Tryz.isAgg4
  z4 := Tryz.sizeOf4
  v4 := Tryz.zeroValue4
  t5 := Tryz.underlying5
  a5 := Tryz.isAgg5
  z5 := Tryz.sizeOf5
  v5 := Tryz.zeroValue5
  t9 := Tryz.underlying9
  a9 := Tryz.isAgg9
  z9 := Tryz.sizeOf9
  v9 := Tryz.zeroValue9
  t20 := Tryz.underlying20
  a20 := Tryz.isAgg20
  z20 := Tryz.sizeOf20
  v20 := Tryz.zeroValue20
  t37 := Tryz.underlying114
  a37 := Tryz.isAgg114
  z37 := Tryz.sizeOf114
  v37 := Tryz.zeroValue114
  t46 := Tryz.underlying180
  a46 := Tryz.isAgg180
  z46 := Tryz.sizeOf180
  v46 := Tryz.zeroValue180
  t51 := Tryz.underlying163
  a51 := Tryz.isAgg163
  z51 := Tryz.sizeOf163
  v51 := Tryz.zeroValue163
  t53 := Tryz.underlying101
  a53 := Tryz.isAgg101
  z53 := Tryz.sizeOf101
  v53 := Tryz.zeroValue101
  t171 := Tryz.underlying156
  a171 := Tryz.isAgg156
  z171 := Tryz.sizeOf156
  v171 := Tryz.zeroValue156
  t173 := Tryz.underlying159
  a173 := Tryz.isAgg159
  z173 := Tryz.sizeOf159
  v173 := Tryz.zeroValue159
  t212 := Tryz.underlying177
  a212 := Tryz.isAgg177
  z212 := Tryz.sizeOf177
  v212 := Tryz.zeroValue177
  t213 := Tryz.underlying178
  a213 := Tryz.isAgg178
  z213 := Tryz.sizeOf178
  t232 := Tryz.underlying192
  a232 := Tryz.isAgg192
  z232 := Tryz.sizeOf192
  v232 := Tryz.zeroValue192
  t233 := Tryz.underlying193
  a233 := Tryz.isAgg193
  z233 := Tryz.sizeOf193
  v233 := Tryz.zeroValue193
  g17 := by kernel_rfl
  g18 := by kernel_rfl
  g19 := by kernel_rfl
  i0 := by kernel_rfl
  i2 := by kernel_rfl
  i3 := by kernel_rfl
  i4 := by kernel_rfl
  i5 := by kernel_rfl
  i9 := by kernel_rfl
  i20 := by kernel_rfl
  i37 := by kernel_rfl
  i46 := by kernel_rfl
  i51 := by kernel_rfl
  i53 := by kernel_rfl
  i171 := by kernel_rfl
  i173 := by kernel_rfl
  i212 := by kernel_rfl
  i232 := by kernel_rfl
  i233 := by kernel_rfl
  m17 := by kernel_rfl
  m18 := by kernel_rfl
  m19 := by kernel_rfl }
open Go.RowKit Go.Sort Go.Lib in
/-- strconv.FormatInt: "FormatInt returns the string representation of i in the given base": AT BASE 10: i's decimal numeral, for every int64. (LAID: no walk: one application.) -/
theorem Tryz.strconv_FormatInt_10 (n : Int) (h0 : -9223372036854775808 ≤ n) (h1 : n ≤ 9223372036854775807) (w : World) (htab : Lib.TabIs Tryz.prog w "internal/strconv.uint64pow10" .u64 Lib.pow10Tab) :
    Calls Tryz.prog 47 #[.int .i64 n, .int .i64 10] w fun e w' => e = .returned (.string ⟨(Lib.itoa n).toArray⟩) ∧ ∃ k os, w' = grow (w.drewN k) os := Any.strconv_FormatInt_10 Tryz.laysM173 n h0 h1 w htab
def Tryz.lays99_ren : Go.Shelf.Ren := ⟨fun | 99 => 102 | 206 => 109 | n => n, fun | 9 => 9 | 4 => 4 | 3 => 3 | n => n, fun | n => n⟩
theorem Tryz.lays99 : Go.Proofs.Lays.n99 Tryz.prog Tryz.lays99_ren := {
  mixed := by kernel_rfl
  f99 := Tryz.func102.trans (congrArg some (by kernel_rfl))
  f206 := Tryz.func109.trans (congrArg some (by kernel_rfl))
  t3 := Tryz.underlying3
  a3 := Tryz.isAgg3
  z3 := Tryz.sizeOf3
  v3 := Tryz.zeroValue3
  t4 := Tryz.underlying4
  a4 := Tryz.isAgg4
  z4 := Tryz.sizeOf4
  v4 := Tryz.zeroValue4
  t9 := Tryz.underlying9
  a9 := Tryz.isAgg9
  z9 := Tryz.sizeOf9
  v9 := Tryz.zeroValue9 }
open Go.RowKit Go.Lib in
/-- strings.HasPrefix: "HasPrefix reports whether the string s begins with prefix.": IT RETURNS 'Lib.hasPrefix s prefix'; the world is as it was. (LAID: no walk: one application.) -/
theorem Tryz.strings_HasPrefix (s p : ByteArray) (w : World) :
    Calls Tryz.prog 102 #[.string s, .string p] w fun e w' => e = .returned (.bool (Lib.hasPrefix s.data.toList p.data.toList)) ∧ w' = w := Any.strings_HasPrefix Tryz.lays99 s p w
def Tryz.lays260_ren : Go.Shelf.Ren := ⟨fun | 260 => 99 | n => n, fun | 9 => 9 | 21 => 21 | 3 => 3 | 4 => 4 | 5 => 5 | 119 => 188 | 0 => 0 | 46 => 180 | 139 => 191 | 138 => 190 | n => n, fun | 3 => 4 | 4 => 5 | n => n⟩
theorem Tryz.lays260 : Go.Proofs.Lays.n260 Tryz.prog Tryz.lays260_ren := {
  mixed := by kernel_rfl
  f260 := Tryz.func99.trans (congrArg some (by kernel_rfl))
  t0 := Tryz.underlying0
  a0 := Tryz.isAgg0
  z0 := Tryz.sizeOf0
  v0 := Tryz.zeroValue0
  t3 := Tryz.underlying3
  a3 := Tryz.isAgg3
  z3 := Tryz.sizeOf3
  v3 := Tryz.zeroValue3
  t4 := Tryz.underlying4
  a4 := Tryz.isAgg4
  z4 := Tryz.sizeOf4
  v4 := Tryz.zeroValue4
  t5 := Tryz.underlying5
  a5 := Tryz.isAgg5
  z5 := Tryz.sizeOf5
  v5 := Tryz.zeroValue5
  t9 := Tryz.underlying9
  a9 := Tryz.isAgg9
  z9 := Tryz.sizeOf9
  v9 := Tryz.zeroValue9
  t21 := Tryz.underlying21
  a21 := Tryz.isAgg21
  z21 := Tryz.sizeOf21
  v21 := Tryz.zeroValue21
  t46 := Tryz.underlying180
  a46 := Tryz.isAgg180
  z46 := Tryz.sizeOf180
  v46 := Tryz.zeroValue180
  t119 := Tryz.underlying188
  a119 := Tryz.isAgg188
  z119 := Tryz.sizeOf188
  t138 := Tryz.underlying190
  a138 := Tryz.isAgg190
  z138 := Tryz.sizeOf190
  v138 := Tryz.zeroValue190
  t139 := Tryz.underlying191
  a139 := Tryz.isAgg191
  z139 := Tryz.sizeOf191
  v139 := Tryz.zeroValue191
  g3 := by kernel_rfl
  g4 := by kernel_rfl }
def Tryz.lays197_ren : Go.Shelf.Ren := ⟨fun | 197 => 86 | 260 => 99 | n => n, fun | 9 => 9 | 21 => 21 | 3 => 3 | 4 => 4 | 5 => 5 | 105 => 169 | 119 => 188 | 0 => 0 | 46 => 180 | 139 => 191 | 138 => 190 | n => n, fun | 3 => 4 | 4 => 5 | n => n⟩
theorem Tryz.lays197 : Go.Proofs.Lays.n197 Tryz.prog Tryz.lays197_ren := {
  mixed := by kernel_rfl
  f197 := Tryz.func86.trans (congrArg some (by kernel_rfl))
  f260 := Tryz.func99.trans (congrArg some (by kernel_rfl))
  t0 := Tryz.underlying0
  a0 := Tryz.isAgg0
  z0 := Tryz.sizeOf0
  v0 := Tryz.zeroValue0
  t3 := Tryz.underlying3
  a3 := Tryz.isAgg3
  z3 := Tryz.sizeOf3
  v3 := Tryz.zeroValue3
  t4 := Tryz.underlying4
  a4 := Tryz.isAgg4
  z4 := Tryz.sizeOf4
  v4 := Tryz.zeroValue4
  t5 := Tryz.underlying5
  a5 := Tryz.isAgg5
  z5 := Tryz.sizeOf5
  v5 := Tryz.zeroValue5
  t9 := Tryz.underlying9
  a9 := Tryz.isAgg9
  z9 := Tryz.sizeOf9
  v9 := Tryz.zeroValue9
  t21 := Tryz.underlying21
  a21 := Tryz.isAgg21
  z21 := Tryz.sizeOf21
  v21 := Tryz.zeroValue21
  t46 := Tryz.underlying180
  a46 := Tryz.isAgg180
  z46 := Tryz.sizeOf180
  v46 := Tryz.zeroValue180
  t105 := Tryz.underlying169
  a105 := Tryz.isAgg169
  z105 := Tryz.sizeOf169
  v105 := Tryz.zeroValue169
  t119 := Tryz.underlying188
  a119 := Tryz.isAgg188
  z119 := Tryz.sizeOf188
  t138 := Tryz.underlying190
  a138 := Tryz.isAgg190
  z138 := Tryz.sizeOf190
  v138 := Tryz.zeroValue190
  t139 := Tryz.underlying191
  a139 := Tryz.isAgg191
  z139 := Tryz.sizeOf191
  v139 := Tryz.zeroValue191
  g3 := by kernel_rfl
  g4 := by kernel_rfl }
open Go.RowKit Go.Lib in
/-- **unicode/utf8.DecodeRuneInString AT EVERY STRING.** (LAID: no walk: one application.) -/
theorem Tryz.utf8_DecodeRuneInString (s : ByteArray) (w : World) (hT : Lib.Utf8Tabs 4 5 w) :
    Calls Tryz.prog 86 #[.string s] w fun e w' => e = .returned (.tuple #[.int .i32 (Lib.decodeGo s).1, .int .i64 (Lib.decodeGo s).2]) ∧ Below w.heap.size w w' := Any.utf8_DecodeRuneInString Tryz.lays197 s w hT
end Go.Proofs
