/-
  Pure, Shelf.
-/
import Derived.Shelf.Unicode.DecodeSlow
import Derived.Laws.RangeAny
import Derived.Shelf.Strings.Builder1
import Derived.Shelf.Small.Utf8
import Derived.Shelf.Small.Bits
import Derived.Shelf.Strings.BuilderF
import Derived.Shelf.Strings.BuilderK
import Derived.Shelf.Strings.BuilderRune
import Derived.Shelf.Utf8.AppendRune
import Derived.Shelf.Strconv.Itoa0
import Derived.Shelf.Strconv.Itoa1
import Derived.Shelf.LaysM
import Derived.Shelf.Strconv.Itoa2
import Derived.Shelf.Strconv.Itoa3
import Derived.Shelf.Strconv.Itoa4
import Derived.Shelf.Strings.Prefix
import Derived.Shelf.Unicode.DecodeAny
import Derived.Test.YtjmccobblpcbhaaDoorProg
set_option linter.unusedSimpArgs false
namespace Go.Proofs.YtjmccobblpcbhaaDoor

/-- The spans as the program's table lays them: first, last, kind. -/
def spanTab : List (Int × Int × Int) := [(97, 122, 1), (65, 90, 1), (95, 95, 1), (192, 214, 1), (216, 246, 1), (248, 591, 1), (880, 893, 1), (895, 902, 1), (904, 1023, 1), (1024, 1153, 1), (1162, 1327, 1), (19968, 40959, 1), (66560, 66639, 1), (48, 57, 2), (1632, 1641, 2), (65296, 65305, 2), (9, 10, 3), (13, 13, 3), (32, 32, 3), (160, 160, 3), (12288, 12288, 3), (37, 38, 4), (40, 45, 4), (47, 47, 4), (58, 64, 4), (94, 94, 4), (124, 124, 4), (126, 126, 4), (172, 172, 4), (183, 183, 4), (215, 215, 4), (247, 247, 4), (8722, 8722, 4), (8743, 8744, 4), (8801, 8801, 4), (8810, 8811, 4), (8853, 8853, 4), (8320, 8329, 5)]

/-- Does r stand in the span from a to b? -/
def hasB (a b r : Int) : Bool := decide (a ≤ r ∧ r ≤ b)

def spanIn : List (Int × Int × Int) → Int → Int × Int × Int
  | [], _ => (0, 0, 0)
  | p :: l, r => if hasB p.1 p.2.1 r then p else spanIn l r

/-- The span of r; its kind. -/
def spn (r : Int) : Int × Int × Int := spanIn spanTab r
def kd (r : Int) : Int := (spn r).2.2

/-- May r stand in a name behind its first? -/
def onB (r : Int) : Bool := kd r == 1 || kd r == 2 || kd r == 5

/-- The document's own tests, as it writes them. -/
def letB (r : Int) : Bool :=
  if hasB 97 122 r || hasB 65 90 r || r == 95 then true
  else if hasB 192 591 r then r != 215 && r != 247
  else if hasB 880 1023 r then r != 894 && r != 903
  else if hasB 1024 1327 r then !hasB 1154 1161 r
  else hasB 19968 40959 r || hasB 66560 66639 r
def digV (r : Int) : Int := if hasB 48 57 r then r - 48 else if hasB 1632 1641 r then r - 1632 else if hasB 65296 65305 r then r - 65296 else -1
def digZ (r : Int) : Int := if hasB 48 57 r then 48 else if hasB 1632 1641 r then 1632 else if hasB 65296 65305 r then 65296 else 0

def blkB (r : Int) : Bool := r == 32 || r == 9 || r == 10 || r == 13 || r == 160 || r == 12288
def signList : List Int := [40, 41, 43, 45, 42, 47, 37, 38, 124, 94, 126, 60, 62, 61, 63, 58, 59, 44, 64, 172, 183, 215, 247, 8722, 8743, 8744, 8801, 8810, 8811, 8853]
def isSign (r : Int) : Bool := signList.any (· == r)
def sgnK (b : Bool) : Int := if b then 4 else 0
/-- The document's kind, as it writes it. -/
def kindR (r : Int) : Int := if letB r then 1 else if 0 ≤ digV r then 2 else if blkB r then 3 else if hasB 8320 8329 r then 5 else sgnK (isSign r)

theorem spanTab_length : spanTab.length = 38 := rfl

theorem spanIn_drop_hit (r : Int) (k : Nat) (h : k < spanTab.length) (hh : hasB (spanTab.getD k (0, 0, 0)).1 (spanTab.getD k (0, 0, 0)).2.1 r = true) : spanIn (spanTab.drop k) r = spanTab.getD k (0, 0, 0) := by
  rw [List.drop_eq_getElem_cons h]
  have e : spanTab.getD k (0, 0, 0) = spanTab[k] := by simp [h]
  rw [e] at hh ⊢
  simp [spanIn, hh]
theorem spanIn_drop_miss (r : Int) (k : Nat) (h : k < spanTab.length) (hh : hasB (spanTab.getD k (0, 0, 0)).1 (spanTab.getD k (0, 0, 0)).2.1 r = false) : spanIn (spanTab.drop k) r = spanIn (spanTab.drop (k + 1)) r := by
  rw [List.drop_eq_getElem_cons h]
  have e : spanTab.getD k (0, 0, 0) = spanTab[k] := by simp [h]
  rw [e] at hh
  simp [spanIn, hh]
theorem spanIn_end (r : Int) : spanIn (spanTab.drop 38) r = (0, 0, 0) := rfl

/-! ### The steps of a range over a text -/
def runesFrom (s : ByteArray) : Nat → Nat → List Int
  | 0, _ => []
  | f + 1, pos => if pos < s.size then ((Utf8.decode s pos).1 : Int) :: runesFrom s f (pos + (Utf8.decode s pos).2) else []
theorem runesFrom_cons (s : ByteArray) (f pos : Nat) (h : pos < s.size) : runesFrom s (f + 1) pos = ((Utf8.decode s pos).1 : Int) :: runesFrom s f (pos + (Utf8.decode s pos).2) := by
  simp [runesFrom, h]
theorem runesFrom_end (s : ByteArray) (f pos : Nat) (h : ¬ pos < s.size) : runesFrom s f pos = [] := by
  cases f <;> simp [runesFrom, h]

theorem width_pos (s : ByteArray) (pos : Nat) (h : pos < s.size) : 1 ≤ (Utf8.decode s pos).2 := by
  by_cases ha : (s[pos]'h).toNat < 128
  · rw [decode_ascii s pos h ha]
    exact Nat.le_refl _
  · exact (decode_high s pos h (by omega)).2

/-- The document's signs, as its text holds them. -/
def signs : ByteArray := ⟨#[40, 41, 43, 45, 42, 47, 37, 38, 124, 94, 126, 60, 62, 61, 63, 58, 59, 44, 64, 194, 172, 194, 183, 195, 151, 195, 183, 226, 136, 146, 226, 136, 167, 226, 136, 168, 226, 137, 161, 226, 137, 170, 226, 137, 171, 226, 138, 149]⟩
theorem runesFrom_signs : runesFrom signs 48 0 = signList := by decide +kernel

/-! ### Names -/
/-- One step: r is the next rune, n were ahead, 'rest' is what the rest says. -/
def nmS (r : Int) (n : Nat) (rest : Bool) : Bool := if (n == 0 && kd r != 1) || !onB r then false else rest
def nmF (s : ByteArray) : Nat → Nat → Nat → Bool
  | 0, _, n => decide (1 ≤ n ∧ n ≤ 16)
  | f + 1, pos, n => if pos < s.size then nmS (Utf8.decode s pos).1 n (nmF s f (pos + (Utf8.decode s pos).2) (n + 1)) else decide (1 ≤ n ∧ n ≤ 16)
def nameB (s : ByteArray) : Bool := nmF s s.size 0 0
theorem nmF_step (s : ByteArray) (f pos n : Nat) (h : pos < s.size) : nmF s (f + 1) pos n = nmS (Utf8.decode s pos).1 n (nmF s f (pos + (Utf8.decode s pos).2) (n + 1)) := by
  simp [nmF, h]
theorem nmF_end (s : ByteArray) (f pos n : Nat) (h : ¬ pos < s.size) : nmF s f pos n = decide (1 ≤ n ∧ n ≤ 16) := by
  cases f <;> simp [nmF, h]
theorem nmF_long (s : ByteArray) : ∀ (f pos n : Nat), 17 ≤ n → nmF s f pos n = false
  | 0, _, n, h => by simp [nmF]; omega
  | f + 1, pos, n, h => by
    by_cases hp : pos < s.size
    · rw [nmF_step s f pos n hp, nmF_long s f _ (n + 1) (by omega)]
      simp [nmS]
    · rw [nmF_end s _ pos n hp]; simp; omega
end Go.Proofs.YtjmccobblpcbhaaDoor

namespace Go.Proofs.YtjmccobblpcbhaaDoor

theorem kindIn_const (k : Int) (m : List (Int × Int × Int)) (r : Int) : ∀ l : List (Int × Int × Int), (l.all fun p => p.2.2 == k) = true → (spanIn (l ++ m) r).2.2 = if (l.any fun p => hasB p.1 p.2.1 r) = true then k else (spanIn m r).2.2
  | [], _ => by simp
  | p :: l, h => by
    simp only [List.all_cons, Bool.and_eq_true, beq_iff_eq] at h
    have ih := kindIn_const k m r l h.2
    by_cases hp : hasB p.1 p.2.1 r = true
    · have e1 : ((p :: l).any fun p => hasB p.1 p.2.1 r) = true := by simp [hp]
      have e2 : spanIn (p :: l ++ m) r = p := by simp [spanIn, hp]
      rw [e1, e2, if_pos rfl, h.1]
    · simp only [Bool.not_eq_true] at hp
      have e1 : ((p :: l).any fun p => hasB p.1 p.2.1 r) = l.any fun p => hasB p.1 p.2.1 r := by rw [List.any_cons, hp, Bool.false_or]
      have e2 : spanIn (p :: l ++ m) r = spanIn (l ++ m) r := by simp [spanIn, hp]
      rw [e1, e2, ih]

def lets : List (Int × Int × Int) := spanTab.take 13
def digs : List (Int × Int × Int) := (spanTab.drop 13).take 3
def blks : List (Int × Int × Int) := (spanTab.drop 16).take 5
def sgns : List (Int × Int × Int) := (spanTab.drop 21).take 16
def idxs : List (Int × Int × Int) := spanTab.drop 37
theorem spanTab_parts : spanTab = lets ++ (digs ++ (blks ++ (sgns ++ (idxs ++ [])))) := rfl

theorem kd_parts (r : Int) : kd r = if (lets.any fun p => hasB p.1 p.2.1 r) = true then 1 else if (digs.any fun p => hasB p.1 p.2.1 r) = true then 2 else if (blks.any fun p => hasB p.1 p.2.1 r) = true then 3 else if (sgns.any fun p => hasB p.1 p.2.1 r) = true then 4 else if (idxs.any fun p => hasB p.1 p.2.1 r) = true then 5 else 0 := by
  unfold kd spn
  rw [spanTab_parts, kindIn_const 1 _ r lets (by decide), kindIn_const 2 _ r digs (by decide), kindIn_const 3 _ r blks (by decide), kindIn_const 4 _ r sgns (by decide), kindIn_const 5 _ r idxs (by decide)]
  rfl

theorem lets_eq (r : Int) : (lets.any fun p => hasB p.1 p.2.1 r) = letB r := by
  rw [Bool.eq_iff_iff]
  simp only [lets, spanTab, List.take_succ_cons, List.take_zero, List.any_cons, List.any_nil, letB, hasB]
  by_cases h1 : 192 ≤ r ∧ r ≤ 591
  · simp [h1]; omega
  · by_cases h2 : 880 ≤ r ∧ r ≤ 1023
    · simp [h1, h2]; omega
    · by_cases h3 : 1024 ≤ r ∧ r ≤ 1327
      · simp [h1, h2, h3]; omega
      · simp [h1, h2, h3]; omega
theorem digs_eq (r : Int) : (digs.any fun p => hasB p.1 p.2.1 r) = decide (0 ≤ digV r) := by
  rw [Bool.eq_iff_iff]
  simp only [digs, spanTab, List.take_succ_cons, List.take_zero, List.drop_succ_cons, List.drop_zero, List.any_cons, List.any_nil, digV, hasB, decide_eq_true_eq, Bool.or_eq_true]
  simp only [Bool.false_eq_true, or_false]
  split
  · omega
  · split
    · omega
    · split <;> omega
theorem blks_eq (r : Int) : (blks.any fun p => hasB p.1 p.2.1 r) = blkB r := by
  rw [Bool.eq_iff_iff]
  simp only [blks, spanTab, List.take_succ_cons, List.take_zero, List.drop_succ_cons, List.drop_zero, List.any_cons, List.any_nil, blkB, hasB, decide_eq_true_eq, Bool.or_eq_true, beq_iff_eq]
  simp
  omega
theorem sgns_eq (r : Int) : (sgns.any fun p => hasB p.1 p.2.1 r) = isSign r := by
  rw [Bool.eq_iff_iff]
  simp only [sgns, spanTab, List.take_succ_cons, List.take_zero, List.drop_succ_cons, List.drop_zero, List.any_cons, List.any_nil, isSign, signList, hasB, decide_eq_true_eq, Bool.or_eq_true, beq_iff_eq]
  simp
  omega
theorem idxs_eq (r : Int) : (idxs.any fun p => hasB p.1 p.2.1 r) = hasB 8320 8329 r := by
  simp [idxs, spanTab]
/-- Signs are no indices. -/
theorem sign_no_index (r : Int) (h : hasB 8320 8329 r = true) : isSign r = false := by
  have hb : 8320 ≤ r ∧ r ≤ 8329 := by simpa [hasB] using h
  have hn : ¬ isSign r = true := by
    simp only [isSign, signList, List.any_cons, List.any_nil, Bool.or_eq_true, beq_iff_eq]
    simp
    omega
  simpa using hn

theorem kd_eq (r : Int) : kd r = kindR r := by
  rw [kd_parts, lets_eq, digs_eq, blks_eq, sgns_eq, idxs_eq]
  unfold kindR
  cases h1 : letB r
  · by_cases h2 : 0 ≤ digV r
    · simp [h2]
    · cases h3 : blkB r
      · cases h4 : hasB 8320 8329 r
        · cases h5 : isSign r <;> simp [h2, sgnK]
        · simp [h2, sign_no_index r h4]
      · simp [h2]
  · simp
end Go.Proofs.YtjmccobblpcbhaaDoor

namespace Go.Proofs
open Go.Shelf
def Tryd.lays169_ren : Go.Shelf.Ren := ⟨fun | 169 => 133 | n => n, fun | 70 => 170 | 9 => 9 | 0 => 0 | 72 => 172 | 37 => 38 | 127 => 193 | 3 => 3 | 5 => 5 | n => n, fun | n => n⟩
theorem Tryd.lays169 : Go.Proofs.Lays.n169 Tryd.prog Tryd.lays169_ren := {
  mixed := by kernel_rfl
  f169 := Tryd.func133.trans (congrArg some (by kernel_rfl))
  t0 := Tryd.underlying0
  a0 := Tryd.isAgg0
  z0 := Tryd.sizeOf0
  v0 := Tryd.zeroValue0
  t3 := Tryd.underlying3
  a3 := Tryd.isAgg3
  z3 := Tryd.sizeOf3
  v3 := Tryd.zeroValue3
  t9 := Tryd.underlying9
  a9 := Tryd.isAgg9
  z9 := Tryd.sizeOf9
  v9 := Tryd.zeroValue9
  t37 := Tryd.underlying38
  a37 := Tryd.isAgg38
  z37 := Tryd.sizeOf38
  v37 := Tryd.zeroValue38
  t70 := Tryd.underlying170
  a70 := Tryd.isAgg170
  z70 := Tryd.sizeOf170
  v70 := Tryd.zeroValue170
  t72 := Tryd.underlying172
  a72 := Tryd.isAgg172
  z72 := Tryd.sizeOf172
  v72 := Tryd.zeroValue172
  t127 := Tryd.underlying193
  a127 := Tryd.isAgg193
  z127 := Tryd.sizeOf193
  v127 := Tryd.zeroValue193 }
theorem Tryd.Builder_Extra_169 : Builder.Extra Tryd.prog Tryd.lays169_ren := {
  sizeBuilder := by kernel_rfl
  liesBuilder := by kernel_rfl
  t5 := Tryd.underlying5
  a5 := Tryd.isAgg5
  z5 := Tryd.sizeOf5
  v5 := Tryd.zeroValue5
  infoByte := by kernel_rfl
  cellsByte := by kernel_rfl
  sizeByte := by kernel_rfl
  neB5 := by decide }
def Tryd.lays118_ren : Go.Shelf.Ren := ⟨fun | 118 => 170 | n => n, fun | 21 => 21 | 3 => 3 | 4 => 4 | n => n, fun | n => n⟩
theorem Tryd.lays118 : Go.Proofs.Lays.n118 Tryd.prog Tryd.lays118_ren := {
  mixed := by kernel_rfl
  f118 := Tryd.func170.trans (congrArg some (by kernel_rfl))
  t3 := Tryd.underlying3
  a3 := Tryd.isAgg3
  z3 := Tryd.sizeOf3
  v3 := Tryd.zeroValue3
  t4 := Tryd.underlying4
  a4 := Tryd.isAgg4
  z4 := Tryd.sizeOf4
  v4 := Tryd.zeroValue4
  t21 := Tryd.underlying21
  a21 := Tryd.isAgg21
  z21 := Tryd.sizeOf21
  v21 := Tryd.zeroValue21 }
/-- utf8.RuneLen: "RuneLen returns the number of bytes in the UTF-8 encoding of the rune. It returns -1 if the rune is not a valid value to encode in UTF-8.": IT RETURNS 'Lib.runeLen r'; the world is as it was. (LAID: no walk: one application.) -/
theorem Tryd.utf8_RuneLen (r : Int) (w : World) :
    Calls Tryd.prog 170 #[.int .i32 r] w fun e w' => e = .returned (.int .i64 (Lib.runeLen r)) ∧ w' = w := Any.utf8_RuneLen Tryd.lays118 r w
open Go.RowKit in
/-- (*strings.Builder).String: "String returns the accumulated string.": WHATEVER THE BUILDER HOLDS; THE FORM '_k': OVER 'Lib.IsBuilderF' (a builder that 'String()' may have read), AND WITH THE FRAME THAT REACHES ABOVE THE BUILDER: 'Lib.OthersKept': every block that is not b and is no row of uint8's stands as it stood: the iterator of a range among them. (LAID: no walk: one application.) -/
theorem Tryd.Builder_String_any_k (B b : Nat) (l : List UInt8) (w : World) (h : Lib.IsBuilderF 172 5 B b (Lib.byteCells l) w) (hBw : B ≤ w.heap.size) :
    Calls Tryd.prog 133 #[.pointer (some ⟨b, 0, none⟩)] w fun e w' => e = .returned (.string ⟨l.toArray⟩) ∧ (Lib.IsBuilderF 172 5 B b (Lib.byteCells l) w' ∧ Below B w w' ∧ Lib.OthersKept 5 (some b) w w') := Any.Builder_String_any_k Tryd.lays169 Tryd.Builder_Extra_169 B b l w h hBw
def Tryd.lays242_ren : Go.Shelf.Ren := ⟨fun | 242 => 149 | 278 => 166 | n => n, fun | 37 => 38 | 21 => 21 | 51 => 157 | 4 => 4 | 5 => 5 | 46 => 100 | n => n, fun | n => n⟩
theorem Tryd.lays242 : Go.Proofs.Lays.n242 Tryd.prog Tryd.lays242_ren := {
  mixed := by kernel_rfl
  f242 := Tryd.func149.trans (congrArg some (by kernel_rfl))
  f278 := Tryd.func166.trans (congrArg some (by kernel_rfl))
  t4 := Tryd.underlying4
  a4 := Tryd.isAgg4
  z4 := Tryd.sizeOf4
  v4 := Tryd.zeroValue4
  t5 := Tryd.underlying5
  a5 := Tryd.isAgg5
  z5 := Tryd.sizeOf5
  v5 := Tryd.zeroValue5
  t21 := Tryd.underlying21
  a21 := Tryd.isAgg21
  z21 := Tryd.sizeOf21
  v21 := Tryd.zeroValue21
  t37 := Tryd.underlying38
  a37 := Tryd.isAgg38
  z37 := Tryd.sizeOf38
  v37 := Tryd.zeroValue38
  t46 := Tryd.underlying100
  a46 := Tryd.isAgg100
  z46 := Tryd.sizeOf100
  v46 := Tryd.zeroValue100
  t51 := Tryd.underlying157
  a51 := Tryd.isAgg157
  z51 := Tryd.sizeOf157
  v51 := Tryd.zeroValue157 }
open Go.RowKit in
/-- unicode/utf8.AppendRune: "AppendRune appends the UTF-8 encoding of r to the end of p and returns the extended buffer. If the rune is out of range, it appends the encoding of RuneError.": ONTO A ROW OF BYTES THAT THE CALL OWNS (its head frozen or not): EVERY int32: 'Lib.runeCells r' goes in behind what the row holds; the world: one new block (the bytes as the call's variadic argument), then what 'append' does to the row. (LAID: no walk: one application.) -/
theorem Tryd.utf8_AppendRune_row (B : Nat) (v : Value) (n : Nat) (xs : List Value) (r : Int) (hr0 : -2147483648 ≤ r) (hr1 : r ≤ 2147483647) (w : World) (hown : w.ownsRowF B 5 1 v n xs) (hlen : n + 4 ≤ 140737488355328) (hBw : B ≤ w.heap.size) :
    Calls Tryd.prog 149 #[v, .int .i32 r] w fun e w' => ∃ v', e = .returned v' ∧ w'.ownsRowF B 5 1 v' (n + (Lib.runeCells r).length) (xs ++ Lib.runeCells r) ∧ ∃ o, (w.alloc o).grownBy w' v.ownBlock := Any.utf8_AppendRune_row Tryd.lays242 (by kernel_rfl) B v n xs r hr0 hr1 w hown hlen hBw
def Tryd.laysM173_ren : Go.Shelf.Ren := ⟨fun | 173 => 131 | 246 => 147 | 283 => 161 | 284 => 162 | 285 => 163 | 286 => 164 | 129 => 117 | 317 => 175 | 318 => 176 | 319 => 177 | 320 => 178 | 337 => 180 | 338 => 181 | n => n, fun | 2 => 2 | 3 => 3 | 9 => 9 | 4 => 4 | 171 => 206 | 0 => 0 | 53 => 114 | 37 => 38 | 5 => 5 | 173 => 208 | 212 => 215 | 51 => 157 | 20 => 20 | 213 => 216 | 46 => 100 | 232 => 218 | 233 => 219 | n => n, fun | 17 => 4 | 18 => 5 | 19 => 6 | n => n⟩
theorem Tryd.laysM173 : Go.Proofs.LaysM.n173 Tryd.prog Tryd.laysM173_ren := {
  mixed := by kernel_rfl
  f129 := Tryd.func117.trans (congrArg some (by kernel_rfl))
  f173 := Tryd.func131.trans (congrArg some (by kernel_rfl))
  f246 := Tryd.func147.trans (congrArg some (by kernel_rfl))
  f283 := Tryd.func161.trans (congrArg some (by kernel_rfl))
  f284 := Tryd.func162.trans (congrArg some (by kernel_rfl))
  f285 := Tryd.func163.trans (congrArg some (by kernel_rfl))
  f286 := Tryd.func164.trans (congrArg some (by kernel_rfl))
  f317 := Tryd.func175.trans (congrArg some (by kernel_rfl))
  f318 := Tryd.func176.trans (congrArg some (by kernel_rfl))
  f319 := Tryd.func177.trans (congrArg some (by kernel_rfl))
  f320 := Tryd.func178.trans (congrArg some (by kernel_rfl))
  f337 := Tryd.func180.trans (congrArg some (by kernel_rfl))
  f338 := Tryd.func181.trans (congrArg some (by kernel_rfl))
  t0 := Tryd.underlying0
  a0 := Tryd.isAgg0
  z0 := Tryd.sizeOf0
  v0 := Tryd.zeroValue0
  t2 := Tryd.underlying2
  a2 := Tryd.isAgg2
  z2 := Tryd.sizeOf2
  v2 := Tryd.zeroValue2
  t3 := Tryd.underlying3
  a3 := Tryd.isAgg3
  z3 := Tryd.sizeOf3
  v3 := Tryd.zeroValue3
  t4 := Tryd.underlying4
  a4 := Tryd.isAgg4
  z4 := Tryd.sizeOf4
  v4 := Tryd.zeroValue4
  t5 := Tryd.underlying5
  a5 := Tryd.isAgg5
  z5 := Tryd.sizeOf5
  v5 := Tryd.zeroValue5
  t9 := Tryd.underlying9
  a9 := Tryd.isAgg9
  z9 := Tryd.sizeOf9
  v9 := Tryd.zeroValue9
  t20 := Tryd.underlying20
  a20 := Tryd.isAgg20
  z20 := Tryd.sizeOf20
  v20 := Tryd.zeroValue20
  t37 := Tryd.underlying38
  a37 := Tryd.isAgg38
  z37 := Tryd.sizeOf38
  v37 := Tryd.zeroValue38
  t46 := Tryd.underlying100
  a46 := Tryd.isAgg100
  z46 := Tryd.sizeOf100
  v46 := Tryd.zeroValue100
  t51 := Tryd.underlying157
  a51 := Tryd.isAgg157
  z51 := Tryd.sizeOf157
  v51 := Tryd.zeroValue157
  t53 := Tryd.underlying114
  a53 := Tryd.isAgg114
  z53 := Tryd.sizeOf114
  v53 := Tryd.zeroValue114
  t171 := Tryd.underlying206
  a171 := Tryd.isAgg206
  z171 := Tryd.sizeOf206
  v171 := Tryd.zeroValue206
  t173 := Tryd.underlying208
  a173 := Tryd.isAgg208
  z173 := Tryd.sizeOf208
  v173 := Tryd.zeroValue208
  t212 := Tryd.underlying215
  a212 := Tryd.isAgg215
  z212 := Tryd.sizeOf215
  v212 := Tryd.zeroValue215
  t213 := Tryd.underlying216
  a213 := Tryd.isAgg216
  z213 := Tryd.sizeOf216
  t232 := Tryd.underlying218
  a232 := Tryd.isAgg218
  z232 := Tryd.sizeOf218
  v232 := Tryd.zeroValue218
  t233 := Tryd.underlying219
  a233 := Tryd.isAgg219
  z233 := Tryd.sizeOf219
  v233 := Tryd.zeroValue219
  g17 := by kernel_rfl
  g18 := by kernel_rfl
  g19 := by kernel_rfl
  i0 := by kernel_rfl
  i2 := by kernel_rfl
  i3 := by kernel_rfl
  i4 := by kernel_rfl
  i5 := by kernel_rfl
  i9 := by kernel_rfl
  i20 := by kernel_rfl
  i37 := by kernel_rfl
  i46 := by kernel_rfl
  i51 := by kernel_rfl
  i53 := by kernel_rfl
  i171 := by kernel_rfl
  i173 := by kernel_rfl
  i212 := by kernel_rfl
  i232 := by kernel_rfl
  i233 := by kernel_rfl
  m17 := by kernel_rfl
  m18 := by kernel_rfl
  m19 := by kernel_rfl }
open Go.RowKit Go.Sort Go.Lib in
/-- strconv.FormatInt: "FormatInt returns the string representation of i in the given base": AT BASE 10: i's decimal numeral, for every int64. (LAID: no walk: one application.) -/
theorem Tryd.strconv_FormatInt_10 (n : Int) (h0 : -9223372036854775808 ≤ n) (h1 : n ≤ 9223372036854775807) (w : World) (htab : Lib.TabIs Tryd.prog w "internal/strconv.uint64pow10" .u64 Lib.pow10Tab) :
    Calls Tryd.prog 131 #[.int .i64 n, .int .i64 10] w fun e w' => e = .returned (.string ⟨(Lib.itoa n).toArray⟩) ∧ ∃ k os, w' = grow (w.drewN k) os := Any.strconv_FormatInt_10 Tryd.laysM173 n h0 h1 w htab
def Tryd.lays99_ren : Go.Shelf.Ren := ⟨fun | 99 => 168 | 206 => 179 | n => n, fun | 9 => 9 | 4 => 4 | 3 => 3 | n => n, fun | n => n⟩
theorem Tryd.lays99 : Go.Proofs.Lays.n99 Tryd.prog Tryd.lays99_ren := {
  mixed := by kernel_rfl
  f99 := Tryd.func168.trans (congrArg some (by kernel_rfl))
  f206 := Tryd.func179.trans (congrArg some (by kernel_rfl))
  t3 := Tryd.underlying3
  a3 := Tryd.isAgg3
  z3 := Tryd.sizeOf3
  v3 := Tryd.zeroValue3
  t4 := Tryd.underlying4
  a4 := Tryd.isAgg4
  z4 := Tryd.sizeOf4
  v4 := Tryd.zeroValue4
  t9 := Tryd.underlying9
  a9 := Tryd.isAgg9
  z9 := Tryd.sizeOf9
  v9 := Tryd.zeroValue9 }
open Go.RowKit Go.Lib in
/-- strings.HasPrefix: "HasPrefix reports whether the string s begins with prefix.": IT RETURNS 'Lib.hasPrefix s prefix'; the world is as it was. (LAID: no walk: one application.) -/
theorem Tryd.strings_HasPrefix (s p : ByteArray) (w : World) :
    Calls Tryd.prog 168 #[.string s, .string p] w fun e w' => e = .returned (.bool (Lib.hasPrefix s.data.toList p.data.toList)) ∧ w' = w := Any.strings_HasPrefix Tryd.lays99 s p w
def Tryd.lays260_ren : Go.Shelf.Ren := ⟨fun | 260 => 140 | n => n, fun | 9 => 9 | 21 => 21 | 3 => 3 | 4 => 4 | 5 => 5 | 119 => 197 | 0 => 0 | 46 => 100 | 139 => 200 | 138 => 199 | n => n, fun | 3 => 2 | 4 => 3 | n => n⟩
theorem Tryd.lays260 : Go.Proofs.Lays.n260 Tryd.prog Tryd.lays260_ren := {
  mixed := by kernel_rfl
  f260 := Tryd.func140.trans (congrArg some (by kernel_rfl))
  t0 := Tryd.underlying0
  a0 := Tryd.isAgg0
  z0 := Tryd.sizeOf0
  v0 := Tryd.zeroValue0
  t3 := Tryd.underlying3
  a3 := Tryd.isAgg3
  z3 := Tryd.sizeOf3
  v3 := Tryd.zeroValue3
  t4 := Tryd.underlying4
  a4 := Tryd.isAgg4
  z4 := Tryd.sizeOf4
  v4 := Tryd.zeroValue4
  t5 := Tryd.underlying5
  a5 := Tryd.isAgg5
  z5 := Tryd.sizeOf5
  v5 := Tryd.zeroValue5
  t9 := Tryd.underlying9
  a9 := Tryd.isAgg9
  z9 := Tryd.sizeOf9
  v9 := Tryd.zeroValue9
  t21 := Tryd.underlying21
  a21 := Tryd.isAgg21
  z21 := Tryd.sizeOf21
  v21 := Tryd.zeroValue21
  t46 := Tryd.underlying100
  a46 := Tryd.isAgg100
  z46 := Tryd.sizeOf100
  v46 := Tryd.zeroValue100
  t119 := Tryd.underlying197
  a119 := Tryd.isAgg197
  z119 := Tryd.sizeOf197
  t138 := Tryd.underlying199
  a138 := Tryd.isAgg199
  z138 := Tryd.sizeOf199
  v138 := Tryd.zeroValue199
  t139 := Tryd.underlying200
  a139 := Tryd.isAgg200
  z139 := Tryd.sizeOf200
  v139 := Tryd.zeroValue200
  g3 := by kernel_rfl
  g4 := by kernel_rfl }
def Tryd.lays197_ren : Go.Shelf.Ren := ⟨fun | 197 => 119 | 260 => 140 | n => n, fun | 9 => 9 | 21 => 21 | 3 => 3 | 4 => 4 | 5 => 5 | 105 => 159 | 119 => 197 | 0 => 0 | 46 => 100 | 139 => 200 | 138 => 199 | n => n, fun | 3 => 2 | 4 => 3 | n => n⟩
theorem Tryd.lays197 : Go.Proofs.Lays.n197 Tryd.prog Tryd.lays197_ren := {
  mixed := by kernel_rfl
  f197 := Tryd.func119.trans (congrArg some (by kernel_rfl))
  f260 := Tryd.func140.trans (congrArg some (by kernel_rfl))
  t0 := Tryd.underlying0
  a0 := Tryd.isAgg0
  z0 := Tryd.sizeOf0
  v0 := Tryd.zeroValue0
  t3 := Tryd.underlying3
  a3 := Tryd.isAgg3
  z3 := Tryd.sizeOf3
  v3 := Tryd.zeroValue3
  t4 := Tryd.underlying4
  a4 := Tryd.isAgg4
  z4 := Tryd.sizeOf4
  v4 := Tryd.zeroValue4
  t5 := Tryd.underlying5
  a5 := Tryd.isAgg5
  z5 := Tryd.sizeOf5
  v5 := Tryd.zeroValue5
  t9 := Tryd.underlying9
  a9 := Tryd.isAgg9
  z9 := Tryd.sizeOf9
  v9 := Tryd.zeroValue9
  t21 := Tryd.underlying21
  a21 := Tryd.isAgg21
  z21 := Tryd.sizeOf21
  v21 := Tryd.zeroValue21
  t46 := Tryd.underlying100
  a46 := Tryd.isAgg100
  z46 := Tryd.sizeOf100
  v46 := Tryd.zeroValue100
  t105 := Tryd.underlying159
  a105 := Tryd.isAgg159
  z105 := Tryd.sizeOf159
  v105 := Tryd.zeroValue159
  t119 := Tryd.underlying197
  a119 := Tryd.isAgg197
  z119 := Tryd.sizeOf197
  t138 := Tryd.underlying199
  a138 := Tryd.isAgg199
  z138 := Tryd.sizeOf199
  v138 := Tryd.zeroValue199
  t139 := Tryd.underlying200
  a139 := Tryd.isAgg200
  z139 := Tryd.sizeOf200
  v139 := Tryd.zeroValue200
  g3 := by kernel_rfl
  g4 := by kernel_rfl }
open Go.RowKit Go.Lib in
/-- **unicode/utf8.DecodeRuneInString AT EVERY STRING.** (LAID: no walk: one application.) -/
theorem Tryd.utf8_DecodeRuneInString (s : ByteArray) (w : World) (hT : Lib.Utf8Tabs 2 3 w) :
    Calls Tryd.prog 119 #[.string s] w fun e w' => e = .returned (.tuple #[.int .i32 (Lib.decodeGo s).1, .int .i64 (Lib.decodeGo s).2]) ∧ Below w.heap.size w w' := Any.utf8_DecodeRuneInString Tryd.lays197 s w hT
end Go.Proofs
