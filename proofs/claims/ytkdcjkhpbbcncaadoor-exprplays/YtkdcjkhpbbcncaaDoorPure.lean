/-
  Plain facts, of no program: the kind of a rune by the table of spans, the steps of a decoder over a text.
-/
import Derived.Shelf.Unicode.DecodeSlow
import Derived.Laws.RangeAny
set_option linter.unusedSimpArgs false
namespace Go.Proofs.YtkdcjkhpbbcncaaDoor

/-- The spans as the program's table lays them: first, last, kind. -/
def spanTab : List (Int × Int × Int) := [(97, 122, 1), (65, 90, 1), (95, 95, 1), (192, 214, 1), (216, 246, 1), (248, 591, 1), (880, 893, 1), (895, 902, 1), (904, 1023, 1), (1024, 1153, 1), (1162, 1327, 1), (19968, 40959, 1), (66560, 66639, 1), (48, 57, 2), (1632, 1641, 2), (65296, 65305, 2), (9, 10, 3), (13, 13, 3), (32, 32, 3), (160, 160, 3), (12288, 12288, 3), (37, 38, 4), (40, 45, 4), (47, 47, 4), (58, 64, 4), (94, 94, 4), (124, 124, 4), (126, 126, 4), (172, 172, 4), (183, 183, 4), (215, 215, 4), (247, 247, 4), (8722, 8722, 4), (8743, 8744, 4), (8801, 8801, 4), (8810, 8811, 4), (8853, 8853, 4), (8320, 8329, 5)]

/-- Does r stand in the span from a to b? -/
def hasB (a b r : Int) : Bool := decide (a ≤ r ∧ r ≤ b)

def spanIn : List (Int × Int × Int) → Int → Int × Int × Int
  | [], _ => (0, 0, 0)
  | p :: l, r => if hasB p.1 p.2.1 r then p else spanIn l r

/-- The span of r; its kind. -/
def spn (r : Int) : Int × Int × Int := spanIn spanTab r
def kd (r : Int) : Int := (spn r).2.2

/-- May r stand in a name behind its first? -/
def onB (r : Int) : Bool := kd r == 1 || kd r == 2 || kd r == 5

/-- The document's own tests, as it writes them. -/
def letB (r : Int) : Bool :=
  if hasB 97 122 r || hasB 65 90 r || r == 95 then true
  else if hasB 192 591 r then r != 215 && r != 247
  else if hasB 880 1023 r then r != 894 && r != 903
  else if hasB 1024 1327 r then !hasB 1154 1161 r
  else hasB 19968 40959 r || hasB 66560 66639 r
def digV (r : Int) : Int := if hasB 48 57 r then r - 48 else if hasB 1632 1641 r then r - 1632 else if hasB 65296 65305 r then r - 65296 else -1
def digZ (r : Int) : Int := if hasB 48 57 r then 48 else if hasB 1632 1641 r then 1632 else if hasB 65296 65305 r then 65296 else 0

def blkB (r : Int) : Bool := r == 32 || r == 9 || r == 10 || r == 13 || r == 160 || r == 12288
def signList : List Int := [40, 41, 43, 45, 42, 47, 37, 38, 124, 94, 126, 60, 62, 61, 63, 58, 59, 44, 64, 172, 183, 215, 247, 8722, 8743, 8744, 8801, 8810, 8811, 8853]
def isSign (r : Int) : Bool := signList.any (· == r)
def sgnK (b : Bool) : Int := if b then 4 else 0
/-- The document's kind, as it writes it. -/
def kindR (r : Int) : Int := if letB r then 1 else if 0 ≤ digV r then 2 else if blkB r then 3 else if hasB 8320 8329 r then 5 else sgnK (isSign r)

theorem spanTab_length : spanTab.length = 38 := rfl

theorem spanIn_drop_hit (r : Int) (k : Nat) (h : k < spanTab.length) (hh : hasB (spanTab.getD k (0, 0, 0)).1 (spanTab.getD k (0, 0, 0)).2.1 r = true) : spanIn (spanTab.drop k) r = spanTab.getD k (0, 0, 0) := by
  rw [List.drop_eq_getElem_cons h]
  have e : spanTab.getD k (0, 0, 0) = spanTab[k] := by simp [h]
  rw [e] at hh ⊢
  simp [spanIn, hh]
theorem spanIn_drop_miss (r : Int) (k : Nat) (h : k < spanTab.length) (hh : hasB (spanTab.getD k (0, 0, 0)).1 (spanTab.getD k (0, 0, 0)).2.1 r = false) : spanIn (spanTab.drop k) r = spanIn (spanTab.drop (k + 1)) r := by
  rw [List.drop_eq_getElem_cons h]
  have e : spanTab.getD k (0, 0, 0) = spanTab[k] := by simp [h]
  rw [e] at hh
  simp [spanIn, hh]
theorem spanIn_end (r : Int) : spanIn (spanTab.drop 38) r = (0, 0, 0) := rfl

/-! ### The steps of a range over a text -/
def runesFrom (s : ByteArray) : Nat → Nat → List Int
  | 0, _ => []
  | f + 1, pos => if pos < s.size then ((Utf8.decode s pos).1 : Int) :: runesFrom s f (pos + (Utf8.decode s pos).2) else []
theorem runesFrom_cons (s : ByteArray) (f pos : Nat) (h : pos < s.size) : runesFrom s (f + 1) pos = ((Utf8.decode s pos).1 : Int) :: runesFrom s f (pos + (Utf8.decode s pos).2) := by
  simp [runesFrom, h]
theorem runesFrom_end (s : ByteArray) (f pos : Nat) (h : ¬ pos < s.size) : runesFrom s f pos = [] := by
  cases f <;> simp [runesFrom, h]

theorem width_pos (s : ByteArray) (pos : Nat) (h : pos < s.size) : 1 ≤ (Utf8.decode s pos).2 := by
  by_cases ha : (s[pos]'h).toNat < 128
  · rw [decode_ascii s pos h ha]
    exact Nat.le_refl _
  · exact (decode_high s pos h (by omega)).2

/-- The document's signs, as its text holds them. -/
def signs : ByteArray := ⟨#[40, 41, 43, 45, 42, 47, 37, 38, 124, 94, 126, 60, 62, 61, 63, 58, 59, 44, 64, 194, 172, 194, 183, 195, 151, 195, 183, 226, 136, 146, 226, 136, 167, 226, 136, 168, 226, 137, 161, 226, 137, 170, 226, 137, 171, 226, 138, 149]⟩
theorem runesFrom_signs : runesFrom signs 48 0 = signList := by decide +kernel

/-! ### Names -/
/-- One step: r is the next rune, n were ahead, 'rest' is what the rest says. -/
def nmS (r : Int) (n : Nat) (rest : Bool) : Bool := if (n == 0 && kd r != 1) || !onB r then false else rest
def nmF (s : ByteArray) : Nat → Nat → Nat → Bool
  | 0, _, n => decide (1 ≤ n ∧ n ≤ 16)
  | f + 1, pos, n => if pos < s.size then nmS (Utf8.decode s pos).1 n (nmF s f (pos + (Utf8.decode s pos).2) (n + 1)) else decide (1 ≤ n ∧ n ≤ 16)
def nameB (s : ByteArray) : Bool := nmF s s.size 0 0
theorem nmF_step (s : ByteArray) (f pos n : Nat) (h : pos < s.size) : nmF s (f + 1) pos n = nmS (Utf8.decode s pos).1 n (nmF s f (pos + (Utf8.decode s pos).2) (n + 1)) := by
  simp [nmF, h]
theorem nmF_end (s : ByteArray) (f pos n : Nat) (h : ¬ pos < s.size) : nmF s f pos n = decide (1 ≤ n ∧ n ≤ 16) := by
  cases f <;> simp [nmF, h]
theorem nmF_long (s : ByteArray) : ∀ (f pos n : Nat), 17 ≤ n → nmF s f pos n = false
  | 0, _, n, h => by simp [nmF]; omega
  | f + 1, pos, n, h => by
    by_cases hp : pos < s.size
    · rw [nmF_step s f pos n hp, nmF_long s f _ (n + 1) (by omega)]
      simp [nmS]
    · rw [nmF_end s _ pos n hp]; simp; omega
end Go.Proofs.YtkdcjkhpbbcncaaDoor

namespace Go.Proofs.YtkdcjkhpbbcncaaDoor

theorem kindIn_const (k : Int) (m : List (Int × Int × Int)) (r : Int) : ∀ l : List (Int × Int × Int), (l.all fun p => p.2.2 == k) = true → (spanIn (l ++ m) r).2.2 = if (l.any fun p => hasB p.1 p.2.1 r) = true then k else (spanIn m r).2.2
  | [], _ => by simp
  | p :: l, h => by
    simp only [List.all_cons, Bool.and_eq_true, beq_iff_eq] at h
    have ih := kindIn_const k m r l h.2
    by_cases hp : hasB p.1 p.2.1 r = true
    · have e1 : ((p :: l).any fun p => hasB p.1 p.2.1 r) = true := by simp [hp]
      have e2 : spanIn (p :: l ++ m) r = p := by simp [spanIn, hp]
      rw [e1, e2, if_pos rfl, h.1]
    · simp only [Bool.not_eq_true] at hp
      have e1 : ((p :: l).any fun p => hasB p.1 p.2.1 r) = l.any fun p => hasB p.1 p.2.1 r := by rw [List.any_cons, hp, Bool.false_or]
      have e2 : spanIn (p :: l ++ m) r = spanIn (l ++ m) r := by simp [spanIn, hp]
      rw [e1, e2, ih]

def lets : List (Int × Int × Int) := spanTab.take 13
def digs : List (Int × Int × Int) := (spanTab.drop 13).take 3
def blks : List (Int × Int × Int) := (spanTab.drop 16).take 5
def sgns : List (Int × Int × Int) := (spanTab.drop 21).take 16
def idxs : List (Int × Int × Int) := spanTab.drop 37
theorem spanTab_parts : spanTab = lets ++ (digs ++ (blks ++ (sgns ++ (idxs ++ [])))) := rfl

theorem kd_parts (r : Int) : kd r = if (lets.any fun p => hasB p.1 p.2.1 r) = true then 1 else if (digs.any fun p => hasB p.1 p.2.1 r) = true then 2 else if (blks.any fun p => hasB p.1 p.2.1 r) = true then 3 else if (sgns.any fun p => hasB p.1 p.2.1 r) = true then 4 else if (idxs.any fun p => hasB p.1 p.2.1 r) = true then 5 else 0 := by
  unfold kd spn
  rw [spanTab_parts, kindIn_const 1 _ r lets (by decide), kindIn_const 2 _ r digs (by decide), kindIn_const 3 _ r blks (by decide), kindIn_const 4 _ r sgns (by decide), kindIn_const 5 _ r idxs (by decide)]
  rfl

theorem lets_eq (r : Int) : (lets.any fun p => hasB p.1 p.2.1 r) = letB r := by
  rw [Bool.eq_iff_iff]
  simp only [lets, spanTab, List.take_succ_cons, List.take_zero, List.any_cons, List.any_nil, letB, hasB]
  by_cases h1 : 192 ≤ r ∧ r ≤ 591
  · simp [h1]; omega
  · by_cases h2 : 880 ≤ r ∧ r ≤ 1023
    · simp [h1, h2]; omega
    · by_cases h3 : 1024 ≤ r ∧ r ≤ 1327
      · simp [h1, h2, h3]; omega
      · simp [h1, h2, h3]; omega
theorem digs_eq (r : Int) : (digs.any fun p => hasB p.1 p.2.1 r) = decide (0 ≤ digV r) := by
  rw [Bool.eq_iff_iff]
  simp only [digs, spanTab, List.take_succ_cons, List.take_zero, List.drop_succ_cons, List.drop_zero, List.any_cons, List.any_nil, digV, hasB, decide_eq_true_eq, Bool.or_eq_true]
  simp only [Bool.false_eq_true, or_false]
  split
  · omega
  · split
    · omega
    · split <;> omega
theorem blks_eq (r : Int) : (blks.any fun p => hasB p.1 p.2.1 r) = blkB r := by
  rw [Bool.eq_iff_iff]
  simp only [blks, spanTab, List.take_succ_cons, List.take_zero, List.drop_succ_cons, List.drop_zero, List.any_cons, List.any_nil, blkB, hasB, decide_eq_true_eq, Bool.or_eq_true, beq_iff_eq]
  simp
  omega
theorem sgns_eq (r : Int) : (sgns.any fun p => hasB p.1 p.2.1 r) = isSign r := by
  rw [Bool.eq_iff_iff]
  simp only [sgns, spanTab, List.take_succ_cons, List.take_zero, List.drop_succ_cons, List.drop_zero, List.any_cons, List.any_nil, isSign, signList, hasB, decide_eq_true_eq, Bool.or_eq_true, beq_iff_eq]
  simp
  omega
theorem idxs_eq (r : Int) : (idxs.any fun p => hasB p.1 p.2.1 r) = hasB 8320 8329 r := by
  simp [idxs, spanTab]
/-- Signs are no indices. -/
theorem sign_no_index (r : Int) (h : hasB 8320 8329 r = true) : isSign r = false := by
  have hb : 8320 ≤ r ∧ r ≤ 8329 := by simpa [hasB] using h
  have hn : ¬ isSign r = true := by
    simp only [isSign, signList, List.any_cons, List.any_nil, Bool.or_eq_true, beq_iff_eq]
    simp
    omega
  simpa using hn

theorem kd_eq (r : Int) : kd r = kindR r := by
  rw [kd_parts, lets_eq, digs_eq, blks_eq, sgns_eq, idxs_eq]
  unfold kindR
  cases h1 : letB r
  · by_cases h2 : 0 ≤ digV r
    · simp [h2]
    · cases h3 : blkB r
      · cases h4 : hasB 8320 8329 r
        · cases h5 : isSign r <;> simp [h2, sgnK]
        · simp [h2, sign_no_index r h4]
      · simp [h2]
  · simp
end Go.Proofs.YtkdcjkhpbbcncaaDoor
