/-
  The kind by the table of spans is the document's kind, for every number.
-/
import Derived.Test.YtfhfokceeidhcaaDoorPure
set_option linter.unusedSimpArgs false
namespace Go.Proofs.YtfhfokceeidhcaaDoor

theorem kindIn_const (k : Int) (m : List (Int × Int × Int)) (r : Int) : ∀ l : List (Int × Int × Int), (l.all fun p => p.2.2 == k) = true → (spanIn (l ++ m) r).2.2 = if (l.any fun p => hasB p.1 p.2.1 r) = true then k else (spanIn m r).2.2
  | [], _ => by simp
  | p :: l, h => by
    simp only [List.all_cons, Bool.and_eq_true, beq_iff_eq] at h
    have ih := kindIn_const k m r l h.2
    by_cases hp : hasB p.1 p.2.1 r = true
    · have e1 : ((p :: l).any fun p => hasB p.1 p.2.1 r) = true := by simp [hp]
      have e2 : spanIn (p :: l ++ m) r = p := by simp [spanIn, hp]
      rw [e1, e2, if_pos rfl, h.1]
    · simp only [Bool.not_eq_true] at hp
      have e1 : ((p :: l).any fun p => hasB p.1 p.2.1 r) = l.any fun p => hasB p.1 p.2.1 r := by rw [List.any_cons, hp, Bool.false_or]
      have e2 : spanIn (p :: l ++ m) r = spanIn (l ++ m) r := by simp [spanIn, hp]
      rw [e1, e2, ih]

def lets : List (Int × Int × Int) := spanTab.take 13
def digs : List (Int × Int × Int) := (spanTab.drop 13).take 3
def blks : List (Int × Int × Int) := (spanTab.drop 16).take 5
def sgns : List (Int × Int × Int) := (spanTab.drop 21).take 16
def idxs : List (Int × Int × Int) := spanTab.drop 37
theorem spanTab_parts : spanTab = lets ++ (digs ++ (blks ++ (sgns ++ (idxs ++ [])))) := rfl

theorem kd_parts (r : Int) : kd r = if (lets.any fun p => hasB p.1 p.2.1 r) = true then 1 else if (digs.any fun p => hasB p.1 p.2.1 r) = true then 2 else if (blks.any fun p => hasB p.1 p.2.1 r) = true then 3 else if (sgns.any fun p => hasB p.1 p.2.1 r) = true then 4 else if (idxs.any fun p => hasB p.1 p.2.1 r) = true then 5 else 0 := by
  unfold kd spn
  rw [spanTab_parts, kindIn_const 1 _ r lets (by decide), kindIn_const 2 _ r digs (by decide), kindIn_const 3 _ r blks (by decide), kindIn_const 4 _ r sgns (by decide), kindIn_const 5 _ r idxs (by decide)]
  rfl

theorem lets_eq (r : Int) : (lets.any fun p => hasB p.1 p.2.1 r) = letB r := by
  rw [Bool.eq_iff_iff]
  simp only [lets, spanTab, List.take_succ_cons, List.take_zero, List.any_cons, List.any_nil, letB, hasB]
  by_cases h1 : 192 ≤ r ∧ r ≤ 591
  · simp [h1]; omega
  · by_cases h2 : 880 ≤ r ∧ r ≤ 1023
    · simp [h1, h2]; omega
    · by_cases h3 : 1024 ≤ r ∧ r ≤ 1327
      · simp [h1, h2, h3]; omega
      · simp [h1, h2, h3]; omega
theorem digs_eq (r : Int) : (digs.any fun p => hasB p.1 p.2.1 r) = decide (0 ≤ digV r) := by
  rw [Bool.eq_iff_iff]
  simp only [digs, spanTab, List.take_succ_cons, List.take_zero, List.drop_succ_cons, List.drop_zero, List.any_cons, List.any_nil, digV, hasB, decide_eq_true_eq, Bool.or_eq_true]
  simp only [Bool.false_eq_true, or_false]
  split
  · omega
  · split
    · omega
    · split <;> omega
theorem blks_eq (r : Int) : (blks.any fun p => hasB p.1 p.2.1 r) = blkB r := by
  rw [Bool.eq_iff_iff]
  simp only [blks, spanTab, List.take_succ_cons, List.take_zero, List.drop_succ_cons, List.drop_zero, List.any_cons, List.any_nil, blkB, hasB, decide_eq_true_eq, Bool.or_eq_true, beq_iff_eq]
  simp
  omega
theorem sgns_eq (r : Int) : (sgns.any fun p => hasB p.1 p.2.1 r) = isSign r := by
  rw [Bool.eq_iff_iff]
  simp only [sgns, spanTab, List.take_succ_cons, List.take_zero, List.drop_succ_cons, List.drop_zero, List.any_cons, List.any_nil, isSign, signList, hasB, decide_eq_true_eq, Bool.or_eq_true, beq_iff_eq]
  simp
  omega
theorem idxs_eq (r : Int) : (idxs.any fun p => hasB p.1 p.2.1 r) = hasB 8320 8329 r := by
  simp [idxs, spanTab]
/-- Signs are no indices. -/
theorem sign_no_index (r : Int) (h : hasB 8320 8329 r = true) : isSign r = false := by
  have hb : 8320 ≤ r ∧ r ≤ 8329 := by simpa [hasB] using h
  have hn : ¬ isSign r = true := by
    simp only [isSign, signList, List.any_cons, List.any_nil, Bool.or_eq_true, beq_iff_eq]
    simp
    omega
  simpa using hn

theorem kd_eq (r : Int) : kd r = kindR r := by
  rw [kd_parts, lets_eq, digs_eq, blks_eq, sgns_eq, idxs_eq]
  unfold kindR
  cases h1 : letB r
  · by_cases h2 : 0 ≤ digV r
    · simp [h2]
    · cases h3 : blkB r
      · cases h4 : hasB 8320 8329 r
        · cases h5 : isSign r <;> simp [h2, sgnK]
        · simp [h2, sign_no_index r h4]
      · simp [h2]
  · simp
end Go.Proofs.YtfhfokceeidhcaaDoor
