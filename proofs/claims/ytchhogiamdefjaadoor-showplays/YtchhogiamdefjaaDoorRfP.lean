/-
  What the document's Show and Lisp come to, plainly: the same.
-/
import Derived.Test.YtchhogiamdefjaaDoorTlW
set_option linter.unusedSimpArgs false
set_option linter.unusedVariables false
namespace Go.Proofs.YtchhogiamdefjaaDoor
open Go.Lib

/-- The text of the node at a place. -/
def tx (J : JT) (l : List Nd) (i : Nat) : ByteArray := ((tlL J l).getD i pt0).2

theorem foldl_tlS_pre (J : JT) : ∀ (m : List Nd) (t : List (Nd × ByteArray)), ∃ r, m.foldl (tlS J) t = t ++ r
  | [], t => ⟨[], by simp⟩
  | x :: m, t => by
    obtain ⟨r, hr⟩ := foldl_tlS_pre J m (tlS J t x)
    exact ⟨[(x, ndT J t x)] ++ r, by rw [List.foldl_cons, hr]; simp [tlS]⟩
theorem tlL_prefix (J : JT) (l : List Nd) (k i : Nat) (hi : i < k) (hk : k ≤ l.length) : (tlL J (l.take k)).getD i pt0 = (tlL J l).getD i pt0 := by
  have e : tlL J l = (l.drop k).foldl (tlS J) (tlL J (l.take k)) := by
    unfold tlL
    rw [← List.foldl_append, List.take_append_drop]
  obtain ⟨r, hr⟩ := foldl_tlS_pre J (l.drop k) (tlL J (l.take k))
  rw [e, hr, getD_append_left]
  rw [tlL_len]; simp; omega
theorem tl_at (J : JT) (l : List Nd) (i : Nat) (hi : i < l.length) : (tlL J l).getD i pt0 = (l.getD i nd0, ndT J (tlL J (l.take i)) (l.getD i nd0)) := by
  rw [← tlL_prefix J l (i + 1) i (by omega) (by omega), tlL_take hi]
  have hl : (tlL J (l.take i)).length = i := by rw [tlL_len]; simp; omega
  simp [List.getD_eq_getElem?_getD, List.getElem?_append_right, hl]
def kdP (J : JT) (l : List Nd) (ks : List Int) : List (Nd × ByteArray) := ks.map fun q => (l.getD q.toNat nd0, tx J l q.toNat)
theorem kids_tx (J : JT) (l : List Nd) (i : Nat) (hi : i < l.length) : ∀ ks : List Int, (∀ q ∈ ks, 0 ≤ q ∧ q < (i : Int)) → kidsP (tlL J (l.take i)) ks = kdP J l ks
  | [], _ => rfl
  | q :: ks, h => by
    have h0 := h q (List.mem_cons_self ..)
    have h1 := kids_tx J l i hi ks fun y hy => h y (List.mem_cons_of_mem _ hy)
    unfold kidsP kdP at h1 ⊢
    rw [List.map_cons, List.map_cons, h1, tlL_prefix J l i q.toNat (by omega) (by omega)]
    have := tl_at J l q.toNat (by omega)
    unfold tx
    rw [this]
theorem tx_eq (J : JT) (l : List Nd) (i : Nat) (hi : i < l.length) (hk : ∀ q ∈ (l.getD i nd0).kids, 0 ≤ q ∧ q < (i : Int)) : tx J l i = if (l.getD i nd0).kids.length = 0 then leafT (l.getD i nd0) else J (l.getD i nd0) (kdP J l (l.getD i nd0).kids) := by
  have h := tl_at J l i hi
  unfold tx
  rw [h]
  show ndT J (tlL J (l.take i)) (l.getD i nd0) = _
  unfold ndT
  rw [kids_tx J l i hi _ hk]
theorem shF_tx (J : JT) (l : List Nd) : shF J l = tx J l (l.length - 1) := rfl
theorem kdP_len (J : JT) (l : List Nd) (ks : List Int) : (kdP J l ks).length = ks.length := by simp [kdP]
theorem kdP_getD (J : JT) (l : List Nd) (ks : List Int) (j : Nat) (hj : j < ks.length) : (kdP J l ks).getD j pt0 = (l.getD (ks.getD j 0).toNat nd0, tx J l (ks.getD j 0).toNat) := by
  unfold kdP
  simp [hj]
theorem tx_size {J : JT} (hJ : JOk J) {l : List Nd} {fr : List Nat} (hb : begL (l.map fillN) = some fr) (hn : ∀ x ∈ l, num64 x.n) (i : Nat) : (tx J l i).size ≤ 6500 := by
  have h64 : l.length ≤ 64 := by have := (snd_bounds hb).1; simpa using this
  by_cases hi : i < l.length
  · have hT := tl_ok hJ hb hn l.length (Nat.le_refl _)
    rw [List.take_length] at hT
    have h1 := hT i (by rw [tlL_len]; exact hi)
    have h2 := wgt_le fr i
    unfold tx
    omega
  · unfold tx
    rw [List.getD_eq_getElem?_getD, List.getElem?_eq_none (by rw [tlL_len]; omega)]
    show (⟨#[]⟩ : ByteArray).size ≤ 6500
    decide

/-! ### brackets -/
def clB (op : Int) (y : Nd) (second : Bool) : Bool :=
  if op = 17 then !second && decide (rkT y.op = 1)
  else if op = 15 ∨ op = 16 then decide (rkT y.op ≤ rkT op)
  else if op = 4 then decide (rkT y.op < 10)
  else if op = 3 then decide (rkT y.op < 10) || (decide (y.op = 1) && decide (0 ≤ y.n))
  else if second = true then decide (rkT y.op ≤ rkT op) else decide (rkT y.op < rkT op)
theorem closed_eq (op : Int) (k : Nat) (y : Nd) (h : op = 3 ∨ op = 4 → k = 0) : clB op y (decide (0 < k)) = brkB op k y := by
  have r17 : rkT 17 = 1 := rfl
  have r4 : rkT 4 = 10 := rfl
  have r3 : rkT 3 = 10 := rfl
  have r1 : rkT 1 = 11 := rfl
  unfold clB brkB
  by_cases h17 : op = 17
  · subst h17
    rw [if_pos rfl, if_pos rfl, r17]
    cases k <;> simp
  · rw [if_neg h17, if_neg h17]
    by_cases h15 : op = 15 ∨ op = 16
    · rw [if_pos h15, if_pos h15]
    · rw [if_neg h15, if_neg h15]
      by_cases h4 : op = 4
      · subst h4
        have hk := h (.inr rfl)
        subst hk
        rw [if_pos rfl, r4]
        simp
      · rw [if_neg h4]
        by_cases h3 : op = 3
        · subst h3
          have hk := h (.inl rfl)
          subst hk
          rw [if_pos rfl, r3]
          by_cases hy : y.op = 1
          · rw [if_pos ⟨rfl, hy⟩, hy, r1]; simp
          · rw [if_neg (fun e => hy e.2), if_pos rfl]; simp [hy]
        · have hh : ¬ (op = 3 ∧ y.op = 1) := fun e => h3 e.1
          rw [if_neg h3]
          cases k <;> simp [hh]
theorem kids_arit {x : Nd} (h : formB (fillN x) = true) : (x.kids.length : Int) = aritI (fillN x).op := by
  unfold formB fitB at h
  simp only [Bool.and_eq_true, decide_eq_true_eq] at h
  rw [fillN_kids] at h
  exact h.1.1.2
theorem arit_three {x : Nd} (h : formB (fillN x) = true) (h3 : x.kids.length = 3) : x.op = 17 := by
  have := kids_arit h
  rw [h3] at this
  by_cases e : x.op = 18
  · simp [fillN, e, aritI] at this
  · have e2 : (fillN x).op = x.op := by simp [fillN, e]
    rw [e2] at this
    unfold aritI at this
    split at this <;> (try split at this) <;> (try split at this) <;> (try split at this) <;> omega
theorem arit_one {x : Nd} (h : formB (fillN x) = true) (h3 : x.op = 3 ∨ x.op = 4) : x.kids.length = 1 := by
  have := kids_arit h
  have e2 : (fillN x).op = x.op := by
    have : x.op ≠ 18 := by omega
    simp [fillN, this]
  rw [e2] at this
  unfold aritI at this
  rw [if_neg (by omega), if_pos h3] at this
  omega

/-! ### putting together -/
theorem ba_ext {a b : ByteArray} (h : a.data.toList = b.data.toList) : a = b := ByteArray.ext (Array.toList_inj.1 h)
theorem put_three (op : Int) (h : op = 17) (a b c : ByteArray) : a ++ txt [32, 63, 32] ++ b ++ txt [32, 58, 32] ++ c = putT op [a, b, c] := by
  subst h
  have e : sgT 17 = txt [63] := rfl
  unfold putT
  rw [e]
  apply ba_ext
  simp [txt]
theorem ahd_end (x : Nd) (ps : List (Nd × ByteArray)) (k : Nat) (hk : x.op = (k : Int)) : txt (ahB k ps) ++ txt [41] = ahdT x ps := by
  unfold ahdT ahB wrAt
  rw [hk, Int.toNat_natCast, ← txt_append]
theorem ahd_start (k : Nat) (ps : List (Nd × ByteArray)) : txt [40] ++ wdT k = txt (ahB k (ps.take 0)) := by
  unfold ahB wdT wrAt
  rw [Int.toNat_natCast, ← txt_append]
  simp
theorem ahd_step (k : Nat) (ps : List (Nd × ByteArray)) (j : Nat) (hj : j < ps.length) : txt (ahB k (ps.take j)) ++ txt [32] ++ (ps.getD j pt0).2 = txt (ahB k (ps.take (j + 1))) := by
  have e : ahB k (ps.take (j + 1)) = ahB k (ps.take j) ++ ([32] ++ (ps.getD j pt0).2.data.toList) := by
    unfold ahB
    rw [List.take_succ_eq_append_getElem hj, List.flatMap_append]
    simp [hj]
  rw [e, txt_append, txt_append, txt_data]
  apply ba_ext
  simp [txt]
theorem ok_ref (l : List Nd) : okSh l = (sndB (l.map fillN) && (decide ((hlsL l).length = 0) || (decide ((hlsL l).length ≤ 6) && decide (l.length ≤ 16)))) := by
  unfold okSh
  generalize (hlsL l).length = h
  generalize sndB (l.map fillN) = s
  by_cases h0 : h = 0
  · subst h0; simp
  · by_cases h6 : h ≤ 6
    · have : ¬ 6 < h := by omega
      cases s <;> simp [h0, h6, this]
    · have : 6 < h := by omega
      cases s <;> simp [h0, h6, this]

/-! ### decimals -/
theorem dec_step (u : Nat) (s D : List UInt8) (h : decDigits u ++ s = D) : (u < 10 → UInt8.ofNat (48 + u % 10) :: s = D) ∧ (10 ≤ u → decDigits (u / 10) ++ (UInt8.ofNat (48 + u % 10) :: s) = D) := by
  constructor
  · intro h1
    rw [decDigits, dif_pos h1] at h
    rw [Nat.mod_eq_of_lt h1]
    exact h
  · intro h1
    rw [decDigits, dif_neg (by omega)] at h
    rw [← h]; simp
end Go.Proofs.YtchhogiamdefjaaDoor
