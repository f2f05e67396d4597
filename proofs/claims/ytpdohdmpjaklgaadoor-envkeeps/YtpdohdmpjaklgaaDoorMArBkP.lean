/-
  Numbers written and read back, plain.
-/
import Derived.Test.YtpdohdmpjaklgaaDoorMArRfT
import Derived.Test.YtpdohdmpjaklgaaDoorMArRdW
set_option linter.unusedSimpArgs false
set_option linter.unusedVariables false
namespace Go.Proofs.YtpdohdmpjaklgaaDoor
open Go.Lib Go.RowKit

/-- S has the digits ds at pos, and behind them B. -/
theorem one_read (S : ByteArray) (z : Int) (hz : isZ z) (B : ByteArray) :
    ∀ (ds : List Nat) (f pos n : Nat), (∀ d ∈ ds, isD d) → S.size ≤ pos + f → pos ≤ S.size → S.extract pos S.size = txt z ds ++ B →
      (B.size = 0 → oneF S z f pos = true ∧ vaF S f pos n = n * 10 ^ ds.length + val ds) ∧ (B.size ≠ 0 → ¬ digZ (Utf8.decode B 0).1 = z → oneF S z f pos = false)
  | [], f, pos, n, _, hf, hp, he => by
    have hsz := tail_size S pos
    have hE : txt z [] ++ B = B := by apply ByteArray.ext; rw [ByteArray.data_append]; simp [txt]
    rw [hE] at he
    refine ⟨fun hB => ?_, fun hB hz' => ?_⟩
    · rw [he, hB] at hsz
      rw [oneF_end S z f pos (by omega), vaF_end S f pos n (by omega)]
      simp [val]
    · rw [he] at hsz
      have hlt : pos < S.size := by omega
      obtain ⟨f, rfl⟩ : ∃ g, f = g + 1 := ⟨f - 1, by omega⟩
      have hd := dec_tail S pos 0
      rw [he, Nat.add_zero] at hd
      exact oneF_off S z f pos hlt (by rw [← hd]; exact hz')
  | d :: ds, f, pos, n, hds, hf, hp, he => by
    have hdD := hds d (by simp)
    have hsz := tail_size S pos
    obtain ⟨_, e1, e3⟩ := enc_dec z d hz hdD
    rw [txt, ByteArray.append_assoc] at he
    have hlt : pos < S.size := by
      rw [he, ByteArray.size_append] at hsz
      omega
    have hd := dec_tail S pos 0
    rw [he, Nat.add_zero, dec_digit z d hz hdD] at hd
    obtain ⟨g1, g2⟩ := dig_digit z d hz hdD
    have hle := dec_le S pos hlt
    obtain ⟨f, rfl⟩ : ∃ g, f = g + 1 := ⟨f - 1, by omega⟩
    have hz1 : digZ (Utf8.decode S pos).1 = z := by rw [← hd]; exact g1
    have hv1 : (digV (Utf8.decode S pos).1).toNat = d := by rw [← hd]; rw [g2]; rfl
    have hw : (Utf8.decode S pos).2 = (Utf8.encode (z + (d : Int))).size := by rw [← hd]
    have htail : S.extract (pos + (Utf8.encode (z + (d : Int))).size) S.size = txt z ds ++ B := by
      have h := tail_tail S pos (Utf8.encode (z + (d : Int))).size
      rw [he, append_tail] at h
      exact h.symm
    have ih := one_read S z hz B ds f (pos + (Utf8.encode (z + (d : Int))).size) (n * 10 + d) (fun x hx => hds x (by simp [hx])) (by omega) (by omega) htail
    rw [oneF_on S z f pos hlt hz1, vaF_on S f pos n hlt, hv1, hw]
    have hpw : 10 ^ (d :: ds).length = 10 * 10 ^ ds.length := by rw [List.length_cons, Nat.pow_succ, Nat.mul_comm]
    have hval : n * 10 ^ (d :: ds).length + val (d :: ds) = (n * 10 + d) * 10 ^ ds.length + val ds := by
      rw [hpw, val, Nat.add_mul, Nat.mul_assoc]; omega
    rw [hval]
    exact ih

theorem ext_all (S : ByteArray) : S.extract 0 S.size = S := by
  apply ByteArray.ext
  apply Array.ext'
  rw [extract_data, List.drop_zero, Nat.sub_zero, size_eq, List.take_length]
theorem app_nil (S : ByteArray) : S ++ (⟨#[]⟩ : ByteArray) = S := by
  apply ByteArray.ext; rw [ByteArray.data_append]; simp

theorem sc0_txt (z : Int) (hz : isZ z) (ds : List Nat) (hds : ∀ d ∈ ds, isD d) (hne : ds ≠ []) (B : ByteArray) : sc0 (txt z ds ++ B) = z ∧ 0 < (txt z ds ++ B).size ∧ rn (txt z ds ++ B) 0 ≠ 45 ∧ rn (txt z ds ++ B) 0 ≠ 8722 := by
  match ds, hne with
  | d :: ds, _ =>
    have hdD := hds d (by simp)
    obtain ⟨_, e1, e3⟩ := enc_dec z d hz hdD
    have hdec : Utf8.decode (txt z (d :: ds) ++ B) 0 = ((z + (d : Int)).toNat, (Utf8.encode (z + (d : Int))).size) := by
      rw [txt, ByteArray.append_assoc]; exact dec_digit z d hz hdD _
    have hlt : 0 < (txt z (d :: ds) ++ B).size := by rw [txt, ByteArray.size_append, ByteArray.size_append]; omega
    have hzz : sc0 (txt z (d :: ds) ++ B) = z := by unfold sc0; rw [hdec]; exact (dig_digit z d hz hdD).1
    refine ⟨hzz, hlt, ?_, ?_⟩
    · intro h
      have h2 := (rn_eq _ 45 (by omega) hlt).1 h
      rw [hdec] at h2
      simp only at h2
      unfold isZ isD at *; omega
    · intro h
      have h2 := (rn_eq _ 8722 (by omega) hlt).1 h
      rw [hdec] at h2
      simp only at h2
      unfold isZ isD at *; omega

theorem one_txt (z : Int) (hz : isZ z) (ds : List Nat) (hds : ∀ d ∈ ds, isD d) (hne : ds ≠ []) : one (txt z ds) = true ∧ vaA (txt z ds) = val ds := by
  have h0 := sc0_txt z hz ds hds hne ⟨#[]⟩
  rw [app_nil] at h0
  have hzn : z ≠ 0 := by unfold isZ at hz; omega
  have h := one_read (txt z ds) z hz ⟨#[]⟩ ds (txt z ds).size 0 0 hds (by omega) (by omega) (by rw [ext_all, app_nil])
  obtain ⟨h1, h2⟩ := h.1 rfl
  unfold one vaA
  rw [h0.1, h1, h2, decide_eq_true (by omega), decide_eq_true hzn]
  simp
theorem one_txt_no (z : Int) (hz : isZ z) (ds : List Nat) (hds : ∀ d ∈ ds, isD d) (hne : ds ≠ []) (B : ByteArray) (hB : B.size ≠ 0) (hB2 : ¬ digZ (Utf8.decode B 0).1 = z) : one (txt z ds ++ B) = false := by
  have h0 := sc0_txt z hz ds hds hne B
  have h := (one_read (txt z ds ++ B) z hz B ds (txt z ds ++ B).size 0 0 hds (by omega) (by omega) (by rw [ext_all])).2 hB hB2
  unfold one
  rw [h0.1, h]
  simp

/-! ### The digits of a number -/
def dgs (u : Nat) : List Nat := (decDigits u).map fun b => b.toNat - 48
theorem dec_mem : ∀ (u : Nat), ∀ b ∈ decDigits u, 48 ≤ b.toNat ∧ b.toNat ≤ 57 := by
  intro u
  induction u using Nat.strongRecOn with
  | _ u ih =>
    rw [decDigits]
    split
    · intro b hb
      simp at hb
      subst hb
      simp [UInt8.toNat_ofNat]; omega
    · intro b hb
      rcases List.mem_append.1 hb with hb | hb
      · exact ih (u / 10) (by omega) b hb
      · simp at hb
        subst hb
        simp [UInt8.toNat_ofNat]; omega
theorem dgs_D (u : Nat) : ∀ d ∈ dgs u, isD d := by
  intro d hd
  unfold dgs at hd
  obtain ⟨b, hb, rfl⟩ := List.mem_map.1 hd
  have := dec_mem u b hb
  unfold isD; omega
theorem dec_ne (u : Nat) : decDigits u ≠ [] := by rw [decDigits]; split <;> simp
theorem dgs_ne (u : Nat) : dgs u ≠ [] := by unfold dgs; simpa using dec_ne u
theorem dgs_val : ∀ (u : Nat), val (dgs u) = u := by
  intro u
  induction u using Nat.strongRecOn with
  | _ u ih =>
    unfold dgs
    rw [decDigits]
    split
    · rename_i h
      simp [val, UInt8.toNat_ofNat]; omega
    · rename_i h
      rw [List.map_append, val_append]
      have h2 := ih (u / 10) (by omega)
      unfold dgs at h2
      rw [h2]
      simp [val, UInt8.toNat_ofNat]; omega
theorem dgs_first (u : Nat) : u = 0 ∨ (dgs u).head? ≠ some 0 := by
  induction u using Nat.strongRecOn with
  | _ u ih =>
    by_cases h0 : u = 0
    · exact .inl h0
    · right
      unfold dgs
      rw [decDigits]
      split
      · rename_i h
        simp [UInt8.toNat_ofNat]; omega
      · rename_i h
        rcases ih (u / 10) (by omega) with h2 | h2
        · omega
        · unfold dgs at h2
          have hne := dec_ne (u / 10)
          cases hl : decDigits (u / 10) with
          | nil => exact absurd hl hne
          | cons a l => rw [hl] at h2; simpa using h2
theorem txt48 : ∀ l : List UInt8, (∀ b ∈ l, 48 ≤ b.toNat ∧ b.toNat ≤ 57) → tx8 l = txt 48 (l.map fun b => b.toNat - 48)
  | [], _ => rfl
  | b :: l, h => by
    have hb := h b (by simp)
    have ih := txt48 l (fun x hx => h x (by simp [hx]))
    rw [List.map_cons, txt, ← ih]
    have e : Utf8.encode (48 + ((b.toNat - 48 : Nat) : Int)) = tx8 [b] := by
      have e1 : (48 + ((b.toNat - 48 : Nat) : Int)) = ((b.toNat : Nat) : Int) := by omega
      rw [e1]
      have hc : b.toNat < 128 := by omega
      have hv : Utf8.valid (b.toNat : Int) = true := by simp [Utf8.valid]; omega
      simp only [Utf8.encode, hv, if_true, Int.toNat_natCast]
      rw [if_pos hc]
      simp [tx8]
    rw [e, ← tx8_append]
    rfl
theorem dec_txt (u : Nat) : tx8 (decDigits u) = txt 48 (dgs u) := txt48 _ (dec_mem u)

/-! ### Read back -/
theorem rdA_plain (S : ByteArray) (hs : S.size ≤ 4096) (h1 : rn S 0 ≠ 45) (h2 : rn S 0 ≠ 8722) : rdA S = if one S then (if 9223372036854775807 < vaA S then (0, 10) else ((vaA S : Int), 0)) else (0, 6) := by
  have e : cutR S = (S, false) := by unfold cutR; rw [if_neg h1, if_neg h2]
  unfold rdA
  rw [if_neg (by omega), e]
  simp [most]
theorem rdA_minus (S X : ByteArray) (hs : S.size ≤ 4096) (e : cutR S = (X, true)) : rdA S = if one X then (if 9223372036854775808 < vaA X then (0, 10) else (-(vaA X : Int), 0)) else (0, 6) := by
  unfold rdA
  rw [if_neg (by omega), e]
  simp [most]
theorem app_tail (A B : ByteArray) : (A ++ B).extract A.size (A ++ B).size = B := append_tail A B
theorem cut_hy (X : ByteArray) : cutR (tx8 [45] ++ X) = (X, true) := by
  have h : rn (tx8 [45] ++ X) 0 = 45 := by
    have hd : Utf8.decode (tx8 [45] ++ X) 0 = (45, 1) := by
      have := dec_append_good (tx8 [45]) X 0 (by decide) (by decide)
      rw [this]; decide
    have hlt : 0 < (tx8 [45] ++ X).size := by rw [ByteArray.size_append]; have : (tx8 [45]).size = 1 := rfl; omega
    exact (rn_eq _ 45 (by omega) hlt).2 (by rw [hd])
  unfold cutR
  rw [if_pos h]
  have := app_tail (tx8 [45]) X
  have e : (tx8 [45]).size = 1 := rfl
  rw [e] at this
  rw [this]
theorem cut_mi (X : ByteArray) : cutR ((⟨#[226, 136, 146]⟩ : ByteArray) ++ X) = (X, true) := by
  have hd : Utf8.decode ((⟨#[226, 136, 146]⟩ : ByteArray) ++ X) 0 = (8722, 3) := by
    have := dec_append_good (⟨#[226, 136, 146]⟩ : ByteArray) X 0 (by decide) (by decide)
    rw [this]; decide
  have e : (⟨#[226, 136, 146]⟩ : ByteArray).size = 3 := rfl
  have hlt : 0 < ((⟨#[226, 136, 146]⟩ : ByteArray) ++ X).size := by rw [ByteArray.size_append]; omega
  have h : rn ((⟨#[226, 136, 146]⟩ : ByteArray) ++ X) 0 = 8722 := (rn_eq _ 8722 (by omega) hlt).2 (by rw [hd])
  unfold cutR
  rw [if_neg (by omega), if_pos h]
  have := app_tail (⟨#[226, 136, 146]⟩ : ByteArray) X
  rw [e] at this
  rw [this]

/-- Noughts and digits of a script, the sign ahead. -/
theorem read_back (n : Int) (hn : i6 n) (z : Int) (hz : isZ z) (k : Nat) (hk : k ≤ 30) (M : ByteArray) (hM : M = tx8 [45] ∨ M = ⟨#[226, 136, 146]⟩) :
    rdA (if n < 0 then M ++ txt z (List.replicate k 0 ++ dgs n.natAbs) else txt z (List.replicate k 0 ++ dgs n.natAbs)) = (n, 0) := by
  have hD : ∀ d ∈ List.replicate k 0 ++ dgs n.natAbs, isD d := by
    intro d hd
    rcases List.mem_append.1 hd with h | h
    · have := List.eq_of_mem_replicate h; subst this; unfold isD; omega
    · exact dgs_D _ d h
  have hne : List.replicate k 0 ++ dgs n.natAbs ≠ [] := by
    intro h; exact dgs_ne n.natAbs (List.append_eq_nil_iff.1 h).2
  obtain ⟨h1, h2⟩ := one_txt z hz _ hD hne
  rw [val_zeros, dgs_val] at h2
  unfold i6 at hn
  have hlen : (List.replicate k 0 ++ dgs n.natAbs).length ≤ 50 := by
    rw [List.length_append, List.length_replicate]
    unfold dgs
    rw [List.length_map]
    have := dec_len 19 n.natAbs (by omega)
    omega
  have hsz := (txt_size z hz _ hD).2
  have h0 := sc0_txt z hz _ hD hne ⟨#[]⟩
  rw [app_nil] at h0
  generalize txt z (List.replicate k 0 ++ dgs n.natAbs) = X at *
  by_cases h : n < 0
  · rw [if_pos h]
    have e : cutR (M ++ X) = (X, true) := by
      rcases hM with rfl | rfl
      · exact cut_hy X
      · exact cut_mi X
    have hMs : M.size ≤ 3 := by rcases hM with rfl | rfl <;> decide
    rw [rdA_minus _ X (by rw [ByteArray.size_append]; omega) e, h1, h2, if_pos rfl, if_neg (by omega)]
    exact Prod.ext (by simp only; omega) rfl
  · rw [if_neg h, rdA_plain X (by omega) h0.2.2.1 h0.2.2.2, h1, h2, if_pos rfl, if_neg (by omega)]
    exact Prod.ext (by simp only; omega) rfl
theorem text_form (n : Int) : tx8 (itoa n) = if n < 0 then tx8 [45] ++ txt 48 (dgs n.natAbs) else txt 48 (dgs n.natAbs) := by
  unfold itoa
  by_cases h : n < 0
  · rw [if_pos h, if_pos h, ← dec_txt, ← tx8_append]; rfl
  · rw [if_neg h, if_neg h, ← dec_txt]
    have : n.toNat = n.natAbs := by omega
    rw [this]
theorem text_back (n : Int) (hn : i6 n) : rdA (tx8 (itoa n)) = (n, 0) := by
  rw [text_form]
  exact read_back n hn 48 (.inl rfl) 0 (by omega) (tx8 [45]) (.inl rfl)
theorem plus_bad (X : ByteArray) (hX : X.size ≤ 4000) : rdA (tx8 [43] ++ X) = (0, 6) := by
  have hd : Utf8.decode (tx8 [43] ++ X) 0 = (43, 1) := by
    have := dec_append_good (tx8 [43]) X 0 (by decide) (by decide)
    rw [this]; decide
  have e : (tx8 [43]).size = 1 := rfl
  have hlt : 0 < (tx8 [43] ++ X).size := by rw [ByteArray.size_append]; omega
  have hr : rn (tx8 [43] ++ X) 0 = 43 := (rn_eq _ 43 (by omega) hlt).2 (by rw [hd])
  have h1 : one (tx8 [43] ++ X) = false := by
    have hs : sc0 (tx8 [43] ++ X) = 0 := by unfold sc0; rw [hd]; decide
    unfold one
    rw [hs, decide_eq_false (p := (0 : Int) ≠ 0) (by simp), Bool.and_false, Bool.false_and]
  rw [rdA_plain _ (by rw [ByteArray.size_append]; omega) (by omega) (by omega), h1]
  rfl
theorem blank_bad (n : Int) (hn : i6 n) : rdA (tx8 (itoa n) ++ tx8 [32]) = (0, 6) := by
  have hlen : (tx8 (itoa n)).size ≤ 20 := by rw [tx8_size]; exact itoa_len n hn.1 hn.2
  have e32 : (tx8 [32]).size = 1 := rfl
  have hno := one_txt_no 48 (.inl rfl) (dgs n.natAbs) (dgs_D _) (dgs_ne _) (tx8 [32]) (by decide) (by decide)
  have h0 := sc0_txt 48 (.inl rfl) (dgs n.natAbs) (dgs_D _) (dgs_ne _) (tx8 [32])
  have hsz : (tx8 (itoa n) ++ tx8 [32]).size ≤ 4096 := by rw [ByteArray.size_append]; omega
  rw [text_form] at hsz ⊢
  by_cases h : n < 0
  · rw [if_pos h] at hsz ⊢
    rw [ByteArray.append_assoc] at hsz ⊢
    rw [rdA_minus _ _ hsz (cut_hy _), hno]; rfl
  · rw [if_neg h] at hsz ⊢
    rw [rdA_plain _ hsz h0.2.2.1 h0.2.2.2, hno]; rfl
end Go.Proofs.YtpdohdmpjaklgaaDoor
