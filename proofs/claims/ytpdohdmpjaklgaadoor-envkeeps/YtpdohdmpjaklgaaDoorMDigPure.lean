/-
  Plain facts: a number written in a script's digits, and how it is read.
-/
import Derived.Test.YtpdohdmpjaklgaaDoorMOrdPure
set_option linter.unusedSimpArgs false
set_option linter.unusedVariables false
namespace Go.Proofs.YtpdohdmpjaklgaaDoor
open Go.Lib

def isZ (z : Int) : Prop := z = 48 ∨ z = 1632 ∨ z = 65296
def isD (d : Nat) : Prop := d ≤ 9

/-- The digits ds, written in the script of z, the first one first. -/
def txt (z : Int) : List Nat → ByteArray
  | [] => ⟨#[]⟩
  | d :: ds => Utf8.encode (z + (d : Int)) ++ txt z ds
/-- What they come to. -/
def val : List Nat → Nat
  | [] => 0
  | d :: ds => d * 10 ^ ds.length + val ds

theorem enc_dec (z : Int) (d : Nat) (hz : isZ z) (hd : isD d) : Utf8.decode (Utf8.encode (z + (d : Int))) 0 = ((z + (d : Int)).toNat, (Utf8.encode (z + (d : Int))).size) ∧ 1 ≤ (Utf8.encode (z + (d : Int))).size ∧ (Utf8.encode (z + (d : Int))).size ≤ 3 := by
  have h : d = 0 ∨ d = 1 ∨ d = 2 ∨ d = 3 ∨ d = 4 ∨ d = 5 ∨ d = 6 ∨ d = 7 ∨ d = 8 ∨ d = 9 := by unfold isD at hd; omega
  rcases hz with rfl | rfl | rfl <;> rcases h with rfl | rfl | rfl | rfl | rfl | rfl | rfl | rfl | rfl | rfl <;> decide
theorem dig_digit (z : Int) (d : Nat) (hz : isZ z) (hd : isD d) : digZ ((z + (d : Int)).toNat : Nat) = z ∧ digV ((z + (d : Int)).toNat : Nat) = d := by
  have h : d = 0 ∨ d = 1 ∨ d = 2 ∨ d = 3 ∨ d = 4 ∨ d = 5 ∨ d = 6 ∨ d = 7 ∨ d = 8 ∨ d = 9 := by unfold isD at hd; omega
  rcases hz with rfl | rfl | rfl <;> rcases h with rfl | rfl | rfl | rfl | rfl | rfl | rfl | rfl | rfl | rfl <;> decide
theorem dec_digit (z : Int) (d : Nat) (hz : isZ z) (hd : isD d) (X : ByteArray) : Utf8.decode (Utf8.encode (z + (d : Int)) ++ X) 0 = ((z + (d : Int)).toNat, (Utf8.encode (z + (d : Int))).size) := by
  obtain ⟨h, h1, h3⟩ := enc_dec z d hz hd
  rw [dec_append_good _ X 0 (by omega), h]
  rw [bad_false_iff, h]
  intro e
  have := congrArg Prod.fst e
  simp only at this
  unfold isZ isD at *
  omega
theorem txt_size (z : Int) (hz : isZ z) : ∀ ds : List Nat, (∀ d ∈ ds, isD d) → ds.length ≤ (txt z ds).size ∧ (txt z ds).size ≤ 3 * ds.length
  | [], _ => by simp [txt]; rfl
  | d :: ds, h => by
    have ih := txt_size z hz ds (fun x hx => h x (by simp [hx]))
    obtain ⟨_, h1, h3⟩ := enc_dec z d hz (h d (by simp))
    simp only [txt, ByteArray.size_append, List.length_cons]
    omega
theorem txt_append (z : Int) : ∀ ds es : List Nat, txt z (ds ++ es) = txt z ds ++ txt z es
  | [], es => by
    simp only [List.nil_append, txt]
    apply ByteArray.ext; rw [ByteArray.data_append]; simp
  | d :: ds, es => by simp only [List.cons_append, txt, txt_append z ds es, ByteArray.append_assoc]
theorem val_append : ∀ ds es : List Nat, val (ds ++ es) = val ds * 10 ^ es.length + val es
  | [], es => by simp [val]
  | d :: ds, es => by
    simp only [List.cons_append, val, val_append ds es, List.length_append]
    rw [Nat.pow_add, Nat.add_mul, Nat.mul_assoc]
    omega
theorem val_zeros (k : Nat) (ds : List Nat) : val (List.replicate k 0 ++ ds) = val ds := by
  induction k with
  | zero => rfl
  | succ k ih => rw [List.replicate_succ, List.cons_append, val, ih]; simp

/-- How digits are read: S has the digits ds at pos, and behind them no digit of the script. -/
theorem nu_read (S : ByteArray) (z : Int) (hz : isZ z) (B : ByteArray) (hB : B.size = 0 ∨ ¬ digZ (Utf8.decode B 0).1 = z) :
    ∀ (ds : List Nat) (f pos n : Nat), (∀ d ∈ ds, isD d) → S.size ≤ pos + f → pos ≤ S.size → S.extract pos S.size = txt z ds ++ B → n ≤ 18446744073709551615 →
      nuF S z f pos n = if n * 10 ^ ds.length + val ds ≤ 18446744073709551615 then (n * 10 ^ ds.length + val ds, pos + (txt z ds).size, 0) else (0, 0, 10)
  | [], f, pos, n, _, hf, hp, he, hn => by
    have hsz := tail_size S pos
    have hE : txt z [] ++ B = B := by apply ByteArray.ext; rw [ByteArray.data_append]; simp [txt]
    rw [hE] at he
    have h0 : (txt z []).size = 0 := rfl
    simp only [List.length_nil, val, Nat.pow_zero, Nat.mul_one, Nat.add_zero, h0]
    rw [if_pos hn]
    rcases hB with hB | hB
    · rw [he, hB] at hsz
      exact nuF_end S z f pos n (by omega)
    · by_cases hlt : pos < S.size
      · have hd := dec_tail S pos 0
        rw [he, Nat.add_zero] at hd
        exact nuF_off S z f pos n (by rw [← hd]; exact hB)
      · exact nuF_end S z f pos n hlt
  | d :: ds, f, pos, n, hds, hf, hp, he, hn => by
    have hdD := hds d (by simp)
    have hsz := tail_size S pos
    obtain ⟨_, e1, e3⟩ := enc_dec z d hz hdD
    rw [txt, ByteArray.append_assoc] at he
    have hlt : pos < S.size := by
      rw [he, ByteArray.size_append] at hsz
      omega
    have hd := dec_tail S pos 0
    rw [he, Nat.add_zero, dec_digit z d hz hdD] at hd
    obtain ⟨g1, g2⟩ := dig_digit z d hz hdD
    have hle := dec_le S pos hlt
    obtain ⟨f, rfl⟩ : ∃ g, f = g + 1 := ⟨f - 1, by omega⟩
    have hz1 : digZ (Utf8.decode S pos).1 = z := by rw [← hd]; exact g1
    have hv1 : (digV (Utf8.decode S pos).1).toNat = d := by rw [← hd]; rw [g2]; rfl
    have hw : (Utf8.decode S pos).2 = (Utf8.encode (z + (d : Int))).size := by rw [← hd]
    have htail : S.extract (pos + (Utf8.encode (z + (d : Int))).size) S.size = txt z ds ++ B := by
      have h := tail_tail S pos (Utf8.encode (z + (d : Int))).size
      rw [he, append_tail] at h
      exact h.symm
    have hpw : 10 ^ (d :: ds).length = 10 * 10 ^ ds.length := by rw [List.length_cons, Nat.pow_succ, Nat.mul_comm]
    have hpos : 1 ≤ 10 ^ ds.length := Nat.pow_pos (by omega)
    have hval : n * 10 ^ (d :: ds).length + val (d :: ds) = (n * 10 + d) * 10 ^ ds.length + val ds := by
      rw [hpw, val, Nat.add_mul, Nat.mul_assoc]; omega
    have hsize : (txt z (d :: ds)).size = (Utf8.encode (z + (d : Int))).size + (txt z ds).size := by rw [txt, ByteArray.size_append]
    rw [hval, hsize]
    by_cases hl : 18446744073709551615 < n * 10 + d
    · rw [nuF_large S z f pos n hlt hz1 (by rw [hv1]; exact hl)]
      have : n * 10 + d ≤ (n * 10 + d) * 10 ^ ds.length := Nat.le_mul_of_pos_right _ (by omega)
      rw [if_neg (by omega)]
    · rw [nuF_on S z f pos n hlt hz1 (by rw [hv1]; exact hl), hv1, hw, nu_read S z hz B hB ds f _ (n * 10 + d) (fun x hx => hds x (by simp [hx])) (by omega) (by omega) htail (by omega), Nat.add_assoc]
theorem num_read (z : Int) (hz : isZ z) (B : ByteArray) (hB : B.size = 0 ∨ ¬ digZ (Utf8.decode B 0).1 = z) (ds : List Nat) (hds : ∀ d ∈ ds, isD d) (hne : ds ≠ []) :
    numI (txt z ds ++ B) 0 = if val ds ≤ 18446744073709551615 then (val ds, (txt z ds).size, 0) else (0, 0, 10) := by
  match ds, hne with
  | d :: ds, _ =>
    have hdD := hds d (by simp)
    obtain ⟨_, e1, e3⟩ := enc_dec z d hz hdD
    have hdec : Utf8.decode (txt z (d :: ds) ++ B) 0 = ((z + (d : Int)).toNat, (Utf8.encode (z + (d : Int))).size) := by
      rw [txt, ByteArray.append_assoc]; exact dec_digit z d hz hdD _
    have hlt : 0 < (txt z (d :: ds) ++ B).size := by rw [txt, ByteArray.size_append, ByteArray.size_append]; omega
    have hz0 : digZ (rn (txt z (d :: ds) ++ B) 0) = z := by rw [digZ_rn _ 0 hlt, hdec]; exact (dig_digit z d hz hdD).1
    have hzn : z ≠ 0 := by unfold isZ at hz; omega
    have h1 : numI (txt z (d :: ds) ++ B) 0 = nuF (txt z (d :: ds) ++ B) z (txt z (d :: ds) ++ B).size 0 0 := by
      unfold numI
      rw [if_neg (by omega)]
      show numP (txt z (d :: ds) ++ B) 0 = _
      unfold numP
      rw [hz0, if_neg hzn]
    rw [h1]
    have hx : (txt z (d :: ds) ++ B).extract 0 (txt z (d :: ds) ++ B).size = txt z (d :: ds) ++ B := by
      apply ByteArray.ext
      apply Array.ext'
      rw [extract_data, List.drop_zero, Nat.sub_zero, size_eq, List.take_length]
    rw [nu_read _ z hz B hB (d :: ds) _ 0 0 hds (by omega) (by omega) hx (by omega)]
    simp only [Nat.zero_mul, Nat.zero_add]
theorem num_more (z : Int) (hz : isZ z) (ds : List Nat) (hds : ∀ d ∈ ds, isD d) (hne : ds ≠ []) :
    ∃ a b : Nat, numI (txt z ds ++ Utf8.encode (z + 9) ++ Utf8.encode (z + 9) ++ Utf8.encode z) 0 = (a, b, if val ds * 1000 + 990 ≤ 18446744073709551615 then 0 else 10) := by
  have he : txt z ds ++ Utf8.encode (z + 9) ++ Utf8.encode (z + 9) ++ Utf8.encode z = txt z (ds ++ [9, 9, 0]) ++ ⟨#[]⟩ := by
    rw [txt_append]
    simp only [txt]
    apply ByteArray.ext
    simp [ByteArray.data_append]
  rw [he, num_read z hz ⟨#[]⟩ (.inl rfl) (ds ++ [9, 9, 0]) (fun d hd => by
    rcases List.mem_append.1 hd with h | h
    · exact hds d h
    · unfold isD; simp at h; omega) (by simp)]
  have hv : val (ds ++ [9, 9, 0]) = val ds * 1000 + 990 := by rw [val_append]; rfl
  rw [hv]
  by_cases h : val ds * 1000 + 990 ≤ 18446744073709551615
  · exact ⟨_, _, by rw [if_pos h, if_pos h]⟩
  · exact ⟨0, 0, by rw [if_neg h, if_neg h]⟩
end Go.Proofs.YtpdohdmpjaklgaaDoor
