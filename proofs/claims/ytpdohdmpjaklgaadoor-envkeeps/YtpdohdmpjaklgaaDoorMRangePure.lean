/-
  Plain facts: runes and back; the beginnings of a text; lines and columns on the way.
-/
import Derived.Test.YtpdohdmpjaklgaaDoorMBytePure
import Derived.Test.YtpdohdmpjaklgaaDoorMColW
import Derived.Laws.Cover4
set_option linter.unusedSimpArgs false
set_option linter.unusedVariables false
namespace Go.Proofs.YtpdohdmpjaklgaaDoor
open Go.Lib

/-! ### runes and back -/
theorem enc_eq (r : Int) (h : vr r) : (Utf8.encode r).data.toList = encodeRune r := by
  have hv : Utf8.valid r = true := by
    rw [validRune_eq]; unfold validRune vr at *; simp; omega
  have hU : ∀ (n : Nat) (z : Int), z = (n : Int) → UInt8.ofNat n = z.toNat.toUInt8 := by
    intro n z e; subst e; rfl
  unfold Utf8.encode encodeRune
  simp only [hv, if_true]
  rcases h with h | h | h | h
  · rw [encodeRuneZ_one h.1 h.2, if_pos (by omega)]
    simp only [List.map_cons, List.map_nil]
  · rw [encodeRuneZ_two h.1 h.2, if_neg (by omega), if_pos (by omega)]
    simp only [List.map_cons, List.map_nil]
    rw [← hU (192 + r.toNat / 64) _ (by omega), ← hU (128 + r.toNat % 64) _ (by omega)]
  · rw [encodeRuneZ_three h, if_neg (by omega), if_neg (by omega), if_pos (by omega)]
    simp only [List.map_cons, List.map_nil]
    rw [← hU (224 + r.toNat / 4096) _ (by omega), ← hU (128 + r.toNat / 64 % 64) _ (by omega), ← hU (128 + r.toNat % 64) _ (by omega)]
  · rw [encodeRuneZ_four h.1 h.2, if_neg (by omega), if_neg (by omega), if_neg (by omega)]
    simp only [List.map_cons, List.map_nil]
    rw [← hU (240 + r.toNat / 262144) _ (by omega), ← hU (128 + r.toNat / 4096 % 64) _ (by omega), ← hU (128 + r.toNat / 64 % 64) _ (by omega), ← hU (128 + r.toNat % 64) _ (by omega)]
theorem foldl_bytes : ∀ (ns : List Int) (s : ByteArray), (∀ r ∈ ns, vr r) → (ns.foldl (fun r n => r ++ Utf8.encode n) s).data.toList = s.data.toList ++ ns.flatMap encodeRune
  | [], s, _ => by simp
  | n :: ns, s, h => by
    rw [List.foldl_cons, foldl_bytes ns _ (fun r hr => h r (by simp [hr])), ByteArray.data_append, Array.toList_append, enc_eq n (h n (by simp)), List.flatMap_cons, List.append_assoc]
theorem runesBytes_list (ns : List Int) (h : ∀ r ∈ ns, vr r) : (runesBytes ns).data.toList = ns.flatMap encodeRune := by
  unfold runesBytes; rw [foldl_bytes ns _ h]; rfl

theorem enc_len (s : ByteArray) (pos : Nat) (hp : pos < s.size) (hb : bad s pos = false) : (encodeRune ((Utf8.decode s pos).1 : Int)).length = (Utf8.decode s pos).2 := by
  have hv2 := dec_le s pos hp
  have hne : s.data.toList.drop pos ≠ [] := by
    intro e
    have := congrArg List.length e
    rw [List.length_drop, ← size_eq] at this
    simp at this; omega
  have he := encode_decode (s.data.toList.drop pos) hne (by
    rw [decodeL_drop]
    intro e
    exact (bad_false_iff s pos).1 hb (Prod.ext e.1 e.2))
  rw [decodeL_drop] at he
  rw [he, List.length_take, List.length_drop, ← size_eq]
  omega
theorem flat_len (s : ByteArray) : ∀ (f pos : Nat), s.size ≤ pos + f → pos ≤ s.size → s.size ≤ pos + ((runesFrom s f pos).flatMap encodeRune).length ∧ ((chkF s f pos).2 ≠ 0 → s.size < pos + ((runesFrom s f pos).flatMap encodeRune).length)
  | 0, pos, h1, h2 => by
    have : pos = s.size := by omega
    subst this
    exact ⟨by omega, fun h => absurd rfl h⟩
  | f + 1, pos, h1, h2 => by
    by_cases hp : pos < s.size
    · have hv := width_pos s pos hp
      have hv2 := dec_le s pos hp
      have ih := flat_len s f (pos + (Utf8.decode s pos).2) (by omega) hv2
      rw [runesFrom_cons s f pos hp, List.flatMap_cons, List.length_append]
      cases hb : bad s pos
      · rw [enc_len s pos hp hb, chkF_good s f pos hp hb]
        exact ⟨by omega, fun h => by have := ih.2 h; omega⟩
      · rw [bad_eq hb] at ih ⊢
        have e3 : (encodeRune ((65533 : Nat) : Int)).length = 3 := by decide
        simp only at ih ⊢
        rw [e3]
        exact ⟨by omega, fun _ => by omega⟩
    · have : pos = s.size := by omega
      subst this
      rw [runesFrom_end s _ _ hp, chkF_end s _ _ hp]
      exact ⟨by simp, fun h => absurd rfl h⟩
theorem back_eq (s : ByteArray) : ((runesBytes (rl s)).toList == s.toList) = decide ((chk s).2 = 0) := by
  rw [Bool.eq_iff_iff, beq_iff_eq, decide_eq_true_eq, toList_data, toList_data, runesBytes_list (rl s) (runes_vr s _ _)]
  constructor
  · intro h
    cases Int.decEq (chk s).2 0 with
    | isTrue e => exact e
    | isFalse e =>
      have := (flat_len s s.size 0 (by omega) (by omega)).2 e
      have h2 := congrArg List.length h
      rw [← size_eq] at h2
      unfold rl at h2
      omega
  · intro h; exact (bytes_of_good s h).symm

/-! ### fuel -/
theorem chkF_fuel (s : ByteArray) : ∀ (f g pos : Nat), s.size ≤ pos + f → s.size ≤ pos + g → chkF s f pos = chkF s g pos
  | 0, g, pos, h, _ => by rw [chkF_end s 0 pos (by omega), chkF_end s g pos (by omega)]
  | f + 1, 0, pos, _, h => by rw [chkF_end s 0 pos (by omega), chkF_end s _ pos (by omega)]
  | f + 1, g + 1, pos, hf, hg => by
    by_cases hp : pos < s.size
    · have hw := width_pos s pos hp
      cases hb : bad s pos
      · rw [chkF_good s f pos hp hb, chkF_good s g pos hp hb, chkF_fuel s f g _ (by omega) (by omega)]
      · rw [chkF_bad s f pos hp hb, chkF_bad s g pos hp hb]
    · rw [chkF_end s _ pos hp, chkF_end s _ pos hp]
theorem coF_fuel (s : ByteArray) : ∀ (f g pos l c : Nat), s.size ≤ pos + f → s.size ≤ pos + g → coF s f pos l c = coF s g pos l c
  | 0, g, pos, l, c, h, _ => by rw [coF_end s 0 pos l c (by omega), coF_end s g pos l c (by omega)]
  | f + 1, 0, pos, l, c, _, h => by rw [coF_end s 0 pos l c (by omega), coF_end s _ pos l c (by omega)]
  | f + 1, g + 1, pos, l, c, hf, hg => by
    by_cases hp : pos < s.size
    · have hw := width_pos s pos hp
      by_cases hr : (Utf8.decode s pos).1 = 10
      · rw [coF_nl s f pos l c hp hr, coF_nl s g pos l c hp hr, coF_fuel s f g _ _ _ (by omega) (by omega)]
      · rw [coF_on s f pos l c hp hr, coF_on s g pos l c hp hr, coF_fuel s f g _ _ _ (by omega) (by omega)]
    · rw [coF_end s _ pos l c hp, coF_end s _ pos l c hp]

/-! ### a good text, and more behind it -/
theorem chkF_append (P R : ByteArray) (G : Nat) (hG : R.size ≤ G) : ∀ (f pos F : Nat), Good P pos → P.size ≤ pos + f → pos ≤ P.size → (P ++ R).size ≤ pos + F → chkF (P ++ R) F pos = chkF (P ++ R) G P.size
  | 0, pos, F, hg, h1, h2, hF => by
    have : pos = P.size := by omega
    subst this
    exact chkF_fuel _ _ _ _ hF (by rw [ByteArray.size_append]; omega)
  | f + 1, pos, F, hg, h1, h2, hF => by
    by_cases hp : pos < P.size
    · obtain ⟨hb, hg'⟩ := good_step P pos hp hg
      have hv := width_pos P pos hp
      have hv2 := dec_le P pos hp
      have hd := dec_append_good P R pos hp hb
      have hb' : bad (P ++ R) pos = false := by unfold bad at *; rw [hd]; exact hb
      have hsz := ByteArray.size_append (a := P) (b := R)
      obtain ⟨F, rfl⟩ : ∃ g, F = g + 1 := ⟨F - 1, by omega⟩
      rw [chkF_good (P ++ R) F pos (by omega) hb', hd]
      exact chkF_append P R G hG f _ F hg' (by omega) hv2 (by omega)
    · have : pos = P.size := by omega
      subst this
      exact chkF_fuel _ _ _ _ hF (by rw [ByteArray.size_append]; omega)
theorem coF_append (P R : ByteArray) (G : Nat) (hG : R.size ≤ G) : ∀ (f pos F l c : Nat), Good P pos → P.size ≤ pos + f → pos ≤ P.size → (P ++ R).size ≤ pos + F → coF (P ++ R) F pos l c = coF (P ++ R) G P.size (coF P f pos l c).1 (coF P f pos l c).2
  | 0, pos, F, l, c, hg, h1, h2, hF => by
    have : pos = P.size := by omega
    subst this
    exact coF_fuel _ _ _ _ _ _ hF (by rw [ByteArray.size_append]; omega)
  | f + 1, pos, F, l, c, hg, h1, h2, hF => by
    by_cases hp : pos < P.size
    · obtain ⟨hb, hg'⟩ := good_step P pos hp hg
      have hv := width_pos P pos hp
      have hv2 := dec_le P pos hp
      have hd := dec_append_good P R pos hp hb
      have hsz := ByteArray.size_append (a := P) (b := R)
      obtain ⟨F, rfl⟩ : ∃ g, F = g + 1 := ⟨F - 1, by omega⟩
      by_cases hr : (Utf8.decode P pos).1 = 10
      · rw [coF_nl (P ++ R) F pos l c (by omega) (by rw [hd]; exact hr), coF_nl P f pos l c hp hr, hd]
        exact coF_append P R G hG f _ F _ _ hg' (by omega) hv2 (by omega)
      · rw [coF_on (P ++ R) F pos l c (by omega) (by rw [hd]; exact hr), coF_on P f pos l c hp hr, hd]
        exact coF_append P R G hG f _ F _ _ hg' (by omega) hv2 (by omega)
    · have : pos = P.size := by omega
      subst this
      rw [coF_end P _ _ l c hp]
      exact coF_fuel _ _ _ _ _ _ hF (by rw [ByteArray.size_append]; omega)

/-! ### the beginnings of a text -/
theorem decodeN_fit (n n' b0 b1 b2 b3 c1 c2 c3 : Nat) (hn : 1 ≤ n) (hle : n ≤ n') (h1 : 1 < n → c1 = b1) (h2 : 2 < n → c2 = b2) (h3 : 3 < n → c3 = b3) (hfit : (decodeN n' b0 c1 c2 c3).2 ≤ n) (hg : ¬ decodeN n' b0 c1 c2 c3 = (65533, 1)) :
    decodeN n b0 b1 b2 b3 = decodeN n' b0 c1 c2 c3 := by
  rcases decodeN_shape n' b0 c1 c2 c3 with ⟨c, e⟩ | ⟨k1, k2, k3, cv, e⟩ | ⟨k1, k2, k3, k4, cv, cs, e⟩ | ⟨k1, k2, k3, k4, k5, cv, cw, e⟩ | e
  · rw [e]; unfold decodeN; rw [if_pos c]
  · rw [e] at hfit ⊢; simp only at hfit; rw [h1 (by omega)] at *; unfold decodeN; rw [if_neg (by omega), if_pos ⟨k1, by omega, k3⟩, if_pos cv]
  · rw [e] at hfit ⊢; simp only at hfit; rw [h1 (by omega), h2 (by omega)] at *; unfold decodeN; rw [if_neg (by omega), if_neg (by omega), if_pos ⟨k1, ⟨by omega, k3⟩, by omega, k4⟩, if_pos ⟨cv, by omega⟩]
  · rw [e] at hfit ⊢; simp only at hfit; rw [h1 (by omega), h2 (by omega), h3 (by omega)] at *; unfold decodeN; rw [if_neg (by omega), if_neg (by omega), if_neg (by omega), if_pos ⟨k1, ⟨by omega, k3⟩, ⟨by omega, k4⟩, by omega, k5⟩, if_pos ⟨cv, by omega⟩]
  · exact absurd e hg
theorem dec_head (s : ByteArray) (k pos : Nat) (hk : k ≤ s.size) (hp : pos < k) (hb : bad s pos = false) (hfit : pos + (Utf8.decode s pos).2 ≤ k) : Utf8.decode (s.extract 0 k) pos = Utf8.decode s pos := by
  have hb' := (bad_false_iff s pos).1 hb
  rw [decode_at] at hb' hfit
  rw [decode_at, decode_at, head_size s k hk, head_get! s k pos hk hp]
  exact decodeN_fit _ _ _ _ _ _ _ _ _ (by omega) (by omega) (fun h => by rw [head_get! s k _ hk (by omega)]) (fun h => by rw [head_get! s k _ hk (by omega)]) (fun h => by rw [head_get! s k _ hk (by omega)]) (by omega) hb'
theorem head_join (s : ByteArray) (a b : Nat) (hab : a ≤ b) (hb : b ≤ s.size) : s.extract 0 b = s.extract 0 a ++ s.extract a b := by
  apply ByteArray.ext
  apply Array.ext'
  rw [ByteArray.data_append, Array.toList_append, extract_data, extract_data, extract_data]
  simp only [List.drop_zero, Nat.sub_zero]
  have e : b = a + (b - a) := by omega
  have h := @List.take_add _ s.data.toList a (b - a)
  rw [← e] at h
  exact h

/-- The text ahead of pos has no bad byte, and pos is a place of s. -/
def G (s : ByteArray) (pos : Nat) : Prop := pos ≤ s.size ∧ (chk (s.extract 0 pos)).2 = 0
theorem G_start (s : ByteArray) : G s 0 := by
  refine ⟨by omega, ?_⟩
  have : (s.extract 0 0).size = 0 := head_size s 0 (by omega)
  unfold chk
  rw [chkF_end _ _ _ (by omega)]
theorem step_dec (s : ByteArray) (pos : Nat) (hp : pos < s.size) (hb : bad s pos = false) : Utf8.decode (s.extract 0 pos ++ s.extract pos (pos + (Utf8.decode s pos).2)) (s.extract 0 pos).size = Utf8.decode s pos := by
  have hv := width_pos s pos hp
  have hv2 := dec_le s pos hp
  rw [← head_join s pos _ (by omega) hv2, head_size s pos (by omega)]
  exact dec_head s _ pos hv2 (by omega) hb (Nat.le_refl _)
theorem mid_size (s : ByteArray) (a b : Nat) (hb : b ≤ s.size) : (s.extract a b).size = b - a := by simp [ByteArray.size_extract]; omega
theorem G_step (s : ByteArray) (pos : Nat) (hp : pos < s.size) (hb : bad s pos = false) (h : G s pos) : G s (pos + (Utf8.decode s pos).2) := by
  have hv := width_pos s pos hp
  have hv2 := dec_le s pos hp
  refine ⟨hv2, ?_⟩
  have hd := step_dec s pos hp hb
  have hP := head_size s pos (by omega)
  have hR := mid_size s pos (pos + (Utf8.decode s pos).2) hv2
  rw [head_join s pos _ (by omega) hv2]
  have ha := chkF_append (s.extract 0 pos) (s.extract pos (pos + (Utf8.decode s pos).2)) ((Utf8.decode s pos).2 + 1) (by omega) (s.extract 0 pos).size 0 _ (good_start _ h.2) (by omega) (by omega) (Nat.le_of_eq (Nat.zero_add _).symm)
  unfold chk
  rw [ha]
  have hb' : bad (s.extract 0 pos ++ s.extract pos (pos + (Utf8.decode s pos).2)) (s.extract 0 pos).size = false := by
    unfold bad at *; rw [hd]; exact hb
  have hsz := ByteArray.size_append (a := s.extract 0 pos) (b := s.extract pos (pos + (Utf8.decode s pos).2))
  rw [chkF_good _ _ _ (by omega) hb', hd, chkF_end _ _ _ (by omega)]
/-- Line and column ahead of pos. -/
theorem col_step (s : ByteArray) (pos l c : Nat) (hp : pos < s.size) (hb : bad s pos = false) (h : G s pos) (hc : colE (s.extract 0 pos) = (l, c)) :
    colE (s.extract 0 (pos + (Utf8.decode s pos).2)) = if (Utf8.decode s pos).1 = 10 then (l + 1, 1) else (l, c + 1) := by
  have hv := width_pos s pos hp
  have hv2 := dec_le s pos hp
  have hd := step_dec s pos hp hb
  have hP := head_size s pos (by omega)
  have hR := mid_size s pos (pos + (Utf8.decode s pos).2) hv2
  rw [head_join s pos _ (by omega) hv2]
  have ha := coF_append (s.extract 0 pos) (s.extract pos (pos + (Utf8.decode s pos).2)) ((Utf8.decode s pos).2 + 1) (by omega) (s.extract 0 pos).size 0 _ 1 1 (good_start _ h.2) (by omega) (by omega) (Nat.le_of_eq (Nat.zero_add _).symm)
  unfold colE at *
  rw [ha, hc]
  have hsz := ByteArray.size_append (a := s.extract 0 pos) (b := s.extract pos (pos + (Utf8.decode s pos).2))
  by_cases hr : (Utf8.decode s pos).1 = 10
  · rw [if_pos hr, coF_nl _ _ _ _ _ (by omega) (by rw [hd]; exact hr), coF_end _ _ _ _ _ (by rw [hd]; omega)]
  · rw [if_neg hr, coF_on _ _ _ _ _ (by omega) (by rw [hd]; exact hr), coF_end _ _ _ _ _ (by rw [hd]; omega)]
/-- The first bad byte. -/
theorem bad_first (s : ByteArray) (p : Nat) : ∀ (f pos : Nat), s.size ≤ pos + f → G s pos → chkF s f pos = (p, 4) → p < s.size ∧ bad s p = true ∧ G s p
  | 0, pos, _, _, h => by simp [chkF] at h
  | f + 1, pos, hf, hg, h => by
    by_cases hp : pos < s.size
    · have hw := width_pos s pos hp
      cases hb : bad s pos
      · rw [chkF_good s f pos hp hb] at h
        exact bad_first s p f _ (by omega) (G_step s pos hp hb hg) h
      · rw [chkF_bad s f pos hp hb] at h
        have : pos = p := congrArg Prod.fst h
        subst this
        exact ⟨hp, hb, hg⟩
    · rw [chkF_end s _ pos hp] at h
      simp at h
theorem chk_cases (s : ByteArray) : chk s = (0, 0) ∨ ∃ p, chk s = (p, 4) := by
  have : ∀ f pos, chkF s f pos = (0, 0) ∨ ∃ p, chkF s f pos = (p, 4) := by
    intro f
    induction f with
    | zero => intro pos; exact .inl rfl
    | succ f ih =>
      intro pos
      by_cases hp : pos < s.size
      · cases hb : bad s pos
        · rw [chkF_good s f pos hp hb]; exact ih _
        · rw [chkF_bad s f pos hp hb]; exact .inr ⟨pos, rfl⟩
      · rw [chkF_end s _ pos hp]; exact .inl rfl
  exact this _ _
end Go.Proofs.YtpdohdmpjaklgaaDoor
