/-
  Plain facts on the order of texts: it is an order; a text behind its beginnings; the order of the bytes.
-/
import Derived.Test.YtkdcjkhpbbcncaaDoorDecPure
import Derived.Lib.MapLaws
import Derived.Sort.Walk0
set_option linter.unusedSimpArgs false
set_option linter.unusedVariables false
namespace Go.Proofs.YtkdcjkhpbbcncaaDoor
open Go.Lib

/-! ### an order -/
theorem cmp3_self (a : Int) : cmp3 a a = 0 := by simp [cmp3]
theorem cmp3_neg (a b : Int) : cmp3 a b = -cmp3 b a := by unfold cmp3; repeat' split <;> omega
theorem cmp3_zero (a b : Int) : cmp3 a b = 0 ↔ a = b := by unfold cmp3; constructor <;> intro h <;> (repeat' split at *) <;> omega
theorem cmpL_self : ∀ l : List Int, cmpL l l = 0
  | [] => rfl
  | a :: l => by rw [cmpL, if_pos (cmp3_self a), cmpL_self l]
theorem cmpL_neg : ∀ l m : List Int, cmpL l m = -cmpL m l
  | [], [] => rfl
  | [], _ :: _ => rfl
  | _ :: _, [] => rfl
  | a :: l, b :: m => by
    rw [cmpL, cmpL, cmp3_neg a b]
    by_cases h : cmp3 b a = 0
    · rw [if_pos (by omega), if_pos h, cmpL_neg l m]
    · rw [if_neg (by omega), if_neg h]
theorem cmp3_range (a b : Int) : cmp3 a b = -1 ∨ cmp3 a b = 0 ∨ cmp3 a b = 1 := by
  unfold cmp3
  by_cases h : a < b
  · simp [h]
  · by_cases h2 : b < a
    · simp [h, h2]
    · simp [h, h2]
theorem cmpL_range : ∀ l m : List Int, cmpL l m = -1 ∨ cmpL l m = 0 ∨ cmpL l m = 1
  | [], [] => by simp [cmpL]
  | [], _ :: _ => by simp [cmpL]
  | _ :: _, [] => by simp [cmpL]
  | a :: l, b :: m => by
    rw [cmpL]
    split
    · exact cmpL_range l m
    · exact cmp3_range a b
theorem cmpL_trans : ∀ l m k : List Int, cmpL l m ≤ 0 → cmpL m k ≤ 0 → cmpL l k ≤ 0
  | [], [], [], _, _ => by simp [cmpL]
  | [], _, _ :: _, _, _ => by simp [cmpL]
  | [], _ :: _, [], _, h => by simp [cmpL]
  | _ :: _, [], _, h, _ => by simp [cmpL] at h
  | _ :: _, _ :: _, [], _, h => by simp [cmpL] at h
  | a :: l, b :: m, c :: k, h1, h2 => by
    rw [cmpL] at h1 h2 ⊢
    unfold cmp3 at *
    by_cases e1 : a < b
    · by_cases e2 : b < c
      · have : a < c := by omega
        simp [this]
      · by_cases e3 : c < b
        · simp [e2, e3] at h2
        · have : a < c := by omega
          simp [this]
    · by_cases e1' : b < a
      · simp [e1, e1'] at h1
      · have eab : a = b := by omega
        subst eab
        by_cases e2 : a < c
        · simp [e2]
        · by_cases e3 : c < a
          · simp [e2, e3] at h2
          · simp [e2, e3] at h1 h2 ⊢
            exact cmpL_trans l m k h1 h2
theorem cmpL_prefix : ∀ (l m : List Int), cmpL l (l ++ m) ≤ 0
  | [], [] => by simp [cmpL]
  | [], _ :: _ => by simp [cmpL]
  | a :: l, m => by rw [List.cons_append, cmpL, if_pos (cmp3_self a)]; exact cmpL_prefix l m
theorem cmpL_longer : ∀ (l m : List Int), m ≠ [] → cmpL (l ++ m) l = 1
  | [], [], h => absurd rfl h
  | [], _ :: _, _ => rfl
  | a :: l, m, h => by rw [List.cons_append, cmpL, if_pos (cmp3_self a)]; exact cmpL_longer l m h
theorem cmpL_zero : ∀ l m : List Int, cmpL l m = 0 → l = m
  | [], [], _ => rfl
  | [], _ :: _, h => by simp [cmpL] at h
  | _ :: _, [], h => by simp [cmpL] at h
  | a :: l, b :: m, h => by
    rw [cmpL] at h
    split at h
    · rename_i e; rw [(cmp3_zero a b).1 e, cmpL_zero l m h]
    · rename_i e; exact absurd h e

/-! ### texts that are joined -/
theorem append_get! (a b : ByteArray) (i : Nat) (h : i < a.size) : (a ++ b).get! i = a.get! i := by
  rw [Utf8W.get!_of_lt _ i (by rw [ByteArray.size_append]; omega), Utf8W.get!_of_lt a i h]
  exact ByteArray.getElem_append_left h
theorem decodeN_good (n n' b0 b1 b2 b3 c1 c2 c3 : Nat) (hn : 1 ≤ n) (hle : n ≤ n') (h1 : 1 < n → c1 = b1) (h2 : 2 < n → c2 = b2) (h3 : 3 < n → c3 = b3) (hg : ¬ decodeN n b0 b1 b2 b3 = (65533, 1)) :
    decodeN n' b0 c1 c2 c3 = decodeN n b0 b1 b2 b3 := by
  rcases decodeN_shape n b0 b1 b2 b3 with ⟨c, e⟩ | ⟨k1, k2, k3, cv, e⟩ | ⟨k1, k2, k3, k4, cv, cs, e⟩ | ⟨k1, k2, k3, k4, k5, cv, cw, e⟩ | e
  · rw [e]; unfold decodeN; rw [if_pos c]
  · rw [e, h1 (by omega)]; unfold decodeN; rw [if_neg (by omega), if_pos ⟨k1, by omega, k3⟩, if_pos cv]
  · rw [e, h1 (by omega), h2 (by omega)]; unfold decodeN; rw [if_neg (by omega), if_neg (by omega), if_pos ⟨k1, ⟨by omega, k3⟩, by omega, k4⟩, if_pos ⟨cv, by omega⟩]
  · rw [e, h1 (by omega), h2 (by omega), h3 (by omega)]; unfold decodeN; rw [if_neg (by omega), if_neg (by omega), if_neg (by omega), if_pos ⟨k1, ⟨by omega, k3⟩, ⟨by omega, k4⟩, by omega, k5⟩, if_pos ⟨cv, by omega⟩]
  · exact absurd e hg
set_option maxRecDepth 100000 in
/-- A last byte of ASCII ends what is ahead of it. -/
theorem decodeN_ascii (n n' b0 b1 b2 b3 c1 c2 c3 : Nat) (hn : 1 ≤ n) (hle : n ≤ n') (h1 : 1 < n → c1 = b1) (h2 : 2 < n → c2 = b2) (h3 : 3 < n → c3 = b3)
    (ha : (n = 1 → b0 < 128) ∧ (n = 2 → b1 < 128) ∧ (n = 3 → b2 < 128) ∧ (n = 4 → b3 < 128)) :
    decodeN n' b0 c1 c2 c3 = decodeN n b0 b1 b2 b3 := by
  by_cases hg : decodeN n b0 b1 b2 b3 = (65533, 1)
  · rw [hg]
    rcases decodeN_shape n' b0 c1 c2 c3 with ⟨c, e⟩ | ⟨k1, k2, k3, cv, e⟩ | ⟨k1, k2, k3, k4, cv, cs, e⟩ | ⟨k1, k2, k3, k4, k5, cv, cw, e⟩ | e
    · have : decodeN n b0 b1 b2 b3 = (b0, 1) := by unfold decodeN; rw [if_pos c]
      rw [e, ← hg, this]
    · by_cases hn1 : n = 1
      · have := ha.1 hn1; omega
      · have e1 := h1 (by omega)
        have : decodeN n b0 b1 b2 b3 = (b0 % 32 * 64 + b1 % 64, 2) := by unfold decodeN; rw [if_neg (by omega), if_pos ⟨k1, by omega, by omega⟩, if_pos (by omega)]
        rw [this] at hg; simp at hg
    · by_cases hn1 : n = 1
      · have := ha.1 hn1; omega
      · have e1 := h1 (by omega)
        by_cases hn2 : n = 2
        · have := ha.2.1 hn2; omega
        · have e2 := h2 (by omega)
          have : decodeN n b0 b1 b2 b3 = (b0 % 16 * 4096 + b1 % 64 * 64 + b2 % 64, 3) := by unfold decodeN; rw [if_neg (by omega), if_neg (by omega), if_pos ⟨k1, ⟨by omega, by omega⟩, by omega, by omega⟩, if_pos ⟨by omega, by omega⟩]
          rw [this] at hg; simp at hg
    · by_cases hn1 : n = 1
      · have := ha.1 hn1; omega
      · have e1 := h1 (by omega)
        by_cases hn2 : n = 2
        · have := ha.2.1 hn2; omega
        · have e2 := h2 (by omega)
          by_cases hn3 : n = 3
          · have := ha.2.2.1 hn3; omega
          · have e3 := h3 (by omega)
            have : decodeN n b0 b1 b2 b3 = (b0 % 8 * 262144 + b1 % 64 * 4096 + b2 % 64 * 64 + b3 % 64, 4) := by unfold decodeN; rw [if_neg (by omega), if_neg (by omega), if_neg (by omega), if_pos ⟨k1, ⟨by omega, by omega⟩, ⟨by omega, by omega⟩, by omega, by omega⟩, if_pos ⟨by omega, by omega⟩]
            rw [this] at hg; simp at hg
    · exact e
  · exact decodeN_good n n' b0 b1 b2 b3 c1 c2 c3 hn hle h1 h2 h3 hg

theorem bad_false_iff (s : ByteArray) (pos : Nat) : bad s pos = false ↔ ¬ Utf8.decode s pos = (65533, 1) := by
  constructor
  · intro h e; simp [bad, e] at h
  · intro h
    cases hb : bad s pos
    · rfl
    · exact absurd (bad_eq hb) h
theorem dec_append_good (a b : ByteArray) (pos : Nat) (h : pos < a.size) (hg : bad a pos = false) : Utf8.decode (a ++ b) pos = Utf8.decode a pos := by
  have hg' := (bad_false_iff a pos).1 hg
  rw [decode_at] at hg'
  rw [decode_at, decode_at, append_get! a b pos h, ByteArray.size_append]
  exact decodeN_good _ _ _ _ _ _ _ _ _ (by omega) (by omega) (fun h1 => by rw [append_get! a b _ (by omega)]) (fun h1 => by rw [append_get! a b _ (by omega)]) (fun h1 => by rw [append_get! a b _ (by omega)]) hg'
theorem dec_append_ascii (a b : ByteArray) (pos : Nat) (h : pos < a.size) (hx : (a.get! (a.size - 1)).toNat < 128) : Utf8.decode (a ++ b) pos = Utf8.decode a pos := by
  rw [decode_at, decode_at, append_get! a b pos h, ByteArray.size_append]
  refine decodeN_ascii _ _ _ _ _ _ _ _ _ (by omega) (by omega) (fun h1 => by rw [append_get! a b _ (by omega)]) (fun h1 => by rw [append_get! a b _ (by omega)]) (fun h1 => by rw [append_get! a b _ (by omega)]) ⟨fun e => ?_, fun e => ?_, fun e => ?_, fun e => ?_⟩
  · have : pos = a.size - 1 := by omega
    rw [this]; exact hx
  · have : pos + 1 = a.size - 1 := by omega
    rw [this]; exact hx
  · have : pos + 2 = a.size - 1 := by omega
    rw [this]; exact hx
  · have : pos + 3 = a.size - 1 := by omega
    rw [this]; exact hx
theorem append_tail (a b : ByteArray) : (a ++ b).extract a.size (a ++ b).size = b := by
  apply ByteArray.ext
  apply Array.ext'
  rw [extract_data, ByteArray.size_append, ByteArray.data_append, Array.toList_append, List.drop_left' (by rw [← size_eq])]
  exact List.take_of_length_le (by rw [← size_eq]; omega)
theorem rl_append_tail (a b : ByteArray) (g : Nat) (hg : b.size ≤ g) : runesFrom (a ++ b) g a.size = rl b := by
  have h := rl_tail (a ++ b) a.size
  rw [append_tail] at h
  rw [h]
  exact runesFrom_fuel _ _ _ _ (by rw [ByteArray.size_append]; omega) (by omega)
theorem runes_append (a b : ByteArray) (P : Nat → Prop) (hP : ∀ pos, pos < a.size → P pos → Utf8.decode (a ++ b) pos = Utf8.decode a pos ∧ P (pos + (Utf8.decode a pos).2)) :
    ∀ (f g pos : Nat), P pos → a.size ≤ pos + f → pos ≤ a.size → b.size ≤ g → runesFrom (a ++ b) (f + g) pos = runesFrom a f pos ++ rl b
  | 0, g, pos, _, h1, h2, h3 => by
    have : pos = a.size := by omega
    subst this
    rw [Nat.zero_add, rl_append_tail a b g h3]; rfl
  | f + 1, g, pos, hp, h1, h2, h3 => by
    by_cases hlt : pos < a.size
    · obtain ⟨hd, hn⟩ := hP pos hlt hp
      have hv := width_pos a pos hlt
      have hv2 := dec_le a pos hlt
      have e : f + 1 + g = (f + g) + 1 := by omega
      rw [e, runesFrom_cons _ (f + g) pos (by rw [ByteArray.size_append]; omega), runesFrom_cons a f pos hlt, hd, List.cons_append, runes_append a b P hP f g _ hn (by omega) hv2 h3]
    · have : pos = a.size := by omega
      subst this
      rw [rl_append_tail a b _ (by omega), runesFrom_end a _ _ hlt]; rfl
theorem rl_append (a b : ByteArray) (P : Nat → Prop) (h0 : P 0) (hP : ∀ pos, pos < a.size → P pos → Utf8.decode (a ++ b) pos = Utf8.decode a pos ∧ P (pos + (Utf8.decode a pos).2)) : rl (a ++ b) = rl a ++ rl b := by
  have := runes_append a b P hP a.size b.size 0 h0 (by omega) (by omega) (Nat.le_refl _)
  unfold rl at *
  rw [ByteArray.size_append]; exact this

/-- Every place that is come to is good. -/
def Good (a : ByteArray) (pos : Nat) : Prop := ∃ f, a.size ≤ pos + f ∧ (chkF a f pos).2 = 0
theorem good_start (a : ByteArray) (h : (chk a).2 = 0) : Good a 0 := ⟨a.size, by omega, h⟩
theorem good_step (a : ByteArray) (pos : Nat) (hp : pos < a.size) (h : Good a pos) : bad a pos = false ∧ Good a (pos + (Utf8.decode a pos).2) := by
  obtain ⟨f, hf, hc⟩ := h
  obtain ⟨f, rfl⟩ : ∃ g, f = g + 1 := ⟨f - 1, by omega⟩
  have hv := width_pos a pos hp
  cases hb : bad a pos
  · rw [chkF_good a f pos hp hb] at hc
    exact ⟨rfl, f, by omega, hc⟩
  · rw [chkF_bad a f pos hp hb] at hc
    simp at hc
theorem rl_append_good (a b : ByteArray) (h : (chk a).2 = 0) : rl (a ++ b) = rl a ++ rl b :=
  rl_append a b (Good a) (good_start a h) fun pos hp hg => by
    obtain ⟨h1, h2⟩ := good_step a pos hp hg
    exact ⟨dec_append_good a b pos hp h1, h2⟩
theorem rl_append_ascii (a b : ByteArray) (hx : (a.get! (a.size - 1)).toNat < 128) : rl (a ++ b) = rl a ++ rl b :=
  rl_append a b (fun _ => True) trivial fun pos hp _ => ⟨dec_append_ascii a b pos hp hx, trivial⟩
theorem last_x (a : ByteArray) : ((a ++ ⟨#[120]⟩ : ByteArray).get! ((a ++ ⟨#[120]⟩ : ByteArray).size - 1)).toNat < 128 := by
  have hs : (a ++ ⟨#[120]⟩ : ByteArray).size = a.size + 1 := by rw [ByteArray.size_append]; rfl
  rw [hs, Utf8W.get!_of_lt _ _ (by rw [hs]; omega)]
  rw [ByteArray.getElem_append_right (by omega)]
  have e : a.size + 1 - 1 - a.size = 0 := by omega
  simp only [e]
  exact (by decide : ((⟨#[120]⟩ : ByteArray)[0]'(by decide)).toNat < 128)
theorem rl_ne_nil (b : ByteArray) (h : b.size ≠ 0) : rl b ≠ [] := by rw [rl_cons b h]; simp

theorem ord_self (a : ByteArray) : ordI a a = 0 := cmpL_self _
theorem ord_neg (a b : ByteArray) : ordI a b = -ordI b a := cmpL_neg _ _
theorem ord_trans (a b c : ByteArray) (h : ordI a b ≤ 0) (h' : ordI b c ≤ 0) : ordI a c ≤ 0 := cmpL_trans _ _ _ h h'
theorem ord_prefix (a b : ByteArray) (h : (chk a).2 = 0) : ordI a (a ++ b) ≤ 0 := by unfold ordI; rw [rl_append_good a b h]; exact cmpL_prefix _ _
theorem ord_longer (a b : ByteArray) (h : b.size ≠ 0) : ordI (a ++ ⟨#[120]⟩ ++ b) (a ++ ⟨#[120]⟩) = 1 := by
  unfold ordI; rw [rl_append_ascii _ b (last_x a)]; exact cmpL_longer _ _ (rl_ne_nil b h)
end Go.Proofs.YtkdcjkhpbbcncaaDoor
