/-
  EvBkP, EvBlP, EvBmP, EvBkW.
-/
import Derived.Test.YtpdohdmpjaklgaaDoorMEvTxP
import Derived.Test.YtpdohdmpjaklgaaDoorMGEvR
import Derived.Test.YtpdohdmpjaklgaaDoorMArBkP
import Derived.Test.YtpdohdmpjaklgaaDoorMEvTxW
import Derived.Test.YtpdohdmpjaklgaaDoorMEvSsW
set_option linter.unusedSimpArgs false
set_option linter.unusedVariables false
namespace Go.Proofs.YtpdohdmpjaklgaaDoor
open Go.RowKit Go.Lib

/-- s stands in S from d on; behind it nothing, or a sign below 64. -/
structure MidE (S s : ByteArray) (d : Nat) : Prop where
  size : d + s.size ≤ S.size
  get : ∀ i, i < s.size → S.get! (d + i) = s.get! i
  stop : d + s.size = S.size ∨ (S.get! (d + s.size)).toNat < 64
theorem mN1 (n b0 x1 x2 x3 y1 y2 y3 : Nat) (hx : 1 < n → x1 / 64 = 0) : decodeN n b0 x1 x2 x3 = decodeN 1 b0 y1 y2 y3 := by
  unfold decodeN
  by_cases h0 : b0 < 128
  · rw [if_pos h0, if_pos h0]
  · rw [if_neg h0, if_neg h0, if_neg (fun c => by omega), if_neg (fun c => by omega), if_neg (fun c => by omega), if_neg (fun c => by omega), if_neg (fun c => by omega), if_neg (fun c => by omega)]
theorem mN2 (n b0 b1 x2 x3 y2 y3 : Nat) (hn : 1 < n) (hx : 2 < n → x2 / 64 = 0) : decodeN n b0 b1 x2 x3 = decodeN 2 b0 b1 y2 y3 := by
  have a1 : (1 < n) = True := by simp; omega
  have a2 : (1 < 2) = True := by simp
  have a3 : ¬ (2 < n ∧ x2 / 64 = 2) := fun c => by omega
  have a4 : ¬ (2 < 2 ∧ y2 / 64 = 2) := fun c => by omega
  unfold decodeN
  simp only [a1, a2, a3, a4, false_and, and_false, if_false]
theorem mN3 (n b0 b1 b2 x3 y3 : Nat) (hn : 2 < n) (hx : 3 < n → x3 / 64 = 0) : decodeN n b0 b1 b2 x3 = decodeN 3 b0 b1 b2 y3 := by
  have a1 : (1 < n) = True := by simp; omega
  have a2 : (2 < n) = True := by simp; omega
  have a3 : (1 < 3) = True := by simp
  have a4 : (2 < 3) = True := by simp
  have a5 : ¬ (3 < n ∧ x3 / 64 = 2) := fun c => by omega
  have a6 : ¬ (3 < 3 ∧ y3 / 64 = 2) := fun c => by omega
  unfold decodeN
  simp only [a1, a2, a3, a4, a5, a6, false_and, and_false, if_false]
theorem mN4 (n m b0 b1 b2 b3 : Nat) (hn : 3 < n) (hm : 3 < m) : decodeN n b0 b1 b2 b3 = decodeN m b0 b1 b2 b3 := by
  unfold decodeN
  have a1 : (1 < n) = True := by simp; omega
  have a2 : (2 < n) = True := by simp; omega
  have a3 : (3 < n) = True := by simp; omega
  have c1 : (1 < m) = True := by simp; omega
  have c2 : (2 < m) = True := by simp; omega
  have c3 : (3 < m) = True := by simp; omega
  simp only [a1, a2, a3, c1, c2, c3]
theorem MidE.dec {S s : ByteArray} {d : Nat} (h : MidE S s d) {p : Nat} (hp : p < s.size) : Utf8.decode S (d + p) = Utf8.decode s p := by
  have hz := h.size
  rw [decode_at, decode_at, h.get p hp]
  have g : ∀ i, p + i < s.size → S.get! (d + p + i) = s.get! (p + i) := fun i hi => by rw [Nat.add_assoc]; exact h.get (p + i) hi
  have e : ∀ i, p + i = s.size → i < S.size - (d + p) → (S.get! (d + p + i)).toNat / 64 = 0 := fun i hi hl => by
    have : d + p + i = d + s.size := by omega
    rw [this]
    rcases h.stop with h1 | h1 <;> omega
  have c : s.size - p = 1 ∨ s.size - p = 2 ∨ s.size - p = 3 ∨ 4 ≤ s.size - p := by omega
  rcases c with c | c | c | c
  · rw [c]; exact mN1 _ _ _ _ _ _ _ _ (e 1 (by omega))
  · rw [c, g 1 (by omega)]; exact mN2 _ _ _ _ _ _ _ (by omega) (e 2 (by omega))
  · rw [c, g 1 (by omega), g 2 (by omega)]; exact mN3 _ _ _ _ _ _ (by omega) (e 3 (by omega))
  · rw [g 1 (by omega), g 2 (by omega), g 3 (by omega)]; exact mN4 _ _ _ _ _ _ (by omega) (by omega)
theorem MidE.good {S s : ByteArray} {d : Nat} (h : MidE S s d) {p : Nat} (hp : p < s.size) : bad S (d + p) = bad s p := by unfold bad; rw [h.dec hp]
theorem MidE.ext {S s : ByteArray} {d : Nat} (h : MidE S s d) : S.extract d (d + s.size) = s := by
  apply ByteArray.ext
  apply Array.ext'
  rw [extract_data]
  apply List.ext_getElem?
  intro i
  rw [List.getElem?_take]
  by_cases hi : i < s.size
  · rw [if_pos (by omega), List.getElem?_drop, get_at s i hi, get_at S (d + i) (by have := h.size; omega), h.get i hi]
  · rw [if_neg (by omega), List.getElem?_eq_none]
    rw [← size_eq]; omega
/-- A sign below 128. -/
theorem dec_low (S : ByteArray) (p : Nat) (h : (S.get! p).toNat < 128) : Utf8.decode S p = ((S.get! p).toNat, 1) := by
  rw [decode_at]; unfold decodeN; rw [if_pos h]
theorem good_low (S : ByteArray) (p : Nat) (h : (S.get! p).toNat < 128) : bad S p = false := by
  unfold bad; rw [dec_low S p h]
  have : ¬ (S.get! p).toNat = 65533 := by omega
  simp [this]

/-! ### names -/
theorem spF_name {S nm : ByteArray} {p : Nat} (h : MidE S nm p) (hst : p + nm.size < S.size → onB (Utf8.decode S (p + nm.size)).1 = false) : ∀ (f q n : Nat), nmF nm f q n = true → q ≤ nm.size → nm.size ≤ q + f → ∀ F, S.size ≤ p + q + F → spF S F (p + q) = p + nm.size
  | 0, q, n, h1, h2, h3, F, hF => by
    have e : q = nm.size := by omega
    subst e
    by_cases hl : p + nm.size < S.size
    · exact spF_off S F _ hl (hst hl)
    · exact spF_end S F _ hl
  | f + 1, q, n, h1, h2, h3, F, hF => by
    by_cases hq : q < nm.size
    · have hsz := h.size
      rw [nmF_step nm f q n hq] at h1
      have hw := width_pos nm q hq
      have hw2 := dec_le nm q hq
      have hd := h.dec hq
      have hon : onB (Utf8.decode nm q).1 = true ∧ nmF nm f (q + (Utf8.decode nm q).2) (n + 1) = true := by
        unfold nmS at h1
        split at h1
        · cases h1
        · rename_i hh; simp at hh; exact ⟨hh.2, h1⟩
      obtain ⟨F, rfl⟩ : ∃ G, F = G + 1 := ⟨F - 1, by omega⟩
      rw [spF_on S F (p + q) (by omega) (by rw [hd]; exact hon.1), hd, Nat.add_assoc]
      exact spF_name h hst f _ _ hon.2 hw2 (by omega) F (by omega)
    · have e : q = nm.size := by omega
      subst e
      by_cases hl : p + nm.size < S.size
      · exact spF_off S F _ hl (hst hl)
      · exact spF_end S F _ hl
theorem name_first (nm : ByteArray) (h : nameB nm = true) : 0 < nm.size ∧ kd (Utf8.decode nm 0).1 = 1 := by
  unfold nameB at h
  by_cases h0 : 0 < nm.size
  · refine ⟨h0, ?_⟩
    obtain ⟨k, hk⟩ : ∃ k, nm.size = k + 1 := ⟨nm.size - 1, by omega⟩
    rw [hk, nmF_step nm k 0 0 h0] at h
    unfold nmS at h
    split at h
    · cases h
    · rename_i hh; simp at hh; exact hh.1
  · rw [nmF_end nm _ 0 0 h0] at h; simp at h

/-! ### no bad byte -/
def CkE (S : ByteArray) (p : Nat) : Prop := ∀ f, S.size ≤ p + f → chkF S f p = (0, 0)
theorem CkE_end (S : ByteArray) : CkE S S.size := fun f _ => by cases f <;> simp [chkF]
theorem CkE_step {S : ByteArray} {p : Nat} (hp : p < S.size) (hb : bad S p = false) (h : CkE S (p + (Utf8.decode S p).2)) : CkE S p := fun f hf => by
  obtain ⟨f, rfl⟩ : ∃ g, f = g + 1 := ⟨f - 1, by omega⟩
  have hw := width_pos S p hp
  unfold chkF
  rw [if_pos hp, hb]
  exact h f (by omega)
theorem CkE_low {S : ByteArray} {p : Nat} (hp : p < S.size) (hl : (S.get! p).toNat < 128) (h : CkE S (p + 1)) : CkE S p := CkE_step hp (good_low S p hl) (by rw [dec_low S p hl]; exact h)
theorem CkE_name {S nm : ByteArray} {p : Nat} (h : MidE S nm p) (hc : CkE S (p + nm.size)) : ∀ (f q n : Nat), nmF nm f q n = true → q ≤ nm.size → nm.size ≤ q + f → CkE S (p + q)
  | 0, q, n, h1, h2, h3 => by
    have e : q = nm.size := by omega
    subst e; exact hc
  | f + 1, q, n, h1, h2, h3 => by
    by_cases hq : q < nm.size
    · have hsz := h.size
      rw [nmF_step nm f q n hq] at h1
      have hw2 := dec_le nm q hq
      have hw := width_pos nm q hq
      have hon : onB (Utf8.decode nm q).1 = true ∧ nmF nm f (q + (Utf8.decode nm q).2) (n + 1) = true := by
        unfold nmS at h1
        split at h1
        · cases h1
        · rename_i hh; simp at hh; exact ⟨hh.2, h1⟩
      refine CkE_step (by omega) (by rw [h.good hq]; exact good_of_on nm q hon.1) ?_
      rw [h.dec hq, Nat.add_assoc]
      exact CkE_name h hc f _ _ hon.2 hw2 (by omega)
    · have e : q = nm.size := by omega
      subst e; exact hc
/-! ### digits -/
theorem dgE_one {S U : ByteArray} {D : Nat} (z : Int) (hz : z ≠ 0) (h : MidE S U D) (hst : D + U.size < S.size → digZ (Utf8.decode S (D + U.size)).1 ≠ z) : ∀ (f q : Nat), oneF U z f q = true → q ≤ U.size → U.size ≤ q + f → ∀ F, S.size ≤ D + q + F → dgE S z F (D + q) = D + U.size
  | 0, q, h1, h2, h3, F, hF => by
    have e : q = U.size := by omega
    subst e
    by_cases hl : D + U.size < S.size
    · exact dgE_off S z F _ (hst hl)
    · exact dgE_end S z F _ hl
  | f + 1, q, h1, h2, h3, F, hF => by
    by_cases hq : q < U.size
    · have hsz := h.size
      have hw := width_pos U q hq
      have hw2 := dec_le U q hq
      have hd := h.dec hq
      by_cases hdz : digZ (Utf8.decode U q).1 = z
      · rw [oneF_on U z f q hq hdz] at h1
        obtain ⟨F, rfl⟩ : ∃ G, F = G + 1 := ⟨F - 1, by omega⟩
        rw [dgE_on S z F (D + q) (by omega) (by rw [hd]; exact hdz), hd, Nat.add_assoc]
        exact dgE_one z hz h hst f _ h1 hw2 (by omega) F (by omega)
      · rw [oneF_off U z f q hq hdz] at h1; cases h1
    · have e : q = U.size := by omega
      subst e
      by_cases hl : D + U.size < S.size
      · exact dgE_off S z F _ (hst hl)
      · exact dgE_end S z F _ hl
theorem CkE_one {S U : ByteArray} {D : Nat} (z : Int) (hz : z ≠ 0) (h : MidE S U D) (hc : CkE S (D + U.size)) : ∀ (f q : Nat), oneF U z f q = true → q ≤ U.size → U.size ≤ q + f → CkE S (D + q)
  | 0, q, h1, h2, h3 => by
    have e : q = U.size := by omega
    subst e; exact hc
  | f + 1, q, h1, h2, h3 => by
    by_cases hq : q < U.size
    · have hsz := h.size
      have hw := width_pos U q hq
      have hw2 := dec_le U q hq
      by_cases hdz : digZ (Utf8.decode U q).1 = z
      · rw [oneF_on U z f q hq hdz] at h1
        refine CkE_step (by omega) (by rw [h.good hq]; exact dig_good U q (by rw [hdz]; exact hz)) ?_
        rw [h.dec hq, Nat.add_assoc]
        exact CkE_one z hz h hc f _ h1 hw2 (by omega)
      · rw [oneF_off U z f q hq hdz] at h1; cases h1
    · have e : q = U.size := by omega
      subst e; exact hc
end Go.Proofs.YtpdohdmpjaklgaaDoor

set_option linter.unusedSimpArgs false
set_option linter.unusedVariables false
namespace Go.Proofs.YtpdohdmpjaklgaaDoor
open Go.RowKit Go.Lib

theorem rn_low (S : ByteArray) (p : Nat) (hp : p < S.size) (h : (S.get! p).toNat < 128) : rn S p = (S.get! p).toNat := by
  unfold rn; rw [if_pos hp, good_low S p h, dec_low S p h]; rfl
theorem skE_not {S : ByteArray} {p : Nat} (hp : p < S.size) (h : kd (Utf8.decode S p).1 ≠ 3) : skE S p = p := skip_off S _ p hp h
theorem skE_end (S : ByteArray) : skE S S.size = S.size := skip_end S _ _ (by omega)
theorem skE_fuel (S : ByteArray) : ∀ (f g p : Nat), S.size ≤ p + f → S.size ≤ p + g → psSkip S f p = psSkip S g p
  | 0, g, p, h1, h2 => by rw [skip_end S 0 p (by omega), skip_end S g p (by omega)]
  | f + 1, 0, p, h1, h2 => by rw [skip_end S _ p (by omega), skip_end S 0 p (by omega)]
  | f + 1, g + 1, p, h1, h2 => by
    by_cases hp : p < S.size
    · have hw := width_pos S p hp
      by_cases hk : kd (Utf8.decode S p).1 = 3
      · rw [skip_on S f p hp hk, skip_on S g p hp hk]; exact skE_fuel S f g _ (by omega) (by omega)
      · rw [skip_off S _ p hp hk, skip_off S _ p hp hk]
    · rw [skip_end S _ p hp, skip_end S _ p hp]
theorem skE_blank {S : ByteArray} {p : Nat} (hp : p < S.size) (h : S.get! p = 32) : skE S p = skE S (p + 1) := by
  have hl : (S.get! p).toNat < 128 := by rw [h]; decide
  have hd := dec_low S p hl
  obtain ⟨k, hk⟩ : ∃ k, S.size = k + 1 := ⟨S.size - 1, by omega⟩
  unfold skE
  rw [hk, skip_on S k p hp (by rw [hd, h]; decide), hd, ← hk]
  exact skE_fuel S _ _ _ (by omega) (by omega)
theorem MidE.sub {S s U : ByteArray} {d k : Nat} (h : MidE S s d) (hs : s.size = k + U.size) (hg : ∀ i, i < U.size → s.get! (k + i) = U.get! i) : MidE S U (d + k) := by
  have hz := h.size
  refine ⟨by omega, fun i hi => ?_, ?_⟩
  · rw [Nat.add_assoc, h.get (k + i) (by omega)]; exact hg i hi
  · have e : d + k + U.size = d + s.size := by omega
    rw [e]; exact h.stop
theorem get_app (a b : ByteArray) (i : Nat) : (a ++ b).get! i = if i < a.size then a.get! i else b.get! (i - a.size) := by
  by_cases h1 : i < (a ++ b).size
  · have e := get_at (a ++ b) i h1
    rw [ByteArray.size_append] at h1
    have hda : (a ++ b).data.toList = a.data.toList ++ b.data.toList := by simp [ByteArray.data_append]
    rw [hda] at e
    have hla : a.data.toList.length = a.size := (size_eq a).symm
    by_cases h2 : i < a.size
    · rw [if_pos h2, List.getElem?_append_left (by omega), get_at a i h2] at *
      simpa using e.symm
    · rw [if_neg h2]
      rw [List.getElem?_append_right (by omega), hla, get_at b _ (by omega)] at e
      simpa using e.symm
  · have e1 : ¬ i < (a ++ b).data.size := h1
    rw [ByteArray.size_append] at h1
    rw [if_neg (by omega)]
    have e2 : ¬ (i - a.size) < b.data.size := by show ¬ _ < b.size; omega
    show (a ++ b).data[i]! = b.data[i - a.size]!
    rw [getElem!_neg (a ++ b).data i e1, getElem!_neg b.data (i - a.size) e2]
/-- The stop behind a number: nothing, a comma or a blank. -/
def Stp (S : ByteArray) (e : Nat) : Prop := e = S.size ∨ (e < S.size ∧ (S.get! e = 44 ∨ S.get! e = 32))
theorem Stp.low {S : ByteArray} {e : Nat} (h : Stp S e) : e = S.size ∨ (S.get! e).toNat < 64 := by
  rcases h with h | ⟨_, h | h⟩
  · exact .inl h
  · right; rw [h]; decide
  · right; rw [h]; decide
theorem Stp.dig {S : ByteArray} {e : Nat} (h : Stp S e) (hl : e < S.size) : digZ (Utf8.decode S e).1 ≠ 48 := by
  rcases h with h | ⟨_, h | h⟩
  · omega
  · rw [dec_low S e (by rw [h]; decide), h]; decide
  · rw [dec_low S e (by rw [h]; decide), h]; decide
theorem digits48 (u : Nat) : one (txt 48 (dgs u)) = true ∧ sc0 (txt 48 (dgs u)) = 48 ∧ 0 < (txt 48 (dgs u)).size ∧ oneF (txt 48 (dgs u)) 48 (txt 48 (dgs u)).size 0 = true := by
  have h1 := one_txt 48 (.inl rfl) (dgs u) (dgs_D u) (dgs_ne u)
  have h2 := sc0_txt 48 (.inl rfl) (dgs u) (dgs_D u) (dgs_ne u) ⟨#[]⟩
  rw [app_nil] at h2
  refine ⟨h1.1, h2.1, h2.2.1, ?_⟩
  have := h1.1
  unfold one at this
  rw [h2.1] at this
  simp at this
  exact this.2
/-- A number in a text, read. -/
theorem numE_read {S : ByteArray} {n : Int} {c : Nat} (hn : i6 n) (h : MidE S (tx8 (itoa n)) c) (hst : Stp S (c + (tx8 (itoa n)).size)) (h4 : S.size ≤ 4096) :
    numE S c = (n, skE S (c + (tx8 (itoa n)).size), 0) ∧ (CkE S (c + (tx8 (itoa n)).size) → CkE S c) ∧ c < S.size ∧ kd (Utf8.decode S c).1 ≠ 3 := by
  obtain ⟨T, hT⟩ : ∃ T, tx8 (itoa n) = T := ⟨_, rfl⟩
  have hform := text_form n
  have hback := text_back n hn
  rw [hT] at h hst hform hback ⊢
  obtain ⟨U, hU⟩ : ∃ U, txt 48 (dgs n.natAbs) = U := ⟨_, rfl⟩
  obtain ⟨u1, u2, u3, u4⟩ := digits48 n.natAbs
  rw [hU] at u1 u2 u3 u4 hform
  have hz := h.size
  have hud : digZ (Utf8.decode U 0).1 = 48 := u2
  have key : ∀ k : Nat, T.size = k + U.size → (∀ i, i < U.size → T.get! (k + i) = U.get! i) → mwd S c = k →
      numE S c = (n, skE S (c + T.size), 0) := by
    intro k hk hg hm
    have hM := h.sub hk hg
    have hd0 := hM.dec u3
    rw [Nat.add_zero] at hd0
    have hDl : c + k < S.size := by omega
    have hrn : digZ (rn S (c + k)) = 48 := by rw [digZ_rn S _ hDl, hd0]; exact hud
    have hdg : dgA S (c + k) = c + T.size := by
      unfold dgA
      rw [hrn]
      have := dgE_one 48 (by decide) hM (fun hl => by
        have e : c + k + U.size = c + T.size := by omega
        rw [e] at hl ⊢
        exact hst.dig hl) U.size 0 u4 (Nat.zero_le _) (by omega) S.size (by omega)
      rw [Nat.add_zero] at this
      rw [this]; omega
    unfold numE
    rw [hm, hrn, if_neg (by decide), hdg, h.ext, hback, if_pos rfl]
  have key2 : ∀ k : Nat, T.size = k + U.size → (∀ i, i < U.size → T.get! (k + i) = U.get! i) → CkE S (c + T.size) → CkE S (c + k) := by
    intro k hk hg hck
    have hM := h.sub hk hg
    have e : c + k + U.size = c + T.size := by omega
    have := CkE_one 48 (by decide) hM (by rw [e]; exact hck) U.size 0 u4 (Nat.zero_le _) (by omega)
    rwa [Nat.add_zero] at this
  by_cases hneg : n < 0
  · rw [if_pos hneg] at hform
    have h45 : tx8 [45] = ⟨#[45]⟩ := rfl
    rw [h45] at hform
    have hs1 : (⟨#[45]⟩ : ByteArray).size = 1 := rfl
    have hTs : T.size = 1 + U.size := by rw [hform, ByteArray.size_append, hs1]
    have hg : ∀ i, i < U.size → T.get! (1 + i) = U.get! i := fun i hi => by
      rw [hform, get_app, hs1, if_neg (by omega)]; congr 1; omega
    have h0 : S.get! c = 45 := by
      have := h.get 0 (by omega)
      rw [Nat.add_zero] at this
      rw [this, hform, get_app, hs1, if_pos (by omega)]; rfl
    have hl : (S.get! c).toNat < 128 := by rw [h0]; decide
    have hm : mwd S c = 1 := by unfold mwd; rw [rn_low S c (by omega) hl, h0, if_pos (by decide)]
    refine ⟨key 1 hTs hg hm, fun hck => ?_, by omega, ?_⟩
    · exact CkE_low (by omega) hl (key2 1 hTs hg hck)
    · rw [dec_low S c hl, h0]; decide
  · rw [if_neg hneg] at hform
    subst hform
    have hd0 := h.dec u3
    rw [Nat.add_zero] at hd0
    have hcl : c < S.size := by omega
    have hz48 : digZ (rn S c) = 48 := by rw [digZ_rn S _ hcl, hd0]; exact hud
    have hm : mwd S c = 0 := by
      unfold mwd
      rw [if_neg (by intro e; rw [e] at hz48; exact absurd hz48 (by decide)), if_neg (by intro e; rw [e] at hz48; exact absurd hz48 (by decide))]
    refine ⟨key 0 (by omega) (fun i hi => by rw [Nat.zero_add]) hm, fun hck => ?_, hcl, ?_⟩
    · exact key2 0 (by omega) (fun i hi => by rw [Nat.zero_add]) hck
    · rw [hd0]
      have hv := digV_eq (Utf8.decode T 0).1 (by rw [hud]; decide)
      rw [hud] at hv
      have h10 : (Utf8.decode T 0).1 = 48 ∨ (Utf8.decode T 0).1 = 49 ∨ (Utf8.decode T 0).1 = 50 ∨ (Utf8.decode T 0).1 = 51 ∨ (Utf8.decode T 0).1 = 52 ∨ (Utf8.decode T 0).1 = 53 ∨ (Utf8.decode T 0).1 = 54 ∨ (Utf8.decode T 0).1 = 55 ∨ (Utf8.decode T 0).1 = 56 ∨ (Utf8.decode T 0).1 = 57 := by omega
      rcases h10 with e | e | e | e | e | e | e | e | e | e <;> rw [e] <;> decide
/-- A binding in a text, read. -/
theorem bind_read {S : ByteArray} {x : Bd} {p : Nat} (hnm : nameB x.1 = true) (hn : i6 x.2) (h : MidE S (wrB x) p) (hst : Stp S (p + (wrB x).size)) (h4 : S.size ≤ 4096) :
    bindP S p = (x, skE S (p + (wrB x).size), 0) ∧ (CkE S (p + (wrB x).size) → CkE S p) ∧ p < S.size ∧ kd (Utf8.decode S p).1 ≠ 3 := by
  obtain ⟨nm, n⟩ := x
  simp only at hnm hn
  have hw : wrB (nm, n) = nm ++ ⟨#[61]⟩ ++ tx8 (itoa n) := rfl
  obtain ⟨T, hT⟩ : ∃ T, tx8 (itoa n) = T := ⟨_, rfl⟩
  have hs1 : (⟨#[61]⟩ : ByteArray).size = 1 := rfl
  obtain ⟨Wr, hWr⟩ : ∃ Wr, wrB (nm, n) = Wr := ⟨_, rfl⟩
  rw [hWr] at h hst ⊢
  have hwz : Wr.size = nm.size + 1 + T.size := by rw [← hWr, hw, ByteArray.size_append, ByteArray.size_append, hs1, hT]
  have hgw : ∀ i, Wr.get! i = if i < nm.size + 1 then (if i < nm.size then nm.get! i else (⟨#[61]⟩ : ByteArray).get! (i - nm.size)) else T.get! (i - (nm.size + 1)) := fun i => by
    rw [← hWr, hw, get_app, get_app, ByteArray.size_append, hs1, hT]
  have hz := h.size
  have h61 : S.get! (p + nm.size) = 61 := by
    rw [h.get nm.size (by omega), hgw, if_pos (by omega), if_neg (by omega), Nat.sub_self]; rfl
  have hl61 : (S.get! (p + nm.size)).toNat < 128 := by rw [h61]; decide
  have hMn : MidE S nm p := ⟨by omega, fun i hi => by rw [h.get i (by omega), hgw, if_pos (by omega), if_pos hi], .inr (by rw [h61]; decide)⟩
  have hMt : MidE S T (p + (nm.size + 1)) := h.sub (by omega) (fun i hi => by rw [hgw, if_neg (by omega)]; congr 1; omega)
  obtain ⟨f1, f2⟩ := name_first nm hnm
  have hd0 := hMn.dec f1
  rw [Nat.add_zero] at hd0
  have hpl : p < S.size := by omega
  have hsp : spF S S.size p = p + nm.size := by
    have := spF_name hMn (fun hl => by rw [dec_low S _ hl61, h61]; decide) nm.size 0 0 hnm (Nat.zero_le _) (by omega) S.size (by omega)
    rwa [Nat.add_zero] at this
  have hsk1 : skE S (p + nm.size) = p + nm.size := skE_not (by omega) (by rw [dec_low S _ hl61, h61]; decide)
  have hby : byB S (p + nm.size) 61 = true := by unfold byB; rw [h61, decide_eq_true (by omega)]; rfl
  have hep : p + (nm.size + 1) + T.size = p + Wr.size := by omega
  rw [← hT] at hMt hep
  obtain ⟨n1, n2, n3, n4⟩ := numE_read hn hMt (by rw [hep]; exact hst) h4
  have hsk2 : skE S (p + nm.size + 1) = p + (nm.size + 1) := by rw [Nat.add_assoc]; exact skE_not n3 n4
  refine ⟨?_, fun hck => ?_, hpl, ?_⟩
  · unfold bindP
    rw [if_pos (by rw [kd_rn S p hpl, hd0]; exact f2), hsp, hMn.ext, hnm, if_neg (by simp), hsk1, hby, if_neg (by simp), hsk2, n1, hep]
  · have c1 : CkE S (p + (nm.size + 1)) := n2 (by rw [hep]; exact hck)
    have c2 : CkE S (p + nm.size) := CkE_low (by omega) hl61 (by rw [Nat.add_assoc]; exact c1)
    have := CkE_name hMn c2 nm.size 0 0 hnm (Nat.zero_le _) (by omega)
    rwa [Nat.add_zero] at this
  · rw [hd0, f2]; decide

/-! ### lists -/
theorem txL_cons (x y : Bd) (r : List Bd) : txL (x :: y :: r) = (wrB x).data.toList ++ [44, 32] ++ txL (y :: r) := by
  unfold txL
  rw [List.map_cons, List.map_cons, Lib.join_cons, Lib.join_cons]
  simp [Lib.joinTail, List.append_assoc]
theorem txB_cons (x y : Bd) (r : List Bd) : txB (x :: y :: r) = wrB x ++ ⟨#[44, 32]⟩ ++ txB (y :: r) := by
  unfold txB
  rw [txL_cons]
  have h1 := tx8_append ((wrB x).data.toList ++ [44, 32]) (txL (y :: r))
  have h2 := tx8_append (wrB x).data.toList [44, 32]
  unfold tx8 at h1 h2
  rw [h1, h2, ba_mk]
theorem txB_single (x : Bd) : txB [x] = wrB x := by
  unfold txB txL
  rw [List.map_cons, List.map_nil, Lib.join_one, ba_mk]
/-- What follows a list that is read. -/
def evT (S : ByteArray) (q : Nat) (l : List Bd) : List Bd × Nat × Int :=
  if q = S.size then (l, 0, 0) else if byB S q 44 = false then ([], q, 6) else if l.length = 64 then ([], q, 10) else evF S (64 - l.length) (skE S (q + 1)) l
theorem evF_bind {S : ByteArray} {f p : Nat} {l : List Bd} {x : Bd} {q : Nat} (hb : bindP S p = (x, q, 0)) (hf : l.length + (f + 1) = 64) : evF S (f + 1) p l = evT S q (l ++ [x]) := by
  unfold evF evT
  rw [hb]
  simp only [if_true]
  have e : 64 - (l ++ [x]).length = f := by simp; omega
  rw [e]
theorem ev_list {S : ByteArray} (h4 : S.size ≤ 4096) : ∀ (l : List Bd) (p f : Nat) (acc : List Bd), l ≠ [] → Nice l → MidE S (txB l) p → Stp S (p + (txB l).size) → acc.length + f = 64 → 0 < f →
    ((acc.length + l.length ≤ 64 → evF S f p acc = evT S (skE S (p + (txB l).size)) (acc ++ l)) ∧ (64 < acc.length + l.length → (evF S f p acc).2.2 = 10)) ∧ (CkE S (p + (txB l).size) → CkE S p) ∧ p < S.size ∧ kd (Utf8.decode S p).1 ≠ 3
  | [], _, _, _, h, _, _, _, _, _ => absurd rfl h
  | [x], p, f, acc, _, hN, hM, hst, hf, hf0 => by
    rw [txB_single] at hM hst ⊢
    obtain ⟨h1, h2⟩ := hN x (by simp)
    obtain ⟨b1, b2, b3, b4⟩ := bind_read h1 h2 hM hst h4
    obtain ⟨f, rfl⟩ : ∃ g, f = g + 1 := ⟨f - 1, by omega⟩
    exact ⟨⟨fun _ => evF_bind b1 hf, fun h => by simp at h; omega⟩, b2, b3, b4⟩
  | x :: y :: r, p, f, acc, _, hN, hM, hst, hf, hf0 => by
    rw [txB_cons] at hM hst ⊢
    obtain ⟨h1, h2⟩ := hN x (by simp)
    have hs2 : (⟨#[44, 32]⟩ : ByteArray).size = 2 := rfl
    obtain ⟨Wx, hWx⟩ : ∃ Wx, wrB x = Wx := ⟨_, rfl⟩
    obtain ⟨Tr, hTr⟩ : ∃ Tr, txB (y :: r) = Tr := ⟨_, rfl⟩
    rw [hWx, hTr] at hM hst ⊢
    have hz := hM.size
    have hsz : (Wx ++ ⟨#[44, 32]⟩ ++ Tr).size = Wx.size + 2 + Tr.size := by rw [ByteArray.size_append, ByteArray.size_append, hs2]
    have hg : ∀ i, (Wx ++ ⟨#[44, 32]⟩ ++ Tr).get! i = if i < Wx.size + 2 then (if i < Wx.size then Wx.get! i else (⟨#[44, 32]⟩ : ByteArray).get! (i - Wx.size)) else Tr.get! (i - (Wx.size + 2)) := fun i => by
      rw [get_app, get_app, ByteArray.size_append, hs2]
    have hrz : 0 < Tr.size := by
      rw [← hTr]
      have : (txB (y :: r)).size ≥ (wrB y).size := by
        cases r with
        | nil => rw [txB_single]; exact Nat.le_refl _
        | cons z r => rw [txB_cons, ByteArray.size_append, ByteArray.size_append]; omega
      have hw : (wrB y).size = y.1.size + 1 + (tx8 (itoa y.2)).size := by unfold wrB; rw [ByteArray.size_append, ByteArray.size_append]; rfl
      omega
    have hc1 : S.get! (p + Wx.size) = 44 := by
      rw [hM.get Wx.size (by omega), hg, if_pos (by omega), if_neg (by omega), Nat.sub_self]; rfl
    have hc2 : S.get! (p + Wx.size + 1) = 32 := by
      rw [Nat.add_assoc, hM.get (Wx.size + 1) (by omega), hg, if_pos (by omega), if_neg (by omega), Nat.add_sub_cancel_left]; rfl
    have hMx : MidE S (wrB x) p := by
      rw [hWx]
      exact ⟨by omega, fun i hi => by rw [hM.get i (by omega), hg, if_pos (by omega), if_pos hi], .inr (by rw [hc1]; decide)⟩
    have hMr : MidE S (txB (y :: r)) (p + (Wx.size + 2)) := by
      rw [hTr]
      exact hM.sub (by omega) (fun i hi => by rw [hg, if_neg (by omega)]; congr 1; omega)
    have hstx : Stp S (p + (wrB x).size) := by rw [hWx]; exact .inr ⟨by omega, .inl hc1⟩
    have hep : p + (Wx.size + 2) + Tr.size = p + (Wx ++ ⟨#[44, 32]⟩ ++ Tr).size := by omega
    obtain ⟨b1, b2, b3, b4⟩ := bind_read h1 h2 hMx hstx h4
    rw [hWx] at b1 b2
    have hl44 : (S.get! (p + Wx.size)).toNat < 128 := by rw [hc1]; decide
    have hl32 : (S.get! (p + Wx.size + 1)).toNat < 128 := by rw [hc2]; decide
    have hsk : skE S (p + Wx.size) = p + Wx.size := skE_not (by omega) (by rw [dec_low S _ hl44, hc1]; decide)
    rw [hsk] at b1
    have hby : byB S (p + Wx.size) 44 = true := by unfold byB; rw [hc1, decide_eq_true (by omega)]; rfl
    obtain ⟨f, rfl⟩ : ∃ g, f = g + 1 := ⟨f - 1, by omega⟩
    have hst1 := evF_bind b1 hf
    have hlen : (acc ++ [x]).length = acc.length + 1 := by simp
    unfold evT at hst1
    rw [if_neg (by omega), hby, if_neg (by simp), hlen] at hst1
    have hrest := fun (hf1 : 0 < f) => ev_list h4 (y :: r) (p + (Wx.size + 2)) f (acc ++ [x]) (by simp) (fun z hz => hN z (by simp at hz ⊢; right; exact hz)) hMr (by rw [hTr, hep]; exact hst) (by rw [hlen]; omega) hf1
    have hsk2 : 0 < f → skE S (p + Wx.size + 1) = p + (Wx.size + 2) := fun hf1 => by
      obtain ⟨_, _, r3, r4⟩ := hrest hf1
      rw [skE_blank (by omega) hc2, show p + Wx.size + 1 + 1 = p + (Wx.size + 2) by omega]
      exact skE_not r3 r4
    refine ⟨⟨fun hle => ?_, fun hgt => ?_⟩, fun hck => ?_, b3, b4⟩
    · have hf1 : 0 < f := by simp at hle; omega
      obtain ⟨⟨r1, _⟩, _⟩ := hrest hf1
      rw [if_neg (by simp at hle; omega), hsk2 hf1, show 64 - (acc.length + 1) = f by omega] at hst1
      rw [hst1, r1 (by simp at hle ⊢; omega), hTr, hep]
      simp
    · by_cases hf1 : 0 < f
      · obtain ⟨⟨_, r2⟩, _⟩ := hrest hf1
        rw [if_neg (by omega), hsk2 hf1, show 64 - (acc.length + 1) = f by omega] at hst1
        rw [hst1]
        exact r2 (by simp at hgt ⊢; omega)
      · rw [if_pos (by omega)] at hst1
        rw [hst1]
    · have c3 : CkE S (p + (Wx.size + 2)) := by
        have := (ev_list h4 (y :: r) (p + (Wx.size + 2)) 64 [] (by simp) (fun z hz => hN z (by simp at hz ⊢; right; exact hz)) hMr (by rw [hTr, hep]; exact hst) rfl (by omega)).2.1
        rw [hTr, hep] at this
        exact this hck
      have c2 : CkE S (p + Wx.size + 1) := CkE_low (by omega) hl32 (by rw [show p + Wx.size + 1 + 1 = p + (Wx.size + 2) by omega]; exact c3)
      exact b2 (CkE_low (by omega) hl44 c2)
end Go.Proofs.YtpdohdmpjaklgaaDoor

set_option linter.unusedSimpArgs false
set_option linter.unusedVariables false
namespace Go.Proofs.YtpdohdmpjaklgaaDoor
open Go.RowKit Go.Lib

theorem MidE.self (S : ByteArray) : MidE S S 0 := ⟨by omega, fun i _ => by rw [Nat.zero_add], .inl (by omega)⟩
theorem back_one (l : List Bd) (hN : Nice l) (hl : l.length ≤ 64) (h4 : (txB l).size ≤ 4096) : evR (txB l) = (l, 0, 0) := by
  by_cases h0 : l = []
  · subst h0
    have e : txB [] = ⟨#[]⟩ := by simp [txB, txL, Lib.join, List.intercalate]
    rw [e]; rfl
  · obtain ⟨S, hS⟩ : ∃ S, txB l = S := ⟨_, rfl⟩
    have hM : MidE S (txB l) 0 := by rw [hS]; exact MidE.self S
    have h := ev_list (S := S) (by rw [← hS]; exact h4) l 0 64 [] h0 hN hM (.inl (by rw [hS]; omega)) rfl (by omega)
    rw [hS, Nat.zero_add] at h
    obtain ⟨⟨e1, _⟩, e2, e3, e4⟩ := h
    rw [hS] at h4 ⊢
    have hk : skE S 0 = 0 := skE_not e3 e4
    have hc : (chk S).2 = 0 := by unfold chk; rw [e2 (CkE_end S) S.size (by omega)]
    unfold evR
    rw [if_neg (by omega), if_pos hc, hk, if_neg (by omega), e1 (by simp; exact hl)]
    unfold evT
    rw [skE_end, if_pos rfl]
    rfl
theorem back_two (l m : List Bd) (hNl : Nice l) (hNm : Nice m) (hl0 : l ≠ []) (hm0 : m ≠ []) (hl : l.length ≤ 64) (h4 : (txB l ++ ⟨#[32, 44, 32]⟩ ++ txB m).size ≤ 4096) :
    (l.length + m.length ≤ 64 → evR (txB l ++ ⟨#[32, 44, 32]⟩ ++ txB m) = (l ++ m, 0, 0)) ∧ (64 < l.length + m.length → (evR (txB l ++ ⟨#[32, 44, 32]⟩ ++ txB m)).2.2 = 10) := by
  obtain ⟨s, hs⟩ : ∃ s, txB l = s := ⟨_, rfl⟩
  obtain ⟨t, ht⟩ : ∃ t, txB m = t := ⟨_, rfl⟩
  rw [hs, ht] at h4 ⊢
  have hs3 : (⟨#[32, 44, 32]⟩ : ByteArray).size = 3 := rfl
  obtain ⟨S, hS⟩ : ∃ S, s ++ ⟨#[32, 44, 32]⟩ ++ t = S := ⟨_, rfl⟩
  have hsz : S.size = s.size + 3 + t.size := by rw [← hS, ByteArray.size_append, ByteArray.size_append, hs3]
  have hg : ∀ i, S.get! i = if i < s.size + 3 then (if i < s.size then s.get! i else (⟨#[32, 44, 32]⟩ : ByteArray).get! (i - s.size)) else t.get! (i - (s.size + 3)) := fun i => by
    rw [← hS, get_app, get_app, ByteArray.size_append, hs3]
  rw [hS] at h4 ⊢
  have g0 : S.get! s.size = 32 := by rw [hg, if_pos (by omega), if_neg (by omega), Nat.sub_self]; rfl
  have g1 : S.get! (s.size + 1) = 44 := by rw [hg, if_pos (by omega), if_neg (by omega), Nat.add_sub_cancel_left]; rfl
  have g2 : S.get! (s.size + 2) = 32 := by rw [hg, if_pos (by omega), if_neg (by omega), Nat.add_sub_cancel_left]; rfl
  have hMl : MidE S (txB l) 0 := by
    rw [hs]
    exact ⟨by omega, fun i hi => by rw [Nat.zero_add, hg, if_pos (by omega), if_pos hi], .inr (by rw [Nat.zero_add, g0]; decide)⟩
  have hMm : MidE S (txB m) (s.size + 3) := by
    rw [ht]
    exact ⟨by omega, fun i hi => by rw [hg, if_neg (by omega), Nat.add_sub_cancel_left], .inl (by omega)⟩
  have hstl : Stp S (0 + (txB l).size) := by rw [hs, Nat.zero_add]; exact .inr ⟨by omega, .inr g0⟩
  have hstm : Stp S (s.size + 3 + (txB m).size) := by rw [ht]; exact .inl (by omega)
  obtain ⟨⟨e1, _⟩, e2, e3, e4⟩ := ev_list h4 l 0 64 [] hl0 hNl hMl hstl rfl (by omega)
  rw [hs, Nat.zero_add] at e1 e2
  have hm1 := ev_list h4 m (s.size + 3) 64 [] hm0 hNm hMm hstm rfl (by omega)
  rw [ht] at hm1
  obtain ⟨_, c2, c3, c4⟩ := hm1
  have l0 : (S.get! s.size).toNat < 128 := by rw [g0]; decide
  have l1 : (S.get! (s.size + 1)).toNat < 128 := by rw [g1]; decide
  have l2 : (S.get! (s.size + 2)).toNat < 128 := by rw [g2]; decide
  have k1 : skE S s.size = s.size + 1 := by rw [skE_blank (by omega) g0]; exact skE_not (by omega) (by rw [dec_low S _ l1, g1]; decide)
  have k2 : skE S (s.size + 1 + 1) = s.size + 3 := by rw [skE_blank (by omega) g2]; exact skE_not c3 c4
  have hby : byB S (s.size + 1) 44 = true := by unfold byB; rw [g1, decide_eq_true (by omega)]; rfl
  have hk : skE S 0 = 0 := skE_not e3 e4
  have ce : S.size = s.size + 3 + t.size := hsz
  have ck3 : CkE S (s.size + 3) := c2 (by rw [← ce]; exact CkE_end S)
  have ck0 : CkE S 0 := e2 (CkE_low (by omega) l0 (CkE_low (by omega) l1 (CkE_low (by omega) l2 ck3)))
  have hc : (chk S).2 = 0 := by unfold chk; rw [ck0 S.size (by omega)]
  have hE : evR S = evT S (s.size + 1) l := by
    unfold evR
    rw [if_neg (by omega), if_pos hc, hk, if_neg (by omega), e1 (by simp; exact hl), k1]
    rfl
  have hmp : 0 < m.length := List.length_pos_iff.2 hm0
  rw [hE]
  unfold evT
  rw [if_neg (by omega), hby, if_neg (by simp)]
  by_cases h64 : l.length = 64
  · rw [if_pos h64]
    exact ⟨fun h => by omega, fun _ => rfl⟩
  · rw [if_neg h64, k2]
    obtain ⟨⟨r1, r2⟩, _⟩ := ev_list h4 m (s.size + 3) (64 - l.length) l hm0 hNm hMm hstm (by omega) (by omega)
    refine ⟨fun h => ?_, fun h => r2 h⟩
    rw [r1 h, ht, ← ce, skE_end]
    unfold evT
    rw [if_pos rfl]
end Go.Proofs.YtpdohdmpjaklgaaDoor

set_option linter.unusedSimpArgs false
set_option linter.unusedVariables false
namespace Go.Proofs.YtpdohdmpjaklgaaDoor
open Go.RowKit Go.Lib Go.Sort

/-- append, where the operation is guarded and wanted. -/
theorem append_wanted {P : Program} (w : World) {ops : Array Oper} {rest : List Oper} {o : Oper} {a : Act} {Q : Exit → Act → World → Prop} (hgd : Region.wanted o (yielded ops a.tmps) = true) (s x : Operand) (t : TypeId)
    (ho : o.op = .call { callee := .builtin .append, args := #[s, x], argTypes := #[t, t] })
    (base : Nat) (e : TypeId) (i : TypeInfo) (z : Value) (size bytes : Nat) (ht : P.underlying t = some (.slice e)) (hi : P.info? e = some i) (hz : i.zero = some z)
    (hsize : i.size = size) (hby : i.bytes = bytes) (hzs : z.cells.size = size) (hsz : 0 < size)
    (v : Value) (n : Nat) (xs : List Value) (hs : a.eval s = v) (hown : w.ownsRow base e size v n xs)
    (ad : Addr) (m c : Nat) (news : List Value) (hx : a.eval x = .slice (some ad) m c) (hl : news.length = m * size) (hnews : ∀ j u, news[j]? = some u → w.cell? (ad.add j) = some u) (h1 : ∀ u ∈ news, u.oneCell' = true)
    (h63 : n + m ≤ maxLen) (hbytes : (n + m) * bytes ≤ 140737488355328) (hbase : base ≤ w.heap.size)
    (h : ∀ v' w', w'.ownsRow base e size v' (n + m) (xs ++ news) → w.grownBy w' v.ownBlock → wpList P ops Q rest (a.put o.dst v') w') : wpList P ops Q (o :: rest) a w := by
  unfold wpList
  rw [if_pos hgd]
  exact .inl (wp_append_own w s x t ho base e i z size bytes ht hi hz hsize hby hzs hsz v n xs hs hown ad m c news hx hl hnews h1 h63 hbytes hbase fun v' w' h2 h3 _ => h v' w' h2 h3)
/-- A list that lay in blocks below B stands, where only a block from B on is written. -/
theorem Bds.grow8 {w8 w9 W : World} {ao : Option Addr} {cap : Nat} {l : List Bd} {o : Option Nat} (h9 : Bds w9 ao cap l) (h8 : l = [] ∨ ∃ b o, ao = some ⟨b, o, none⟩ ∧ b < w8.heap.size ∧ ∀ i, i < l.length → BdAt w8 b (o + i * 2) (l.getD i bd0)) (hg : w9.grownBy W o) (ho : ∀ k, o = some k → w8.heap.size ≤ k) : Bds W ao cap l := by
  refine ⟨h9.1, ?_⟩
  rcases h8 with h | ⟨b, p, e, hb, _⟩
  · exact .inl h
  · rcases h9.2 with h | ⟨b', p', e', hb', hc⟩
    · exact .inl h
    · rw [e] at e'
      cases e'
      refine .inr ⟨b, p, e, by have := hg.size; omega, fun i hi => ?_⟩
      have hne : o ≠ some b := fun hh => by have := ho b hh; omega
      have hblk := hg.block b hb' (fun hh => hne hh.symm)
      exact ⟨(World.cell?_of_block (a := ⟨b, p + i * 2, none⟩) hblk).trans (hc i hi).c0, (World.cell?_of_block (a := ⟨b, p + i * 2 + 1, none⟩) hblk).trans (hc i hi).c1⟩
theorem txtR (ao : Option Addr) (cap : Nat) (l : List Bd) (T : ByteArray) (er : Int) (hX : txR l = (T, er)) (w : World) (hT : SpanCells w) (hP : Pows w) (hI : Bds w ao cap l) (hok : BdOk l) :
    Calls Tryd.prog 14 #[.slice ao l.length cap] w fun e W' => e = .returned (.tuple #[.string T, .int .i64 er]) ∧ Below w.heap.size w W' := by
  have := envText_any ao cap l w hT hP hI hok
  unfold TxP at this
  rw [hX] at this
  exact this
theorem readR (s : ByteArray) (L : List Bd) (p : Nat) (er : Int) (hX : evR s = (L, p, er)) (w : World) (hT : Tabs w) (hsz : s.size ≤ maxLen) :
    Calls Tryd.prog 17 #[.string s] w fun e W' => (∃ ao cap, e = .returned (.tuple #[.slice ao L.length cap, .int .i64 (p : Int), .int .i64 er]) ∧ Bds W' ao cap L) ∧ Below w.heap.size w W' := by
  refine (readE_any s w hT hsz).mono ?_
  rintro e W' ⟨⟨v, rfl, ho⟩, hb⟩
  rw [hX] at ho ⊢
  obtain ⟨a, c, rfl, hR, _⟩ := ho.read
  exact ⟨⟨a, c, rfl, hR⟩, hb⟩
theorem txR_cases (l : List Bd) (hok : BdOk l) : (∃ er, er ≠ 0 ∧ txR l = (⟨#[]⟩, er)) ∨ (txR l = (txB l, 0) ∧ Nice l ∧ l.length ≤ 64) := by
  by_cases h : txE l = 0
  · right
    refine ⟨by unfold txR; rw [if_pos h, ], ?_⟩
    unfold txE at h
    cases hn : l.any (fun x => !nameB x.1)
    · rw [hn, if_neg (by simp)] at h
      refine ⟨nice_of l hok hn, ?_⟩
      by_cases h64 : 64 < l.length
      · rw [if_pos h64] at h; exact absurd h (by decide)
      · omega
    · rw [hn, if_pos rfl] at h; exact absurd h (by decide)
  · left; exact ⟨txE l, h, by unfold txR; rw [if_neg h]⟩

set_option maxRecDepth 100000 in
set_option maxHeartbeats 8000000 in
theorem envBack.walk (w : World) (ao bo : Option Addr) (ca cb : Nat) (l m : List Bd) (hT : Tabs w) (hP : Pows w) (hI : Bds w ao ca l) (hJ : Bds w bo cb m) (hok : BdOk l) (hom : BdOk m) (hr : Rch l) (hrm : Rch m) :
    Calls Tryd.prog 5 #[.slice ao l.length ca, .slice bo m.length cb] w fun e W' => e = .returned (.bool true) ∧ Below w.heap.size w W' := by
  obtain ⟨⟨hl1, hl2, hl3⟩, _⟩ := id hI
  obtain ⟨⟨hm1, hm2, hm3⟩, _⟩ := id hJ
  unfold maxLen at hl2 hm2
  have HI : Hid (Bds w ao ca l) := hI
  have HJ : Hid (Bds w bo cb m) := hJ
  have HT : Hid (Tabs w) := hT
  have HP : Hid (Pows w) := hP
  have HK : Hid (BdOk l) := hok
  have HKm : Hid (BdOk m) := hom
  have HNm : Hid (bo = none → m.length = 0 ∧ cb = 0) := fun h => by have := hm3 h; omega
  have hcl := txR_cases l hok
  have hcm := txR_cases m hom
  clear hI hJ hT hP hok hom hl3 hm3
  obtain ⟨i0, hi, hz0, hz1, hz2⟩ := info_parts Tryd.infoBind
  rcases hcl with ⟨er, her, hX⟩ | ⟨hX, hNl, hl64⟩
  · have he1 : (er != 0) = true := by simp [her]
    have he2 : (er == 0) = false := by simp [her]
    have HX : Hid (txR l = (⟨#[]⟩, er)) := hX
    obtain ⟨T2, e2, hY⟩ : ∃ T2 e2, txR m = (T2, e2) := ⟨_, _, rfl⟩
    have HY : Hid (txR m = (T2, e2)) := hY
    clear hX hY her hcm
    go_enter Tryd.func5, Tryd.ntmps5
    go_wp2_with fail
    refine (awake_any _).mono ?_
    rintro e w1 ⟨rfl, b1⟩
    go_wp2_with fail
    refine (copiedR ao ca l hr _ (HI.out.below b1)).mono ?_
    rintro e w2 ⟨⟨a2, c2, rfl, R2⟩, b2⟩
    have G2 := b1.trans (b2.mono b1.size)
    go_wp2_with fail
    refine (txtR a2 c2 l _ _ HX.out _ (HT.out.below G2).spans (HP.out.below G2) R2 HK.out).mono ?_
    rintro e w3 ⟨rfl, b3⟩
    have G3 := G2.trans (b3.mono G2.size)
    go_wp2_with fail
    refine (copiedR _ cb m hrm _ (HJ.out.below G3)).mono ?_
    rintro e w4 ⟨⟨a4, c4, rfl, R4⟩, b4⟩
    have G4 := G3.trans (b4.mono G3.size)
    go_wp2_with fail
    refine (txtR a4 c4 m _ _ HY.out _ (HT.out.below G4).spans (HP.out.below G4) R4 HKm.out).mono ?_
    rintro e w5 ⟨rfl, b5⟩
    go_wp2
    go_ret
    exact ⟨rfl, G4.trans (b5.mono G4.size)⟩
  · obtain ⟨s, hs⟩ : ∃ s, txB l = s := ⟨_, rfl⟩
    rw [hs] at hX
    have HX : Hid (txR l = (s, 0)) := hX
    have hs0 := txB_size l hNl
    rw [hs] at hs0
    have hsml : s.size ≤ maxLen := by unfold maxLen; omega
    obtain ⟨t, e2, hY⟩ : ∃ t e2, txR m = (t, e2) := ⟨_, _, rfl⟩
    have HY : Hid (txR m = (t, e2)) := hY
    by_cases h4 : 4096 < s.size
    · have h4I : (4096 : Int) < (s.size : Int) := by omega
      clear hX hY hcm h4
      go_enter Tryd.func5, Tryd.ntmps5
      go_wp2_with fail
      refine (awake_any _).mono ?_
      rintro e w1 ⟨rfl, b1⟩
      go_wp2_with fail
      refine (copiedR ao ca l hr _ (HI.out.below b1)).mono ?_
      rintro e w2 ⟨⟨a2, c2, rfl, R2⟩, b2⟩
      have G2 := b1.trans (b2.mono b1.size)
      go_wp2_with fail
      refine (txtR a2 c2 l _ _ HX.out _ (HT.out.below G2).spans (HP.out.below G2) R2 HK.out).mono ?_
      rintro e w3 ⟨rfl, b3⟩
      have G3 := G2.trans (b3.mono G2.size)
      go_wp2_with fail
      refine (copiedR _ cb m hrm _ (HJ.out.below G3)).mono ?_
      rintro e w4 ⟨⟨a4, c4, rfl, R4⟩, b4⟩
      have G4 := G3.trans (b4.mono G3.size)
      go_wp2_with fail
      refine (txtR a4 c4 m _ _ HY.out _ (HT.out.below G4).spans (HP.out.below G4) R4 HKm.out).mono ?_
      rintro e w5 ⟨rfl, b5⟩
      go_wp2
      go_ret
      exact ⟨rfl, G4.trans (b5.mono G4.size)⟩
    · have h4I : ¬ (4096 : Int) < (s.size : Int) := by omega
      have hR1 := back_one l hNl hl64 (by rw [hs]; omega)
      rw [hs] at hR1
      have HR1 : Hid (evR s = (l, 0, 0)) := hR1
      have HNl : Hid (Nice l) := hNl
      have HS : Hid (txB l = s) := hs
      have hts : t.size ≤ 102 * 64 := by
        rcases hcm with ⟨er, _, hh⟩ | ⟨hh, hn, hl⟩
        · rw [hh] at hY; cases hY; exact Nat.zero_le _
        · rw [hh] at hY; cases hY
          have := txB_size m hn
          omega
      have h5 : e2 = 0 → t = txB m ∧ Nice m ∧ m.length ≤ 64 := fun h => by
        rcases hcm with ⟨er, h0, hh⟩ | ⟨hh, hn, hl⟩
        · rw [hh] at hY; cases hY; exact absurd h h0
        · rw [hh] at hY; cases hY; exact ⟨rfl, hn, hl⟩
      have H5 : Hid (e2 = 0 → t = txB m ∧ Nice m ∧ m.length ≤ 64) := h5
      clear hX hY hcm hR1 hNl h5 hs
      by_cases hbig : e2 = 0 ∧ l.length ≠ 0 ∧ m.length ≠ 0 ∧ s.size + t.size + 3 ≤ 4096
      · obtain ⟨h20, hl0, hm0, hsum⟩ := hbig
        have e21 : (e2 != 0) = false := by simp [h20]
        have hlI : ((l.length : Int) == 0) = false := by rw [beq_eq_false_iff_ne]; omega
        have hmI : ((m.length : Int) == 0) = false := by rw [beq_eq_false_iff_ne]; omega
        have hsI : ¬ (4096 : Int) < (s.size : Int) + (t.size : Int) + 3 := by omega
        obtain ⟨htm, hNm, hm64⟩ := H5.out h20
        have hjs : (txB l ++ ⟨#[32, 44, 32]⟩ ++ txB m).size = s.size + 3 + t.size := by
          rw [ByteArray.size_append, ByteArray.size_append, HS.out, ← htm]; rfl
        have hb2 := back_two l m HNl.out hNm (fun h => hl0 (by rw [h]; rfl)) (fun h => hm0 (by rw [h]; rfl)) hl64 (by rw [hjs]; omega)
        rw [HS.out, ← htm] at hb2 hjs
        have e3 : (⟨#[32, 44, 32]⟩ : ByteArray).size = 3 := rfl
        have q0 : (⟨#[32, 44, 32]⟩ : ByteArray).size = 3 := rfl
        have q1 : ∀ W, (Op.stringOp .add s ⟨#[32, 44, 32]⟩).run Tryd.prog W = .ok (.string (s ++ ⟨#[32, 44, 32]⟩)) W := fun W => add_ok s _ (by rw [e3]; omega) W
        have q2 : ∀ W, (Op.stringOp .add (s ++ ⟨#[32, 44, 32]⟩) t).run Tryd.prog W = .ok (.string (s ++ ⟨#[32, 44, 32]⟩ ++ t)) W := fun W => add_ok _ t (by rw [ByteArray.size_append, e3]; omega) W
        have a1 : s.size + (⟨#[32, 44, 32]⟩ : ByteArray).size ≤ 9223372036854775807 := by rw [e3]; omega
        have a2 : (s ++ (⟨#[32, 44, 32]⟩ : ByteArray)).size + t.size ≤ 9223372036854775807 := by rw [ByteArray.size_append, e3]; omega
        obtain ⟨J, hJ⟩ : ∃ J, s ++ ⟨#[32, 44, 32]⟩ ++ t = J := ⟨_, rfl⟩
        rw [hJ] at hb2 hjs q2
        have hJm : J.size ≤ maxLen := by unfold maxLen; omega
        have HB2 : Hid ((l.length + m.length ≤ 64 → evR J = (l ++ m, 0, 0)) ∧ (64 < l.length + m.length → (evR J).2.2 = 10)) := hb2
        obtain ⟨ad, hbo⟩ : ∃ ad, bo = some ad := by
          cases bo with
          | none => exact absurd (HNm.out rfl).1 hm0
          | some ad => exact ⟨ad, rfl⟩
        subst hbo
        clear h20 hl0 hm0 hsum htm hNm hb2
        have pre : True := trivial
        by_cases hov : 64 < l.length + m.length
        · have hovI : (64 : Int) < (l.length : Int) + (m.length : Int) := by omega
          have h10 := HB2.out.2 hov
          obtain ⟨JL, jp, je, hJE⟩ : ∃ JL jp je, evR J = (JL, jp, je) := ⟨_, _, _, rfl⟩
          rw [hJE] at h10
          simp only at h10
          subst h10
          have HJE : Hid (evR J = (JL, jp, 10)) := hJE
          clear hJE hov
          go_enter Tryd.func5, Tryd.ntmps5
          go_wp2_with fail
          refine (awake_any _).mono ?_
          rintro e w1 ⟨rfl, b1⟩
          go_wp2_with fail
          refine (copiedR ao ca l hr _ (HI.out.below b1)).mono ?_
          rintro e w2 ⟨⟨a2, c2, rfl, R2⟩, b2⟩
          have G2 := b1.trans (b2.mono b1.size)
          go_wp2_with fail
          refine (txtR a2 c2 l _ _ HX.out _ (HT.out.below G2).spans (HP.out.below G2) R2 HK.out).mono ?_
          rintro e w3 ⟨rfl, b3⟩
          have G3 := G2.trans (b3.mono G2.size)
          go_wp2_with fail
          refine (copiedR _ cb m hrm _ (HJ.out.below G3)).mono ?_
          rintro e w4 ⟨⟨a4, c4, rfl, R4⟩, b4⟩
          have G4 := G3.trans (b4.mono G3.size)
          go_wp2_with fail
          refine (txtR a4 c4 m _ _ HY.out _ (HT.out.below G4).spans (HP.out.below G4) R4 HKm.out).mono ?_
          rintro e w5 ⟨rfl, b5⟩
          have G5 := G4.trans (b5.mono G4.size)
          have HG5 : Hid (Below w.heap.size w w5) := G5
          clear b1 b2 b3 b4 b5 G2 G3 G4 G5 R2 R4
          go_wp2_with fail
          refine (readR s l 0 0 HR1.out _ (HT.out.below HG5.out) hsml).mono ?_
          rintro e w6 ⟨⟨a6, c6, rfl, R6⟩, b6⟩
          have G6 := HG5.out.trans (b6.mono HG5.out.size)
          go_wp2_with fail
          refine (same_any a6 ao c6 ca l l _ R6 (HI.out.below G6)).mono ?_
          rw [decide_eq_true rfl]
          rintro e w7 ⟨rfl, b7⟩
          have G7 := G6.trans (b7.mono G6.size)
          go_wp2_with fail
          refine (readR J JL jp 10 HJE.out _ (HT.out.below G7) hJm).mono ?_
          rintro e w8 ⟨⟨a8, c8, rfl, R8⟩, b8⟩
          go_wp2
          go_ret
          exact ⟨rfl, G7.trans (b8.mono G7.size)⟩
        · have hovI : ¬ (64 : Int) < (l.length : Int) + (m.length : Int) := by omega
          have HJE : Hid (evR J = (l ++ m, 0, 0)) := HB2.out.1 (by omega)
          have hlm : l.length + m.length ≤ 64 := by omega
          clear hov
          go_enter Tryd.func5, Tryd.ntmps5
          go_wp2_with fail
          refine (awake_any _).mono ?_
          rintro e w1 ⟨rfl, b1⟩
          go_wp2_with fail
          refine (copiedR ao ca l hr _ (HI.out.below b1)).mono ?_
          rintro e w2 ⟨⟨a2, c2, rfl, R2⟩, b2⟩
          have G2 := b1.trans (b2.mono b1.size)
          go_wp2_with fail
          refine (txtR a2 c2 l _ _ HX.out _ (HT.out.below G2).spans (HP.out.below G2) R2 HK.out).mono ?_
          rintro e w3 ⟨rfl, b3⟩
          have G3 := G2.trans (b3.mono G2.size)
          go_wp2_with fail
          refine (copiedR _ cb m hrm _ (HJ.out.below G3)).mono ?_
          rintro e w4 ⟨⟨a4, c4, rfl, R4⟩, b4⟩
          have G4 := G3.trans (b4.mono G3.size)
          go_wp2_with fail
          refine (txtR a4 c4 m _ _ HY.out _ (HT.out.below G4).spans (HP.out.below G4) R4 HKm.out).mono ?_
          rintro e w5 ⟨rfl, b5⟩
          have G5 := G4.trans (b5.mono G4.size)
          have HG5 : Hid (Below w.heap.size w w5) := G5
          clear b1 b2 b3 b4 b5 G2 G3 G4 G5 R2 R4
          go_wp2_with fail
          refine (readR s l 0 0 HR1.out _ (HT.out.below HG5.out) hsml).mono ?_
          rintro e w6 ⟨⟨a6, c6, rfl, R6⟩, b6⟩
          have G6 := HG5.out.trans (b6.mono HG5.out.size)
          go_wp2_with fail
          refine (same_any a6 ao c6 ca l l _ R6 (HI.out.below G6)).mono ?_
          rw [decide_eq_true rfl]
          rintro e w7 ⟨rfl, b7⟩
          have G7 := G6.trans (b7.mono G6.size)
          go_wp2_with fail
          refine (readR J (l ++ m) 0 0 HJE.out _ (HT.out.below G7) hJm).mono ?_
          rintro e w8 ⟨⟨a8, c8, rfl, R8⟩, b8⟩
          have G8 := G7.trans (b8.mono G7.size)
          go_wp2_with fail
          refine (copied_any ao ca l hr _ (HI.out.below G8)).mono ?_
          rintro e w9 ⟨⟨v9, rfl, o9⟩, b9⟩
          have G9 := G8.trans (b9.mono G8.size)
          have hb9 := b9.size
          obtain ⟨a9, c9, rfl⟩ := o9.form
          have HO9 : Hid (w9.ownsRow w8.heap.size 38 2 (.slice a9 l.length c9) l.length (bdCells l)) := o9
          have HS9 : Hid (∀ j u, (bdCells m)[j]? = some u → w9.cell? (ad.add j) = some u) := (HJ.out.below G9).src ad rfl
          have HLm : Hid ((bdCells m).length = m.length * 2) := bdCells_length m
          have hwz8 : w.heap.size ≤ w8.heap.size := G8.size
          have HR8g : Hid (∀ W, w9.grownBy W (Value.slice a9 l.length c9).ownBlock → Bds W a8 c8 (l ++ m)) := fun W hg => Bds.grow8 (R8.below b9) R8.2 hg (fun k hk => ownsRow_blkE HO9.out k hk)
          have HG9 : Hid (Below w.heap.size w w9) := G9
          clear o9 R8 G6 G7 G8 G9 b6 b7 b8 b9 R6
          have cSm : Hid (∀ W av cv, Bds W a8 c8 (l ++ m) → Bds W av cv (l ++ m) → Calls Tryd.prog 16 #[.slice a8 (l ++ m).length c8, .slice av (l ++ m).length cv] W fun e W' => e = .returned (.bool true) ∧ Below W.heap.size W W') := fun W av cv h1 h2 => by
            have := same_any a8 av c8 cv (l ++ m) (l ++ m) W h1 h2
            rw [decide_eq_true rfl] at this; exact this
          have hlmL : (l ++ m).length = l.length + m.length := List.length_append
          rw [hlmL] at cSm
          go_wp2_with (first | (at_builtin; refine append_wanted _ (by rfl) _ _ 22 rfl w8.heap.size 38 i0 (.agg #[.string ⟨#[]⟩, .int .i64 0]) 2 24 Tryd.underlying22 hi hz0 hz1 hz2 rfl (by decide) _ _ _ rfl HO9.out ad m.length cb (bdCells m) rfl HLm.out HS9.out (bdCells_one m) (by unfold maxLen; omega) (by omega) (by omega) ?_; intro v' w10 hown hgrow; have HO10 : Hid (OwnB w10 w8.heap.size v' (l ++ m)) := (by show World.ownsRow _ _ _ _ _ _ _; rw [bdCells_append, hlmL]; exact hown); obtain ⟨av, cv, hvv, hR10, _⟩ := HO10.out.read; rw [hlmL] at hvv; subst hvv; have HG10 : Hid (Below w.heap.size w w10) := (HG9.out.grown hgrow (by have := HG9.out.size; omega) (fun k hk => by have := ownsRow_blkE HO9.out k hk; have := hwz8; omega)); have HR10a : Hid (Bds w10 a8 c8 (l ++ m)) := (HR8g.out w10 hgrow)) | (go_at_call 16; refine (cSm.out _ _ _ HR10a.out hR10).mono ?_; rintro e w11 ⟨rfl, b11⟩))
          go_ret
          exact ⟨rfl, HG10.out.trans (b11.mono HG10.out.size)⟩
      · have hcase : (e2 != 0) = true ∨ ((e2 != 0) = false ∧ ((l.length : Int) == 0) = true) ∨ ((e2 != 0) = false ∧ ((l.length : Int) == 0) = false ∧ ((m.length : Int) == 0) = true) ∨ ((e2 != 0) = false ∧ ((l.length : Int) == 0) = false ∧ ((m.length : Int) == 0) = false ∧ (4096 : Int) < (s.size : Int) + (t.size : Int) + 3) := by
          by_cases g1 : e2 = 0
          · have g1' : (e2 != 0) = false := by simp [g1]
            right
            by_cases g2 : l.length = 0
            · left; exact ⟨g1', by rw [beq_iff_eq]; omega⟩
            · right
              by_cases g3 : m.length = 0
              · left; exact ⟨g1', by rw [beq_eq_false_iff_ne]; omega, by rw [beq_iff_eq]; omega⟩
              · right
                exact ⟨g1', by rw [beq_eq_false_iff_ne]; omega, by rw [beq_eq_false_iff_ne]; omega, by have : ¬ (s.size + t.size + 3 ≤ 4096) := fun g4 => hbig ⟨g1, g2, g3, g4⟩; omega⟩
          · left; simp [g1]
        clear hbig
        have h5000 : (s.size : Int) + (t.size : Int) ≤ 20000 := by omega
        rcases hcase with t1 | ⟨t1, t2⟩ | ⟨t1, t2, t3⟩ | ⟨t1, t2, t3, t4⟩
        all_goals
          go_enter Tryd.func5, Tryd.ntmps5
          go_wp2_with fail
          refine (awake_any _).mono ?_
          rintro e w1 ⟨rfl, b1⟩
          go_wp2_with fail
          refine (copiedR ao ca l hr _ (HI.out.below b1)).mono ?_
          rintro e w2 ⟨⟨a2, c2, rfl, R2⟩, b2⟩
          have G2 := b1.trans (b2.mono b1.size)
          go_wp2_with fail
          refine (txtR a2 c2 l _ _ HX.out _ (HT.out.below G2).spans (HP.out.below G2) R2 HK.out).mono ?_
          rintro e w3 ⟨rfl, b3⟩
          have G3 := G2.trans (b3.mono G2.size)
          go_wp2_with fail
          refine (copiedR bo cb m hrm _ (HJ.out.below G3)).mono ?_
          rintro e w4 ⟨⟨a4, c4, rfl, R4⟩, b4⟩
          have G4 := G3.trans (b4.mono G3.size)
          go_wp2_with fail
          refine (txtR a4 c4 m _ _ HY.out _ (HT.out.below G4).spans (HP.out.below G4) R4 HKm.out).mono ?_
          rintro e w5 ⟨rfl, b5⟩
          have G5 := G4.trans (b5.mono G4.size)
          have HG5 : Hid (Below w.heap.size w w5) := G5
          clear b1 b2 b3 b4 b5 G2 G3 G4 G5 R2 R4
          go_wp2_with fail
          refine (readR s l 0 0 HR1.out _ (HT.out.below HG5.out) hsml).mono ?_
          rintro e w6 ⟨⟨a6, c6, rfl, R6⟩, b6⟩
          have G6 := HG5.out.trans (b6.mono HG5.out.size)
          go_wp2_with fail
          refine (same_any a6 ao c6 ca l l _ R6 (HI.out.below G6)).mono ?_
          rw [decide_eq_true rfl]
          rintro e w7 ⟨rfl, b7⟩
          have G7 := G6.trans (b7.mono G6.size)
          go_wp2
          go_ret
          exact ⟨rfl, G7⟩
end Go.Proofs.YtpdohdmpjaklgaaDoor
