/-
  EmPure, EmTok, EmNest, EmRun, EmIn, EmUp, EmJoin.
-/
import Derived.Test.YtaennaoakopgfaaDoorMGRd
import Derived.Test.YtaennaoakopgfaaDoorMGSgR
import Derived.Test.YtaennaoakopgfaaDoorMGDc
set_option linter.unusedSimpArgs false
set_option linter.unusedVariables false
namespace Go.Proofs.YtaennaoakopgfaaDoor
open Go.Lib

/-- s stands in S from d on; behind it a bracket that closes, or a blank. -/
structure Mid (S s : ByteArray) (d : Nat) : Prop where
  size : d + s.size < S.size
  get : ∀ i, i < s.size → S.get! (d + i) = s.get! i
  stop : S.get! (d + s.size) = 41 ∨ S.get! (d + s.size) = 32

theorem Mid.low {S s : ByteArray} {d : Nat} (h : Mid S s d) : (S.get! (d + s.size)).toNat < 64 := by
  rcases h.stop with e | e <;> rw [e] <;> decide
theorem dN1 (n b0 x1 x2 x3 y1 y2 y3 : Nat) (hx : x1 / 64 = 0) : decodeN n b0 x1 x2 x3 = decodeN 1 b0 y1 y2 y3 := by
  unfold decodeN
  by_cases h0 : b0 < 128
  · rw [if_pos h0, if_pos h0]
  · rw [if_neg h0, if_neg h0, if_neg (fun c => by omega), if_neg (fun c => by omega), if_neg (fun c => by omega), if_neg (fun c => by omega), if_neg (fun c => by omega), if_neg (fun c => by omega)]
theorem dN2 (n b0 b1 x2 x3 y2 y3 : Nat) (hn : 1 < n) (hx : x2 / 64 = 0) : decodeN n b0 b1 x2 x3 = decodeN 2 b0 b1 y2 y3 := by
  have a1 : (1 < n) = True := by simp; omega
  have a2 : (1 < 2) = True := by simp
  have a3 : ¬ (2 < n ∧ x2 / 64 = 2) := fun c => by omega
  have a4 : ¬ (2 < 2 ∧ y2 / 64 = 2) := fun c => by omega
  unfold decodeN
  simp only [a1, a2, a3, a4, false_and, and_false, if_false]
theorem dN3 (n b0 b1 b2 x3 y3 : Nat) (hn : 2 < n) (hx : x3 / 64 = 0) : decodeN n b0 b1 b2 x3 = decodeN 3 b0 b1 b2 y3 := by
  have a1 : (1 < n) = True := by simp; omega
  have a2 : (2 < n) = True := by simp; omega
  have a3 : (1 < 3) = True := by simp
  have a4 : (2 < 3) = True := by simp
  have a5 : ¬ (3 < n ∧ x3 / 64 = 2) := fun c => by omega
  have a6 : ¬ (3 < 3 ∧ y3 / 64 = 2) := fun c => by omega
  unfold decodeN
  simp only [a1, a2, a3, a4, a5, a6, false_and, and_false, if_false]
theorem dN4 (n m b0 b1 b2 b3 : Nat) (hn : 3 < n) (hm : 3 < m) : decodeN n b0 b1 b2 b3 = decodeN m b0 b1 b2 b3 := by
  unfold decodeN
  have a1 : (1 < n) = True := by simp; omega
  have a2 : (2 < n) = True := by simp; omega
  have a3 : (3 < n) = True := by simp; omega
  have c1 : (1 < m) = True := by simp; omega
  have c2 : (2 < m) = True := by simp; omega
  have c3 : (3 < m) = True := by simp; omega
  simp only [a1, a2, a3, c1, c2, c3]
theorem Mid.dec {S s : ByteArray} {d : Nat} (h : Mid S s d) {p : Nat} (hp : p < s.size) : Utf8.decode S (d + p) = Utf8.decode s p := by
  have hl := h.low
  have hz := h.size
  rw [decode_at, decode_at, h.get p hp]
  have g : ∀ i, p + i < s.size → S.get! (d + p + i) = s.get! (p + i) := fun i hi => by rw [Nat.add_assoc]; exact h.get (p + i) hi
  have e : ∀ i, p + i = s.size → (S.get! (d + p + i)).toNat / 64 = 0 := fun i hi => by
    have : d + p + i = d + s.size := by omega
    rw [this]; omega
  have c : s.size - p = 1 ∨ s.size - p = 2 ∨ s.size - p = 3 ∨ 4 ≤ s.size - p := by omega
  rcases c with c | c | c | c
  · rw [c]; exact dN1 _ _ _ _ _ _ _ _ (e 1 (by omega))
  · rw [c, g 1 (by omega)]; exact dN2 _ _ _ _ _ _ _ (by omega) (e 2 (by omega))
  · rw [c, g 1 (by omega), g 2 (by omega)]; exact dN3 _ _ _ _ _ _ (by omega) (e 3 (by omega))
  · rw [g 1 (by omega), g 2 (by omega), g 3 (by omega)]; exact dN4 _ _ _ _ _ _ (by omega) (by omega)
/-- What stands behind s. -/
theorem Mid.behind {S s : ByteArray} {d : Nat} (h : Mid S s d) : (Utf8.decode S (d + s.size)).1 = 41 ∨ (Utf8.decode S (d + s.size)).1 = 32 := by
  rcases h.stop with e | e
  · left; rw [decode_at, e]; unfold decodeN; rfl
  · right; rw [decode_at, e]; unfold decodeN; rfl
theorem ba_get (s : ByteArray) (k : Nat) (h : k < s.size) : s.data.toList[k]? = some (s.get! k) := by
  have hl : s.data.toList.length = s.size := (size_eq s).symm
  rw [List.getElem?_eq_getElem (by omega), Utf8W.get!_of_lt s k h]
  rfl
theorem Mid.ext {S s : ByteArray} {d : Nat} (h : Mid S s d) {p q : Nat} (hpq : p ≤ q) (hq : q ≤ s.size) : S.extract (d + p) (d + q) = s.extract p q := by
  have hz := h.size
  apply ByteArray.ext
  apply Array.ext'
  rw [extract_data, extract_data]
  apply List.ext_getElem?
  intro i
  rw [List.getElem?_take, List.getElem?_take, show d + q - (d + p) = q - p by omega]
  by_cases hi : i < q - p
  · rw [if_pos hi, if_pos hi, List.getElem?_drop, List.getElem?_drop, ba_get s (p + i) (by omega), show d + p + i = d + (p + i) by omega, ba_get S (d + (p + i)) (by omega), h.get (p + i) (by omega)]
  · rw [if_neg hi, if_neg hi]

theorem Mid.skip {S s : ByteArray} {d : Nat} (h : Mid S s d) : ∀ (f p : Nat), p ≤ s.size → s.size ≤ p + f → psSkip S (f + (S.size - s.size)) (d + p) = if psSkip s f p < s.size then d + psSkip s f p else psSkip S (S.size - s.size) (d + s.size) := by
  have hz := h.size
  have fuel : ∀ (f g p : Nat), S.size ≤ p + f → S.size ≤ p + g → psSkip S f p = psSkip S g p := by
    intro f
    induction f with
    | zero =>
      intro g p h1 h2
      cases g with
      | zero => rfl
      | succ g => simp only [psSkip]; rw [if_neg (by omega)]
    | succ f ih =>
      intro g p h1 h2
      cases g with
      | zero => simp only [psSkip]; rw [if_neg (by omega)]
      | succ g =>
        simp only [psSkip]
        by_cases hp : p < S.size
        · rw [if_pos hp, if_pos hp]
          by_cases hk : kd (Utf8.decode S p).1 = 3
          · rw [if_pos hk, if_pos hk]
            have := width_pos S p hp
            exact ih g _ (by omega) (by omega)
          · rw [if_neg hk, if_neg hk]
        · rw [if_neg hp, if_neg hp]
  intro f
  induction f with
  | zero =>
    intro p hp hf
    have e : p = s.size := by omega
    subst e
    have e0 : psSkip s 0 s.size = s.size := rfl
    rw [e0, if_neg (Nat.lt_irrefl _), Nat.zero_add]
  | succ f ih =>
    intro p hp hf
    by_cases hlt : p < s.size
    · rw [show f + 1 + (S.size - s.size) = (f + (S.size - s.size)) + 1 by omega]
      have hS : psSkip S ((f + (S.size - s.size)) + 1) (d + p) = if kd (Utf8.decode s p).1 = 3 then psSkip S (f + (S.size - s.size)) (d + p + (Utf8.decode s p).2) else d + p := by
        simp only [psSkip]
        rw [if_pos (by omega), h.dec hlt]
      have hs' : psSkip s (f + 1) p = if kd (Utf8.decode s p).1 = 3 then psSkip s f (p + (Utf8.decode s p).2) else p := by
        simp only [psSkip]
        rw [if_pos hlt]
      rw [hS, hs']
      by_cases hk : kd (Utf8.decode s p).1 = 3
      · rw [if_pos hk, if_pos hk]
        have hw := width_pos s p hlt
        have hw2 := dec_le s p hlt
        have := ih (p + (Utf8.decode s p).2) hw2 (by omega)
        rw [show d + p + (Utf8.decode s p).2 = d + (p + (Utf8.decode s p).2) by omega]
        exact this
      · rw [if_neg hk, if_neg hk, if_pos hlt]
    · have e : p = s.size := by omega
      subst e
      have e0 : psSkip s (f + 1) s.size = s.size := by simp only [psSkip]; rw [if_neg (Nat.lt_irrefl _)]
      rw [e0, if_neg (Nat.lt_irrefl _)]
      exact fuel _ _ _ (by omega) (by omega)
end Go.Proofs.YtaennaoakopgfaaDoor

set_option linter.unusedSimpArgs false
set_option linter.unusedVariables false
namespace Go.Proofs.YtaennaoakopgfaaDoor
open Go.Lib

set_option maxRecDepth 100000 in
theorem em_on : onB 41 = false ∧ onB 32 = false ∧ digZ 41 = 0 ∧ digZ 32 = 0 ∧ kd 41 = 4 ∧ kd 32 = 3 := by decide +kernel
theorem Mid.off {S s : ByteArray} {d : Nat} (h : Mid S s d) : onB (Utf8.decode S (d + s.size)).1 = false ∧ digZ (Utf8.decode S (d + s.size)).1 = 0 := by
  rcases h.behind with e | e <;> rw [e]
  · exact ⟨em_on.1, em_on.2.2.1⟩
  · exact ⟨em_on.2.1, em_on.2.2.2.1⟩
theorem Mid.sp {S s : ByteArray} {d : Nat} (h : Mid S s d) : ∀ (f g p : Nat), p ≤ s.size → s.size ≤ p + f → S.size ≤ d + p + g → spF S g (d + p) = d + spF s f p := by
  have hz := h.size
  have fin : ∀ f g, spF S g (d + s.size) = d + spF s f s.size := fun f g => by rw [spF_end s f _ (Nat.lt_irrefl _), spF_off S g _ hz h.off.1]
  intro f
  induction f with
  | zero =>
    intro g p hp hf hg
    have e : p = s.size := by omega
    subst e
    exact fin 0 g
  | succ f ih =>
    intro g p hp hf hg
    by_cases hlt : p < s.size
    · obtain ⟨g, rfl⟩ : ∃ k, g = k + 1 := ⟨g - 1, by omega⟩
      have hw := width_pos s p hlt
      have hw2 := dec_le s p hlt
      cases ho : onB (Utf8.decode s p).1
      · rw [spF_off s _ p hlt ho, spF_off S _ (d + p) (by omega) (by rw [h.dec hlt]; exact ho)]
      · rw [spF_on s f p hlt ho, spF_on S g (d + p) (by omega) (by rw [h.dec hlt]; exact ho), h.dec hlt, Nat.add_assoc]
        exact ih g _ hw2 (by omega) (by omega)
    · have e : p = s.size := by omega
      subst e
      exact fin (f + 1) g
def nsh (d : Nat) (r : Nat × Nat × Int) : Nat × Nat × Int := (r.1, if r.2.2 = 0 then d + r.2.1 else r.2.1, r.2.2)
theorem Mid.nu {S s : ByteArray} {d : Nat} (h : Mid S s d) (z : Int) (hz0 : z ≠ 0) : ∀ (f g p n : Nat), p ≤ s.size → s.size ≤ p + f → S.size ≤ d + p + g → nuF S z g (d + p) n = nsh d (nuF s z f p n) := by
  have hz := h.size
  have fin : ∀ f g n, nuF S z g (d + s.size) n = nsh d (nuF s z f s.size n) := fun f g n => by
    rw [nuF_end s z f _ n (Nat.lt_irrefl _), nuF_off S z g _ n (by rw [h.off.2]; exact fun c => hz0 c.symm)]
    rfl
  intro f
  induction f with
  | zero =>
    intro g p n hp hf hg
    have e : p = s.size := by omega
    subst e
    exact fin 0 g n
  | succ f ih =>
    intro g p n hp hf hg
    by_cases hlt : p < s.size
    · obtain ⟨g, rfl⟩ : ∃ k, g = k + 1 := ⟨g - 1, by omega⟩
      have hw := width_pos s p hlt
      have hw2 := dec_le s p hlt
      by_cases hk : digZ (Utf8.decode s p).1 = z
      · by_cases hl : 18446744073709551615 < n * 10 + (digV (Utf8.decode s p).1).toNat
        · rw [nuF_large s z f p n hlt hk hl, nuF_large S z g (d + p) n (by omega) (by rw [h.dec hlt]; exact hk) (by rw [h.dec hlt]; exact hl)]
          rfl
        · rw [nuF_on s z f p n hlt hk hl, nuF_on S z g (d + p) n (by omega) (by rw [h.dec hlt]; exact hk) (by rw [h.dec hlt]; exact hl), h.dec hlt, Nat.add_assoc]
          exact ih g _ _ hw2 (by omega) (by omega)
      · rw [nuF_off s z _ p n hk, nuF_off S z _ (d + p) n (by rw [h.dec hlt]; exact hk)]
        rfl
    · have e : p = s.size := by omega
      subst e
      exact fin (f + 1) g n
theorem Mid.num {S s : ByteArray} {d : Nat} (h : Mid S s d) {p : Nat} (hp : p ≤ s.size) : numI S ((d + p : Nat) : Int) = nsh d (numI s (p : Int)) := by
  have hz := h.size
  unfold numI
  rw [if_neg (by omega), if_neg (by omega), Int.toNat_natCast, Int.toNat_natCast]
  unfold numP
  by_cases hlt : p < s.size
  · rw [digZ_rn s p hlt, digZ_rn S (d + p) (by omega), h.dec hlt]
    by_cases hk : digZ (Utf8.decode s p).1 = 0
    · rw [if_pos hk, if_pos hk]; rfl
    · rw [if_neg hk, if_neg hk]
      exact h.nu _ hk _ _ _ _ hp (by omega) (by omega)
  · have e : p = s.size := by omega
    subst e
    have e1 : rn s s.size = -1 := by unfold rn; rw [if_neg (Nat.lt_irrefl _)]
    rw [e1, digZ_rn S (d + s.size) hz, if_pos h.off.2, if_pos (by decide)]
    rfl
theorem two_list (l : List UInt8) (c : UInt8) : hasPrefix l [c, c] = true ↔ l[0]? = some c ∧ l[1]? = some c := by
  unfold hasPrefix
  rcases l with _ | ⟨a, _ | ⟨b, l⟩⟩
  · simp
  · simp [List.isPrefixOf]
  · simp only [List.isPrefixOf, Bool.and_true, Bool.and_eq_true, beq_iff_eq, List.getElem?_cons_zero, List.getElem?_cons_succ, Option.some.injEq]
    constructor
    · rintro ⟨x, y⟩; exact ⟨x.symm, y.symm⟩
    · rintro ⟨x, y⟩; exact ⟨x.symm, y.symm⟩
theorem ba_at (s : ByteArray) (p i : Nat) : (s.extract p s.size).data.toList[i]? = if p + i < s.size then some (s.get! (p + i)) else none := by
  rw [extract_data]
  have hl : s.data.toList.length = s.size := (size_eq s).symm
  rw [List.getElem?_take, List.getElem?_drop]
  by_cases hi : p + i < s.size
  · rw [if_pos (by omega), if_pos hi, ba_get s _ hi]
  · rw [if_neg hi]
    split
    · exact List.getElem?_eq_none (by omega)
    · rfl
theorem two_iff (s : ByteArray) (p : Nat) (c : UInt8) : psTwo s p c = true ↔ p + 1 < s.size ∧ s.get! p = c ∧ s.get! (p + 1) = c := by
  unfold psTwo
  rw [two_list, ba_at, ba_at]
  by_cases h1 : p + 1 < s.size
  · rw [if_pos (by omega), if_pos h1]
    simp [h1]
  · rw [if_neg h1]
    simp [h1]
theorem Mid.two {S s : ByteArray} {d : Nat} (h : Mid S s d) {p : Nat} (hp : p < s.size) (c : UInt8) (h1 : c ≠ 41) (h2 : c ≠ 32) : psTwo S (d + p) c = psTwo s p c := by
  have hz := h.size
  rw [Bool.eq_iff_iff, two_iff, two_iff, h.get p hp, Nat.add_assoc]
  by_cases hl : p + 1 < s.size
  · rw [h.get (p + 1) hl]
    constructor
    · intro x; exact ⟨hl, x.2⟩
    · intro x; exact ⟨by omega, x.2⟩
  · have e : p + 1 = s.size := by omega
    constructor
    · rintro ⟨_, _, x⟩
      rw [e] at x
      rcases h.stop with y | y
      · exact absurd (x.symm.trans y) h1
      · exact absurd (x.symm.trans y) h2
    · intro x; omega
theorem Mid.sign {S s : ByteArray} {d : Nat} (h : Mid S s d) (pat : Bool) {p : Nat} (hp : p < s.size) (r : Int) : psSign S pat (d + p) r = psSign s pat p r := by
  unfold psSign
  rw [h.two hp 61 (by decide) (by decide), h.two hp 60 (by decide) (by decide), h.two hp 62 (by decide) (by decide)]
/-- The same token, d places on. -/
structure TkS (d : Nat) (t t' : Tk) : Prop where
  what : t'.what = t.what
  at_ : t'.from_ = d + t.from_
  n : t'.n = t.n
  err : t'.err = t.err
  to : (t.what = 48 → t.err = 0) → t'.to = d + t.to
/-- The same answer, d places on. -/
def PrS (d : Nat) : Pr Tk → Pr Tk → Prop
  | .ok t, .ok t' => TkS d t t'
  | .bad p e, .bad q e' => q = d + p ∧ e' = e
  | .out, .out => True
  | _, _ => False
theorem Mid.from_ {S s : ByteArray} {d : Nat} (h : Mid S s d) (pat : Bool) (m : Nat) {p : Nat} (hp : p < s.size) : PrS d (psFrom s pat m p) (psFrom S pat m (d + p)) := by
  have hz := h.size
  unfold psFrom
  rw [if_pos hp, if_pos (by omega), h.dec hp]
  unfold psAt
  by_cases k1 : kd (Utf8.decode s p).1 = 1
  · rw [if_pos k1, if_pos k1]
    obtain ⟨e1, e2, e3⟩ := span_in' s p hp k1
    obtain ⟨g1, g2, g3⟩ := span_in' S (d + p) (by omega) (by rw [h.dec hp]; exact k1)
    rw [e1, g1]
    simp only [Int.toNat_natCast]
    rw [h.sp s.size S.size p (by omega) (by omega) (by omega)]
    simp only [h.ext (Nat.le_of_lt e2) e3]
    exact ⟨rfl, rfl, rfl, rfl, fun _ => rfl⟩
  · rw [if_neg k1, if_neg k1]
    by_cases k2 : kd (Utf8.decode s p).1 = 2
    · rw [if_pos k2, if_pos k2, h.num (by omega)]
      refine ⟨rfl, rfl, rfl, rfl, fun h0 => ?_⟩
      have h0 := h0 rfl
      simp only at h0
      split at h0
      · cases h0
      · show (nsh d _).2.1 = _
        unfold nsh
        simp only
        rw [if_pos h0]
    · rw [if_neg k2, if_neg k2, h.sign pat hp]
      by_cases k4 : kd (Utf8.decode s p).1 = 4 ∧ 0 < (psSign s pat p (Utf8.decode s p).1).2
      · rw [if_pos k4, if_pos k4]
        exact ⟨rfl, rfl, rfl, rfl, fun _ => Nat.add_assoc _ _ _⟩
      · rw [if_neg k4, if_neg k4]
        exact ⟨rfl, rfl⟩
/-- A bracket that closes, as a token. -/
theorem close_at (S : ByteArray) (pat : Bool) (m e : Nat) (he : e < S.size) (h : S.get! e = 41) : psFrom S pat m e = .ok ⟨41, e, e + 1, 0, 0⟩ := by
  have hd : (Utf8.decode S e).1 = 41 := by rw [decode_at, h]; unfold decodeN; rfl
  have h2 : ∀ c : UInt8, c ≠ 41 → psTwo S e c = false := fun c hc => by
    cases hb : psTwo S e c
    · rfl
    · exact absurd (((two_iff S e c).1 hb).2.1.symm.trans h) hc
  have hsg : psSign S pat e 41 = (41, 1) := by
    unfold psSign
    rw [h2 61 (by decide), h2 60 (by decide), h2 62 (by decide)]
    simp only [Bool.false_eq_true, if_false]
    rw [if_neg (by decide), if_neg (fun c => absurd c.1 (by decide))]
    rfl
  have hdI : (((Utf8.decode S e).1 : Nat) : Int) = 41 := by rw [hd]; rfl
  unfold psFrom
  rw [if_pos he, hdI]
  unfold psAt
  rw [if_neg (by rw [em_on.2.2.2.2.1]; decide), if_neg (by rw [em_on.2.2.2.2.1]; decide), hsg, if_pos ⟨em_on.2.2.2.2.1, by decide⟩]
  rfl
end Go.Proofs.YtaennaoakopgfaaDoor

set_option linter.unusedSimpArgs false
set_option linter.unusedVariables false
namespace Go.Proofs.YtaennaoakopgfaaDoor
open Go.Lib

def brk1 (b : UInt8) : Int := if b = 40 then 1 else if b = 41 then -1 else 0
/-- How many brackets are open at p. -/
def opn (s : ByteArray) : Nat → Int
  | 0 => 0
  | p + 1 => opn s p + brk1 (s.get! p)
def brR (r : Int) : Int := if r = 40 then 1 else if r = 41 then -1 else 0
theorem brk1_hi (b : UInt8) (h : 128 ≤ b.toNat) : brk1 b = 0 := by
  unfold brk1
  rw [if_neg (fun c => by rw [c] at h; simp at h), if_neg (fun c => by rw [c] at h; simp at h)]
theorem brk1_lo (b : UInt8) : brk1 b = brR (b.toNat : Int) := by
  unfold brk1 brR
  have e : ∀ c : UInt8, (b = c) ↔ ((b.toNat : Int) = (c.toNat : Int)) := fun c => by
    rw [← UInt8.toNat_inj]; omega
  have h40 := e 40
  have h41 := e 41
  simp only [h40, h41]
  rfl
theorem opn_dec (s : ByteArray) (p : Nat) (hp : p < s.size) : opn s (p + (Utf8.decode s p).2) = opn s p + brR (((Utf8.decode s p).1 : Nat) : Int) := by
  rw [decode_at]
  have big : ∀ n : Nat, 128 ≤ n → brR (n : Int) = 0 := fun n hn => by unfold brR; rw [if_neg (by omega), if_neg (by omega)]
  rcases Nat.lt_or_ge (s.get! p).toNat 128 with c | c
  · have e : decodeN (s.size - p) (s.get! p).toNat (s.get! (p + 1)).toNat (s.get! (p + 2)).toNat (s.get! (p + 3)).toNat = ((s.get! p).toNat, 1) := by unfold decodeN; rw [if_pos c]
    rw [e]
    show opn s p + brk1 (s.get! p) = _
    rw [brk1_lo]
  · rcases decodeN_shape (s.size - p) (s.get! p).toNat (s.get! (p + 1)).toNat (s.get! (p + 2)).toNat (s.get! (p + 3)).toNat with ⟨c', e⟩ | ⟨k1, k2, k3, cv, e⟩ | ⟨k1, k2, k3, k4, cv, cs, e⟩ | ⟨k1, k2, k3, k4, k5, cv, cw, e⟩ | e
    · omega
    · rw [e, big _ cv]
      show opn s p + brk1 (s.get! p) + brk1 (s.get! (p + 1)) = _
      rw [brk1_hi _ c, brk1_hi _ (by omega)]; omega
    · rw [e, big _ (by omega)]
      show opn s p + brk1 (s.get! p) + brk1 (s.get! (p + 1)) + brk1 (s.get! (p + 2)) = _
      rw [brk1_hi _ c, brk1_hi _ (by omega), brk1_hi _ (by omega)]; omega
    · rw [e, big _ (by omega)]
      show opn s p + brk1 (s.get! p) + brk1 (s.get! (p + 1)) + brk1 (s.get! (p + 2)) + brk1 (s.get! (p + 3)) = _
      rw [brk1_hi _ c, brk1_hi _ (by omega), brk1_hi _ (by omega), brk1_hi _ (by omega)]; omega
    · rw [e, big _ (by omega)]
      show opn s p + brk1 (s.get! p) = _
      rw [brk1_hi _ c]
set_option maxRecDepth 100000 in
theorem em_off : onB 40 = false ∧ onB 41 = false ∧ digZ 40 = 0 ∧ digZ 41 = 0 ∧ kd 40 = 4 ∧ kd 41 = 4 := by decide +kernel
theorem brR_of {P : Int → Prop} (h0 : ¬ P 40) (h1 : ¬ P 41) {r : Int} (h : P r) : brR r = 0 := by
  unfold brR
  have n0 : ¬ r = 40 := fun c => by subst c; exact h0 h
  have n1 : ¬ r = 41 := fun c => by subst c; exact h1 h
  rw [if_neg n0, if_neg n1]
theorem brR_on {r : Int} (h : onB r = true) : brR r = 0 := brR_of (P := fun r => onB r = true) (by rw [em_off.1]; decide) (by rw [em_off.2.1]; decide) h
theorem brR_dig {r : Int} (h : digZ r ≠ 0) : brR r = 0 := brR_of (P := fun r => digZ r ≠ 0) (fun c => c em_off.2.2.1) (fun c => c em_off.2.2.2.1) h
theorem brR_blank {r : Int} (h : kd r = 3) : brR r = 0 := brR_of (P := fun r => kd r = 3) (by rw [em_off.2.2.2.2.1]; decide) (by rw [em_off.2.2.2.2.2]; decide) h
theorem opn_sp (s : ByteArray) : ∀ f p, opn s (spF s f p) = opn s p := by
  intro f
  induction f with
  | zero => intro p; rfl
  | succ f ih =>
    intro p
    by_cases hp : p < s.size
    · cases ho : onB (Utf8.decode s p).1
      · rw [spF_off s _ p hp ho]
      · rw [spF_on s f p hp ho, ih, opn_dec s p hp, brR_on ho]; omega
    · rw [spF_end s _ p hp]
theorem opn_skip (s : ByteArray) : ∀ f p, opn s (psSkip s f p) = opn s p := by
  intro f
  induction f with
  | zero => intro p; rfl
  | succ f ih =>
    intro p
    simp only [psSkip]
    split
    · rename_i hp
      split
      · rename_i hk
        rw [ih, opn_dec s p hp, brR_blank hk]; omega
      · rfl
    · rfl
theorem opn_skp (s : ByteArray) (p : Nat) : opn s (skp s p) = opn s p := opn_skip s _ p
theorem opn_nu (s : ByteArray) (z : Int) (hz : z ≠ 0) : ∀ f p n, (nuF s z f p n).2.2 = 0 → opn s (nuF s z f p n).2.1 = opn s p := by
  intro f
  induction f with
  | zero => intro p n _; rfl
  | succ f ih =>
    intro p n h
    by_cases hp : p < s.size
    · by_cases hk : digZ (Utf8.decode s p).1 = z
      · by_cases hl : 18446744073709551615 < n * 10 + (digV (Utf8.decode s p).1).toNat
        · rw [nuF_large s z f p n hp hk hl] at h; cases h
        · rw [nuF_on s z f p n hp hk hl] at h ⊢
          rw [ih _ _ h, opn_dec s p hp, brR_dig (by rw [hk]; exact hz)]; omega
      · rw [nuF_off s z _ p n hk]
    · rw [nuF_end s z _ p n hp]
theorem opn_num (s : ByteArray) (p : Nat) (hp : p < s.size) (h : (numI s p).2.2 = 0) : opn s (numI s p).2.1 = opn s p := by
  unfold numI at h ⊢
  rw [if_neg (by omega), Int.toNat_natCast] at h ⊢
  unfold numP at h ⊢
  by_cases hz : digZ (rn s p) = 0
  · rw [if_pos hz] at h; cases h
  · rw [if_neg hz] at h ⊢
    exact opn_nu s _ hz _ _ _ h
theorem plain_br (r : Int) : brR (psPlain r) = brR r := by
  unfold psPlain
  repeat' split
  all_goals first | rfl | (subst_vars; rfl) | (rename_i h; rcases h with h | h <;> (subst h; rfl))
theorem opn_sign (s : ByteArray) (pat : Bool) (p : Nat) (hp : p < s.size) (hk : kd (Utf8.decode s p).1 = 4) (h0 : 0 < (psSign s pat p (Utf8.decode s p).1).2) :
    opn s (p + (psSign s pat p (Utf8.decode s p).1).2.toNat) = opn s p + brR (psSign s pat p (Utf8.decode s p).1).1 := by
  have two : ∀ c : UInt8, brk1 c = 0 → psTwo s p c = true → ∀ x : Int, brR x = 0 → opn s (p + (2 : Int).toNat) = opn s p + brR x := fun c hc h2 x hx => by
    obtain ⟨_, e1, e2⟩ := (two_iff s p c).1 h2
    show opn s p + brk1 (s.get! p) + brk1 (s.get! (p + 1)) = _
    rw [e1, e2, hc, hx]; omega
  unfold psSign at h0 ⊢
  split
  · rename_i h2; exact two 61 (by decide) h2 _ (by decide)
  · rename_i n1
    rw [if_neg n1] at h0
    split
    · rename_i h2; exact two 60 (by decide) h2 _ (by decide)
    · rename_i n2
      rw [if_neg n2] at h0
      split
      · rename_i h2; exact two 62 (by decide) h2 _ (by decide)
      · rename_i n3
        rw [if_neg n3] at h0
        split
        · rename_i n4; rw [if_pos n4] at h0; simp at h0
        · rename_i n4
          rw [if_neg n4] at h0
          split
          · rename_i n5; rw [if_pos n5] at h0; simp at h0
          · simp only
            rw [len_dec s p hp hk, Int.toNat_natCast, opn_dec s p hp, plain_br]
/-- A token at a, and what it opens. -/
structure TkO (s : ByteArray) (a : Nat) (t : Tk) : Prop where
  is : TkA s a t
  opn : t.err = 0 → opn s t.to = opn s a + brR t.what
theorem from_opn {s : ByteArray} {pat : Bool} {m a : Nat} {t : Tk} (ha : a ≤ s.size) (h : psFrom s pat m a = .ok t) : TkO s a t := by
  refine ⟨from_at ha h, fun h0 => ?_⟩
  unfold psFrom at h
  split at h
  · rename_i hp
    unfold psAt at h
    split at h
    · rename_i k1
      obtain ⟨e1, e2, e3⟩ := span_in' s a hp k1
      rw [e1] at h
      simp only [Int.toNat_natCast] at h
      cases h
      show opn s (spF s s.size a) = _
      rw [opn_sp]
      show _ = _ + (0 : Int)
      omega
    · split at h
      · rename_i k2
        cases h
        simp only at h0
        split at h0
        · cases h0
        · show opn s (numI s a).2.1 = _
          rw [opn_num s a hp h0]
          show _ = _ + (0 : Int)
          omega
      · split at h
        · rename_i k4
          cases h
          exact opn_sign s pat a hp k4.1 k4.2
        · cases h
  · cases h
    have : a = s.size := by omega
    subst this
    show opn s s.size = _ + (0 : Int)
    omega
end Go.Proofs.YtaennaoakopgfaaDoor

set_option linter.unusedSimpArgs false
set_option linter.unusedVariables false
namespace Go.Proofs.YtaennaoakopgfaaDoor
open Go.Lib

theorem op_br {c : Int} {lv : Nat} (h : (psOp c).2 = lv) (hl : 1 ≤ lv) : brR c = 0 := by
  have h0 : c ≠ 40 := by rintro rfl; simp [psOp] at h; omega
  have h1 : c ≠ 41 := by rintro rfl; simp [psOp] at h; omega
  unfold brR
  rw [if_neg h0, if_neg h1]
/-- s inside S, at d; e: where the bracket stands that closes it. -/
structure Inn (S s : ByteArray) (d e : Nat) : Prop where
  mid : Mid S s d
  beh : skp S (d + s.size) = e
  lt : e < S.size
  br : S.get! e = 41
def pmv (s : ByteArray) (d e p : Nat) : Nat := if p < s.size then d + p else e
theorem Inn.sk {S s : ByteArray} {d e : Nat} (h : Inn S s d e) {p : Nat} (hp : p ≤ s.size) : skp S (d + p) = pmv s d e (skp s p) := by
  have hz := h.mid.size
  have h1 := h.mid.skip s.size p hp (by omega)
  have h2 := h.mid.skip s.size s.size (Nat.le_refl _) (by omega)
  have e2 : s.size + (S.size - s.size) = S.size := by omega
  rw [e2] at h1 h2
  have h3 := (skp_in (s := s) (Nat.le_refl s.size)).1
  have h4 : ¬ psSkip s s.size s.size < s.size := Nat.not_lt.2 h3
  rw [if_neg h4] at h2
  have h5 := h.beh
  unfold skp at h5 ⊢
  rw [h1, ← h2, h5]
  rfl
def TkR (s : ByteArray) (d e : Nat) (t t' : Tk) : Prop := (TkS d t t' ∧ t.from_ < s.size) ∨ (t = psEnd s ∧ t' = ⟨41, e, e + 1, 0, 0⟩)
theorem Inn.fr {S s : ByteArray} {d e : Nat} (h : Inn S s d e) {pat : Bool} {m p : Nat} (hp : p ≤ s.size) {t : Tk} (ht : psFrom s pat m p = .ok t) : ∃ t', psFrom S pat m (pmv s d e p) = .ok t' ∧ TkR s d e t t' := by
  unfold pmv
  by_cases hl : p < s.size
  · rw [if_pos hl]
    have := h.mid.from_ pat m hl
    rw [ht] at this
    have ha := (from_at hp ht).at_
    cases hS : psFrom S pat m (d + p) with
    | ok t' => rw [hS] at this; exact ⟨t', rfl, .inl ⟨this, by omega⟩⟩
    | bad q er => rw [hS] at this; exact this.elim
    | out => rw [hS] at this; exact this.elim
  · rw [if_neg hl]
    refine ⟨_, close_at S pat m e h.lt h.br, .inr ⟨?_, rfl⟩⟩
    unfold psFrom at ht
    rw [if_neg hl] at ht
    cases ht; rfl
theorem TkR.is {s : ByteArray} {d e : Nat} {t t' : Tk} (h : TkR s d e t t') {c : Int} (h0 : c ≠ 0) (h1 : c ≠ 41) : t'.what = c ↔ t.what = c := by
  rcases h with ⟨h, _⟩ | ⟨h, h'⟩
  · rw [h.what]
  · subst h; subst h'
    exact ⟨fun x => absurd x.symm h1, fun x => absurd x.symm h0⟩
theorem TkR.on {s : ByteArray} {d e : Nat} {t t' : Tk} (h : TkR s d e t t') (h0 : t.what ≠ 0) : TkS d t t' ∧ t.from_ < s.size := by
  rcases h with h | ⟨h, h'⟩
  · exact h
  · subst h; exact absurd rfl h0
theorem TkR.op {s : ByteArray} {d e : Nat} {t t' : Tk} (h : TkR s d e t t') : psOp t'.what = psOp t.what := by
  rcases h with ⟨h, _⟩ | ⟨h, h'⟩
  · rw [h.what]
  · subst h; subst h'; rfl
theorem TkR.pm {s : ByteArray} {d e : Nat} {t t' : Tk} (h : TkR s d e t t') : t'.from_ = pmv s d e t.from_ := by
  unfold pmv
  rcases h with ⟨h, hl⟩ | ⟨h, h'⟩
  · rw [if_pos hl, h.at_]
  · subst h; subst h'
    rw [if_neg (by unfold psEnd; exact Nat.lt_irrefl _)]
/-- Behind a token that is none of a number's faults. -/
theorem Inn.nx {S s : ByteArray} {d e : Nat} (h : Inn S s d e) {a : Nat} {t t' : Tk} (ha : TkA s a t) (hr : TkR s d e t t') (h0 : t.what ≠ 0) (he : t.err = 0) : skp S t'.to = pmv s d e (skp s t.to) := by
  obtain ⟨hs, hl⟩ := hr.on h0
  rw [hs.to (fun _ => he)]
  exact h.sk (ha.good he).2.1
theorem Inn.lit {S s : ByteArray} {d e : Nat} (h : Inn S s d e) {a : Nat} {t t' : Tk} (ha : TkA s a t) (hr : TkR s d e t t') {v : Int} {r : List Nd × Nat} (hk : rdLit s v t = .ok r) : rdLit S v t' = .ok (r.1, pmv s d e r.2) := by
  unfold rdLit at hk ⊢
  split at hk
  · rename_i h1
    rw [if_pos ((hr.is (c := 48) (by decide) (by decide)).2 h1)]
    split at hk
    · rename_i h2
      have h0 : t.what ≠ 0 := by rw [h1]; decide
      rw [if_pos (by rw [(hr.on h0).1.err]; exact h2), h.nx ha hr h0 h2]
      cases hk; rfl
    · cases hk
  · cases hk
theorem Inn.named {S s : ByteArray} {d e : Nat} (h : Inn S s d e) {a : Nat} {t t' : Tk} (ha : TkA s a t) (hr : TkR s d e t t') {v : Int} {r : List Nd × Nat} (hk : rdNamed s v t = .ok r) : rdNamed S v t' = .ok (r.1, pmv s d e r.2) := by
  unfold rdNamed at hk ⊢
  split at hk
  · rename_i h1
    rw [if_pos ((hr.is (c := 97) (by decide) (by decide)).2 h1)]
    split at hk
    · rename_i h2
      have h0 : t.what ≠ 0 := by rw [h1]; decide
      have hs := (hr.on h0).1
      have hg := ha.good h2
      have hat := ha.at_
      rw [if_pos (by rw [hs.err]; exact h2), h.nx ha hr h0 h2, hs.at_, hs.to (fun _ => h2), h.mid.ext (by omega) hg.2.1]
      cases hk; rfl
    · cases hk
  · cases hk
end Go.Proofs.YtaennaoakopgfaaDoor

set_option linter.unusedSimpArgs false
set_option linter.unusedVariables false
namespace Go.Proofs.YtaennaoakopgfaaDoor
open Go.Lib

theorem Inn.step {S s : ByteArray} {d e : Nat} (h : Inn S s d e) {pat : Bool} {m a : Nat} {t t' t1 : Tk} (ht : TkO s a t) (hr : TkR s d e t t') (h0 : t.what ≠ 0) (he : t.err = 0) (hf : psFrom s pat m (skp s t.to) = .ok t1) :
    (∃ t1', psFrom S pat m (skp S t'.to) = .ok t1' ∧ TkR s d e t1 t1') ∧ TkO s (skp s t.to) t1 ∧ opn s (skp s t.to) = opn s a + brR t.what := by
  have hle := (skp_in (ht.is.good he).2.1).2
  rw [h.nx ht.is hr h0 he]
  exact ⟨h.fr hle hf, from_opn hle hf, by rw [opn_skp, ht.opn he]⟩
theorem rdLit_opn {s : ByteArray} {a : Nat} {v : Int} {t : Tk} {r : List Nd × Nat} (ht : TkO s a t) (h : rdLit s v t = .ok r) : opn s r.2 = opn s a := by
  unfold rdLit at h
  split at h
  · rename_i h1
    split at h
    · rename_i h2
      cases h
      show opn s (skp s t.to) = _
      rw [opn_skp, ht.opn h2, h1]
      show _ + (0 : Int) = _
      omega
    · cases h
  · cases h
theorem rdNamed_opn {s : ByteArray} {a : Nat} {v : Int} {t : Tk} {r : List Nd × Nat} (ht : TkO s a t) (h : rdNamed s v t = .ok r) : opn s r.2 = opn s a := by
  unfold rdNamed at h
  split at h
  · rename_i h1
    split at h
    · rename_i h2
      cases h
      show opn s (skp s t.to) = _
      rw [opn_skp, ht.opn h2, h1]
      show _ + (0 : Int) = _
      omega
    · cases h
  · cases h
theorem run_in {S s : ByteArray} {d e : Nat} (h : Inn S s d e) (pat : Bool) (k : Nat) (hN : ∀ p, p ≤ s.size → opn s p + k ≤ 100) :
    ∀ (f : Nat) (q : RdQ) (a : Nat) (t t' : Tk) (o : Nat) (r : List Nd × Nat), q.lvl → TkO s a t → TkR s d e t t' → opn s a = o → rdRun s pat f q t o = .ok r → opn s r.2 = o ∧ rdRun S pat f q t' (o + k) = .ok (r.1, pmv s d e r.2) := by
  intro f
  induction f with
  | zero => intro q a t t' o r _ _ _ _ h; cases h
  | succ f ih =>
    have hc : RdQ.cond.lvl := ⟨(fun _ e => by cases e), (fun _ _ e => by cases e)⟩
    have hu : RdQ.un.lvl := ⟨(fun _ e => by cases e), (fun _ _ e => by cases e)⟩
    have hat : RdQ.atom.lvl := ⟨(fun _ e => by cases e), (fun _ _ e => by cases e)⟩
    have hlv : ∀ lv, 1 ≤ lv → (RdQ.level lv).lvl := fun lv h => ⟨(fun _ e => by cases e; exact h), (fun _ _ e => by cases e)⟩
    have hlo : ∀ lv la, 1 ≤ lv → (RdQ.loop lv la).lvl := fun lv la h => ⟨(fun _ e => by cases e), (fun _ _ e => by cases e; exact h)⟩
    intro q a t t' o r hq ht hr ho hk
    cases q with
    | cond =>
      simp only [rdRun] at hk ⊢
      obtain ⟨c, h1, hk⟩ := Pr.bind_ok hk
      obtain ⟨o1, e1⟩ := ih _ a t t' o c (hlv 1 (by omega)) ht hr ho h1
      obtain ⟨_, _, i3⟩ := rd_len s pat f _ a t o c (hlv 1 (by omega)) ht.is h1
      obtain ⟨t1, h2, hk⟩ := Pr.bind_ok hk
      have ht1 := from_opn i3 h2
      obtain ⟨t1', e2, r1⟩ := h.fr i3 h2
      rw [e1]; simp only [Pr.bind]; rw [e2]; simp only [Pr.bind]
      split at hk
      · rename_i hw
        rw [if_pos ((r1.is (by decide) (by decide)).2 hw)]
        have hw0 : t1.what ≠ 0 := by rw [hw]; decide
        have he1 := ht1.is.sign (by rw [hw]; decide) (by rw [hw]; decide)
        obtain ⟨t2, h3, hk⟩ := Pr.bind_ok hk
        obtain ⟨⟨t2', e3, r2⟩, ht2, o2⟩ := h.step ht1 r1 hw0 he1 h3
        have b2 : brR t1.what = 0 := by rw [hw]; decide
        obtain ⟨b, h4, hk⟩ := Pr.bind_ok hk
        obtain ⟨o3, e4⟩ := ih _ _ t2 t2' o b hc ht2 r2 (by omega) h4
        obtain ⟨_, _, j3⟩ := rd_len s pat f _ _ t2 o b hc ht2.is h4
        obtain ⟨t3, h5, hk⟩ := Pr.bind_ok hk
        have ht3 := from_opn j3 h5
        obtain ⟨t3', e5, r3⟩ := h.fr j3 h5
        rw [e3]; simp only [Pr.bind]; rw [e4]; simp only [Pr.bind]; rw [e5]; simp only [Pr.bind]
        split at hk
        · rename_i hw3
          have hw30 : t3.what ≠ 0 := by rw [hw3]; decide
          rw [if_pos ((r3.is (by decide) (by decide)).2 hw3)]
          split at hk
          · rename_i he3
            rw [if_pos (by rw [(r3.on hw30).1.err]; exact he3)]
            obtain ⟨t4, h6, hk⟩ := Pr.bind_ok hk
            obtain ⟨⟨t4', e6, r4⟩, ht4, o4⟩ := h.step ht3 r3 hw30 he3 h6
            have b4 : brR t3.what = 0 := by rw [hw3]; decide
            obtain ⟨x, h7, hk⟩ := Pr.bind_ok hk
            obtain ⟨o5, e7⟩ := ih _ _ t4 t4' o x hc ht4 r4 (by omega) h7
            rw [e6]; simp only [Pr.bind]; rw [e7]; simp only [Pr.bind]
            cases hk
            exact ⟨o5, rfl⟩
          · cases hk
        · cases hk
      · rename_i hw
        rw [if_neg (fun x => hw ((r1.is (by decide) (by decide)).1 x))]
        cases hk
        exact ⟨o1, rfl⟩
    | level lv =>
      simp only [rdRun] at hk ⊢
      have hl1 := hq.1 lv rfl
      split at hk
      · rename_i h8
        rw [if_pos h8]
        exact ih _ a t t' o r hu ht hr ho hk
      · rename_i h8
        rw [if_neg h8]
        obtain ⟨c, h1, hk⟩ := Pr.bind_ok hk
        obtain ⟨o1, e1⟩ := ih _ a t t' o c (hlv (lv + 1) (by omega)) ht hr ho h1
        obtain ⟨_, _, i3⟩ := rd_len s pat f _ a t o c (hlv (lv + 1) (by omega)) ht.is h1
        obtain ⟨t1, h2, hk⟩ := Pr.bind_ok hk
        have ht1 := from_opn i3 h2
        obtain ⟨t1', e2, r1⟩ := h.fr i3 h2
        rw [e1]; simp only [Pr.bind]; rw [e2]; simp only [Pr.bind]
        exact ih _ _ t1 t1' o r (hlo lv c.1 hl1) ht1 r1 o1 hk
    | loop lv la =>
      simp only [rdRun] at hk ⊢
      have hl1 := hq.2 lv la rfl
      rw [hr.op]
      split at hk
      · rename_i hw
        rw [if_pos hw]
        obtain ⟨w0, w1, w2⟩ := op_sgn hw hl1
        have he1 := ht.is.sign w1 w2
        obtain ⟨t1, h2, hk⟩ := Pr.bind_ok hk
        obtain ⟨⟨t1', e2, r1⟩, ht1, o1⟩ := h.step ht hr w0 he1 h2
        have b1 := op_br hw hl1
        obtain ⟨b, h3, hk⟩ := Pr.bind_ok hk
        obtain ⟨o2, e3⟩ := ih _ _ t1 t1' o b (hlv (lv + 1) (by omega)) ht1 r1 (by omega) h3
        obtain ⟨_, _, i3⟩ := rd_len s pat f _ _ t1 o b (hlv (lv + 1) (by omega)) ht1.is h3
        rw [e2]; simp only [Pr.bind]; rw [e3]; simp only [Pr.bind]
        split at hk
        · rename_i h15
          rw [if_pos h15]
          cases hk
          exact ⟨o2, rfl⟩
        · rename_i h15
          rw [if_neg h15]
          obtain ⟨t2, h4, hk⟩ := Pr.bind_ok hk
          have ht2 := from_opn i3 h4
          obtain ⟨t2', e4, r2⟩ := h.fr i3 h4
          rw [e4]; simp only [Pr.bind]
          exact ih _ _ t2 t2' o r (hlo lv _ hl1) ht2 r2 o2 hk
      · rename_i hw
        rw [if_neg hw]
        cases hk
        exact ⟨by simp only; rw [ht.is.at_]; exact ho, by simp only; rw [hr.pm]⟩
    | un =>
      simp only [rdRun] at hk ⊢
      split at hk
      · rename_i hw
        have w0 : t.what ≠ 0 := by rw [hw]; decide
        have he1 := ht.is.sign (by rw [hw]; decide) (by rw [hw]; decide)
        have b1 : brR t.what = 0 := by rw [hw]; decide
        have hto := (hr.on w0).1.to (fun _ => he1)
        have hnum := h.mid.num (ht.is.good he1).2.1
        rw [if_pos ((hr.is (by decide) (by decide)).2 hw), hto, hnum]
        split at hk
        · rename_i h11
          rw [if_pos (show (nsh d (numI s t.to)).2.2 = 11 from h11), ← hto]
          obtain ⟨t1, h2, hk⟩ := Pr.bind_ok hk
          obtain ⟨⟨t1', e2, r1⟩, ht1, o1⟩ := h.step ht hr w0 he1 h2
          obtain ⟨b, h3, hk⟩ := Pr.bind_ok hk
          obtain ⟨o2, e3⟩ := ih _ _ t1 t1' o b hu ht1 r1 (by omega) h3
          rw [e2]; simp only [Pr.bind]; rw [e3]; simp only [Pr.bind]
          cases hk
          exact ⟨o2, rfl⟩
        · rename_i h11
          rw [if_neg (show ¬ (nsh d (numI s t.to)).2.2 = 11 from h11), ← hto]
          obtain ⟨t1, h2, hk⟩ := Pr.bind_ok hk
          obtain ⟨⟨t1', e2, r1⟩, ht1, o1⟩ := h.step ht hr w0 he1 h2
          rw [e2]; simp only [Pr.bind]
          have hn : t1'.n = t1.n := by
            rcases r1 with ⟨r1, _⟩ | ⟨r1, r2⟩
            · exact r1.n
            · subst r1; subst r2; rfl
          rw [hn]
          exact ⟨by rw [rdLit_opn ht1 hk]; omega, h.lit ht1.is r1 hk⟩
      · rename_i hw
        rw [if_neg (fun x => hw ((hr.is (by decide) (by decide)).1 x))]
        split at hk
        · rename_i hw
          have w0 : t.what ≠ 0 := by rw [hw]; decide
          have he1 := ht.is.sign (by rw [hw]; decide) (by rw [hw]; decide)
          have b1 : brR t.what = 0 := by rw [hw]; decide
          rw [if_pos ((hr.is (by decide) (by decide)).2 hw)]
          obtain ⟨t1, h2, hk⟩ := Pr.bind_ok hk
          obtain ⟨⟨t1', e2, r1⟩, ht1, o1⟩ := h.step ht hr w0 he1 h2
          obtain ⟨b, h3, hk⟩ := Pr.bind_ok hk
          obtain ⟨o2, e3⟩ := ih _ _ t1 t1' o b hu ht1 r1 (by omega) h3
          rw [e2]; simp only [Pr.bind]; rw [e3]; simp only [Pr.bind]
          cases hk
          exact ⟨o2, rfl⟩
        · rename_i hw
          rw [if_neg (fun x => hw ((hr.is (by decide) (by decide)).1 x))]
          exact ih _ a t t' o r hat ht hr ho hk
    | atom =>
      simp only [rdRun] at hk ⊢
      split at hk
      · rename_i hw
        have w0 : t.what ≠ 0 := by rw [hw]; decide
        rw [if_pos ((hr.is (by decide) (by decide)).2 hw), (hr.on w0).1.n]
        exact ⟨by rw [rdLit_opn ht hk]; exact ho, h.lit ht.is hr hk⟩
      · rename_i hw
        rw [if_neg (fun x => hw ((hr.is (by decide) (by decide)).1 x))]
        split at hk
        · rename_i hw
          rw [if_pos ((hr.is (by decide) (by decide)).2 hw)]
          exact ⟨by rw [rdNamed_opn ht hk]; exact ho, h.named ht.is hr hk⟩
        · rename_i hw
          rw [if_neg (fun x => hw ((hr.is (by decide) (by decide)).1 x))]
          split at hk
          · rename_i hw
            have w0 : t.what ≠ 0 := by rw [hw]; decide
            have he1 := ht.is.sign (by rw [hw]; decide) (by rw [hw]; decide)
            have b1 : brR t.what = 0 := by rw [hw]; decide
            rw [if_pos ((hr.is (by decide) (by decide)).2 hw)]
            obtain ⟨t1, h2, hk⟩ := Pr.bind_ok hk
            obtain ⟨⟨t1', e2, r1⟩, ht1, o1⟩ := h.step ht hr w0 he1 h2
            rw [e2]; simp only [Pr.bind]
            exact ⟨by rw [rdNamed_opn ht1 hk]; omega, h.named ht1.is r1 hk⟩
          · rename_i hw
            rw [if_neg (fun x => hw ((hr.is (by decide) (by decide)).1 x))]
            split at hk
            · rename_i hw
              have w0 : t.what ≠ 0 := by rw [hw]; decide
              have he1 := ht.is.sign (by rw [hw]; decide) (by rw [hw]; decide)
              have b1 : brR t.what = 1 := by rw [hw]; decide
              rw [if_pos ((hr.is (by decide) (by decide)).2 hw)]
              split at hk
              · cases hk
              · obtain ⟨t1, h2, hk⟩ := Pr.bind_ok hk
                obtain ⟨⟨t1', e2, r1⟩, ht1, o1⟩ := h.step ht hr w0 he1 h2
                have hb := hN _ ht1.is.in_
                rw [if_neg (by omega)]
                obtain ⟨x, h3, hk⟩ := Pr.bind_ok hk
                obtain ⟨o2, e3⟩ := ih _ _ t1 t1' (o + 1) x hc ht1 r1 (by omega) h3
                obtain ⟨_, _, i3⟩ := rd_len s pat f _ _ t1 (o + 1) x hc ht1.is h3
                obtain ⟨t2, h4, hk⟩ := Pr.bind_ok hk
                have ht2 := from_opn i3 h4
                obtain ⟨t2', e4, r2⟩ := h.fr i3 h4
                rw [show o + 1 + k = o + k + 1 by omega] at e3
                rw [e2]; simp only [Pr.bind]; rw [e3]; simp only [Pr.bind]; rw [e4]; simp only [Pr.bind]
                split at hk
                · rename_i hw2
                  have w20 : t2.what ≠ 0 := by rw [hw2]; decide
                  have hs2 := (r2.on w20).1
                  rw [if_pos (hs2.what.trans hw2)]
                  split at hk
                  · rename_i he
                    rw [if_pos (hs2.err.trans he), h.nx ht2.is r2 w20 he]
                    have b2 : brR t2.what = -1 := by rw [hw2]; decide
                    have := ht2.opn he
                    cases hk
                    refine ⟨?_, rfl⟩
                    show opn s (skp s t2.to) = _
                    rw [opn_skp]; omega
                  · cases hk
                · cases hk
            · cases hk
end Go.Proofs.YtaennaoakopgfaaDoor

set_option linter.unusedSimpArgs false
set_option linter.unusedVariables false
namespace Go.Proofs.YtaennaoakopgfaaDoor
open Go.Lib

theorem bind_up {α β : Type} {x y : Pr α} {f g : α → Pr β} {b : β} (h : x.bind f = .ok b) (hx : ∀ a, x = .ok a → y = .ok a) (hf : ∀ a, x = .ok a → f a = .ok b → g a = .ok b) : y.bind g = .ok b := by
  obtain ⟨a, h1, h2⟩ := Pr.bind_ok h
  rw [hx a h1]
  exact hf a h1 h2
theorem rd_one (s : ByteArray) (pat : Bool) : ∀ (f : Nat) (q : RdQ) (t : Tk) (o : Nat) (r : List Nd × Nat), rdRun s pat f q t o = .ok r → rdRun s pat (f + 1) q t o = .ok r := by
  intro f
  induction f with
  | zero => intro q t o r h; cases h
  | succ f ih =>
    intro q t o r h
    cases q with
    | cond =>
      rw [rdRun] at h ⊢
      refine bind_up h (fun a => ih _ _ _ a) fun c _ h => bind_up h (fun _ x => x) fun t1 _ h => ?_
      split at h
      · rename_i hw
        rw [if_pos hw]
        refine bind_up h (fun _ x => x) fun t2 _ h => bind_up h (fun a => ih _ _ _ a) fun a _ h => bind_up h (fun _ x => x) fun t3 _ h => ?_
        split at h
        · rename_i hw
          rw [if_pos hw]
          split at h
          · rename_i hw
            rw [if_pos hw]
            exact bind_up h (fun _ x => x) fun t4 _ h => bind_up h (fun a => ih _ _ _ a) fun b _ h => h
          · cases h
        · cases h
      · rename_i hw
        rw [if_neg hw]
        exact h
    | level lv =>
      rw [rdRun] at h ⊢
      split at h
      · rename_i hw
        rw [if_pos hw]
        exact ih _ _ _ _ h
      · rename_i hw
        rw [if_neg hw]
        exact bind_up h (fun a => ih _ _ _ a) fun a _ h => bind_up h (fun _ x => x) fun t1 _ h => ih _ _ _ _ h
    | loop lv la =>
      rw [rdRun] at h ⊢
      split at h
      · rename_i hw
        rw [if_pos hw]
        refine bind_up h (fun _ x => x) fun t1 _ h => bind_up h (fun a => ih _ _ _ a) fun b _ h => ?_
        split at h
        · rename_i hw
          rw [if_pos hw]
          exact h
        · rename_i hw
          rw [if_neg hw]
          exact bind_up h (fun _ x => x) fun t2 _ h => ih _ _ _ _ h
      · rename_i hw
        rw [if_neg hw]
        exact h
    | un =>
      rw [rdRun] at h ⊢
      split at h
      · rename_i hw
        rw [if_pos hw]
        split at h
        · rename_i hw
          rw [if_pos hw]
          exact bind_up h (fun _ x => x) fun t1 _ h => bind_up h (fun a => ih _ _ _ a) fun x _ h => h
        · rename_i hw
          rw [if_neg hw]
          exact h
      · rename_i hw
        rw [if_neg hw]
        split at h
        · rename_i hw
          rw [if_pos hw]
          exact bind_up h (fun _ x => x) fun t1 _ h => bind_up h (fun a => ih _ _ _ a) fun x _ h => h
        · rename_i hw
          rw [if_neg hw]
          exact ih _ _ _ _ h
    | atom =>
      rw [rdRun] at h ⊢
      split at h
      · rename_i hw
        rw [if_pos hw]
        exact h
      · rename_i hw
        rw [if_neg hw]
        split at h
        · rename_i hw
          rw [if_pos hw]
          exact h
        · rename_i hw
          rw [if_neg hw]
          split at h
          · rename_i hw
            rw [if_pos hw]
            exact h
          · rename_i hw
            rw [if_neg hw]
            split at h
            · rename_i hw
              rw [if_pos hw]
              split at h
              · cases h
              · rename_i hw
                rw [if_neg hw]
                exact bind_up h (fun _ x => x) fun t1 _ h => bind_up h (fun a => ih _ _ _ a) fun e _ h => h
            · cases h
theorem rd_more {s : ByteArray} {pat : Bool} {f g : Nat} {q : RdQ} {t : Tk} {o : Nat} {r : List Nd × Nat} (h : rdRun s pat f q t o = .ok r) (hfg : f ≤ g) : rdRun s pat g q t o = .ok r := by
  obtain ⟨k, rfl⟩ : ∃ k, g = f + k := ⟨g - f, by omega⟩
  clear hfg
  induction k with
  | zero => exact h
  | succ k ih => exact rd_one s pat _ _ _ _ _ ih
/-- Between two levels nothing happens where the sign behind belongs to none of them. -/
theorem climb {s : ByteArray} {pat : Bool} {f : Nat} {t t1 : Tk} {o p : Nat} {l : List Nd} {top : Nat} (h : rdRun s pat f (.level top) t o = .ok (l, p)) (ht : psFrom s pat mx63 p = .ok t1) (hp : p ≤ s.size) (htop : top ≤ 9) :
    ∀ (k lv : Nat), lv + k = top → (∀ j, lv ≤ j → j < top → (psOp t1.what).2 ≠ j) → rdRun s pat (f + k + 1) (.level lv) t o = .ok (l, p) := by
  intro k
  induction k with
  | zero => intro lv e _; subst e; exact rd_more h (by omega)
  | succ k ih =>
    intro lv e hn
    have := ih (lv + 1) (by omega) fun j h1 h2 => hn j (by omega) h2
    have e2 : rdRun s pat (f + (k + 1) + 1) (.level lv) t o = (rdRun s pat (f + k + 1) (.level (lv + 1)) t o).bind fun a => (psFrom s pat mx63 a.2).bind fun t1 => rdRun s pat (f + k + 1) (.loop lv a.1) t1 o := by
      show rdRun s pat ((f + k + 1) + 1) (.level lv) t o = _
      rw [rdRun, if_neg (by omega)]
    rw [e2, this]
    simp only [Pr.bind]
    rw [ht]
    simp only [Pr.bind]
    rw [rdRun, if_neg (hn lv (Nat.le_refl _) (by omega)), (from_at hp ht).at_]
/-- A bracket, from the rules inside on. -/
theorem brack {s : ByteArray} {pat : Bool} {f : Nat} {t t1 : Tk} {o e : Nat} {l : List Nd} (h40 : t.what = 40) (ho : o ≠ 100) (h1 : psFrom s pat mx63 (skp s t.to) = .ok t1) (h : rdRun s pat f .cond t1 (o + 1) = .ok (l, e)) (he : e < s.size) (hb : s.get! e = 41) :
    rdRun s pat (f + 1) .atom t o = .ok (l, skp s (e + 1)) := by
  rw [rdRun, h40]
  rw [if_neg (by decide), if_neg (by decide), if_neg (by decide), if_pos rfl, if_neg ho, h1]
  simp only [Pr.bind]
  rw [h]
  simp only [Pr.bind]
  rw [close_at s pat mx63 e he hb]
  simp only [Pr.bind, if_true]
theorem brackU {s : ByteArray} {pat : Bool} {f : Nat} {t t1 : Tk} {o e : Nat} {l : List Nd} (h40 : t.what = 40) (ho : o ≠ 100) (h1 : psFrom s pat mx63 (skp s t.to) = .ok t1) (h : rdRun s pat f .cond t1 (o + 1) = .ok (l, e)) (he : e < s.size) (hb : s.get! e = 41) :
    rdRun s pat (f + 2) .un t o = .ok (l, skp s (e + 1)) ∧ rdRun s pat (f + 3) (.level 9) t o = .ok (l, skp s (e + 1)) := by
  have h0 := brack h40 ho h1 h he hb
  have h2 : rdRun s pat (f + 2) .un t o = .ok (l, skp s (e + 1)) := by
    show rdRun s pat ((f + 1) + 1) .un t o = _
    rw [rdRun, h40, if_neg (by decide), if_neg (by decide), h0]
  refine ⟨h2, ?_⟩
  show rdRun s pat ((f + 2) + 1) (.level 9) t o = _
  rw [rdRun, if_pos (by decide), h2]
end Go.Proofs.YtaennaoakopgfaaDoor

set_option linter.unusedSimpArgs false
set_option linter.unusedVariables false
namespace Go.Proofs.YtaennaoakopgfaaDoor
open Go.Lib

/-- The signs of the joined texts. -/
def jsg (c : UInt8) : Prop := c = 40 ∨ c = 41 ∨ c = 42 ∨ c = 45 ∨ c = 58 ∨ c = 63 ∨ c = 126
set_option maxRecDepth 100000 in
theorem jsg_kd : kd 40 = 4 ∧ kd 41 = 4 ∧ kd 42 = 4 ∧ kd 45 = 4 ∧ kd 58 = 4 ∧ kd 63 = 4 ∧ kd 126 = 4 := by decide +kernel
theorem jsg_dec {S : ByteArray} {e : Nat} {c : UInt8} (h : S.get! e = c) (hc : jsg c) : Utf8.decode S e = (c.toNat, 1) := by
  rw [decode_at, h]
  have : c.toNat < 128 := by rcases hc with rfl | rfl | rfl | rfl | rfl | rfl | rfl <;> decide
  unfold decodeN
  rw [if_pos this]
theorem jsg_four {c : UInt8} (hc : jsg c) : kd ((c.toNat : Nat) : Int) = 4 := by
  obtain ⟨k1, k2, k3, k4, k5, k6, k7⟩ := jsg_kd
  rcases hc with rfl | rfl | rfl | rfl | rfl | rfl | rfl
  · exact k1
  · exact k2
  · exact k3
  · exact k4
  · exact k5
  · exact k6
  · exact k7
theorem sign_at (S : ByteArray) (pat : Bool) (m e : Nat) (c : UInt8) (he : e < S.size) (h : S.get! e = c) (hc : jsg c) : psFrom S pat m e = .ok ⟨(c.toNat : Int), e, e + 1, 0, 0⟩ := by
  have hd := jsg_dec h hc
  have h4 := jsg_four hc
  have h2 : ∀ x : UInt8, c ≠ x → psTwo S e x = false := fun x hx => by
    cases hb : psTwo S e x
    · rfl
    · exact absurd (h.symm.trans ((two_iff S e x).1 hb).2.1) hx
  have hsg : psSign S pat e (c.toNat : Int) = ((c.toNat : Int), 1) := by
    unfold psSign
    rw [h2 61 (by rcases hc with rfl | rfl | rfl | rfl | rfl | rfl | rfl <;> decide), h2 60 (by rcases hc with rfl | rfl | rfl | rfl | rfl | rfl | rfl <;> decide), h2 62 (by rcases hc with rfl | rfl | rfl | rfl | rfl | rfl | rfl <;> decide)]
    simp only [Bool.false_eq_true, if_false]
    rw [if_neg (by rcases hc with rfl | rfl | rfl | rfl | rfl | rfl | rfl <;> decide), if_neg (fun x => absurd x.1 (by rcases hc with rfl | rfl | rfl | rfl | rfl | rfl | rfl <;> decide))]
    rcases hc with rfl | rfl | rfl | rfl | rfl | rfl | rfl <;> rfl
  unfold psFrom
  rw [if_pos he, hd]
  unfold psAt
  simp only
  rw [if_neg (by rw [h4]; decide), if_neg (by rw [h4]; decide), hsg, if_pos ⟨h4, show (0 : Int) < 1 by decide⟩]
  rfl
theorem skp_jsg {S : ByteArray} {e : Nat} {c : UInt8} (he : e < S.size) (h : S.get! e = c) (hc : jsg c) : skp S e = e := by
  unfold skp
  obtain ⟨f, hf⟩ : ∃ f, S.size = f + 1 := ⟨S.size - 1, by omega⟩
  rw [hf]
  simp only [psSkip]
  rw [if_pos he, jsg_dec h hc, if_neg (by simp only; rw [jsg_four hc]; decide)]
theorem skp_all (S : ByteArray) : skp S S.size = S.size := by
  unfold skp
  cases hf : S.size with
  | zero => rfl
  | succ f => simp only [psSkip]; rw [if_neg (by omega)]
theorem end_at (S : ByteArray) (pat : Bool) (m : Nat) : psFrom S pat m S.size = .ok (psEnd S) := by
  unfold psFrom; rw [if_neg (Nat.lt_irrefl _)]

/-! ### the bytes -/
def CkA (S : ByteArray) (p : Nat) : Prop := ∀ g, (chkF S g p).2 = 0
theorem CkA.end_ (S : ByteArray) : CkA S S.size := fun g => by rw [chkF_end S g _ (Nat.lt_irrefl _)]
theorem CkA.sign {S : ByteArray} {p : Nat} {c : UInt8} (hp : p < S.size) (h : S.get! p = c) (hc : jsg c) (hn : CkA S (p + 1)) : CkA S p := fun g => by
  cases g with
  | zero => rfl
  | succ g =>
    have hb : bad S p = false := by
      unfold bad
      rw [jsg_dec h hc]
      rcases hc with rfl | rfl | rfl | rfl | rfl | rfl | rfl <;> rfl
    rw [chkF_good S g p hp hb, jsg_dec h hc]
    exact hn g
theorem Mid.ck {S s : ByteArray} {d : Nat} (h : Mid S s d) (hn : CkA S (d + s.size)) : ∀ f p, p ≤ s.size → s.size ≤ p + f → (chkF s f p).2 = 0 → CkA S (d + p) := by
  have hz := h.size
  intro f
  induction f with
  | zero =>
    intro p h1 h2 _
    have e : p = s.size := by omega
    subst e; exact hn
  | succ f ih =>
    intro p h1 h2 hk
    by_cases hp : p < s.size
    · have hb : bad s p = false := by
        cases hb : bad s p
        · rfl
        · rw [chkF_bad s f p hp hb] at hk; cases hk
      have hB : bad S (d + p) = false := by
        unfold bad at hb ⊢; rw [h.dec hp]; exact hb
      rw [chkF_good s f p hp hb] at hk
      have hw := width_pos s p hp
      have hw2 := dec_le s p hp
      intro g
      cases g with
      | zero => rfl
      | succ g =>
        rw [chkF_good S g (d + p) (by omega) hB, h.dec hp, Nat.add_assoc]
        exact ih _ hw2 (by omega) hk g
    · have e : p = s.size := by omega
      subst e; exact hn
/-- What a good answer says. -/
theorem whole_ok {s : ByteArray} {most : Nat} {a : List Nd} (h : psRead s false most = .ok a) : s.size ≤ 4096 ∧ (chk s).2 = 0 ∧ a.length ≤ most ∧ ∃ t, psFrom s false mx63 (skp s 0) = .ok t ∧ rdRun s false (psFuel s) .cond t 0 = .ok (a, s.size) := by
  rw [read_eq] at h
  unfold rdWhole at h
  split at h
  · cases h
  · rename_i h4
    split at h
    · rename_i hc
      obtain ⟨r, h1, h⟩ := Pr.bind_ok h
      unfold rdX at h1
      obtain ⟨t, ht, h1⟩ := Pr.bind_ok h1
      obtain ⟨t2, _, h⟩ := Pr.bind_ok h
      have hlv : RdQ.cond.lvl := ⟨(fun _ e => by cases e), (fun _ _ e => by cases e)⟩
      obtain ⟨_, _, h3⟩ := rd_len s false _ .cond _ t 0 r hlv (from_at (skp_in (Nat.zero_le _)).2 ht) h1
      split at h
      · cases h
      · rename_i hlt
        split at h
        · cases h
        · rename_i hm
          rw [if_neg (fun x => by simp at x)] at h
          cases h
          have e : r.2 = s.size := by omega
          refine ⟨by omega, hc, by omega, t, ht, ?_⟩
          rw [← e]; exact h1
    · cases h
theorem whole_of {S : ByteArray} {most : Nat} {l : List Nd} {t : Tk} {f : Nat} (h4 : S.size ≤ 4096) (hc : CkA S 0) (ht : psFrom S false mx63 (skp S 0) = .ok t) (hf : f ≤ psFuel S) (h : rdRun S false f .cond t 0 = .ok (l, S.size)) :
    psRead S false most = if most < l.length then .bad S.size 10 else .ok l := by
  rw [read_eq]
  unfold rdWhole rdX
  rw [if_neg (by omega), if_pos (show (chk S).2 = 0 from hc S.size), ht]
  simp only [Pr.bind]
  rw [rd_more h hf]
  simp only [Pr.bind]
  rw [end_at]
  simp only [Pr.bind]
  rw [if_neg (Nat.lt_irrefl _), if_neg (fun x : false = true ∧ _ => by simp at x)]
/-- A good text in brackets. -/
theorem inner {S s : ByteArray} {d e most : Nat} {a : List Nd} (hI : Inn S s d e) (hr : psRead s false most = .ok a) (hN : ∀ p, p ≤ s.size → opn s p + ((1 : Nat) : Int) ≤ 100) {t : Tk} (h40 : t.what = 40) (hto : t.to = d) :
    rdRun S false (psFuel s + 2) .un t 0 = .ok (a, skp S (e + 1)) ∧ rdRun S false (psFuel s + 3) (.level 9) t 0 = .ok (a, skp S (e + 1)) := by
  obtain ⟨h4, hc, hm, t0, ht0, hrun⟩ := whole_ok hr
  have hle := (skp_in (s := s) (Nat.zero_le _)).2
  obtain ⟨t1, ht1, hR⟩ := hI.fr hle ht0
  have hlv : RdQ.cond.lvl := ⟨(fun _ e => by cases e), (fun _ _ e => by cases e)⟩
  have ho : opn s (skp s 0) = ((0 : Nat) : Int) := by rw [opn_skp]; rfl
  obtain ⟨_, hin⟩ := run_in hI false 1 hN _ .cond _ t0 t1 0 _ hlv (from_opn hle ht0) hR ho hrun
  have e0 : pmv s d e s.size = e := by unfold pmv; rw [if_neg (Nat.lt_irrefl _)]
  simp only [e0] at hin
  have hsk : skp S t.to = pmv s d e (skp s 0) := by rw [hto]; exact hI.sk (Nat.zero_le _)
  exact brackU h40 (by decide) (by rw [hsk]; exact ht1) hin hI.lt hI.br
/-- From the ninth level up to the whole rule. -/
theorem condB {S : ByteArray} {f : Nat} {t t1 : Tk} {o p : Nat} {l : List Nd} {top : Nat} (h : rdRun S false f (.level top) t o = .ok (l, p)) (ht : psFrom S false mx63 p = .ok t1) (hp : p ≤ S.size) (h1 : 1 ≤ top) (h9 : top ≤ 9) (h0 : (psOp t1.what).2 = 0) (h63 : t1.what ≠ 63) :
    rdRun S false (f + 11) .cond t o = .ok (l, p) := by
  have hl := climb h ht hp h9 (top - 1) 1 (by omega) fun j h1 h2 => by omega
  have hl := rd_more (g := f + 10) hl (by omega)
  show rdRun S false ((f + 10) + 1) .cond t o = _
  rw [rdRun, hl]
  simp only [Pr.bind]
  rw [ht]
  simp only [Pr.bind]
  rw [if_neg h63]
theorem op_end (S : ByteArray) : (psOp (psEnd S).what).2 = 0 ∧ (psEnd S).what ≠ 63 := ⟨by show (psOp 0).2 = 0; decide, by show (0 : Int) ≠ 63; decide⟩
/-- Not, or the other sign, of a good text. -/
theorem tjoin1 {S s : ByteArray} {most : Nat} {a : List Nd} (c : UInt8) (op : Int) (hc : c = 126 ∧ op = 4 ∨ c = 45 ∧ op = 3) (hI : Inn S s 2 (2 + s.size)) (hz : S.size = s.size + 3) (h4 : S.size ≤ 4096) (b0 : S.get! 0 = c) (b1 : S.get! 1 = 40)
    (hr : psRead s false most = .ok a) (hN : ∀ p, p ≤ s.size → opn s p + ((1 : Nat) : Int) ≤ 100) :
    psRead S false most = if most < (jn1 op a).length then .bad S.size 10 else .ok (jn1 op a) := by
  have hj : jsg c := by rcases hc with ⟨rfl, _⟩ | ⟨rfl, _⟩ <;> unfold jsg <;> simp
  have j40 : jsg 40 := by unfold jsg; simp
  have j41 : jsg 41 := by unfold jsg; simp
  have s0 : skp S 0 = 0 := skp_jsg (by omega) b0 hj
  have f0 : psFrom S false mx63 0 = .ok ⟨(c.toNat : Int), 0, 1, 0, 0⟩ := sign_at S false mx63 0 c (by omega) b0 hj
  have s1 : skp S 1 = 1 := skp_jsg (by omega) b1 j40
  have f1 : psFrom S false mx63 1 = .ok ⟨40, 1, 2, 0, 0⟩ := sign_at S false mx63 1 40 (by omega) b1 j40
  obtain ⟨hin, _⟩ := inner hI hr hN (t := ⟨40, 1, 2, 0, 0⟩) rfl rfl
  have e1 : 2 + s.size + 1 = S.size := by omega
  rw [e1, skp_all] at hin
  have hck : CkA S 0 := by
    refine CkA.sign (by omega) b0 hj (CkA.sign (by omega) b1 j40 ?_)
    have := hI.mid.ck (CkA.sign hI.lt hI.br j41 (by rw [e1]; exact CkA.end_ S)) s.size 0 (Nat.zero_le _) (by omega) (whole_ok hr).2.1
    exact this
  have hu : rdRun S false (psFuel s + 3) .un ⟨(c.toNat : Int), 0, 1, 0, 0⟩ 0 = .ok (jn1 op a, S.size) := by
    show rdRun S false ((psFuel s + 2) + 1) .un _ 0 = _
    rw [rdRun]
    rcases hc with ⟨rfl, rfl⟩ | ⟨rfl, rfl⟩
    · rw [if_neg (by decide), if_pos (by decide)]
      simp only
      rw [s1, f1]
      simp only [Pr.bind]
      rw [hin]
    · have hn : (numI S ((1 : Nat) : Int)).2.2 = 11 := by
        unfold numI numP
        rw [if_neg (by omega), Int.toNat_natCast, digZ_rn S 1 (by omega), jsg_dec b1 j40, if_pos (show digZ (((UInt8.toNat 40, 1) : Nat × Nat).1 : Int) = 0 from em_off.2.2.1)]
      rw [if_pos (by decide)]
      simp only
      rw [if_pos hn, s1, f1]
      simp only [Pr.bind]
      rw [hin]
  have h9 : rdRun S false (psFuel s + 4) (.level 9) ⟨(c.toNat : Int), 0, 1, 0, 0⟩ 0 = .ok (jn1 op a, S.size) := by
    show rdRun S false ((psFuel s + 3) + 1) (.level 9) _ 0 = _
    rw [rdRun, if_pos (by decide), hu]
  have hcd := condB h9 (end_at S false mx63) (Nat.le_refl _) (by omega) (by omega) (op_end S).1 (op_end S).2
  exact whole_of h4 hck (by rw [s0]; exact f0) (by unfold psFuel; omega) hcd
/-- The product of two good texts. -/
theorem tjoin2 {S s t : ByteArray} {most : Nat} {a b : List Nd} (hI : Inn S s 1 (1 + s.size)) (hJ : Inn S t (s.size + 4) (s.size + 4 + t.size)) (hz : S.size = s.size + t.size + 5) (h4 : S.size ≤ 4096) (b0 : S.get! 0 = 40) (b1 : S.get! (s.size + 2) = 42) (b2 : S.get! (s.size + 3) = 40)
    (hr : psRead s false most = .ok a) (hr2 : psRead t false most = .ok b) (hN : ∀ p, p ≤ s.size → opn s p + ((1 : Nat) : Int) ≤ 100) (hN2 : ∀ p, p ≤ t.size → opn t p + ((1 : Nat) : Int) ≤ 100) :
    psRead S false most = if most < (jn2 7 a b).length then .bad S.size 10 else .ok (jn2 7 a b) := by
  have j40 : jsg 40 := by unfold jsg; simp
  have j41 : jsg 41 := by unfold jsg; simp
  have j42 : jsg 42 := by unfold jsg; simp
  have s0 : skp S 0 = 0 := skp_jsg (by omega) b0 j40
  have f0 : psFrom S false mx63 0 = .ok ⟨40, 0, 1, 0, 0⟩ := sign_at S false mx63 0 40 (by omega) b0 j40
  have s1 : skp S (s.size + 2) = s.size + 2 := skp_jsg (by omega) b1 j42
  have f1 : psFrom S false mx63 (s.size + 2) = .ok ⟨42, s.size + 2, s.size + 3, 0, 0⟩ := sign_at S false mx63 _ 42 (by omega) b1 j42
  have s2 : skp S (s.size + 3) = s.size + 3 := skp_jsg (by omega) b2 j40
  have f2 : psFrom S false mx63 (s.size + 3) = .ok ⟨40, s.size + 3, s.size + 4, 0, 0⟩ := sign_at S false mx63 _ 40 (by omega) b2 j40
  obtain ⟨_, hin⟩ := inner hI hr hN (t := ⟨40, 0, 1, 0, 0⟩) rfl rfl
  obtain ⟨_, hin2⟩ := inner hJ hr2 hN2 (t := ⟨40, s.size + 3, s.size + 4, 0, 0⟩) rfl rfl
  have e1 : 1 + s.size + 1 = s.size + 2 := by omega
  have e2 : s.size + 4 + t.size + 1 = S.size := by omega
  rw [e1, s1] at hin
  rw [e2, skp_all] at hin2
  have hck : CkA S 0 := by
    have c1 : CkA S (s.size + 4) := hJ.mid.ck (CkA.sign hJ.lt hJ.br j41 (by rw [e2]; exact CkA.end_ S)) t.size 0 (Nat.zero_le _) (by omega) (whole_ok hr2).2.1
    have c2 : CkA S (1 + s.size) := CkA.sign hI.lt hI.br j41 (by rw [e1]; exact CkA.sign (by omega) b1 j42 (CkA.sign (by omega) b2 j40 c1))
    exact CkA.sign (by omega) b0 j40 (hI.mid.ck c2 s.size 0 (Nat.zero_le _) (by omega) (whole_ok hr).2.1)
  have h8 : rdRun S false (psFuel s + psFuel t + 6) (.level 8) ⟨40, 0, 1, 0, 0⟩ 0 = .ok (jn2 7 a b, S.size) := by
    show rdRun S false ((psFuel s + psFuel t + 5) + 1) (.level 8) _ 0 = _
    rw [rdRun, if_neg (by decide), rd_more (g := psFuel s + psFuel t + 5) hin (by omega)]
    simp only [Pr.bind]
    rw [f1]
    simp only [Pr.bind]
    show rdRun S false ((psFuel s + psFuel t + 4) + 1) (.loop 8 a) _ 0 = _
    rw [rdRun, if_pos (show (psOp 42).2 = 8 by decide)]
    simp only
    rw [s2, f2]
    simp only [Pr.bind]
    rw [rd_more (g := psFuel s + psFuel t + 4) hin2 (by omega)]
    simp only [Pr.bind]
    rw [if_neg (show ¬ ((psOp 42).1 = 15 ∨ (psOp 42).1 = 16) by decide), end_at]
    simp only [Pr.bind]
    show rdRun S false ((psFuel s + psFuel t + 3) + 1) (.loop 8 (jn2 7 a b)) _ 0 = _
    rw [rdRun, if_neg (by rw [(op_end S).1]; decide)]
    rfl
  have hcd := condB h8 (end_at S false mx63) (Nat.le_refl _) (by omega) (by omega) (op_end S).1 (op_end S).2
  exact whole_of h4 hck (by rw [s0]; exact f0) (by unfold psFuel; omega) hcd
/-- The choice. -/
theorem tjoin3 {S s t : ByteArray} {most : Nat} {a b : List Nd} (hI : Inn S s 1 (1 + s.size)) (hJ : Inn S t (s.size + 4) (s.size + 4 + t.size)) (hK : Inn S s (s.size + t.size + 7) (s.size + t.size + 7 + s.size)) (hz : S.size = s.size + t.size + s.size + 8) (h4 : S.size ≤ 4096)
    (b0 : S.get! 0 = 40) (b1 : S.get! (s.size + 2) = 63) (b2 : S.get! (s.size + 3) = 40) (b3 : S.get! (s.size + t.size + 5) = 58) (b4 : S.get! (s.size + t.size + 6) = 40)
    (hr : psRead s false most = .ok a) (hr2 : psRead t false most = .ok b) (hN : ∀ p, p ≤ s.size → opn s p + ((1 : Nat) : Int) ≤ 100) (hN2 : ∀ p, p ≤ t.size → opn t p + ((1 : Nat) : Int) ≤ 100) :
    psRead S false most = if most < (jn3 17 a b a).length then .bad S.size 10 else .ok (jn3 17 a b a) := by
  have j40 : jsg 40 := by unfold jsg; simp
  have j41 : jsg 41 := by unfold jsg; simp
  have j63 : jsg 63 := by unfold jsg; simp
  have j58 : jsg 58 := by unfold jsg; simp
  have s0 : skp S 0 = 0 := skp_jsg (by omega) b0 j40
  have f0 : psFrom S false mx63 0 = .ok ⟨40, 0, 1, 0, 0⟩ := sign_at S false mx63 0 40 (by omega) b0 j40
  have s1 : skp S (s.size + 2) = s.size + 2 := skp_jsg (by omega) b1 j63
  have f1 : psFrom S false mx63 (s.size + 2) = .ok ⟨63, s.size + 2, s.size + 3, 0, 0⟩ := sign_at S false mx63 _ 63 (by omega) b1 j63
  have s2 : skp S (s.size + 3) = s.size + 3 := skp_jsg (by omega) b2 j40
  have f2 : psFrom S false mx63 (s.size + 3) = .ok ⟨40, s.size + 3, s.size + 4, 0, 0⟩ := sign_at S false mx63 _ 40 (by omega) b2 j40
  have s3 : skp S (s.size + t.size + 5) = s.size + t.size + 5 := skp_jsg (by omega) b3 j58
  have f3 : psFrom S false mx63 (s.size + t.size + 5) = .ok ⟨58, s.size + t.size + 5, s.size + t.size + 6, 0, 0⟩ := sign_at S false mx63 _ 58 (by omega) b3 j58
  have s4 : skp S (s.size + t.size + 6) = s.size + t.size + 6 := skp_jsg (by omega) b4 j40
  have f4 : psFrom S false mx63 (s.size + t.size + 6) = .ok ⟨40, s.size + t.size + 6, s.size + t.size + 7, 0, 0⟩ := sign_at S false mx63 _ 40 (by omega) b4 j40
  obtain ⟨_, hin⟩ := inner hI hr hN (t := ⟨40, 0, 1, 0, 0⟩) rfl rfl
  obtain ⟨_, hin2⟩ := inner hJ hr2 hN2 (t := ⟨40, s.size + 3, s.size + 4, 0, 0⟩) rfl rfl
  obtain ⟨_, hin3⟩ := inner hK hr hN (t := ⟨40, s.size + t.size + 6, s.size + t.size + 7, 0, 0⟩) rfl rfl
  have e1 : 1 + s.size + 1 = s.size + 2 := by omega
  have e2 : s.size + 4 + t.size + 1 = s.size + t.size + 5 := by omega
  have e3 : s.size + t.size + 7 + s.size + 1 = S.size := by omega
  rw [e1, s1] at hin
  rw [e2, s3] at hin2
  rw [e3, skp_all] at hin3
  have hck : CkA S 0 := by
    have c0 : CkA S (s.size + t.size + 7) := hK.mid.ck (CkA.sign hK.lt hK.br j41 (by rw [e3]; exact CkA.end_ S)) s.size 0 (Nat.zero_le _) (by omega) (whole_ok hr).2.1
    have c1 : CkA S (s.size + 4) := hJ.mid.ck (CkA.sign hJ.lt hJ.br j41 (by rw [e2]; exact CkA.sign (by omega) b3 j58 (CkA.sign (by omega) b4 j40 c0))) t.size 0 (Nat.zero_le _) (by omega) (whole_ok hr2).2.1
    have c2 : CkA S (1 + s.size) := CkA.sign hI.lt hI.br j41 (by rw [e1]; exact CkA.sign (by omega) b1 j63 (CkA.sign (by omega) b2 j40 c1))
    exact CkA.sign (by omega) b0 j40 (hI.mid.ck c2 s.size 0 (Nat.zero_le _) (by omega) (whole_ok hr).2.1)
  have k1 := climb hin f1 (by omega) (Nat.le_refl 9) 8 1 (by omega) fun j h1 h2 => by
    have : (psOp 63).2 = 0 := by decide
    show (psOp 63).2 ≠ j
    omega
  have k2 := condB hin2 f3 (by omega) (by omega) (by omega) (by show (psOp 58).2 = 0; decide) (by show (58 : Int) ≠ 63; decide)
  have k3 := condB hin3 (end_at S false mx63) (Nat.le_refl _) (by omega) (by omega) (op_end S).1 (op_end S).2
  have hcd : rdRun S false (psFuel s + psFuel t + 20) .cond ⟨40, 0, 1, 0, 0⟩ 0 = .ok (jn3 17 a b a, S.size) := by
    show rdRun S false ((psFuel s + psFuel t + 19) + 1) .cond _ 0 = _
    rw [rdRun, rd_more (g := psFuel s + psFuel t + 19) k1 (by omega)]
    simp only [Pr.bind]
    rw [f1]
    simp only [Pr.bind]
    rw [if_pos trivial, s2, f2]
    simp only [Pr.bind]
    rw [rd_more (g := psFuel s + psFuel t + 19) k2 (by omega)]
    simp only [Pr.bind]
    rw [f3]
    simp only [Pr.bind]
    rw [if_pos trivial, if_pos trivial, s4, f4]
    simp only [Pr.bind]
    rw [rd_more (g := psFuel s + psFuel t + 19) k3 (by omega)]
  exact whole_of h4 hck (by rw [s0]; exact f0) (by unfold psFuel; omega) hcd
end Go.Proofs.YtaennaoakopgfaaDoor
