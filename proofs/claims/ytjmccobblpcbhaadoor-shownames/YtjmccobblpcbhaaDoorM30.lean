/-
  EmTok, EmNest, EmRun.
-/
import Derived.Shelf.Unicode.DecodeSlow
import Derived.Laws.RangeAny
import Derived.Shelf.Strings.Builder1
import Derived.Shelf.Small.Utf8
import Derived.Shelf.Small.Bits
import Derived.Shelf.Strings.BuilderF
import Derived.Shelf.Strings.BuilderK
import Derived.Shelf.Strings.BuilderRune
import Derived.Shelf.Utf8.AppendRune
import Derived.Shelf.Strconv.Itoa0
import Derived.Shelf.Strconv.Itoa1
import Derived.Shelf.LaysM
import Derived.Shelf.Strconv.Itoa2
import Derived.Shelf.Strconv.Itoa3
import Derived.Shelf.Strconv.Itoa4
import Derived.Shelf.Strings.Prefix
import Derived.Shelf.Unicode.DecodeAny
import Derived.Test.YtjmccobblpcbhaaDoorProg
import Derived.WalkKit
import Derived.Deep.DeepFit
import Derived.Lib.OthersKept
import Derived.Lib.RuneCountTail
import Derived.Lib.MapLaws
import Derived.Sort.Walk0
import Derived.Laws.DeepStrings4
import Derived.Deep.AppendLies
import Derived.Deep.OwnRows
import Derived.Laws.AppendOwnNone
import Derived.Deep.QuietTactic
import Derived.BigQuiet
import Derived.Deep.RegionWith
import Derived.Lib.QuietBelow
import Derived.StillTail
import Derived.Below
import Derived.Lib.Small
import Derived.Lib.Strings
import Derived.Deep.RegionHeld3
import Derived.Laws.ResultCell
import Derived.Deep.Heap
import Derived.Laws.Rows
import Derived.Test.YtjmccobblpcbhaaDoorM01
import Derived.Test.YtjmccobblpcbhaaDoorM02
import Derived.Test.YtjmccobblpcbhaaDoorM03
import Derived.Test.YtjmccobblpcbhaaDoorM04
import Derived.Test.YtjmccobblpcbhaaDoorM05
import Derived.Test.YtjmccobblpcbhaaDoorM06
import Derived.Test.YtjmccobblpcbhaaDoorM07
import Derived.Test.YtjmccobblpcbhaaDoorM08
import Derived.Test.YtjmccobblpcbhaaDoorM09
import Derived.Test.YtjmccobblpcbhaaDoorM13
import Derived.Test.YtjmccobblpcbhaaDoorM15
import Derived.Test.YtjmccobblpcbhaaDoorM16
import Derived.Test.YtjmccobblpcbhaaDoorM17
import Derived.Test.YtjmccobblpcbhaaDoorM18
import Derived.Test.YtjmccobblpcbhaaDoorM19
import Derived.Test.YtjmccobblpcbhaaDoorM20
import Derived.Test.YtjmccobblpcbhaaDoorM21
import Derived.Test.YtjmccobblpcbhaaDoorM28
import Derived.Test.YtjmccobblpcbhaaDoorM29
set_option linter.unusedSimpArgs false
set_option linter.unusedVariables false
namespace Go.Proofs.YtjmccobblpcbhaaDoor
open Go.Lib

set_option maxRecDepth 100000 in
theorem em_on : onB 41 = false ∧ onB 32 = false ∧ digZ 41 = 0 ∧ digZ 32 = 0 ∧ kd 41 = 4 ∧ kd 32 = 3 := by decide +kernel
theorem Mid.off {S s : ByteArray} {d : Nat} (h : Mid S s d) : onB (Utf8.decode S (d + s.size)).1 = false ∧ digZ (Utf8.decode S (d + s.size)).1 = 0 := by
  rcases h.behind with e | e <;> rw [e]
  · exact ⟨em_on.1, em_on.2.2.1⟩
  · exact ⟨em_on.2.1, em_on.2.2.2.1⟩
theorem Mid.sp {S s : ByteArray} {d : Nat} (h : Mid S s d) : ∀ (f g p : Nat), p ≤ s.size → s.size ≤ p + f → S.size ≤ d + p + g → spF S g (d + p) = d + spF s f p := by
  have hz := h.size
  have fin : ∀ f g, spF S g (d + s.size) = d + spF s f s.size := fun f g => by rw [spF_end s f _ (Nat.lt_irrefl _), spF_off S g _ hz h.off.1]
  intro f
  induction f with
  | zero =>
    intro g p hp hf hg
    have e : p = s.size := by omega
    subst e
    exact fin 0 g
  | succ f ih =>
    intro g p hp hf hg
    by_cases hlt : p < s.size
    · obtain ⟨g, rfl⟩ : ∃ k, g = k + 1 := ⟨g - 1, by omega⟩
      have hw := width_pos s p hlt
      have hw2 := dec_le s p hlt
      cases ho : onB (Utf8.decode s p).1
      · rw [spF_off s _ p hlt ho, spF_off S _ (d + p) (by omega) (by rw [h.dec hlt]; exact ho)]
      · rw [spF_on s f p hlt ho, spF_on S g (d + p) (by omega) (by rw [h.dec hlt]; exact ho), h.dec hlt, Nat.add_assoc]
        exact ih g _ hw2 (by omega) (by omega)
    · have e : p = s.size := by omega
      subst e
      exact fin (f + 1) g
def nsh (d : Nat) (r : Nat × Nat × Int) : Nat × Nat × Int := (r.1, if r.2.2 = 0 then d + r.2.1 else r.2.1, r.2.2)
theorem Mid.nu {S s : ByteArray} {d : Nat} (h : Mid S s d) (z : Int) (hz0 : z ≠ 0) : ∀ (f g p n : Nat), p ≤ s.size → s.size ≤ p + f → S.size ≤ d + p + g → nuF S z g (d + p) n = nsh d (nuF s z f p n) := by
  have hz := h.size
  have fin : ∀ f g n, nuF S z g (d + s.size) n = nsh d (nuF s z f s.size n) := fun f g n => by
    rw [nuF_end s z f _ n (Nat.lt_irrefl _), nuF_off S z g _ n (by rw [h.off.2]; exact fun c => hz0 c.symm)]
    rfl
  intro f
  induction f with
  | zero =>
    intro g p n hp hf hg
    have e : p = s.size := by omega
    subst e
    exact fin 0 g n
  | succ f ih =>
    intro g p n hp hf hg
    by_cases hlt : p < s.size
    · obtain ⟨g, rfl⟩ : ∃ k, g = k + 1 := ⟨g - 1, by omega⟩
      have hw := width_pos s p hlt
      have hw2 := dec_le s p hlt
      by_cases hk : digZ (Utf8.decode s p).1 = z
      · by_cases hl : 18446744073709551615 < n * 10 + (digV (Utf8.decode s p).1).toNat
        · rw [nuF_large s z f p n hlt hk hl, nuF_large S z g (d + p) n (by omega) (by rw [h.dec hlt]; exact hk) (by rw [h.dec hlt]; exact hl)]
          rfl
        · rw [nuF_on s z f p n hlt hk hl, nuF_on S z g (d + p) n (by omega) (by rw [h.dec hlt]; exact hk) (by rw [h.dec hlt]; exact hl), h.dec hlt, Nat.add_assoc]
          exact ih g _ _ hw2 (by omega) (by omega)
      · rw [nuF_off s z _ p n hk, nuF_off S z _ (d + p) n (by rw [h.dec hlt]; exact hk)]
        rfl
    · have e : p = s.size := by omega
      subst e
      exact fin (f + 1) g n
theorem Mid.num {S s : ByteArray} {d : Nat} (h : Mid S s d) {p : Nat} (hp : p ≤ s.size) : numI S ((d + p : Nat) : Int) = nsh d (numI s (p : Int)) := by
  have hz := h.size
  unfold numI
  rw [if_neg (by omega), if_neg (by omega), Int.toNat_natCast, Int.toNat_natCast]
  unfold numP
  by_cases hlt : p < s.size
  · rw [digZ_rn s p hlt, digZ_rn S (d + p) (by omega), h.dec hlt]
    by_cases hk : digZ (Utf8.decode s p).1 = 0
    · rw [if_pos hk, if_pos hk]; rfl
    · rw [if_neg hk, if_neg hk]
      exact h.nu _ hk _ _ _ _ hp (by omega) (by omega)
  · have e : p = s.size := by omega
    subst e
    have e1 : rn s s.size = -1 := by unfold rn; rw [if_neg (Nat.lt_irrefl _)]
    rw [e1, digZ_rn S (d + s.size) hz, if_pos h.off.2, if_pos (by decide)]
    rfl
theorem two_list (l : List UInt8) (c : UInt8) : hasPrefix l [c, c] = true ↔ l[0]? = some c ∧ l[1]? = some c := by
  unfold hasPrefix
  rcases l with _ | ⟨a, _ | ⟨b, l⟩⟩
  · simp
  · simp [List.isPrefixOf]
  · simp only [List.isPrefixOf, Bool.and_true, Bool.and_eq_true, beq_iff_eq, List.getElem?_cons_zero, List.getElem?_cons_succ, Option.some.injEq]
    constructor
    · rintro ⟨x, y⟩; exact ⟨x.symm, y.symm⟩
    · rintro ⟨x, y⟩; exact ⟨x.symm, y.symm⟩
theorem ba_at (s : ByteArray) (p i : Nat) : (s.extract p s.size).data.toList[i]? = if p + i < s.size then some (s.get! (p + i)) else none := by
  rw [extract_data]
  have hl : s.data.toList.length = s.size := (size_eq s).symm
  rw [List.getElem?_take, List.getElem?_drop]
  by_cases hi : p + i < s.size
  · rw [if_pos (by omega), if_pos hi, ba_get s _ hi]
  · rw [if_neg hi]
    split
    · exact List.getElem?_eq_none (by omega)
    · rfl
theorem two_iff (s : ByteArray) (p : Nat) (c : UInt8) : psTwo s p c = true ↔ p + 1 < s.size ∧ s.get! p = c ∧ s.get! (p + 1) = c := by
  unfold psTwo
  rw [two_list, ba_at, ba_at]
  by_cases h1 : p + 1 < s.size
  · rw [if_pos (by omega), if_pos h1]
    simp [h1]
  · rw [if_neg h1]
    simp [h1]
theorem Mid.two {S s : ByteArray} {d : Nat} (h : Mid S s d) {p : Nat} (hp : p < s.size) (c : UInt8) (h1 : c ≠ 41) (h2 : c ≠ 32) : psTwo S (d + p) c = psTwo s p c := by
  have hz := h.size
  rw [Bool.eq_iff_iff, two_iff, two_iff, h.get p hp, Nat.add_assoc]
  by_cases hl : p + 1 < s.size
  · rw [h.get (p + 1) hl]
    constructor
    · intro x; exact ⟨hl, x.2⟩
    · intro x; exact ⟨by omega, x.2⟩
  · have e : p + 1 = s.size := by omega
    constructor
    · rintro ⟨_, _, x⟩
      rw [e] at x
      rcases h.stop with y | y
      · exact absurd (x.symm.trans y) h1
      · exact absurd (x.symm.trans y) h2
    · intro x; omega
theorem Mid.sign {S s : ByteArray} {d : Nat} (h : Mid S s d) (pat : Bool) {p : Nat} (hp : p < s.size) (r : Int) : psSign S pat (d + p) r = psSign s pat p r := by
  unfold psSign
  rw [h.two hp 61 (by decide) (by decide), h.two hp 60 (by decide) (by decide), h.two hp 62 (by decide) (by decide)]
/-- The same token, d places on. -/
structure TkS (d : Nat) (t t' : Tk) : Prop where
  what : t'.what = t.what
  at_ : t'.from_ = d + t.from_
  n : t'.n = t.n
  err : t'.err = t.err
  to : (t.what = 48 → t.err = 0) → t'.to = d + t.to
/-- The same answer, d places on. -/
def PrS (d : Nat) : Pr Tk → Pr Tk → Prop
  | .ok t, .ok t' => TkS d t t'
  | .bad p e, .bad q e' => q = d + p ∧ e' = e
  | .out, .out => True
  | _, _ => False
theorem Mid.from_ {S s : ByteArray} {d : Nat} (h : Mid S s d) (pat : Bool) (m : Nat) {p : Nat} (hp : p < s.size) : PrS d (psFrom s pat m p) (psFrom S pat m (d + p)) := by
  have hz := h.size
  unfold psFrom
  rw [if_pos hp, if_pos (by omega), h.dec hp]
  unfold psAt
  by_cases k1 : kd (Utf8.decode s p).1 = 1
  · rw [if_pos k1, if_pos k1]
    obtain ⟨e1, e2, e3⟩ := span_in' s p hp k1
    obtain ⟨g1, g2, g3⟩ := span_in' S (d + p) (by omega) (by rw [h.dec hp]; exact k1)
    rw [e1, g1]
    simp only [Int.toNat_natCast]
    rw [h.sp s.size S.size p (by omega) (by omega) (by omega)]
    simp only [h.ext (Nat.le_of_lt e2) e3]
    exact ⟨rfl, rfl, rfl, rfl, fun _ => rfl⟩
  · rw [if_neg k1, if_neg k1]
    by_cases k2 : kd (Utf8.decode s p).1 = 2
    · rw [if_pos k2, if_pos k2, h.num (by omega)]
      refine ⟨rfl, rfl, rfl, rfl, fun h0 => ?_⟩
      have h0 := h0 rfl
      simp only at h0
      split at h0
      · cases h0
      · show (nsh d _).2.1 = _
        unfold nsh
        simp only
        rw [if_pos h0]
    · rw [if_neg k2, if_neg k2, h.sign pat hp]
      by_cases k4 : kd (Utf8.decode s p).1 = 4 ∧ 0 < (psSign s pat p (Utf8.decode s p).1).2
      · rw [if_pos k4, if_pos k4]
        exact ⟨rfl, rfl, rfl, rfl, fun _ => Nat.add_assoc _ _ _⟩
      · rw [if_neg k4, if_neg k4]
        exact ⟨rfl, rfl⟩
/-- A bracket that closes, as a token. -/
theorem close_at (S : ByteArray) (pat : Bool) (m e : Nat) (he : e < S.size) (h : S.get! e = 41) : psFrom S pat m e = .ok ⟨41, e, e + 1, 0, 0⟩ := by
  have hd : (Utf8.decode S e).1 = 41 := by rw [decode_at, h]; unfold decodeN; rfl
  have h2 : ∀ c : UInt8, c ≠ 41 → psTwo S e c = false := fun c hc => by
    cases hb : psTwo S e c
    · rfl
    · exact absurd (((two_iff S e c).1 hb).2.1.symm.trans h) hc
  have hsg : psSign S pat e 41 = (41, 1) := by
    unfold psSign
    rw [h2 61 (by decide), h2 60 (by decide), h2 62 (by decide)]
    simp only [Bool.false_eq_true, if_false]
    rw [if_neg (by decide), if_neg (fun c => absurd c.1 (by decide))]
    rfl
  have hdI : (((Utf8.decode S e).1 : Nat) : Int) = 41 := by rw [hd]; rfl
  unfold psFrom
  rw [if_pos he, hdI]
  unfold psAt
  rw [if_neg (by rw [em_on.2.2.2.2.1]; decide), if_neg (by rw [em_on.2.2.2.2.1]; decide), hsg, if_pos ⟨em_on.2.2.2.2.1, by decide⟩]
  rfl
end Go.Proofs.YtjmccobblpcbhaaDoor

set_option linter.unusedSimpArgs false
set_option linter.unusedVariables false
namespace Go.Proofs.YtjmccobblpcbhaaDoor
open Go.Lib

def brk1 (b : UInt8) : Int := if b = 40 then 1 else if b = 41 then -1 else 0
/-- How many brackets are open at p. -/
def opn (s : ByteArray) : Nat → Int
  | 0 => 0
  | p + 1 => opn s p + brk1 (s.get! p)
def brR (r : Int) : Int := if r = 40 then 1 else if r = 41 then -1 else 0
theorem brk1_hi (b : UInt8) (h : 128 ≤ b.toNat) : brk1 b = 0 := by
  unfold brk1
  rw [if_neg (fun c => by rw [c] at h; simp at h), if_neg (fun c => by rw [c] at h; simp at h)]
theorem brk1_lo (b : UInt8) : brk1 b = brR (b.toNat : Int) := by
  unfold brk1 brR
  have e : ∀ c : UInt8, (b = c) ↔ ((b.toNat : Int) = (c.toNat : Int)) := fun c => by
    rw [← UInt8.toNat_inj]; omega
  have h40 := e 40
  have h41 := e 41
  simp only [h40, h41]
  rfl
theorem opn_dec (s : ByteArray) (p : Nat) (hp : p < s.size) : opn s (p + (Utf8.decode s p).2) = opn s p + brR (((Utf8.decode s p).1 : Nat) : Int) := by
  rw [decode_at]
  have big : ∀ n : Nat, 128 ≤ n → brR (n : Int) = 0 := fun n hn => by unfold brR; rw [if_neg (by omega), if_neg (by omega)]
  rcases Nat.lt_or_ge (s.get! p).toNat 128 with c | c
  · have e : decodeN (s.size - p) (s.get! p).toNat (s.get! (p + 1)).toNat (s.get! (p + 2)).toNat (s.get! (p + 3)).toNat = ((s.get! p).toNat, 1) := by unfold decodeN; rw [if_pos c]
    rw [e]
    show opn s p + brk1 (s.get! p) = _
    rw [brk1_lo]
  · rcases decodeN_shape (s.size - p) (s.get! p).toNat (s.get! (p + 1)).toNat (s.get! (p + 2)).toNat (s.get! (p + 3)).toNat with ⟨c', e⟩ | ⟨k1, k2, k3, cv, e⟩ | ⟨k1, k2, k3, k4, cv, cs, e⟩ | ⟨k1, k2, k3, k4, k5, cv, cw, e⟩ | e
    · omega
    · rw [e, big _ cv]
      show opn s p + brk1 (s.get! p) + brk1 (s.get! (p + 1)) = _
      rw [brk1_hi _ c, brk1_hi _ (by omega)]; omega
    · rw [e, big _ (by omega)]
      show opn s p + brk1 (s.get! p) + brk1 (s.get! (p + 1)) + brk1 (s.get! (p + 2)) = _
      rw [brk1_hi _ c, brk1_hi _ (by omega), brk1_hi _ (by omega)]; omega
    · rw [e, big _ (by omega)]
      show opn s p + brk1 (s.get! p) + brk1 (s.get! (p + 1)) + brk1 (s.get! (p + 2)) + brk1 (s.get! (p + 3)) = _
      rw [brk1_hi _ c, brk1_hi _ (by omega), brk1_hi _ (by omega), brk1_hi _ (by omega)]; omega
    · rw [e, big _ (by omega)]
      show opn s p + brk1 (s.get! p) = _
      rw [brk1_hi _ c]
set_option maxRecDepth 100000 in
theorem em_off : onB 40 = false ∧ onB 41 = false ∧ digZ 40 = 0 ∧ digZ 41 = 0 ∧ kd 40 = 4 ∧ kd 41 = 4 := by decide +kernel
theorem brR_of {P : Int → Prop} (h0 : ¬ P 40) (h1 : ¬ P 41) {r : Int} (h : P r) : brR r = 0 := by
  unfold brR
  have n0 : ¬ r = 40 := fun c => by subst c; exact h0 h
  have n1 : ¬ r = 41 := fun c => by subst c; exact h1 h
  rw [if_neg n0, if_neg n1]
theorem brR_on {r : Int} (h : onB r = true) : brR r = 0 := brR_of (P := fun r => onB r = true) (by rw [em_off.1]; decide) (by rw [em_off.2.1]; decide) h
theorem brR_dig {r : Int} (h : digZ r ≠ 0) : brR r = 0 := brR_of (P := fun r => digZ r ≠ 0) (fun c => c em_off.2.2.1) (fun c => c em_off.2.2.2.1) h
theorem brR_blank {r : Int} (h : kd r = 3) : brR r = 0 := brR_of (P := fun r => kd r = 3) (by rw [em_off.2.2.2.2.1]; decide) (by rw [em_off.2.2.2.2.2]; decide) h
theorem opn_sp (s : ByteArray) : ∀ f p, opn s (spF s f p) = opn s p := by
  intro f
  induction f with
  | zero => intro p; rfl
  | succ f ih =>
    intro p
    by_cases hp : p < s.size
    · cases ho : onB (Utf8.decode s p).1
      · rw [spF_off s _ p hp ho]
      · rw [spF_on s f p hp ho, ih, opn_dec s p hp, brR_on ho]; omega
    · rw [spF_end s _ p hp]
theorem opn_skip (s : ByteArray) : ∀ f p, opn s (psSkip s f p) = opn s p := by
  intro f
  induction f with
  | zero => intro p; rfl
  | succ f ih =>
    intro p
    simp only [psSkip]
    split
    · rename_i hp
      split
      · rename_i hk
        rw [ih, opn_dec s p hp, brR_blank hk]; omega
      · rfl
    · rfl
theorem opn_skp (s : ByteArray) (p : Nat) : opn s (skp s p) = opn s p := opn_skip s _ p
theorem opn_nu (s : ByteArray) (z : Int) (hz : z ≠ 0) : ∀ f p n, (nuF s z f p n).2.2 = 0 → opn s (nuF s z f p n).2.1 = opn s p := by
  intro f
  induction f with
  | zero => intro p n _; rfl
  | succ f ih =>
    intro p n h
    by_cases hp : p < s.size
    · by_cases hk : digZ (Utf8.decode s p).1 = z
      · by_cases hl : 18446744073709551615 < n * 10 + (digV (Utf8.decode s p).1).toNat
        · rw [nuF_large s z f p n hp hk hl] at h; cases h
        · rw [nuF_on s z f p n hp hk hl] at h ⊢
          rw [ih _ _ h, opn_dec s p hp, brR_dig (by rw [hk]; exact hz)]; omega
      · rw [nuF_off s z _ p n hk]
    · rw [nuF_end s z _ p n hp]
theorem opn_num (s : ByteArray) (p : Nat) (hp : p < s.size) (h : (numI s p).2.2 = 0) : opn s (numI s p).2.1 = opn s p := by
  unfold numI at h ⊢
  rw [if_neg (by omega), Int.toNat_natCast] at h ⊢
  unfold numP at h ⊢
  by_cases hz : digZ (rn s p) = 0
  · rw [if_pos hz] at h; cases h
  · rw [if_neg hz] at h ⊢
    exact opn_nu s _ hz _ _ _ h
theorem plain_br (r : Int) : brR (psPlain r) = brR r := by
  unfold psPlain
  repeat' split
  all_goals first | rfl | (subst_vars; rfl) | (rename_i h; rcases h with h | h <;> (subst h; rfl))
theorem opn_sign (s : ByteArray) (pat : Bool) (p : Nat) (hp : p < s.size) (hk : kd (Utf8.decode s p).1 = 4) (h0 : 0 < (psSign s pat p (Utf8.decode s p).1).2) :
    opn s (p + (psSign s pat p (Utf8.decode s p).1).2.toNat) = opn s p + brR (psSign s pat p (Utf8.decode s p).1).1 := by
  have two : ∀ c : UInt8, brk1 c = 0 → psTwo s p c = true → ∀ x : Int, brR x = 0 → opn s (p + (2 : Int).toNat) = opn s p + brR x := fun c hc h2 x hx => by
    obtain ⟨_, e1, e2⟩ := (two_iff s p c).1 h2
    show opn s p + brk1 (s.get! p) + brk1 (s.get! (p + 1)) = _
    rw [e1, e2, hc, hx]; omega
  unfold psSign at h0 ⊢
  split
  · rename_i h2; exact two 61 (by decide) h2 _ (by decide)
  · rename_i n1
    rw [if_neg n1] at h0
    split
    · rename_i h2; exact two 60 (by decide) h2 _ (by decide)
    · rename_i n2
      rw [if_neg n2] at h0
      split
      · rename_i h2; exact two 62 (by decide) h2 _ (by decide)
      · rename_i n3
        rw [if_neg n3] at h0
        split
        · rename_i n4; rw [if_pos n4] at h0; simp at h0
        · rename_i n4
          rw [if_neg n4] at h0
          split
          · rename_i n5; rw [if_pos n5] at h0; simp at h0
          · simp only
            rw [len_dec s p hp hk, Int.toNat_natCast, opn_dec s p hp, plain_br]
/-- A token at a, and what it opens. -/
structure TkO (s : ByteArray) (a : Nat) (t : Tk) : Prop where
  is : TkA s a t
  opn : t.err = 0 → opn s t.to = opn s a + brR t.what
theorem from_opn {s : ByteArray} {pat : Bool} {m a : Nat} {t : Tk} (ha : a ≤ s.size) (h : psFrom s pat m a = .ok t) : TkO s a t := by
  refine ⟨from_at ha h, fun h0 => ?_⟩
  unfold psFrom at h
  split at h
  · rename_i hp
    unfold psAt at h
    split at h
    · rename_i k1
      obtain ⟨e1, e2, e3⟩ := span_in' s a hp k1
      rw [e1] at h
      simp only [Int.toNat_natCast] at h
      cases h
      show opn s (spF s s.size a) = _
      rw [opn_sp]
      show _ = _ + (0 : Int)
      omega
    · split at h
      · rename_i k2
        cases h
        simp only at h0
        split at h0
        · cases h0
        · show opn s (numI s a).2.1 = _
          rw [opn_num s a hp h0]
          show _ = _ + (0 : Int)
          omega
      · split at h
        · rename_i k4
          cases h
          exact opn_sign s pat a hp k4.1 k4.2
        · cases h
  · cases h
    have : a = s.size := by omega
    subst this
    show opn s s.size = _ + (0 : Int)
    omega
end Go.Proofs.YtjmccobblpcbhaaDoor

set_option linter.unusedSimpArgs false
set_option linter.unusedVariables false
namespace Go.Proofs.YtjmccobblpcbhaaDoor
open Go.Lib

theorem op_br {c : Int} {lv : Nat} (h : (psOp c).2 = lv) (hl : 1 ≤ lv) : brR c = 0 := by
  have h0 : c ≠ 40 := by rintro rfl; simp [psOp] at h; omega
  have h1 : c ≠ 41 := by rintro rfl; simp [psOp] at h; omega
  unfold brR
  rw [if_neg h0, if_neg h1]
/-- s inside S, at d; e: where the bracket stands that closes it. -/
structure Inn (S s : ByteArray) (d e : Nat) : Prop where
  mid : Mid S s d
  beh : skp S (d + s.size) = e
  lt : e < S.size
  br : S.get! e = 41
def pmv (s : ByteArray) (d e p : Nat) : Nat := if p < s.size then d + p else e
theorem Inn.sk {S s : ByteArray} {d e : Nat} (h : Inn S s d e) {p : Nat} (hp : p ≤ s.size) : skp S (d + p) = pmv s d e (skp s p) := by
  have hz := h.mid.size
  have h1 := h.mid.skip s.size p hp (by omega)
  have h2 := h.mid.skip s.size s.size (Nat.le_refl _) (by omega)
  have e2 : s.size + (S.size - s.size) = S.size := by omega
  rw [e2] at h1 h2
  have h3 := (skp_in (s := s) (Nat.le_refl s.size)).1
  have h4 : ¬ psSkip s s.size s.size < s.size := Nat.not_lt.2 h3
  rw [if_neg h4] at h2
  have h5 := h.beh
  unfold skp at h5 ⊢
  rw [h1, ← h2, h5]
  rfl
def TkR (s : ByteArray) (d e : Nat) (t t' : Tk) : Prop := (TkS d t t' ∧ t.from_ < s.size) ∨ (t = psEnd s ∧ t' = ⟨41, e, e + 1, 0, 0⟩)
theorem Inn.fr {S s : ByteArray} {d e : Nat} (h : Inn S s d e) {pat : Bool} {m p : Nat} (hp : p ≤ s.size) {t : Tk} (ht : psFrom s pat m p = .ok t) : ∃ t', psFrom S pat m (pmv s d e p) = .ok t' ∧ TkR s d e t t' := by
  unfold pmv
  by_cases hl : p < s.size
  · rw [if_pos hl]
    have := h.mid.from_ pat m hl
    rw [ht] at this
    have ha := (from_at hp ht).at_
    cases hS : psFrom S pat m (d + p) with
    | ok t' => rw [hS] at this; exact ⟨t', rfl, .inl ⟨this, by omega⟩⟩
    | bad q er => rw [hS] at this; exact this.elim
    | out => rw [hS] at this; exact this.elim
  · rw [if_neg hl]
    refine ⟨_, close_at S pat m e h.lt h.br, .inr ⟨?_, rfl⟩⟩
    unfold psFrom at ht
    rw [if_neg hl] at ht
    cases ht; rfl
theorem TkR.is {s : ByteArray} {d e : Nat} {t t' : Tk} (h : TkR s d e t t') {c : Int} (h0 : c ≠ 0) (h1 : c ≠ 41) : t'.what = c ↔ t.what = c := by
  rcases h with ⟨h, _⟩ | ⟨h, h'⟩
  · rw [h.what]
  · subst h; subst h'
    exact ⟨fun x => absurd x.symm h1, fun x => absurd x.symm h0⟩
theorem TkR.on {s : ByteArray} {d e : Nat} {t t' : Tk} (h : TkR s d e t t') (h0 : t.what ≠ 0) : TkS d t t' ∧ t.from_ < s.size := by
  rcases h with h | ⟨h, h'⟩
  · exact h
  · subst h; exact absurd rfl h0
theorem TkR.op {s : ByteArray} {d e : Nat} {t t' : Tk} (h : TkR s d e t t') : psOp t'.what = psOp t.what := by
  rcases h with ⟨h, _⟩ | ⟨h, h'⟩
  · rw [h.what]
  · subst h; subst h'; rfl
theorem TkR.pm {s : ByteArray} {d e : Nat} {t t' : Tk} (h : TkR s d e t t') : t'.from_ = pmv s d e t.from_ := by
  unfold pmv
  rcases h with ⟨h, hl⟩ | ⟨h, h'⟩
  · rw [if_pos hl, h.at_]
  · subst h; subst h'
    rw [if_neg (by unfold psEnd; exact Nat.lt_irrefl _)]
/-- Behind a token that is none of a number's faults. -/
theorem Inn.nx {S s : ByteArray} {d e : Nat} (h : Inn S s d e) {a : Nat} {t t' : Tk} (ha : TkA s a t) (hr : TkR s d e t t') (h0 : t.what ≠ 0) (he : t.err = 0) : skp S t'.to = pmv s d e (skp s t.to) := by
  obtain ⟨hs, hl⟩ := hr.on h0
  rw [hs.to (fun _ => he)]
  exact h.sk (ha.good he).2.1
theorem Inn.lit {S s : ByteArray} {d e : Nat} (h : Inn S s d e) {a : Nat} {t t' : Tk} (ha : TkA s a t) (hr : TkR s d e t t') {v : Int} {r : List Nd × Nat} (hk : rdLit s v t = .ok r) : rdLit S v t' = .ok (r.1, pmv s d e r.2) := by
  unfold rdLit at hk ⊢
  split at hk
  · rename_i h1
    rw [if_pos ((hr.is (c := 48) (by decide) (by decide)).2 h1)]
    split at hk
    · rename_i h2
      have h0 : t.what ≠ 0 := by rw [h1]; decide
      rw [if_pos (by rw [(hr.on h0).1.err]; exact h2), h.nx ha hr h0 h2]
      cases hk; rfl
    · cases hk
  · cases hk
theorem Inn.named {S s : ByteArray} {d e : Nat} (h : Inn S s d e) {a : Nat} {t t' : Tk} (ha : TkA s a t) (hr : TkR s d e t t') {v : Int} {r : List Nd × Nat} (hk : rdNamed s v t = .ok r) : rdNamed S v t' = .ok (r.1, pmv s d e r.2) := by
  unfold rdNamed at hk ⊢
  split at hk
  · rename_i h1
    rw [if_pos ((hr.is (c := 97) (by decide) (by decide)).2 h1)]
    split at hk
    · rename_i h2
      have h0 : t.what ≠ 0 := by rw [h1]; decide
      have hs := (hr.on h0).1
      have hg := ha.good h2
      have hat := ha.at_
      rw [if_pos (by rw [hs.err]; exact h2), h.nx ha hr h0 h2, hs.at_, hs.to (fun _ => h2), h.mid.ext (by omega) hg.2.1]
      cases hk; rfl
    · cases hk
  · cases hk
end Go.Proofs.YtjmccobblpcbhaaDoor
