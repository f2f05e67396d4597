/-
  SlB, SlC, WrE.
-/
import Derived.Test.YtjmccobblpcbhaaDoorChecked
import GoSem.PinnedTables
import GoSem.Claim
import GoSem.ClaimJoined
import GoSem.ClaimMapViews
import Derived.JoinedTies
import Derived.KernelRfl
import Derived.Shelf.Unicode.DecodeSlow
import Derived.Laws.RangeAny
import Derived.Shelf.Strings.Builder1
import Derived.Shelf.Small.Utf8
import Derived.Shelf.Small.Bits
import Derived.Shelf.Strings.BuilderF
import Derived.Shelf.Strings.BuilderK
import Derived.Shelf.Strings.BuilderRune
import Derived.Shelf.Utf8.AppendRune
import Derived.Shelf.Strconv.Itoa0
import Derived.Shelf.Strconv.Itoa1
import Derived.Shelf.LaysM
import Derived.Shelf.Strconv.Itoa2
import Derived.Shelf.Strconv.Itoa3
import Derived.Shelf.Strconv.Itoa4
import Derived.Shelf.Strings.Prefix
import Derived.Shelf.Unicode.DecodeAny
import Derived.Test.YtjmccobblpcbhaaDoorProg
import Derived.WalkKit
import Derived.Deep.DeepFit
import Derived.Lib.OthersKept
import Derived.Lib.RuneCountTail
import Derived.Lib.LaidU8
import Derived.MakeChecks
import Derived.ProofKit
import Derived.OpenShut
import Derived.Deep.DeepHandedRow
import Derived.Lib.MapLaws
import Derived.Sort.Walk0
import Derived.Laws.DeepStrings4
import Derived.Lib.ItoaNum
import Derived.Deep.AppendLies
import Derived.Deep.OwnRows
import Derived.Laws.AppendOwnNone
import Derived.Deep.QuietTactic
import Derived.BigQuiet
import Derived.Deep.RegionWith
import Derived.BigCall
import Derived.Lib.LaidTab
import Derived.Maps.OwnSet
import Derived.StringKeys
import Derived.Deep.Slices
import Derived.Lib.QuietBelow
import Derived.StillTail
import Derived.Laws.OwnMore
import Derived.Below
import Derived.Lib.Small
import Derived.Lib.Strings
import Derived.Deep.RegionHeld3
import Derived.Laws.ResultCell
import Derived.Deep.Heap
import Derived.Laws.Rows
import Derived.Deep.RegionLaw
import Derived.Test.YtjmccobblpcbhaaDoorRows
import Derived.Test.YtjmccobblpcbhaaDoorM01
import Derived.Test.YtjmccobblpcbhaaDoorM02
import Derived.Test.YtjmccobblpcbhaaDoorM03
import Derived.Test.YtjmccobblpcbhaaDoorM04
import Derived.Test.YtjmccobblpcbhaaDoorM05
import Derived.Test.YtjmccobblpcbhaaDoorM06
import Derived.Test.YtjmccobblpcbhaaDoorM07
import Derived.Test.YtjmccobblpcbhaaDoorM08
import Derived.Test.YtjmccobblpcbhaaDoorM09
import Derived.Test.YtjmccobblpcbhaaDoorM10
import Derived.Test.YtjmccobblpcbhaaDoorM11
import Derived.Test.YtjmccobblpcbhaaDoorM12
import Derived.Test.YtjmccobblpcbhaaDoorM13
import Derived.Test.YtjmccobblpcbhaaDoorM14
import Derived.Test.YtjmccobblpcbhaaDoorM15
import Derived.Test.YtjmccobblpcbhaaDoorM16
import Derived.Test.YtjmccobblpcbhaaDoorM17
import Derived.Test.YtjmccobblpcbhaaDoorM18
import Derived.Test.YtjmccobblpcbhaaDoorM19
import Derived.Test.YtjmccobblpcbhaaDoorM20
import Derived.Test.YtjmccobblpcbhaaDoorM21
import Derived.Test.YtjmccobblpcbhaaDoorM22
import Derived.Test.YtjmccobblpcbhaaDoorM23
import Derived.Test.YtjmccobblpcbhaaDoorM24
import Derived.Test.YtjmccobblpcbhaaDoorM25
import Derived.Test.YtjmccobblpcbhaaDoorM26
import Derived.Test.YtjmccobblpcbhaaDoorM27
import Derived.Test.YtjmccobblpcbhaaDoorM28
import Derived.Test.YtjmccobblpcbhaaDoorM29
import Derived.Test.YtjmccobblpcbhaaDoorM30
import Derived.Test.YtjmccobblpcbhaaDoorM31
import Derived.Test.YtjmccobblpcbhaaDoorM32
import Derived.Test.YtjmccobblpcbhaaDoorM33
import Derived.Test.YtjmccobblpcbhaaDoorM34
import Derived.Test.YtjmccobblpcbhaaDoorM35
import Derived.Test.YtjmccobblpcbhaaDoorM36
set_option linter.unusedSimpArgs false
set_option linter.unusedVariables false
namespace Go.Proofs.YtjmccobblpcbhaaDoor
open Go.RowKit Go.Lib

/-- Signs of one byte that stand between two blanks. -/
def bn1 (c : UInt8) : Prop := c = 43 ∨ c = 45 ∨ c = 42 ∨ c = 47 ∨ c = 37 ∨ c = 38 ∨ c = 124 ∨ c = 94 ∨ c = 60 ∨ c = 63 ∨ c = 58
/-- From p on: operands (false) and operators (true) by turns; n opening brackets, m minus signs of operands. -/
inductive TkU (S : ByteArray) (pat : Bool) : Bool → Nat → Nat → Nat → Prop
  | fin : TkU S pat true S.size 0 0
  | cl {p n m : Nat} (hp : p < S.size) (hc : S.get! p = 41) (next : TkU S pat true (p + 1) n m) : TkU S pat true p n m
  | b1 {p n m : Nat} {c : UInt8} (hb : Bt S p (txt [32, c, 32])) (hc : bn1 c) (next : TkU S pat false (p + 3) n m) : TkU S pat true p n m
  | b2 {p n m : Nat} {c : UInt8} (hb : Bt S p (txt [32, c, c, 32])) (hc : c = 60 ∨ c = 61 ∨ c = 62) (next : TkU S pat false (p + 4) n m) : TkU S pat true p n m
  | nm {p n m : Nat} {nm : ByteArray} (hn : nameB nm = true) (hb : Bt S p nm) (next : TkU S pat true (p + nm.size) n m) : TkU S pat false p n m
  | nu {p n m u : Nat} (hu : u ≤ 18446744073709551615) (hb : Bt S p (txt (decDigits u))) (next : TkU S pat true (p + (decDigits u).length) n m) : TkU S pat false p n m
  | op {p n m : Nat} (hp : p < S.size) (hc : S.get! p = 40) (next : TkU S pat false (p + 1) n m) : TkU S pat false p (n + 1) m
  | mi {p n m : Nat} (hp : p < S.size) (hc : S.get! p = 45) (next : TkU S pat false (p + 1) n m) : TkU S pat false p n (m + 1)
  | ti {p n m : Nat} (hp : p < S.size) (hc : S.get! p = 126) (next : TkU S pat false (p + 1) n m) : TkU S pat false p n m
  | ho {p n m : Nat} {nm : ByteArray} (hp : p < S.size) (hc : S.get! p = 64) (ht : pat = true) (hn : nameB nm = true) (hb : Bt S (p + 1) nm) (next : TkU S pat true (p + 1 + nm.size) n m) : TkU S pat false p n m
/-- The same, with the brackets that are still to be closed. -/
inductive TkD (S : ByteArray) (pat : Bool) : Bool → Nat → Nat → Nat → Nat → Prop
  | fin : TkD S pat true S.size 0 0 0
  | cl {p n m d : Nat} (hp : p < S.size) (hc : S.get! p = 41) (next : TkD S pat true (p + 1) n m d) : TkD S pat true p n m (d + 1)
  | b1 {p n m d : Nat} {c : UInt8} (hb : Bt S p (txt [32, c, 32])) (hc : bn1 c) (next : TkD S pat false (p + 3) n m d) : TkD S pat true p n m d
  | b2 {p n m d : Nat} {c : UInt8} (hb : Bt S p (txt [32, c, c, 32])) (hc : c = 60 ∨ c = 61 ∨ c = 62) (next : TkD S pat false (p + 4) n m d) : TkD S pat true p n m d
  | nm {p n m d : Nat} {nm : ByteArray} (hn : nameB nm = true) (hb : Bt S p nm) (next : TkD S pat true (p + nm.size) n m d) : TkD S pat false p n m d
  | nu {p n m d u : Nat} (hu : u ≤ 18446744073709551615) (hb : Bt S p (txt (decDigits u))) (next : TkD S pat true (p + (decDigits u).length) n m d) : TkD S pat false p n m d
  | op {p n m d : Nat} (hp : p < S.size) (hc : S.get! p = 40) (next : TkD S pat false (p + 1) n m (d + 1)) : TkD S pat false p (n + 1) m d
  | mi {p n m d : Nat} (hp : p < S.size) (hc : S.get! p = 45) (next : TkD S pat false (p + 1) n m d) : TkD S pat false p n (m + 1) d
  | ti {p n m d : Nat} (hp : p < S.size) (hc : S.get! p = 126) (next : TkD S pat false (p + 1) n m d) : TkD S pat false p n m d
  | ho {p n m d : Nat} {nm : ByteArray} (hp : p < S.size) (hc : S.get! p = 64) (ht : pat = true) (hn : nameB nm = true) (hb : Bt S (p + 1) nm) (next : TkD S pat true (p + 1 + nm.size) n m d) : TkD S pat false p n m d
theorem TkD.u {S : ByteArray} {pat u : Bool} {p n m d : Nat} (h : TkD S pat u p n m d) : TkU S pat u p n m := by
  induction h with
  | fin => exact .fin
  | cl a b _ ih => exact .cl a b ih
  | b1 a b _ ih => exact .b1 a b ih
  | b2 a b _ ih => exact .b2 a b ih
  | nm a b _ ih => exact .nm a b ih
  | nu a b _ ih => exact .nu a b ih
  | op a b _ ih => exact .op a b ih
  | mi a b _ ih => exact .mi a b ih
  | ti a b _ ih => exact .ti a b ih
  | ho a b c d e _ ih => exact .ho a b c d e ih

/-! ### bytes -/
theorem nmb_ch {s : ByteArray} {p : Nat} (hp : p < s.size) (hon : onB (Utf8.decode s p).1 = true) : ∀ k, k < (Utf8.decode s p).2 → s.get! (p + k) ≠ 40 ∧ s.get! (p + k) ≠ 41 := by
  have hi : ∀ b : UInt8, 128 ≤ b.toNat → b ≠ 40 ∧ b ≠ 41 := fun b hb => ⟨fun e => by rw [e] at hb; exact absurd hb (by decide), fun e => by rw [e] at hb; exact absurd hb (by decide)⟩
  rw [decode_at] at hon ⊢
  rcases Nat.lt_or_ge (s.get! p).toNat 128 with c | c
  · have e : decodeN (s.size - p) (s.get! p).toNat (s.get! (p + 1)).toNat (s.get! (p + 2)).toNat (s.get! (p + 3)).toNat = ((s.get! p).toNat, 1) := by unfold decodeN; rw [if_pos c]
    rw [e] at hon ⊢
    intro k hk
    have : k = 0 := by simpa using hk
    subst this
    refine ⟨fun h => ?_, fun h => ?_⟩
    · rw [Nat.add_zero] at h; rw [h] at hon; exact absurd hon (by rw [show onB ((((40 : UInt8).toNat, 1) : Nat × Nat).1 : Nat) = onB 40 from rfl, em_off.1]; decide)
    · rw [Nat.add_zero] at h; rw [h] at hon; exact absurd hon (by rw [show onB ((((41 : UInt8).toNat, 1) : Nat × Nat).1 : Nat) = onB 41 from rfl, em_off.2.1]; decide)
  · rcases decodeN_shape (s.size - p) (s.get! p).toNat (s.get! (p + 1)).toNat (s.get! (p + 2)).toNat (s.get! (p + 3)).toNat with ⟨c', e⟩ | ⟨k1, k2, k3, cv, e⟩ | ⟨k1, k2, k3, k4, cv, cs, e⟩ | ⟨k1, k2, k3, k4, k5, cv, cw, e⟩ | e
    · omega
    all_goals
      rw [e]
      intro k hk
      simp only at hk
      apply hi
      obtain rfl | rfl | rfl | rfl : k = 0 ∨ k = 1 ∨ k = 2 ∨ k = 3 := by omega
      all_goals first | exact c | omega
theorem nmb_F (nm : ByteArray) : ∀ (f q n : Nat), nmF nm f q n = true → nm.size ≤ q + f → ∀ k, q ≤ k → k < nm.size → nm.get! k ≠ 40 ∧ nm.get! k ≠ 41
  | 0, q, n, _, h2, k, h3, h4 => by omega
  | f + 1, q, n, h1, h2, k, h3, h4 => by
    have hq : q < nm.size := by omega
    rw [nmF_step nm f q n hq] at h1
    have hw := width_pos nm q hq
    have hon : onB (Utf8.decode nm q).1 = true ∧ nmF nm f (q + (Utf8.decode nm q).2) (n + 1) = true := by
      unfold nmS at h1
      split at h1
      · exact absurd h1 (by simp)
      · rename_i hk
        simp only [Bool.or_eq_true, not_or, Bool.not_eq_true] at hk
        exact ⟨by simpa using hk.2, h1⟩
    rcases Nat.lt_or_ge k (q + (Utf8.decode nm q).2) with h | h
    · have := nmb_ch hq hon.1 (k - q) (by omega)
      rw [show q + (k - q) = k by omega] at this
      exact this
    · exact nmb_F nm f _ _ hon.2 (by omega) k h h4
theorem nmb {nm : ByteArray} (h : nameB nm = true) (k : Nat) (hk : k < nm.size) : nm.get! k ≠ 40 ∧ nm.get! k ≠ 41 := nmb_F nm _ _ _ h (by omega) k (Nat.zero_le _) hk
/-- A piece without brackets. -/
def Nbr (S : ByteArray) (p n : Nat) : Prop := ∀ k, k < n → S.get! (p + k) ≠ 40 ∧ S.get! (p + k) ≠ 41
theorem nbr_nm {S nm : ByteArray} {p : Nat} (h : nameB nm = true) (hb : Bt S p nm) : Nbr S p nm.size := fun k hk => by rw [hb.2 k hk]; exact nmb h k hk
theorem nbr_l {S : ByteArray} {p : Nat} {l : List UInt8} (hb : Bt S p (txt l)) (h : ∀ c ∈ l, c ≠ 40 ∧ c ≠ 41) : Nbr S p l.length := fun k hk => by
  rw [hb.2 k (by rw [txt_size]; exact hk), txt_get l k hk]
  exact h _ (List.getElem_mem hk)
theorem nbr_nu {S : ByteArray} {p u : Nat} (hb : Bt S p (txt (decDigits u))) : Nbr S p (decDigits u).length := nbr_l hb fun c hc => by
  obtain ⟨h1, h2⟩ := dig_mem u c hc
  exact ⟨fun e => by rw [e] at h1; exact absurd h1 (by decide), fun e => by rw [e] at h1; exact absurd h1 (by decide)⟩
theorem nbr_b1 {S : ByteArray} {p : Nat} {c : UInt8} (hb : Bt S p (txt [32, c, 32])) (hc : bn1 c) : Nbr S p 3 := nbr_l hb fun x hx => by
  simp only [List.mem_cons, List.not_mem_nil, or_false] at hx
  rcases hx with rfl | rfl | rfl
  · decide
  · unfold bn1 at hc; rcases hc with rfl | rfl | rfl | rfl | rfl | rfl | rfl | rfl | rfl | rfl | rfl <;> decide
  · decide
theorem nbr_b2 {S : ByteArray} {p : Nat} {c : UInt8} (hb : Bt S p (txt [32, c, c, 32])) (hc : c = 60 ∨ c = 61 ∨ c = 62) : Nbr S p 4 := nbr_l hb fun x hx => by
  simp only [List.mem_cons, List.not_mem_nil, or_false] at hx
  rcases hx with rfl | rfl | rfl | rfl
  · decide
  · rcases hc with rfl | rfl | rfl <;> decide
  · rcases hc with rfl | rfl | rfl <;> decide
  · decide
theorem nbr_one {S : ByteArray} {p : Nat} {c : UInt8} (h : S.get! p = c) (hc : c ≠ 40 ∧ c ≠ 41) : Nbr S p 1 := fun k hk => by
  have : k = 0 := by omega
  subst this
  rw [Nat.add_zero, h]; exact hc
/-! ### balance -/
/-! ### a pair of brackets taken out -/
def cutB (s : ByteArray) (i j : Nat) : ByteArray := s.extract 0 i ++ s.extract (i + 1) j ++ s.extract (j + 1) s.size
def ps (i j p : Nat) : Nat := if p ≤ i then p else if p ≤ j then p - 1 else p - 2
section
variable {s : ByteArray} {i j : Nat}
theorem ext_get {s : ByteArray} {a b k : Nat} (hb : b ≤ s.size) (hk : k < b - a) : (s.extract a b).get! k = s.get! (a + k) := by
  have h1 : k < (s.extract a b).size := by rw [ByteArray.size_extract]; omega
  rw [Utf8W.get!_of_lt _ _ h1, Utf8W.get!_of_lt _ _ (by omega)]
  simp [ByteArray.getElem_extract]
theorem app_get1 {a b : ByteArray} {k : Nat} (h : k < a.size) : (a ++ b).get! k = a.get! k := by
  rw [Utf8W.get!_of_lt _ _ (by rw [apz]; omega), Utf8W.get!_of_lt _ _ h]
  exact ByteArray.getElem_append_left h
theorem app_get2 {a b : ByteArray} {k : Nat} (h : k < b.size) : (a ++ b).get! (a.size + k) = b.get! k := by
  rw [Utf8W.get!_of_lt _ _ (by rw [apz]; omega), Utf8W.get!_of_lt _ _ h]
  rw [ByteArray.getElem_append_right (by omega)]
  congr 1
  omega
theorem cut_size (hij : i < j) (hj : j < s.size) : (cutB s i j).size = s.size - 2 := by
  unfold cutB
  rw [apz, apz, ByteArray.size_extract, ByteArray.size_extract, ByteArray.size_extract]; omega
theorem cut_get (hij : i < j) (hj : j < s.size) {p : Nat} (hp : p < s.size) (h1 : p ≠ i) (h2 : p ≠ j) : (cutB s i j).get! (ps i j p) = s.get! p := by
  have z1 : (s.extract 0 i).size = i := by rw [ByteArray.size_extract]; omega
  have z2 : (s.extract (i + 1) j).size = j - i - 1 := by rw [ByteArray.size_extract]; omega
  have z3 : (s.extract (j + 1) s.size).size = s.size - j - 1 := by rw [ByteArray.size_extract]; omega
  unfold cutB ps
  by_cases c1 : p ≤ i
  · rw [if_pos c1, app_get1 (by rw [apz]; omega), app_get1 (by omega), ext_get (by omega) (by omega), Nat.zero_add]
  · rw [if_neg c1]
    by_cases c2 : p ≤ j
    · rw [if_pos c2, app_get1 (by rw [apz]; omega), show p - 1 = (s.extract 0 i).size + (p - 1 - i) by omega, app_get2 (by omega), ext_get (by omega) (by omega)]
      congr 1; omega
    · rw [if_neg c2, show p - 2 = (s.extract 0 i ++ s.extract (i + 1) j).size + (p - 1 - j) by rw [apz]; omega, app_get2 (by omega), ext_get (by omega) (by omega)]
      congr 1; omega
theorem ps_add (hij : i < j) (hi : s.get! i = 40) (hj : s.get! j = 41) {p n : Nat} (hn : Nbr s p n) : ∀ k, k ≤ n → ps i j (p + k) = ps i j p + k := by
  have a1 : ¬ (p ≤ i ∧ i < p + n) := fun c => by have := (hn (i - p) (by omega)).1; rw [show p + (i - p) = i by omega] at this; exact this hi
  have a2 : ¬ (p ≤ j ∧ j < p + n) := fun c => by have := (hn (j - p) (by omega)).2; rw [show p + (j - p) = j by omega] at this; exact this hj
  intro k hk
  unfold ps
  repeat' split
  all_goals omega
theorem cut_bt (hij : i < j) (hjs : j < s.size) (hi : s.get! i = 40) (hj : s.get! j = 41) {p : Nat} {U : ByteArray} (hb : Bt s p U) (hn : Nbr s p U.size) : Bt (cutB s i j) (ps i j p) U := by
  have hadd := ps_add hij hi hj hn
  refine ⟨?_, fun k hk => ?_⟩
  · rw [← hadd _ (Nat.le_refl _), cut_size hij hjs]
    have := hb.1
    unfold ps
    repeat' split
    all_goals omega
  · obtain ⟨g1, g2⟩ := hn k hk
    have hlt : p + k < s.size := by have := hb.1; omega
    rw [← hadd k (by omega), cut_get hij hjs hlt (fun e => g1 (by rw [e]; exact hi)) (fun e => g2 (by rw [e]; exact hj)), hb.2 k hk]
theorem ps_lt (hij : i < j) (hjs : j < s.size) {p : Nat} (hp : p < s.size) (h1 : p ≠ i) (h2 : p ≠ j) : ps i j p < (cutB s i j).size := by
  rw [cut_size hij hjs]
  unfold ps
  repeat' split
  all_goals omega
/-- The pair taken out: a bracket less, else the same. -/
theorem TkU.cut {pat u : Bool} {p n m : Nat} (hij : i < j) (hjs : j < s.size) (hi : s.get! i = 40) (hj : s.get! j = 41) (h : TkU s pat u p n m) :
    (p ≤ i → ∃ n0, n = n0 + 1 ∧ TkU (cutB s i j) pat u (ps i j p) n0 m) ∧ (i < p → TkU (cutB s i j) pat u (ps i j p) n m) := by
  -- a step over a piece without brackets
  have stp : ∀ {p c n m : Nat} {u u' : Bool} {f g : Nat → Nat}, Nbr s p c → 1 ≤ c → p + c ≤ s.size → (∀ a b, TkU (cutB s i j) pat u' (ps i j p + c) a b → TkU (cutB s i j) pat u (ps i j p) a (g b)) →
      ((p + c ≤ i → ∃ n0, n = n0 + 1 ∧ TkU (cutB s i j) pat u' (ps i j (p + c)) n0 m) ∧ (i < p + c → TkU (cutB s i j) pat u' (ps i j (p + c)) n m)) →
      (p ≤ i → ∃ n0, n = n0 + 1 ∧ TkU (cutB s i j) pat u (ps i j p) n0 (g m)) ∧ (i < p → TkU (cutB s i j) pat u (ps i j p) n (g m)) := by
    intro p c n m u u' f g hn hc hle hf ih
    have hadd := ps_add hij hi hj hn c (Nat.le_refl _)
    rw [hadd] at ih
    have a1 : ¬ (p ≤ i ∧ i < p + c) := fun x => by have := (hn (i - p) (by omega)).1; rw [show p + (i - p) = i by omega] at this; exact this hi
    refine ⟨fun h1 => ?_, fun h1 => hf _ _ (ih.2 (by omega))⟩
    obtain ⟨n0, e, h2⟩ := ih.1 (by omega)
    exact ⟨n0, e, hf _ _ h2⟩
  induction h with
  | fin =>
    have e : ps i j s.size = (cutB s i j).size := by rw [cut_size hij hjs]; unfold ps; repeat' split
                                                     all_goals omega
    rw [e]
    exact ⟨fun h => by omega, fun _ => .fin⟩
  | @cl p n m hp hc _ ih =>
    by_cases e : p = j
    · subst e
      have e1 : ps i p (p + 1) = ps i p p := by unfold ps; repeat' split
                                                all_goals omega
      rw [e1] at ih
      exact ⟨fun h => by omega, fun h => ih.2 (by omega)⟩
    · have hne : p ≠ i := fun x => by subst x; rw [hi] at hc; exact absurd hc (by decide)
      have e1 : ps i j (p + 1) = ps i j p + 1 := by unfold ps; repeat' split
                                                    all_goals omega
      rw [e1] at ih
      have mk : ∀ a b, TkU (cutB s i j) pat true (ps i j p + 1) a b → TkU (cutB s i j) pat true (ps i j p) a b := fun a b h => .cl (ps_lt hij hjs hp hne e) ((cut_get hij hjs hp hne e).trans hc) h
      refine ⟨fun h => ?_, fun h => mk _ _ (ih.2 (by omega))⟩
      obtain ⟨n0, e2, h2⟩ := ih.1 (by omega)
      exact ⟨n0, e2, mk _ _ h2⟩
  | @op p n m hp hc _ ih =>
    by_cases e : p = i
    · subst e
      have e1 : ps p j (p + 1) = ps p j p := by unfold ps; repeat' split
                                                all_goals omega
      rw [e1] at ih
      exact ⟨fun _ => ⟨n, rfl, ih.2 (by omega)⟩, fun h => by omega⟩
    · have hne : p ≠ j := fun x => by subst x; rw [hj] at hc; exact absurd hc (by decide)
      have e1 : ps i j (p + 1) = ps i j p + 1 := by unfold ps; repeat' split
                                                    all_goals omega
      rw [e1] at ih
      have mk : ∀ a b, TkU (cutB s i j) pat false (ps i j p + 1) a b → TkU (cutB s i j) pat false (ps i j p) (a + 1) b := fun a b h => .op (ps_lt hij hjs hp e hne) ((cut_get hij hjs hp e hne).trans hc) h
      refine ⟨fun h => ?_, fun h => mk _ _ (ih.2 (by omega))⟩
      obtain ⟨n0, e2, h2⟩ := ih.1 (by omega)
      exact ⟨n0 + 1, by omega, mk _ _ h2⟩
  | @b1 p n m c hb hc _ ih =>
    have hn := nbr_b1 hb hc
    have hz : (txt [32, c, 32]).size = 3 := by rw [txt_size]; rfl
    exact stp (f := id) (g := id) hn (by omega) (by have := hb.1; rw [hz] at this; exact this) (fun a b h => .b1 (cut_bt hij hjs hi hj hb (by rw [hz]; exact hn)) hc h) ih
  | @b2 p n m c hb hc _ ih =>
    have hn := nbr_b2 hb hc
    have hz : (txt [32, c, c, 32]).size = 4 := by rw [txt_size]; rfl
    exact stp (f := id) (g := id) hn (by omega) (by have := hb.1; rw [hz] at this; exact this) (fun a b h => .b2 (cut_bt hij hjs hi hj hb (by rw [hz]; exact hn)) hc h) ih
  | @nm p n m nm hnm hb _ ih =>
    have hn := nbr_nm hnm hb
    exact stp (f := id) (g := id) hn (nm_first nm hnm).1 hb.1 (fun a b h => .nm hnm (cut_bt hij hjs hi hj hb hn) h) ih
  | @nu p n m u hu hb _ ih =>
    have hn := nbr_nu hb
    have hz : (txt (decDigits u)).size = (decDigits u).length := txt_size _
    exact stp (f := id) (g := id) hn (dig_ne u) (by have := hb.1; rw [hz] at this; exact this) (fun a b h => .nu hu (cut_bt hij hjs hi hj hb (by rw [hz]; exact hn)) h) ih
  | @mi p n m hp hc _ ih =>
    have hn : Nbr s p 1 := nbr_one hc (by decide)
    have hne : p ≠ i := fun x => by subst x; rw [hi] at hc; exact absurd hc (by decide)
    have hne2 : p ≠ j := fun x => by subst x; rw [hj] at hc; exact absurd hc (by decide)
    exact stp (f := id) (g := (· + 1)) hn (by omega) hp (fun a b h => .mi (ps_lt hij hjs hp hne hne2) ((cut_get hij hjs hp hne hne2).trans hc) h) ih
  | @ti p n m hp hc _ ih =>
    have hn : Nbr s p 1 := nbr_one hc (by decide)
    have hne : p ≠ i := fun x => by subst x; rw [hi] at hc; exact absurd hc (by decide)
    have hne2 : p ≠ j := fun x => by subst x; rw [hj] at hc; exact absurd hc (by decide)
    exact stp (f := id) (g := id) hn (by omega) hp (fun a b h => .ti (ps_lt hij hjs hp hne hne2) ((cut_get hij hjs hp hne hne2).trans hc) h) ih
  | @ho p n m nm hp hc ht hnm hb _ ih =>
    have h1 : Nbr s p 1 := nbr_one hc (by decide)
    have h2 := nbr_nm hnm hb
    have hn : Nbr s p (1 + nm.size) := fun k hk => by
      rcases Nat.eq_zero_or_pos k with h0 | h0
      · subst h0; exact h1 0 (by omega)
      · have := h2 (k - 1) (by omega)
        rw [show p + 1 + (k - 1) = p + k by omega] at this
        exact this
    have hne : p ≠ i := fun x => by subst x; rw [hi] at hc; exact absurd hc (by decide)
    have hne2 : p ≠ j := fun x => by subst x; rw [hj] at hc; exact absurd hc (by decide)
    have e1 := ps_add hij hi hj hn 1 (by omega)
    have hb' := cut_bt hij hjs hi hj hb h2
    rw [e1] at hb'
    rw [Nat.add_assoc] at ih
    exact stp (f := id) (g := id) hn (by omega) (by have := hb.1; omega) (fun a b h => .ho (ps_lt hij hjs hp hne hne2) ((cut_get hij hjs hp hne hne2).trans hc) ht hnm hb' (by rw [Nat.add_assoc]; exact h)) ih
end
end Go.Proofs.YtjmccobblpcbhaaDoor

set_option linter.unusedSimpArgs false
set_option linter.unusedVariables false
namespace Go.Proofs.YtjmccobblpcbhaaDoor
open Go.RowKit Go.Lib

/-! ### tokens -/
section
variable {S : ByteArray} {pat : Bool}
end

/-! ### the measure -/
def gBk (op : Int) (j : Nat) (y : Nd) : Nat := if brkB op j y = true then 1 else 0
def hM (x : Nd) : Nat := if x.op = 3 ∨ (x.op = 1 ∧ x.n < 0) then 1 else 0
/-- What a rule's answer lacks where brackets are asked for. -/
def lkR (k : Int) (y : Nd) : Nat := if rkT y.op < k then 1 else 0
theorem rk4 : rkT 4 = 10 := rfl
theorem rk17 : rkT 17 = 1 := rfl
theorem gk_of {op : Int} {j : Nat} {y : Nd} {P : Prop} [Decidable P] (h : brkB op j y = decide P) : gBk op j y = if P then 1 else 0 := by
  unfold gBk; rw [h]; simp only [decide_eq_true_eq]
theorem bkA {op : Int} {y : Nd} (h1 : op ≠ 17) (h2 : ¬ (op = 15 ∨ op = 16)) (h3 : ¬ (op = 3 ∧ y.op = 1)) : gBk op 0 y = if rkT y.op < rkT op then 1 else 0 :=
  gk_of (by unfold brkB; rw [if_neg h1, if_neg h2, if_neg h3, if_pos rfl])
theorem g4 (y : Nd) : gBk 4 0 y = lkR 10 y := by rw [bkA (by decide) (by decide) (by simp), rk4]; rfl
theorem g17 (y : Nd) : gBk 17 0 y ≤ lkR 2 y ∧ gBk 17 1 y = 0 ∧ gBk 17 2 y = 0 := by
  refine ⟨?_, ?_, ?_⟩
  · have e : gBk 17 0 y = if rkT y.op = rkT 17 then 1 else 0 := gk_of (by unfold brkB; rw [if_pos rfl]; simp)
    rw [e, rk17]
    unfold lkR
    split <;> split <;> omega
  · have e : gBk 17 1 y = if False then 1 else 0 := gk_of (by unfold brkB; rw [if_pos rfl]; simp)
    rw [e]; simp
  · have e : gBk 17 2 y = if False then 1 else 0 := gk_of (by unfold brkB; rw [if_pos rfl]; simp)
    rw [e]; simp
/-! ### reading -/
theorem rdLit_ok {s : ByteArray} {v : Int} {t : Tk} {l : List Nd} {e : Nat} (h : rdLit s v t = .ok (l, e)) : t.what = 48 ∧ t.err = 0 ∧ l = [⟨1, v, ⟨#[]⟩, []⟩] ∧ e = skp s t.to := by
  unfold rdLit at h
  split at h
  · split at h
    · cases h; exact ⟨by assumption, by assumption, rfl, rfl⟩
    · cases h
  · cases h
theorem rdNamed_ok {s : ByteArray} {v : Int} {t : Tk} {l : List Nd} {e : Nat} (h : rdNamed s v t = .ok (l, e)) : t.what = 97 ∧ t.err = 0 ∧ (∃ nm, l = [⟨v, 0, nm, []⟩]) ∧ e = skp s t.to := by
  unfold rdNamed at h
  split at h
  · split at h
    · cases h; exact ⟨by assumption, by assumption, ⟨_, rfl⟩, rfl⟩
    · cases h
  · cases h
end Go.Proofs.YtjmccobblpcbhaaDoor

set_option linter.unusedSimpArgs false
set_option linter.unusedVariables false
namespace Go.Proofs.YtjmccobblpcbhaaDoor
open Go.Lib

/-- Are there names of holes? Just if there are holes. -/
theorem hls_zero (l : List Nd) : (hlsL l).length = 0 ↔ ∀ x ∈ l, x.op ≠ 18 := by
  constructor
  · intro h x hx h18
    have mono : ∀ (m : List Nd) (acc : List ByteArray), acc.length ≤ (m.foldl addNm acc).length := by
      intro m
      induction m with
      | nil => intro acc; exact Nat.le_refl _
      | cons y m ih =>
        intro acc
        have h1 := ih (addNm acc y)
        have h2 : acc.length ≤ (addNm acc y).length := by
          unfold addNm
          split
          · split <;> simp
          · omega
        simp only [List.foldl_cons]
        omega
    obtain ⟨a, b, rfl⟩ := List.append_of_mem hx
    unfold hlsL at h
    rw [List.foldl_append, List.foldl_cons] at h
    have h1 := mono b (addNm (a.foldl addNm []) x)
    have h2 : ∀ acc : List ByteArray, 0 < (addNm acc x).length := by
      intro acc
      unfold addNm
      rw [if_pos h18]
      split
      · rename_i hany
        cases acc with
        | nil => simp at hany
        | cons z r => simp
      · simp
    have := h2 (a.foldl addNm [])
    omega
  · intro h
    rw [noH_hls h]; rfl
end Go.Proofs.YtjmccobblpcbhaaDoor
