/-
  EmLay, WrA, ExDecPure, RfP.
-/
import Derived.Test.YtjmccobblpcbhaaDoorChecked
import GoSem.PinnedTables
import GoSem.Claim
import GoSem.ClaimJoined
import GoSem.ClaimMapViews
import Derived.JoinedTies
import Derived.KernelRfl
import Derived.Shelf.Unicode.DecodeSlow
import Derived.Laws.RangeAny
import Derived.Shelf.Strings.Builder1
import Derived.Shelf.Small.Utf8
import Derived.Shelf.Small.Bits
import Derived.Shelf.Strings.BuilderF
import Derived.Shelf.Strings.BuilderK
import Derived.Shelf.Strings.BuilderRune
import Derived.Shelf.Utf8.AppendRune
import Derived.Shelf.Strconv.Itoa0
import Derived.Shelf.Strconv.Itoa1
import Derived.Shelf.LaysM
import Derived.Shelf.Strconv.Itoa2
import Derived.Shelf.Strconv.Itoa3
import Derived.Shelf.Strconv.Itoa4
import Derived.Shelf.Strings.Prefix
import Derived.Shelf.Unicode.DecodeAny
import Derived.Test.YtjmccobblpcbhaaDoorProg
import Derived.WalkKit
import Derived.Deep.DeepFit
import Derived.Lib.OthersKept
import Derived.Lib.RuneCountTail
import Derived.Lib.LaidU8
import Derived.MakeChecks
import Derived.ProofKit
import Derived.OpenShut
import Derived.Deep.DeepHandedRow
import Derived.Lib.MapLaws
import Derived.Sort.Walk0
import Derived.Laws.DeepStrings4
import Derived.Lib.ItoaNum
import Derived.Deep.AppendLies
import Derived.Deep.OwnRows
import Derived.Laws.AppendOwnNone
import Derived.Deep.QuietTactic
import Derived.BigQuiet
import Derived.Deep.RegionWith
import Derived.BigCall
import Derived.Lib.LaidTab
import Derived.Maps.OwnSet
import Derived.StringKeys
import Derived.Deep.Slices
import Derived.Lib.QuietBelow
import Derived.StillTail
import Derived.Laws.OwnMore
import Derived.Below
import Derived.Lib.Small
import Derived.Lib.Strings
import Derived.Deep.RegionHeld3
import Derived.Laws.ResultCell
import Derived.Deep.Heap
import Derived.Laws.Rows
import Derived.Deep.RegionLaw
import Derived.Test.YtjmccobblpcbhaaDoorRows
import Derived.Test.YtjmccobblpcbhaaDoorM01
import Derived.Test.YtjmccobblpcbhaaDoorM02
import Derived.Test.YtjmccobblpcbhaaDoorM03
import Derived.Test.YtjmccobblpcbhaaDoorM04
import Derived.Test.YtjmccobblpcbhaaDoorM05
import Derived.Test.YtjmccobblpcbhaaDoorM06
import Derived.Test.YtjmccobblpcbhaaDoorM07
import Derived.Test.YtjmccobblpcbhaaDoorM08
import Derived.Test.YtjmccobblpcbhaaDoorM09
import Derived.Test.YtjmccobblpcbhaaDoorM10
import Derived.Test.YtjmccobblpcbhaaDoorM11
import Derived.Test.YtjmccobblpcbhaaDoorM12
import Derived.Test.YtjmccobblpcbhaaDoorM13
import Derived.Test.YtjmccobblpcbhaaDoorM14
import Derived.Test.YtjmccobblpcbhaaDoorM15
import Derived.Test.YtjmccobblpcbhaaDoorM16
import Derived.Test.YtjmccobblpcbhaaDoorM17
import Derived.Test.YtjmccobblpcbhaaDoorM18
import Derived.Test.YtjmccobblpcbhaaDoorM19
import Derived.Test.YtjmccobblpcbhaaDoorM20
import Derived.Test.YtjmccobblpcbhaaDoorM21
import Derived.Test.YtjmccobblpcbhaaDoorM22
import Derived.Test.YtjmccobblpcbhaaDoorM23
import Derived.Test.YtjmccobblpcbhaaDoorM24
import Derived.Test.YtjmccobblpcbhaaDoorM25
import Derived.Test.YtjmccobblpcbhaaDoorM26
import Derived.Test.YtjmccobblpcbhaaDoorM27
import Derived.Test.YtjmccobblpcbhaaDoorM28
import Derived.Test.YtjmccobblpcbhaaDoorM29
import Derived.Test.YtjmccobblpcbhaaDoorM30
import Derived.Test.YtjmccobblpcbhaaDoorM31
set_option linter.unusedSimpArgs false
set_option linter.unusedVariables false
namespace Go.Proofs.YtjmccobblpcbhaaDoor
open Go.Lib

theorem bind_eqN {α β : Type} {x y : Pr α} {f g : α → Pr β} (hx : x ≠ .out → y = x) (hf : ∀ a, x = .ok a → f a ≠ .out → g a = f a) (h : x.bind f ≠ .out) : y.bind g = x.bind f := by
  cases x with
  | ok a => rw [hx (fun c => by cases c)]; exact hf a rfl h
  | bad p e => rw [hx (fun c => by cases c)]; rfl
  | out => exact absurd rfl h
theorem rd_oneN (s : ByteArray) (pat : Bool) : ∀ (f : Nat) (q : RdQ) (t : Tk) (o : Nat), rdRun s pat f q t o ≠ .out → rdRun s pat (f + 1) q t o = rdRun s pat f q t o := by
  intro f
  induction f with
  | zero => intro q t o h; exact absurd rfl h
  | succ f ih =>
    intro q t o h
    cases q with
    | cond =>
      rw [rdRun] at h
      conv => lhs; rw [rdRun]
      conv => rhs; rw [rdRun]
      refine bind_eqN (ih _ _ _) (fun c _ h => bind_eqN (fun _ => rfl) (fun t1 _ h => ?_) h) h
      split at h
      · rename_i hw
        rw [if_pos hw, if_pos hw]
        refine bind_eqN (fun _ => rfl) (fun t2 _ h => bind_eqN (ih _ _ _) (fun a _ h => bind_eqN (fun _ => rfl) (fun t3 _ h => ?_) h) h) h
        split at h
        · rename_i hw
          rw [if_pos hw, if_pos hw]
          split at h
          · rename_i hw
            rw [if_pos hw, if_pos hw]
            exact bind_eqN (fun _ => rfl) (fun t4 _ h => bind_eqN (ih _ _ _) (fun b _ h => rfl) h) h
          · rename_i hw
            rw [if_neg hw, if_neg hw]
        · rename_i hw
          rw [if_neg hw, if_neg hw]
      · rename_i hw
        rw [if_neg hw, if_neg hw]
    | level lv =>
      rw [rdRun] at h
      conv => lhs; rw [rdRun]
      conv => rhs; rw [rdRun]
      split at h
      · rename_i hw
        rw [if_pos hw, if_pos hw]
        exact ih _ _ _ h
      · rename_i hw
        rw [if_neg hw, if_neg hw]
        exact bind_eqN (ih _ _ _) (fun a _ h => bind_eqN (fun _ => rfl) (fun t1 _ h => ih _ _ _ h) h) h
    | loop lv la =>
      rw [rdRun] at h
      conv => lhs; rw [rdRun]
      conv => rhs; rw [rdRun]
      split at h
      · rename_i hw
        rw [if_pos hw, if_pos hw]
        refine bind_eqN (fun _ => rfl) (fun t1 _ h => bind_eqN (ih _ _ _) (fun b _ h => ?_) h) h
        split at h
        · rename_i hw
          rw [if_pos hw, if_pos hw]
        · rename_i hw
          rw [if_neg hw, if_neg hw]
          exact bind_eqN (fun _ => rfl) (fun t2 _ h => ih _ _ _ h) h
      · rename_i hw
        rw [if_neg hw, if_neg hw]
    | un =>
      rw [rdRun] at h
      conv => lhs; rw [rdRun]
      conv => rhs; rw [rdRun]
      split at h
      · rename_i hw
        rw [if_pos hw, if_pos hw]
        split at h
        · rename_i hw
          rw [if_pos hw, if_pos hw]
          exact bind_eqN (fun _ => rfl) (fun t1 _ h => bind_eqN (ih _ _ _) (fun x _ h => rfl) h) h
        · rename_i hw
          rw [if_neg hw, if_neg hw]
      · rename_i hw
        rw [if_neg hw, if_neg hw]
        split at h
        · rename_i hw
          rw [if_pos hw, if_pos hw]
          exact bind_eqN (fun _ => rfl) (fun t1 _ h => bind_eqN (ih _ _ _) (fun x _ h => rfl) h) h
        · rename_i hw
          rw [if_neg hw, if_neg hw]
          exact ih _ _ _ h
    | atom =>
      rw [rdRun] at h
      conv => lhs; rw [rdRun]
      conv => rhs; rw [rdRun]
      split at h
      · rename_i hw
        rw [if_pos hw, if_pos hw]
      · rename_i hw
        rw [if_neg hw, if_neg hw]
        split at h
        · rename_i hw
          rw [if_pos hw, if_pos hw]
        · rename_i hw
          rw [if_neg hw, if_neg hw]
          split at h
          · rename_i hw
            rw [if_pos hw, if_pos hw]
          · rename_i hw
            rw [if_neg hw, if_neg hw]
            split at h
            · rename_i hw
              rw [if_pos hw, if_pos hw]
              split at h
              · rename_i hw
                rw [if_pos hw, if_pos hw]
              · rename_i hw
                rw [if_neg hw, if_neg hw]
                exact bind_eqN (fun _ => rfl) (fun t1 _ h => bind_eqN (ih _ _ _) (fun e _ h => rfl) h) h
            · rename_i hw
              rw [if_neg hw, if_neg hw]
theorem rd_moreB {s : ByteArray} {pat : Bool} {f g : Nat} {q : RdQ} {t : Tk} {o p : Nat} {er : Int} (h : rdRun s pat f q t o = .bad p er) (hfg : f ≤ g) : rdRun s pat g q t o = .bad p er := by
  obtain ⟨k, rfl⟩ : ∃ k, g = f + k := ⟨g - f, by omega⟩
  clear hfg
  induction k with
  | zero => exact h
  | succ k ih =>
    show rdRun s pat ((f + k) + 1) q t o = _
    rw [rd_oneN s pat _ _ _ _ (by rw [ih]; exact fun c => by cases c), ih]
theorem asc_dec {S : ByteArray} {e : Nat} {c : UInt8} (h : S.get! e = c) (hc : c.toNat < 128) : Utf8.decode S e = (c.toNat, 1) := by
  rw [decode_at, h]
  unfold decodeN
  rw [if_pos hc]
theorem skip_fuel (S : ByteArray) : ∀ (f g p : Nat), S.size ≤ p + f → S.size ≤ p + g → psSkip S f p = psSkip S g p := by
  intro f
  induction f with
  | zero =>
    intro g p h1 h2
    cases g with
    | zero => rfl
    | succ g => simp only [psSkip]; rw [if_neg (by omega)]
  | succ f ih =>
    intro g p h1 h2
    cases g with
    | zero => simp only [psSkip]; rw [if_neg (by omega)]
    | succ g =>
      simp only [psSkip]
      by_cases hp : p < S.size
      · rw [if_pos hp, if_pos hp]
        by_cases hk : kd (Utf8.decode S p).1 = 3
        · rw [if_pos hk, if_pos hk]
          have := width_pos S p hp
          exact ih g _ (by omega) (by omega)
        · rw [if_neg hk, if_neg hk]
      · rw [if_neg hp, if_neg hp]
theorem skp_blank {S : ByteArray} {p : Nat} (hp : p < S.size) (h : S.get! p = 32) : skp S p = skp S (p + 1) := by
  unfold skp
  obtain ⟨f, hf⟩ : ∃ f, S.size = f + 1 := ⟨S.size - 1, by omega⟩
  rw [hf]
  simp only [psSkip]
  rw [if_pos (by omega), asc_dec h (by decide), if_pos (show kd (((UInt8.toNat 32, 1) : Nat × Nat).1 : Int) = 3 from em_on.2.2.2.2.2)]
  show psSkip S f (p + 1) = psSkip S (f + 1) (p + 1)
  exact skip_fuel S f (f + 1) (p + 1) (by omega) (by omega)
end Go.Proofs.YtjmccobblpcbhaaDoor

set_option linter.unusedSimpArgs false
set_option linter.unusedVariables false
namespace Go.Proofs.YtjmccobblpcbhaaDoor
open Go.Lib

/-- The bytes of s stand in S from d on. -/
def Bt (S : ByteArray) (d : Nat) (s : ByteArray) : Prop := d + s.size ≤ S.size ∧ ∀ i, i < s.size → S.get! (d + i) = s.get! i
/-- What stands there ends what was ahead: the text's end, a bracket that closes, a blank. -/
def Stq (S : ByteArray) (e : Nat) : Prop := e = S.size ∨ (e < S.size ∧ (S.get! e = 41 ∨ S.get! e = 32))
theorem Stq.low {S : ByteArray} {e : Nat} (h : Stq S e) : e = S.size ∨ (S.get! e).toNat < 64 := by
  rcases h with h | ⟨_, h | h⟩
  · exact .inl h
  · right; rw [h]; decide
  · right; rw [h]; decide
theorem Bt.app {S a b : ByteArray} {d : Nat} (h : Bt S d (a ++ b)) : Bt S d a ∧ Bt S (d + a.size) b := by
  obtain ⟨h1, h2⟩ := h
  rw [apz] at h1 h2
  refine ⟨⟨by omega, fun i hi => ?_⟩, ⟨by omega, fun i hi => ?_⟩⟩
  · rw [h2 i (by omega), gA a b i hi]
  · rw [Nat.add_assoc, h2 (a.size + i) (by omega), gB a b _ (by omega) (by omega), Nat.add_sub_cancel_left]
theorem Bt.self (S : ByteArray) : Bt S 0 S := ⟨by omega, fun i _ => by rw [Nat.zero_add]⟩
theorem txt_get (l : List UInt8) (i : Nat) (h : i < l.length) : (txt l).get! i = l[i] := by
  have h1 := ba_get (txt l) i (by rw [txt_size]; exact h)
  have e : (txt l).data.toList = l := by simp [txt]
  rw [e, List.getElem?_eq_getElem h] at h1
  exact (Option.some.inj h1).symm
theorem Bt.byte {S : ByteArray} {d : Nat} {c : UInt8} (h : Bt S d (txt [c])) : d < S.size ∧ S.get! d = c := by
  obtain ⟨h1, h2⟩ := h
  rw [txt_size] at h1 h2
  simp only [List.length_cons, List.length_nil] at h1 h2
  have := h2 0 (by omega)
  rw [Nat.add_zero, txt_get _ 0 (by simp)] at this
  exact ⟨by omega, this⟩

/-! ### characters -/
theorem qN1 (n b0 x1 x2 x3 y1 y2 y3 : Nat) (hx : 1 < n → x1 / 64 = 0) : decodeN n b0 x1 x2 x3 = decodeN 1 b0 y1 y2 y3 := by
  unfold decodeN
  by_cases h0 : b0 < 128
  · rw [if_pos h0, if_pos h0]
  · rw [if_neg h0, if_neg h0, if_neg (fun c => by omega), if_neg (fun c => by omega), if_neg (fun c => by omega), if_neg (fun c => by omega), if_neg (fun c => by omega), if_neg (fun c => by omega)]
theorem qN2 (n b0 b1 x2 x3 y2 y3 : Nat) (hn : 1 < n) (hx : 2 < n → x2 / 64 = 0) : decodeN n b0 b1 x2 x3 = decodeN 2 b0 b1 y2 y3 := by
  have a1 : (1 < n) = True := by simp; omega
  have a2 : (1 < 2) = True := by simp
  have a3 : ¬ (2 < n ∧ x2 / 64 = 2) := fun c => by omega
  have a4 : ¬ (2 < 2 ∧ y2 / 64 = 2) := fun c => by omega
  unfold decodeN
  simp only [a1, a2, a3, a4, false_and, and_false, if_false]
theorem qN3 (n b0 b1 b2 x3 y3 : Nat) (hn : 2 < n) (hx : 3 < n → x3 / 64 = 0) : decodeN n b0 b1 b2 x3 = decodeN 3 b0 b1 b2 y3 := by
  have a1 : (1 < n) = True := by simp; omega
  have a2 : (2 < n) = True := by simp; omega
  have a3 : (1 < 3) = True := by simp
  have a4 : (2 < 3) = True := by simp
  have a5 : ¬ (3 < n ∧ x3 / 64 = 2) := fun c => by omega
  have a6 : ¬ (3 < 3 ∧ y3 / 64 = 2) := fun c => by omega
  unfold decodeN
  simp only [a1, a2, a3, a4, a5, a6, false_and, and_false, if_false]
theorem Bt.dec {S s : ByteArray} {d : Nat} (h : Bt S d s) (hst : Stq S (d + s.size)) {p : Nat} (hp : p < s.size) : Utf8.decode S (d + p) = Utf8.decode s p := by
  have hz := h.1
  rw [decode_at, decode_at, h.2 p hp]
  have g : ∀ i, p + i < s.size → S.get! (d + p + i) = s.get! (p + i) := fun i hi => by rw [Nat.add_assoc]; exact h.2 (p + i) hi
  have e : ∀ i, p + i = s.size → i < S.size - (d + p) → (S.get! (d + p + i)).toNat / 64 = 0 := fun i hi hl => by
    have : d + p + i = d + s.size := by omega
    rw [this]
    rcases hst.low with h1 | h1 <;> omega
  have c : s.size - p = 1 ∨ s.size - p = 2 ∨ s.size - p = 3 ∨ 4 ≤ s.size - p := by omega
  rcases c with c | c | c | c
  · rw [c]; exact qN1 _ _ _ _ _ _ _ _ (e 1 (by omega))
  · rw [c, g 1 (by omega)]; exact qN2 _ _ _ _ _ _ _ (by omega) (e 2 (by omega))
  · rw [c, g 1 (by omega), g 2 (by omega)]; exact qN3 _ _ _ _ _ _ (by omega) (e 3 (by omega))
  · rw [g 1 (by omega), g 2 (by omega), g 3 (by omega)]; exact dN4 _ _ _ _ _ _ (by omega) (by omega)
theorem Bt.ext {S s : ByteArray} {d : Nat} (h : Bt S d s) : S.extract d (d + s.size) = s := by
  apply ByteArray.ext
  apply Array.ext'
  rw [extract_data]
  apply List.ext_getElem?
  intro i
  rw [List.getElem?_take]
  by_cases hi : i < s.size
  · rw [if_pos (by omega), List.getElem?_drop, ba_get s i hi, ba_get S (d + i) (by have := h.1; omega), h.2 i hi]
  · rw [if_neg (by omega), List.getElem?_eq_none]
    rw [← size_eq]; omega
theorem dlow (S : ByteArray) (p : Nat) (h : (S.get! p).toNat < 128) : Utf8.decode S p = ((S.get! p).toNat, 1) := by
  rw [decode_at]; unfold decodeN; rw [if_pos h]
theorem glow (S : ByteArray) (p : Nat) (h : (S.get! p).toNat < 128) : bad S p = false := by
  unfold bad; rw [dlow S p h]
  have : ¬ (S.get! p).toNat = 65533 := by omega
  simp [this]
theorem Stq.off {S : ByteArray} {e : Nat} (h : Stq S e) (hl : e < S.size) : onB (Utf8.decode S e).1 = false ∧ digZ (Utf8.decode S e).1 = 0 := by
  rcases h with h | ⟨_, h | h⟩
  · omega
  · rw [dlow S e (by rw [h]; decide), h]; exact ⟨em_on.1, em_on.2.2.1⟩
  · rw [dlow S e (by rw [h]; decide), h]; exact ⟨em_on.2.1, em_on.2.2.2.1⟩

/-! ### blanks -/
theorem skp_off {S : ByteArray} {p : Nat} (hp : p < S.size) (h : kd (Utf8.decode S p).1 ≠ 3) : skp S p = p := by
  unfold skp
  obtain ⟨f, hf⟩ : ∃ f, S.size = f + 1 := ⟨S.size - 1, by omega⟩
  rw [hf]
  simp only [psSkip]
  rw [if_pos (by omega), if_neg h]

/-! ### no bad byte -/
theorem CkA.low {S : ByteArray} {p : Nat} (hp : p < S.size) (hl : (S.get! p).toNat < 128) (hn : CkA S (p + 1)) : CkA S p := fun g => by
  cases g with
  | zero => rfl
  | succ g => rw [chkF_good S g p hp (glow S p hl), dlow S p hl]; exact hn g
theorem CkA.asc {S : ByteArray} : ∀ (l : List UInt8) (d : Nat), (∀ c ∈ l, c.toNat < 128) → Bt S d (txt l) → CkA S (d + l.length) → CkA S d
  | [], d, _, _, h => h
  | c :: l, d, hc, hb, h => by
    have e : txt (c :: l) = txt [c] ++ txt l := by rw [← txt_append]; rfl
    rw [e] at hb
    obtain ⟨h1, h2⟩ := hb.app
    obtain ⟨h3, h4⟩ := h1.byte
    rw [txt_size] at h2
    simp only [List.length_cons, List.length_nil, Nat.zero_add] at h2 h
    refine CkA.low h3 (by rw [h4]; exact hc c (by simp)) (CkA.asc l (d + 1) (fun x hx => hc x (by simp [hx])) h2 ?_)
    rw [show d + 1 + l.length = d + (l.length + 1) by omega]; exact h
theorem CkA.name {S nm : ByteArray} {d : Nat} (h : Bt S d nm) (hst : Stq S (d + nm.size)) (hc : CkA S (d + nm.size)) : ∀ (f q n : Nat), nmF nm f q n = true → q ≤ nm.size → nm.size ≤ q + f → CkA S (d + q)
  | 0, q, n, h1, h2, h3 => by
    have e : q = nm.size := by omega
    subst e; exact hc
  | f + 1, q, n, h1, h2, h3 => by
    by_cases hq : q < nm.size
    · rw [nmF_step nm f q n hq] at h1
      have hw := width_pos nm q hq
      have hw2 := dec_le nm q hq
      have hd := h.dec hst hq
      have hon : onB (Utf8.decode nm q).1 = true ∧ nmF nm f (q + (Utf8.decode nm q).2) (n + 1) = true := by
        unfold nmS at h1
        split at h1
        · cases h1
        · rename_i hh; simp at hh; exact ⟨hh.2, h1⟩
      have ih := CkA.name h hst hc f _ _ hon.2 hw2 (by omega)
      have hb : bad S (d + q) = false := by
        unfold bad
        rw [hd]
        cases hx : decide ((Utf8.decode nm q).1 = 65533)
        · have : ¬ (Utf8.decode nm q).1 = 65533 := by simpa using hx
          simp [this]
        · have : (Utf8.decode nm q).1 = 65533 := by simpa using hx
          rw [this] at hon
          have : onB ((65533 : Nat) : Int) = false := by decide +kernel
          rw [this] at hon
          exact absurd hon.1 (by decide)
      intro g
      cases g with
      | zero => rfl
      | succ g =>
        rw [chkF_good S g (d + q) (by have := h.1; omega) hb, hd, Nat.add_assoc]
        exact ih g
    · have e : q = nm.size := by omega
      subst e; exact hc

/-! ### names -/
theorem spF_nm {S nm : ByteArray} {p : Nat} (h : Bt S p nm) (hst : Stq S (p + nm.size)) : ∀ (f q n : Nat), nmF nm f q n = true → q ≤ nm.size → nm.size ≤ q + f → ∀ F, S.size ≤ p + q + F → spF S F (p + q) = p + nm.size
  | 0, q, n, h1, h2, h3, F, hF => by
    have e : q = nm.size := by omega
    subst e
    by_cases hl : p + nm.size < S.size
    · exact spF_off S F _ hl (hst.off hl).1
    · exact spF_end S F _ hl
  | f + 1, q, n, h1, h2, h3, F, hF => by
    by_cases hq : q < nm.size
    · have hsz := h.1
      rw [nmF_step nm f q n hq] at h1
      have hw := width_pos nm q hq
      have hw2 := dec_le nm q hq
      have hd := h.dec hst hq
      have hon : onB (Utf8.decode nm q).1 = true ∧ nmF nm f (q + (Utf8.decode nm q).2) (n + 1) = true := by
        unfold nmS at h1
        split at h1
        · cases h1
        · rename_i hh; simp at hh; exact ⟨hh.2, h1⟩
      obtain ⟨F, rfl⟩ : ∃ G, F = G + 1 := ⟨F - 1, by omega⟩
      rw [spF_on S F (p + q) (by omega) (by rw [hd]; exact hon.1), hd, Nat.add_assoc]
      exact spF_nm h hst f _ _ hon.2 hw2 (by omega) F (by omega)
    · have e : q = nm.size := by omega
      subst e
      by_cases hl : p + nm.size < S.size
      · exact spF_off S F _ hl (hst.off hl).1
      · exact spF_end S F _ hl
theorem nm_first (nm : ByteArray) (h : nameB nm = true) : 0 < nm.size ∧ kd (Utf8.decode nm 0).1 = 1 := by
  unfold nameB at h
  by_cases h0 : 0 < nm.size
  · refine ⟨h0, ?_⟩
    obtain ⟨k, hk⟩ : ∃ k, nm.size = k + 1 := ⟨nm.size - 1, by omega⟩
    rw [hk, nmF_step nm k 0 0 h0] at h
    unfold nmS at h
    split at h
    · cases h
    · rename_i hh; simp at hh; exact hh.1
  · rw [nmF_end nm _ 0 0 h0] at h; simp at h
theorem name_tok {S nm : ByteArray} {d : Nat} (h : Bt S d nm) (hst : Stq S (d + nm.size)) (hn : nameB nm = true) (pat : Bool) (m : Nat) : psFrom S pat m d = .ok ⟨97, d, d + nm.size, 0, 0⟩ := by
  obtain ⟨h0, hk⟩ := nm_first nm hn
  have hd := h.dec hst h0
  rw [Nat.add_zero] at hd
  have hz := h.1
  have k1 : kd (Utf8.decode S d).1 = 1 := by rw [hd]; exact hk
  unfold psFrom
  rw [if_pos (by omega)]
  unfold psAt
  rw [if_pos k1]
  obtain ⟨e1, _, _⟩ := span_in' S d (by omega) k1
  have e2 := spF_nm h hst nm.size 0 0 hn (Nat.zero_le _) (by omega) S.size (by omega)
  rw [Nat.add_zero] at e2
  rw [e1, e2]
  simp only [Int.toNat_natCast, h.ext, hn, if_true]

/-! ### numbers -/
def foldD (acc : Nat) (bs : List UInt8) : Nat := bs.foldl (fun a b => a * 10 + (b.toNat - 48)) acc
theorem foldD_ge : ∀ (bs : List UInt8) (acc : Nat), acc ≤ foldD acc bs
  | [], acc => Nat.le_refl _
  | b :: bs, acc => by
    have := foldD_ge bs (acc * 10 + (b.toNat - 48))
    show acc ≤ foldD (acc * 10 + (b.toNat - 48)) bs
    omega
theorem dig_mem : ∀ (u : Nat), ∀ b ∈ decDigits u, 48 ≤ b.toNat ∧ b.toNat ≤ 57 := by
  intro u
  induction u using Nat.strongRecOn with
  | _ u ih =>
    rw [decDigits]
    split
    · intro b hb
      simp at hb
      subst hb
      simp [UInt8.toNat_ofNat]; omega
    · intro b hb
      rcases List.mem_append.1 hb with hb | hb
      · exact ih (u / 10) (by omega) b hb
      · simp at hb
        subst hb
        simp [UInt8.toNat_ofNat]; omega
theorem dig_ne (u : Nat) : 0 < (decDigits u).length := by rw [decDigits]; split <;> simp
theorem foldD_dec : ∀ (u : Nat), foldD 0 (decDigits u) = u := by
  intro u
  induction u using Nat.strongRecOn with
  | _ u ih =>
    rw [decDigits]
    split
    · rename_i h
      simp [foldD, UInt8.toNat_ofNat]; omega
    · rename_i h
      have h2 := ih (u / 10) (by omega)
      unfold foldD at h2 ⊢
      rw [List.foldl_append, h2]
      simp [UInt8.toNat_ofNat]; omega
theorem dig_rune : ∀ b : Nat, 48 ≤ b → b ≤ 57 → digZ (b : Int) = 48 ∧ digV (b : Int) = (b : Int) - 48 ∧ kd (b : Int) = 2 := by
  intro b h1 h2
  have hh : hasB 48 57 (b : Int) = true := by simp [hasB]; omega
  have hz : digZ (b : Int) = 48 := by unfold digZ; rw [hh]; rfl
  refine ⟨hz, ?_, (kd_two _).2 (by rw [hz]; decide)⟩
  unfold digV; rw [hh]; rfl
theorem nu_dig {S : ByteArray} : ∀ (bs : List UInt8) (d f acc : Nat), (∀ b ∈ bs, 48 ≤ b.toNat ∧ b.toNat ≤ 57) → Bt S d (txt bs) → foldD acc bs ≤ 18446744073709551615 → nuF S 48 (f + bs.length) d acc = nuF S 48 f (d + bs.length) (foldD acc bs)
  | [], d, f, acc, _, _, _ => rfl
  | b :: bs, d, f, acc, hd, hb, hl => by
    have e : txt (b :: bs) = txt [b] ++ txt bs := by rw [← txt_append]; rfl
    rw [e] at hb
    obtain ⟨h1, h2⟩ := hb.app
    obtain ⟨h3, h4⟩ := h1.byte
    rw [txt_size] at h2
    simp only [List.length_cons, List.length_nil, Nat.zero_add] at h2 ⊢
    obtain ⟨hb1, hb2⟩ := hd b (by simp)
    obtain ⟨r1, r2, r3⟩ := dig_rune b.toNat hb1 hb2
    have hdec : Utf8.decode S d = (b.toNat, 1) := by rw [dlow S d (by rw [h4]; omega), h4]
    have hv : (digV (Utf8.decode S d).1).toNat = b.toNat - 48 := by rw [hdec]; show (digV (b.toNat : Int)).toNat = _; rw [r2]; omega
    have hge := foldD_ge bs (acc * 10 + (b.toNat - 48))
    have hfo : foldD acc (b :: bs) = foldD (acc * 10 + (b.toNat - 48)) bs := rfl
    rw [hfo] at hl ⊢
    rw [show f + (bs.length + 1) = (f + bs.length) + 1 by omega, nuF_on S 48 _ d acc h3 (by rw [hdec]; exact r1) (by rw [hv]; omega), hv, hdec]
    show nuF S 48 (f + bs.length) (d + 1) _ = _
    rw [nu_dig bs (d + 1) f _ (fun x hx => hd x (by simp [hx])) h2 hl, show d + 1 + bs.length = d + (bs.length + 1) by omega]
theorem num_at {S : ByteArray} {d u : Nat} (hu : u ≤ 18446744073709551615) (h : Bt S d (txt (decDigits u))) (hst : Stq S (d + (decDigits u).length)) : d < S.size ∧ kd (Utf8.decode S d).1 = 2 ∧ numI S (d : Int) = (u, d + (decDigits u).length, 0) := by
  have hne := dig_ne u
  have hz := h.1
  rw [txt_size] at hz
  have h0 := h.2 0 (by rw [txt_size]; exact hne)
  rw [Nat.add_zero, txt_get _ 0 hne] at h0
  obtain ⟨m1, m2⟩ := dig_mem u _ (List.getElem_mem hne)
  have hdec : Utf8.decode S d = ((decDigits u)[0].toNat, 1) := by rw [dlow S d (by rw [h0]; omega), h0]
  obtain ⟨r1, r2, r3⟩ := dig_rune _ m1 m2
  have hrn : digZ (rn S d) = 48 := by rw [digZ_rn S d (by omega), hdec]; exact r1
  refine ⟨by omega, by rw [hdec]; exact r3, ?_⟩
  unfold numI numP
  rw [if_neg (by omega), Int.toNat_natCast, hrn, if_neg (by decide)]
  have hf := foldD_dec u
  have := nu_dig (decDigits u) d (S.size - (decDigits u).length) 0 (dig_mem u) h (by rw [hf]; exact hu)
  rw [show S.size - (decDigits u).length + (decDigits u).length = S.size by omega, hf] at this
  rw [this]
  by_cases hl : d + (decDigits u).length < S.size
  · exact nuF_off S 48 _ _ _ (by rw [(hst.off hl).2]; decide)
  · exact nuF_end S 48 _ _ _ hl
theorem num_tok {S : ByteArray} {d u : Nat} (hu : u ≤ 18446744073709551615) (h : Bt S d (txt (decDigits u))) (hst : Stq S (d + (decDigits u).length)) (pat : Bool) (m : Nat) (hm : u ≤ m) : psFrom S pat m d = .ok ⟨48, d, d + (decDigits u).length, u, 0⟩ := by
  obtain ⟨h1, h2, h3⟩ := num_at hu h hst
  unfold psFrom
  rw [if_pos h1]
  unfold psAt
  rw [if_neg (by rw [h2]; decide), if_pos h2, h3]
  simp only
  rw [if_neg (by omega)]

/-! ### signs -/
def sg1 (c : UInt8) : Prop := c = 40 ∨ c = 41 ∨ c = 42 ∨ c = 43 ∨ c = 45 ∨ c = 47 ∨ c = 37 ∨ c = 38 ∨ c = 124 ∨ c = 94 ∨ c = 126 ∨ c = 60 ∨ c = 63 ∨ c = 58
theorem sg1_kd : ∀ c : UInt8, c ∈ ([40, 41, 42, 43, 45, 47, 37, 38, 124, 94, 126, 60, 63, 58, 61, 62, 64] : List UInt8) → c.toNat < 128 ∧ kd (c.toNat : Int) = 4 ∧ psPlain (c.toNat : Int) = (c.toNat : Int) ∧ runeLen (c.toNat : Int) = 1 := by decide +kernel
theorem sg1_mem {c : UInt8} (h : sg1 c) : c ∈ ([40, 41, 42, 43, 45, 47, 37, 38, 124, 94, 126, 60, 63, 58, 61, 62, 64] : List UInt8) := by
  unfold sg1 at h
  rcases h with rfl | rfl | rfl | rfl | rfl | rfl | rfl | rfl | rfl | rfl | rfl | rfl | rfl | rfl <;> decide
theorem one_tok {S : ByteArray} {q : Nat} {c : UInt8} (hq : q < S.size) (h : S.get! q = c) (hc : sg1 c) (h60 : c = 60 → ¬ (q + 1 < S.size ∧ S.get! (q + 1) = 60)) (pat : Bool) (m : Nat) : psFrom S pat m q = .ok ⟨(c.toNat : Int), q, q + 1, 0, 0⟩ := by
  obtain ⟨k1, k2, k3, k4⟩ := sg1_kd c (sg1_mem hc)
  have hd : Utf8.decode S q = (c.toNat, 1) := by rw [dlow S q (by rw [h]; exact k1), h]
  have hno : ∀ x : UInt8, (c = x → x = 60) → psTwo S q x = false := fun x hx => by
    cases hb : psTwo S q x
    · rfl
    · obtain ⟨b1, b2, b3⟩ := (two_iff S q x).1 hb
      have e : c = x := h.symm.trans b2
      have e2 := hx e
      subst e2
      exact absurd ⟨b1, b3⟩ (h60 e)
  have hsg : psSign S pat q (c.toNat : Int) = ((c.toNat : Int), 1) := by
    unfold psSign
    rw [hno 61 (by unfold sg1 at hc; rcases hc with rfl | rfl | rfl | rfl | rfl | rfl | rfl | rfl | rfl | rfl | rfl | rfl | rfl | rfl <;> decide), hno 60 (fun _ => rfl), hno 62 (by unfold sg1 at hc; rcases hc with rfl | rfl | rfl | rfl | rfl | rfl | rfl | rfl | rfl | rfl | rfl | rfl | rfl | rfl <;> decide)]
    simp only [Bool.false_eq_true, if_false]
    rw [if_neg (by unfold sg1 at hc; rcases hc with rfl | rfl | rfl | rfl | rfl | rfl | rfl | rfl | rfl | rfl | rfl | rfl | rfl | rfl <;> decide), if_neg (fun x => absurd x.1 (by unfold sg1 at hc; rcases hc with rfl | rfl | rfl | rfl | rfl | rfl | rfl | rfl | rfl | rfl | rfl | rfl | rfl | rfl <;> decide)), k3, k4]
  unfold psFrom
  rw [if_pos hq, hd]
  unfold psAt
  simp only
  rw [if_neg (by rw [k2]; decide), if_neg (by rw [k2]; decide), hsg, if_pos ⟨k2, show (0 : Int) < 1 by decide⟩]
  rfl
theorem two_tok {S : ByteArray} {q : Nat} {c : UInt8} (hq : q + 1 < S.size) (h : S.get! q = c) (h1 : S.get! (q + 1) = c) (hc : c = 60 ∨ c = 61 ∨ c = 62) (pat : Bool) (m : Nat) : psFrom S pat m q = .ok ⟨if c = 60 then 8810 else if c = 61 then 8801 else 8811, q, q + 2, 0, 0⟩ := by
  have hm : c ∈ ([40, 41, 42, 43, 45, 47, 37, 38, 124, 94, 126, 60, 63, 58, 61, 62, 64] : List UInt8) := by rcases hc with rfl | rfl | rfl <;> decide
  obtain ⟨k1, k2, k3, k4⟩ := sg1_kd c hm
  have hd : Utf8.decode S q = (c.toNat, 1) := by rw [dlow S q (by rw [h]; exact k1), h]
  have hno : ∀ x : UInt8, psTwo S q x = decide (c = x) := fun x => by
    cases hb : psTwo S q x
    · symm
      rw [decide_eq_false_iff_not]
      intro e
      have := (two_iff S q x).2 ⟨hq, by rw [h, e], by rw [h1, e]⟩
      rw [hb] at this; cases this
    · obtain ⟨b1, b2, b3⟩ := (two_iff S q x).1 hb
      symm
      rw [decide_eq_true_iff]
      exact h.symm.trans b2
  have hsg : psSign S pat q (c.toNat : Int) = (if c = 60 then 8810 else if c = 61 then 8801 else 8811, 2) := by
    unfold psSign
    rw [hno 61, hno 60, hno 62]
    rcases hc with rfl | rfl | rfl <;> rfl
  unfold psFrom
  rw [if_pos (by omega), hd]
  unfold psAt
  simp only
  rw [if_neg (by rw [k2]; decide), if_neg (by rw [k2]; decide), hsg, if_pos ⟨k2, show (0 : Int) < 2 by decide⟩]
  rfl
theorem at_tok {S : ByteArray} {q : Nat} (hq : q < S.size) (h : S.get! q = 64) (m : Nat) : psFrom S true m q = .ok ⟨64, q, q + 1, 0, 0⟩ := by
  obtain ⟨k1, k2, k3, k4⟩ := sg1_kd 64 (by decide)
  have hd : Utf8.decode S q = (64, 1) := by rw [dlow S q (by rw [h]; decide), h]; rfl
  have hno : ∀ x : UInt8, 64 ≠ x → psTwo S q x = false := fun x hx => by
    cases hb : psTwo S q x
    · rfl
    · obtain ⟨b1, b2, b3⟩ := (two_iff S q x).1 hb
      exact absurd (h.symm.trans b2) hx
  have hsg : psSign S true q 64 = (64, 1) := by
    unfold psSign
    rw [hno 61 (by decide), hno 60 (by decide), hno 62 (by decide)]
    simp only [Bool.false_eq_true, if_false]
    rw [if_neg (by decide), if_neg (by simp)]
    exact Prod.ext k3 k4
  unfold psFrom
  rw [if_pos hq, hd]
  unfold psAt
  simp only
  rw [if_neg (by have : kd ((64 : Nat) : Int) = 4 := k2; rw [this]; decide), if_neg (by have : kd ((64 : Nat) : Int) = 4 := k2; rw [this]; decide)]
  have e : psSign S true q ((64 : Nat) : Int) = (64, 1) := hsg
  rw [e, if_pos ⟨k2, show (0 : Int) < 1 by decide⟩]
  rfl
end Go.Proofs.YtjmccobblpcbhaaDoor

set_option linter.unusedSimpArgs false
set_option linter.unusedVariables false
namespace Go.Proofs.YtjmccobblpcbhaaDoor

/-- The part whose own node stands at a kid's place. -/
def kidPart (l : List Nd) (fr : List Nat) (k : Int) : List Nd := partL l (fr.getD k.toNat 0) k.toNat


theorem cut_split (l : List Nd) (a b c : Nat) (hab : a ≤ b) (hbc : b ≤ c) : (l.drop a).take (c - a) = (l.drop a).take (b - a) ++ (l.drop b).take (c - b) := by
  have e : c - a = (b - a) + (c - b) := by omega
  rw [e, List.take_add, List.drop_drop]
  have e2 : a + (b - a) = b := by omega
  rw [e2]

end Go.Proofs.YtjmccobblpcbhaaDoor

set_option linter.unusedSimpArgs false
set_option linter.unusedVariables false
namespace Go.Proofs.YtjmccobblpcbhaaDoor
open Go.Lib

/-- The text of the node at a place. -/
def tx (J : JT) (l : List Nd) (i : Nat) : ByteArray := ((tlL J l).getD i pt0).2

theorem foldl_tlS_pre (J : JT) : ∀ (m : List Nd) (t : List (Nd × ByteArray)), ∃ r, m.foldl (tlS J) t = t ++ r
  | [], t => ⟨[], by simp⟩
  | x :: m, t => by
    obtain ⟨r, hr⟩ := foldl_tlS_pre J m (tlS J t x)
    exact ⟨[(x, ndT J t x)] ++ r, by rw [List.foldl_cons, hr]; simp [tlS]⟩
theorem tlL_prefix (J : JT) (l : List Nd) (k i : Nat) (hi : i < k) (hk : k ≤ l.length) : (tlL J (l.take k)).getD i pt0 = (tlL J l).getD i pt0 := by
  have e : tlL J l = (l.drop k).foldl (tlS J) (tlL J (l.take k)) := by
    unfold tlL
    rw [← List.foldl_append, List.take_append_drop]
  obtain ⟨r, hr⟩ := foldl_tlS_pre J (l.drop k) (tlL J (l.take k))
  rw [e, hr, getD_append_left]
  rw [tlL_len]; simp; omega
theorem tl_at (J : JT) (l : List Nd) (i : Nat) (hi : i < l.length) : (tlL J l).getD i pt0 = (l.getD i nd0, ndT J (tlL J (l.take i)) (l.getD i nd0)) := by
  rw [← tlL_prefix J l (i + 1) i (by omega) (by omega), tlL_take hi]
  have hl : (tlL J (l.take i)).length = i := by rw [tlL_len]; simp; omega
  simp [List.getD_eq_getElem?_getD, List.getElem?_append_right, hl]
def kdP (J : JT) (l : List Nd) (ks : List Int) : List (Nd × ByteArray) := ks.map fun q => (l.getD q.toNat nd0, tx J l q.toNat)
theorem kids_tx (J : JT) (l : List Nd) (i : Nat) (hi : i < l.length) : ∀ ks : List Int, (∀ q ∈ ks, 0 ≤ q ∧ q < (i : Int)) → kidsP (tlL J (l.take i)) ks = kdP J l ks
  | [], _ => rfl
  | q :: ks, h => by
    have h0 := h q (List.mem_cons_self ..)
    have h1 := kids_tx J l i hi ks fun y hy => h y (List.mem_cons_of_mem _ hy)
    unfold kidsP kdP at h1 ⊢
    rw [List.map_cons, List.map_cons, h1, tlL_prefix J l i q.toNat (by omega) (by omega)]
    have := tl_at J l q.toNat (by omega)
    unfold tx
    rw [this]
theorem tx_eq (J : JT) (l : List Nd) (i : Nat) (hi : i < l.length) (hk : ∀ q ∈ (l.getD i nd0).kids, 0 ≤ q ∧ q < (i : Int)) : tx J l i = if (l.getD i nd0).kids.length = 0 then leafT (l.getD i nd0) else J (l.getD i nd0) (kdP J l (l.getD i nd0).kids) := by
  have h := tl_at J l i hi
  unfold tx
  rw [h]
  show ndT J (tlL J (l.take i)) (l.getD i nd0) = _
  unfold ndT
  rw [kids_tx J l i hi _ hk]
theorem shF_tx (J : JT) (l : List Nd) : shF J l = tx J l (l.length - 1) := rfl
theorem tx_size {J : JT} (hJ : JOk J) {l : List Nd} {fr : List Nat} (hb : begL (l.map fillN) = some fr) (hn : ∀ x ∈ l, num64 x.n) (i : Nat) : (tx J l i).size ≤ 6500 := by
  have h64 : l.length ≤ 64 := by have := (snd_bounds hb).1; simpa using this
  by_cases hi : i < l.length
  · have hT := tl_ok hJ hb hn l.length (Nat.le_refl _)
    rw [List.take_length] at hT
    have h1 := hT i (by rw [tlL_len]; exact hi)
    have h2 := wgt_le fr i
    unfold tx
    omega
  · unfold tx
    rw [List.getD_eq_getElem?_getD, List.getElem?_eq_none (by rw [tlL_len]; omega)]
    show (⟨#[]⟩ : ByteArray).size ≤ 6500
    decide

/-! ### brackets -/
/-! ### putting together -/
/-! ### decimals -/
end Go.Proofs.YtjmccobblpcbhaaDoor
