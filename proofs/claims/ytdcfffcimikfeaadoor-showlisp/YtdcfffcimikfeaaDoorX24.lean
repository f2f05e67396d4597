/-
  EmApp, WrA, ExDecPure, RfP, WrB, LiP, WrC.
-/
import Derived.Test.YtdcfffcimikfeaaDoorChecked
import GoSem.PinnedTables
import GoSem.Claim
import GoSem.ClaimJoined
import GoSem.ClaimMapViews
import Derived.JoinedTies
import Derived.KernelRfl
import Derived.Shelf.Unicode.DecodeSlow
import Derived.Laws.RangeAny
import Derived.Shelf.Strings.Builder1
import Derived.Shelf.Small.Utf8
import Derived.Shelf.Small.Bits
import Derived.Shelf.Strings.BuilderF
import Derived.Shelf.Strings.BuilderK
import Derived.Shelf.Strings.BuilderRune
import Derived.Shelf.Utf8.AppendRune
import Derived.Shelf.Strconv.Itoa0
import Derived.Shelf.Strconv.Itoa1
import Derived.Shelf.LaysM
import Derived.Shelf.Strconv.Itoa2
import Derived.Shelf.Strconv.Itoa3
import Derived.Shelf.Strconv.Itoa4
import Derived.Shelf.Strings.Prefix
import Derived.Shelf.Unicode.DecodeAny
import Derived.Shelf.Slices.CompactS
import Derived.Ground.SlsfProg
import Derived.Shelf.SlSortCmp.Insertion
import Derived.Shelf.SlSortCmp.SiftDown1
import Derived.Shelf.SlSortCmp.HeapSort1
import Derived.Shelf.SlSortCmp.Insertion1
import Derived.Shelf.SlSortCmp.Median1
import Derived.Shelf.SlSortCmp.Pivot1
import Derived.Shelf.SlSortCmp.ReverseRange1
import Derived.Shelf.SlSortCmp.PartialInsertion1
import Derived.Shelf.SlSortCmp.PartitionEqual1
import Derived.Shelf.SlSortCmp.Partition1
import Derived.Shelf.SlSortCmp.Pdq1
import Derived.Shelf.SlSortCmp.Whole1
import Derived.Test.YtdcfffcimikfeaaDoorProg
import Derived.WalkKit
import Derived.Deep.DeepFit
import Derived.Lib.OthersKept
import Derived.Lib.RuneCountTail
import Derived.Lib.LaidU8
import Derived.MakeChecks
import Derived.ProofKit
import Derived.OpenShut
import Derived.Deep.DeepHandedRow
import Derived.Lib.MapLaws
import Derived.Sort.Walk0
import Derived.Laws.DeepStrings4
import Derived.Lib.ItoaNum
import Derived.Deep.AppendLies
import Derived.Deep.OwnRows
import Derived.Laws.AppendOwnNone
import Derived.Deep.QuietTactic
import Derived.BigQuiet
import Derived.Deep.RegionWith
import Derived.BigCall
import Derived.Lib.LaidTab
import Derived.Maps.OwnSet
import Derived.StringKeys
import Derived.Deep.Slices
import Derived.Lib.QuietBelow
import Derived.StillTail
import Derived.Laws.OwnMore
import Derived.Lib.Small
import Derived.Lib.Strings
import Derived.Deep.RegionHeld3
import Derived.Laws.ResultCell
import Derived.Deep.Heap
import Derived.Laws.Rows
import Derived.Deep.RegionLaw
import Derived.Test.YtdcfffcimikfeaaDoorRows
import Derived.Test.YtdcfffcimikfeaaDoorX01
import Derived.Test.YtdcfffcimikfeaaDoorX02
import Derived.Test.YtdcfffcimikfeaaDoorX03
import Derived.Test.YtdcfffcimikfeaaDoorX04
import Derived.Test.YtdcfffcimikfeaaDoorX05
import Derived.Test.YtdcfffcimikfeaaDoorX06
import Derived.Test.YtdcfffcimikfeaaDoorX07
import Derived.Test.YtdcfffcimikfeaaDoorX08
import Derived.Test.YtdcfffcimikfeaaDoorX09
import Derived.Test.YtdcfffcimikfeaaDoorX10
import Derived.Test.YtdcfffcimikfeaaDoorX11
import Derived.Test.YtdcfffcimikfeaaDoorX12
import Derived.Test.YtdcfffcimikfeaaDoorX13
import Derived.Test.YtdcfffcimikfeaaDoorX14
import Derived.Test.YtdcfffcimikfeaaDoorX15
import Derived.Test.YtdcfffcimikfeaaDoorX17
import Derived.Test.YtdcfffcimikfeaaDoorX18
import Derived.Test.YtdcfffcimikfeaaDoorX19
import Derived.Test.YtdcfffcimikfeaaDoorX20
import Derived.Test.YtdcfffcimikfeaaDoorX21
import Derived.Test.YtdcfffcimikfeaaDoorX22
import Derived.Test.YtdcfffcimikfeaaDoorX23
set_option linter.unusedSimpArgs false
set_option linter.unusedVariables false
namespace Go.Proofs.YtdcfffcimikfeaaDoor
open Go.Lib

theorem apz (a b : ByteArray) : (a ++ b).size = a.size + b.size := by simp
theorem app_list (a b : ByteArray) : (a ++ b).data.toList = a.data.toList ++ b.data.toList := by simp
theorem gA (a b : ByteArray) (i : Nat) (h : i < a.size) : (a ++ b).get! i = a.get! i := by
  have h1 := ba_get (a ++ b) i (by rw [apz]; omega)
  have h2 := ba_get a i h
  have hl : a.data.toList.length = a.size := (size_eq a).symm
  rw [app_list, List.getElem?_append_left (by omega), h2] at h1
  exact (Option.some.inj h1).symm
theorem gB (a b : ByteArray) (i : Nat) (h0 : a.size ≤ i) (h : i < a.size + b.size) : (a ++ b).get! i = b.get! (i - a.size) := by
  have h1 := ba_get (a ++ b) i (by rw [apz]; omega)
  have h2 := ba_get b (i - a.size) (by omega)
  have hl : a.data.toList.length = a.size := (size_eq a).symm
  rw [app_list, List.getElem?_append_right (by omega), hl, h2] at h1
  exact (Option.some.inj h1).symm
def A1 : ByteArray := ⟨#[40]⟩
def A2 (c : UInt8) : ByteArray := ⟨#[c, 40]⟩
end Go.Proofs.YtdcfffcimikfeaaDoor

set_option linter.unusedSimpArgs false
set_option linter.unusedVariables false
namespace Go.Proofs.YtdcfffcimikfeaaDoor
open Go.Lib

/-- The bytes of s stand in S from d on. -/
def Bt (S : ByteArray) (d : Nat) (s : ByteArray) : Prop := d + s.size ≤ S.size ∧ ∀ i, i < s.size → S.get! (d + i) = s.get! i
/-- What stands there ends what was ahead: the text's end, a bracket that closes, a blank. -/
def Stq (S : ByteArray) (e : Nat) : Prop := e = S.size ∨ (e < S.size ∧ (S.get! e = 41 ∨ S.get! e = 32))
theorem Stq.low {S : ByteArray} {e : Nat} (h : Stq S e) : e = S.size ∨ (S.get! e).toNat < 64 := by
  rcases h with h | ⟨_, h | h⟩
  · exact .inl h
  · right; rw [h]; decide
  · right; rw [h]; decide
theorem Bt.app {S a b : ByteArray} {d : Nat} (h : Bt S d (a ++ b)) : Bt S d a ∧ Bt S (d + a.size) b := by
  obtain ⟨h1, h2⟩ := h
  rw [apz] at h1 h2
  refine ⟨⟨by omega, fun i hi => ?_⟩, ⟨by omega, fun i hi => ?_⟩⟩
  · rw [h2 i (by omega), gA a b i hi]
  · rw [Nat.add_assoc, h2 (a.size + i) (by omega), gB a b _ (by omega) (by omega), Nat.add_sub_cancel_left]
theorem Bt.self (S : ByteArray) : Bt S 0 S := ⟨by omega, fun i _ => by rw [Nat.zero_add]⟩
theorem txt_get (l : List UInt8) (i : Nat) (h : i < l.length) : (txt l).get! i = l[i] := by
  have h1 := ba_get (txt l) i (by rw [txt_size]; exact h)
  have e : (txt l).data.toList = l := by simp [txt]
  rw [e, List.getElem?_eq_getElem h] at h1
  exact (Option.some.inj h1).symm
theorem Bt.byte {S : ByteArray} {d : Nat} {c : UInt8} (h : Bt S d (txt [c])) : d < S.size ∧ S.get! d = c := by
  obtain ⟨h1, h2⟩ := h
  rw [txt_size] at h1 h2
  simp only [List.length_cons, List.length_nil] at h1 h2
  have := h2 0 (by omega)
  rw [Nat.add_zero, txt_get _ 0 (by simp)] at this
  exact ⟨by omega, this⟩

/-! ### characters -/
theorem qN1 (n b0 x1 x2 x3 y1 y2 y3 : Nat) (hx : 1 < n → x1 / 64 = 0) : decodeN n b0 x1 x2 x3 = decodeN 1 b0 y1 y2 y3 := by
  unfold decodeN
  by_cases h0 : b0 < 128
  · rw [if_pos h0, if_pos h0]
  · rw [if_neg h0, if_neg h0, if_neg (fun c => by omega), if_neg (fun c => by omega), if_neg (fun c => by omega), if_neg (fun c => by omega), if_neg (fun c => by omega), if_neg (fun c => by omega)]
theorem qN2 (n b0 b1 x2 x3 y2 y3 : Nat) (hn : 1 < n) (hx : 2 < n → x2 / 64 = 0) : decodeN n b0 b1 x2 x3 = decodeN 2 b0 b1 y2 y3 := by
  have a1 : (1 < n) = True := by simp; omega
  have a2 : (1 < 2) = True := by simp
  have a3 : ¬ (2 < n ∧ x2 / 64 = 2) := fun c => by omega
  have a4 : ¬ (2 < 2 ∧ y2 / 64 = 2) := fun c => by omega
  unfold decodeN
  simp only [a1, a2, a3, a4, false_and, and_false, if_false]
theorem qN3 (n b0 b1 b2 x3 y3 : Nat) (hn : 2 < n) (hx : 3 < n → x3 / 64 = 0) : decodeN n b0 b1 b2 x3 = decodeN 3 b0 b1 b2 y3 := by
  have a1 : (1 < n) = True := by simp; omega
  have a2 : (2 < n) = True := by simp; omega
  have a3 : (1 < 3) = True := by simp
  have a4 : (2 < 3) = True := by simp
  have a5 : ¬ (3 < n ∧ x3 / 64 = 2) := fun c => by omega
  have a6 : ¬ (3 < 3 ∧ y3 / 64 = 2) := fun c => by omega
  unfold decodeN
  simp only [a1, a2, a3, a4, a5, a6, false_and, and_false, if_false]
theorem Bt.dec {S s : ByteArray} {d : Nat} (h : Bt S d s) (hst : Stq S (d + s.size)) {p : Nat} (hp : p < s.size) : Utf8.decode S (d + p) = Utf8.decode s p := by
  have hz := h.1
  rw [decode_at, decode_at, h.2 p hp]
  have g : ∀ i, p + i < s.size → S.get! (d + p + i) = s.get! (p + i) := fun i hi => by rw [Nat.add_assoc]; exact h.2 (p + i) hi
  have e : ∀ i, p + i = s.size → i < S.size - (d + p) → (S.get! (d + p + i)).toNat / 64 = 0 := fun i hi hl => by
    have : d + p + i = d + s.size := by omega
    rw [this]
    rcases hst.low with h1 | h1 <;> omega
  have c : s.size - p = 1 ∨ s.size - p = 2 ∨ s.size - p = 3 ∨ 4 ≤ s.size - p := by omega
  rcases c with c | c | c | c
  · rw [c]; exact qN1 _ _ _ _ _ _ _ _ (e 1 (by omega))
  · rw [c, g 1 (by omega)]; exact qN2 _ _ _ _ _ _ _ (by omega) (e 2 (by omega))
  · rw [c, g 1 (by omega), g 2 (by omega)]; exact qN3 _ _ _ _ _ _ (by omega) (e 3 (by omega))
  · rw [g 1 (by omega), g 2 (by omega), g 3 (by omega)]; exact dN4 _ _ _ _ _ _ (by omega) (by omega)
theorem Bt.ext {S s : ByteArray} {d : Nat} (h : Bt S d s) : S.extract d (d + s.size) = s := by
  apply ByteArray.ext
  apply Array.ext'
  rw [extract_data]
  apply List.ext_getElem?
  intro i
  rw [List.getElem?_take]
  by_cases hi : i < s.size
  · rw [if_pos (by omega), List.getElem?_drop, ba_get s i hi, ba_get S (d + i) (by have := h.1; omega), h.2 i hi]
  · rw [if_neg (by omega), List.getElem?_eq_none]
    rw [← size_eq]; omega
theorem dlow (S : ByteArray) (p : Nat) (h : (S.get! p).toNat < 128) : Utf8.decode S p = ((S.get! p).toNat, 1) := by
  rw [decode_at]; unfold decodeN; rw [if_pos h]
theorem glow (S : ByteArray) (p : Nat) (h : (S.get! p).toNat < 128) : bad S p = false := by
  unfold bad; rw [dlow S p h]
  have : ¬ (S.get! p).toNat = 65533 := by omega
  simp [this]
theorem Stq.off {S : ByteArray} {e : Nat} (h : Stq S e) (hl : e < S.size) : onB (Utf8.decode S e).1 = false ∧ digZ (Utf8.decode S e).1 = 0 := by
  rcases h with h | ⟨_, h | h⟩
  · omega
  · rw [dlow S e (by rw [h]; decide), h]; exact ⟨em_on.1, em_on.2.2.1⟩
  · rw [dlow S e (by rw [h]; decide), h]; exact ⟨em_on.2.1, em_on.2.2.2.1⟩

/-! ### blanks -/
/-! ### no bad byte -/
theorem CkA.low {S : ByteArray} {p : Nat} (hp : p < S.size) (hl : (S.get! p).toNat < 128) (hn : CkA S (p + 1)) : CkA S p := fun g => by
  cases g with
  | zero => rfl
  | succ g => rw [chkF_good S g p hp (glow S p hl), dlow S p hl]; exact hn g
theorem CkA.name {S nm : ByteArray} {d : Nat} (h : Bt S d nm) (hst : Stq S (d + nm.size)) (hc : CkA S (d + nm.size)) : ∀ (f q n : Nat), nmF nm f q n = true → q ≤ nm.size → nm.size ≤ q + f → CkA S (d + q)
  | 0, q, n, h1, h2, h3 => by
    have e : q = nm.size := by omega
    subst e; exact hc
  | f + 1, q, n, h1, h2, h3 => by
    by_cases hq : q < nm.size
    · rw [nmF_step nm f q n hq] at h1
      have hw := width_pos nm q hq
      have hw2 := dec_le nm q hq
      have hd := h.dec hst hq
      have hon : onB (Utf8.decode nm q).1 = true ∧ nmF nm f (q + (Utf8.decode nm q).2) (n + 1) = true := by
        unfold nmS at h1
        split at h1
        · cases h1
        · rename_i hh; simp at hh; exact ⟨hh.2, h1⟩
      have ih := CkA.name h hst hc f _ _ hon.2 hw2 (by omega)
      have hb : bad S (d + q) = false := by
        unfold bad
        rw [hd]
        cases hx : decide ((Utf8.decode nm q).1 = 65533)
        · have : ¬ (Utf8.decode nm q).1 = 65533 := by simpa using hx
          simp [this]
        · have : (Utf8.decode nm q).1 = 65533 := by simpa using hx
          rw [this] at hon
          have : onB ((65533 : Nat) : Int) = false := by decide +kernel
          rw [this] at hon
          exact absurd hon.1 (by decide)
      intro g
      cases g with
      | zero => rfl
      | succ g =>
        rw [chkF_good S g (d + q) (by have := h.1; omega) hb, hd, Nat.add_assoc]
        exact ih g
    · have e : q = nm.size := by omega
      subst e; exact hc

/-! ### names -/
theorem nm_first (nm : ByteArray) (h : nameB nm = true) : 0 < nm.size ∧ kd (Utf8.decode nm 0).1 = 1 := by
  unfold nameB at h
  by_cases h0 : 0 < nm.size
  · refine ⟨h0, ?_⟩
    obtain ⟨k, hk⟩ : ∃ k, nm.size = k + 1 := ⟨nm.size - 1, by omega⟩
    rw [hk, nmF_step nm k 0 0 h0] at h
    unfold nmS at h
    split at h
    · cases h
    · rename_i hh; simp at hh; exact hh.1
  · rw [nmF_end nm _ 0 0 h0] at h; simp at h
/-! ### numbers -/
def foldD (acc : Nat) (bs : List UInt8) : Nat := bs.foldl (fun a b => a * 10 + (b.toNat - 48)) acc
theorem foldD_ge : ∀ (bs : List UInt8) (acc : Nat), acc ≤ foldD acc bs
  | [], acc => Nat.le_refl _
  | b :: bs, acc => by
    have := foldD_ge bs (acc * 10 + (b.toNat - 48))
    show acc ≤ foldD (acc * 10 + (b.toNat - 48)) bs
    omega
theorem dig_mem : ∀ (u : Nat), ∀ b ∈ decDigits u, 48 ≤ b.toNat ∧ b.toNat ≤ 57 := by
  intro u
  induction u using Nat.strongRecOn with
  | _ u ih =>
    rw [decDigits]
    split
    · intro b hb
      simp at hb
      subst hb
      simp [UInt8.toNat_ofNat]; omega
    · intro b hb
      rcases List.mem_append.1 hb with hb | hb
      · exact ih (u / 10) (by omega) b hb
      · simp at hb
        subst hb
        simp [UInt8.toNat_ofNat]; omega
theorem dig_ne (u : Nat) : 0 < (decDigits u).length := by rw [decDigits]; split <;> simp
theorem foldD_dec : ∀ (u : Nat), foldD 0 (decDigits u) = u := by
  intro u
  induction u using Nat.strongRecOn with
  | _ u ih =>
    rw [decDigits]
    split
    · rename_i h
      simp [foldD, UInt8.toNat_ofNat]; omega
    · rename_i h
      have h2 := ih (u / 10) (by omega)
      unfold foldD at h2 ⊢
      rw [List.foldl_append, h2]
      simp [UInt8.toNat_ofNat]; omega
theorem dig_rune : ∀ b : Nat, 48 ≤ b → b ≤ 57 → digZ (b : Int) = 48 ∧ digV (b : Int) = (b : Int) - 48 ∧ kd (b : Int) = 2 := by
  intro b h1 h2
  have hh : hasB 48 57 (b : Int) = true := by simp [hasB]; omega
  have hz : digZ (b : Int) = 48 := by unfold digZ; rw [hh]; rfl
  refine ⟨hz, ?_, (kd_two _).2 (by rw [hz]; decide)⟩
  unfold digV; rw [hh]; rfl
theorem nu_dig {S : ByteArray} : ∀ (bs : List UInt8) (d f acc : Nat), (∀ b ∈ bs, 48 ≤ b.toNat ∧ b.toNat ≤ 57) → Bt S d (txt bs) → foldD acc bs ≤ 18446744073709551615 → nuF S 48 (f + bs.length) d acc = nuF S 48 f (d + bs.length) (foldD acc bs)
  | [], d, f, acc, _, _, _ => rfl
  | b :: bs, d, f, acc, hd, hb, hl => by
    have e : txt (b :: bs) = txt [b] ++ txt bs := by rw [← txt_append]; rfl
    rw [e] at hb
    obtain ⟨h1, h2⟩ := hb.app
    obtain ⟨h3, h4⟩ := h1.byte
    rw [txt_size] at h2
    simp only [List.length_cons, List.length_nil, Nat.zero_add] at h2 ⊢
    obtain ⟨hb1, hb2⟩ := hd b (by simp)
    obtain ⟨r1, r2, r3⟩ := dig_rune b.toNat hb1 hb2
    have hdec : Utf8.decode S d = (b.toNat, 1) := by rw [dlow S d (by rw [h4]; omega), h4]
    have hv : (digV (Utf8.decode S d).1).toNat = b.toNat - 48 := by rw [hdec]; show (digV (b.toNat : Int)).toNat = _; rw [r2]; omega
    have hge := foldD_ge bs (acc * 10 + (b.toNat - 48))
    have hfo : foldD acc (b :: bs) = foldD (acc * 10 + (b.toNat - 48)) bs := rfl
    rw [hfo] at hl ⊢
    rw [show f + (bs.length + 1) = (f + bs.length) + 1 by omega, nuF_on S 48 _ d acc h3 (by rw [hdec]; exact r1) (by rw [hv]; omega), hv, hdec]
    show nuF S 48 (f + bs.length) (d + 1) _ = _
    rw [nu_dig bs (d + 1) f _ (fun x hx => hd x (by simp [hx])) h2 hl, show d + 1 + bs.length = d + (bs.length + 1) by omega]
theorem num_at {S : ByteArray} {d u : Nat} (hu : u ≤ 18446744073709551615) (h : Bt S d (txt (decDigits u))) (hst : Stq S (d + (decDigits u).length)) : d < S.size ∧ kd (Utf8.decode S d).1 = 2 ∧ numI S (d : Int) = (u, d + (decDigits u).length, 0) := by
  have hne := dig_ne u
  have hz := h.1
  rw [txt_size] at hz
  have h0 := h.2 0 (by rw [txt_size]; exact hne)
  rw [Nat.add_zero, txt_get _ 0 hne] at h0
  obtain ⟨m1, m2⟩ := dig_mem u _ (List.getElem_mem hne)
  have hdec : Utf8.decode S d = ((decDigits u)[0].toNat, 1) := by rw [dlow S d (by rw [h0]; omega), h0]
  obtain ⟨r1, r2, r3⟩ := dig_rune _ m1 m2
  have hrn : digZ (rn S d) = 48 := by rw [digZ_rn S d (by omega), hdec]; exact r1
  refine ⟨by omega, by rw [hdec]; exact r3, ?_⟩
  unfold numI numP
  rw [if_neg (by omega), Int.toNat_natCast, hrn, if_neg (by decide)]
  have hf := foldD_dec u
  have := nu_dig (decDigits u) d (S.size - (decDigits u).length) 0 (dig_mem u) h (by rw [hf]; exact hu)
  rw [show S.size - (decDigits u).length + (decDigits u).length = S.size by omega, hf] at this
  rw [this]
  by_cases hl : d + (decDigits u).length < S.size
  · exact nuF_off S 48 _ _ _ (by rw [(hst.off hl).2]; decide)
  · exact nuF_end S 48 _ _ _ hl
/-! ### signs -/
end Go.Proofs.YtdcfffcimikfeaaDoor

set_option linter.unusedSimpArgs false
set_option linter.unusedVariables false
namespace Go.Proofs.YtdcfffcimikfeaaDoor

/-- The part whose own node stands at a kid's place. -/
def kidPart (l : List Nd) (fr : List Nat) (k : Int) : List Nd := partL l (fr.getD k.toNat 0) k.toNat


theorem cut_split (l : List Nd) (a b c : Nat) (hab : a ≤ b) (hbc : b ≤ c) : (l.drop a).take (c - a) = (l.drop a).take (b - a) ++ (l.drop b).take (c - b) := by
  have e : c - a = (b - a) + (c - b) := by omega
  rw [e, List.take_add, List.drop_drop]
  have e2 : a + (b - a) = b := by omega
  rw [e2]

theorem acc_parts {l : List Nd} {fr : List Nat} (h : BegOk l fr) : ∀ (r : List Int) (c c0 : Nat), c ≤ l.length → chainL fr r c = some c0 →
    accS ((r.reverse).map (kidPart l fr)) = (((l.drop c0).take (c - c0)).map (mvN 0 (-(c0 : Int))), r.reverse.map (· - (c0 : Int))) := by
  intro r
  induction r with
  | nil =>
    intro c c0 _ hc
    simp only [chainL, Option.some.injEq] at hc
    subst hc
    simp [accS]
  | cons k r ih =>
    intro c c0 hcl hc
    simp only [chainL] at hc
    split at hc
    · cases hc
    · rename_i hn
      have hlo := h.low (c - 1)
      have hle := chainL_le h.low _ _ _ hc
      have hi := ih _ c0 (by omega) hc
      have hk : k = ((c - 1 : Nat) : Int) := by omega
      have hkt : k.toNat = c - 1 := by omega
      rw [List.reverse_cons, List.map_append, List.map_cons, List.map_nil, accS_snoc, hi]
      have hins := kids_inside h (c - 1) (by omega)
      have hplen := partL_len l (fr.getD (c - 1) 0) (c - 1) (by omega) hlo
      have hkp : kidPart l fr k = partL l (fr.getD (c - 1) 0) (c - 1) := by unfold kidPart; rw [hkt]
      rw [hkp]
      generalize hb : fr.getD (c - 1) 0 = b at *
      have hAl : ((((l.drop c0).take (b - c0)).map (mvN 0 (-(c0 : Int)))).length) = b - c0 := by simp; omega
      have hpart : (partL l b (c - 1)).map (mvN 0 ((b - c0 : Nat) : Int)) = ((l.drop b).take (c - b)).map (mvN 0 (-(c0 : Int))) := by
        unfold partL
        have e : c - 1 + 1 - b = c - b := by omega
        rw [e, List.map_map]
        apply List.map_congr_left
        intro x hx
        obtain ⟨j, hj, rfl⟩ := List.getElem_of_mem hx
        have hj' : j < c - b := by simp at hj; omega
        have hgx : ((l.drop b).take (c - b))[j] = l.getD (b + j) nd0 := by
          have hlt : b + j < l.length := by omega
          simp [hlt]
        rw [hgx]
        have hin := hins (b + j) (by omega) (by omega)
        show mvN 0 ((b - c0 : Nat) : Int) (mvN 0 (-(b : Int)) (l.getD (b + j) nd0)) = mvN 0 (-(c0 : Int)) (l.getD (b + j) nd0)
        unfold mvN
        simp only [List.map_map, Nd.mk.injEq, true_and]
        apply List.map_congr_left
        intro q hq
        have := hin q hq
        show mvK 0 ((b - c0 : Nat) : Int) (mvK 0 (-(b : Int)) q) = mvK 0 (-(c0 : Int)) q
        have e1 : mvK 0 (-(b : Int)) q = q - b := by unfold mvK; rw [if_pos (by omega)]; omega
        rw [e1]
        unfold mvK
        rw [if_pos (by omega), if_pos (by omega)]
        omega
      rw [hAl, hpart]
      refine Prod.ext ?_ ?_
      · show _ ++ _ = _
        rw [cut_split l c0 b c (by omega) (by omega), List.map_append]
      · show _ ++ _ = (r.reverse ++ [k]).map _
        rw [List.map_append, hplen, hk]
        simp
        omega

/-- The expression at a place is its operator with its parts. -/
theorem part_join {l : List Nd} {fr : List Nat} (h : BegOk l fr) (i : Nat) (hi : i < l.length) :
    partL l (fr.getD i 0) i = joinL (l.getD i nd0).op (l.getD i nd0).n (l.getD i nd0).name ((l.getD i nd0).kids.map (kidPart l fr)) := by
  have hc := (h.at_ i hi).2
  have hlo := h.low i
  have hacc := acc_parts h _ i _ (by omega) hc
  rw [List.reverse_reverse] at hacc
  unfold joinL
  rw [hacc]
  have hk0 := ok_kids h i hi
  generalize fr.getD i 0 = a at *
  unfold partL
  have e : i + 1 - a = (i - a) + 1 := by omega
  have hlt : i - a < (l.drop a).length := by simp; omega
  rw [e, List.take_succ_eq_append_getElem hlt, List.map_append]
  congr 1
  have hg : (l.drop a)[i - a] = l.getD i nd0 := by
    have e2 : a + (i - a) = i := by omega
    simp [e2, hi]
  rw [hg]
  simp only [List.map_cons, List.map_nil, List.cons.injEq, and_true]
  unfold mvN
  simp only [Nd.mk.injEq, true_and]
  apply List.map_congr_left
  intro k hk
  have := hk0 k hk
  unfold mvK
  rw [if_pos this]; omega

end Go.Proofs.YtdcfffcimikfeaaDoor

set_option linter.unusedSimpArgs false
set_option linter.unusedVariables false
namespace Go.Proofs.YtdcfffcimikfeaaDoor
open Go.Lib

/-- The text of the node at a place. -/
def tx (J : JT) (l : List Nd) (i : Nat) : ByteArray := ((tlL J l).getD i pt0).2

theorem foldl_tlS_pre (J : JT) : ∀ (m : List Nd) (t : List (Nd × ByteArray)), ∃ r, m.foldl (tlS J) t = t ++ r
  | [], t => ⟨[], by simp⟩
  | x :: m, t => by
    obtain ⟨r, hr⟩ := foldl_tlS_pre J m (tlS J t x)
    exact ⟨[(x, ndT J t x)] ++ r, by rw [List.foldl_cons, hr]; simp [tlS]⟩
theorem tlL_prefix (J : JT) (l : List Nd) (k i : Nat) (hi : i < k) (hk : k ≤ l.length) : (tlL J (l.take k)).getD i pt0 = (tlL J l).getD i pt0 := by
  have e : tlL J l = (l.drop k).foldl (tlS J) (tlL J (l.take k)) := by
    unfold tlL
    rw [← List.foldl_append, List.take_append_drop]
  obtain ⟨r, hr⟩ := foldl_tlS_pre J (l.drop k) (tlL J (l.take k))
  rw [e, hr, getD_append_left]
  rw [tlL_len]; simp; omega
theorem tl_at (J : JT) (l : List Nd) (i : Nat) (hi : i < l.length) : (tlL J l).getD i pt0 = (l.getD i nd0, ndT J (tlL J (l.take i)) (l.getD i nd0)) := by
  rw [← tlL_prefix J l (i + 1) i (by omega) (by omega), tlL_take hi]
  have hl : (tlL J (l.take i)).length = i := by rw [tlL_len]; simp; omega
  simp [List.getD_eq_getElem?_getD, List.getElem?_append_right, hl]
def kdP (J : JT) (l : List Nd) (ks : List Int) : List (Nd × ByteArray) := ks.map fun q => (l.getD q.toNat nd0, tx J l q.toNat)
theorem kids_tx (J : JT) (l : List Nd) (i : Nat) (hi : i < l.length) : ∀ ks : List Int, (∀ q ∈ ks, 0 ≤ q ∧ q < (i : Int)) → kidsP (tlL J (l.take i)) ks = kdP J l ks
  | [], _ => rfl
  | q :: ks, h => by
    have h0 := h q (List.mem_cons_self ..)
    have h1 := kids_tx J l i hi ks fun y hy => h y (List.mem_cons_of_mem _ hy)
    unfold kidsP kdP at h1 ⊢
    rw [List.map_cons, List.map_cons, h1, tlL_prefix J l i q.toNat (by omega) (by omega)]
    have := tl_at J l q.toNat (by omega)
    unfold tx
    rw [this]
theorem tx_eq (J : JT) (l : List Nd) (i : Nat) (hi : i < l.length) (hk : ∀ q ∈ (l.getD i nd0).kids, 0 ≤ q ∧ q < (i : Int)) : tx J l i = if (l.getD i nd0).kids.length = 0 then leafT (l.getD i nd0) else J (l.getD i nd0) (kdP J l (l.getD i nd0).kids) := by
  have h := tl_at J l i hi
  unfold tx
  rw [h]
  show ndT J (tlL J (l.take i)) (l.getD i nd0) = _
  unfold ndT
  rw [kids_tx J l i hi _ hk]
theorem shF_tx (J : JT) (l : List Nd) : shF J l = tx J l (l.length - 1) := rfl
theorem tx_size {J : JT} (hJ : JOk J) {l : List Nd} {fr : List Nat} (hb : begL (l.map fillN) = some fr) (hn : ∀ x ∈ l, num64 x.n) (i : Nat) : (tx J l i).size ≤ 6500 := by
  have h64 : l.length ≤ 64 := by have := (snd_bounds hb).1; simpa using this
  by_cases hi : i < l.length
  · have hT := tl_ok hJ hb hn l.length (Nat.le_refl _)
    rw [List.take_length] at hT
    have h1 := hT i (by rw [tlL_len]; exact hi)
    have h2 := wgt_le fr i
    unfold tx
    omega
  · unfold tx
    rw [List.getD_eq_getElem?_getD, List.getElem?_eq_none (by rw [tlL_len]; omega)]
    show (⟨#[]⟩ : ByteArray).size ≤ 6500
    decide

/-! ### brackets -/
/-! ### putting together -/
theorem ok_ref (l : List Nd) : okSh l = (sndB (l.map fillN) && (decide ((hlsL l).length = 0) || (decide ((hlsL l).length ≤ 6) && decide (l.length ≤ 16)))) := by
  unfold okSh
  generalize (hlsL l).length = h
  generalize sndB (l.map fillN) = s
  by_cases h0 : h = 0
  · subst h0; simp
  · by_cases h6 : h ≤ 6
    · have : ¬ 6 < h := by omega
      cases s <;> simp [h0, h6, this]
    · have : 6 < h := by omega
      cases s <;> simp [h0, h6, this]

/-! ### decimals -/
end Go.Proofs.YtdcfffcimikfeaaDoor

set_option linter.unusedSimpArgs false
set_option linter.unusedVariables false
namespace Go.Proofs.YtdcfffcimikfeaaDoor
open Go.Lib

/-! ### the rules -/
def Rs (S : ByteArray) (pat : Bool) (q : RdQ) (t : Tk) (o : Nat) (r : List Nd × Nat) : Prop := ∃ f, rdRun S pat f q t o = .ok r
section
variable {S : ByteArray} {pat : Bool}
end

/-! ### parts of a list with holes -/
end Go.Proofs.YtdcfffcimikfeaaDoor

set_option linter.unusedSimpArgs false
set_option linter.unusedVariables false
namespace Go.Proofs.YtdcfffcimikfeaaDoor
open Go.Lib

theorem cont_high (n b0 b1 b2 b3 : Nat) : (2 ≤ (decodeN n b0 b1 b2 b3).2 → b1 / 64 = 2) ∧ (3 ≤ (decodeN n b0 b1 b2 b3).2 → b2 / 64 = 2) ∧ (4 ≤ (decodeN n b0 b1 b2 b3).2 → b3 / 64 = 2) := by
  unfold decodeN
  split
  · simp
  · split
    · rename_i h
      split
      · simp; exact h.2.2
      · simp
    · split
      · rename_i h
        split
        · simp; exact ⟨h.2.1.2, h.2.2.2⟩
        · simp
      · split
        · rename_i h
          split
          · simp; exact ⟨h.2.1.2, h.2.2.1.2, h.2.2.2.2⟩
          · simp
        · simp
/-- Each byte of a name is a sign of names, or no sign of ASCII. -/
theorem nm_byte {nm : ByteArray} : ∀ (f q n : Nat), nmF nm f q n = true → nm.size ≤ q + f → ∀ i, q ≤ i → i < nm.size → 128 ≤ (nm.get! i).toNat ∨ onB ((nm.get! i).toNat : Int) = true
  | 0, q, n, h1, h2, i, h3, h4 => by omega
  | f + 1, q, n, h1, h2, i, h3, h4 => by
    have hq : q < nm.size := by omega
    rw [nmF_step nm f q n hq] at h1
    have hw := width_pos nm q hq
    have hon : onB (Utf8.decode nm q).1 = true ∧ nmF nm f (q + (Utf8.decode nm q).2) (n + 1) = true := by
      unfold nmS at h1
      split at h1
      · cases h1
      · rename_i hh; simp at hh; exact ⟨hh.2, h1⟩
    by_cases hi : q + (Utf8.decode nm q).2 ≤ i
    · exact nm_byte f _ _ hon.2 (by omega) i hi h4
    · by_cases hiq : i = q
      · subst hiq
        by_cases hl : (nm.get! i).toNat < 128
        · rw [dlow nm i hl] at hon
          exact .inr hon.1
        · exact .inl (by omega)
      · left
        rw [decode_at] at hi
        obtain ⟨c1, c2, c3⟩ := cont_high (nm.size - q) (nm.get! q).toNat (nm.get! (q + 1)).toNat (nm.get! (q + 2)).toNat (nm.get! (q + 3)).toNat
        have hle := (decodeN_width (nm.size - q) (nm.get! q).toNat (nm.get! (q + 1)).toNat (nm.get! (q + 2)).toNat (nm.get! (q + 3)).toNat).2
        have hc : i = q + 1 ∨ i = q + 2 ∨ i = q + 3 := by omega
        rcases hc with rfl | rfl | rfl
        · have := c1 (by omega); omega
        · have := c2 (by omega); omega
        · have := c3 (by omega); omega
theorem on_ascii : onB 32 = false ∧ onB 40 = false ∧ onB 41 = false ∧ onB 45 = false := by decide +kernel
/-- No byte that ends a word. -/
def Wd (T : ByteArray) : Prop := 0 < T.size ∧ (∀ i, i < T.size → T.get! i ≠ 32 ∧ T.get! i ≠ 41) ∧ T.get! 0 ≠ 40
theorem wd_name {nm : ByteArray} (h : nameB nm = true) : Wd nm ∧ nm.get! 0 ≠ 45 := by
  have hb := nm_byte nm.size 0 0 h (by omega)
  have hp := (nm_first nm h).1
  have key : ∀ i, i < nm.size → nm.get! i ≠ 32 ∧ nm.get! i ≠ 41 ∧ nm.get! i ≠ 40 ∧ nm.get! i ≠ 45 := fun i hi => by
    obtain ⟨o1, o2, o3, o4⟩ := on_ascii
    rcases hb i (by omega) hi with h1 | h1
    · refine ⟨fun e => ?_, fun e => ?_, fun e => ?_, fun e => ?_⟩ <;> (rw [e] at h1; exact absurd h1 (by decide))
    · refine ⟨fun e => ?_, fun e => ?_, fun e => ?_, fun e => ?_⟩ <;> rw [e] at h1
      · rw [show (((32 : UInt8).toNat : Nat) : Int) = 32 from rfl, o1] at h1; cases h1
      · rw [show (((41 : UInt8).toNat : Nat) : Int) = 41 from rfl, o3] at h1; cases h1
      · rw [show (((40 : UInt8).toNat : Nat) : Int) = 40 from rfl, o2] at h1; cases h1
      · rw [show (((45 : UInt8).toNat : Nat) : Int) = 45 from rfl, o4] at h1; cases h1
  exact ⟨⟨hp, fun i hi => ⟨(key i hi).1, (key i hi).2.1⟩, (key 0 hp).2.2.1⟩, (key 0 hp).2.2.2⟩
theorem wd_list {l : List UInt8} (h0 : 0 < l.length) (h : ∀ c ∈ l, c ≠ 32 ∧ c ≠ 41 ∧ c ≠ 40) : Wd (txt l) := by
  refine ⟨by rw [txt_size]; exact h0, fun i hi => ?_, ?_⟩
  · rw [txt_size] at hi
    rw [txt_get l i hi]
    have := h _ (List.getElem_mem hi)
    exact ⟨this.1, this.2.1⟩
  · rw [txt_get l 0 h0]
    exact (h _ (List.getElem_mem h0)).2.2
theorem wd_lit (n : Int) : Wd (txt (itoa n)) := by
  unfold itoa
  have hd : ∀ u : Nat, ∀ c ∈ decDigits u, c ≠ 32 ∧ c ≠ 41 ∧ c ≠ 40 := fun u c hc => by
    have := dig_mem u c hc
    refine ⟨fun e => ?_, fun e => ?_, fun e => ?_⟩ <;> (rw [e] at this; exact absurd this (by decide))
  split
  · refine wd_list (by simp) fun c hc => ?_
    rcases List.mem_cons.1 hc with rfl | hc
    · decide
    · exact hd _ c hc
  · exact wd_list (dig_ne _) (hd _)
/-- The words of the operators. -/
theorem word_facts : ∀ k : Fin 19, 3 ≤ k.1 → k.1 ≤ 17 → 0 < (wrTab.getD k.1 ([], [], 0)).2.1.length ∧ (∀ c ∈ (wrTab.getD k.1 ([], [], 0)).2.1, c ≠ 32 ∧ c ≠ 41 ∧ c ≠ 40) := by decide +kernel
theorem word_inj : ∀ k j : Fin 19, 3 ≤ k.1 → k.1 ≤ 17 → 3 ≤ j.1 → j.1 ≤ 17 → ((wrTab.getD k.1 ([], [], 0)).2.1 = (wrTab.getD j.1 ([], [], 0)).2.1 ↔ k = j) := by decide +kernel
theorem wdT_inj {k j : Nat} (hk : 3 ≤ k ∧ k ≤ 17) (hj : 3 ≤ j ∧ j ≤ 17) : wdT (k : Int) = wdT (j : Int) ↔ k = j := by
  have := word_inj ⟨k, by omega⟩ ⟨j, by omega⟩ hk.1 hk.2 hj.1 hj.2
  constructor
  · intro h
    have e : (wrTab.getD k ([], [], 0)).2.1 = (wrTab.getD j ([], [], 0)).2.1 := by
      have := congrArg (fun b : ByteArray => b.data.toList) h
      simpa [wdT, wrAt, txt] using this
    have := this.1 e
    exact congrArg Fin.val this
  · rintro rfl; rfl
end Go.Proofs.YtdcfffcimikfeaaDoor

set_option linter.unusedSimpArgs false
set_option linter.unusedVariables false
namespace Go.Proofs.YtdcfffcimikfeaaDoor
open Go.Lib

/-- How a piece of the text is read: its first token, its bytes, and what each rule makes of it. 'rk' is its rank, 'wg' how many nodes it has at most, 'dg': it may begin with a digit. -/
structure Gd (S : ByteArray) (pat : Bool) (U : ByteArray) (P : List Nd) (rk : Int) (wg : Nat) (dg : Prop) : Prop where
  first : ∀ d, Bt S d U → Stq S (d + U.size) → d < S.size ∧ kd (Utf8.decode S d).1 ≠ 3 ∧ (∃ t, psFrom S pat mx63 d = .ok t) ∧ (¬ dg → (numI S (d : Int)).2.2 = 11)
  ck : ∀ d, Bt S d U → Stq S (d + U.size) → CkA S (d + U.size) → CkA S d
  lev : ∀ d o t t1, Bt S d U → Stq S (d + U.size) → o + wg ≤ 100 → psFrom S pat mx63 d = .ok t → psFrom S pat mx63 (skp S (d + U.size)) = .ok t1 → ∀ lv : Nat, 1 ≤ lv → lv ≤ 9 → (lv : Int) < rk → (psOp t1.what).2 < lv → Rs S pat (.level lv) t o (P, skp S (d + U.size))
  chain : ∀ d o t t1, Bt S d U → Stq S (d + U.size) → o + wg ≤ 100 → psFrom S pat mx63 d = .ok t → psFrom S pat mx63 (skp S (d + U.size)) = .ok t1 → ∀ lv : Nat, 1 ≤ lv → lv ≤ 8 → lv ≠ 4 → lv ≠ 5 → (lv : Int) < rk → (psOp t1.what).2 ≤ lv → ∀ r, Rs S pat (.loop lv P) t1 o r → Rs S pat (.level lv) t o r
  cond : ∀ d o t t1, Bt S d U → Stq S (d + U.size) → o + wg ≤ 100 → psFrom S pat mx63 d = .ok t → psFrom S pat mx63 (skp S (d + U.size)) = .ok t1 → (psOp t1.what).2 = 0 → t1.what ≠ 63 → Rs S pat .cond t o (P, skp S (d + U.size))

theorem Bt.in_ {S U : ByteArray} {d : Nat} (h : Bt S d U) : skp S (d + U.size) ≤ S.size := (skp_in h.1).2
theorem Gd.more {S : ByteArray} {pat : Bool} {T : ByteArray} {P : List Nd} {rk rk' : Int} {wg wg' : Nat} {dg dg' : Prop} (h : Gd S pat T P rk wg dg) (hr : rk' ≤ rk) (hw : wg ≤ wg') (hd : dg → dg') : Gd S pat T P rk' wg' dg' :=
  ⟨fun d x1 x2 => by
    obtain ⟨a, b, c, e⟩ := h.first d x1 x2
    exact ⟨a, b, c, fun hn => e fun x => hn (hd x)⟩, h.ck, fun d o t t1 x1 x2 x3 x4 x5 lv y1 y2 y3 => h.lev d o t t1 x1 x2 (by omega) x4 x5 lv y1 y2 (by omega), fun d o t t1 x1 x2 x3 x4 x5 lv y1 y2 y3 y4 y5 => h.chain d o t t1 x1 x2 (by omega) x4 x5 lv y1 y2 y3 y4 (by omega), fun d o t t1 x1 x2 x3 => h.cond d o t t1 x1 x2 (by omega)⟩

/-! ### leaves -/
/-! ### operators -/
end Go.Proofs.YtdcfffcimikfeaaDoor
