/-
  SmB, SmC.
-/
import Derived.Test.YtjmccobblpcbhaaDoorChecked
import GoSem.PinnedTables
import GoSem.Claim
import GoSem.ClaimJoined
import GoSem.ClaimMapViews
import Derived.JoinedTies
import Derived.KernelRfl
import Derived.Shelf.Unicode.DecodeSlow
import Derived.Laws.RangeAny
import Derived.Shelf.Strings.Builder1
import Derived.Shelf.Small.Utf8
import Derived.Shelf.Small.Bits
import Derived.Shelf.Strings.BuilderF
import Derived.Shelf.Strings.BuilderK
import Derived.Shelf.Strings.BuilderRune
import Derived.Shelf.Utf8.AppendRune
import Derived.Shelf.Strconv.Itoa0
import Derived.Shelf.Strconv.Itoa1
import Derived.Shelf.LaysM
import Derived.Shelf.Strconv.Itoa2
import Derived.Shelf.Strconv.Itoa3
import Derived.Shelf.Strconv.Itoa4
import Derived.Shelf.Strings.Prefix
import Derived.Shelf.Unicode.DecodeAny
import Derived.Test.YtjmccobblpcbhaaDoorProg
import Derived.WalkKit
import Derived.Deep.DeepFit
import Derived.Lib.OthersKept
import Derived.Lib.RuneCountTail
import Derived.Lib.LaidU8
import Derived.MakeChecks
import Derived.ProofKit
import Derived.OpenShut
import Derived.Deep.DeepHandedRow
import Derived.Lib.Small
import Derived.Lib.Strings
import Derived.Lib.MapLaws
import Derived.Deep.AppendLies
import Derived.Deep.OwnRows
import Derived.Laws.AppendOwnNone
import Derived.Deep.QuietTactic
import Derived.BigQuiet
import Derived.Deep.RegionWith
import Derived.Laws.DeepStrings4
import Derived.Deep.RegionHeld3
import Derived.Laws.ResultCell
import Derived.Lib.QuietBelow
import Derived.Deep.Heap
import Derived.Laws.Rows
import Derived.Below
import Derived.StillTail
import Derived.Deep.RegionLaw
import Derived.Laws.OwnMore
import Derived.Sort.Walk0
import Derived.Lib.ItoaNum
import Derived.Maps.OwnSet
import Derived.StringKeys
import Derived.BigCall
import Derived.Lib.LaidTab
import Derived.Deep.Slices
import Derived.Test.YtjmccobblpcbhaaDoorRows
import Derived.Test.YtjmccobblpcbhaaDoorP01
import Derived.Test.YtjmccobblpcbhaaDoorP02
import Derived.Test.YtjmccobblpcbhaaDoorP03
import Derived.Test.YtjmccobblpcbhaaDoorP04
import Derived.Test.YtjmccobblpcbhaaDoorP05
import Derived.Test.YtjmccobblpcbhaaDoorP06
import Derived.Test.YtjmccobblpcbhaaDoorP07
import Derived.Test.YtjmccobblpcbhaaDoorP08
import Derived.Test.YtjmccobblpcbhaaDoorP09
import Derived.Test.YtjmccobblpcbhaaDoorP10
import Derived.Test.YtjmccobblpcbhaaDoorP11
import Derived.Test.YtjmccobblpcbhaaDoorP12
import Derived.Test.YtjmccobblpcbhaaDoorP13
import Derived.Test.YtjmccobblpcbhaaDoorP14
import Derived.Test.YtjmccobblpcbhaaDoorP15
import Derived.Test.YtjmccobblpcbhaaDoorP16
import Derived.Test.YtjmccobblpcbhaaDoorP17
import Derived.Test.YtjmccobblpcbhaaDoorP18
import Derived.Test.YtjmccobblpcbhaaDoorP19
import Derived.Test.YtjmccobblpcbhaaDoorP20
import Derived.Test.YtjmccobblpcbhaaDoorP21
import Derived.Test.YtjmccobblpcbhaaDoorP22
import Derived.Test.YtjmccobblpcbhaaDoorP23
import Derived.Test.YtjmccobblpcbhaaDoorP24
import Derived.Test.YtjmccobblpcbhaaDoorP25
import Derived.Test.YtjmccobblpcbhaaDoorP26
import Derived.Test.YtjmccobblpcbhaaDoorP27
import Derived.Test.YtjmccobblpcbhaaDoorP28
import Derived.Test.YtjmccobblpcbhaaDoorP29
import Derived.Test.YtjmccobblpcbhaaDoorP30
set_option linter.unusedSimpArgs false
set_option linter.unusedVariables false
namespace Go.Proofs.YtjmccobblpcbhaaDoor
open Go.Lib

/-- What stands there ends a name and a number. -/
structure Spt (S : ByteArray) (e : Nat) : Prop where
  lo : e = S.size ∨ (S.get! e).toNat / 64 ≠ 2
  off : e < S.size → onB (Utf8.decode S e).1 = false ∧ digZ (Utf8.decode S e).1 = 0
theorem pN1 (n b0 x1 x2 x3 y1 y2 y3 : Nat) (hx : 1 < n → x1 / 64 ≠ 2) : decodeN n b0 x1 x2 x3 = decodeN 1 b0 y1 y2 y3 := by
  unfold decodeN
  by_cases h0 : b0 < 128
  · rw [if_pos h0, if_pos h0]
  · rw [if_neg h0, if_neg h0, if_neg (fun c => by omega), if_neg (fun c => by omega), if_neg (fun c => by omega), if_neg (fun c => by omega), if_neg (fun c => by omega), if_neg (fun c => by omega)]
theorem pN2 (n b0 b1 x2 x3 y2 y3 : Nat) (hn : 1 < n) (hx : 2 < n → x2 / 64 ≠ 2) : decodeN n b0 b1 x2 x3 = decodeN 2 b0 b1 y2 y3 := by
  have a1 : (1 < n) = True := by simp; omega
  have a2 : (1 < 2) = True := by simp
  have a3 : ¬ (2 < n ∧ x2 / 64 = 2) := fun c => by omega
  have a4 : ¬ (2 < 2 ∧ y2 / 64 = 2) := fun c => by omega
  unfold decodeN
  simp only [a1, a2, a3, a4, false_and, and_false, if_false]
theorem pN3 (n b0 b1 b2 x3 y3 : Nat) (hn : 2 < n) (hx : 3 < n → x3 / 64 ≠ 2) : decodeN n b0 b1 b2 x3 = decodeN 3 b0 b1 b2 y3 := by
  have a1 : (1 < n) = True := by simp; omega
  have a2 : (2 < n) = True := by simp; omega
  have a3 : (1 < 3) = True := by simp
  have a4 : (2 < 3) = True := by simp
  have a5 : ¬ (3 < n ∧ x3 / 64 = 2) := fun c => by omega
  have a6 : ¬ (3 < 3 ∧ y3 / 64 = 2) := fun c => by omega
  unfold decodeN
  simp only [a1, a2, a3, a4, a5, a6, false_and, and_false, if_false]
theorem Bt.decX {S s : ByteArray} {d : Nat} (h : Bt S d s) (hst : d + s.size = S.size ∨ (S.get! (d + s.size)).toNat / 64 ≠ 2) {p : Nat} (hp : p < s.size) : Utf8.decode S (d + p) = Utf8.decode s p := by
  have hz := h.1
  rw [decode_at, decode_at, h.2 p hp]
  have g : ∀ i, p + i < s.size → S.get! (d + p + i) = s.get! (p + i) := fun i hi => by rw [Nat.add_assoc]; exact h.2 (p + i) hi
  have e : ∀ i, p + i = s.size → i < S.size - (d + p) → (S.get! (d + p + i)).toNat / 64 ≠ 2 := fun i hi hl => by
    have : d + p + i = d + s.size := by omega
    rw [this]
    rcases hst with h1 | h1 <;> omega
  have c : s.size - p = 1 ∨ s.size - p = 2 ∨ s.size - p = 3 ∨ 4 ≤ s.size - p := by omega
  rcases c with c | c | c | c
  · rw [c]; exact pN1 _ _ _ _ _ _ _ _ (e 1 (by omega))
  · rw [c, g 1 (by omega)]; exact pN2 _ _ _ _ _ _ _ (by omega) (e 2 (by omega))
  · rw [c, g 1 (by omega), g 2 (by omega)]; exact pN3 _ _ _ _ _ _ (by omega) (e 3 (by omega))
  · rw [g 1 (by omega), g 2 (by omega), g 3 (by omega)]; exact dN4 _ _ _ _ _ _ (by omega) (by omega)
theorem CkA.nameX {S nm : ByteArray} {d : Nat} (h : Bt S d nm) (hst : Spt S (d + nm.size)) (hc : CkA S (d + nm.size)) : ∀ (f q n : Nat), nmF nm f q n = true → q ≤ nm.size → nm.size ≤ q + f → CkA S (d + q)
  | 0, q, n, h1, h2, h3 => by
    have e : q = nm.size := by omega
    subst e; exact hc
  | f + 1, q, n, h1, h2, h3 => by
    by_cases hq : q < nm.size
    · rw [nmF_step nm f q n hq] at h1
      have hw := width_pos nm q hq
      have hw2 := dec_le nm q hq
      have hd := h.decX hst.lo hq
      have hon : onB (Utf8.decode nm q).1 = true ∧ nmF nm f (q + (Utf8.decode nm q).2) (n + 1) = true := by
        unfold nmS at h1
        split at h1
        · cases h1
        · rename_i hh; simp at hh; exact ⟨hh.2, h1⟩
      have ih := CkA.nameX h hst hc f _ _ hon.2 hw2 (by omega)
      have hb : bad S (d + q) = false := by
        unfold bad
        rw [hd]
        cases hx : decide ((Utf8.decode nm q).1 = 65533)
        · have : ¬ (Utf8.decode nm q).1 = 65533 := by simpa using hx
          simp [this]
        · have : (Utf8.decode nm q).1 = 65533 := by simpa using hx
          rw [this] at hon
          have : onB ((65533 : Nat) : Int) = false := by decide +kernel
          rw [this] at hon
          exact absurd hon.1 (by decide)
      intro g
      cases g with
      | zero => rfl
      | succ g =>
        rw [chkF_good S g (d + q) (by have := h.1; omega) hb, hd, Nat.add_assoc]
        exact ih g
    · have e : q = nm.size := by omega
      subst e; exact hc

theorem spF_nmX {S nm : ByteArray} {p : Nat} (h : Bt S p nm) (hst : Spt S (p + nm.size)) : ∀ (f q n : Nat), nmF nm f q n = true → q ≤ nm.size → nm.size ≤ q + f → ∀ F, S.size ≤ p + q + F → spF S F (p + q) = p + nm.size
  | 0, q, n, h1, h2, h3, F, hF => by
    have e : q = nm.size := by omega
    subst e
    by_cases hl : p + nm.size < S.size
    · exact spF_off S F _ hl (hst.off hl).1
    · exact spF_end S F _ hl
  | f + 1, q, n, h1, h2, h3, F, hF => by
    by_cases hq : q < nm.size
    · have hsz := h.1
      rw [nmF_step nm f q n hq] at h1
      have hw := width_pos nm q hq
      have hw2 := dec_le nm q hq
      have hd := h.decX hst.lo hq
      have hon : onB (Utf8.decode nm q).1 = true ∧ nmF nm f (q + (Utf8.decode nm q).2) (n + 1) = true := by
        unfold nmS at h1
        split at h1
        · cases h1
        · rename_i hh; simp at hh; exact ⟨hh.2, h1⟩
      obtain ⟨F, rfl⟩ : ∃ G, F = G + 1 := ⟨F - 1, by omega⟩
      rw [spF_on S F (p + q) (by omega) (by rw [hd]; exact hon.1), hd, Nat.add_assoc]
      exact spF_nmX h hst f _ _ hon.2 hw2 (by omega) F (by omega)
    · have e : q = nm.size := by omega
      subst e
      by_cases hl : p + nm.size < S.size
      · exact spF_off S F _ hl (hst.off hl).1
      · exact spF_end S F _ hl
theorem name_tokX {S nm : ByteArray} {d : Nat} (h : Bt S d nm) (hst : Spt S (d + nm.size)) (hn : nameB nm = true) (pat : Bool) (m : Nat) : psFrom S pat m d = .ok ⟨97, d, d + nm.size, 0, 0⟩ := by
  obtain ⟨h0, hk⟩ := nm_first nm hn
  have hd := h.decX hst.lo h0
  rw [Nat.add_zero] at hd
  have hz := h.1
  have k1 : kd (Utf8.decode S d).1 = 1 := by rw [hd]; exact hk
  unfold psFrom
  rw [if_pos (by omega)]
  unfold psAt
  rw [if_pos k1]
  obtain ⟨e1, _, _⟩ := span_in' S d (by omega) k1
  have e2 := spF_nmX h hst nm.size 0 0 hn (Nat.zero_le _) (by omega) S.size (by omega)
  rw [Nat.add_zero] at e2
  rw [e1, e2]
  simp only [Int.toNat_natCast, h.ext, hn, if_true]


/-! ### characters of two and three bytes -/
theorem dec2 {S : ByteArray} {q : Nat} {a b : UInt8} (h : Bt S q (txt [a, b])) (ha : a.toNat / 32 = 6) (hb : b.toNat / 64 = 2) (hv : 128 ≤ a.toNat % 32 * 64 + b.toNat % 64) : q < S.size ∧ S.get! q = a ∧ Utf8.decode S q = (a.toNat % 32 * 64 + b.toNat % 64, 2) := by
  obtain ⟨h1, h2⟩ := h
  rw [txt_size] at h1 h2
  simp only [List.length_cons, List.length_nil] at h1 h2
  have g0 := h2 0 (by omega)
  have g1 := h2 1 (by omega)
  rw [txt_get _ _ (by simp)] at g0 g1
  simp only [Nat.add_zero, List.getElem_cons_zero, List.getElem_cons_succ] at g0 g1
  refine ⟨by omega, g0, ?_⟩
  rw [decode_at, g0, g1]
  unfold decodeN
  rw [if_neg (by omega), if_pos ⟨ha, by omega, hb⟩, if_pos hv]
theorem dec3 {S : ByteArray} {q : Nat} {a b c : UInt8} (h : Bt S q (txt [a, b, c])) (ha : a.toNat / 16 = 14) (hb : b.toNat / 64 = 2) (hc : c.toNat / 64 = 2) (hv : 2048 ≤ a.toNat % 16 * 4096 + b.toNat % 64 * 64 + c.toNat % 64) (hw : a.toNat % 16 * 4096 + b.toNat % 64 * 64 + c.toNat % 64 < 55296 ∨ 57344 ≤ a.toNat % 16 * 4096 + b.toNat % 64 * 64 + c.toNat % 64) : q < S.size ∧ S.get! q = a ∧ Utf8.decode S q = (a.toNat % 16 * 4096 + b.toNat % 64 * 64 + c.toNat % 64, 3) := by
  obtain ⟨h1, h2⟩ := h
  rw [txt_size] at h1 h2
  simp only [List.length_cons, List.length_nil] at h1 h2
  have g0 := h2 0 (by omega)
  have g1 := h2 1 (by omega)
  have g2 := h2 2 (by omega)
  rw [txt_get _ _ (by simp)] at g0 g1 g2
  simp only [Nat.add_zero, List.getElem_cons_zero, List.getElem_cons_succ] at g0 g1 g2
  have hb' := b.toNat_lt
  have hc' := c.toNat_lt
  refine ⟨by omega, g0, ?_⟩
  rw [decode_at, g0, g1, g2]
  unfold decodeN
  rw [if_neg (by omega), if_neg (by omega), if_pos ⟨ha, ⟨by omega, hb⟩, by omega, hc⟩, if_pos ⟨hv, by omega⟩]
theorem CkA.chr {S : ByteArray} {p r w : Nat} (hp : p < S.size) (hd : Utf8.decode S p = (r, w)) (hr : r ≠ 65533) (hn : CkA S (p + w)) : CkA S p := fun g => by
  cases g with
  | zero => rfl
  | succ g =>
    have hb : bad S p = false := by unfold bad; rw [hd]; simp [hr]
    rw [chkF_good S g p hp hb, hd]; exact hn g

/-! ### digits of another script -/
def dg1 (k : Nat) (b : UInt8) : List UInt8 := if k = 0 then [b] else if k = 1 then [217, b + 112] else [239, 188, b + 96]
def dgT (k : Nat) (bs : List UInt8) : List UInt8 := bs.flatMap (dg1 k)
def zeroT (k : Nat) : Nat := if k = 0 then 48 else if k = 1 then 1632 else 65296
theorem dg_add112 {b : UInt8} (h1 : 48 ≤ b.toNat) (h2 : b.toNat ≤ 57) : (b + 112).toNat = b.toNat + 112 := by
  rw [UInt8.toNat_add]; show (b.toNat + 112) % 256 = _; omega
theorem dg_add96 {b : UInt8} (h1 : 48 ≤ b.toNat) (h2 : b.toNat ≤ 57) : (b + 96).toNat = b.toNat + 96 := by
  rw [UInt8.toNat_add]; show (b.toNat + 96) % 256 = _; omega
theorem dig_runeZ (k b : Nat) (h1 : 48 ≤ b) (h2 : b ≤ 57) : digZ ((zeroT k + (b - 48) : Nat) : Int) = (zeroT k : Int) ∧ digV ((zeroT k + (b - 48) : Nat) : Int) = (b : Int) - 48 ∧ kd ((zeroT k + (b - 48) : Nat) : Int) = 2 := by
  have key : digZ ((zeroT k + (b - 48) : Nat) : Int) = (zeroT k : Int) ∧ digV ((zeroT k + (b - 48) : Nat) : Int) = (b : Int) - 48 := by
    unfold zeroT
    split
    · have hh : hasB 48 57 ((48 + (b - 48) : Nat) : Int) = true := by simp [hasB]; omega
      unfold digZ digV
      rw [if_pos hh, if_pos hh]
      exact ⟨rfl, by omega⟩
    · split
      · have hh : hasB 1632 1641 ((1632 + (b - 48) : Nat) : Int) = true := by simp [hasB]; omega
        have hn : ¬ hasB 48 57 ((1632 + (b - 48) : Nat) : Int) = true := by simp [hasB]; omega
        unfold digZ digV
        rw [if_neg hn, if_neg hn, if_pos hh, if_pos hh]
        exact ⟨rfl, by omega⟩
      · have hh : hasB 65296 65305 ((65296 + (b - 48) : Nat) : Int) = true := by simp [hasB]; omega
        have hn : ¬ hasB 48 57 ((65296 + (b - 48) : Nat) : Int) = true := by simp [hasB]; omega
        have hm : ¬ hasB 1632 1641 ((65296 + (b - 48) : Nat) : Int) = true := by simp [hasB]; omega
        unfold digZ digV
        rw [if_neg hn, if_neg hn, if_neg hm, if_neg hm, if_pos hh, if_pos hh]
        exact ⟨rfl, by omega⟩
  refine ⟨key.1, key.2, (kd_two _).2 ?_⟩
  rw [key.1]
  unfold zeroT
  split
  · decide
  · split <;> decide
theorem dg_dec {S : ByteArray} {d k : Nat} {b : UInt8} (h1 : 48 ≤ b.toNat) (h2 : b.toNat ≤ 57) (h : Bt S d (txt (dg1 k b))) : d < S.size ∧ (S.get! d).toNat / 64 ≠ 2 ∧ Utf8.decode S d = (zeroT k + (b.toNat - 48), (dg1 k b).length) := by
  unfold dg1 at h ⊢
  unfold zeroT
  split at h
  · rename_i hk
    obtain ⟨h3, h4⟩ := h.byte
    rw [if_pos hk, if_pos hk]
    refine ⟨h3, by rw [h4]; omega, ?_⟩
    rw [dlow S d (by rw [h4]; omega), h4]
    exact Prod.ext (by show b.toNat = 48 + (b.toNat - 48); omega) rfl
  · rename_i hk
    rw [if_neg hk, if_neg hk]
    split at h
    · rename_i hk1
      rw [if_pos hk1, if_pos hk1]
      have e := dg_add112 h1 h2
      obtain ⟨h3, h4, h5⟩ := dec2 h (by decide) (by rw [e]; omega) (by rw [e]; show 128 ≤ 217 % 32 * 64 + _; omega)
      refine ⟨h3, by rw [h4]; decide, ?_⟩
      rw [h5, e]
      exact Prod.ext (by show 217 % 32 * 64 + (b.toNat + 112) % 64 = 1632 + (b.toNat - 48); omega) rfl
    · rename_i hk1
      rw [if_neg hk1, if_neg hk1]
      have e := dg_add96 h1 h2
      obtain ⟨h3, h4, h5⟩ := dec3 h (by decide) (by decide) (by rw [e]; omega) (by rw [e]; show 2048 ≤ 239 % 16 * 4096 + 188 % 64 * 64 + _; omega) (by rw [e]; right; show 57344 ≤ 239 % 16 * 4096 + 188 % 64 * 64 + _; omega)
      refine ⟨h3, by rw [h4]; decide, ?_⟩
      rw [h5, e]
      exact Prod.ext (by show 239 % 16 * 4096 + 188 % 64 * 64 + (b.toNat + 96) % 64 = 65296 + (b.toNat - 48); omega) rfl
theorem dgT_cons (k : Nat) (b : UInt8) (bs : List UInt8) : dgT k (b :: bs) = dg1 k b ++ dgT k bs := rfl
theorem nu_digX {S : ByteArray} {k : Nat} : ∀ (bs : List UInt8) (d f acc : Nat), (∀ b ∈ bs, 48 ≤ b.toNat ∧ b.toNat ≤ 57) → Bt S d (txt (dgT k bs)) → foldD acc bs ≤ 18446744073709551615 → nuF S (zeroT k) (f + bs.length) d acc = nuF S (zeroT k) f (d + (dgT k bs).length) (foldD acc bs)
  | [], d, f, acc, _, _, _ => rfl
  | b :: bs, d, f, acc, hd, hb, hl => by
    rw [dgT_cons, txt_append] at hb
    obtain ⟨h1, h2⟩ := hb.app
    rw [txt_size] at h2
    obtain ⟨hb1, hb2⟩ := hd b (by simp)
    obtain ⟨h3, _, hdec⟩ := dg_dec hb1 hb2 h1
    obtain ⟨r1, r2, r3⟩ := dig_runeZ k b.toNat hb1 hb2
    have hv : (digV (Utf8.decode S d).1).toNat = b.toNat - 48 := by rw [hdec]; show (digV ((zeroT k + (b.toNat - 48) : Nat) : Int)).toNat = _; rw [r2]; omega
    have hge := foldD_ge bs (acc * 10 + (b.toNat - 48))
    have hfo : foldD acc (b :: bs) = foldD (acc * 10 + (b.toNat - 48)) bs := rfl
    rw [hfo] at hl ⊢
    rw [show f + (b :: bs).length = (f + bs.length) + 1 by simp; omega, nuF_on S _ _ d acc h3 (by rw [hdec]; exact r1) (by rw [hv]; omega), hv, hdec]
    show nuF S _ (f + bs.length) (d + (dg1 k b).length) _ = _
    rw [nu_digX bs (d + (dg1 k b).length) f _ (fun x hx => hd x (by simp [hx])) h2 hl, dgT_cons, List.length_append, Nat.add_assoc]
theorem dgT_ck {S : ByteArray} {k : Nat} : ∀ (bs : List UInt8) (d : Nat), (∀ b ∈ bs, 48 ≤ b.toNat ∧ b.toNat ≤ 57) → Bt S d (txt (dgT k bs)) → CkA S (d + (dgT k bs).length) → CkA S d
  | [], d, _, _, h => h
  | b :: bs, d, hd, hb, hc => by
    rw [dgT_cons, txt_append] at hb
    obtain ⟨h1, h2⟩ := hb.app
    rw [txt_size] at h2
    obtain ⟨hb1, hb2⟩ := hd b (by simp)
    obtain ⟨h3, _, hdec⟩ := dg_dec hb1 hb2 h1
    rw [dgT_cons, List.length_append, ← Nat.add_assoc] at hc
    refine CkA.chr h3 hdec ?_ (dgT_ck bs _ (fun x hx => hd x (by simp [hx])) h2 hc)
    unfold zeroT
    split
    · omega
    · split <;> omega
theorem dgT_len (k : Nat) : ∀ bs : List UInt8, bs.length ≤ (dgT k bs).length ∧ (dgT k bs).length ≤ 3 * bs.length
  | [] => ⟨Nat.le_refl _, Nat.le_refl _⟩
  | b :: bs => by
    have := dgT_len k bs
    have h1 : 1 ≤ (dg1 k b).length ∧ (dg1 k b).length ≤ 3 := by
      unfold dg1
      split
      · simp
      · split <;> simp
    rw [dgT_cons, List.length_append, List.length_cons]
    omega
theorem num_atX {S : ByteArray} {d u k : Nat} (hu : u ≤ 18446744073709551615) (h : Bt S d (txt (dgT k (decDigits u)))) (hst : Spt S (d + (dgT k (decDigits u)).length)) : d < S.size ∧ (S.get! d).toNat / 64 ≠ 2 ∧ kd (Utf8.decode S d).1 = 2 ∧ numI S (d : Int) = (u, d + (dgT k (decDigits u)).length, 0) := by
  have hne := dig_ne u
  have hz := h.1
  rw [txt_size] at hz
  obtain ⟨b, bs, hbs⟩ : ∃ b bs, decDigits u = b :: bs := by
    cases hq : decDigits u with
    | nil => rw [hq] at hne; simp at hne
    | cons b bs => exact ⟨b, bs, rfl⟩
  obtain ⟨m1, m2⟩ := dig_mem u b (by rw [hbs]; simp)
  have h0 := h
  rw [hbs, dgT_cons, txt_append] at h0
  obtain ⟨e1, e2, hdec⟩ := dg_dec m1 m2 h0.app.1
  obtain ⟨r1, r2, r3⟩ := dig_runeZ k b.toNat m1 m2
  have hrn : digZ (rn S d) = (zeroT k : Int) := by rw [digZ_rn S d e1, hdec]; exact r1
  have hzn : ¬ (zeroT k : Int) = 0 := by
    unfold zeroT
    split
    · decide
    · split <;> decide
  refine ⟨e1, e2, by rw [hdec]; exact r3, ?_⟩
  unfold numI numP
  rw [if_neg (by omega), Int.toNat_natCast, hrn, if_neg hzn]
  have hf := foldD_dec u
  have hln := dgT_len k (decDigits u)
  have := nu_digX (k := k) (decDigits u) d (S.size - (decDigits u).length) 0 (dig_mem u) h (by rw [hf]; exact hu)
  rw [show S.size - (decDigits u).length + (decDigits u).length = S.size by omega, hf] at this
  rw [this]
  by_cases hl : d + (dgT k (decDigits u)).length < S.size
  · exact nuF_off S _ _ _ _ (by rw [(hst.off hl).2]; exact fun e => hzn e.symm)
  · exact nuF_end S _ _ _ _ hl
theorem num_tokX {S : ByteArray} {d u k : Nat} (hu : u ≤ 18446744073709551615) (h : Bt S d (txt (dgT k (decDigits u)))) (hst : Spt S (d + (dgT k (decDigits u)).length)) (pat : Bool) (m : Nat) : psFrom S pat m d = .ok ⟨48, d, d + (dgT k (decDigits u)).length, u, if m < u then 10 else 0⟩ := by
  obtain ⟨h1, _, h2, h3⟩ := num_atX hu h hst
  unfold psFrom
  rw [if_pos h1]
  unfold psAt
  rw [if_neg (by rw [h2]; decide), if_pos h2, h3]
theorem dgT_zero (bs : List UInt8) : dgT 0 bs = bs := by
  induction bs with
  | nil => rfl
  | cons b bs ih => rw [dgT_cons, ih]; rfl

/-! ### signs -/
theorem sgu_tok {S : ByteArray} {q r w : Nat} {v : Int} (hq : q < S.size) (h1 : 128 ≤ (S.get! q).toNat) (hd : Utf8.decode S q = (r, w)) (k : kd (r : Int) = 4) (pl : psPlain (r : Int) = v) (rl : runeLen (r : Int) = (w : Int)) (hr : 128 ≤ r) (hw : 0 < w) (pat : Bool) (m : Nat) : psFrom S pat m q = .ok ⟨v, q, q + w, 0, 0⟩ := by
  have hno : ∀ x : UInt8, x.toNat < 128 → psTwo S q x = false := fun x hx => by
    cases hb : psTwo S q x
    · rfl
    · obtain ⟨b1, b2, b3⟩ := (two_iff S q x).1 hb
      rw [b2] at h1; omega
  have hsg : psSign S pat q (r : Int) = (v, (w : Int)) := by
    unfold psSign
    rw [hno 61 (by decide), hno 60 (by decide), hno 62 (by decide)]
    simp only [Bool.false_eq_true, if_false]
    rw [if_neg (by omega), if_neg (fun c => by omega), pl, rl]
  unfold psFrom
  rw [if_pos hq, hd]
  unfold psAt
  simp only
  rw [if_neg (by rw [k]; decide), if_neg (by rw [k]; decide), hsg, if_pos ⟨k, by show (0 : Int) < (w : Int); omega⟩]
  simp
end Go.Proofs.YtjmccobblpcbhaaDoor

set_option linter.unusedSimpArgs false
set_option linter.unusedVariables false
namespace Go.Proofs.YtjmccobblpcbhaaDoor
open Go.Lib

/-- From a place on: names, numbers, signs, blanks, up to the end. -/
inductive Toks (s : ByteArray) (pat : Bool) : Nat → Prop
  | fin : Toks s pat s.size
  | nm {p : Nat} {nm : ByteArray} (hn : nameB nm = true) (hb : Bt s p nm) (hs : Stq s (p + nm.size)) (next : Toks s pat (p + nm.size)) : Toks s pat p
  | nu {p u : Nat} (hu : u ≤ 18446744073709551615) (hb : Bt s p (txt (decDigits u))) (hs : Stq s (p + (decDigits u).length)) (next : Toks s pat (p + (decDigits u).length)) : Toks s pat p
  | one {p : Nat} {c : UInt8} (hp : p < s.size) (hc : s.get! p = c) (h1 : sg1 c) (h2 : c = 60 → p + 1 < s.size ∧ s.get! (p + 1) = 32) (next : Toks s pat (p + 1)) : Toks s pat p
  | two {p : Nat} {c : UInt8} (hp : p + 1 < s.size) (hc : s.get! p = c) (hc1 : s.get! (p + 1) = c) (h1 : c = 60 ∨ c = 61 ∨ c = 62) (next : Toks s pat (p + 2)) : Toks s pat p
  | ho {p : Nat} (hp : p < s.size) (hc : s.get! p = 64) (ht : pat = true) (next : Toks s pat (p + 1)) : Toks s pat p
  | bl {p : Nat} (hp : p < s.size) (hc : s.get! p = 32) (next : Toks s pat (p + 1)) : Toks s pat p
/-- A piece of the text is such a row. -/
def Tg (S : ByteArray) (pat : Bool) (U : ByteArray) : Prop := ∀ d, Bt S d U → Stq S (d + U.size) → Toks S pat (d + U.size) → Toks S pat d

section
variable {S : ByteArray} {pat : Bool}
theorem tx1 (c : UInt8) : (txt [c]).size = 1 := by rw [txt_size]; rfl
theorem tg_brack {T : ByteArray} (h : Tg S pat T) : Tg S pat (txt [40] ++ T ++ txt [41]) := fun d hb hs hn => by
  obtain ⟨h1, h2⟩ := hb.app
  obtain ⟨h3, h4⟩ := h1.app
  rw [tx1] at h4
  rw [apz, tx1, ← Nat.add_assoc] at h2
  obtain ⟨a1, a2⟩ := h3.byte
  obtain ⟨b1, b2⟩ := h2.byte
  rw [apz, apz, tx1, tx1, show d + (1 + T.size + 1) = d + 1 + T.size + 1 by omega] at hn
  exact .one a1 a2 (by unfold sg1; simp) (fun e => absurd e (by decide)) (h _ h4 (.inr ⟨b1, .inl b2⟩) (.one b1 b2 (by unfold sg1; simp) (fun e => absurd e (by decide)) hn))
theorem tg_tk {op : Int} {place : Nat} {y : Nd} {T : ByteArray} (h : Tg S pat T) : Tg S pat (tkT op place (y, T)) := by
  unfold tkT
  simp only
  split
  · exact tg_brack h
  · exact h
theorem tg_lit {n : Int} (hn : num64 n) : Tg S pat (txt (itoa n)) := by
  unfold num64 at hn
  by_cases h0 : n < 0
  · have e : txt (itoa n) = txt [45] ++ txt (decDigits n.natAbs) := by rw [← txt_append]; unfold itoa; rw [if_pos h0]; rfl
    rw [e]
    intro d hb hs hn
    obtain ⟨h1, h2⟩ := hb.app
    rw [tx1] at h2
    obtain ⟨a1, a2⟩ := h1.byte
    rw [apz, tx1, txt_size, show d + (1 + (decDigits n.natAbs).length) = d + 1 + (decDigits n.natAbs).length by omega] at hn hs
    exact .one a1 a2 (by unfold sg1; simp) (fun e => absurd e (by decide)) (.nu (by omega) h2 hs hn)
  · have e : txt (itoa n) = txt (decDigits n.toNat) := by unfold itoa; rw [if_neg h0]
    rw [e]
    intro d hb hs hn
    rw [txt_size] at hn hs
    exact .nu (by omega) hb hs hn
theorem tg_var {nm : ByteArray} (hn : nameB nm = true) : Tg S pat nm := fun d hb hs hx => .nm hn hb hs hx
theorem tg_hole {nm : ByteArray} (hn : nameB nm = true) (hp : pat = true) : Tg S pat (txt [64] ++ nm) := fun d hb hs hx => by
  obtain ⟨h1, h2⟩ := hb.app
  rw [tx1] at h2
  obtain ⟨a1, a2⟩ := h1.byte
  rw [apz, tx1, show d + (1 + nm.size) = d + 1 + nm.size by omega] at hx hs
  exact .ho a1 a2 hp (.nm hn h2 hs hx)
theorem tg_un {op : Int} (ho : op = 3 ∨ op = 4) {U : ByteArray} (h : Tg S pat U) : Tg S pat (sgT op ++ U) := by
  obtain ⟨c, hc, hs1, h60⟩ : ∃ c : UInt8, sgT op = txt [c] ∧ sg1 c ∧ c ≠ 60 := by
    rcases ho with rfl | rfl
    · exact ⟨45, rfl, by unfold sg1; simp, by decide⟩
    · exact ⟨126, rfl, by unfold sg1; simp, by decide⟩
  rw [hc]
  intro d hb hs hx
  obtain ⟨h1, h2⟩ := hb.app
  rw [tx1] at h2
  obtain ⟨a1, a2⟩ := h1.byte
  rw [apz, tx1, show d + (1 + U.size) = d + 1 + U.size by omega] at hx hs
  exact .one a1 a2 hs1 (fun e => absurd e h60) (h _ h2 hs hx)
/-- A blank, a sign, a blank. -/
theorem tg_sgn {op : Int} (ho : 5 ≤ op ∧ op ≤ 17) {q : Nat} (h : Bt S q (txt [32] ++ sgT op ++ txt [32])) (hn : Toks S pat (q + (sgT op).size + 2)) : Stq S q ∧ Toks S pat q := by
  obtain ⟨h1, h2⟩ := h.app
  obtain ⟨h3, h4⟩ := h1.app
  rw [tx1] at h4
  rw [apz, tx1, ← Nat.add_assoc] at h2
  obtain ⟨a1, a2⟩ := h3.byte
  obtain ⟨b1, b2⟩ := h2.byte
  have hbl : Toks S pat (q + 1 + (sgT op).size) := .bl b1 b2 (by rw [show q + 1 + (sgT op).size + 1 = q + (sgT op).size + 2 by omega]; exact hn)
  refine ⟨.inr ⟨a1, .inr a2⟩, .bl a1 a2 ?_⟩
  have one : ∀ c : UInt8, sgT op = txt [c] → sg1 c → Toks S pat (q + 1) := fun c e hs => by
    rw [e] at h4 hbl b1 b2
    rw [tx1] at hbl b1 b2
    obtain ⟨c1, c2⟩ := h4.byte
    exact .one c1 c2 hs (fun _ => ⟨b1, b2⟩) hbl
  have two : ∀ c : UInt8, sgT op = txt [c, c] → (c = 60 ∨ c = 61 ∨ c = 62) → Toks S pat (q + 1) := fun c e hs => by
    rw [e] at h4 hbl b1 b2
    have e2 : txt [c, c] = txt [c] ++ txt [c] := by rw [← txt_append]; rfl
    have ez2 : (txt [c, c]).size = 2 := by rw [txt_size]; rfl
    rw [ez2] at hbl
    rw [e2] at h4
    obtain ⟨g1, g2⟩ := h4.app
    rw [tx1] at g2
    obtain ⟨c1, c2⟩ := g1.byte
    obtain ⟨c3, c4⟩ := g2.byte
    exact .two c3 c2 c4 hs hbl
  have hc : op = 5 ∨ op = 6 ∨ op = 7 ∨ op = 8 ∨ op = 9 ∨ op = 10 ∨ op = 11 ∨ op = 12 ∨ op = 13 ∨ op = 14 ∨ op = 15 ∨ op = 16 ∨ op = 17 := by omega
  rcases hc with rfl | rfl | rfl | rfl | rfl | rfl | rfl | rfl | rfl | rfl | rfl | rfl | rfl
  · exact one 43 rfl (by unfold sg1; simp)
  · exact one 45 rfl (by unfold sg1; simp)
  · exact one 42 rfl (by unfold sg1; simp)
  · exact one 47 rfl (by unfold sg1; simp)
  · exact one 37 rfl (by unfold sg1; simp)
  · exact one 38 rfl (by unfold sg1; simp)
  · exact one 124 rfl (by unfold sg1; simp)
  · exact one 94 rfl (by unfold sg1; simp)
  · exact two 60 rfl (by simp)
  · exact two 62 rfl (by simp)
  · exact two 61 rfl (by simp)
  · exact one 60 rfl (by unfold sg1; simp)
  · exact one 63 rfl (by unfold sg1; simp)
theorem tg_bin {op : Int} (ho : 5 ≤ op ∧ op ≤ 17) {A B : ByteArray} (ha : Tg S pat A) (hb : Tg S pat B) : Tg S pat (A ++ txt [32] ++ sgT op ++ txt [32] ++ B) := by
  have hT : A ++ txt [32] ++ sgT op ++ txt [32] ++ B = A ++ (txt [32] ++ sgT op ++ txt [32]) ++ B := by simp only [ByteArray.append_assoc]
  rw [hT]
  intro d h hs hx
  obtain ⟨h1, h2⟩ := h.app
  obtain ⟨h3, h4⟩ := h1.app
  rw [apz, apz, apz, tx1, show d + (A.size + (1 + (sgT op).size + 1)) = d + A.size + (sgT op).size + 2 by omega] at h2
  have e : d + (A ++ (txt [32] ++ sgT op ++ txt [32]) ++ B).size = d + A.size + (sgT op).size + 2 + B.size := by rw [apz, apz, apz, apz, tx1]; omega
  rw [e] at hs hx
  obtain ⟨s1, t1⟩ := tg_sgn ho h4 (hb _ h2 hs hx)
  exact ha _ h3 s1 t1
theorem tg_ite {A B C : ByteArray} (ha : Tg S pat A) (hb : Tg S pat B) (hc : Tg S pat C) : Tg S pat (A ++ txt [32] ++ sgT 17 ++ txt [32] ++ B ++ (txt [32, 58, 32] ++ C)) := by
  have e58 : txt [32, 58, 32] = txt [32] ++ (txt [58] ++ txt [32]) := by rw [← txt_append, ← txt_append]; rfl
  have hT : A ++ txt [32] ++ sgT 17 ++ txt [32] ++ B ++ (txt [32, 58, 32] ++ C) = (A ++ txt [32] ++ sgT 17 ++ txt [32] ++ B) ++ (txt [32] ++ (txt [58] ++ txt [32])) ++ C := by rw [e58]; simp only [ByteArray.append_assoc]
  rw [hT]
  have hab := tg_bin (op := 17) (by decide) ha hb
  generalize A ++ txt [32] ++ sgT 17 ++ txt [32] ++ B = U at *
  intro d h hs hx
  obtain ⟨h1, h2⟩ := h.app
  obtain ⟨h3, h4⟩ := h1.app
  obtain ⟨g1, g2⟩ := h4.app
  rw [tx1] at g2
  obtain ⟨g3, g4⟩ := g2.app
  rw [tx1] at g4
  rw [apz, apz, apz, tx1, tx1, show d + (U.size + (1 + (1 + 1))) = d + U.size + 1 + 1 + 1 by omega] at h2
  have e : d + (U ++ (txt [32] ++ (txt [58] ++ txt [32])) ++ C).size = d + U.size + 1 + 1 + 1 + C.size := by simp only [apz, tx1]; omega
  rw [e] at hs hx
  obtain ⟨a1, a2⟩ := g1.byte
  obtain ⟨b1, b2⟩ := g3.byte
  obtain ⟨c1, c2⟩ := g4.byte
  exact hab _ h3 (.inr ⟨a1, .inr a2⟩) (.bl a1 a2 (.one b1 b2 (by unfold sg1; simp) (fun e => absurd e (by decide)) (.bl c1 c2 (hc _ h2 hs hx))))
theorem tg_all {l : List Nd} {fr : List Nat} (hbg : begL (l.map fillN) = some fr) (hn : ∀ x ∈ l, num64 x.n) (hp : pat = true ∨ ∀ x ∈ l, x.op ≠ 18) : ∀ i, i < l.length → Tg S pat (tx betT l i) := by
  intro i
  induction i using Nat.strongRecOn with
  | ind i IH =>
    intro hi
    have hat := ndAt_of hbg hi
    have htx := tx_eq betT l i hi hat.kids
    have hmem : l.getD i nd0 ∈ l := by simp [hi]
    have hn64 := hn _ hmem
    have hp18 : pat = true ∨ (l.getD i nd0).op ≠ 18 := hp.imp id fun h => h _ hmem
    have ih : ∀ k : Int, 0 ≤ k → k < (i : Int) → Tg S pat (tx betT l k.toNat) := fun k h0 h1 => IH k.toNat (by omega) (by omega)
    obtain ⟨hf, hks, _, _⟩ := hat
    generalize l.getD i nd0 = x at *
    rcases nd_cases hf with ⟨h1, h2, h4⟩ | ⟨h1, h2, h4, h5⟩ | ⟨hn0, hnm, hrest⟩
    · obtain ⟨op, n, nm, ks⟩ := x
      simp only at h1 h2 h4 hn64
      subst h1 h2 h4
      simp only at htx
      rw [htx, if_pos (show ([] : List Int).length = 0 from rfl)]
      have e1 : leafT ⟨1, n, ⟨#[]⟩, []⟩ = txt (itoa n) := by unfold leafT; simp
      rw [e1]
      exact tg_lit hn64
    · obtain ⟨op, n, nm, ks⟩ := x
      simp only at h1 h2 h4 h5 hp18
      subst h2 h4
      simp only at htx
      rw [htx, if_pos (show ([] : List Int).length = 0 from rfl)]
      rcases h1 with rfl | rfl
      · have e1 : leafT ⟨2, 0, nm, []⟩ = nm := by unfold leafT; simp
        rw [e1]
        exact tg_var h5
      · have e1 : leafT ⟨18, 0, nm, []⟩ = txt [64] ++ nm := by unfold leafT; simp
        rw [e1]
        exact tg_hole h5 (hp18.resolve_right fun h => h rfl)
    · obtain ⟨op, n, nm, ks⟩ := x
      simp only at hn0 hnm hrest
      subst hn0 hnm
      simp only at htx hks
      rcases hrest with ⟨ho, a, rfl⟩ | ⟨ho, a, b, rfl⟩ | ⟨ho, a, b, c, rfl⟩
      · obtain ⟨a0, a1⟩ := hks a (by simp)
        rw [htx, if_neg (by simp)]
        have eT : betT ⟨op, 0, ⟨#[]⟩, [a]⟩ (kdP betT l [a]) = sgT op ++ tkT op 0 (l.getD a.toNat nd0, tx betT l a.toNat) := rfl
        rw [eT]
        exact tg_un ho (tg_tk (ih a a0 a1))
      · obtain ⟨a0, a1⟩ := hks a (by simp)
        obtain ⟨b0, b1⟩ := hks b (by simp)
        rw [htx, if_neg (by simp)]
        have eT : betT ⟨op, 0, ⟨#[]⟩, [a, b]⟩ (kdP betT l [a, b]) = tkT op 0 (l.getD a.toNat nd0, tx betT l a.toNat) ++ txt [32] ++ sgT op ++ txt [32] ++ tkT op 1 (l.getD b.toNat nd0, tx betT l b.toNat) := rfl
        rw [eT]
        exact tg_bin ⟨ho.1, by omega⟩ (tg_tk (ih a a0 a1)) (tg_tk (ih b b0 b1))
      · subst ho
        obtain ⟨a0, a1⟩ := hks a (by simp)
        obtain ⟨b0, b1⟩ := hks b (by simp)
        obtain ⟨c0, c1⟩ := hks c (by simp)
        rw [htx, if_neg (by simp)]
        have eT : betT ⟨17, 0, ⟨#[]⟩, [a, b, c]⟩ (kdP betT l [a, b, c]) = tkT 17 0 (l.getD a.toNat nd0, tx betT l a.toNat) ++ txt [32] ++ sgT 17 ++ txt [32] ++ tkT 17 1 (l.getD b.toNat nd0, tx betT l b.toNat) ++ (txt [32, 58, 32] ++ tkT 17 2 (l.getD c.toNat nd0, tx betT l c.toNat)) := rfl
        rw [eT]
        exact tg_ite (tg_tk (ih a a0 a1)) (tg_tk (ih b b0 b1)) (tg_tk (ih c c0 c1))
end
/-- What is written of an expression or a pattern. -/
theorem toks_all {l : List Nd} (hs : okSh l = true) (hn : ∀ x ∈ l, num64 x.n) (pat : Bool) (hp : pat = true ∨ ∀ x ∈ l, x.op ≠ 18) : Toks (shF betT l) pat 0 := by
  unfold okSh at hs
  simp only [Bool.and_eq_true] at hs
  obtain ⟨_, hsn⟩ := hs
  obtain ⟨fr, hbg⟩ : ∃ fr, begL (l.map fillN) = some fr := by
    unfold sndB at hsn
    exact Option.isSome_iff_exists.1 hsn
  obtain ⟨hl0, _⟩ := begL_some hbg
  simp only [List.length_map] at hl0
  have hg := tg_all (S := shF betT l) hbg hn hp (l.length - 1) (by omega)
  rw [← shF_tx betT l] at hg
  exact hg 0 (Bt.self _) (.inl (by omega)) (by rw [Nat.zero_add]; exact .fin)
end Go.Proofs.YtjmccobblpcbhaaDoor
