/-
  SmB, SmC, SmD.
-/
import Derived.Test.YtjmccobblpcbhaaDoorChecked
import GoSem.PinnedTables
import GoSem.Claim
import GoSem.ClaimJoined
import GoSem.ClaimMapViews
import Derived.JoinedTies
import Derived.KernelRfl
import Derived.Shelf.Unicode.DecodeSlow
import Derived.Laws.RangeAny
import Derived.Shelf.Strings.Builder1
import Derived.Shelf.Small.Utf8
import Derived.Shelf.Small.Bits
import Derived.Shelf.Strings.BuilderF
import Derived.Shelf.Strings.BuilderK
import Derived.Shelf.Strings.BuilderRune
import Derived.Shelf.Utf8.AppendRune
import Derived.Shelf.Strconv.Itoa0
import Derived.Shelf.Strconv.Itoa1
import Derived.Shelf.LaysM
import Derived.Shelf.Strconv.Itoa2
import Derived.Shelf.Strconv.Itoa3
import Derived.Shelf.Strconv.Itoa4
import Derived.Shelf.Strings.Prefix
import Derived.Shelf.Unicode.DecodeAny
import Derived.Test.YtjmccobblpcbhaaDoorProg
import Derived.WalkKit
import Derived.Deep.DeepFit
import Derived.Lib.OthersKept
import Derived.Lib.RuneCountTail
import Derived.Lib.LaidU8
import Derived.MakeChecks
import Derived.ProofKit
import Derived.OpenShut
import Derived.Deep.DeepHandedRow
import Derived.Lib.MapLaws
import Derived.Sort.Walk0
import Derived.Laws.DeepStrings4
import Derived.Lib.ItoaNum
import Derived.Deep.AppendLies
import Derived.Deep.OwnRows
import Derived.Laws.AppendOwnNone
import Derived.Deep.QuietTactic
import Derived.BigQuiet
import Derived.Deep.RegionWith
import Derived.BigCall
import Derived.Lib.LaidTab
import Derived.Maps.OwnSet
import Derived.StringKeys
import Derived.Deep.Slices
import Derived.Lib.QuietBelow
import Derived.StillTail
import Derived.Laws.OwnMore
import Derived.Below
import Derived.Lib.Small
import Derived.Lib.Strings
import Derived.Deep.RegionHeld3
import Derived.Laws.ResultCell
import Derived.Deep.Heap
import Derived.Laws.Rows
import Derived.Deep.RegionLaw
import Derived.Test.YtjmccobblpcbhaaDoorRows
import Derived.Test.YtjmccobblpcbhaaDoorM01
import Derived.Test.YtjmccobblpcbhaaDoorM02
import Derived.Test.YtjmccobblpcbhaaDoorM03
import Derived.Test.YtjmccobblpcbhaaDoorM04
import Derived.Test.YtjmccobblpcbhaaDoorM05
import Derived.Test.YtjmccobblpcbhaaDoorM06
import Derived.Test.YtjmccobblpcbhaaDoorM07
import Derived.Test.YtjmccobblpcbhaaDoorM08
import Derived.Test.YtjmccobblpcbhaaDoorM09
import Derived.Test.YtjmccobblpcbhaaDoorM10
import Derived.Test.YtjmccobblpcbhaaDoorM11
import Derived.Test.YtjmccobblpcbhaaDoorM12
import Derived.Test.YtjmccobblpcbhaaDoorM13
import Derived.Test.YtjmccobblpcbhaaDoorM14
import Derived.Test.YtjmccobblpcbhaaDoorM15
import Derived.Test.YtjmccobblpcbhaaDoorM16
import Derived.Test.YtjmccobblpcbhaaDoorM17
import Derived.Test.YtjmccobblpcbhaaDoorM18
import Derived.Test.YtjmccobblpcbhaaDoorM19
import Derived.Test.YtjmccobblpcbhaaDoorM20
import Derived.Test.YtjmccobblpcbhaaDoorM21
import Derived.Test.YtjmccobblpcbhaaDoorM22
import Derived.Test.YtjmccobblpcbhaaDoorM23
import Derived.Test.YtjmccobblpcbhaaDoorM24
import Derived.Test.YtjmccobblpcbhaaDoorM25
import Derived.Test.YtjmccobblpcbhaaDoorM26
import Derived.Test.YtjmccobblpcbhaaDoorM27
import Derived.Test.YtjmccobblpcbhaaDoorM28
import Derived.Test.YtjmccobblpcbhaaDoorM29
import Derived.Test.YtjmccobblpcbhaaDoorM30
import Derived.Test.YtjmccobblpcbhaaDoorM31
import Derived.Test.YtjmccobblpcbhaaDoorM32
import Derived.Test.YtjmccobblpcbhaaDoorM33
import Derived.Test.YtjmccobblpcbhaaDoorM34
import Derived.Test.YtjmccobblpcbhaaDoorM35
set_option linter.unusedSimpArgs false
set_option linter.unusedVariables false
namespace Go.Proofs.YtjmccobblpcbhaaDoor
open Go.Lib

/-- What stands there ends a name and a number. -/
structure Spt (S : ByteArray) (e : Nat) : Prop where
  lo : e = S.size ∨ (S.get! e).toNat / 64 ≠ 2
  off : e < S.size → onB (Utf8.decode S e).1 = false ∧ digZ (Utf8.decode S e).1 = 0
theorem pN1 (n b0 x1 x2 x3 y1 y2 y3 : Nat) (hx : 1 < n → x1 / 64 ≠ 2) : decodeN n b0 x1 x2 x3 = decodeN 1 b0 y1 y2 y3 := by
  unfold decodeN
  by_cases h0 : b0 < 128
  · rw [if_pos h0, if_pos h0]
  · rw [if_neg h0, if_neg h0, if_neg (fun c => by omega), if_neg (fun c => by omega), if_neg (fun c => by omega), if_neg (fun c => by omega), if_neg (fun c => by omega), if_neg (fun c => by omega)]
theorem pN2 (n b0 b1 x2 x3 y2 y3 : Nat) (hn : 1 < n) (hx : 2 < n → x2 / 64 ≠ 2) : decodeN n b0 b1 x2 x3 = decodeN 2 b0 b1 y2 y3 := by
  have a1 : (1 < n) = True := by simp; omega
  have a2 : (1 < 2) = True := by simp
  have a3 : ¬ (2 < n ∧ x2 / 64 = 2) := fun c => by omega
  have a4 : ¬ (2 < 2 ∧ y2 / 64 = 2) := fun c => by omega
  unfold decodeN
  simp only [a1, a2, a3, a4, false_and, and_false, if_false]
theorem pN3 (n b0 b1 b2 x3 y3 : Nat) (hn : 2 < n) (hx : 3 < n → x3 / 64 ≠ 2) : decodeN n b0 b1 b2 x3 = decodeN 3 b0 b1 b2 y3 := by
  have a1 : (1 < n) = True := by simp; omega
  have a2 : (2 < n) = True := by simp; omega
  have a3 : (1 < 3) = True := by simp
  have a4 : (2 < 3) = True := by simp
  have a5 : ¬ (3 < n ∧ x3 / 64 = 2) := fun c => by omega
  have a6 : ¬ (3 < 3 ∧ y3 / 64 = 2) := fun c => by omega
  unfold decodeN
  simp only [a1, a2, a3, a4, a5, a6, false_and, and_false, if_false]
theorem Bt.decX {S s : ByteArray} {d : Nat} (h : Bt S d s) (hst : d + s.size = S.size ∨ (S.get! (d + s.size)).toNat / 64 ≠ 2) {p : Nat} (hp : p < s.size) : Utf8.decode S (d + p) = Utf8.decode s p := by
  have hz := h.1
  rw [decode_at, decode_at, h.2 p hp]
  have g : ∀ i, p + i < s.size → S.get! (d + p + i) = s.get! (p + i) := fun i hi => by rw [Nat.add_assoc]; exact h.2 (p + i) hi
  have e : ∀ i, p + i = s.size → i < S.size - (d + p) → (S.get! (d + p + i)).toNat / 64 ≠ 2 := fun i hi hl => by
    have : d + p + i = d + s.size := by omega
    rw [this]
    rcases hst with h1 | h1 <;> omega
  have c : s.size - p = 1 ∨ s.size - p = 2 ∨ s.size - p = 3 ∨ 4 ≤ s.size - p := by omega
  rcases c with c | c | c | c
  · rw [c]; exact pN1 _ _ _ _ _ _ _ _ (e 1 (by omega))
  · rw [c, g 1 (by omega)]; exact pN2 _ _ _ _ _ _ _ (by omega) (e 2 (by omega))
  · rw [c, g 1 (by omega), g 2 (by omega)]; exact pN3 _ _ _ _ _ _ (by omega) (e 3 (by omega))
  · rw [g 1 (by omega), g 2 (by omega), g 3 (by omega)]; exact dN4 _ _ _ _ _ _ (by omega) (by omega)
theorem CkA.nameX {S nm : ByteArray} {d : Nat} (h : Bt S d nm) (hst : Spt S (d + nm.size)) (hc : CkA S (d + nm.size)) : ∀ (f q n : Nat), nmF nm f q n = true → q ≤ nm.size → nm.size ≤ q + f → CkA S (d + q)
  | 0, q, n, h1, h2, h3 => by
    have e : q = nm.size := by omega
    subst e; exact hc
  | f + 1, q, n, h1, h2, h3 => by
    by_cases hq : q < nm.size
    · rw [nmF_step nm f q n hq] at h1
      have hw := width_pos nm q hq
      have hw2 := dec_le nm q hq
      have hd := h.decX hst.lo hq
      have hon : onB (Utf8.decode nm q).1 = true ∧ nmF nm f (q + (Utf8.decode nm q).2) (n + 1) = true := by
        unfold nmS at h1
        split at h1
        · cases h1
        · rename_i hh; simp at hh; exact ⟨hh.2, h1⟩
      have ih := CkA.nameX h hst hc f _ _ hon.2 hw2 (by omega)
      have hb : bad S (d + q) = false := by
        unfold bad
        rw [hd]
        cases hx : decide ((Utf8.decode nm q).1 = 65533)
        · have : ¬ (Utf8.decode nm q).1 = 65533 := by simpa using hx
          simp [this]
        · have : (Utf8.decode nm q).1 = 65533 := by simpa using hx
          rw [this] at hon
          have : onB ((65533 : Nat) : Int) = false := by decide +kernel
          rw [this] at hon
          exact absurd hon.1 (by decide)
      intro g
      cases g with
      | zero => rfl
      | succ g =>
        rw [chkF_good S g (d + q) (by have := h.1; omega) hb, hd, Nat.add_assoc]
        exact ih g
    · have e : q = nm.size := by omega
      subst e; exact hc

theorem spF_nmX {S nm : ByteArray} {p : Nat} (h : Bt S p nm) (hst : Spt S (p + nm.size)) : ∀ (f q n : Nat), nmF nm f q n = true → q ≤ nm.size → nm.size ≤ q + f → ∀ F, S.size ≤ p + q + F → spF S F (p + q) = p + nm.size
  | 0, q, n, h1, h2, h3, F, hF => by
    have e : q = nm.size := by omega
    subst e
    by_cases hl : p + nm.size < S.size
    · exact spF_off S F _ hl (hst.off hl).1
    · exact spF_end S F _ hl
  | f + 1, q, n, h1, h2, h3, F, hF => by
    by_cases hq : q < nm.size
    · have hsz := h.1
      rw [nmF_step nm f q n hq] at h1
      have hw := width_pos nm q hq
      have hw2 := dec_le nm q hq
      have hd := h.decX hst.lo hq
      have hon : onB (Utf8.decode nm q).1 = true ∧ nmF nm f (q + (Utf8.decode nm q).2) (n + 1) = true := by
        unfold nmS at h1
        split at h1
        · cases h1
        · rename_i hh; simp at hh; exact ⟨hh.2, h1⟩
      obtain ⟨F, rfl⟩ : ∃ G, F = G + 1 := ⟨F - 1, by omega⟩
      rw [spF_on S F (p + q) (by omega) (by rw [hd]; exact hon.1), hd, Nat.add_assoc]
      exact spF_nmX h hst f _ _ hon.2 hw2 (by omega) F (by omega)
    · have e : q = nm.size := by omega
      subst e
      by_cases hl : p + nm.size < S.size
      · exact spF_off S F _ hl (hst.off hl).1
      · exact spF_end S F _ hl
theorem name_tokX {S nm : ByteArray} {d : Nat} (h : Bt S d nm) (hst : Spt S (d + nm.size)) (hn : nameB nm = true) (pat : Bool) (m : Nat) : psFrom S pat m d = .ok ⟨97, d, d + nm.size, 0, 0⟩ := by
  obtain ⟨h0, hk⟩ := nm_first nm hn
  have hd := h.decX hst.lo h0
  rw [Nat.add_zero] at hd
  have hz := h.1
  have k1 : kd (Utf8.decode S d).1 = 1 := by rw [hd]; exact hk
  unfold psFrom
  rw [if_pos (by omega)]
  unfold psAt
  rw [if_pos k1]
  obtain ⟨e1, _, _⟩ := span_in' S d (by omega) k1
  have e2 := spF_nmX h hst nm.size 0 0 hn (Nat.zero_le _) (by omega) S.size (by omega)
  rw [Nat.add_zero] at e2
  rw [e1, e2]
  simp only [Int.toNat_natCast, h.ext, hn, if_true]


/-! ### characters of two and three bytes -/
theorem dec2 {S : ByteArray} {q : Nat} {a b : UInt8} (h : Bt S q (txt [a, b])) (ha : a.toNat / 32 = 6) (hb : b.toNat / 64 = 2) (hv : 128 ≤ a.toNat % 32 * 64 + b.toNat % 64) : q < S.size ∧ S.get! q = a ∧ Utf8.decode S q = (a.toNat % 32 * 64 + b.toNat % 64, 2) := by
  obtain ⟨h1, h2⟩ := h
  rw [txt_size] at h1 h2
  simp only [List.length_cons, List.length_nil] at h1 h2
  have g0 := h2 0 (by omega)
  have g1 := h2 1 (by omega)
  rw [txt_get _ _ (by simp)] at g0 g1
  simp only [Nat.add_zero, List.getElem_cons_zero, List.getElem_cons_succ] at g0 g1
  refine ⟨by omega, g0, ?_⟩
  rw [decode_at, g0, g1]
  unfold decodeN
  rw [if_neg (by omega), if_pos ⟨ha, by omega, hb⟩, if_pos hv]
theorem dec3 {S : ByteArray} {q : Nat} {a b c : UInt8} (h : Bt S q (txt [a, b, c])) (ha : a.toNat / 16 = 14) (hb : b.toNat / 64 = 2) (hc : c.toNat / 64 = 2) (hv : 2048 ≤ a.toNat % 16 * 4096 + b.toNat % 64 * 64 + c.toNat % 64) (hw : a.toNat % 16 * 4096 + b.toNat % 64 * 64 + c.toNat % 64 < 55296 ∨ 57344 ≤ a.toNat % 16 * 4096 + b.toNat % 64 * 64 + c.toNat % 64) : q < S.size ∧ S.get! q = a ∧ Utf8.decode S q = (a.toNat % 16 * 4096 + b.toNat % 64 * 64 + c.toNat % 64, 3) := by
  obtain ⟨h1, h2⟩ := h
  rw [txt_size] at h1 h2
  simp only [List.length_cons, List.length_nil] at h1 h2
  have g0 := h2 0 (by omega)
  have g1 := h2 1 (by omega)
  have g2 := h2 2 (by omega)
  rw [txt_get _ _ (by simp)] at g0 g1 g2
  simp only [Nat.add_zero, List.getElem_cons_zero, List.getElem_cons_succ] at g0 g1 g2
  have hb' := b.toNat_lt
  have hc' := c.toNat_lt
  refine ⟨by omega, g0, ?_⟩
  rw [decode_at, g0, g1, g2]
  unfold decodeN
  rw [if_neg (by omega), if_neg (by omega), if_pos ⟨ha, ⟨by omega, hb⟩, by omega, hc⟩, if_pos ⟨hv, by omega⟩]
theorem CkA.chr {S : ByteArray} {p r w : Nat} (hp : p < S.size) (hd : Utf8.decode S p = (r, w)) (hr : r ≠ 65533) (hn : CkA S (p + w)) : CkA S p := fun g => by
  cases g with
  | zero => rfl
  | succ g =>
    have hb : bad S p = false := by unfold bad; rw [hd]; simp [hr]
    rw [chkF_good S g p hp hb, hd]; exact hn g

/-! ### digits of another script -/
def dg1 (k : Nat) (b : UInt8) : List UInt8 := if k = 0 then [b] else if k = 1 then [217, b + 112] else [239, 188, b + 96]
def dgT (k : Nat) (bs : List UInt8) : List UInt8 := bs.flatMap (dg1 k)
def zeroT (k : Nat) : Nat := if k = 0 then 48 else if k = 1 then 1632 else 65296
theorem dg_add112 {b : UInt8} (h1 : 48 ≤ b.toNat) (h2 : b.toNat ≤ 57) : (b + 112).toNat = b.toNat + 112 := by
  rw [UInt8.toNat_add]; show (b.toNat + 112) % 256 = _; omega
theorem dg_add96 {b : UInt8} (h1 : 48 ≤ b.toNat) (h2 : b.toNat ≤ 57) : (b + 96).toNat = b.toNat + 96 := by
  rw [UInt8.toNat_add]; show (b.toNat + 96) % 256 = _; omega
theorem dig_runeZ (k b : Nat) (h1 : 48 ≤ b) (h2 : b ≤ 57) : digZ ((zeroT k + (b - 48) : Nat) : Int) = (zeroT k : Int) ∧ digV ((zeroT k + (b - 48) : Nat) : Int) = (b : Int) - 48 ∧ kd ((zeroT k + (b - 48) : Nat) : Int) = 2 := by
  have key : digZ ((zeroT k + (b - 48) : Nat) : Int) = (zeroT k : Int) ∧ digV ((zeroT k + (b - 48) : Nat) : Int) = (b : Int) - 48 := by
    unfold zeroT
    split
    · have hh : hasB 48 57 ((48 + (b - 48) : Nat) : Int) = true := by simp [hasB]; omega
      unfold digZ digV
      rw [if_pos hh, if_pos hh]
      exact ⟨rfl, by omega⟩
    · split
      · have hh : hasB 1632 1641 ((1632 + (b - 48) : Nat) : Int) = true := by simp [hasB]; omega
        have hn : ¬ hasB 48 57 ((1632 + (b - 48) : Nat) : Int) = true := by simp [hasB]; omega
        unfold digZ digV
        rw [if_neg hn, if_neg hn, if_pos hh, if_pos hh]
        exact ⟨rfl, by omega⟩
      · have hh : hasB 65296 65305 ((65296 + (b - 48) : Nat) : Int) = true := by simp [hasB]; omega
        have hn : ¬ hasB 48 57 ((65296 + (b - 48) : Nat) : Int) = true := by simp [hasB]; omega
        have hm : ¬ hasB 1632 1641 ((65296 + (b - 48) : Nat) : Int) = true := by simp [hasB]; omega
        unfold digZ digV
        rw [if_neg hn, if_neg hn, if_neg hm, if_neg hm, if_pos hh, if_pos hh]
        exact ⟨rfl, by omega⟩
  refine ⟨key.1, key.2, (kd_two _).2 ?_⟩
  rw [key.1]
  unfold zeroT
  split
  · decide
  · split <;> decide
theorem dg_dec {S : ByteArray} {d k : Nat} {b : UInt8} (h1 : 48 ≤ b.toNat) (h2 : b.toNat ≤ 57) (h : Bt S d (txt (dg1 k b))) : d < S.size ∧ (S.get! d).toNat / 64 ≠ 2 ∧ Utf8.decode S d = (zeroT k + (b.toNat - 48), (dg1 k b).length) := by
  unfold dg1 at h ⊢
  unfold zeroT
  split at h
  · rename_i hk
    obtain ⟨h3, h4⟩ := h.byte
    rw [if_pos hk, if_pos hk]
    refine ⟨h3, by rw [h4]; omega, ?_⟩
    rw [dlow S d (by rw [h4]; omega), h4]
    exact Prod.ext (by show b.toNat = 48 + (b.toNat - 48); omega) rfl
  · rename_i hk
    rw [if_neg hk, if_neg hk]
    split at h
    · rename_i hk1
      rw [if_pos hk1, if_pos hk1]
      have e := dg_add112 h1 h2
      obtain ⟨h3, h4, h5⟩ := dec2 h (by decide) (by rw [e]; omega) (by rw [e]; show 128 ≤ 217 % 32 * 64 + _; omega)
      refine ⟨h3, by rw [h4]; decide, ?_⟩
      rw [h5, e]
      exact Prod.ext (by show 217 % 32 * 64 + (b.toNat + 112) % 64 = 1632 + (b.toNat - 48); omega) rfl
    · rename_i hk1
      rw [if_neg hk1, if_neg hk1]
      have e := dg_add96 h1 h2
      obtain ⟨h3, h4, h5⟩ := dec3 h (by decide) (by decide) (by rw [e]; omega) (by rw [e]; show 2048 ≤ 239 % 16 * 4096 + 188 % 64 * 64 + _; omega) (by rw [e]; right; show 57344 ≤ 239 % 16 * 4096 + 188 % 64 * 64 + _; omega)
      refine ⟨h3, by rw [h4]; decide, ?_⟩
      rw [h5, e]
      exact Prod.ext (by show 239 % 16 * 4096 + 188 % 64 * 64 + (b.toNat + 96) % 64 = 65296 + (b.toNat - 48); omega) rfl
theorem dgT_cons (k : Nat) (b : UInt8) (bs : List UInt8) : dgT k (b :: bs) = dg1 k b ++ dgT k bs := rfl
theorem nu_digX {S : ByteArray} {k : Nat} : ∀ (bs : List UInt8) (d f acc : Nat), (∀ b ∈ bs, 48 ≤ b.toNat ∧ b.toNat ≤ 57) → Bt S d (txt (dgT k bs)) → foldD acc bs ≤ 18446744073709551615 → nuF S (zeroT k) (f + bs.length) d acc = nuF S (zeroT k) f (d + (dgT k bs).length) (foldD acc bs)
  | [], d, f, acc, _, _, _ => rfl
  | b :: bs, d, f, acc, hd, hb, hl => by
    rw [dgT_cons, txt_append] at hb
    obtain ⟨h1, h2⟩ := hb.app
    rw [txt_size] at h2
    obtain ⟨hb1, hb2⟩ := hd b (by simp)
    obtain ⟨h3, _, hdec⟩ := dg_dec hb1 hb2 h1
    obtain ⟨r1, r2, r3⟩ := dig_runeZ k b.toNat hb1 hb2
    have hv : (digV (Utf8.decode S d).1).toNat = b.toNat - 48 := by rw [hdec]; show (digV ((zeroT k + (b.toNat - 48) : Nat) : Int)).toNat = _; rw [r2]; omega
    have hge := foldD_ge bs (acc * 10 + (b.toNat - 48))
    have hfo : foldD acc (b :: bs) = foldD (acc * 10 + (b.toNat - 48)) bs := rfl
    rw [hfo] at hl ⊢
    rw [show f + (b :: bs).length = (f + bs.length) + 1 by simp; omega, nuF_on S _ _ d acc h3 (by rw [hdec]; exact r1) (by rw [hv]; omega), hv, hdec]
    show nuF S _ (f + bs.length) (d + (dg1 k b).length) _ = _
    rw [nu_digX bs (d + (dg1 k b).length) f _ (fun x hx => hd x (by simp [hx])) h2 hl, dgT_cons, List.length_append, Nat.add_assoc]
theorem dgT_ck {S : ByteArray} {k : Nat} : ∀ (bs : List UInt8) (d : Nat), (∀ b ∈ bs, 48 ≤ b.toNat ∧ b.toNat ≤ 57) → Bt S d (txt (dgT k bs)) → CkA S (d + (dgT k bs).length) → CkA S d
  | [], d, _, _, h => h
  | b :: bs, d, hd, hb, hc => by
    rw [dgT_cons, txt_append] at hb
    obtain ⟨h1, h2⟩ := hb.app
    rw [txt_size] at h2
    obtain ⟨hb1, hb2⟩ := hd b (by simp)
    obtain ⟨h3, _, hdec⟩ := dg_dec hb1 hb2 h1
    rw [dgT_cons, List.length_append, ← Nat.add_assoc] at hc
    refine CkA.chr h3 hdec ?_ (dgT_ck bs _ (fun x hx => hd x (by simp [hx])) h2 hc)
    unfold zeroT
    split
    · omega
    · split <;> omega
theorem dgT_len (k : Nat) : ∀ bs : List UInt8, bs.length ≤ (dgT k bs).length ∧ (dgT k bs).length ≤ 3 * bs.length
  | [] => ⟨Nat.le_refl _, Nat.le_refl _⟩
  | b :: bs => by
    have := dgT_len k bs
    have h1 : 1 ≤ (dg1 k b).length ∧ (dg1 k b).length ≤ 3 := by
      unfold dg1
      split
      · simp
      · split <;> simp
    rw [dgT_cons, List.length_append, List.length_cons]
    omega
theorem num_atX {S : ByteArray} {d u k : Nat} (hu : u ≤ 18446744073709551615) (h : Bt S d (txt (dgT k (decDigits u)))) (hst : Spt S (d + (dgT k (decDigits u)).length)) : d < S.size ∧ (S.get! d).toNat / 64 ≠ 2 ∧ kd (Utf8.decode S d).1 = 2 ∧ numI S (d : Int) = (u, d + (dgT k (decDigits u)).length, 0) := by
  have hne := dig_ne u
  have hz := h.1
  rw [txt_size] at hz
  obtain ⟨b, bs, hbs⟩ : ∃ b bs, decDigits u = b :: bs := by
    cases hq : decDigits u with
    | nil => rw [hq] at hne; simp at hne
    | cons b bs => exact ⟨b, bs, rfl⟩
  obtain ⟨m1, m2⟩ := dig_mem u b (by rw [hbs]; simp)
  have h0 := h
  rw [hbs, dgT_cons, txt_append] at h0
  obtain ⟨e1, e2, hdec⟩ := dg_dec m1 m2 h0.app.1
  obtain ⟨r1, r2, r3⟩ := dig_runeZ k b.toNat m1 m2
  have hrn : digZ (rn S d) = (zeroT k : Int) := by rw [digZ_rn S d e1, hdec]; exact r1
  have hzn : ¬ (zeroT k : Int) = 0 := by
    unfold zeroT
    split
    · decide
    · split <;> decide
  refine ⟨e1, e2, by rw [hdec]; exact r3, ?_⟩
  unfold numI numP
  rw [if_neg (by omega), Int.toNat_natCast, hrn, if_neg hzn]
  have hf := foldD_dec u
  have hln := dgT_len k (decDigits u)
  have := nu_digX (k := k) (decDigits u) d (S.size - (decDigits u).length) 0 (dig_mem u) h (by rw [hf]; exact hu)
  rw [show S.size - (decDigits u).length + (decDigits u).length = S.size by omega, hf] at this
  rw [this]
  by_cases hl : d + (dgT k (decDigits u)).length < S.size
  · exact nuF_off S _ _ _ _ (by rw [(hst.off hl).2]; exact fun e => hzn e.symm)
  · exact nuF_end S _ _ _ _ hl
theorem num_tokX {S : ByteArray} {d u k : Nat} (hu : u ≤ 18446744073709551615) (h : Bt S d (txt (dgT k (decDigits u)))) (hst : Spt S (d + (dgT k (decDigits u)).length)) (pat : Bool) (m : Nat) : psFrom S pat m d = .ok ⟨48, d, d + (dgT k (decDigits u)).length, u, if m < u then 10 else 0⟩ := by
  obtain ⟨h1, _, h2, h3⟩ := num_atX hu h hst
  unfold psFrom
  rw [if_pos h1]
  unfold psAt
  rw [if_neg (by rw [h2]; decide), if_pos h2, h3]
theorem dgT_zero (bs : List UInt8) : dgT 0 bs = bs := by
  induction bs with
  | nil => rfl
  | cons b bs ih => rw [dgT_cons, ih]; rfl

/-! ### signs -/
theorem sgu_tok {S : ByteArray} {q r w : Nat} {v : Int} (hq : q < S.size) (h1 : 128 ≤ (S.get! q).toNat) (hd : Utf8.decode S q = (r, w)) (k : kd (r : Int) = 4) (pl : psPlain (r : Int) = v) (rl : runeLen (r : Int) = (w : Int)) (hr : 128 ≤ r) (hw : 0 < w) (pat : Bool) (m : Nat) : psFrom S pat m q = .ok ⟨v, q, q + w, 0, 0⟩ := by
  have hno : ∀ x : UInt8, x.toNat < 128 → psTwo S q x = false := fun x hx => by
    cases hb : psTwo S q x
    · rfl
    · obtain ⟨b1, b2, b3⟩ := (two_iff S q x).1 hb
      rw [b2] at h1; omega
  have hsg : psSign S pat q (r : Int) = (v, (w : Int)) := by
    unfold psSign
    rw [hno 61 (by decide), hno 60 (by decide), hno 62 (by decide)]
    simp only [Bool.false_eq_true, if_false]
    rw [if_neg (by omega), if_neg (fun c => by omega), pl, rl]
  unfold psFrom
  rw [if_pos hq, hd]
  unfold psAt
  simp only
  rw [if_neg (by rw [k]; decide), if_neg (by rw [k]; decide), hsg, if_pos ⟨k, by show (0 : Int) < (w : Int); omega⟩]
  simp
end Go.Proofs.YtjmccobblpcbhaaDoor

set_option linter.unusedSimpArgs false
set_option linter.unusedVariables false
namespace Go.Proofs.YtjmccobblpcbhaaDoor
open Go.Lib

section
variable {S : ByteArray} {pat : Bool}
theorem tx1 (c : UInt8) : (txt [c]).size = 1 := by rw [txt_size]; rfl
end
end Go.Proofs.YtjmccobblpcbhaaDoor

set_option linter.unusedSimpArgs false
set_option linter.unusedVariables false
namespace Go.Proofs.YtjmccobblpcbhaaDoor
open Go.Lib

/-- A sign of n bytes stands there, and what it is. -/
structure Pc (x : ByteArray) (pat : Bool) (q n : Nat) (w : Int) : Prop where
  lt : q < x.size
  lo : (x.get! q).toNat / 64 ≠ 2
  kd : kd (Utf8.decode x q).1 = 4
  tk : ∀ m, psFrom x pat m q = .ok ⟨w, q, q + n, 0, 0⟩
  ck : CkA x (q + n) → CkA x q
section
variable {s x : ByteArray} {pat : Bool}
theorem kd4_dig {r : Int} (h : kd r = 4) : digZ r = 0 := by
  by_cases hz : digZ r = 0
  · exact hz
  · have := (kd_two _).2 hz
    rw [h] at this; cases this
theorem kd_off {r : Int} (h : kd r = 3 ∨ kd r = 4) : onB r = false ∧ digZ r = 0 := by
  rcases h with h | h
  · exact ⟨by unfold onB; rw [h]; rfl, kd3_dig h⟩
  · exact ⟨by unfold onB; rw [h]; rfl, kd4_dig h⟩
theorem Pc.sm {p q a b : Nat} {w : Int} (h : Pc s pat p a w) (k : Pc x pat q b w) (hw : w ≠ 97) (hn : Sm s x pat (p + a) (q + b)) : Sm s x pat p q :=
  .tk (E := fun _ => 0) h.lt (by rw [h.kd]; decide) k.lt k.lo (by rw [k.kd]; decide) (by rw [num_no h.lt (kd4_dig h.kd), num_no k.lt (kd4_dig k.kd)]) (fun m _ => h.tk m) (fun m _ => k.tk m) (fun e => absurd e hw) k.ck hn
theorem pc_low {q : Nat} {c : UInt8} (hq : q < x.size) (h : x.get! q = c) (hc : c ∈ ([40, 41, 42, 43, 45, 47, 37, 38, 124, 94, 126, 60, 63, 58, 61, 62, 64] : List UInt8)) {w : Int} {n : Nat} (ht : ∀ m, psFrom x pat m q = .ok ⟨w, q, q + n, 0, 0⟩) (hn : CkA x (q + n) → CkA x (q + 1)) : Pc x pat q n w := by
  obtain ⟨k1, k2, _, _⟩ := sg1_kd c hc
  refine ⟨hq, by rw [h]; omega, ?_, ht, fun k => CkA.low hq (by rw [h]; exact k1) (hn k)⟩
  rw [dlow x q (by rw [h]; exact k1), h]; exact k2
theorem pc_two {q : Nat} {c : UInt8} (hq : q + 1 < x.size) (h : x.get! q = c) (h1 : x.get! (q + 1) = c) (hc : c = 60 ∨ c = 61 ∨ c = 62) : Pc x pat q 2 (if c = 60 then 8810 else if c = 61 then 8801 else 8811) :=
  pc_low (by omega) h (by rcases hc with rfl | rfl | rfl <;> decide) (fun m => two_tok hq h h1 hc pat m) (fun k => CkA.low hq (by rw [h1]; rcases hc with rfl | rfl | rfl <;> decide) k)
theorem pc_at {q : Nat} (hq : q < x.size) (h : x.get! q = 64) (hp : pat = true) : Pc x pat q 1 64 := by
  subst hp
  exact pc_low hq h (by decide) (fun m => at_tok hq h m) id
theorem pc_u3 {q : Nat} {a b c : UInt8} (hb : Bt x q (txt [a, b, c])) {w : Int} (h1 : a.toNat / 16 = 14 ∧ b.toNat / 64 = 2 ∧ c.toNat / 64 = 2 ∧ 2048 ≤ a.toNat % 16 * 4096 + b.toNat % 64 * 64 + c.toNat % 64 ∧ a.toNat % 16 * 4096 + b.toNat % 64 * 64 + c.toNat % 64 < 55296) (h2 : kd ((a.toNat % 16 * 4096 + b.toNat % 64 * 64 + c.toNat % 64 : Nat) : Int) = 4 ∧ psPlain ((a.toNat % 16 * 4096 + b.toNat % 64 * 64 + c.toNat % 64 : Nat) : Int) = w ∧ runeLen ((a.toNat % 16 * 4096 + b.toNat % 64 * 64 + c.toNat % 64 : Nat) : Int) = ((3 : Nat) : Int)) : Pc x pat q 3 w := by
  obtain ⟨g1, g2, g3⟩ := dec3 hb h1.1 h1.2.1 h1.2.2.1 h1.2.2.2.1 (.inl h1.2.2.2.2)
  have ha := h1.1
  have hv := h1.2.2.2
  exact ⟨g1, by rw [g2]; omega, by rw [g3]; exact h2.1, fun m => sgu_tok g1 (by rw [g2]; omega) g3 h2.1 h2.2.1 h2.2.2 (by omega) (by decide) pat m, fun k => CkA.chr g1 g3 (by omega) k⟩

/-! ### the spellings -/
def ot2 (c : UInt8) (k : Nat) : List UInt8 := if k = 0 then [c, c] else if c = 60 then [226, 137, 170] else if c = 62 then [226, 137, 171] else [226, 137, 161]
theorem pc_ot2 {q k : Nat} {c : UInt8} (hc : c = 60 ∨ c = 61 ∨ c = 62) (hb : Bt x q (txt (ot2 c k))) : Pc x pat q (ot2 c k).length (if c = 60 then 8810 else if c = 61 then 8801 else 8811) := by
  unfold ot2 at hb ⊢
  split at hb
  · rename_i h
    rw [if_pos h]
    have e2 : txt [c, c] = txt [c] ++ txt [c] := by rw [← txt_append]; rfl
    rw [e2] at hb
    obtain ⟨g1, g2⟩ := hb.app
    rw [tx1] at g2
    obtain ⟨c1, c2⟩ := g1.byte
    obtain ⟨c3, c4⟩ := g2.byte
    exact pc_two c3 c2 c4 hc
  · rename_i h
    rw [if_neg h]
    rcases hc with rfl | rfl | rfl
    · exact pc_u3 hb (by decide) (by decide +kernel)
    · exact pc_u3 hb (by decide) (by decide +kernel)
    · exact pc_u3 hb (by decide) (by decide +kernel)
/-- Where the text's stop stands, the other's stands. -/
theorem Sm.spt {p q : Nat} (h : Sm s x pat p q) (hs : Stq s p) : Spt x q := by
  cases h with
  | fin => exact ⟨.inl rfl, fun h => absurd h (Nat.lt_irrefl _)⟩
  | blk hp kp wp hq lo kq sq hc next => exact ⟨.inr lo, fun _ => kd_off (.inl kq)⟩
  | tk hp kp hq lo kq nm t1 t2 ex hc next =>
    refine ⟨.inr lo, fun _ => kd_off (.inr ?_)⟩
    rcases hs with h | ⟨_, h | h⟩
    · omega
    · have e := t1 mx63 (Nat.le_refl _)
      rw [close_at s pat mx63 p hp h] at e
      injection e with e
      injection e with e1
      have f := t2 mx63 (Nat.le_refl _)
      rw [← e1] at f
      unfold psFrom psAt at f
      rw [if_pos hq] at f
      split at f
      · injection f with f; injection f with f1; exact absurd f1 (by decide)
      · split at f
        · injection f with f; injection f with f1; exact absurd f1 (by decide)
        · split at f
          · rename_i hk; exact hk.1
          · cases f
    · exfalso
      apply kp
      rw [dlow s p (by rw [h]; decide), h]
      exact em_on.2.2.2.2.2
end

/-- What was spelled so far: whatever goes on as the text does has its tokens. -/
def Pre (s : ByteArray) (pat : Bool) (i : Nat) (out : ByteArray) : Prop := ∀ x, Bt x 0 out → Sm s x pat i out.size → Sm s x pat 0 0
section
variable {s out : ByteArray} {pat : Bool} {i : Nat}
theorem Pre.nil (s : ByteArray) (pat : Bool) : Pre s pat 0 ⟨#[]⟩ := fun x _ h => h
theorem Pre.end_ (h : Pre s pat s.size out) : Sm s out pat 0 0 := h out (Bt.self out) .fin
theorem Pre.put {j : Nat} {U : ByteArray} (h : Pre s pat i out) (hs : ∀ x q, Bt x q U → Sm s x pat j (q + U.size) → Sm s x pat i q) : Pre s pat j (out ++ U) := fun x hb hn => by
  obtain ⟨h1, h2⟩ := hb.app
  rw [Nat.zero_add] at h2
  rw [apz] at hn
  exact h x h1 (hs x _ h2 hn)
theorem Pre.two {c : UInt8} (k : Nat) (h : Pre s pat i out) (hp : i + 1 < s.size) (hc : s.get! i = c) (hc1 : s.get! (i + 1) = c) (h1 : c = 60 ∨ c = 61 ∨ c = 62) : Pre s pat (i + 2) (out ++ txt (ot2 c k)) := h.put fun x q hb hn => by
  rw [txt_size] at hn
  exact (pc_two hp hc hc1 h1).sm (pc_ot2 h1 hb) (by rcases h1 with rfl | rfl | rfl <;> decide) hn
theorem Pre.at_ (h : Pre s pat i out) (hp : i < s.size) (hc : s.get! i = 64) (ht : pat = true) : Pre s pat (i + 1) (out ++ txt [64]) := h.put fun x q hb hn => by
  rw [txt_size] at hn
  obtain ⟨b1, b2⟩ := hb.byte
  exact (pc_at hp hc ht).sm (pc_at b1 b2 ht) (by decide) hn
theorem Stq.spt {S : ByteArray} {e : Nat} (h : Stq S e) : Spt S e := ⟨h.low.imp id fun x => by omega, fun hl => h.off hl⟩
theorem name_lo {x nm : ByteArray} {q : Nat} (hn : nameB nm = true) (hb : Bt x q nm) (hs : Spt x (q + nm.size)) : q < x.size ∧ (x.get! q).toNat / 64 ≠ 2 ∧ kd (Utf8.decode x q).1 = 1 := by
  obtain ⟨h0, hk⟩ := nm_first nm hn
  have hd := hb.decX hs.lo h0
  rw [Nat.add_zero] at hd
  have hz := hb.1
  have hk1 : kd (Utf8.decode x q).1 = 1 := by rw [hd]; exact hk
  refine ⟨by omega, fun e => ?_, hk1⟩
  have : Utf8.decode x q = (65533, 1) := by
    rw [decode_at]
    unfold decodeN
    rw [if_neg (by omega), if_neg (fun c => by omega), if_neg (fun c => by omega), if_neg (fun c => by omega)]
  rw [this] at hk1
  exact absurd hk1 (by decide +kernel)
theorem kd1_dig {r : Int} (h : kd r = 1) : digZ r = 0 := by
  by_cases hz : digZ r = 0
  · exact hz
  · have := (kd_two _).2 hz
    rw [h] at this; cases this
theorem Pre.nm {nm : ByteArray} (h : Pre s pat i out) (hn : nameB nm = true) (hb : Bt s i nm) (hs : Stq s (i + nm.size)) : Pre s pat (i + nm.size) (out ++ nm) := h.put fun x q hbx hnx => by
  have hst := hnx.spt hs
  obtain ⟨a1, a2, a3⟩ := name_lo hn hb hs.spt
  obtain ⟨b1, b2, b3⟩ := name_lo hn hbx hst
  refine .tk (w := 97) (n := 0) (E := fun _ => 0) a1 (by rw [a3]; decide) b1 b2 (by rw [b3]; decide) (by rw [num_no a1 (kd1_dig a3), num_no b1 (kd1_dig b3)]) (fun m _ => name_tok hb hs hn pat m) (fun m _ => name_tokX hbx hst hn pat m) (fun _ => by rw [hbx.ext, hb.ext]) (fun hc => ?_) hnx
  have := CkA.nameX hbx hst hc nm.size 0 0 hn (Nat.zero_le _) (by omega)
  rw [Nat.add_zero] at this; exact this
theorem Pre.nu {u : Nat} (k : Nat) (h : Pre s pat i out) (hu : u ≤ 18446744073709551615) (hb : Bt s i (txt (decDigits u))) (hs : Stq s (i + (decDigits u).length)) : Pre s pat (i + (decDigits u).length) (out ++ txt (dgT k (decDigits u))) := h.put fun x q hbx hnx => by
  rw [txt_size] at hnx
  have hst := hnx.spt hs
  have e0 := dgT_zero (decDigits u)
  have hb' : Bt s i (txt (dgT 0 (decDigits u))) := by rw [e0]; exact hb
  have hs' : Spt s (i + (dgT 0 (decDigits u)).length) := by rw [e0]; exact hs.spt
  obtain ⟨a1, a2, a3, a4⟩ := num_atX hu hb' hs'
  obtain ⟨b1, b2, b3, b4⟩ := num_atX hu hbx hst
  refine .tk (w := 48) (n := u) (E := fun m => if m < u then 10 else 0) a1 (by rw [a3]; decide) b1 b2 (by rw [b3]; decide) (by rw [a4, b4]) (fun m _ => by have := num_tokX hu hb' hs' pat m; rw [e0] at this; exact this) (fun m _ => num_tokX hu hbx hst pat m) (fun e => absurd e (by decide)) (fun hc => dgT_ck _ _ (dig_mem u) hbx hc) hnx
end
end Go.Proofs.YtjmccobblpcbhaaDoor
