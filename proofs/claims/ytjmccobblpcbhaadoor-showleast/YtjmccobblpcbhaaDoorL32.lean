/-
  WrC, WrD, SmA, SmB, SmC.
-/
import Derived.Test.YtjmccobblpcbhaaDoorChecked
import GoSem.PinnedTables
import GoSem.Claim
import GoSem.ClaimJoined
import GoSem.ClaimMapViews
import Derived.JoinedTies
import Derived.KernelRfl
import Derived.Shelf.Unicode.DecodeSlow
import Derived.Laws.RangeAny
import Derived.Shelf.Strings.Builder1
import Derived.Shelf.Small.Utf8
import Derived.Shelf.Small.Bits
import Derived.Shelf.Strings.BuilderF
import Derived.Shelf.Strings.BuilderK
import Derived.Shelf.Strings.BuilderRune
import Derived.Shelf.Utf8.AppendRune
import Derived.Shelf.Strconv.Itoa0
import Derived.Shelf.Strconv.Itoa1
import Derived.Shelf.LaysM
import Derived.Shelf.Strconv.Itoa2
import Derived.Shelf.Strconv.Itoa3
import Derived.Shelf.Strconv.Itoa4
import Derived.Shelf.Strings.Prefix
import Derived.Shelf.Unicode.DecodeAny
import Derived.Test.YtjmccobblpcbhaaDoorProg
import Derived.WalkKit
import Derived.Deep.DeepFit
import Derived.Lib.OthersKept
import Derived.Lib.RuneCountTail
import Derived.Lib.LaidU8
import Derived.MakeChecks
import Derived.ProofKit
import Derived.OpenShut
import Derived.Deep.DeepHandedRow
import Derived.Lib.MapLaws
import Derived.Sort.Walk0
import Derived.Laws.DeepStrings4
import Derived.Lib.ItoaNum
import Derived.Deep.AppendLies
import Derived.Deep.OwnRows
import Derived.Laws.AppendOwnNone
import Derived.Deep.QuietTactic
import Derived.BigQuiet
import Derived.Deep.RegionWith
import Derived.BigCall
import Derived.Lib.LaidTab
import Derived.Maps.OwnSet
import Derived.StringKeys
import Derived.Deep.Slices
import Derived.Lib.QuietBelow
import Derived.StillTail
import Derived.Laws.OwnMore
import Derived.Below
import Derived.Lib.Small
import Derived.Lib.Strings
import Derived.Deep.RegionHeld3
import Derived.Laws.ResultCell
import Derived.Deep.Heap
import Derived.Laws.Rows
import Derived.Deep.RegionLaw
import Derived.Test.YtjmccobblpcbhaaDoorRows
import Derived.Test.YtjmccobblpcbhaaDoorL01
import Derived.Test.YtjmccobblpcbhaaDoorL02
import Derived.Test.YtjmccobblpcbhaaDoorL03
import Derived.Test.YtjmccobblpcbhaaDoorL04
import Derived.Test.YtjmccobblpcbhaaDoorL05
import Derived.Test.YtjmccobblpcbhaaDoorL06
import Derived.Test.YtjmccobblpcbhaaDoorL07
import Derived.Test.YtjmccobblpcbhaaDoorL08
import Derived.Test.YtjmccobblpcbhaaDoorL09
import Derived.Test.YtjmccobblpcbhaaDoorL10
import Derived.Test.YtjmccobblpcbhaaDoorL11
import Derived.Test.YtjmccobblpcbhaaDoorL12
import Derived.Test.YtjmccobblpcbhaaDoorL13
import Derived.Test.YtjmccobblpcbhaaDoorL14
import Derived.Test.YtjmccobblpcbhaaDoorL15
import Derived.Test.YtjmccobblpcbhaaDoorL16
import Derived.Test.YtjmccobblpcbhaaDoorL17
import Derived.Test.YtjmccobblpcbhaaDoorL18
import Derived.Test.YtjmccobblpcbhaaDoorL19
import Derived.Test.YtjmccobblpcbhaaDoorL20
import Derived.Test.YtjmccobblpcbhaaDoorL21
import Derived.Test.YtjmccobblpcbhaaDoorL22
import Derived.Test.YtjmccobblpcbhaaDoorL23
import Derived.Test.YtjmccobblpcbhaaDoorL24
import Derived.Test.YtjmccobblpcbhaaDoorL25
import Derived.Test.YtjmccobblpcbhaaDoorL26
import Derived.Test.YtjmccobblpcbhaaDoorL27
import Derived.Test.YtjmccobblpcbhaaDoorL28
import Derived.Test.YtjmccobblpcbhaaDoorL29
import Derived.Test.YtjmccobblpcbhaaDoorL30
import Derived.Test.YtjmccobblpcbhaaDoorL31
set_option linter.unusedSimpArgs false
set_option linter.unusedVariables false
namespace Go.Proofs.YtjmccobblpcbhaaDoor
open Go.Lib

theorem psOp_le (c : Int) : (psOp c).2 ≤ 8 := by
  unfold psOp
  repeat' split
  all_goals simp
theorem num_no {S : ByteArray} {d : Nat} (hd : d < S.size) (h : digZ (Utf8.decode S d).1 = 0) : (numI S (d : Int)).2.2 = 11 := by
  unfold numI numP
  rw [if_neg (by omega), Int.toNat_natCast, digZ_rn S d hd, h, if_pos rfl]

/-- How a piece of the text is read: its first token, its bytes, and what each rule makes of it. 'rk' is its rank, 'wg' how many nodes it has at most, 'dg': it may begin with a digit. -/
structure Gd (S : ByteArray) (pat : Bool) (U : ByteArray) (P : List Nd) (rk : Int) (wg : Nat) (dg : Prop) : Prop where
  first : ∀ d, Bt S d U → Stq S (d + U.size) → d < S.size ∧ kd (Utf8.decode S d).1 ≠ 3 ∧ (∃ t, psFrom S pat mx63 d = .ok t) ∧ (¬ dg → (numI S (d : Int)).2.2 = 11)
  ck : ∀ d, Bt S d U → Stq S (d + U.size) → CkA S (d + U.size) → CkA S d
  lev : ∀ d o t t1, Bt S d U → Stq S (d + U.size) → o + wg ≤ 100 → psFrom S pat mx63 d = .ok t → psFrom S pat mx63 (skp S (d + U.size)) = .ok t1 → ∀ lv : Nat, 1 ≤ lv → lv ≤ 9 → (lv : Int) < rk → (psOp t1.what).2 < lv → Rs S pat (.level lv) t o (P, skp S (d + U.size))
  chain : ∀ d o t t1, Bt S d U → Stq S (d + U.size) → o + wg ≤ 100 → psFrom S pat mx63 d = .ok t → psFrom S pat mx63 (skp S (d + U.size)) = .ok t1 → ∀ lv : Nat, 1 ≤ lv → lv ≤ 8 → lv ≠ 4 → lv ≠ 5 → (lv : Int) < rk → (psOp t1.what).2 ≤ lv → ∀ r, Rs S pat (.loop lv P) t1 o r → Rs S pat (.level lv) t o r
  cond : ∀ d o t t1, Bt S d U → Stq S (d + U.size) → o + wg ≤ 100 → psFrom S pat mx63 d = .ok t → psFrom S pat mx63 (skp S (d + U.size)) = .ok t1 → (psOp t1.what).2 = 0 → t1.what ≠ 63 → Rs S pat .cond t o (P, skp S (d + U.size))

theorem Bt.in_ {S U : ByteArray} {d : Nat} (h : Bt S d U) : skp S (d + U.size) ≤ S.size := (skp_in h.1).2
theorem Gd.more {S : ByteArray} {pat : Bool} {T : ByteArray} {P : List Nd} {rk rk' : Int} {wg wg' : Nat} {dg dg' : Prop} (h : Gd S pat T P rk wg dg) (hr : rk' ≤ rk) (hw : wg ≤ wg') (hd : dg → dg') : Gd S pat T P rk' wg' dg' :=
  ⟨fun d x1 x2 => by
    obtain ⟨a, b, c, e⟩ := h.first d x1 x2
    exact ⟨a, b, c, fun hn => e fun x => hn (hd x)⟩, h.ck, fun d o t t1 x1 x2 x3 x4 x5 lv y1 y2 y3 => h.lev d o t t1 x1 x2 (by omega) x4 x5 lv y1 y2 (by omega), fun d o t t1 x1 x2 x3 x4 x5 lv y1 y2 y3 y4 y5 => h.chain d o t t1 x1 x2 (by omega) x4 x5 lv y1 y2 y3 y4 (by omega), fun d o t t1 x1 x2 x3 => h.cond d o t t1 x1 x2 (by omega)⟩

/-! ### leaves -/
/-! ### operators -/
end Go.Proofs.YtjmccobblpcbhaaDoor

set_option linter.unusedSimpArgs false
set_option linter.unusedVariables false
namespace Go.Proofs.YtjmccobblpcbhaaDoor
open Go.Lib

/-! ### the nodes that there are -/
theorem nm_empty {s : ByteArray} (h : s.toList.isEmpty = true) : s = ⟨#[]⟩ := by
  rw [toList_data] at h
  apply ByteArray.ext
  apply Array.ext'
  simpa using h
theorem len2 : ∀ {l : List Int}, l.length = 2 → ∃ a b, l = [a, b]
  | [a, b], _ => ⟨a, b, rfl⟩
theorem len3 : ∀ {l : List Int}, l.length = 3 → ∃ a b c, l = [a, b, c]
  | [a, b, c], _ => ⟨a, b, c, rfl⟩
theorem nd_cases {x : Nd} (hf : formB (fillN x) = true) : (x.op = 1 ∧ x.kids = [] ∧ x.name = ⟨#[]⟩) ∨ ((x.op = 2 ∨ x.op = 18) ∧ x.kids = [] ∧ x.n = 0 ∧ nameB x.name = true) ∨
    (x.n = 0 ∧ x.name = ⟨#[]⟩ ∧ (((x.op = 3 ∨ x.op = 4) ∧ ∃ a, x.kids = [a]) ∨ ((5 ≤ x.op ∧ x.op ≤ 16) ∧ ∃ a b, x.kids = [a, b]) ∨ (x.op = 17 ∧ ∃ a b c, x.kids = [a, b, c]))) := by
  obtain ⟨op, n, nm, ks⟩ := x
  unfold formB fitB at hf
  rw [fillN_kids, fillN_n, fillN_name] at hf
  simp only [Bool.and_eq_true, Bool.or_eq_true, decide_eq_true_eq] at hf
  obtain ⟨⟨⟨h1, h2⟩, h3⟩, h4⟩ := hf
  simp only
  by_cases h18 : op = 18
  · subst h18
    have e : (fillN ⟨18, n, nm, ks⟩).op = 2 := by unfold fillN; simp
    rw [e] at h1 h2 h3 h4
    have ea : aritI 2 = 0 := by decide
    rw [ea] at h2
    rw [if_pos rfl] at h4
    have hk : ks = [] := List.length_eq_zero_iff.1 (by omega)
    exact .inr (.inl ⟨.inr rfl, hk, by rcases h3 with h | h; exact h; exact absurd h (by decide), h4⟩)
  · have e : (fillN ⟨op, n, nm, ks⟩).op = op := by unfold fillN; rw [if_neg h18]
    rw [e] at h1 h2 h3 h4
    unfold aritI at h1 h2
    by_cases c1 : op = 1
    · subst c1
      rw [if_pos (.inl rfl)] at h2
      rw [if_neg (by decide)] at h4
      exact .inl ⟨rfl, List.length_eq_zero_iff.1 (by omega), nm_empty h4⟩
    · by_cases c2 : op = 2
      · subst c2
        rw [if_pos (.inr rfl)] at h2
        rw [if_pos rfl] at h4
        exact .inr (.inl ⟨.inl rfl, List.length_eq_zero_iff.1 (by omega), by rcases h3 with h | h; exact h; exact absurd h (by decide), h4⟩)
      · rw [if_neg (by omega)] at h1 h2
        rw [if_neg c2] at h4
        refine .inr (.inr ⟨by rcases h3 with h | h; exact h; exact absurd h c1, nm_empty h4, ?_⟩)
        by_cases c3 : op = 3 ∨ op = 4
        · rw [if_pos c3] at h2
          exact .inl ⟨c3, List.length_eq_one_iff.1 (by omega)⟩
        · rw [if_neg c3] at h1 h2
          by_cases c4 : 5 ≤ op ∧ op ≤ 16
          · rw [if_pos c4] at h2
            exact .inr (.inl ⟨c4, len2 (by omega)⟩)
          · rw [if_neg c4] at h1 h2
            by_cases c5 : op = 17
            · rw [if_pos c5] at h2
              exact .inr (.inr ⟨c5, len3 (by omega)⟩)
            · rw [if_neg c5] at h1; omega

end Go.Proofs.YtjmccobblpcbhaaDoor

set_option linter.unusedSimpArgs false
set_option linter.unusedVariables false
namespace Go.Proofs.YtjmccobblpcbhaaDoor
open Go.Lib

/-- Places of two texts that answer to each other: the end, a blank, a token. -/
inductive Sm (s x : ByteArray) (pat : Bool) : Nat → Nat → Prop
  | fin : Sm s x pat s.size x.size
  | blk {p q q' : Nat} (hp : p < s.size) (kp : kd (Utf8.decode s p).1 = 3) (wp : (Utf8.decode s p).2 = 1) (hq : q < x.size) (lo : (x.get! q).toNat / 64 ≠ 2) (kq : kd (Utf8.decode x q).1 = 3) (sq : skp x q = skp x q') (hc : CkA x q' → CkA x q) (next : Sm s x pat (p + 1) q') : Sm s x pat p q
  | tk {p q a b : Nat} {w : Int} {n : Nat} {E : Nat → Int} (hp : p < s.size) (kp : kd (Utf8.decode s p).1 ≠ 3) (hq : q < x.size) (lo : (x.get! q).toNat / 64 ≠ 2) (kq : kd (Utf8.decode x q).1 ≠ 3) (nm : (numI s p).2.2 = 11 ↔ (numI x q).2.2 = 11)
      (t1 : ∀ m, mx63 ≤ m → psFrom s pat m p = .ok ⟨w, p, a, n, E m⟩) (t2 : ∀ m, mx63 ≤ m → psFrom x pat m q = .ok ⟨w, q, b, n, E m⟩) (ex : w = 97 → x.extract q b = s.extract p a) (hc : CkA x b → CkA x q) (next : Sm s x pat a b) : Sm s x pat p q

/-- Tokens of two texts that answer to each other. -/
structure TkM (s x : ByteArray) (pat : Bool) (t t' : Tk) : Prop where
  what : t'.what = t.what
  n : t'.n = t.n
  err : t'.err = t.err
  at_ : Sm s x pat t.from_ t'.from_
  to : Sm s x pat t.to t'.to
  ex : t.what = 97 → x.extract t'.from_ t'.to = s.extract t.from_ t.to

section
variable {s x : ByteArray} {pat : Bool}
theorem psSkip_more (s : ByteArray) : ∀ (f g p : Nat), s.size ≤ p + f → s.size ≤ p + g → psSkip s f p = psSkip s g p
  | 0, 0, p, _, _ => rfl
  | 0, g + 1, p, h, _ => by simp only [psSkip]; rw [if_neg (by omega)]
  | f + 1, 0, p, _, h => by simp only [psSkip]; rw [if_neg (by omega)]
  | f + 1, g + 1, p, h1, h2 => by
    simp only [psSkip]
    by_cases hp : p < s.size
    · rw [if_pos hp, if_pos hp]
      split
      · have := width_pos s p hp
        exact psSkip_more s f g _ (by omega) (by omega)
      · rfl
    · rw [if_neg hp, if_neg hp]
theorem skp_on {S : ByteArray} {p : Nat} (hp : p < S.size) (h : kd (Utf8.decode S p).1 = 3) : skp S p = skp S (p + (Utf8.decode S p).2) := by
  unfold skp
  obtain ⟨f, hf⟩ : ∃ f, S.size = f + 1 := ⟨S.size - 1, by omega⟩
  have hw := width_pos S p hp
  rw [hf]
  conv => lhs; rw [psSkip]
  rw [if_pos (by omega), if_pos h]
  exact psSkip_more S _ _ _ (by omega) (by omega)
theorem Sm.sk {p q : Nat} (h : Sm s x pat p q) : Sm s x pat (skp s p) (skp x q) := by
  induction h with
  | fin => rw [skp_all, skp_all]; exact .fin
  | blk hp kp wp hq lo kq sq hc next ih =>
    rw [skp_on hp kp, wp, sq]; exact ih
  | tk hp kp hq lo kq nm t1 t2 ex hc next ih =>
    rw [skp_off hp kp, skp_off hq kq]
    exact .tk hp kp hq lo kq nm t1 t2 ex hc next
theorem Sm.tok {p q m : Nat} (h : Sm s x pat p q) (hm : mx63 ≤ m) {t : Tk} (ht : psFrom s pat m p = .ok t) : ∃ t', psFrom x pat m q = .ok t' ∧ TkM s x pat t t' := by
  cases h with
  | fin =>
    unfold psFrom at ht ⊢
    rw [if_neg (Nat.lt_irrefl _)] at ht ⊢
    cases ht
    exact ⟨_, rfl, rfl, rfl, rfl, .fin, .fin, fun e => absurd e (show ¬ (0 : Int) = 97 by decide)⟩
  | blk hp kp wp hq lo kq sq hc next =>
    unfold psFrom psAt at ht
    rw [if_pos hp, if_neg (by rw [kp]; decide), if_neg (by rw [kp]; decide), if_neg (fun c => by rw [kp] at c; exact absurd c.1 (by decide))] at ht
    cases ht
  | tk hp kp hq lo kq nm t1 t2 ex hc next =>
    rw [t1 m hm] at ht
    cases ht
    exact ⟨_, t2 m hm, rfl, rfl, rfl, .tk hp kp hq lo kq nm t1 t2 ex hc next, next, ex⟩
theorem num_end (S : ByteArray) : (numI S (S.size : Int)).2.2 = 11 := by
  unfold numI numP
  rw [if_neg (by omega), Int.toNat_natCast]
  have : digZ (rn S S.size) = 0 := by
    unfold rn
    rw [if_neg (Nat.lt_irrefl _)]
    decide +kernel
  rw [this, if_pos rfl]
theorem kd3_dig {r : Int} (h : kd r = 3) : digZ r = 0 := by
  by_cases hz : digZ r = 0
  · exact hz
  · have := (kd_two _).2 hz
    rw [h] at this; cases this
theorem Sm.num {p q : Nat} (h : Sm s x pat p q) : (numI s (p : Int)).2.2 = 11 ↔ (numI x (q : Int)).2.2 = 11 := by
  cases h with
  | fin => rw [num_end, num_end]
  | blk hp kp wp hq lo kq sq hc next => rw [num_no hp (kd3_dig kp), num_no hq (kd3_dig kq)]
  | tk hp kp hq lo kq nm t1 t2 ex hc next => exact nm
theorem Sm.ck {p q : Nat} (h : Sm s x pat p q) : CkA x q := by
  induction h with
  | fin => exact CkA.end_ x
  | blk hp kp wp hq lo kq sq hc next ih => exact hc ih
  | tk hp kp hq lo kq nm t1 t2 ex hc next ih => exact hc ih
theorem TkM.nx {t t' t1 : Tk} {m : Nat} (h : TkM s x pat t t') (hm : mx63 ≤ m) (hf : psFrom s pat m (skp s t.to) = .ok t1) : ∃ t1', psFrom x pat m (skp x t'.to) = .ok t1' ∧ TkM s x pat t1 t1' := h.to.sk.tok hm hf
theorem TkM.lit {t t' : Tk} (h : TkM s x pat t t') {v : Int} {r : List Nd × Nat} (hk : rdLit s v t = .ok r) : ∃ q, rdLit x v t' = .ok (r.1, q) ∧ Sm s x pat r.2 q := by
  unfold rdLit at hk ⊢
  rw [h.what, h.err]
  split at hk
  · rename_i h1
    rw [if_pos h1]
    split at hk
    · rename_i h2
      rw [if_pos h2]
      cases hk
      exact ⟨_, rfl, h.to.sk⟩
    · cases hk
  · cases hk
theorem TkM.named {t t' : Tk} (h : TkM s x pat t t') {v : Int} {r : List Nd × Nat} (hk : rdNamed s v t = .ok r) : ∃ q, rdNamed x v t' = .ok (r.1, q) ∧ Sm s x pat r.2 q := by
  unfold rdNamed at hk ⊢
  rw [h.what, h.err]
  split at hk
  · rename_i h1
    rw [if_pos h1]
    split at hk
    · rename_i h2
      rw [if_pos h2, h.ex h1]
      cases hk
      exact ⟨_, rfl, h.to.sk⟩
    · cases hk
  · cases hk
end

end Go.Proofs.YtjmccobblpcbhaaDoor

set_option linter.unusedSimpArgs false
set_option linter.unusedVariables false
namespace Go.Proofs.YtjmccobblpcbhaaDoor
open Go.Lib

/-- What stands there ends a name and a number. -/
structure Spt (S : ByteArray) (e : Nat) : Prop where
  lo : e = S.size ∨ (S.get! e).toNat / 64 ≠ 2
  off : e < S.size → onB (Utf8.decode S e).1 = false ∧ digZ (Utf8.decode S e).1 = 0
theorem pN1 (n b0 x1 x2 x3 y1 y2 y3 : Nat) (hx : 1 < n → x1 / 64 ≠ 2) : decodeN n b0 x1 x2 x3 = decodeN 1 b0 y1 y2 y3 := by
  unfold decodeN
  by_cases h0 : b0 < 128
  · rw [if_pos h0, if_pos h0]
  · rw [if_neg h0, if_neg h0, if_neg (fun c => by omega), if_neg (fun c => by omega), if_neg (fun c => by omega), if_neg (fun c => by omega), if_neg (fun c => by omega), if_neg (fun c => by omega)]
theorem pN2 (n b0 b1 x2 x3 y2 y3 : Nat) (hn : 1 < n) (hx : 2 < n → x2 / 64 ≠ 2) : decodeN n b0 b1 x2 x3 = decodeN 2 b0 b1 y2 y3 := by
  have a1 : (1 < n) = True := by simp; omega
  have a2 : (1 < 2) = True := by simp
  have a3 : ¬ (2 < n ∧ x2 / 64 = 2) := fun c => by omega
  have a4 : ¬ (2 < 2 ∧ y2 / 64 = 2) := fun c => by omega
  unfold decodeN
  simp only [a1, a2, a3, a4, false_and, and_false, if_false]
theorem pN3 (n b0 b1 b2 x3 y3 : Nat) (hn : 2 < n) (hx : 3 < n → x3 / 64 ≠ 2) : decodeN n b0 b1 b2 x3 = decodeN 3 b0 b1 b2 y3 := by
  have a1 : (1 < n) = True := by simp; omega
  have a2 : (2 < n) = True := by simp; omega
  have a3 : (1 < 3) = True := by simp
  have a4 : (2 < 3) = True := by simp
  have a5 : ¬ (3 < n ∧ x3 / 64 = 2) := fun c => by omega
  have a6 : ¬ (3 < 3 ∧ y3 / 64 = 2) := fun c => by omega
  unfold decodeN
  simp only [a1, a2, a3, a4, a5, a6, false_and, and_false, if_false]
theorem Bt.decX {S s : ByteArray} {d : Nat} (h : Bt S d s) (hst : d + s.size = S.size ∨ (S.get! (d + s.size)).toNat / 64 ≠ 2) {p : Nat} (hp : p < s.size) : Utf8.decode S (d + p) = Utf8.decode s p := by
  have hz := h.1
  rw [decode_at, decode_at, h.2 p hp]
  have g : ∀ i, p + i < s.size → S.get! (d + p + i) = s.get! (p + i) := fun i hi => by rw [Nat.add_assoc]; exact h.2 (p + i) hi
  have e : ∀ i, p + i = s.size → i < S.size - (d + p) → (S.get! (d + p + i)).toNat / 64 ≠ 2 := fun i hi hl => by
    have : d + p + i = d + s.size := by omega
    rw [this]
    rcases hst with h1 | h1 <;> omega
  have c : s.size - p = 1 ∨ s.size - p = 2 ∨ s.size - p = 3 ∨ 4 ≤ s.size - p := by omega
  rcases c with c | c | c | c
  · rw [c]; exact pN1 _ _ _ _ _ _ _ _ (e 1 (by omega))
  · rw [c, g 1 (by omega)]; exact pN2 _ _ _ _ _ _ _ (by omega) (e 2 (by omega))
  · rw [c, g 1 (by omega), g 2 (by omega)]; exact pN3 _ _ _ _ _ _ (by omega) (e 3 (by omega))
  · rw [g 1 (by omega), g 2 (by omega), g 3 (by omega)]; exact dN4 _ _ _ _ _ _ (by omega) (by omega)
theorem CkA.nameX {S nm : ByteArray} {d : Nat} (h : Bt S d nm) (hst : Spt S (d + nm.size)) (hc : CkA S (d + nm.size)) : ∀ (f q n : Nat), nmF nm f q n = true → q ≤ nm.size → nm.size ≤ q + f → CkA S (d + q)
  | 0, q, n, h1, h2, h3 => by
    have e : q = nm.size := by omega
    subst e; exact hc
  | f + 1, q, n, h1, h2, h3 => by
    by_cases hq : q < nm.size
    · rw [nmF_step nm f q n hq] at h1
      have hw := width_pos nm q hq
      have hw2 := dec_le nm q hq
      have hd := h.decX hst.lo hq
      have hon : onB (Utf8.decode nm q).1 = true ∧ nmF nm f (q + (Utf8.decode nm q).2) (n + 1) = true := by
        unfold nmS at h1
        split at h1
        · cases h1
        · rename_i hh; simp at hh; exact ⟨hh.2, h1⟩
      have ih := CkA.nameX h hst hc f _ _ hon.2 hw2 (by omega)
      have hb : bad S (d + q) = false := by
        unfold bad
        rw [hd]
        cases hx : decide ((Utf8.decode nm q).1 = 65533)
        · have : ¬ (Utf8.decode nm q).1 = 65533 := by simpa using hx
          simp [this]
        · have : (Utf8.decode nm q).1 = 65533 := by simpa using hx
          rw [this] at hon
          have : onB ((65533 : Nat) : Int) = false := by decide +kernel
          rw [this] at hon
          exact absurd hon.1 (by decide)
      intro g
      cases g with
      | zero => rfl
      | succ g =>
        rw [chkF_good S g (d + q) (by have := h.1; omega) hb, hd, Nat.add_assoc]
        exact ih g
    · have e : q = nm.size := by omega
      subst e; exact hc

theorem spF_nmX {S nm : ByteArray} {p : Nat} (h : Bt S p nm) (hst : Spt S (p + nm.size)) : ∀ (f q n : Nat), nmF nm f q n = true → q ≤ nm.size → nm.size ≤ q + f → ∀ F, S.size ≤ p + q + F → spF S F (p + q) = p + nm.size
  | 0, q, n, h1, h2, h3, F, hF => by
    have e : q = nm.size := by omega
    subst e
    by_cases hl : p + nm.size < S.size
    · exact spF_off S F _ hl (hst.off hl).1
    · exact spF_end S F _ hl
  | f + 1, q, n, h1, h2, h3, F, hF => by
    by_cases hq : q < nm.size
    · have hsz := h.1
      rw [nmF_step nm f q n hq] at h1
      have hw := width_pos nm q hq
      have hw2 := dec_le nm q hq
      have hd := h.decX hst.lo hq
      have hon : onB (Utf8.decode nm q).1 = true ∧ nmF nm f (q + (Utf8.decode nm q).2) (n + 1) = true := by
        unfold nmS at h1
        split at h1
        · cases h1
        · rename_i hh; simp at hh; exact ⟨hh.2, h1⟩
      obtain ⟨F, rfl⟩ : ∃ G, F = G + 1 := ⟨F - 1, by omega⟩
      rw [spF_on S F (p + q) (by omega) (by rw [hd]; exact hon.1), hd, Nat.add_assoc]
      exact spF_nmX h hst f _ _ hon.2 hw2 (by omega) F (by omega)
    · have e : q = nm.size := by omega
      subst e
      by_cases hl : p + nm.size < S.size
      · exact spF_off S F _ hl (hst.off hl).1
      · exact spF_end S F _ hl
theorem name_tokX {S nm : ByteArray} {d : Nat} (h : Bt S d nm) (hst : Spt S (d + nm.size)) (hn : nameB nm = true) (pat : Bool) (m : Nat) : psFrom S pat m d = .ok ⟨97, d, d + nm.size, 0, 0⟩ := by
  obtain ⟨h0, hk⟩ := nm_first nm hn
  have hd := h.decX hst.lo h0
  rw [Nat.add_zero] at hd
  have hz := h.1
  have k1 : kd (Utf8.decode S d).1 = 1 := by rw [hd]; exact hk
  unfold psFrom
  rw [if_pos (by omega)]
  unfold psAt
  rw [if_pos k1]
  obtain ⟨e1, _, _⟩ := span_in' S d (by omega) k1
  have e2 := spF_nmX h hst nm.size 0 0 hn (Nat.zero_le _) (by omega) S.size (by omega)
  rw [Nat.add_zero] at e2
  rw [e1, e2]
  simp only [Int.toNat_natCast, h.ext, hn, if_true]


/-! ### characters of two and three bytes -/
theorem dec2 {S : ByteArray} {q : Nat} {a b : UInt8} (h : Bt S q (txt [a, b])) (ha : a.toNat / 32 = 6) (hb : b.toNat / 64 = 2) (hv : 128 ≤ a.toNat % 32 * 64 + b.toNat % 64) : q < S.size ∧ S.get! q = a ∧ Utf8.decode S q = (a.toNat % 32 * 64 + b.toNat % 64, 2) := by
  obtain ⟨h1, h2⟩ := h
  rw [txt_size] at h1 h2
  simp only [List.length_cons, List.length_nil] at h1 h2
  have g0 := h2 0 (by omega)
  have g1 := h2 1 (by omega)
  rw [txt_get _ _ (by simp)] at g0 g1
  simp only [Nat.add_zero, List.getElem_cons_zero, List.getElem_cons_succ] at g0 g1
  refine ⟨by omega, g0, ?_⟩
  rw [decode_at, g0, g1]
  unfold decodeN
  rw [if_neg (by omega), if_pos ⟨ha, by omega, hb⟩, if_pos hv]
theorem dec3 {S : ByteArray} {q : Nat} {a b c : UInt8} (h : Bt S q (txt [a, b, c])) (ha : a.toNat / 16 = 14) (hb : b.toNat / 64 = 2) (hc : c.toNat / 64 = 2) (hv : 2048 ≤ a.toNat % 16 * 4096 + b.toNat % 64 * 64 + c.toNat % 64) (hw : a.toNat % 16 * 4096 + b.toNat % 64 * 64 + c.toNat % 64 < 55296 ∨ 57344 ≤ a.toNat % 16 * 4096 + b.toNat % 64 * 64 + c.toNat % 64) : q < S.size ∧ S.get! q = a ∧ Utf8.decode S q = (a.toNat % 16 * 4096 + b.toNat % 64 * 64 + c.toNat % 64, 3) := by
  obtain ⟨h1, h2⟩ := h
  rw [txt_size] at h1 h2
  simp only [List.length_cons, List.length_nil] at h1 h2
  have g0 := h2 0 (by omega)
  have g1 := h2 1 (by omega)
  have g2 := h2 2 (by omega)
  rw [txt_get _ _ (by simp)] at g0 g1 g2
  simp only [Nat.add_zero, List.getElem_cons_zero, List.getElem_cons_succ] at g0 g1 g2
  have hb' := b.toNat_lt
  have hc' := c.toNat_lt
  refine ⟨by omega, g0, ?_⟩
  rw [decode_at, g0, g1, g2]
  unfold decodeN
  rw [if_neg (by omega), if_neg (by omega), if_pos ⟨ha, ⟨by omega, hb⟩, by omega, hc⟩, if_pos ⟨hv, by omega⟩]
theorem CkA.chr {S : ByteArray} {p r w : Nat} (hp : p < S.size) (hd : Utf8.decode S p = (r, w)) (hr : r ≠ 65533) (hn : CkA S (p + w)) : CkA S p := fun g => by
  cases g with
  | zero => rfl
  | succ g =>
    have hb : bad S p = false := by unfold bad; rw [hd]; simp [hr]
    rw [chkF_good S g p hp hb, hd]; exact hn g

/-! ### digits of another script -/
def dg1 (k : Nat) (b : UInt8) : List UInt8 := if k = 0 then [b] else if k = 1 then [217, b + 112] else [239, 188, b + 96]
def dgT (k : Nat) (bs : List UInt8) : List UInt8 := bs.flatMap (dg1 k)
def zeroT (k : Nat) : Nat := if k = 0 then 48 else if k = 1 then 1632 else 65296
theorem dg_add112 {b : UInt8} (h1 : 48 ≤ b.toNat) (h2 : b.toNat ≤ 57) : (b + 112).toNat = b.toNat + 112 := by
  rw [UInt8.toNat_add]; show (b.toNat + 112) % 256 = _; omega
theorem dg_add96 {b : UInt8} (h1 : 48 ≤ b.toNat) (h2 : b.toNat ≤ 57) : (b + 96).toNat = b.toNat + 96 := by
  rw [UInt8.toNat_add]; show (b.toNat + 96) % 256 = _; omega
theorem dig_runeZ (k b : Nat) (h1 : 48 ≤ b) (h2 : b ≤ 57) : digZ ((zeroT k + (b - 48) : Nat) : Int) = (zeroT k : Int) ∧ digV ((zeroT k + (b - 48) : Nat) : Int) = (b : Int) - 48 ∧ kd ((zeroT k + (b - 48) : Nat) : Int) = 2 := by
  have key : digZ ((zeroT k + (b - 48) : Nat) : Int) = (zeroT k : Int) ∧ digV ((zeroT k + (b - 48) : Nat) : Int) = (b : Int) - 48 := by
    unfold zeroT
    split
    · have hh : hasB 48 57 ((48 + (b - 48) : Nat) : Int) = true := by simp [hasB]; omega
      unfold digZ digV
      rw [if_pos hh, if_pos hh]
      exact ⟨rfl, by omega⟩
    · split
      · have hh : hasB 1632 1641 ((1632 + (b - 48) : Nat) : Int) = true := by simp [hasB]; omega
        have hn : ¬ hasB 48 57 ((1632 + (b - 48) : Nat) : Int) = true := by simp [hasB]; omega
        unfold digZ digV
        rw [if_neg hn, if_neg hn, if_pos hh, if_pos hh]
        exact ⟨rfl, by omega⟩
      · have hh : hasB 65296 65305 ((65296 + (b - 48) : Nat) : Int) = true := by simp [hasB]; omega
        have hn : ¬ hasB 48 57 ((65296 + (b - 48) : Nat) : Int) = true := by simp [hasB]; omega
        have hm : ¬ hasB 1632 1641 ((65296 + (b - 48) : Nat) : Int) = true := by simp [hasB]; omega
        unfold digZ digV
        rw [if_neg hn, if_neg hn, if_neg hm, if_neg hm, if_pos hh, if_pos hh]
        exact ⟨rfl, by omega⟩
  refine ⟨key.1, key.2, (kd_two _).2 ?_⟩
  rw [key.1]
  unfold zeroT
  split
  · decide
  · split <;> decide
theorem dg_dec {S : ByteArray} {d k : Nat} {b : UInt8} (h1 : 48 ≤ b.toNat) (h2 : b.toNat ≤ 57) (h : Bt S d (txt (dg1 k b))) : d < S.size ∧ (S.get! d).toNat / 64 ≠ 2 ∧ Utf8.decode S d = (zeroT k + (b.toNat - 48), (dg1 k b).length) := by
  unfold dg1 at h ⊢
  unfold zeroT
  split at h
  · rename_i hk
    obtain ⟨h3, h4⟩ := h.byte
    rw [if_pos hk, if_pos hk]
    refine ⟨h3, by rw [h4]; omega, ?_⟩
    rw [dlow S d (by rw [h4]; omega), h4]
    exact Prod.ext (by show b.toNat = 48 + (b.toNat - 48); omega) rfl
  · rename_i hk
    rw [if_neg hk, if_neg hk]
    split at h
    · rename_i hk1
      rw [if_pos hk1, if_pos hk1]
      have e := dg_add112 h1 h2
      obtain ⟨h3, h4, h5⟩ := dec2 h (by decide) (by rw [e]; omega) (by rw [e]; show 128 ≤ 217 % 32 * 64 + _; omega)
      refine ⟨h3, by rw [h4]; decide, ?_⟩
      rw [h5, e]
      exact Prod.ext (by show 217 % 32 * 64 + (b.toNat + 112) % 64 = 1632 + (b.toNat - 48); omega) rfl
    · rename_i hk1
      rw [if_neg hk1, if_neg hk1]
      have e := dg_add96 h1 h2
      obtain ⟨h3, h4, h5⟩ := dec3 h (by decide) (by decide) (by rw [e]; omega) (by rw [e]; show 2048 ≤ 239 % 16 * 4096 + 188 % 64 * 64 + _; omega) (by rw [e]; right; show 57344 ≤ 239 % 16 * 4096 + 188 % 64 * 64 + _; omega)
      refine ⟨h3, by rw [h4]; decide, ?_⟩
      rw [h5, e]
      exact Prod.ext (by show 239 % 16 * 4096 + 188 % 64 * 64 + (b.toNat + 96) % 64 = 65296 + (b.toNat - 48); omega) rfl
theorem dgT_cons (k : Nat) (b : UInt8) (bs : List UInt8) : dgT k (b :: bs) = dg1 k b ++ dgT k bs := rfl
theorem nu_digX {S : ByteArray} {k : Nat} : ∀ (bs : List UInt8) (d f acc : Nat), (∀ b ∈ bs, 48 ≤ b.toNat ∧ b.toNat ≤ 57) → Bt S d (txt (dgT k bs)) → foldD acc bs ≤ 18446744073709551615 → nuF S (zeroT k) (f + bs.length) d acc = nuF S (zeroT k) f (d + (dgT k bs).length) (foldD acc bs)
  | [], d, f, acc, _, _, _ => rfl
  | b :: bs, d, f, acc, hd, hb, hl => by
    rw [dgT_cons, txt_append] at hb
    obtain ⟨h1, h2⟩ := hb.app
    rw [txt_size] at h2
    obtain ⟨hb1, hb2⟩ := hd b (by simp)
    obtain ⟨h3, _, hdec⟩ := dg_dec hb1 hb2 h1
    obtain ⟨r1, r2, r3⟩ := dig_runeZ k b.toNat hb1 hb2
    have hv : (digV (Utf8.decode S d).1).toNat = b.toNat - 48 := by rw [hdec]; show (digV ((zeroT k + (b.toNat - 48) : Nat) : Int)).toNat = _; rw [r2]; omega
    have hge := foldD_ge bs (acc * 10 + (b.toNat - 48))
    have hfo : foldD acc (b :: bs) = foldD (acc * 10 + (b.toNat - 48)) bs := rfl
    rw [hfo] at hl ⊢
    rw [show f + (b :: bs).length = (f + bs.length) + 1 by simp; omega, nuF_on S _ _ d acc h3 (by rw [hdec]; exact r1) (by rw [hv]; omega), hv, hdec]
    show nuF S _ (f + bs.length) (d + (dg1 k b).length) _ = _
    rw [nu_digX bs (d + (dg1 k b).length) f _ (fun x hx => hd x (by simp [hx])) h2 hl, dgT_cons, List.length_append, Nat.add_assoc]
theorem dgT_ck {S : ByteArray} {k : Nat} : ∀ (bs : List UInt8) (d : Nat), (∀ b ∈ bs, 48 ≤ b.toNat ∧ b.toNat ≤ 57) → Bt S d (txt (dgT k bs)) → CkA S (d + (dgT k bs).length) → CkA S d
  | [], d, _, _, h => h
  | b :: bs, d, hd, hb, hc => by
    rw [dgT_cons, txt_append] at hb
    obtain ⟨h1, h2⟩ := hb.app
    rw [txt_size] at h2
    obtain ⟨hb1, hb2⟩ := hd b (by simp)
    obtain ⟨h3, _, hdec⟩ := dg_dec hb1 hb2 h1
    rw [dgT_cons, List.length_append, ← Nat.add_assoc] at hc
    refine CkA.chr h3 hdec ?_ (dgT_ck bs _ (fun x hx => hd x (by simp [hx])) h2 hc)
    unfold zeroT
    split
    · omega
    · split <;> omega
theorem dgT_len (k : Nat) : ∀ bs : List UInt8, bs.length ≤ (dgT k bs).length ∧ (dgT k bs).length ≤ 3 * bs.length
  | [] => ⟨Nat.le_refl _, Nat.le_refl _⟩
  | b :: bs => by
    have := dgT_len k bs
    have h1 : 1 ≤ (dg1 k b).length ∧ (dg1 k b).length ≤ 3 := by
      unfold dg1
      split
      · simp
      · split <;> simp
    rw [dgT_cons, List.length_append, List.length_cons]
    omega
theorem num_atX {S : ByteArray} {d u k : Nat} (hu : u ≤ 18446744073709551615) (h : Bt S d (txt (dgT k (decDigits u)))) (hst : Spt S (d + (dgT k (decDigits u)).length)) : d < S.size ∧ (S.get! d).toNat / 64 ≠ 2 ∧ kd (Utf8.decode S d).1 = 2 ∧ numI S (d : Int) = (u, d + (dgT k (decDigits u)).length, 0) := by
  have hne := dig_ne u
  have hz := h.1
  rw [txt_size] at hz
  obtain ⟨b, bs, hbs⟩ : ∃ b bs, decDigits u = b :: bs := by
    cases hq : decDigits u with
    | nil => rw [hq] at hne; simp at hne
    | cons b bs => exact ⟨b, bs, rfl⟩
  obtain ⟨m1, m2⟩ := dig_mem u b (by rw [hbs]; simp)
  have h0 := h
  rw [hbs, dgT_cons, txt_append] at h0
  obtain ⟨e1, e2, hdec⟩ := dg_dec m1 m2 h0.app.1
  obtain ⟨r1, r2, r3⟩ := dig_runeZ k b.toNat m1 m2
  have hrn : digZ (rn S d) = (zeroT k : Int) := by rw [digZ_rn S d e1, hdec]; exact r1
  have hzn : ¬ (zeroT k : Int) = 0 := by
    unfold zeroT
    split
    · decide
    · split <;> decide
  refine ⟨e1, e2, by rw [hdec]; exact r3, ?_⟩
  unfold numI numP
  rw [if_neg (by omega), Int.toNat_natCast, hrn, if_neg hzn]
  have hf := foldD_dec u
  have hln := dgT_len k (decDigits u)
  have := nu_digX (k := k) (decDigits u) d (S.size - (decDigits u).length) 0 (dig_mem u) h (by rw [hf]; exact hu)
  rw [show S.size - (decDigits u).length + (decDigits u).length = S.size by omega, hf] at this
  rw [this]
  by_cases hl : d + (dgT k (decDigits u)).length < S.size
  · exact nuF_off S _ _ _ _ (by rw [(hst.off hl).2]; exact fun e => hzn e.symm)
  · exact nuF_end S _ _ _ _ hl
theorem num_tokX {S : ByteArray} {d u k : Nat} (hu : u ≤ 18446744073709551615) (h : Bt S d (txt (dgT k (decDigits u)))) (hst : Spt S (d + (dgT k (decDigits u)).length)) (pat : Bool) (m : Nat) : psFrom S pat m d = .ok ⟨48, d, d + (dgT k (decDigits u)).length, u, if m < u then 10 else 0⟩ := by
  obtain ⟨h1, _, h2, h3⟩ := num_atX hu h hst
  unfold psFrom
  rw [if_pos h1]
  unfold psAt
  rw [if_neg (by rw [h2]; decide), if_pos h2, h3]
theorem dgT_zero (bs : List UInt8) : dgT 0 bs = bs := by
  induction bs with
  | nil => rfl
  | cons b bs ih => rw [dgT_cons, ih]; rfl

/-! ### signs -/
theorem sgu_tok {S : ByteArray} {q r w : Nat} {v : Int} (hq : q < S.size) (h1 : 128 ≤ (S.get! q).toNat) (hd : Utf8.decode S q = (r, w)) (k : kd (r : Int) = 4) (pl : psPlain (r : Int) = v) (rl : runeLen (r : Int) = (w : Int)) (hr : 128 ≤ r) (hw : 0 < w) (pat : Bool) (m : Nat) : psFrom S pat m q = .ok ⟨v, q, q + w, 0, 0⟩ := by
  have hno : ∀ x : UInt8, x.toNat < 128 → psTwo S q x = false := fun x hx => by
    cases hb : psTwo S q x
    · rfl
    · obtain ⟨b1, b2, b3⟩ := (two_iff S q x).1 hb
      rw [b2] at h1; omega
  have hsg : psSign S pat q (r : Int) = (v, (w : Int)) := by
    unfold psSign
    rw [hno 61 (by decide), hno 60 (by decide), hno 62 (by decide)]
    simp only [Bool.false_eq_true, if_false]
    rw [if_neg (by omega), if_neg (fun c => by omega), pl, rl]
  unfold psFrom
  rw [if_pos hq, hd]
  unfold psAt
  simp only
  rw [if_neg (by rw [k]; decide), if_neg (by rw [k]; decide), hsg, if_pos ⟨k, by show (0 : Int) < (w : Int); omega⟩]
  simp
end Go.Proofs.YtjmccobblpcbhaaDoor

set_option linter.unusedSimpArgs false
set_option linter.unusedVariables false
namespace Go.Proofs.YtjmccobblpcbhaaDoor
open Go.Lib

section
variable {S : ByteArray} {pat : Bool}
theorem tx1 (c : UInt8) : (txt [c]).size = 1 := by rw [txt_size]; rfl
end
end Go.Proofs.YtjmccobblpcbhaaDoor
