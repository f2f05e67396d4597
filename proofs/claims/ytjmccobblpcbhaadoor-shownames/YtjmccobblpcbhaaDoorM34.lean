/-
  WrC.
-/
import Derived.Test.YtjmccobblpcbhaaDoorChecked
import GoSem.PinnedTables
import GoSem.Claim
import GoSem.ClaimJoined
import GoSem.ClaimMapViews
import Derived.JoinedTies
import Derived.KernelRfl
import Derived.Shelf.Unicode.DecodeSlow
import Derived.Laws.RangeAny
import Derived.Shelf.Strings.Builder1
import Derived.Shelf.Small.Utf8
import Derived.Shelf.Small.Bits
import Derived.Shelf.Strings.BuilderF
import Derived.Shelf.Strings.BuilderK
import Derived.Shelf.Strings.BuilderRune
import Derived.Shelf.Utf8.AppendRune
import Derived.Shelf.Strconv.Itoa0
import Derived.Shelf.Strconv.Itoa1
import Derived.Shelf.LaysM
import Derived.Shelf.Strconv.Itoa2
import Derived.Shelf.Strconv.Itoa3
import Derived.Shelf.Strconv.Itoa4
import Derived.Shelf.Strings.Prefix
import Derived.Shelf.Unicode.DecodeAny
import Derived.Test.YtjmccobblpcbhaaDoorProg
import Derived.WalkKit
import Derived.Deep.DeepFit
import Derived.Lib.OthersKept
import Derived.Lib.RuneCountTail
import Derived.Lib.LaidU8
import Derived.MakeChecks
import Derived.ProofKit
import Derived.OpenShut
import Derived.Deep.DeepHandedRow
import Derived.Lib.MapLaws
import Derived.Sort.Walk0
import Derived.Laws.DeepStrings4
import Derived.Lib.ItoaNum
import Derived.Deep.AppendLies
import Derived.Deep.OwnRows
import Derived.Laws.AppendOwnNone
import Derived.Deep.QuietTactic
import Derived.BigQuiet
import Derived.Deep.RegionWith
import Derived.BigCall
import Derived.Lib.LaidTab
import Derived.Maps.OwnSet
import Derived.StringKeys
import Derived.Deep.Slices
import Derived.Lib.QuietBelow
import Derived.StillTail
import Derived.Laws.OwnMore
import Derived.Below
import Derived.Lib.Small
import Derived.Lib.Strings
import Derived.Deep.RegionHeld3
import Derived.Laws.ResultCell
import Derived.Deep.Heap
import Derived.Laws.Rows
import Derived.Deep.RegionLaw
import Derived.Test.YtjmccobblpcbhaaDoorRows
import Derived.Test.YtjmccobblpcbhaaDoorM01
import Derived.Test.YtjmccobblpcbhaaDoorM02
import Derived.Test.YtjmccobblpcbhaaDoorM03
import Derived.Test.YtjmccobblpcbhaaDoorM04
import Derived.Test.YtjmccobblpcbhaaDoorM05
import Derived.Test.YtjmccobblpcbhaaDoorM06
import Derived.Test.YtjmccobblpcbhaaDoorM07
import Derived.Test.YtjmccobblpcbhaaDoorM08
import Derived.Test.YtjmccobblpcbhaaDoorM09
import Derived.Test.YtjmccobblpcbhaaDoorM10
import Derived.Test.YtjmccobblpcbhaaDoorM11
import Derived.Test.YtjmccobblpcbhaaDoorM12
import Derived.Test.YtjmccobblpcbhaaDoorM13
import Derived.Test.YtjmccobblpcbhaaDoorM14
import Derived.Test.YtjmccobblpcbhaaDoorM15
import Derived.Test.YtjmccobblpcbhaaDoorM16
import Derived.Test.YtjmccobblpcbhaaDoorM17
import Derived.Test.YtjmccobblpcbhaaDoorM18
import Derived.Test.YtjmccobblpcbhaaDoorM19
import Derived.Test.YtjmccobblpcbhaaDoorM20
import Derived.Test.YtjmccobblpcbhaaDoorM21
import Derived.Test.YtjmccobblpcbhaaDoorM22
import Derived.Test.YtjmccobblpcbhaaDoorM23
import Derived.Test.YtjmccobblpcbhaaDoorM24
import Derived.Test.YtjmccobblpcbhaaDoorM25
import Derived.Test.YtjmccobblpcbhaaDoorM26
import Derived.Test.YtjmccobblpcbhaaDoorM27
import Derived.Test.YtjmccobblpcbhaaDoorM28
import Derived.Test.YtjmccobblpcbhaaDoorM29
import Derived.Test.YtjmccobblpcbhaaDoorM30
import Derived.Test.YtjmccobblpcbhaaDoorM31
import Derived.Test.YtjmccobblpcbhaaDoorM32
import Derived.Test.YtjmccobblpcbhaaDoorM33
set_option linter.unusedSimpArgs false
set_option linter.unusedVariables false
namespace Go.Proofs.YtjmccobblpcbhaaDoor
open Go.Lib

theorem psOp_le (c : Int) : (psOp c).2 ≤ 8 := by
  unfold psOp
  repeat' split
  all_goals simp
/-- The sign of an operator of two parts. -/
theorem sgn_tok {S : ByteArray} {q : Nat} {op : Int} (ho : 5 ≤ op ∧ op ≤ 16) (h : Bt S q (sgT op)) (h1 : q + (sgT op).size < S.size) (h2 : S.get! (q + (sgT op).size) = 32) (pat : Bool) (m : Nat) :
    ∃ w, psFrom S pat m q = .ok ⟨w, q, q + (sgT op).size, 0, 0⟩ ∧ psOp w = (op, (rkT op - 1).toNat) := by
  have hc : op = 5 ∨ op = 6 ∨ op = 7 ∨ op = 8 ∨ op = 9 ∨ op = 10 ∨ op = 11 ∨ op = 12 ∨ op = 13 ∨ op = 14 ∨ op = 15 ∨ op = 16 := by omega
  have one : ∀ c : UInt8, sgT op = txt [c] → sg1 c → ∃ w, psFrom S pat m q = .ok ⟨w, q, q + (sgT op).size, 0, 0⟩ ∧ w = (c.toNat : Int) := by
    intro c e hs
    rw [e] at h h1 h2 ⊢
    obtain ⟨b1, b2⟩ := h.byte
    have ez : (txt [c]).size = 1 := by rw [txt_size]; rfl
    rw [ez] at h1 h2 ⊢
    exact ⟨_, one_tok b1 b2 hs (fun _ x => by rw [h2] at x; exact absurd x.2 (by decide)) pat m, rfl⟩
  have two : ∀ c : UInt8, sgT op = txt [c, c] → (c = 60 ∨ c = 61 ∨ c = 62) → ∃ w, psFrom S pat m q = .ok ⟨w, q, q + (sgT op).size, 0, 0⟩ ∧ w = (if c = 60 then 8810 else if c = 61 then 8801 else 8811) := by
    intro c e hs
    rw [e] at h h1 h2 ⊢
    have e2 : txt [c, c] = txt [c] ++ txt [c] := by rw [← txt_append]; rfl
    rw [e2] at h
    obtain ⟨g1, g2⟩ := h.app
    have ez : (txt [c]).size = 1 := by rw [txt_size]; rfl
    have ez2 : (txt [c, c]).size = 2 := by rw [txt_size]; rfl
    rw [ez] at g2
    rw [ez2] at h1 h2 ⊢
    obtain ⟨b1, b2⟩ := g1.byte
    obtain ⟨b3, b4⟩ := g2.byte
    exact ⟨_, two_tok b3 b2 b4 hs pat m, rfl⟩
  rcases hc with rfl | rfl | rfl | rfl | rfl | rfl | rfl | rfl | rfl | rfl | rfl | rfl
  · obtain ⟨w, h3, rfl⟩ := one 43 rfl (by unfold sg1; simp); exact ⟨_, h3, by decide⟩
  · obtain ⟨w, h3, rfl⟩ := one 45 rfl (by unfold sg1; simp); exact ⟨_, h3, by decide⟩
  · obtain ⟨w, h3, rfl⟩ := one 42 rfl (by unfold sg1; simp); exact ⟨_, h3, by decide⟩
  · obtain ⟨w, h3, rfl⟩ := one 47 rfl (by unfold sg1; simp); exact ⟨_, h3, by decide⟩
  · obtain ⟨w, h3, rfl⟩ := one 37 rfl (by unfold sg1; simp); exact ⟨_, h3, by decide⟩
  · obtain ⟨w, h3, rfl⟩ := one 38 rfl (by unfold sg1; simp); exact ⟨_, h3, by decide⟩
  · obtain ⟨w, h3, rfl⟩ := one 124 rfl (by unfold sg1; simp); exact ⟨_, h3, by decide⟩
  · obtain ⟨w, h3, rfl⟩ := one 94 rfl (by unfold sg1; simp); exact ⟨_, h3, by decide⟩
  · obtain ⟨w, h3, rfl⟩ := two 60 rfl (by simp); exact ⟨_, h3, by decide⟩
  · obtain ⟨w, h3, rfl⟩ := two 62 rfl (by simp); exact ⟨_, h3, by decide⟩
  · obtain ⟨w, h3, rfl⟩ := two 61 rfl (by simp); exact ⟨_, h3, by decide⟩
  · obtain ⟨w, h3, rfl⟩ := one 60 rfl (by unfold sg1; simp); exact ⟨_, h3, by decide⟩
theorem sgn_asc : ∀ k : Fin 19, ∀ c ∈ (wrTab.getD k.1 ([], [], 0)).1, c.toNat < 128 ∧ kd (c.toNat : Int) ≠ 3 := by decide +kernel
theorem num_no {S : ByteArray} {d : Nat} (hd : d < S.size) (h : digZ (Utf8.decode S d).1 = 0) : (numI S (d : Int)).2.2 = 11 := by
  unfold numI numP
  rw [if_neg (by omega), Int.toNat_natCast, digZ_rn S d hd, h, if_pos rfl]

/-- How a piece of the text is read: its first token, its bytes, and what each rule makes of it. 'rk' is its rank, 'wg' how many nodes it has at most, 'dg': it may begin with a digit. -/
structure Gd (S : ByteArray) (pat : Bool) (U : ByteArray) (P : List Nd) (rk : Int) (wg : Nat) (dg : Prop) : Prop where
  first : ∀ d, Bt S d U → Stq S (d + U.size) → d < S.size ∧ kd (Utf8.decode S d).1 ≠ 3 ∧ (∃ t, psFrom S pat mx63 d = .ok t) ∧ (¬ dg → (numI S (d : Int)).2.2 = 11)
  ck : ∀ d, Bt S d U → Stq S (d + U.size) → CkA S (d + U.size) → CkA S d
  lev : ∀ d o t t1, Bt S d U → Stq S (d + U.size) → o + wg ≤ 100 → psFrom S pat mx63 d = .ok t → psFrom S pat mx63 (skp S (d + U.size)) = .ok t1 → ∀ lv : Nat, 1 ≤ lv → lv ≤ 9 → (lv : Int) < rk → (psOp t1.what).2 < lv → Rs S pat (.level lv) t o (P, skp S (d + U.size))
  chain : ∀ d o t t1, Bt S d U → Stq S (d + U.size) → o + wg ≤ 100 → psFrom S pat mx63 d = .ok t → psFrom S pat mx63 (skp S (d + U.size)) = .ok t1 → ∀ lv : Nat, 1 ≤ lv → lv ≤ 8 → lv ≠ 4 → lv ≠ 5 → (lv : Int) < rk → (psOp t1.what).2 ≤ lv → ∀ r, Rs S pat (.loop lv P) t1 o r → Rs S pat (.level lv) t o r
  cond : ∀ d o t t1, Bt S d U → Stq S (d + U.size) → o + wg ≤ 100 → psFrom S pat mx63 d = .ok t → psFrom S pat mx63 (skp S (d + U.size)) = .ok t1 → (psOp t1.what).2 = 0 → t1.what ≠ 63 → Rs S pat .cond t o (P, skp S (d + U.size))

theorem Bt.in_ {S U : ByteArray} {d : Nat} (h : Bt S d U) : skp S (d + U.size) ≤ S.size := (skp_in h.1).2
/-- From the levels to the other rules, where the piece is no choice and no operator of its level alone. -/
theorem gd_high {S : ByteArray} {pat : Bool} {U : ByteArray} {P : List Nd} {rk : Int} {wg : Nat} {dg : Prop} (hrk : 10 ≤ rk) (first : ∀ d, Bt S d U → Stq S (d + U.size) → d < S.size ∧ kd (Utf8.decode S d).1 ≠ 3 ∧ (∃ t, psFrom S pat mx63 d = .ok t) ∧ (¬ dg → (numI S (d : Int)).2.2 = 11))
    (ck : ∀ d, Bt S d U → Stq S (d + U.size) → CkA S (d + U.size) → CkA S d)
    (un : ∀ d o t t1, Bt S d U → Stq S (d + U.size) → o + wg ≤ 100 → psFrom S pat mx63 d = .ok t → psFrom S pat mx63 (skp S (d + U.size)) = .ok t1 → Rs S pat (.level 9) t o (P, skp S (d + U.size))) : Gd S pat U P rk wg dg where
  first := first
  ck := ck
  lev d o t t1 hb hs ho ht ht1 lv h1 h9 _ hn := rs_climb (un d o t t1 hb hs ho ht ht1) ht1 hb.in_ (Nat.le_refl _) h9 hn
  chain d o t t1 hb hs ho ht ht1 lv h1 h8 _ _ _ hn r hr := by
    have := rs_climb (lv := lv + 1) (un d o t t1 hb hs ho ht ht1) ht1 hb.in_ (Nat.le_refl _) (by omega) (by omega)
    exact rs_level h8 this ht1 hr
  cond d o t t1 hb hs ho ht ht1 h0 h63 := rs_plain (rs_climb (un d o t t1 hb hs ho ht ht1) ht1 hb.in_ (Nat.le_refl _) (by omega) (by omega)) ht1 h63

/-- In brackets. -/
theorem gd_brack {S : ByteArray} {pat : Bool} {T : ByteArray} {P : List Nd} {rk : Int} {wg : Nat} {dg : Prop} (h : Gd S pat T P rk wg dg) : Gd S pat (txt [40] ++ T ++ txt [41]) P 11 (wg + 1) False := by
  have ez : ∀ c : UInt8, (txt [c]).size = 1 := fun c => by rw [txt_size]; rfl
  have hsz : (txt [40] ++ T ++ txt [41]).size = T.size + 2 := by rw [apz, apz, ez, ez]; omega
  have split : ∀ d, Bt S d (txt [40] ++ T ++ txt [41]) → (d < S.size ∧ S.get! d = 40) ∧ Bt S (d + 1) T ∧ (d + 1 + T.size < S.size ∧ S.get! (d + 1 + T.size) = 41) := fun d hb => by
    obtain ⟨h1, h2⟩ := hb.app
    obtain ⟨h3, h4⟩ := h1.app
    rw [ez] at h4
    rw [apz, ez, ← Nat.add_assoc] at h2
    exact ⟨h3.byte, h4, h2.byte⟩
  have hk : ∀ d, S.get! d = 40 → kd (Utf8.decode S d).1 ≠ 3 ∧ digZ (Utf8.decode S d).1 = 0 := fun d hd => by
    rw [dlow S d (by rw [hd]; decide), hd]
    exact ⟨by decide +kernel, by decide +kernel⟩
  refine gd_high (by decide) (fun d hb hs => ?_) (fun d hb hs hc => ?_) fun d o t t1 hb hs ho ht ht1 => ?_
  · obtain ⟨⟨b1, b2⟩, b3, b4, b5⟩ := split d hb
    exact ⟨b1, (hk d b2).1, ⟨_, one_tok b1 b2 (by unfold sg1; simp) (fun e => absurd e (by decide)) pat mx63⟩, fun _ => num_no b1 (hk d b2).2⟩
  · obtain ⟨⟨b1, b2⟩, b3, b4, b5⟩ := split d hb
    rw [hsz] at hc
    refine CkA.low b1 (by rw [b2]; decide) (h.ck (d + 1) b3 (.inr ⟨b4, .inl b5⟩) (CkA.low b4 (by rw [b5]; decide) ?_))
    rw [show d + 1 + T.size + 1 = d + (T.size + 2) by omega]; exact hc
  · obtain ⟨⟨b1, b2⟩, b3, b4, b5⟩ := split d hb
    have hst : Stq S (d + 1 + T.size) := .inr ⟨b4, .inl b5⟩
    rw [one_tok b1 b2 (by unfold sg1; simp) (fun e => absurd e (by decide)) pat mx63] at ht
    cases ht
    obtain ⟨f1, f2, ⟨t', f3⟩, _⟩ := h.first (d + 1) b3 hst
    have hsk := skp_off f1 f2
    have hse : skp S (d + 1 + T.size) = d + 1 + T.size := skp_jsg b4 b5 (by unfold jsg; simp)
    have hcl := close_at S pat mx63 (d + 1 + T.size) b4 b5
    have hc := h.cond (d + 1) (o + 1) t' ⟨41, d + 1 + T.size, d + 1 + T.size + 1, 0, 0⟩ b3 hst (by omega) f3 (by rw [hse]; exact hcl) (show (psOp 41).2 = 0 by decide) (show (41 : Int) ≠ 63 by decide)
    rw [hse] at hc
    have := rs_brack (t := ⟨40, d, d + 1, 0, 0⟩) rfl (by omega) (by rw [hsk]; exact f3) hc b4 b5
    rw [hsz, show d + (T.size + 2) = d + 1 + T.size + 1 by omega]
    exact this

/-- As the operand of an operator. -/
theorem gd_tk {S : ByteArray} {pat : Bool} {op : Int} {place : Nat} {y : Nd} {T : ByteArray} {P : List Nd} {rk : Int} {wg : Nat} {dg : Prop} (h : Gd S pat T P rk wg dg) : Gd S pat (tkT op place (y, T)) P (if brkB op place y = true then 11 else rk) (wg + 1) (brkB op place y = false ∧ dg) := by
  unfold tkT
  simp only
  by_cases hb : brkB op place y = true
  · rw [if_pos hb, if_pos hb]
    have := gd_brack h
    refine ⟨fun d x1 x2 => ?_, this.ck, this.lev, this.chain, this.cond⟩
    obtain ⟨a, b, c, e⟩ := this.first d x1 x2
    exact ⟨a, b, c, fun _ => e id⟩
  · rw [if_neg hb, if_neg hb]
    have hf : brkB op place y = false := by simpa using hb
    refine ⟨fun d x1 x2 => ?_, h.ck, fun d o t t1 x1 x2 x3 => h.lev d o t t1 x1 x2 (by omega), fun d o t t1 x1 x2 x3 => h.chain d o t t1 x1 x2 (by omega), fun d o t t1 x1 x2 x3 => h.cond d o t t1 x1 x2 (by omega)⟩
    obtain ⟨a, b, c, e⟩ := h.first d x1 x2
    exact ⟨a, b, c, fun hn => e fun x => hn ⟨hf, x⟩⟩
theorem Gd.more {S : ByteArray} {pat : Bool} {T : ByteArray} {P : List Nd} {rk rk' : Int} {wg wg' : Nat} {dg dg' : Prop} (h : Gd S pat T P rk wg dg) (hr : rk' ≤ rk) (hw : wg ≤ wg') (hd : dg → dg') : Gd S pat T P rk' wg' dg' :=
  ⟨fun d x1 x2 => by
    obtain ⟨a, b, c, e⟩ := h.first d x1 x2
    exact ⟨a, b, c, fun hn => e fun x => hn (hd x)⟩, h.ck, fun d o t t1 x1 x2 x3 x4 x5 lv y1 y2 y3 => h.lev d o t t1 x1 x2 (by omega) x4 x5 lv y1 y2 (by omega), fun d o t t1 x1 x2 x3 x4 x5 lv y1 y2 y3 y4 y5 => h.chain d o t t1 x1 x2 (by omega) x4 x5 lv y1 y2 y3 y4 (by omega), fun d o t t1 x1 x2 x3 => h.cond d o t t1 x1 x2 (by omega)⟩

/-! ### leaves -/
theorem gd_lit {S : ByteArray} {pat : Bool} {n : Int} (hn : num64 n) : Gd S pat (txt (itoa n)) [⟨1, n, ⟨#[]⟩, []⟩] 11 1 (0 ≤ n) := by
  have ez : ∀ c : UInt8, (txt [c]).size = 1 := fun c => by rw [txt_size]; rfl
  by_cases h0 : n < 0
  · have e : txt (itoa n) = txt [45] ++ txt (decDigits n.natAbs) := by rw [← txt_append]; unfold itoa; rw [if_pos h0]; rfl
    have hu : n.natAbs ≤ 9223372036854775808 := by unfold num64 at hn; omega
    rw [e]
    have hsz : (txt [45] ++ txt (decDigits n.natAbs)).size = (decDigits n.natAbs).length + 1 := by rw [apz, ez, txt_size]; omega
    have split : ∀ d, Bt S d (txt [45] ++ txt (decDigits n.natAbs)) → (d < S.size ∧ S.get! d = 45) ∧ Bt S (d + 1) (txt (decDigits n.natAbs)) := fun d hb => by
      obtain ⟨h1, h2⟩ := hb.app
      rw [ez] at h2
      exact ⟨h1.byte, h2⟩
    have hk : ∀ d, S.get! d = 45 → kd (Utf8.decode S d).1 ≠ 3 ∧ digZ (Utf8.decode S d).1 = 0 := fun d hd => by
      rw [dlow S d (by rw [hd]; decide), hd]
      exact ⟨by decide +kernel, by decide +kernel⟩
    refine gd_high (by decide) (fun d hb hs => ?_) (fun d hb hs hc => ?_) fun d o t t1 hb hs ho ht ht1 => ?_
    · obtain ⟨⟨b1, b2⟩, b3⟩ := split d hb
      exact ⟨b1, (hk d b2).1, ⟨_, one_tok b1 b2 (by unfold sg1; simp) (fun e => absurd e (by decide)) pat mx63⟩, fun _ => num_no b1 (hk d b2).2⟩
    · obtain ⟨⟨b1, b2⟩, b3⟩ := split d hb
      rw [hsz] at hc
      exact CkA.low b1 (by rw [b2]; decide) (CkA.asc _ _ (fun c hc => by have := dig_mem _ c hc; omega) b3 (by rw [show d + 1 + (decDigits n.natAbs).length = d + ((decDigits n.natAbs).length + 1) by omega]; exact hc))
    · obtain ⟨⟨b1, b2⟩, b3⟩ := split d hb
      rw [one_tok b1 b2 (by unfold sg1; simp) (fun e => absurd e (by decide)) pat mx63] at ht
      cases ht
      rw [hsz, show d + ((decDigits n.natAbs).length + 1) = d + 1 + (decDigits n.natAbs).length by omega] at hs ⊢
      obtain ⟨n1, n2, n3⟩ := num_at (u := n.natAbs) (by omega) b3 hs
      have hsk : skp S (d + 1) = d + 1 := skp_off n1 (by rw [n2]; decide)
      have htk := num_tok (u := n.natAbs) (by omega) b3 hs pat (mx63 + 1) (by unfold mx63; omega)
      refine rs_un9 (rs_lit (t := ⟨45, d, d + 1, 0, 0⟩) rfl ?_ (by rw [hsk]; exact htk) ?_)
      · show (numI S ((d + 1 : Nat) : Int)).2.2 ≠ 11
        rw [n3]; show (0 : Int) ≠ 11; decide
      · have : -((n.natAbs : Nat) : Int) = n := by omega
        unfold rdLit
        simp only [if_true, this]
  · have e : txt (itoa n) = txt (decDigits n.toNat) := by unfold itoa; rw [if_neg h0]
    have hu : n.toNat ≤ 9223372036854775807 := by unfold num64 at hn; omega
    rw [e]
    have hsz : (txt (decDigits n.toNat)).size = (decDigits n.toNat).length := txt_size _
    refine gd_high (by decide) (fun d hb hs => ?_) (fun d hb hs hc => ?_) fun d o t t1 hb hs ho ht ht1 => ?_
    · rw [hsz] at hs
      obtain ⟨n1, n2, n3⟩ := num_at (u := n.toNat) (by omega) hb hs
      exact ⟨n1, by rw [n2]; decide, ⟨_, num_tok (u := n.toNat) (by omega) hb hs pat mx63 (by unfold mx63; omega)⟩, fun hx => absurd (by omega) hx⟩
    · rw [hsz] at hc
      exact CkA.asc _ _ (fun c hc => by have := dig_mem _ c hc; omega) hb hc
    · rw [hsz] at hs ⊢
      rw [num_tok (u := n.toNat) (by omega) hb hs pat mx63 (by unfold mx63; omega)] at ht
      cases ht
      refine rs_un9 (rs_atom (show (48 : Int) ≠ 45 by decide) (show (48 : Int) ≠ 126 by decide) ⟨0, ?_⟩)
      have : ((n.toNat : Nat) : Int) = n := by omega
      rw [rdRun, if_pos rfl]
      unfold rdLit
      simp only [if_true, this]
theorem gd_var {S : ByteArray} {pat : Bool} {nm : ByteArray} (hn : nameB nm = true) (dg : Prop) : Gd S pat nm [⟨2, 0, nm, []⟩] 11 1 dg := by
  have hf := nm_first nm hn
  have hk1 : ∀ d, Bt S d nm → Stq S (d + nm.size) → d < S.size ∧ kd (Utf8.decode S d).1 = 1 := fun d hb hs => by
    have hd := hb.dec hs hf.1
    rw [Nat.add_zero] at hd
    have := hb.1
    exact ⟨by omega, by rw [hd]; exact hf.2⟩
  refine gd_high (by decide) (fun d hb hs => ?_) (fun d hb hs hc => ?_) fun d o t t1 hb hs ho ht ht1 => ?_
  · obtain ⟨k1, k2⟩ := hk1 d hb hs
    refine ⟨k1, by rw [k2]; decide, ⟨_, name_tok hb hs hn pat mx63⟩, fun _ => num_no k1 ?_⟩
    by_cases hz : digZ (Utf8.decode S d).1 = 0
    · exact hz
    · have := (kd_two _).2 hz
      rw [k2] at this; cases this
  · have := CkA.name hb hs hc nm.size 0 0 hn (Nat.zero_le _) (by omega)
    rw [Nat.add_zero] at this; exact this
  · rw [name_tok hb hs hn pat mx63] at ht
    cases ht
    refine rs_un9 (rs_atom (show (97 : Int) ≠ 45 by decide) (show (97 : Int) ≠ 126 by decide) ⟨0, ?_⟩)
    rw [rdRun, if_neg (show ¬ (97 : Int) = 48 by decide), if_pos rfl]
    unfold rdNamed
    simp only [if_true, hb.ext]
theorem gd_hole {S : ByteArray} {nm : ByteArray} (hn : nameB nm = true) (dg : Prop) : Gd S true (txt [64] ++ nm) [⟨18, 0, nm, []⟩] 11 1 dg := by
  have ez : ∀ c : UInt8, (txt [c]).size = 1 := fun c => by rw [txt_size]; rfl
  have hf := nm_first nm hn
  have hsz : (txt [64] ++ nm).size = nm.size + 1 := by rw [apz, ez]; omega
  have split : ∀ d, Bt S d (txt [64] ++ nm) → (d < S.size ∧ S.get! d = 64) ∧ Bt S (d + 1) nm := fun d hb => by
    obtain ⟨h1, h2⟩ := hb.app
    rw [ez] at h2
    exact ⟨h1.byte, h2⟩
  have hk : ∀ d, S.get! d = 64 → kd (Utf8.decode S d).1 ≠ 3 ∧ digZ (Utf8.decode S d).1 = 0 := fun d hd => by
    rw [dlow S d (by rw [hd]; decide), hd]
    exact ⟨by decide +kernel, by decide +kernel⟩
  refine gd_high (by decide) (fun d hb hs => ?_) (fun d hb hs hc => ?_) fun d o t t1 hb hs ho ht ht1 => ?_
  · obtain ⟨⟨b1, b2⟩, b3⟩ := split d hb
    exact ⟨b1, (hk d b2).1, ⟨_, at_tok b1 b2 mx63⟩, fun _ => num_no b1 (hk d b2).2⟩
  · obtain ⟨⟨b1, b2⟩, b3⟩ := split d hb
    rw [hsz, show d + (nm.size + 1) = d + 1 + nm.size by omega] at hc hs
    have := CkA.name b3 hs hc nm.size 0 0 hn (Nat.zero_le _) (by omega)
    rw [Nat.add_zero] at this
    exact CkA.low b1 (by rw [b2]; decide) this
  · obtain ⟨⟨b1, b2⟩, b3⟩ := split d hb
    rw [at_tok b1 b2 mx63] at ht
    cases ht
    rw [hsz, show d + (nm.size + 1) = d + 1 + nm.size by omega] at hs ⊢
    have hd := b3.dec hs hf.1
    rw [Nat.add_zero] at hd
    have hsk : skp S (d + 1) = d + 1 := skp_off (by have := b3.1; omega) (by rw [hd, hf.2]; decide)
    refine rs_un9 (rs_atom (show (64 : Int) ≠ 45 by decide) (show (64 : Int) ≠ 126 by decide) ⟨0, ?_⟩)
    rw [rdRun, if_neg (show ¬ (64 : Int) = 48 by decide), if_neg (show ¬ (64 : Int) = 97 by decide), if_pos rfl]
    show (psFrom S true mx63 (skp S (d + 1))).bind _ = _
    rw [hsk, name_tok b3 hs hn true mx63]
    simp only [Pr.bind]
    unfold rdNamed
    simp only [if_true, b3.ext]

/-! ### operators -/
theorem gd_un {S : ByteArray} {pat : Bool} {op : Int} (ho : op = 3 ∨ op = 4) {U : ByteArray} {P : List Nd} {rk : Int} {wg : Nat} {dg : Prop} (h : Gd S pat U P rk wg dg) (hr : 10 ≤ rk) (hd : op = 3 → ¬ dg) (dg' : Prop) : Gd S pat (sgT op ++ U) (jn1 op P) 10 wg dg' := by
  obtain ⟨c, hc, hs1, hcc⟩ : ∃ c : UInt8, sgT op = txt [c] ∧ sg1 c ∧ (op = 3 ∧ c = 45 ∨ op = 4 ∧ c = 126) := by
    rcases ho with rfl | rfl
    · exact ⟨45, rfl, by unfold sg1; simp, by simp⟩
    · exact ⟨126, rfl, by unfold sg1; simp, by simp⟩
  rw [hc]
  have ez : ∀ c : UInt8, (txt [c]).size = 1 := fun c => by rw [txt_size]; rfl
  have hsz : (txt [c] ++ U).size = U.size + 1 := by rw [apz, ez]; omega
  have h60 : c = 60 → ∀ q, ¬ (q + 1 < S.size ∧ S.get! (q + 1) = 60) := by rcases hcc with ⟨_, rfl⟩ | ⟨_, rfl⟩ <;> intro e <;> cases e
  have split : ∀ d, Bt S d (txt [c] ++ U) → (d < S.size ∧ S.get! d = c) ∧ Bt S (d + 1) U := fun d hb => by
    obtain ⟨h1, h2⟩ := hb.app
    rw [ez] at h2
    exact ⟨h1.byte, h2⟩
  have hk : ∀ d, S.get! d = c → (S.get! d).toNat < 128 ∧ kd (Utf8.decode S d).1 ≠ 3 ∧ digZ (Utf8.decode S d).1 = 0 := fun d hd => by
    rcases hcc with ⟨_, rfl⟩ | ⟨_, rfl⟩
    · rw [dlow S d (by rw [hd]; decide), hd]
      exact ⟨by decide, by decide +kernel, by decide +kernel⟩
    · rw [dlow S d (by rw [hd]; decide), hd]
      exact ⟨by decide, by decide +kernel, by decide +kernel⟩
  refine gd_high (by decide) (fun d hb hs => ?_) (fun d hb hs hc => ?_) fun d o t t1 hb hs ho' ht ht1 => ?_
  · obtain ⟨⟨b1, b2⟩, b3⟩ := split d hb
    exact ⟨b1, (hk d b2).2.1, ⟨_, one_tok b1 b2 hs1 (fun e => h60 e d) pat mx63⟩, fun _ => num_no b1 (hk d b2).2.2⟩
  · obtain ⟨⟨b1, b2⟩, b3⟩ := split d hb
    rw [hsz, show d + (U.size + 1) = d + 1 + U.size by omega] at hc hs
    exact CkA.low b1 (hk d b2).1 (h.ck (d + 1) b3 hs hc)
  · obtain ⟨⟨b1, b2⟩, b3⟩ := split d hb
    rw [one_tok b1 b2 hs1 (fun e => h60 e d) pat mx63] at ht
    cases ht
    rw [hsz, show d + (U.size + 1) = d + 1 + U.size by omega] at hs ht1 ⊢
    obtain ⟨f1, f2, ⟨t', f3⟩, f4⟩ := h.first (d + 1) b3 hs
    have hsk := skp_off f1 f2
    have hlv := rs_9un (h.lev (d + 1) o t' t1 b3 hs (by omega) f3 ht1 9 (by omega) (Nat.le_refl _) (by omega) (by have := psOp_le t1.what; omega))
    rcases hcc with ⟨rfl, rfl⟩ | ⟨rfl, rfl⟩
    · exact rs_un9 (rs_neg (t := ⟨45, d, d + 1, 0, 0⟩) rfl (f4 (hd rfl)) (by rw [hsk]; exact f3) hlv)
    · exact rs_un9 (rs_not (t := ⟨126, d, d + 1, 0, 0⟩) rfl (by rw [hsk]; exact f3) hlv)

/-- A blank, a sign, a blank: where what follows begins. -/
structure Btw (S : ByteArray) (pat : Bool) (q : Nat) (w : Int) (d2 : Nat) : Prop where
  stop : Stq S q
  tok : ∃ z, psFrom S pat mx63 (skp S q) = .ok ⟨w, skp S q, z, 0, 0⟩ ∧ ∀ U P rk wg dg, Gd S pat U P rk wg dg → Bt S d2 U → Stq S (d2 + U.size) → skp S z = d2
theorem btw_mk {S : ByteArray} {pat : Bool} {sg : ByteArray} {q : Nat} (h : Bt S q (txt [32] ++ sg ++ txt [32])) (hs0 : 0 < sg.size) (hk : kd (Utf8.decode S (q + 1)).1 ≠ 3) {w : Int} (ht : psFrom S pat mx63 (q + 1) = .ok ⟨w, q + 1, q + 1 + sg.size, 0, 0⟩) : Btw S pat q w (q + sg.size + 2) := by
  have ez : ∀ c : UInt8, (txt [c]).size = 1 := fun c => by rw [txt_size]; rfl
  obtain ⟨h1, h2⟩ := h.app
  obtain ⟨h3, h4⟩ := h1.app
  rw [ez] at h4
  rw [apz, ez, ← Nat.add_assoc] at h2
  obtain ⟨b1, b2⟩ := h3.byte
  obtain ⟨b3, b4⟩ := h2.byte
  have hsk : skp S q = q + 1 := by
    rw [skp_blank b1 b2]
    exact skp_off (by have := h4.1; omega) hk
  refine ⟨.inr ⟨b1, .inr b2⟩, q + 1 + sg.size, by rw [hsk]; exact ht, fun U P rk wg dg hg hb hst => ?_⟩
  rw [skp_blank b3 b4, show q + 1 + sg.size + 1 = q + sg.size + 2 by omega]
  obtain ⟨f1, f2, _, _⟩ := hg.first _ hb hst
  exact skp_off f1 f2

theorem gd_bin {S : ByteArray} {pat : Bool} {op : Int} (ho : 5 ≤ op ∧ op ≤ 16) {A B : ByteArray} {PA PB : List Nd} {ra rb : Int} {wa wb : Nat} {da db : Prop} (ha : Gd S pat A PA ra wa da) (hb : Gd S pat B PB rb wb db)
    (hra : rkT op ≤ ra) (hrb : rkT op < rb) (hcm : op = 15 ∨ op = 16 → rkT op < ra) {wg : Nat} (hw1 : wa ≤ wg) (hw2 : wb ≤ wg) : Gd S pat (A ++ txt [32] ++ sgT op ++ txt [32] ++ B) (jn2 op PA PB) (rkT op) wg da := by
  have ez : ∀ c : UInt8, (txt [c]).size = 1 := fun c => by rw [txt_size]; rfl
  have hT : A ++ txt [32] ++ sgT op ++ txt [32] ++ B = A ++ (txt [32] ++ sgT op ++ txt [32]) ++ B := by simp only [ByteArray.append_assoc]
  rw [hT]
  obtain ⟨k, hk19, hsg⟩ : ∃ k : Nat, k < 19 ∧ sgT op = txt (wrTab.getD k ([], [], 0)).1 := ⟨op.toNat, by omega, rfl⟩
  have hrk : 2 ≤ rkT op ∧ rkT op ≤ 9 ∧ 0 < (sgT op).size ∧ (op ≠ 15 ∧ op ≠ 16 → (rkT op - 1).toNat ≠ 4 ∧ (rkT op - 1).toNat ≠ 5) := by
    have hc : op = 5 ∨ op = 6 ∨ op = 7 ∨ op = 8 ∨ op = 9 ∨ op = 10 ∨ op = 11 ∨ op = 12 ∨ op = 13 ∨ op = 14 ∨ op = 15 ∨ op = 16 := by omega
    rcases hc with rfl | rfl | rfl | rfl | rfl | rfl | rfl | rfl | rfl | rfl | rfl | rfl <;> decide
  obtain ⟨hr2, hr9, hs0, hr45⟩ := hrk
  have hsz : (A ++ (txt [32] ++ sgT op ++ txt [32]) ++ B).size = A.size + (sgT op).size + 2 + B.size := by rw [apz, apz, apz, apz, ez]; omega
  obtain ⟨L, hL⟩ : ∃ L : Nat, rkT op = (L : Int) + 1 := ⟨(rkT op - 1).toNat, by omega⟩
  have hL2 : (rkT op - 1).toNat = L := by omega
  have split : ∀ d, Bt S d (A ++ (txt [32] ++ sgT op ++ txt [32]) ++ B) → Bt S d A ∧ Bt S (d + A.size + (sgT op).size + 2) B ∧ ∃ w, psOp w = (op, L) ∧ Btw S pat (d + A.size) w (d + A.size + (sgT op).size + 2) := fun d hb => by
    obtain ⟨h1, h2⟩ := hb.app
    obtain ⟨h3, h4⟩ := h1.app
    rw [apz, apz, apz, ez, show d + (A.size + (1 + (sgT op).size + 1)) = d + A.size + (sgT op).size + 2 by omega] at h2
    refine ⟨h3, h2, ?_⟩
    obtain ⟨g1, g2⟩ := h4.app
    obtain ⟨g3, g4⟩ := g1.app
    rw [ez] at g4
    rw [apz, ez, ← Nat.add_assoc] at g2
    obtain ⟨b3, b4⟩ := g2.byte
    obtain ⟨w, e1, e2⟩ := sgn_tok ho g4 b3 b4 pat mx63
    rw [hL2] at e2
    refine ⟨w, e2, btw_mk h4 hs0 ?_ e1⟩
    have hx := g4.2 0 hs0
    rw [Nat.add_zero, hsg] at hx
    have hl : 0 < (wrTab.getD k ([], [], 0)).1.length := by rw [hsg, txt_size] at hs0; exact hs0
    rw [txt_get _ 0 hl] at hx
    have := sgn_asc ⟨k, hk19⟩ _ (List.getElem_mem hl)
    rw [dlow S _ (by rw [hx]; exact this.1), hx]
    exact this.2
  have stB : ∀ d, Stq S (d + (A ++ (txt [32] ++ sgT op ++ txt [32]) ++ B).size) → Stq S (d + A.size + (sgT op).size + 2 + B.size) := fun d h => by
    rw [hsz, show d + (A.size + (sgT op).size + 2 + B.size) = d + A.size + (sgT op).size + 2 + B.size by omega] at h
    exact h
  have eE : ∀ d, d + (A ++ (txt [32] ++ sgT op ++ txt [32]) ++ B).size = d + A.size + (sgT op).size + 2 + B.size := fun d => by rw [hsz]; omega
  /- what is left of the level's loop, from the sign on -/
  have loop : ∀ d o t1, Bt S d (A ++ (txt [32] ++ sgT op ++ txt [32]) ++ B) → Stq S (d + (A ++ (txt [32] ++ sgT op ++ txt [32]) ++ B).size) → o + wg ≤ 100 → psFrom S pat mx63 (skp S (d + (A ++ (txt [32] ++ sgT op ++ txt [32]) ++ B).size)) = .ok t1 → (psOp t1.what).2 ≤ L →
      ∃ tq, psFrom S pat mx63 (skp S (d + A.size)) = .ok tq ∧ (psOp tq.what).2 = L ∧ ∀ r, (op = 15 ∨ op = 16 → r = (jn2 op PA PB, skp S (d + (A ++ (txt [32] ++ sgT op ++ txt [32]) ++ B).size))) → (¬ (op = 15 ∨ op = 16) → Rs S pat (.loop L (jn2 op PA PB)) t1 o r) → Rs S pat (.loop L PA) tq o r := by
    intro d o t1 hb hs hw ht1 hn
    obtain ⟨h1, h2, w, hw1, hbt⟩ := split d hb
    have hs' := stB d hs
    obtain ⟨z, hz1, hz2⟩ := hbt.tok
    have hzk := hz2 _ _ _ _ _ ‹Gd S pat B PB rb wb db› h2 hs'
    obtain ⟨f1, f2, ⟨t', f3⟩, _⟩ := Gd.first ‹Gd S pat B PB rb wb db› _ h2 hs'
    refine ⟨_, hz1, by rw [hw1], fun r hr1 hr2 => ?_⟩
    rw [eE] at ht1
    have hlv := Gd.lev ‹Gd S pat B PB rb wb db› _ o t' t1 h2 hs' (by omega) f3 ht1 (L + 1) (by omega) (by omega) (by omega) (by omega)
    by_cases hc : op = 15 ∨ op = 16
    · rw [hr1 hc, eE]
      exact rs_cmp (t := ⟨w, skp S (d + A.size), z, 0, 0⟩) hw1 hc (by rw [hzk]; exact f3) hlv
    · exact rs_op (t := ⟨w, skp S (d + A.size), z, 0, 0⟩) hw1 hc (by rw [hzk]; exact f3) hlv ht1 (hr2 hc)
  have main : ∀ d o t t1, Bt S d (A ++ (txt [32] ++ sgT op ++ txt [32]) ++ B) → Stq S (d + (A ++ (txt [32] ++ sgT op ++ txt [32]) ++ B).size) → o + wg ≤ 100 → psFrom S pat mx63 d = .ok t → psFrom S pat mx63 (skp S (d + (A ++ (txt [32] ++ sgT op ++ txt [32]) ++ B).size)) = .ok t1 → (psOp t1.what).2 ≤ L →
      ∀ r, (op = 15 ∨ op = 16 → r = (jn2 op PA PB, skp S (d + (A ++ (txt [32] ++ sgT op ++ txt [32]) ++ B).size))) → (¬ (op = 15 ∨ op = 16) → Rs S pat (.loop L (jn2 op PA PB)) t1 o r) → Rs S pat (.level L) t o r := by
    intro d o t t1 hb hs hw ht ht1 hn r hr1 hr2
    obtain ⟨tq, hq1, hq2, hq3⟩ := loop d o t1 hb hs hw ht1 hn
    obtain ⟨h1, h2, w, hw1, hbt⟩ := split d hb
    have hlp := hq3 r hr1 hr2
    by_cases hsame : (L : Int) + 1 < ra
    · have := ha.lev d o t tq h1 hbt.stop (by omega) ht hq1 (L + 1) (by omega) (by omega) (by omega) (by omega)
      exact rs_level (by omega) this hq1 hlp
    · have hnc : ¬ (op = 15 ∨ op = 16) := fun hc => hsame (by have := hcm hc; omega)
      have := hr45 ⟨fun e => hnc (.inl e), fun e => hnc (.inr e)⟩
      exact ha.chain d o t tq h1 hbt.stop (by omega) ht hq1 L (by omega) (by omega) (by omega) (by omega) (by omega) (by omega) r hlp
  have top : ∀ d o t t1, Bt S d (A ++ (txt [32] ++ sgT op ++ txt [32]) ++ B) → Stq S (d + (A ++ (txt [32] ++ sgT op ++ txt [32]) ++ B).size) → o + wg ≤ 100 → psFrom S pat mx63 d = .ok t → psFrom S pat mx63 (skp S (d + (A ++ (txt [32] ++ sgT op ++ txt [32]) ++ B).size)) = .ok t1 → (psOp t1.what).2 < L →
      Rs S pat (.level L) t o (jn2 op PA PB, skp S (d + (A ++ (txt [32] ++ sgT op ++ txt [32]) ++ B).size)) := by
    intro d o t t1 hb hs hw ht ht1 hn
    refine main d o t t1 hb hs hw ht ht1 (by omega) _ (fun _ => rfl) fun _ => ?_
    have := rs_end (S := S) (pat := pat) (lv := L) (la := jn2 op PA PB) (t := t1) (o := o) (by omega)
    rw [(from_at hb.in_ ht1).at_] at this
    exact this
  refine ⟨fun d hb hs => ?_, fun d hb hs hc => ?_, fun d o t t1 hb hs hw ht ht1 lv h1 h9 hlv hn => ?_, fun d o t t1 hb hs hw ht ht1 lv h1 h8 n4 n5 hlv hn r hr => ?_, fun d o t t1 hb hs hw ht ht1 h0 h63 => ?_⟩
  · obtain ⟨h1, h2, w, hw1, hbt⟩ := split d hb
    exact ha.first d h1 hbt.stop
  · obtain ⟨h1, h2, w, hw1, hbt⟩ := split d hb
    have hs' := stB d hs
    rw [eE] at hc
    have hcb := Gd.ck ‹Gd S pat B PB rb wb db› _ h2 hs' hc
    refine ha.ck d h1 hbt.stop ?_
    obtain ⟨g1, _⟩ := hb.app
    obtain ⟨_, g2⟩ := g1.app
    have e : txt [32] ++ sgT op ++ txt [32] = txt ([32] ++ (wrTab.getD k ([], [], 0)).1 ++ [32]) := by rw [txt_append, txt_append, hsg]
    rw [e] at g2
    refine CkA.asc _ _ (fun c hc => ?_) g2 ?_
    · simp only [List.mem_append, List.mem_cons, List.not_mem_nil, or_false] at hc
      rcases hc with (rfl | hc) | rfl
      · decide
      · exact (sgn_asc ⟨k, hk19⟩ c hc).1
      · decide
    · have : ([32] ++ (wrTab.getD k ([], [], 0)).1 ++ [32] : List UInt8).length = (sgT op).size + 2 := by rw [hsg, txt_size]; simp
      rw [this, ← Nat.add_assoc]; exact hcb
  · have := top d o t t1 hb hs hw ht ht1 (by omega)
    exact rs_climb this ht1 hb.in_ (by omega) (by omega) hn
  · by_cases he : lv = L
    · subst he
      by_cases hc : op = 15 ∨ op = 16
      · exfalso
        rcases hc with rfl | rfl
        · have : rkT 15 = 5 := by decide
          omega
        · have : rkT 16 = 6 := by decide
          omega
      · exact main d o t t1 hb hs hw ht ht1 hn r (fun x => absurd x hc) fun _ => hr
    · have := top d o t t1 hb hs hw ht ht1 (by omega)
      exact rs_level (by omega) (rs_climb this ht1 hb.in_ (by omega) (by omega) (by omega)) ht1 hr
  · have := top d o t t1 hb hs hw ht ht1 (by omega)
    exact rs_plain (rs_climb this ht1 hb.in_ (by omega) (by omega) (by omega)) ht1 h63
end Go.Proofs.YtjmccobblpcbhaaDoor
