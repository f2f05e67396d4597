/-
  WrD, SmA.
-/
import Derived.Test.YtjmccobblpcbhaaDoorChecked
import GoSem.PinnedTables
import GoSem.Claim
import GoSem.ClaimJoined
import GoSem.ClaimMapViews
import Derived.JoinedTies
import Derived.KernelRfl
import Derived.Shelf.Unicode.DecodeSlow
import Derived.Laws.RangeAny
import Derived.Shelf.Strings.Builder1
import Derived.Shelf.Small.Utf8
import Derived.Shelf.Small.Bits
import Derived.Shelf.Strings.BuilderF
import Derived.Shelf.Strings.BuilderK
import Derived.Shelf.Strings.BuilderRune
import Derived.Shelf.Utf8.AppendRune
import Derived.Shelf.Strconv.Itoa0
import Derived.Shelf.Strconv.Itoa1
import Derived.Shelf.LaysM
import Derived.Shelf.Strconv.Itoa2
import Derived.Shelf.Strconv.Itoa3
import Derived.Shelf.Strconv.Itoa4
import Derived.Shelf.Strings.Prefix
import Derived.Shelf.Unicode.DecodeAny
import Derived.Test.YtjmccobblpcbhaaDoorProg
import Derived.WalkKit
import Derived.Deep.DeepFit
import Derived.Lib.OthersKept
import Derived.Lib.RuneCountTail
import Derived.Lib.LaidU8
import Derived.MakeChecks
import Derived.ProofKit
import Derived.OpenShut
import Derived.Deep.DeepHandedRow
import Derived.Lib.MapLaws
import Derived.Sort.Walk0
import Derived.Laws.DeepStrings4
import Derived.Lib.ItoaNum
import Derived.Deep.AppendLies
import Derived.Deep.OwnRows
import Derived.Laws.AppendOwnNone
import Derived.Deep.QuietTactic
import Derived.BigQuiet
import Derived.Deep.RegionWith
import Derived.BigCall
import Derived.Lib.LaidTab
import Derived.Maps.OwnSet
import Derived.StringKeys
import Derived.Deep.Slices
import Derived.Lib.QuietBelow
import Derived.StillTail
import Derived.Laws.OwnMore
import Derived.Below
import Derived.Lib.Small
import Derived.Lib.Strings
import Derived.Deep.RegionHeld3
import Derived.Laws.ResultCell
import Derived.Deep.Heap
import Derived.Laws.Rows
import Derived.Deep.RegionLaw
import Derived.Test.YtjmccobblpcbhaaDoorRows
import Derived.Test.YtjmccobblpcbhaaDoorM01
import Derived.Test.YtjmccobblpcbhaaDoorM02
import Derived.Test.YtjmccobblpcbhaaDoorM03
import Derived.Test.YtjmccobblpcbhaaDoorM04
import Derived.Test.YtjmccobblpcbhaaDoorM05
import Derived.Test.YtjmccobblpcbhaaDoorM06
import Derived.Test.YtjmccobblpcbhaaDoorM07
import Derived.Test.YtjmccobblpcbhaaDoorM08
import Derived.Test.YtjmccobblpcbhaaDoorM09
import Derived.Test.YtjmccobblpcbhaaDoorM10
import Derived.Test.YtjmccobblpcbhaaDoorM11
import Derived.Test.YtjmccobblpcbhaaDoorM12
import Derived.Test.YtjmccobblpcbhaaDoorM13
import Derived.Test.YtjmccobblpcbhaaDoorM14
import Derived.Test.YtjmccobblpcbhaaDoorM15
import Derived.Test.YtjmccobblpcbhaaDoorM16
import Derived.Test.YtjmccobblpcbhaaDoorM17
import Derived.Test.YtjmccobblpcbhaaDoorM18
import Derived.Test.YtjmccobblpcbhaaDoorM19
import Derived.Test.YtjmccobblpcbhaaDoorM20
import Derived.Test.YtjmccobblpcbhaaDoorM21
import Derived.Test.YtjmccobblpcbhaaDoorM22
import Derived.Test.YtjmccobblpcbhaaDoorM23
import Derived.Test.YtjmccobblpcbhaaDoorM24
import Derived.Test.YtjmccobblpcbhaaDoorM25
import Derived.Test.YtjmccobblpcbhaaDoorM26
import Derived.Test.YtjmccobblpcbhaaDoorM27
import Derived.Test.YtjmccobblpcbhaaDoorM28
import Derived.Test.YtjmccobblpcbhaaDoorM29
import Derived.Test.YtjmccobblpcbhaaDoorM30
import Derived.Test.YtjmccobblpcbhaaDoorM31
import Derived.Test.YtjmccobblpcbhaaDoorM32
import Derived.Test.YtjmccobblpcbhaaDoorM33
import Derived.Test.YtjmccobblpcbhaaDoorM34
set_option linter.unusedSimpArgs false
set_option linter.unusedVariables false
namespace Go.Proofs.YtjmccobblpcbhaaDoor
open Go.Lib

theorem gd_ite {S : ByteArray} {pat : Bool} {A B C : ByteArray} {PA PB PC : List Nd} {ra rb rc : Int} {wa wb wc : Nat} {da db dc : Prop} (ha : Gd S pat A PA ra wa da) (hb : Gd S pat B PB rb wb db) (hc : Gd S pat C PC rc wc dc) (hra : 1 < ra) {wg : Nat} (hw1 : wa ≤ wg) (hw2 : wb ≤ wg) (hw3 : wc ≤ wg) :
    Gd S pat (A ++ txt [32] ++ sgT 17 ++ txt [32] ++ B ++ (txt [32, 58, 32] ++ C)) (jn3 17 PA PB PC) 1 wg da := by
  have ez : ∀ c : UInt8, (txt [c]).size = 1 := fun c => by rw [txt_size]; rfl
  have e17 : sgT 17 = txt [63] := rfl
  have e58 : txt [32, 58, 32] = txt [32] ++ txt [58] ++ txt [32] := by rw [← txt_append, ← txt_append]; rfl
  have hT : A ++ txt [32] ++ sgT 17 ++ txt [32] ++ B ++ (txt [32, 58, 32] ++ C) = A ++ (txt [32] ++ txt [63] ++ txt [32]) ++ B ++ (txt [32] ++ txt [58] ++ txt [32]) ++ C := by rw [e17, e58]; simp only [ByteArray.append_assoc]
  rw [hT]
  have hsz : (A ++ (txt [32] ++ txt [63] ++ txt [32]) ++ B ++ (txt [32] ++ txt [58] ++ txt [32]) ++ C).size = A.size + 3 + B.size + 3 + C.size := by simp only [apz, ez]
  generalize hU : A ++ (txt [32] ++ txt [63] ++ txt [32]) ++ B ++ (txt [32] ++ txt [58] ++ txt [32]) ++ C = U at *
  have sgn : ∀ (c : UInt8) (q : Nat), c = 63 ∨ c = 58 → Bt S q (txt [32] ++ txt [c] ++ txt [32]) → Btw S pat q (c.toNat : Int) (q + 3) := fun c q hcc h => by
    obtain ⟨g1, _⟩ := h.app
    obtain ⟨_, g2⟩ := g1.app
    rw [ez] at g2
    obtain ⟨b1, b2⟩ := g2.byte
    have hs1 : sg1 c := by rcases hcc with rfl | rfl <;> (unfold sg1; simp)
    have hk : kd (Utf8.decode S (q + 1)).1 ≠ 3 := by
      rcases hcc with rfl | rfl
      · rw [dlow S _ (by rw [b2]; decide), b2]; decide +kernel
      · rw [dlow S _ (by rw [b2]; decide), b2]; decide +kernel
    have := btw_mk (pat := pat) h (by rw [ez]; omega) hk (w := (c.toNat : Int)) (by rw [ez]; exact one_tok b1 b2 hs1 (fun e => by rcases hcc with rfl | rfl <;> cases e) pat mx63)
    rw [ez] at this
    exact this
  have split : ∀ d, Bt S d U → Bt S d A ∧ Btw S pat (d + A.size) 63 (d + A.size + 3) ∧ Bt S (d + A.size + 3) B ∧ Btw S pat (d + A.size + 3 + B.size) 58 (d + A.size + 3 + B.size + 3) ∧ Bt S (d + A.size + 3 + B.size + 3) C ∧ Bt S (d + A.size) (txt [32] ++ txt [63] ++ txt [32]) ∧ Bt S (d + A.size + 3 + B.size) (txt [32] ++ txt [58] ++ txt [32]) := fun d h => by
    rw [← hU] at h
    obtain ⟨h1, hC⟩ := h.app
    obtain ⟨h2, h58⟩ := h1.app
    obtain ⟨h3, hB⟩ := h2.app
    obtain ⟨hA, h63⟩ := h3.app
    simp only [apz, ez] at hC h58 hB
    have n1 : d + (A.size + (1 + 1 + 1)) = d + A.size + 3 := by omega
    have n2 : d + (A.size + (1 + 1 + 1) + B.size) = d + A.size + 3 + B.size := by omega
    have n3 : d + (A.size + (1 + 1 + 1) + B.size + (1 + 1 + 1)) = d + A.size + 3 + B.size + 3 := by omega
    rw [n1] at hB
    rw [n2] at h58
    rw [n3] at hC
    exact ⟨hA, sgn 63 _ (.inl rfl) h63, hB, sgn 58 _ (.inr rfl) h58, hC, h63, h58⟩
  have eE : ∀ d, d + U.size = d + A.size + 3 + B.size + 3 + C.size := fun d => by omega
  refine ⟨fun d h hs => ?_, fun d h hs hck => ?_, fun d o t t1 h hs hw ht ht1 lv h1 h9 hlv hn => by omega, fun d o t t1 h hs hw ht ht1 lv h1 h8 n4 n5 hlv hn r hr => by omega, fun d o t t1 h hs hw ht ht1 h0 h63 => ?_⟩
  · obtain ⟨hA, q1, _⟩ := split d h
    exact ha.first d hA q1.stop
  · obtain ⟨hA, q1, hB, q2, hC, b63, b58⟩ := split d h
    rw [eE] at hs hck
    have c1 := hc.ck _ hC hs hck
    have e2 : txt [32] ++ txt [58] ++ txt [32] = txt [32, 58, 32] := by rw [← txt_append, ← txt_append]; rfl
    have e1 : txt [32] ++ txt [63] ++ txt [32] = txt [32, 63, 32] := by rw [← txt_append, ← txt_append]; rfl
    rw [e2] at b58
    rw [e1] at b63
    have c2 := CkA.asc [32, 58, 32] _ (by decide) b58 c1
    have c3 := hb.ck _ hB q2.stop c2
    exact ha.ck d hA q1.stop (CkA.asc [32, 63, 32] _ (by decide) b63 c3)
  · obtain ⟨hA, q1, hB, q2, hC, _, _⟩ := split d h
    rw [eE] at hs ht1 ⊢
    obtain ⟨z1, t63, k63⟩ := q1.tok
    obtain ⟨z2, t58, k58⟩ := q2.tok
    obtain ⟨_, _, ⟨tb, fb⟩, _⟩ := hb.first _ hB q2.stop
    obtain ⟨_, _, ⟨tc, fc⟩, _⟩ := hc.first _ hC hs
    have s1 := k63 _ _ _ _ _ hb hB q2.stop
    have s2 := k58 _ _ _ _ _ hc hC hs
    have r1 := ha.lev d o t _ hA q1.stop (by omega) ht t63 1 (by omega) (by omega) (by omega) (show (psOp 63).2 < 1 by decide)
    have r2 := hb.cond _ o tb _ hB q2.stop (by omega) fb t58 (show (psOp 58).2 = 0 by decide) (show (58 : Int) ≠ 63 by decide)
    have r3 := hc.cond _ o tc t1 hC hs (by omega) fc ht1 h0 h63
    exact rs_ite r1 t63 rfl (by show psFrom S pat mx63 (skp S z1) = _; rw [s1]; exact fb) r2 t58 rfl rfl (by show psFrom S pat mx63 (skp S z2) = _; rw [s2]; exact fc) r3

/-! ### the nodes that there are -/
theorem nm_empty {s : ByteArray} (h : s.toList.isEmpty = true) : s = ⟨#[]⟩ := by
  rw [toList_data] at h
  apply ByteArray.ext
  apply Array.ext'
  simpa using h
theorem len2 : ∀ {l : List Int}, l.length = 2 → ∃ a b, l = [a, b]
  | [a, b], _ => ⟨a, b, rfl⟩
theorem len3 : ∀ {l : List Int}, l.length = 3 → ∃ a b c, l = [a, b, c]
  | [a, b, c], _ => ⟨a, b, c, rfl⟩
theorem nd_cases {x : Nd} (hf : formB (fillN x) = true) : (x.op = 1 ∧ x.kids = [] ∧ x.name = ⟨#[]⟩) ∨ ((x.op = 2 ∨ x.op = 18) ∧ x.kids = [] ∧ x.n = 0 ∧ nameB x.name = true) ∨
    (x.n = 0 ∧ x.name = ⟨#[]⟩ ∧ (((x.op = 3 ∨ x.op = 4) ∧ ∃ a, x.kids = [a]) ∨ ((5 ≤ x.op ∧ x.op ≤ 16) ∧ ∃ a b, x.kids = [a, b]) ∨ (x.op = 17 ∧ ∃ a b c, x.kids = [a, b, c]))) := by
  obtain ⟨op, n, nm, ks⟩ := x
  unfold formB fitB at hf
  rw [fillN_kids, fillN_n, fillN_name] at hf
  simp only [Bool.and_eq_true, Bool.or_eq_true, decide_eq_true_eq] at hf
  obtain ⟨⟨⟨h1, h2⟩, h3⟩, h4⟩ := hf
  simp only
  by_cases h18 : op = 18
  · subst h18
    have e : (fillN ⟨18, n, nm, ks⟩).op = 2 := by unfold fillN; simp
    rw [e] at h1 h2 h3 h4
    have ea : aritI 2 = 0 := by decide
    rw [ea] at h2
    rw [if_pos rfl] at h4
    have hk : ks = [] := List.length_eq_zero_iff.1 (by omega)
    exact .inr (.inl ⟨.inr rfl, hk, by rcases h3 with h | h; exact h; exact absurd h (by decide), h4⟩)
  · have e : (fillN ⟨op, n, nm, ks⟩).op = op := by unfold fillN; rw [if_neg h18]
    rw [e] at h1 h2 h3 h4
    unfold aritI at h1 h2
    by_cases c1 : op = 1
    · subst c1
      rw [if_pos (.inl rfl)] at h2
      rw [if_neg (by decide)] at h4
      exact .inl ⟨rfl, List.length_eq_zero_iff.1 (by omega), nm_empty h4⟩
    · by_cases c2 : op = 2
      · subst c2
        rw [if_pos (.inr rfl)] at h2
        rw [if_pos rfl] at h4
        exact .inr (.inl ⟨.inl rfl, List.length_eq_zero_iff.1 (by omega), by rcases h3 with h | h; exact h; exact absurd h (by decide), h4⟩)
      · rw [if_neg (by omega)] at h1 h2
        rw [if_neg c2] at h4
        refine .inr (.inr ⟨by rcases h3 with h | h; exact h; exact absurd h c1, nm_empty h4, ?_⟩)
        by_cases c3 : op = 3 ∨ op = 4
        · rw [if_pos c3] at h2
          exact .inl ⟨c3, List.length_eq_one_iff.1 (by omega)⟩
        · rw [if_neg c3] at h1 h2
          by_cases c4 : 5 ≤ op ∧ op ≤ 16
          · rw [if_pos c4] at h2
            exact .inr (.inl ⟨c4, len2 (by omega)⟩)
          · rw [if_neg c4] at h1 h2
            by_cases c5 : op = 17
            · rw [if_pos c5] at h2
              exact .inr (.inr ⟨c5, len3 (by omega)⟩)
            · rw [if_neg c5] at h1; omega

theorem rk_ge {x : Nd} (hf : formB (fillN x) = true) : 1 ≤ rkT x.op ∧ (x.op = 1 → rkT x.op = 11) := by
  have hc : x.op = 1 ∨ x.op = 2 ∨ x.op = 18 ∨ x.op = 3 ∨ x.op = 4 ∨ x.op = 17 ∨ (5 ≤ x.op ∧ x.op ≤ 16) := by
    rcases nd_cases hf with h | ⟨h | h, _⟩ | ⟨_, _, ⟨h | h, _⟩ | ⟨h, _⟩ | ⟨h, _⟩⟩
    · exact .inl h.1
    · exact .inr (.inl h)
    · exact .inr (.inr (.inl h))
    · exact .inr (.inr (.inr (.inl h)))
    · exact .inr (.inr (.inr (.inr (.inl h))))
    · exact .inr (.inr (.inr (.inr (.inr (.inr h)))))
    · exact .inr (.inr (.inr (.inr (.inr (.inl h)))))
  have hc2 : x.op = 1 ∨ x.op = 2 ∨ x.op = 18 ∨ x.op = 3 ∨ x.op = 4 ∨ x.op = 17 ∨ x.op = 5 ∨ x.op = 6 ∨ x.op = 7 ∨ x.op = 8 ∨ x.op = 9 ∨ x.op = 10 ∨ x.op = 11 ∨ x.op = 12 ∨ x.op = 13 ∨ x.op = 14 ∨ x.op = 15 ∨ x.op = 16 := by omega
  rcases hc2 with h | h | h | h | h | h | h | h | h | h | h | h | h | h | h | h | h | h <;> rw [h] <;> decide

/-- How each part of the list is read. -/
theorem gd_all {S : ByteArray} {pat : Bool} {l : List Nd} {fr : List Nat} (hbg : begL (l.map fillN) = some fr) (hn : ∀ x ∈ l, num64 x.n) (hp : pat = true ∨ ∀ x ∈ l, x.op ≠ 18) : ∀ i, i < l.length →
    Gd S pat (tx betT l i) (partL l (fr.getD i 0) i) (rkT (l.getD i nd0).op) (wgt fr i) ((l.getD i nd0).op = 1 ∧ 0 ≤ (l.getD i nd0).n ∨ rkT (l.getD i nd0).op < 10) := by
  have hok := begOk_of (begL_some hbg).2.2.1
  intro i
  induction i using Nat.strongRecOn with
  | ind i IH =>
    intro hi
    have hat := ndAt_of hbg hi
    have htx := tx_eq betT l i hi hat.kids
    have hpj := part_joinF hok i hi
    have hmem : l.getD i nd0 ∈ l := by simp [hi]
    have hn64 := hn _ hmem
    have hp18 : pat = true ∨ (l.getD i nd0).op ≠ 18 := hp.imp id fun h => h _ hmem
    have hform : ∀ k, k < l.length → formB (fillN (l.getD k nd0)) = true := fun k hk => (ndAt_of hbg hk).form
    have hup : ∀ k : Int, 0 ≤ k → k < (i : Int) → KidsUp (kidPart l fr k) ∧ kidPart l fr k ≠ [] := fun k h0 h1 => part_upF hok k.toNat (by omega)
    have ih : ∀ k : Int, 0 ≤ k → k < (i : Int) → Gd S pat (tx betT l k.toNat) (kidPart l fr k) (rkT (l.getD k.toNat nd0).op) (wgt fr k.toNat) ((l.getD k.toNat nd0).op = 1 ∧ 0 ≤ (l.getD k.toNat nd0).n ∨ rkT (l.getD k.toNat nd0).op < 10) := fun k h0 h1 => IH k.toNat (by omega) (by omega)
    obtain ⟨hf, hks, hsum, h3⟩ := hat
    generalize l.getD i nd0 = x at *
    rcases nd_cases hf with ⟨h1, h2, h4⟩ | ⟨h1, h2, h4, h5⟩ | ⟨hn0, hnm, hrest⟩
    · obtain ⟨op, n, nm, ks⟩ := x
      simp only at h1 h2 h4 hn64
      subst h1 h2 h4
      simp only at htx hpj hsum ⊢
      rw [htx, hpj, if_pos (show ([] : List Int).length = 0 from rfl)]
      have e1 : leafT ⟨1, n, ⟨#[]⟩, []⟩ = txt (itoa n) := by unfold leafT; simp
      have e2 : joinL 1 n ⟨#[]⟩ (([] : List Int).map (kidPart l fr)) = [⟨1, n, ⟨#[]⟩, []⟩] := rfl
      rw [e1, e2]
      refine (gd_lit hn64).more (by decide) (by simp at hsum; omega) fun h => .inl ⟨trivial, h⟩
    · obtain ⟨op, n, nm, ks⟩ := x
      simp only at h1 h2 h4 h5 hp18
      subst h2 h4
      simp only at htx hpj hsum ⊢
      rw [htx, hpj, if_pos (show ([] : List Int).length = 0 from rfl)]
      rcases h1 with rfl | rfl
      · have e1 : leafT ⟨2, 0, nm, []⟩ = nm := by unfold leafT; simp
        have e2 : joinL 2 0 nm (([] : List Int).map (kidPart l fr)) = [⟨2, 0, nm, []⟩] := rfl
        rw [e1, e2]
        exact (gd_var h5 _).more (by decide) (by simp at hsum; omega) id
      · have e1 : leafT ⟨18, 0, nm, []⟩ = txt [64] ++ nm := by unfold leafT; simp
        have e2 : joinL 18 0 nm (([] : List Int).map (kidPart l fr)) = [⟨18, 0, nm, []⟩] := rfl
        rcases hp18 with rfl | hx
        · rw [e1, e2]
          exact (gd_hole h5 _).more (by decide) (by simp at hsum; omega) id
        · exact absurd rfl hx
    · obtain ⟨op, n, nm, ks⟩ := x
      simp only at hn0 hnm hrest
      subst hn0 hnm
      simp only at htx hpj hsum hks ⊢
      rcases hrest with ⟨ho, a, rfl⟩ | ⟨ho, a, b, rfl⟩ | ⟨ho, a, b, c, rfl⟩
      · obtain ⟨a0, a1⟩ := hks a (by simp)
        simp only [List.map_cons, List.map_nil, List.sum_cons, List.sum_nil] at hsum
        rw [htx, hpj, if_neg (by simp)]
        simp only [List.map_cons, List.map_nil]
        rw [join1 op (hup a a0 a1).1 (hup a a0 a1).2]
        have eT : betT ⟨op, 0, ⟨#[]⟩, [a]⟩ (kdP betT l [a]) = sgT op ++ tkT op 0 (l.getD a.toNat nd0, tx betT l a.toNat) := rfl
        rw [eT]
        have hg := gd_tk (op := op) (place := 0) (y := l.getD a.toNat nd0) (ih a a0 a1)
        have hfa := hform a.toNat (by omega)
        have hrg := rk_ge hfa
        generalize l.getD a.toNat nd0 = y at *
        have hr10 : rkT op = 10 := by rcases ho with rfl | rfl <;> decide
        have hbk : brkB op 0 y = if op = 3 ∧ y.op = 1 then decide (0 ≤ y.n) else decide (rkT y.op < rkT op) := by
          unfold brkB
          rw [if_neg (by omega), if_neg (by omega)]
          split
          · rfl
          · rw [if_pos rfl]
        refine (gd_un ho hg ?_ (fun h3 hd => ?_) _).more (by rw [hr10]; exact Int.le_refl _) (by omega) id
        · by_cases hB : brkB op 0 y = true
          · rw [if_pos hB]; decide
          · rw [if_neg hB]
            rw [hbk] at hB
            split at hB
            · rename_i hc; rw [hrg.2 hc.2]; decide
            · simp at hB; omega
        · obtain ⟨hB, hdd⟩ := hd
          rw [hbk] at hB
          split at hB
          · rename_i hc
            have hlt : ¬ 0 ≤ y.n := by simpa using hB
            have := hrg.2 hc.2
            rcases hdd with h | h
            · exact hlt h.2
            · omega
          · rename_i hc
            have hge : ¬ rkT y.op < rkT op := by simpa using hB
            rcases hdd with h | h
            · exact hc ⟨h3, h.1⟩
            · omega
      · obtain ⟨a0, a1⟩ := hks a (by simp)
        obtain ⟨b0, b1⟩ := hks b (by simp)
        simp only [List.map_cons, List.map_nil, List.sum_cons, List.sum_nil] at hsum
        rw [htx, hpj, if_neg (by simp)]
        simp only [List.map_cons, List.map_nil]
        rw [join2 op (hup a a0 a1).1 (hup b b0 b1).1 (hup a a0 a1).2 (hup b b0 b1).2]
        have eT : betT ⟨op, 0, ⟨#[]⟩, [a, b]⟩ (kdP betT l [a, b]) = tkT op 0 (l.getD a.toNat nd0, tx betT l a.toNat) ++ txt [32] ++ sgT op ++ txt [32] ++ tkT op 1 (l.getD b.toNat nd0, tx betT l b.toNat) := rfl
        rw [eT]
        have hga := gd_tk (op := op) (place := 0) (y := l.getD a.toNat nd0) (ih a a0 a1)
        have hgb := gd_tk (op := op) (place := 1) (y := l.getD b.toNat nd0) (ih b b0 b1)
        generalize l.getD a.toNat nd0 = y at *
        generalize l.getD b.toNat nd0 = z at *
        have hr9 : 2 ≤ rkT op ∧ rkT op ≤ 9 := by
          have hc : op = 5 ∨ op = 6 ∨ op = 7 ∨ op = 8 ∨ op = 9 ∨ op = 10 ∨ op = 11 ∨ op = 12 ∨ op = 13 ∨ op = 14 ∨ op = 15 ∨ op = 16 := by omega
          rcases hc with rfl | rfl | rfl | rfl | rfl | rfl | rfl | rfl | rfl | rfl | rfl | rfl <;> decide
        have hbk : brkB op 0 y = if op = 15 ∨ op = 16 then decide (rkT y.op ≤ rkT op) else decide (rkT y.op < rkT op) := by
          unfold brkB
          rw [if_neg (by omega)]
          split
          · rfl
          · rw [if_neg (by omega), if_pos rfl]
        have hbk2 : brkB op 1 z = decide (rkT z.op ≤ rkT op) := by
          unfold brkB
          rw [if_neg (by omega)]
          split
          · rfl
          · rw [if_neg (by omega), if_neg (by decide)]
        refine (gd_bin ho hga hgb ?_ ?_ ?_ (wg := wgt fr i) (by omega) (by omega)).more (Int.le_refl _) (Nat.le_refl _) fun _ => .inr (by omega)
        · by_cases hB : brkB op 0 y = true
          · rw [if_pos hB]; omega
          · rw [if_neg hB]
            rw [hbk] at hB
            split at hB <;> (simp at hB; omega)
        · by_cases hB : brkB op 1 z = true
          · rw [if_pos hB]; omega
          · rw [if_neg hB]
            rw [hbk2] at hB
            simp at hB; omega
        · intro hc
          by_cases hB : brkB op 0 y = true
          · rw [if_pos hB]; omega
          · rw [if_neg hB]
            rw [hbk, if_pos hc] at hB
            simp at hB; omega
      · subst ho
        obtain ⟨a0, a1⟩ := hks a (by simp)
        obtain ⟨b0, b1⟩ := hks b (by simp)
        obtain ⟨c0, c1⟩ := hks c (by simp)
        simp only [List.map_cons, List.map_nil, List.sum_cons, List.sum_nil] at hsum
        rw [htx, hpj, if_neg (by simp)]
        simp only [List.map_cons, List.map_nil]
        rw [join3 17 (hup a a0 a1).1 (hup b b0 b1).1 (hup c c0 c1).1 (hup a a0 a1).2 (hup b b0 b1).2 (hup c c0 c1).2]
        have eT : betT ⟨17, 0, ⟨#[]⟩, [a, b, c]⟩ (kdP betT l [a, b, c]) = tkT 17 0 (l.getD a.toNat nd0, tx betT l a.toNat) ++ txt [32] ++ sgT 17 ++ txt [32] ++ tkT 17 1 (l.getD b.toNat nd0, tx betT l b.toNat) ++ (txt [32, 58, 32] ++ tkT 17 2 (l.getD c.toNat nd0, tx betT l c.toNat)) := rfl
        rw [eT]
        have hga := gd_tk (op := 17) (place := 0) (y := l.getD a.toNat nd0) (ih a a0 a1)
        have hgb := gd_tk (op := 17) (place := 1) (y := l.getD b.toNat nd0) (ih b b0 b1)
        have hgc := gd_tk (op := 17) (place := 2) (y := l.getD c.toNat nd0) (ih c c0 c1)
        have hfa := hform a.toNat (by omega)
        have hrg := rk_ge hfa
        have hr1 : rkT 17 = 1 := by decide
        generalize l.getD a.toNat nd0 = y at *
        refine (gd_ite hga hgb hgc ?_ (wg := wgt fr i) (by omega) (by omega) (by omega)).more (by rw [hr1]; exact Int.le_refl _) (Nat.le_refl _) fun _ => .inr (by rw [hr1]; decide)
        by_cases hB : brkB 17 0 y = true
        · rw [if_pos hB]; decide
        · rw [if_neg hB]
          unfold brkB at hB
          rw [if_pos rfl] at hB
          simp at hB
          omega
/-- Read again. -/
theorem read_back {l : List Nd} (hs : okSh l = true) (hn : ∀ x ∈ l, num64 x.n) (pat : Bool) (hp : pat = true ∨ ∀ x ∈ l, x.op ≠ 18) (most : Nat) (h4 : (shF betT l).size ≤ 4096) :
    psRead (shF betT l) pat most = if most < l.length then .bad (shF betT l).size 10 else .ok l := by
  unfold okSh at hs
  simp only [Bool.and_eq_true] at hs
  obtain ⟨⟨h6, _⟩, hsn⟩ := hs
  have h6 : ¬ 6 < (hlsL l).length := by simpa using h6
  obtain ⟨fr, hbg⟩ : ∃ fr, begL (l.map fillN) = some fr := by
    unfold sndB at hsn
    exact Option.isSome_iff_exists.1 hsn
  obtain ⟨hl0, hl64, hbr, htop⟩ := begL_some hbg
  simp only [List.length_map] at hl0 hl64 htop
  have hg := gd_all (S := shF betT l) hbg hn hp (l.length - 1) (by omega)
  have eS : shF betT l = tx betT l (l.length - 1) := shF_tx betT l
  rw [← eS, htop] at hg
  have ePl : partL l 0 (l.length - 1) = l := by
    unfold partL
    have e : l.length - 1 + 1 - 0 = l.length := by omega
    rw [e]
    simp [map_mvN_zero]
  rw [ePl] at hg
  have hnz := psRead_in (shF betT l) pat most
  generalize shF betT l = S at *
  have hbt := Bt.self S
  have hst : Stq S (0 + S.size) := .inl (by omega)
  obtain ⟨f1, f2, ⟨t, ft⟩, _⟩ := hg.first 0 hbt hst
  have hsk0 := skp_off f1 f2
  have hske : skp S (0 + S.size) = S.size := by rw [Nat.zero_add]; exact skp_all S
  have hend := end_at S pat mx63
  obtain ⟨f, hrun⟩ := hg.cond 0 0 t (psEnd S) hbt hst (by have := wgt_le fr (l.length - 1); omega) ft (by rw [hske]; exact hend) (op_end S).1 (op_end S).2
  rw [hske] at hrun
  have hck := hg.ck 0 hbt hst (by rw [Nat.zero_add]; exact CkA.end_ S)
  rw [read_eq] at hnz ⊢
  unfold rdWhole rdX at hnz ⊢
  rw [if_neg (by omega), if_pos (show (chk S).2 = 0 from hck S.size), hsk0, ft] at hnz ⊢
  simp only [Pr.bind] at hnz ⊢
  have hfu : rdRun S pat (psFuel S) .cond t 0 = .ok (l, S.size) := by
    cases hq : rdRun S pat (psFuel S) .cond t 0 with
    | out => rw [hq] at hnz; exact absurd rfl hnz
    | bad p er =>
      have := rd_moreB hq (Nat.le_max_left (psFuel S) f)
      rw [rd_more hrun (Nat.le_max_right (psFuel S) f)] at this
      cases this
    | ok r =>
      have := rd_more hq (Nat.le_max_left (psFuel S) f)
      rw [rd_more hrun (Nat.le_max_right (psFuel S) f)] at this
      cases this; rfl
  rw [hfu]
  simp only [Pr.bind]
  rw [hend]
  simp only [Pr.bind]
  rw [if_neg (Nat.lt_irrefl _)]
  split
  · rfl
  · rw [if_neg (fun x => h6 x.2)]
end Go.Proofs.YtjmccobblpcbhaaDoor

set_option linter.unusedSimpArgs false
set_option linter.unusedVariables false
namespace Go.Proofs.YtjmccobblpcbhaaDoor
open Go.Lib

/-- Places of two texts that answer to each other: the end, a blank, a token. -/
inductive Sm (s x : ByteArray) (pat : Bool) : Nat → Nat → Prop
  | fin : Sm s x pat s.size x.size
  | blk {p q q' : Nat} (hp : p < s.size) (kp : kd (Utf8.decode s p).1 = 3) (wp : (Utf8.decode s p).2 = 1) (hq : q < x.size) (lo : (x.get! q).toNat / 64 ≠ 2) (kq : kd (Utf8.decode x q).1 = 3) (sq : skp x q = skp x q') (hc : CkA x q' → CkA x q) (next : Sm s x pat (p + 1) q') : Sm s x pat p q
  | tk {p q a b : Nat} {w : Int} {n : Nat} {E : Nat → Int} (hp : p < s.size) (kp : kd (Utf8.decode s p).1 ≠ 3) (hq : q < x.size) (lo : (x.get! q).toNat / 64 ≠ 2) (kq : kd (Utf8.decode x q).1 ≠ 3) (nm : (numI s p).2.2 = 11 ↔ (numI x q).2.2 = 11)
      (t1 : ∀ m, mx63 ≤ m → psFrom s pat m p = .ok ⟨w, p, a, n, E m⟩) (t2 : ∀ m, mx63 ≤ m → psFrom x pat m q = .ok ⟨w, q, b, n, E m⟩) (ex : w = 97 → x.extract q b = s.extract p a) (hc : CkA x b → CkA x q) (next : Sm s x pat a b) : Sm s x pat p q

/-- Tokens of two texts that answer to each other. -/
structure TkM (s x : ByteArray) (pat : Bool) (t t' : Tk) : Prop where
  what : t'.what = t.what
  n : t'.n = t.n
  err : t'.err = t.err
  at_ : Sm s x pat t.from_ t'.from_
  to : Sm s x pat t.to t'.to
  ex : t.what = 97 → x.extract t'.from_ t'.to = s.extract t.from_ t.to

section
variable {s x : ByteArray} {pat : Bool}
theorem psSkip_more (s : ByteArray) : ∀ (f g p : Nat), s.size ≤ p + f → s.size ≤ p + g → psSkip s f p = psSkip s g p
  | 0, 0, p, _, _ => rfl
  | 0, g + 1, p, h, _ => by simp only [psSkip]; rw [if_neg (by omega)]
  | f + 1, 0, p, _, h => by simp only [psSkip]; rw [if_neg (by omega)]
  | f + 1, g + 1, p, h1, h2 => by
    simp only [psSkip]
    by_cases hp : p < s.size
    · rw [if_pos hp, if_pos hp]
      split
      · have := width_pos s p hp
        exact psSkip_more s f g _ (by omega) (by omega)
      · rfl
    · rw [if_neg hp, if_neg hp]
theorem skp_on {S : ByteArray} {p : Nat} (hp : p < S.size) (h : kd (Utf8.decode S p).1 = 3) : skp S p = skp S (p + (Utf8.decode S p).2) := by
  unfold skp
  obtain ⟨f, hf⟩ : ∃ f, S.size = f + 1 := ⟨S.size - 1, by omega⟩
  have hw := width_pos S p hp
  rw [hf]
  conv => lhs; rw [psSkip]
  rw [if_pos (by omega), if_pos h]
  exact psSkip_more S _ _ _ (by omega) (by omega)
theorem Sm.sk {p q : Nat} (h : Sm s x pat p q) : Sm s x pat (skp s p) (skp x q) := by
  induction h with
  | fin => rw [skp_all, skp_all]; exact .fin
  | blk hp kp wp hq lo kq sq hc next ih =>
    rw [skp_on hp kp, wp, sq]; exact ih
  | tk hp kp hq lo kq nm t1 t2 ex hc next ih =>
    rw [skp_off hp kp, skp_off hq kq]
    exact .tk hp kp hq lo kq nm t1 t2 ex hc next
theorem Sm.tok {p q m : Nat} (h : Sm s x pat p q) (hm : mx63 ≤ m) {t : Tk} (ht : psFrom s pat m p = .ok t) : ∃ t', psFrom x pat m q = .ok t' ∧ TkM s x pat t t' := by
  cases h with
  | fin =>
    unfold psFrom at ht ⊢
    rw [if_neg (Nat.lt_irrefl _)] at ht ⊢
    cases ht
    exact ⟨_, rfl, rfl, rfl, rfl, .fin, .fin, fun e => absurd e (show ¬ (0 : Int) = 97 by decide)⟩
  | blk hp kp wp hq lo kq sq hc next =>
    unfold psFrom psAt at ht
    rw [if_pos hp, if_neg (by rw [kp]; decide), if_neg (by rw [kp]; decide), if_neg (fun c => by rw [kp] at c; exact absurd c.1 (by decide))] at ht
    cases ht
  | tk hp kp hq lo kq nm t1 t2 ex hc next =>
    rw [t1 m hm] at ht
    cases ht
    exact ⟨_, t2 m hm, rfl, rfl, rfl, .tk hp kp hq lo kq nm t1 t2 ex hc next, next, ex⟩
theorem num_end (S : ByteArray) : (numI S (S.size : Int)).2.2 = 11 := by
  unfold numI numP
  rw [if_neg (by omega), Int.toNat_natCast]
  have : digZ (rn S S.size) = 0 := by
    unfold rn
    rw [if_neg (Nat.lt_irrefl _)]
    decide +kernel
  rw [this, if_pos rfl]
theorem kd3_dig {r : Int} (h : kd r = 3) : digZ r = 0 := by
  by_cases hz : digZ r = 0
  · exact hz
  · have := (kd_two _).2 hz
    rw [h] at this; cases this
theorem Sm.num {p q : Nat} (h : Sm s x pat p q) : (numI s (p : Int)).2.2 = 11 ↔ (numI x (q : Int)).2.2 = 11 := by
  cases h with
  | fin => rw [num_end, num_end]
  | blk hp kp wp hq lo kq sq hc next => rw [num_no hp (kd3_dig kp), num_no hq (kd3_dig kq)]
  | tk hp kp hq lo kq nm t1 t2 ex hc next => exact nm
theorem Sm.ck {p q : Nat} (h : Sm s x pat p q) : CkA x q := by
  induction h with
  | fin => exact CkA.end_ x
  | blk hp kp wp hq lo kq sq hc next ih => exact hc ih
  | tk hp kp hq lo kq nm t1 t2 ex hc next ih => exact hc ih
theorem TkM.nx {t t' t1 : Tk} {m : Nat} (h : TkM s x pat t t') (hm : mx63 ≤ m) (hf : psFrom s pat m (skp s t.to) = .ok t1) : ∃ t1', psFrom x pat m (skp x t'.to) = .ok t1' ∧ TkM s x pat t1 t1' := h.to.sk.tok hm hf
theorem TkM.lit {t t' : Tk} (h : TkM s x pat t t') {v : Int} {r : List Nd × Nat} (hk : rdLit s v t = .ok r) : ∃ q, rdLit x v t' = .ok (r.1, q) ∧ Sm s x pat r.2 q := by
  unfold rdLit at hk ⊢
  rw [h.what, h.err]
  split at hk
  · rename_i h1
    rw [if_pos h1]
    split at hk
    · rename_i h2
      rw [if_pos h2]
      cases hk
      exact ⟨_, rfl, h.to.sk⟩
    · cases hk
  · cases hk
theorem TkM.named {t t' : Tk} (h : TkM s x pat t t') {v : Int} {r : List Nd × Nat} (hk : rdNamed s v t = .ok r) : ∃ q, rdNamed x v t' = .ok (r.1, q) ∧ Sm s x pat r.2 q := by
  unfold rdNamed at hk ⊢
  rw [h.what, h.err]
  split at hk
  · rename_i h1
    rw [if_pos h1]
    split at hk
    · rename_i h2
      rw [if_pos h2, h.ex h1]
      cases hk
      exact ⟨_, rfl, h.to.sk⟩
    · cases hk
  · cases hk
end

end Go.Proofs.YtjmccobblpcbhaaDoor
