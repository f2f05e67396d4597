/-
  WrD, WrE, RsW, RlW, RsdW, PwW, WfA, WfW, WfX, WfF, WholeformsK.
-/
import Derived.Test.YtljigfiokekpoaaGreatDoorChecked
import GoSem.PinnedTables
import GoSem.Claim
import GoSem.ClaimJoined
import GoSem.ClaimMapViews
import Derived.JoinedTies
import Derived.KernelRfl
import GoSem.ClaimSeven
import Derived.LaidByTextLater
import Derived.SevenTiedAt
import Derived.LaidSub
import Derived.LaidOnce
import Derived.Shelf.Unicode.DecodeSlow
import Derived.Laws.RangeAny
import Derived.Shelf.Strings.Builder1
import Derived.Shelf.Small.Utf8
import Derived.Shelf.Strings.BuilderF
import Derived.Shelf.Strings.BuilderK
import Derived.Shelf.Strings.BuilderRune
import Derived.Shelf.Utf8.AppendRune
import Derived.Shelf.Strconv.Itoa0
import Derived.Shelf.Strconv.Itoa1
import Derived.Shelf.LaysM
import Derived.Shelf.Strconv.Itoa2
import Derived.Shelf.Strconv.Itoa3
import Derived.Shelf.Strconv.Itoa4
import Derived.Shelf.Strings.Prefix
import Derived.Shelf.Unicode.DecodeAny
import Derived.Test.YtljigfiokekpoaaGreatDoorProg
import Derived.WalkKit
import Derived.Deep.DeepFit
import Derived.Lib.OthersKept
import Derived.Lib.RuneCountTail
import Derived.Lib.LaidU8
import Derived.MakeChecks
import Derived.ProofKit
import Derived.OpenShut
import Derived.Deep.DeepHandedRow
import Derived.RowKit
import Derived.Laws.Entries
import Derived.Below
import Derived.Deep.AppendLies
import Derived.Deep.OwnRows
import Derived.Laws.AppendOwnNone
import Derived.Deep.QuietTactic
import Derived.BigQuiet
import Derived.Deep.RegionWith
import Derived.Laws.DeepStrings4
import Derived.Deep.Slices
import Derived.SizedLaws
import Derived.Lib.LaidTab
import Derived.Lib.MapLaws
import Derived.Sort.Walk0
import Derived.Lib.ItoaNum
import Derived.BigCall
import Derived.Maps.OwnSet
import Derived.StringKeys
import Derived.Lib.QuietBelow
import Derived.StillTail
import Derived.Laws.OwnMore
import Derived.Defers
import Derived.Deep.RegionLaw
import Derived.Laws.ResultCell
import Derived.RangeFuncNested
import Derived.RangeFuncBound
import Derived.RangeFuncCalls
import Derived.RangeFuncLeaves
import Derived.RangeFuncBox
import Derived.Shelf.Abstract
import Derived.Shelf.RegionOpen
import Derived.OwnWalkIn
import Derived.TacticsInMore
import Derived.LoopNIn
import Derived.LoopIn
import Derived.Lib.Strings
import Derived.RangeFuncOwn
import Derived.Lib.Small
import Derived.Deep.RegionHeld3
import Derived.Deep.Heap
import Derived.Laws.Rows
import Derived.Laws.IdiomStrings
import Derived.WideKeyArgs
import Derived.Test.YtljigfiokekpoaaGreatDoorRows
import Derived.Test.YtljigfiokekpoaaGreatDoorCards
import Derived.Test.YtljigfiokekpoaaGreatDoorTie
import Derived.Test.YtljigfiokekpoaaGreatDoorZ01
import Derived.Test.YtljigfiokekpoaaGreatDoorZ02
import Derived.Test.YtljigfiokekpoaaGreatDoorZ03
import Derived.Test.YtljigfiokekpoaaGreatDoorZ04
import Derived.Test.YtljigfiokekpoaaGreatDoorZ05
import Derived.Test.YtljigfiokekpoaaGreatDoorZ06
import Derived.Test.YtljigfiokekpoaaGreatDoorZ07
import Derived.Test.YtljigfiokekpoaaGreatDoorZ08
import Derived.Test.YtljigfiokekpoaaGreatDoorZ09
import Derived.Test.YtljigfiokekpoaaGreatDoorZ10
import Derived.Test.YtljigfiokekpoaaGreatDoorZ11
import Derived.Test.YtljigfiokekpoaaGreatDoorZ12
import Derived.Test.YtljigfiokekpoaaGreatDoorZ13
import Derived.Test.YtljigfiokekpoaaGreatDoorZ14
import Derived.Test.YtljigfiokekpoaaGreatDoorZ15
import Derived.Test.YtljigfiokekpoaaGreatDoorZ16
import Derived.Test.YtljigfiokekpoaaGreatDoorZ17
import Derived.Test.YtljigfiokekpoaaGreatDoorZ18
import Derived.Test.YtljigfiokekpoaaGreatDoorZ19
import Derived.Test.YtljigfiokekpoaaGreatDoorZ20
import Derived.Test.YtljigfiokekpoaaGreatDoorZ21
import Derived.Test.YtljigfiokekpoaaGreatDoorZ22
import Derived.Test.YtljigfiokekpoaaGreatDoorZ23
import Derived.Test.YtljigfiokekpoaaGreatDoorZ24
import Derived.Test.YtljigfiokekpoaaGreatDoorZ25
import Derived.Test.YtljigfiokekpoaaGreatDoorZ26
import Derived.Test.YtljigfiokekpoaaGreatDoorZ27
import Derived.Test.YtljigfiokekpoaaGreatDoorZ28
import Derived.Test.YtljigfiokekpoaaGreatDoorZ29
import Derived.Test.YtljigfiokekpoaaGreatDoorZ30
import Derived.Test.YtljigfiokekpoaaGreatDoorZ31
import Derived.Test.YtljigfiokekpoaaGreatDoorZ32
import Derived.Test.YtljigfiokekpoaaGreatDoorZ33
import Derived.Test.YtljigfiokekpoaaGreatDoorZ34
import Derived.Test.YtljigfiokekpoaaGreatDoorZ35
import Derived.Test.YtljigfiokekpoaaGreatDoorZ36
import Derived.Test.YtljigfiokekpoaaGreatDoorZ37
import Derived.Test.YtljigfiokekpoaaGreatDoorZ38
import Derived.Test.YtljigfiokekpoaaGreatDoorZ39
import Derived.Test.YtljigfiokekpoaaGreatDoorZ40
import Derived.Test.YtljigfiokekpoaaGreatDoorZ41
import Derived.Test.YtljigfiokekpoaaGreatDoorZ42
import Derived.Test.YtljigfiokekpoaaGreatDoorZ43
import Derived.Test.YtljigfiokekpoaaGreatDoorZ44
import Derived.Test.YtljigfiokekpoaaGreatDoorZ45
set_option linter.unusedSimpArgs false
set_option linter.unusedVariables false
namespace Go.Proofs.YtljigfiokekpoaaGreatDoor
open Go.Lib

theorem gd_ite {S : ByteArray} {pat : Bool} {A B C : ByteArray} {PA PB PC : List Nd} {ra rb rc : Int} {wa wb wc : Nat} {da db dc : Prop} (ha : Gd S pat A PA ra wa da) (hb : Gd S pat B PB rb wb db) (hc : Gd S pat C PC rc wc dc) (hra : 1 < ra) {wg : Nat} (hw1 : wa ≤ wg) (hw2 : wb ≤ wg) (hw3 : wc ≤ wg) :
    Gd S pat (A ++ txt [32] ++ sgT 17 ++ txt [32] ++ B ++ (txt [32, 58, 32] ++ C)) (jn3 17 PA PB PC) 1 wg da := by
  have ez : ∀ c : UInt8, (txt [c]).size = 1 := fun c => by rw [txt_size]; rfl
  have e17 : sgT 17 = txt [63] := rfl
  have e58 : txt [32, 58, 32] = txt [32] ++ txt [58] ++ txt [32] := by rw [← txt_append, ← txt_append]; rfl
  have hT : A ++ txt [32] ++ sgT 17 ++ txt [32] ++ B ++ (txt [32, 58, 32] ++ C) = A ++ (txt [32] ++ txt [63] ++ txt [32]) ++ B ++ (txt [32] ++ txt [58] ++ txt [32]) ++ C := by rw [e17, e58]; simp only [ByteArray.append_assoc]
  rw [hT]
  have hsz : (A ++ (txt [32] ++ txt [63] ++ txt [32]) ++ B ++ (txt [32] ++ txt [58] ++ txt [32]) ++ C).size = A.size + 3 + B.size + 3 + C.size := by simp only [apz, ez]
  generalize hU : A ++ (txt [32] ++ txt [63] ++ txt [32]) ++ B ++ (txt [32] ++ txt [58] ++ txt [32]) ++ C = U at *
  have sgn : ∀ (c : UInt8) (q : Nat), c = 63 ∨ c = 58 → Bt S q (txt [32] ++ txt [c] ++ txt [32]) → Btw S pat q (c.toNat : Int) (q + 3) := fun c q hcc h => by
    obtain ⟨g1, _⟩ := h.app
    obtain ⟨_, g2⟩ := g1.app
    rw [ez] at g2
    obtain ⟨b1, b2⟩ := g2.byte
    have hs1 : sg1 c := by rcases hcc with rfl | rfl <;> (unfold sg1; simp)
    have hk : kd (Utf8.decode S (q + 1)).1 ≠ 3 := by
      rcases hcc with rfl | rfl
      · rw [dlow S _ (by rw [b2]; decide), b2]; decide +kernel
      · rw [dlow S _ (by rw [b2]; decide), b2]; decide +kernel
    have := btw_mk (pat := pat) h (by rw [ez]; omega) hk (w := (c.toNat : Int)) (by rw [ez]; exact one_tok b1 b2 hs1 (fun e => by rcases hcc with rfl | rfl <;> cases e) pat mx63)
    rw [ez] at this
    exact this
  have split : ∀ d, Bt S d U → Bt S d A ∧ Btw S pat (d + A.size) 63 (d + A.size + 3) ∧ Bt S (d + A.size + 3) B ∧ Btw S pat (d + A.size + 3 + B.size) 58 (d + A.size + 3 + B.size + 3) ∧ Bt S (d + A.size + 3 + B.size + 3) C ∧ Bt S (d + A.size) (txt [32] ++ txt [63] ++ txt [32]) ∧ Bt S (d + A.size + 3 + B.size) (txt [32] ++ txt [58] ++ txt [32]) := fun d h => by
    rw [← hU] at h
    obtain ⟨h1, hC⟩ := h.app
    obtain ⟨h2, h58⟩ := h1.app
    obtain ⟨h3, hB⟩ := h2.app
    obtain ⟨hA, h63⟩ := h3.app
    simp only [apz, ez] at hC h58 hB
    have n1 : d + (A.size + (1 + 1 + 1)) = d + A.size + 3 := by omega
    have n2 : d + (A.size + (1 + 1 + 1) + B.size) = d + A.size + 3 + B.size := by omega
    have n3 : d + (A.size + (1 + 1 + 1) + B.size + (1 + 1 + 1)) = d + A.size + 3 + B.size + 3 := by omega
    rw [n1] at hB
    rw [n2] at h58
    rw [n3] at hC
    exact ⟨hA, sgn 63 _ (.inl rfl) h63, hB, sgn 58 _ (.inr rfl) h58, hC, h63, h58⟩
  have eE : ∀ d, d + U.size = d + A.size + 3 + B.size + 3 + C.size := fun d => by omega
  refine ⟨fun d h hs => ?_, fun d h hs hck => ?_, fun d o t t1 h hs hw ht ht1 lv h1 h9 hlv hn => by omega, fun d o t t1 h hs hw ht ht1 lv h1 h8 n4 n5 hlv hn r hr => by omega, fun d o t t1 h hs hw ht ht1 h0 h63 => ?_⟩
  · obtain ⟨hA, q1, _⟩ := split d h
    exact ha.first d hA q1.stop
  · obtain ⟨hA, q1, hB, q2, hC, b63, b58⟩ := split d h
    rw [eE] at hs hck
    have c1 := hc.ck _ hC hs hck
    have e2 : txt [32] ++ txt [58] ++ txt [32] = txt [32, 58, 32] := by rw [← txt_append, ← txt_append]; rfl
    have e1 : txt [32] ++ txt [63] ++ txt [32] = txt [32, 63, 32] := by rw [← txt_append, ← txt_append]; rfl
    rw [e2] at b58
    rw [e1] at b63
    have c2 := CkA.asc [32, 58, 32] _ (by decide) b58 c1
    have c3 := hb.ck _ hB q2.stop c2
    exact ha.ck d hA q1.stop (CkA.asc [32, 63, 32] _ (by decide) b63 c3)
  · obtain ⟨hA, q1, hB, q2, hC, _, _⟩ := split d h
    rw [eE] at hs ht1 ⊢
    obtain ⟨z1, t63, k63⟩ := q1.tok
    obtain ⟨z2, t58, k58⟩ := q2.tok
    obtain ⟨_, _, ⟨tb, fb⟩, _⟩ := hb.first _ hB q2.stop
    obtain ⟨_, _, ⟨tc, fc⟩, _⟩ := hc.first _ hC hs
    have s1 := k63 _ _ _ _ _ hb hB q2.stop
    have s2 := k58 _ _ _ _ _ hc hC hs
    have r1 := ha.lev d o t _ hA q1.stop (by omega) ht t63 1 (by omega) (by omega) (by omega) (show (psOp 63).2 < 1 by decide)
    have r2 := hb.cond _ o tb _ hB q2.stop (by omega) fb t58 (show (psOp 58).2 = 0 by decide) (show (58 : Int) ≠ 63 by decide)
    have r3 := hc.cond _ o tc t1 hC hs (by omega) fc ht1 h0 h63
    exact rs_ite r1 t63 rfl (by show psFrom S pat mx63 (skp S z1) = _; rw [s1]; exact fb) r2 t58 rfl rfl (by show psFrom S pat mx63 (skp S z2) = _; rw [s2]; exact fc) r3

/-! ### the nodes that there are -/
theorem nm_empty {s : ByteArray} (h : s.toList.isEmpty = true) : s = ⟨#[]⟩ := by
  rw [toList_data] at h
  apply ByteArray.ext
  apply Array.ext'
  simpa using h
theorem len2 : ∀ {l : List Int}, l.length = 2 → ∃ a b, l = [a, b]
  | [a, b], _ => ⟨a, b, rfl⟩
theorem len3 : ∀ {l : List Int}, l.length = 3 → ∃ a b c, l = [a, b, c]
  | [a, b, c], _ => ⟨a, b, c, rfl⟩
theorem nd_cases {x : Nd} (hf : formB (fillN x) = true) : (x.op = 1 ∧ x.kids = [] ∧ x.name = ⟨#[]⟩) ∨ ((x.op = 2 ∨ x.op = 18) ∧ x.kids = [] ∧ x.n = 0 ∧ nameB x.name = true) ∨
    (x.n = 0 ∧ x.name = ⟨#[]⟩ ∧ (((x.op = 3 ∨ x.op = 4) ∧ ∃ a, x.kids = [a]) ∨ ((5 ≤ x.op ∧ x.op ≤ 16) ∧ ∃ a b, x.kids = [a, b]) ∨ (x.op = 17 ∧ ∃ a b c, x.kids = [a, b, c]))) := by
  obtain ⟨op, n, nm, ks⟩ := x
  unfold formB fitB at hf
  rw [fillN_kids, fillN_n, fillN_name] at hf
  simp only [Bool.and_eq_true, Bool.or_eq_true, decide_eq_true_eq] at hf
  obtain ⟨⟨⟨h1, h2⟩, h3⟩, h4⟩ := hf
  simp only
  by_cases h18 : op = 18
  · subst h18
    have e : (fillN ⟨18, n, nm, ks⟩).op = 2 := by unfold fillN; simp
    rw [e] at h1 h2 h3 h4
    have ea : aritI 2 = 0 := by decide
    rw [ea] at h2
    rw [if_pos rfl] at h4
    have hk : ks = [] := List.length_eq_zero_iff.1 (by omega)
    exact .inr (.inl ⟨.inr rfl, hk, by rcases h3 with h | h; exact h; exact absurd h (by decide), h4⟩)
  · have e : (fillN ⟨op, n, nm, ks⟩).op = op := by unfold fillN; rw [if_neg h18]
    rw [e] at h1 h2 h3 h4
    unfold aritI at h1 h2
    by_cases c1 : op = 1
    · subst c1
      rw [if_pos (.inl rfl)] at h2
      rw [if_neg (by decide)] at h4
      exact .inl ⟨rfl, List.length_eq_zero_iff.1 (by omega), nm_empty h4⟩
    · by_cases c2 : op = 2
      · subst c2
        rw [if_pos (.inr rfl)] at h2
        rw [if_pos rfl] at h4
        exact .inr (.inl ⟨.inl rfl, List.length_eq_zero_iff.1 (by omega), by rcases h3 with h | h; exact h; exact absurd h (by decide), h4⟩)
      · rw [if_neg (by omega)] at h1 h2
        rw [if_neg c2] at h4
        refine .inr (.inr ⟨by rcases h3 with h | h; exact h; exact absurd h c1, nm_empty h4, ?_⟩)
        by_cases c3 : op = 3 ∨ op = 4
        · rw [if_pos c3] at h2
          exact .inl ⟨c3, List.length_eq_one_iff.1 (by omega)⟩
        · rw [if_neg c3] at h1 h2
          by_cases c4 : 5 ≤ op ∧ op ≤ 16
          · rw [if_pos c4] at h2
            exact .inr (.inl ⟨c4, len2 (by omega)⟩)
          · rw [if_neg c4] at h1 h2
            by_cases c5 : op = 17
            · rw [if_pos c5] at h2
              exact .inr (.inr ⟨c5, len3 (by omega)⟩)
            · rw [if_neg c5] at h1; omega

theorem rk_ge {x : Nd} (hf : formB (fillN x) = true) : 1 ≤ rkT x.op ∧ (x.op = 1 → rkT x.op = 11) := by
  have hc : x.op = 1 ∨ x.op = 2 ∨ x.op = 18 ∨ x.op = 3 ∨ x.op = 4 ∨ x.op = 17 ∨ (5 ≤ x.op ∧ x.op ≤ 16) := by
    rcases nd_cases hf with h | ⟨h | h, _⟩ | ⟨_, _, ⟨h | h, _⟩ | ⟨h, _⟩ | ⟨h, _⟩⟩
    · exact .inl h.1
    · exact .inr (.inl h)
    · exact .inr (.inr (.inl h))
    · exact .inr (.inr (.inr (.inl h)))
    · exact .inr (.inr (.inr (.inr (.inl h))))
    · exact .inr (.inr (.inr (.inr (.inr (.inr h)))))
    · exact .inr (.inr (.inr (.inr (.inr (.inl h)))))
  have hc2 : x.op = 1 ∨ x.op = 2 ∨ x.op = 18 ∨ x.op = 3 ∨ x.op = 4 ∨ x.op = 17 ∨ x.op = 5 ∨ x.op = 6 ∨ x.op = 7 ∨ x.op = 8 ∨ x.op = 9 ∨ x.op = 10 ∨ x.op = 11 ∨ x.op = 12 ∨ x.op = 13 ∨ x.op = 14 ∨ x.op = 15 ∨ x.op = 16 := by omega
  rcases hc2 with h | h | h | h | h | h | h | h | h | h | h | h | h | h | h | h | h | h <;> rw [h] <;> decide

/-- How each part of the list is read. -/
theorem gd_all {S : ByteArray} {pat : Bool} {l : List Nd} {fr : List Nat} (hbg : begL (l.map fillN) = some fr) (hn : ∀ x ∈ l, num64 x.n) (hp : pat = true ∨ ∀ x ∈ l, x.op ≠ 18) : ∀ i, i < l.length →
    Gd S pat (tx betT l i) (partL l (fr.getD i 0) i) (rkT (l.getD i nd0).op) (wgt fr i) ((l.getD i nd0).op = 1 ∧ 0 ≤ (l.getD i nd0).n ∨ rkT (l.getD i nd0).op < 10) := by
  have hok := begOk_of (begL_some hbg).2.2.1
  intro i
  induction i using Nat.strongRecOn with
  | ind i IH =>
    intro hi
    have hat := ndAt_of hbg hi
    have htx := tx_eq betT l i hi hat.kids
    have hpj := part_joinF hok i hi
    have hmem : l.getD i nd0 ∈ l := by simp [hi]
    have hn64 := hn _ hmem
    have hp18 : pat = true ∨ (l.getD i nd0).op ≠ 18 := hp.imp id fun h => h _ hmem
    have hform : ∀ k, k < l.length → formB (fillN (l.getD k nd0)) = true := fun k hk => (ndAt_of hbg hk).form
    have hup : ∀ k : Int, 0 ≤ k → k < (i : Int) → KidsUp (kidPart l fr k) ∧ kidPart l fr k ≠ [] := fun k h0 h1 => part_upF hok k.toNat (by omega)
    have ih : ∀ k : Int, 0 ≤ k → k < (i : Int) → Gd S pat (tx betT l k.toNat) (kidPart l fr k) (rkT (l.getD k.toNat nd0).op) (wgt fr k.toNat) ((l.getD k.toNat nd0).op = 1 ∧ 0 ≤ (l.getD k.toNat nd0).n ∨ rkT (l.getD k.toNat nd0).op < 10) := fun k h0 h1 => IH k.toNat (by omega) (by omega)
    obtain ⟨hf, hks, hsum, h3⟩ := hat
    generalize l.getD i nd0 = x at *
    rcases nd_cases hf with ⟨h1, h2, h4⟩ | ⟨h1, h2, h4, h5⟩ | ⟨hn0, hnm, hrest⟩
    · obtain ⟨op, n, nm, ks⟩ := x
      simp only at h1 h2 h4 hn64
      subst h1 h2 h4
      simp only at htx hpj hsum ⊢
      rw [htx, hpj, if_pos (show ([] : List Int).length = 0 from rfl)]
      have e1 : leafT ⟨1, n, ⟨#[]⟩, []⟩ = txt (itoa n) := by unfold leafT; simp
      have e2 : joinL 1 n ⟨#[]⟩ (([] : List Int).map (kidPart l fr)) = [⟨1, n, ⟨#[]⟩, []⟩] := rfl
      rw [e1, e2]
      refine (gd_lit hn64).more (by decide) (by simp at hsum; omega) fun h => .inl ⟨trivial, h⟩
    · obtain ⟨op, n, nm, ks⟩ := x
      simp only at h1 h2 h4 h5 hp18
      subst h2 h4
      simp only at htx hpj hsum ⊢
      rw [htx, hpj, if_pos (show ([] : List Int).length = 0 from rfl)]
      rcases h1 with rfl | rfl
      · have e1 : leafT ⟨2, 0, nm, []⟩ = nm := by unfold leafT; simp
        have e2 : joinL 2 0 nm (([] : List Int).map (kidPart l fr)) = [⟨2, 0, nm, []⟩] := rfl
        rw [e1, e2]
        exact (gd_var h5 _).more (by decide) (by simp at hsum; omega) id
      · have e1 : leafT ⟨18, 0, nm, []⟩ = txt [64] ++ nm := by unfold leafT; simp
        have e2 : joinL 18 0 nm (([] : List Int).map (kidPart l fr)) = [⟨18, 0, nm, []⟩] := rfl
        rcases hp18 with rfl | hx
        · rw [e1, e2]
          exact (gd_hole h5 _).more (by decide) (by simp at hsum; omega) id
        · exact absurd rfl hx
    · obtain ⟨op, n, nm, ks⟩ := x
      simp only at hn0 hnm hrest
      subst hn0 hnm
      simp only at htx hpj hsum hks ⊢
      rcases hrest with ⟨ho, a, rfl⟩ | ⟨ho, a, b, rfl⟩ | ⟨ho, a, b, c, rfl⟩
      · obtain ⟨a0, a1⟩ := hks a (by simp)
        simp only [List.map_cons, List.map_nil, List.sum_cons, List.sum_nil] at hsum
        rw [htx, hpj, if_neg (by simp)]
        simp only [List.map_cons, List.map_nil]
        rw [join1 op (hup a a0 a1).1 (hup a a0 a1).2]
        have eT : betT ⟨op, 0, ⟨#[]⟩, [a]⟩ (kdP betT l [a]) = sgT op ++ tkT op 0 (l.getD a.toNat nd0, tx betT l a.toNat) := rfl
        rw [eT]
        have hg := gd_tk (op := op) (place := 0) (y := l.getD a.toNat nd0) (ih a a0 a1)
        have hfa := hform a.toNat (by omega)
        have hrg := rk_ge hfa
        generalize l.getD a.toNat nd0 = y at *
        have hr10 : rkT op = 10 := by rcases ho with rfl | rfl <;> decide
        have hbk : brkB op 0 y = if op = 3 ∧ y.op = 1 then decide (0 ≤ y.n) else decide (rkT y.op < rkT op) := by
          unfold brkB
          rw [if_neg (by omega), if_neg (by omega)]
          split
          · rfl
          · rw [if_pos rfl]
        refine (gd_un ho hg ?_ (fun h3 hd => ?_) _).more (by rw [hr10]; exact Int.le_refl _) (by omega) id
        · by_cases hB : brkB op 0 y = true
          · rw [if_pos hB]; decide
          · rw [if_neg hB]
            rw [hbk] at hB
            split at hB
            · rename_i hc; rw [hrg.2 hc.2]; decide
            · simp at hB; omega
        · obtain ⟨hB, hdd⟩ := hd
          rw [hbk] at hB
          split at hB
          · rename_i hc
            have hlt : ¬ 0 ≤ y.n := by simpa using hB
            have := hrg.2 hc.2
            rcases hdd with h | h
            · exact hlt h.2
            · omega
          · rename_i hc
            have hge : ¬ rkT y.op < rkT op := by simpa using hB
            rcases hdd with h | h
            · exact hc ⟨h3, h.1⟩
            · omega
      · obtain ⟨a0, a1⟩ := hks a (by simp)
        obtain ⟨b0, b1⟩ := hks b (by simp)
        simp only [List.map_cons, List.map_nil, List.sum_cons, List.sum_nil] at hsum
        rw [htx, hpj, if_neg (by simp)]
        simp only [List.map_cons, List.map_nil]
        rw [join2 op (hup a a0 a1).1 (hup b b0 b1).1 (hup a a0 a1).2 (hup b b0 b1).2]
        have eT : betT ⟨op, 0, ⟨#[]⟩, [a, b]⟩ (kdP betT l [a, b]) = tkT op 0 (l.getD a.toNat nd0, tx betT l a.toNat) ++ txt [32] ++ sgT op ++ txt [32] ++ tkT op 1 (l.getD b.toNat nd0, tx betT l b.toNat) := rfl
        rw [eT]
        have hga := gd_tk (op := op) (place := 0) (y := l.getD a.toNat nd0) (ih a a0 a1)
        have hgb := gd_tk (op := op) (place := 1) (y := l.getD b.toNat nd0) (ih b b0 b1)
        generalize l.getD a.toNat nd0 = y at *
        generalize l.getD b.toNat nd0 = z at *
        have hr9 : 2 ≤ rkT op ∧ rkT op ≤ 9 := by
          have hc : op = 5 ∨ op = 6 ∨ op = 7 ∨ op = 8 ∨ op = 9 ∨ op = 10 ∨ op = 11 ∨ op = 12 ∨ op = 13 ∨ op = 14 ∨ op = 15 ∨ op = 16 := by omega
          rcases hc with rfl | rfl | rfl | rfl | rfl | rfl | rfl | rfl | rfl | rfl | rfl | rfl <;> decide
        have hbk : brkB op 0 y = if op = 15 ∨ op = 16 then decide (rkT y.op ≤ rkT op) else decide (rkT y.op < rkT op) := by
          unfold brkB
          rw [if_neg (by omega)]
          split
          · rfl
          · rw [if_neg (by omega), if_pos rfl]
        have hbk2 : brkB op 1 z = decide (rkT z.op ≤ rkT op) := by
          unfold brkB
          rw [if_neg (by omega)]
          split
          · rfl
          · rw [if_neg (by omega), if_neg (by decide)]
        refine (gd_bin ho hga hgb ?_ ?_ ?_ (wg := wgt fr i) (by omega) (by omega)).more (Int.le_refl _) (Nat.le_refl _) fun _ => .inr (by omega)
        · by_cases hB : brkB op 0 y = true
          · rw [if_pos hB]; omega
          · rw [if_neg hB]
            rw [hbk] at hB
            split at hB <;> (simp at hB; omega)
        · by_cases hB : brkB op 1 z = true
          · rw [if_pos hB]; omega
          · rw [if_neg hB]
            rw [hbk2] at hB
            simp at hB; omega
        · intro hc
          by_cases hB : brkB op 0 y = true
          · rw [if_pos hB]; omega
          · rw [if_neg hB]
            rw [hbk, if_pos hc] at hB
            simp at hB; omega
      · subst ho
        obtain ⟨a0, a1⟩ := hks a (by simp)
        obtain ⟨b0, b1⟩ := hks b (by simp)
        obtain ⟨c0, c1⟩ := hks c (by simp)
        simp only [List.map_cons, List.map_nil, List.sum_cons, List.sum_nil] at hsum
        rw [htx, hpj, if_neg (by simp)]
        simp only [List.map_cons, List.map_nil]
        rw [join3 17 (hup a a0 a1).1 (hup b b0 b1).1 (hup c c0 c1).1 (hup a a0 a1).2 (hup b b0 b1).2 (hup c c0 c1).2]
        have eT : betT ⟨17, 0, ⟨#[]⟩, [a, b, c]⟩ (kdP betT l [a, b, c]) = tkT 17 0 (l.getD a.toNat nd0, tx betT l a.toNat) ++ txt [32] ++ sgT 17 ++ txt [32] ++ tkT 17 1 (l.getD b.toNat nd0, tx betT l b.toNat) ++ (txt [32, 58, 32] ++ tkT 17 2 (l.getD c.toNat nd0, tx betT l c.toNat)) := rfl
        rw [eT]
        have hga := gd_tk (op := 17) (place := 0) (y := l.getD a.toNat nd0) (ih a a0 a1)
        have hgb := gd_tk (op := 17) (place := 1) (y := l.getD b.toNat nd0) (ih b b0 b1)
        have hgc := gd_tk (op := 17) (place := 2) (y := l.getD c.toNat nd0) (ih c c0 c1)
        have hfa := hform a.toNat (by omega)
        have hrg := rk_ge hfa
        have hr1 : rkT 17 = 1 := by decide
        generalize l.getD a.toNat nd0 = y at *
        refine (gd_ite hga hgb hgc ?_ (wg := wgt fr i) (by omega) (by omega) (by omega)).more (by rw [hr1]; exact Int.le_refl _) (Nat.le_refl _) fun _ => .inr (by rw [hr1]; decide)
        by_cases hB : brkB 17 0 y = true
        · rw [if_pos hB]; decide
        · rw [if_neg hB]
          unfold brkB at hB
          rw [if_pos rfl] at hB
          simp at hB
          omega
/-- Read again. -/
theorem read_back {l : List Nd} (hs : okSh l = true) (hn : ∀ x ∈ l, num64 x.n) (pat : Bool) (hp : pat = true ∨ ∀ x ∈ l, x.op ≠ 18) (most : Nat) (h4 : (shF betT l).size ≤ 4096) :
    psRead (shF betT l) pat most = if most < l.length then .bad (shF betT l).size 10 else .ok l := by
  unfold okSh at hs
  simp only [Bool.and_eq_true] at hs
  obtain ⟨⟨h6, _⟩, hsn⟩ := hs
  have h6 : ¬ 6 < (hlsL l).length := by simpa using h6
  obtain ⟨fr, hbg⟩ : ∃ fr, begL (l.map fillN) = some fr := by
    unfold sndB at hsn
    exact Option.isSome_iff_exists.1 hsn
  obtain ⟨hl0, hl64, hbr, htop⟩ := begL_some hbg
  simp only [List.length_map] at hl0 hl64 htop
  have hg := gd_all (S := shF betT l) hbg hn hp (l.length - 1) (by omega)
  have eS : shF betT l = tx betT l (l.length - 1) := shF_tx betT l
  rw [← eS, htop] at hg
  have ePl : partL l 0 (l.length - 1) = l := by
    unfold partL
    have e : l.length - 1 + 1 - 0 = l.length := by omega
    rw [e]
    simp [map_mvN_zero]
  rw [ePl] at hg
  have hnz := psRead_in (shF betT l) pat most
  generalize shF betT l = S at *
  have hbt := Bt.self S
  have hst : Stq S (0 + S.size) := .inl (by omega)
  obtain ⟨f1, f2, ⟨t, ft⟩, _⟩ := hg.first 0 hbt hst
  have hsk0 := skp_off f1 f2
  have hske : skp S (0 + S.size) = S.size := by rw [Nat.zero_add]; exact skp_all S
  have hend := end_at S pat mx63
  obtain ⟨f, hrun⟩ := hg.cond 0 0 t (psEnd S) hbt hst (by have := wgt_le fr (l.length - 1); omega) ft (by rw [hske]; exact hend) (op_end S).1 (op_end S).2
  rw [hske] at hrun
  have hck := hg.ck 0 hbt hst (by rw [Nat.zero_add]; exact CkA.end_ S)
  rw [read_eq] at hnz ⊢
  unfold rdWhole rdX at hnz ⊢
  rw [if_neg (by omega), if_pos (show (chk S).2 = 0 from hck S.size), hsk0, ft] at hnz ⊢
  simp only [Pr.bind] at hnz ⊢
  have hfu : rdRun S pat (psFuel S) .cond t 0 = .ok (l, S.size) := by
    cases hq : rdRun S pat (psFuel S) .cond t 0 with
    | out => rw [hq] at hnz; exact absurd rfl hnz
    | bad p er =>
      have := rd_moreB hq (Nat.le_max_left (psFuel S) f)
      rw [rd_more hrun (Nat.le_max_right (psFuel S) f)] at this
      cases this
    | ok r =>
      have := rd_more hq (Nat.le_max_left (psFuel S) f)
      rw [rd_more hrun (Nat.le_max_right (psFuel S) f)] at this
      cases this; rfl
  rw [hfu]
  simp only [Pr.bind]
  rw [hend]
  simp only [Pr.bind]
  rw [if_neg (Nat.lt_irrefl _)]
  split
  · rfl
  · rw [if_neg (fun x => h6 x.2)]
end Go.Proofs.YtljigfiokekpoaaGreatDoor

set_option linter.unusedSimpArgs false
set_option linter.unusedVariables false
namespace Go.Proofs.YtljigfiokekpoaaGreatDoor
open Go.Lib

/-- Are there names of holes? Just if there are holes. -/
theorem hls_zero (l : List Nd) : (hlsL l).length = 0 ↔ ∀ x ∈ l, x.op ≠ 18 := by
  constructor
  · intro h x hx h18
    have mono : ∀ (m : List Nd) (acc : List ByteArray), acc.length ≤ (m.foldl addNm acc).length := by
      intro m
      induction m with
      | nil => intro acc; exact Nat.le_refl _
      | cons y m ih =>
        intro acc
        have h1 := ih (addNm acc y)
        have h2 : acc.length ≤ (addNm acc y).length := by
          unfold addNm
          split
          · split <;> simp
          · omega
        simp only [List.foldl_cons]
        omega
    obtain ⟨a, b, rfl⟩ := List.append_of_mem hx
    unfold hlsL at h
    rw [List.foldl_append, List.foldl_cons] at h
    have h1 := mono b (addNm (a.foldl addNm []) x)
    have h2 : ∀ acc : List ByteArray, 0 < (addNm acc x).length := by
      intro acc
      unfold addNm
      rw [if_pos h18]
      split
      · rename_i hany
        cases acc with
        | nil => simp at hany
        | cons z r => simp
      · simp
    have := h2 (a.foldl addNm [])
    omega
  · intro h
    rw [noH_hls h]; rfl
end Go.Proofs.YtljigfiokekpoaaGreatDoor

set_option linter.unusedSimpArgs false
set_option linter.unusedVariables false
namespace Go.Proofs.YtljigfiokekpoaaGreatDoor
open Go.RowKit Go.Lib Go.Sort

/-- While the parts are gathered. -/
structure RsMid (w : World) (cs : Array Value) (v : Value) (k : Nat) (ts : List ByteArray) (wr : World) : Prop where
  row : wr.ownsRow (w.heap.size + 1) 9 1 v k (ts.map Value.string)
  blk : wr.heap[w.heap.size]? = some (.cells cs 53 (0, 0))
  below : Below w.heap.size w wr
theorem RsMid.up {w : World} {cs : Array Value} {v : Value} {k : Nat} {ts : List ByteArray} {wr w2 : World} (h : RsMid w cs v k ts wr) (hb : Below wr.heap.size wr w2) : RsMid w cs v k ts w2 :=
  ⟨ownsRow_below h.row hb, (hb.block _ (lt_of_block h.blk)).trans h.blk, h.below.trans (hb.mono h.below.size)⟩
theorem RsMid.app {w : World} {cs : Array Value} {v : Value} {k : Nat} {ts : List ByteArray} {w2 w6 : World} {o : Obj} {g cap : Nat} {s : ByteArray} (h : RsMid w cs v k ts w2)
    (hown : w6.ownsRow (w.heap.size + 1) 9 1 (.slice (some ⟨g, 0, none⟩) (k + 1) cap) (k + 1) (ts.map Value.string ++ [.string s])) (hg : (w2.alloc o).grownBy w6 v.ownBlock) : RsMid w cs (.slice (some ⟨g, 0, none⟩) (k + 1) cap) (k + 1) (ts ++ [s]) w6 := by
  have hs := lt_of_block h.blk
  have hz : (w2.alloc o).heap.size = w2.heap.size + 1 := by simp
  have hne : some w.heap.size ≠ v.ownBlock := fun e => by have := (own_block' h.row _ e.symm).1; omega
  refine ⟨by rw [List.map_append]; exact hown, ?_, (h.below.alloc (by omega) _).grown hg (by omega) (fun j hj => by have := (own_block' h.row j hj).1; omega)⟩
  exact ((hg.block _ (by omega) hne).trans (alloc_old w2 o _ (by omega))).trans h.blk

end Go.Proofs.YtljigfiokekpoaaGreatDoor

set_option linter.unusedSimpArgs false
set_option linter.unusedVariables false
namespace Go.Proofs.YtljigfiokekpoaaGreatDoor
open Go.RowKit Go.Lib

structure RlMid (w : World) (cs : Array Value) (wr : World) : Prop where
  blk : wr.heap[w.heap.size]? = some (.cells cs 53 (0, 0))
  below : Below w.heap.size w wr
theorem RlMid.up {w : World} {cs : Array Value} {wr w2 : World} (h : RlMid w cs wr) (hb : Below wr.heap.size wr w2) : RlMid w cs w2 :=
  ⟨(hb.block _ (lt_of_block h.blk)).trans h.blk, h.below.trans (hb.mono h.below.size)⟩
end Go.Proofs.YtljigfiokekpoaaGreatDoor

set_option linter.unusedSimpArgs false
set_option linter.unusedVariables false

namespace Go.Proofs.YtljigfiokekpoaaGreatDoor
open Go.RowKit Go.Lib

/-- Between two nodes of the copy. -/
structure RdMid (w : World) (l : List Nd) (v : Value) (k : Nat) (wr : World) : Prop where
  p : ∃ p, p.map (·.1) = (l.take k).map fillN ++ l.drop k ∧ OwnP wr w.heap.size v p
  below : Below w.heap.size w wr
theorem RdMid.at_ {w : World} {l : List Nd} {v : Value} {k : Nat} {wr : World} (h : RdMid w l v k wr) (hk : k < l.length) : ∃ g cap, v = .slice (some ⟨g, 0, none⟩) l.length cap ∧ w.heap.size ≤ g ∧ g < wr.heap.size ∧ l.length ≤ cap ∧ cap ≤ maxLen ∧ wr.cell? ⟨g, k * 4, none⟩ = some (.int .i64 (l.getD k nd0).op) ∧ wr.frozen? ⟨g, k * 4, none⟩ = false := by
  obtain ⟨⟨p, hp, hc⟩, hb⟩ := h
  have hpl : p.length = l.length := by have := congrArg List.length hp; simp at this; omega
  rcases hc.row.2 with ⟨rfl, h0⟩ | ⟨g, cap, cur, rfl, hg0, hg, h1, h2, h3, h4⟩
  · omega
  · refine ⟨g, cap, by rw [hpl], hg0, lt_of_block hg, by omega, h2, ?_, frozen_of_heap hg _⟩
    have hp2 : p[k]? = some (p[k].1, p[k].2) := by simp [hpl, hk]
    have := (ndCells_at p k _ _ hp2).1
    have hx : ((l.take k).map fillN ++ l.drop k)[k]? = some l[k] := by
      rw [List.getElem?_append_right (by simp; omega)]
      have : k - ((l.take k).map fillN).length = 0 := by simp; omega
      rw [this]; simp [hk]
    have hkp : k < p.length := by omega
    have e : p[k].1 = l.getD k nd0 := by
      have h5 : (p.map (·.1))[k]? = some l[k] := by rw [hp]; exact hx
      simp [hkp] at h5
      simp [hk, h5]
    rw [cell_of_heap hg, ← Array.getElem?_toList, ← e, ← this, ← h4, List.getElem?_take, if_pos (by omega)]
theorem RdMid.skip {w : World} {l : List Nd} {v : Value} {k : Nat} {wr : World} (h : RdMid w l v k wr) (hk : k < l.length) (hop : (l.getD k nd0).op ≠ 18) : RdMid w l v (k + 1) wr := by
  obtain ⟨⟨p, hp, hc⟩, hb⟩ := h
  exact ⟨⟨p, by rw [fill_step hk hop]; exact hp, hc⟩, hb⟩
theorem RdMid.fill {w : World} {l : List Nd} {g cap k : Nat} {wr : World} (h : RdMid w l (.slice (some ⟨g, 0, none⟩) l.length cap) k wr) (hk : k < l.length) (hop : (l.getD k nd0).op = 18) : RdMid w l (.slice (some ⟨g, 0, none⟩) l.length cap) (k + 1) (wr.setCell ⟨g, k * 4, none⟩ (.int .i64 2)) := by
  obtain ⟨g', cap', e1, hg0, _⟩ := h.at_ hk
  cases e1
  obtain ⟨⟨p, hp, hc⟩, hb⟩ := h
  have hpl : p.length = l.length := by have := congrArg List.length hp; simp at this; omega
  have e : l.getD k nd0 = l[k] := by simp [hk]
  have hx : ((l.take k).map fillN ++ l.drop k)[k]? = some l[k] := by
    rw [List.getElem?_append_right (by simp; omega)]
    have : k - ((l.take k).map fillN).length = 0 := by simp; omega
    rw [this]; simp [hk]
  have hpk : p[k]? = some (l[k], (p.getD k (nd0, .slice none 0 0)).2) := by
    have hkp : k < p.length := by omega
    have : (p.map (·.1))[k]? = some l[k] := by rw [hp]; exact hx
    simp [hkp] at this
    simp [hkp, ← this]
  have hfl : fillN l[k] = { l[k] with op := 2 } := by rw [e] at hop; simp [fillN, hop]
  have hrow : wr.ownsRow w.heap.size 53 4 (.slice (some ⟨g, 0, none⟩) l.length cap) l.length (ndCells p) := by have := hc.row; rwa [hpl] at this
  refine ⟨⟨p.set k ({ l[k] with op := 2 }, (p.getD k (nd0, .slice none 0 0)).2), ?_, ?_, ?_⟩, hb.setCell (p := ⟨g, k * 4, none⟩) hg0 _⟩
  · rw [List.map_set, hp, ← hfl]
    rw [List.take_succ_eq_append_getElem hk, List.map_append, List.set_append_right _ _ (by simp; omega)]
    have : k - ((l.take k).map fillN).length = 0 := by simp; omega
    rw [this, List.drop_eq_getElem_cons hk, List.set_cons_zero, List.append_assoc]
    rfl
  · rw [ndCells_op p k _ _ 2 hpk, List.length_set, hpl]
    exact own_put hrow (by rw [ndCells_length]; omega)
  · intro q hq
    have hin : ∀ q ∈ p, OwnI (wr.setCell ⟨g, k * 4, none⟩ (.int .i64 2)) w.heap.size q.2 q.1.kids := fun q hq => row_set (hc.kids q hq) (fun j hj e => by
      subst e
      rcases ownBlock_ne (hc.kids q hq) hc.row (by decide) with h | h
      · rw [h] at hj; cases hj
      · exact h hj) _ _
    rcases List.mem_or_eq_of_mem_set hq with hq | rfl
    · exact hin q hq
    · exact hin (l[k], _) (List.mem_of_getElem? hpk)

end Go.Proofs.YtljigfiokekpoaaGreatDoor

set_option linter.unusedSimpArgs false
set_option linter.unusedVariables false
namespace Go.Proofs.YtljigfiokekpoaaGreatDoor
open Go.RowKit Go.Lib

theorem FitX.fit5W {l : List Nd} (h : FitX l) : Fit5 l := ⟨h.name, fun x hx => bounds_i64 (h.num x hx)⟩
/-- Parse, by what it comes to. -/
theorem parse_ok {W : World} {s : ByteArray} {l : List Nd} (hz : s.size ≤ maxLen) (hT : Tabs W) (h : psRead s false 64 = .ok l) :
    Calls Tryz.prog 15 #[.string s] W fun e w' => ∃ ao cap, e = .returned (.tuple #[.slice ao l.length cap, .int .i64 0, .int .i64 0]) ∧ Rd w' ao cap l ∧ Below W.heap.size W w' := by
  have := parse_any W s hz hT
  rw [h] at this
  exact this.mono fun e w' ⟨⟨ao, cap, h1, h2⟩, h3⟩ => ⟨ao, cap, h1, h2, h3⟩
theorem show_sz {l : List Nd} (hok : okSh l = true) (hn : ∀ x ∈ l, num64 x.n) : (shF betT l).size ≤ 6500 ∧ l.length ≤ 64 ∧ ((hlsL l).length ≠ 0 → l.length ≤ 16) := by
  have hok' := hok
  unfold okSh at hok'
  simp only [Bool.and_eq_true] at hok'
  obtain ⟨⟨_, h2⟩, h3⟩ := hok'
  obtain ⟨fr, hbg⟩ : ∃ fr, begL (l.map fillN) = some fr := by
    unfold sndB at h3
    exact Option.isSome_iff_exists.1 h3
  refine ⟨?_, by have := (snd_bounds hbg).1; simpa using this, fun h => ?_⟩
  · rw [shF_tx]; exact tx_size bet_ok hbg hn _
  · simp only [Bool.or_eq_true, decide_eq_true_eq] at h2
    rcases h2 with h2 | h2
    · exact absurd h2 h
    · exact h2


end Go.Proofs.YtljigfiokekpoaaGreatDoor

set_option linter.unusedSimpArgs false
set_option linter.unusedVariables false
namespace Go.Proofs.YtljigfiokekpoaaGreatDoor
open Go.RowKit Go.Lib Go.Shelf
attribute [local go_sem] Oper.semAt_some

/-- A box that the walk's simp does not open. -/
structure SlW (p : Prop) : Prop where
  out : p
theorem fill_sameW {x : Nd} (h : formB x = true) : fillN x = x := by
  unfold fillN
  split
  · rename_i e
    exfalso
    unfold formB fitB at h
    rw [e] at h
    simp [aritI] at h
  · rfl
theorem okW_of_snd {l : List Nd} {fr : List Nat} (hbg : begL l = some fr) : okSh l = true ∧ l.map fillN = l := by
  have hok := begOk_of (begL_some hbg).2.2.1
  have hfx : ∀ x ∈ l, formB x = true := fun x hx => by
    obtain ⟨j, hj, rfl⟩ := List.getElem_of_mem hx
    have := (hok.at_ j hj).1
    simpa [hj] using this
  have hm : l.map fillN = l := by
    conv => rhs; rw [← List.map_id l]
    exact List.map_congr_left fun x hx => fill_sameW (hfx x hx)
  have hno : ∀ x ∈ l, x.op ≠ 18 := fun x hx e => by
    have h := hfx x hx
    unfold formB fitB at h
    rw [e] at h
    simp [aritI] at h
  have h0 := (hls_zero l).2 hno
  refine ⟨?_, hm⟩
  unfold okSh
  rw [hm, h0]
  simp [sndB, hbg]

theorem chkRW {w : World} {ao : Option Addr} {cap : Nat} {l : List Nd} (T : SpanCells w) (h : Rd w ao cap l) (r : Int) (hr : chkE l = r) :
    Calls Tryz.prog 9 #[.slice ao l.length cap] w fun e w' => e = .returned (.int .i64 r) ∧ Below w.heap.size w w' := by
  rw [← hr]
  cases hb : begL l with
  | none => rw [chkE_no (by simp [sndB, hb])]; exact check_none _ l w _ (Nat.le_refl _) T h hb
  | some fr => rw [chkE_yes (by simp [sndB, hb])]; exact check_some _ l fr w _ (Nat.le_refl _) T h hb

set_option maxHeartbeats 1000000 in
theorem bindsW_any (ao : Option Addr) (cap : Nat) (l : List Bd) (hreach : l.length * 24 ≤ 140737488355328) (w : World) (hI : Bds w ao cap l) :
    Calls Tryz.prog 6 #[.slice ao l.length cap] w fun e W' => (∃ v, e = .returned v ∧ OwnB W' w.heap.size v l) ∧ Below w.heap.size w W' := by
  obtain ⟨i0, hi, hz0, hz1, hz2⟩ := info_parts Tryz.infoBind
  obtain ⟨⟨hl, hm, hn⟩, _⟩ := id hI
  have HI : Hid (Bds w ao cap l) := hI
  have HN : Hid (ao = none → l.length = 0 ∧ cap = 0) := fun h => by have := hn h; omega
  clear hI hn
  have HS : Hid (∀ ad, ao = some ad → ∀ j u, (bdCells l)[j]? = some u → (w.alloc (.cells #[] 130)).cell? (ad.add j) = some u) := (HI.out.below ((Below.refl w.heap.size w).alloc (Nat.le_refl _) _)).src
  have HO : Hid ((w.alloc (.cells #[] 130)).ownsRow w.heap.size 130 2 (.slice (some ⟨w.heap.size, 0, none⟩) 0 0) 0 []) := World.ownsRow_made w #[] 0 (Nat.le_refl _) (Nat.zero_le _) (by simp)
  have HL : Hid ((bdCells l).length = l.length * 2) := bdCells_length l
  go_enter Tryz.func6, Tryz.ntmps6
  go_wp2_with (at_builtin; refine append_srcE _ rfl _ _ 23 rfl w.heap.size 130 i0 (.agg #[.string ⟨#[]⟩, .int .i64 0]) 2 24 Tryz.underlying23 hi hz0 hz1 hz2 rfl (by decide) _ _ _ rfl HO.out ao l.length cap (bdCells l) rfl HN.out HL.out HS.out (bdCells_one l) (by omega) (by omega) (by simp) ?_; intro v' w1 hown hgrow)
  go_ret
  refine ⟨⟨_, rfl, ?_⟩, ((Below.refl w.heap.size w).alloc (Nat.le_refl _) _).grown hgrow (by simp) (fun k hk => by have e : some w.heap.size = some k := hk; cases e; exact Nat.le_refl _)⟩
  show World.ownsRow _ _ _ _ _ _ _
  simpa using hown
theorem bindsW_rd {ao : Option Addr} {cap : Nat} {l : List Bd} (hreach : l.length * 24 ≤ 140737488355328) {w : World} (hI : Bds w ao cap l) :
    Calls Tryz.prog 6 #[.slice ao l.length cap] w fun e W' => ∃ ao' cap', e = .returned (.slice ao' l.length cap') ∧ Bds W' ao' cap' l ∧ Below w.heap.size w W' := by
  refine (bindsW_any ao cap l hreach w hI).mono ?_
  rintro e W' ⟨⟨v, rfl, hO⟩, hb⟩
  obtain ⟨ao', cap', rfl, hB, _⟩ := hO.read
  exact ⟨ao', cap', rfl, hB, hb⟩
/-- Between two rounds of a range over All: the count in its box; the list; what lay ahead of the box is as it was. -/
structure WfI (Wn W0 : World) (B : Nat) (ta : Option Addr) (tc : Nat) (ts : List Tm) (k : Nat) (W : World) : Prop where
  n : W.heap[Wn.heap.size]? = some (.cells #[.int .i64 (k : Int)] 3 (0, 0))
  all : AllAt W B ta tc ts
  below : Below Wn.heap.size Wn W
  size : W0.heap.size ≤ W.heap.size
theorem WfI.own {Wn W0 : World} {B : Nat} {ta : Option Addr} {tc : Nat} {ts : List Tm} (hw : Wn.heap.size ≤ W0.heap.size) : OwnFrom W0.heap.size (WfI Wn W0 B ta tc ts) := fun k W W' row h hg hr => by
  have hr' : ∀ r, row = some r → ∃ o : Obj, W.heap[r]? = some o ∧ o.isCells = false := fun r e => (hr r e).2
  exact ⟨blk_own h.n hg hr', h.all.own hg hr', h.below.grown hg (by have := h.size; omega) (fun r e => by have := (hr r e).1; omega), Nat.le_trans h.size hg.size⟩
theorem KpA.setW {W : World} {B p o : Nat} {ta : Option Addr} {u : Value} (hB : B ≠ p) (hg : ∀ g, ta = some ⟨g, 0, none⟩ → g ≠ p) : KpA B ta W (W.setCell ⟨p, o, none⟩ u) :=
  ⟨fun o' h => (Deep.blk_setCell_other _ _ _ _ (by show B ≠ p; exact hB)).trans h, fun g o' e h => (Deep.blk_setCell_other _ _ _ _ (by show g ≠ p; exact hg g e)).trans h⟩

/-- A piece of code whose ways all end in one bundle. -/
theorem wpIn_bundle {F : Fence} {n : Nat} {P : Program} {c : Code} {Q : Exit → Act → World → Prop} {a : Act} {w : World} (T : Option Addr → Nat → Option Addr → Nat → Act) (P2 : Option Addr → Nat → Option Addr → Nat → World → Prop)
    (h1 : c.wpIn F n P (fun e a' W' => e = .normal ∧ ∃ co cc qo qc, P2 co cc qo qc W' ∧ a' = T co cc qo qc) a w) (h2 : ∀ co cc qo qc W', P2 co cc qo qc W' → Q .normal (T co cc qo qc) W') : c.wpIn F n P Q a w :=
  wpIn_mono h1 fun e a' W' ⟨he, co, cc, qo, qc, hp, ha⟩ => by subst he; subst ha; exact h2 _ _ _ _ _ hp
/-- Blocks that the law has laid ahead. -/
structure WfB (w : World) (ao : Option Addr) (n cap : Nat) (W : World) : Prop where
  below : Below w.heap.size w W
  e : W.heap[w.heap.size]? = some (.cells #[.slice ao n cap] 22 (0, 0))
  r : W.heap[w.heap.size + 1]? = some (.cells #[.bool false] 4 (0, 0))
  sz : w.heap.size + 2 ≤ W.heap.size
theorem WfB.step {w W W' : World} {ao : Option Addr} {n cap : Nat} (h : WfB w ao n cap W) (hb : Below W.heap.size W W') : WfB w ao n cap W' :=
  ⟨h.below.trans (hb.mono h.below.size), (hb.block _ (lt_of_block h.e)).trans h.e, (hb.block _ (lt_of_block h.r)).trans h.r, Nat.le_trans h.sz hb.size⟩
theorem WfB.ce {w W : World} {ao : Option Addr} {n cap : Nat} (h : WfB w ao n cap W) : W.cell? ⟨w.heap.size, 0, none⟩ = some (.slice ao n cap) := by simp [World.cell?, h.e]
theorem WfB.cr {w W : World} {ao : Option Addr} {n cap : Nat} (h : WfB w ao n cap W) : W.cell? ⟨w.heap.size + 1, 0, none⟩ = some (.bool false) := by simp [World.cell?, h.r]
theorem WfB.fr {w W : World} {ao : Option Addr} {n cap : Nat} (h : WfB w ao n cap W) : W.frozen? ⟨w.heap.size + 1, 0, none⟩ = false := by simp [World.frozen?, h.r]
theorem WfB.start (w : World) (ao : Option Addr) (n cap : Nat) : WfB w ao n cap ((w.alloc (.cells #[.slice ao n cap] 22)).alloc (.cells #[.bool false] 4)) := by
  refine ⟨((Below.refl _ w).alloc (Nat.le_refl _) _).alloc (by simp) _, (Deep.blk_alloc_lt _ _ _ (by simp)).trans (Deep.blk_alloc_new _ _), ?_, by simp⟩
  have := Deep.blk_alloc_new (w.alloc (.cells #[.slice ao n cap] 22)) (.cells #[.bool false] 4)
  rw [World.size_alloc] at this
  exact this
theorem WfB.fin {w W : World} {ao : Option Addr} {n cap : Nat} (h : WfB w ao n cap W) (b : Bool) : (W.setCell ⟨w.heap.size + 1, 0, none⟩ (.bool b)).cell? ⟨w.heap.size + 1, 0, none⟩ = some (.bool b) ∧ Below w.heap.size w (W.setCell ⟨w.heap.size + 1, 0, none⟩ (.bool b)) := by
  have h1 := heap_setCell_same W (w.heap.size + 1) 0 #[.bool false] 4 (.bool b) h.r
  exact ⟨by simp [World.cell?, h1], h.below.setCell (p := ⟨w.heap.size + 1, 0, none⟩) (by show w.heap.size ≤ w.heap.size + 1; omega) _⟩
end Go.Proofs.YtljigfiokekpoaaGreatDoor

set_option linter.unusedSimpArgs false
set_option linter.unusedVariables false
namespace Go.Proofs.YtljigfiokekpoaaGreatDoor
open Go.RowKit Go.Lib Go.Shelf
attribute [local go_sem] Oper.semAt_some

set_option maxRecDepth 100000 in
set_option maxHeartbeats 8000000 in
theorem forms_none (l : List Nd) (ao : Option Addr) (cap : Nat) (eo : Option Addr) (ec : Nat) (bs : List Bd) (w : World) (T5 : Tb5 w) (TT : Tabs w) (G0 : GrpCells w) (hR : Rd w ao cap l) (hF : FitX l) (hB : Bds w eo ec bs) (hreach : bs.length * 24 ≤ 140737488355328) (hs : begL l = none) :
    CallsIn Fence.wide 4 Tryz.prog 3 #[.slice ao l.length cap, .slice eo bs.length ec] w fun e W' => e = .returned (.bool true) ∧ Below w.heap.size w W' := by
  have hro : Fence.wide.round = none := rfl
  have hcap := hR.bound
  unfold maxLen at hcap
  obtain ⟨hcap1, hcap2⟩ := hcap
  have HRd : SlW (∀ W, Below w.heap.size w W → Rd W ao cap l) := ⟨fun W hW => hR.below hW hW.size⟩
  have HS : SlW (∀ W, Below w.heap.size w W → SpanCells W) := ⟨fun W hW => TT.spans.below hW⟩
  have HG : SlW (∀ W, Below w.heap.size w W → GrpCells W) := ⟨fun W hW => G0.below hW⟩
  have CC : SlW (∀ W, Below w.heap.size w W → Calls Tryz.prog 5 #[.slice ao l.length cap] W fun e w' => ∃ ao' cap', e = .returned (.slice ao' l.length cap') ∧ Rd w' ao' cap' l ∧ Below W.heap.size W w') := ⟨fun W hW => copyR (HRd.out W hW) hF.fit⟩
  have CB : SlW (∀ W, Below w.heap.size w W → Calls Tryz.prog 6 #[.slice eo bs.length ec] W fun e w' => ∃ ao' cap', e = .returned (.slice ao' bs.length cap') ∧ Bds w' ao' cap' bs ∧ Below W.heap.size W w') := ⟨fun W hW => bindsW_rd hreach (hB.below hW)⟩
  obtain ⟨⟨E1, E2⟩, hE⟩ : ∃ E, evA bs l = E := ⟨_, rfl⟩
  obtain ⟨X, hX⟩ : ∃ X, shS betT l = X := ⟨_, rfl⟩
  obtain ⟨EX, hEX⟩ : ∃ E, shE l = E := ⟨_, rfl⟩
  have CE : SlW (∀ W xo xc bo bc, Below w.heap.size w W → Rd W xo xc l → Bds W bo bc bs → Calls Tryz.prog 4 #[.slice xo l.length xc, .slice bo bs.length bc] W fun e w' => e = .returned (.tuple #[.int .i64 E1, .int .i64 E2]) ∧ Below W.heap.size W w') := ⟨fun W xo xc bo bc hW h1 h2 => by
    have := eval_any ⟨HS.out W hW, HG.out W hW, h1, h2, hreach⟩
    rw [hE] at this; exact this⟩
  have CS : SlW (∀ W xo xc, Below w.heap.size w W → Rd W xo xc l → Calls Tryz.prog 8 #[.slice xo l.length xc] W fun e w' => e = .returned (.tuple #[.string X, .int .i64 EX]) ∧ Below W.heap.size W w') := ⟨fun W xo xc hW h => by
    have := show_any (T5.below hW) h hF.fit5W
    rw [hX, hEX] at this; exact this⟩
  have hE2 : (E1, E2) = ((0 : Int), (1 : Int)) := by rw [← hE]; unfold evA; rw [sndW_none hs]; rfl
  obtain ⟨e1, e2⟩ := Prod.mk.inj hE2
  subst e1 e2
  have CX : SlW (∀ W xo xc, Below w.heap.size w W → Rd W xo xc l → Calls Tryz.prog 7 #[.slice xo l.length xc] W fun e w' => e = .returned (.tuple #[.nilIface, .int .i64 1]) ∧ Below W.heap.size W w') := ⟨fun W xo xc hW h => box_none (HS.out W hW) h hs⟩
  have CK : SlW (∀ W xo xc, Below w.heap.size w W → Rd W xo xc l → Calls Tryz.prog 9 #[.slice xo l.length xc] W fun e w' => e = .returned (.int .i64 1) ∧ Below W.heap.size W w') := ⟨fun W xo xc hW h => chkRW (HS.out W hW) h 1 (chkE_no (sndW_none hs))⟩
  clear hR hF hB hs hE hX hEX hE2 T5 TT G0
  refine callsIn_of_wp_marks Tryz.func3 rfl trivial ?_ hro
  simp only [Tryz.ntmps3, List.size_toArray, List.length_cons, List.length_nil, Nat.reduceAdd, Nat.reduceSub, Array.replicate_succ, Array.replicate_zero, List.push_toArray, List.append_toArray, List.nil_append, List.cons_append]
  have F0 : SlW (WfB w ao l.length cap _) := ⟨WfB.start w ao l.length cap⟩
  have c0 := F0.out.ce
  gi_wp2
  generalize ((w.alloc (.cells #[.slice ao l.length cap] 22)).alloc (.cells #[.bool false] 4)) = w0 at *
  refine ⟨trivial, ((callsIn_wide (n := 3)).2 (CC.out w0 F0.out.below)).mono ?_⟩
  rintro e w1 ⟨xo, xc, rfl, hx, hq⟩
  have R1 : SlW (Rd w1 xo xc l) := ⟨hx⟩
  have F1 : SlW (WfB w ao l.length cap w1) := ⟨F0.out.step hq⟩
  have c1 := F1.out.ce
  clear hx
  clear hq c0
  gi_wp2
  refine ⟨trivial, ((callsIn_wide (n := 3)).2 (CB.out w1 F1.out.below)).mono ?_⟩
  rintro e w2 ⟨bo, bc, rfl, hy, hq⟩
  have R2 : SlW (Rd w2 xo xc l) := ⟨R1.out.below hq hq.size⟩
  have Y2 : SlW (Bds w2 bo bc bs) := ⟨hy⟩
  have F2 : SlW (WfB w ao l.length cap w2) := ⟨F1.out.step hq⟩
  have c2 := F2.out.ce
  clear hy
  clear hq c1
  gi_wp2
  refine ⟨trivial, ((callsIn_wide (n := 3)).2 (CE.out w2 xo xc bo bc F2.out.below R2.out Y2.out)).mono ?_⟩
  rintro e w3 ⟨rfl, hq⟩
  have F3 : SlW (WfB w ao l.length cap w3) := ⟨F2.out.step hq⟩
  have c3 := F3.out.ce
  clear hq c2
  gi_wp2
  refine ⟨trivial, ((callsIn_wide (n := 3)).2 (CC.out w3 F3.out.below)).mono ?_⟩
  rintro e w4 ⟨x2, y2, rfl, hx, hq⟩
  have R4 : SlW (Rd w4 x2 y2 l) := ⟨hx⟩
  have F4 : SlW (WfB w ao l.length cap w4) := ⟨F3.out.step hq⟩
  have c4 := F4.out.ce
  clear hx
  clear hq c3
  gi_wp2
  refine ⟨trivial, ((callsIn_wide (n := 3)).2 (CX.out w4 x2 y2 F4.out.below R4.out)).mono ?_⟩
  rintro e w5 ⟨rfl, hq⟩
  have F5 : SlW (WfB w ao l.length cap w5) := ⟨F4.out.step hq⟩
  have c5 := F5.out.ce
  clear hq c4
  gi_wp2
  refine ⟨trivial, ((callsIn_wide (n := 3)).2 (CC.out w5 F5.out.below)).mono ?_⟩
  rintro e w6 ⟨x3, y3, rfl, hx, hq⟩
  have R6 : SlW (Rd w6 x3 y3 l) := ⟨hx⟩
  have F6 : SlW (WfB w ao l.length cap w6) := ⟨F5.out.step hq⟩
  have c6 := F6.out.ce
  clear hx
  clear hq c5
  gi_wp2
  refine ⟨trivial, ((callsIn_wide (n := 3)).2 (CS.out w6 x3 y3 F6.out.below R6.out)).mono ?_⟩
  rintro e w7 ⟨rfl, hq⟩
  have F7 : SlW (WfB w ao l.length cap w7) := ⟨F6.out.step hq⟩
  have c7 := F7.out.ce
  clear hq c6
  gi_wp2
  refine ⟨trivial, ((callsIn_wide (n := 3)).2 (CC.out w7 F7.out.below)).mono ?_⟩
  rintro e w8 ⟨x4, y4, rfl, hx, hq⟩
  have R8 : SlW (Rd w8 x4 y4 l) := ⟨hx⟩
  have F8 : SlW (WfB w ao l.length cap w8) := ⟨F7.out.step hq⟩
  have c8 := F8.out.ce
  clear hx
  clear hq c7
  gi_wp2
  refine ⟨trivial, ((callsIn_wide (n := 3)).2 (CK.out w8 x4 y4 F8.out.below R8.out)).mono ?_⟩
  rintro e w9 ⟨rfl, hq⟩
  have F9 : SlW (WfB w ao l.length cap w9) := ⟨F8.out.step hq⟩
  have c9 := F9.out.ce
  clear hq c8
  have cr := F9.out.cr
  have fr := F9.out.fr
  have FI := F9.out.fin true
  gi_wp2
  obtain ⟨g0, hbz⟩ := FI
  refine ⟨.bool true, ?_, rfl, hbz⟩
  simp [results, Tryz.f3, go_sem, g0]

end Go.Proofs.YtljigfiokekpoaaGreatDoor

set_option linter.unusedSimpArgs false
set_option linter.unusedVariables false
namespace Go.Proofs.YtljigfiokekpoaaGreatDoor
open Go.RowKit Go.Lib Go.Shelf
attribute [local go_sem] Oper.semAt_some

set_option maxRecDepth 100000 in
set_option maxHeartbeats 8000000 in
theorem forms_some (l : List Nd) (ao : Option Addr) (cap : Nat) (eo : Option Addr) (ec : Nat) (bs : List Bd) (w : World) (T5 : Tb5 w) (TT : Tabs w) (G0 : GrpCells w) (hR : Rd w ao cap l) (hF : FitX l) (hB : Bds w eo ec bs) (hreach : bs.length * 24 ≤ 140737488355328) (fr : List Nat) (hs : begL l = some fr) :
    CallsIn Fence.wide 4 Tryz.prog 3 #[.slice ao l.length cap, .slice eo bs.length ec] w fun e W' => e = .returned (.bool true) ∧ Below w.heap.size w W' := by
  have hro : Fence.wide.round = none := rfl
  have hcap := hR.bound
  unfold maxLen at hcap
  obtain ⟨hcap1, hcap2⟩ := hcap
  have HRd : SlW (∀ W, Below w.heap.size w W → Rd W ao cap l) := ⟨fun W hW => hR.below hW hW.size⟩
  have HS : SlW (∀ W, Below w.heap.size w W → SpanCells W) := ⟨fun W hW => TT.spans.below hW⟩
  have HG : SlW (∀ W, Below w.heap.size w W → GrpCells W) := ⟨fun W hW => G0.below hW⟩
  have CC : SlW (∀ W, Below w.heap.size w W → Calls Tryz.prog 5 #[.slice ao l.length cap] W fun e w' => ∃ ao' cap', e = .returned (.slice ao' l.length cap') ∧ Rd w' ao' cap' l ∧ Below W.heap.size W w') := ⟨fun W hW => copyR (HRd.out W hW) hF.fit⟩
  have CB : SlW (∀ W, Below w.heap.size w W → Calls Tryz.prog 6 #[.slice eo bs.length ec] W fun e w' => ∃ ao' cap', e = .returned (.slice ao' bs.length cap') ∧ Bds w' ao' cap' bs ∧ Below W.heap.size W w') := ⟨fun W hW => bindsW_rd hreach (hB.below hW)⟩
  obtain ⟨⟨E1, E2⟩, hE⟩ : ∃ E, evA bs l = E := ⟨_, rfl⟩
  obtain ⟨X, hX⟩ : ∃ X, shS betT l = X := ⟨_, rfl⟩
  obtain ⟨EX, hEX⟩ : ∃ E, shE l = E := ⟨_, rfl⟩
  have CE : SlW (∀ W xo xc bo bc, Below w.heap.size w W → Rd W xo xc l → Bds W bo bc bs → Calls Tryz.prog 4 #[.slice xo l.length xc, .slice bo bs.length bc] W fun e w' => e = .returned (.tuple #[.int .i64 E1, .int .i64 E2]) ∧ Below W.heap.size W w') := ⟨fun W xo xc bo bc hW h1 h2 => by
    have := eval_any ⟨HS.out W hW, HG.out W hW, h1, h2, hreach⟩
    rw [hE] at this; exact this⟩
  have CS : SlW (∀ W xo xc, Below w.heap.size w W → Rd W xo xc l → Calls Tryz.prog 8 #[.slice xo l.length xc] W fun e w' => e = .returned (.tuple #[.string X, .int .i64 EX]) ∧ Below W.heap.size W w') := ⟨fun W xo xc hW h => by
    have := show_any (T5.below hW) h hF.fit5W
    rw [hX, hEX] at this; exact this⟩
  have hl0 := (begL_some hs).1
  have h64 := (begL_some hs).2.1
  obtain ⟨hok, _⟩ := okW_of_snd hs
  have hnum : ∀ x ∈ l, num64 x.n := hF.fit5W.num
  have hEX0 : EX = 0 := by rw [← hEX]; unfold shE; rw [if_pos hok]
  subst hEX0
  have hXF : X = shF betT l := by rw [← hX]; unfold shS; rw [if_pos hok]
  obtain ⟨hsz, _, _⟩ := show_sz hok hnum
  rw [← hXF] at hsz
  have hzm : X.size ≤ maxLen := by unfold maxLen; omega
  have CPS : SlW (X.size ≤ 4096 → ∀ W, Below w.heap.size w W → Calls Tryz.prog 15 #[.string X] W fun e w' => ∃ ao cap, e = .returned (.tuple #[.slice ao l.length cap, .int .i64 0, .int .i64 0]) ∧ Rd w' ao cap l ∧ Below W.heap.size W w') := ⟨fun h4 W hW => by
    have hno : ∀ x ∈ l, x.op ≠ 18 := fun x hx e => by
      obtain ⟨j, hj, rfl⟩ := List.getElem_of_mem hx
      have h := ((begOk_of (begL_some hs).2.2.1).at_ j hj).1
      have e' : l.getD j nd0 = l[j] := by simp [hj]
      rw [e'] at h
      unfold formB fitB at h
      rw [e] at h
      simp [aritI] at h
    have e1 := read_back hok hnum false (.inr hno) 64 (by rw [← hXF]; exact h4)
    rw [if_neg (by omega), ← hXF] at e1
    exact parse_ok hzm (TT.below hW) e1⟩
  have HFV : SlW (Five (tmA l (l.length - 1))) := ⟨five_tm hs (by omega)⟩
  have hWt : wantT (tmA l (l.length - 1)) = l ∧ sndB (flatT (tmA l (l.length - 1))) = true := by
    have e := flat_whole hs
    have s : sndB (flatT (tmA l (l.length - 1))) = true := by rw [e]; simp [sndB, hs]
    exact ⟨by unfold wantT; rw [if_pos s, e], s⟩
  have CX : SlW (∀ W xo xc, Below w.heap.size w W → Rd W xo xc l → Calls Tryz.prog 7 #[.slice xo l.length xc] W fun e w' => e = .returned (.tuple #[tv (tmA l (l.length - 1)), .int .i64 0]) ∧ Below W.heap.size W w') := ⟨fun W xo xc hW h => box_some (HS.out W hW) h hs⟩
  have CK : SlW (∀ W xo xc, Below w.heap.size w W → Rd W xo xc l → Calls Tryz.prog 9 #[.slice xo l.length xc] W fun e w' => e = .returned (.int .i64 0) ∧ Below W.heap.size W w') := ⟨fun W xo xc hW h => chkRW (HS.out W hW) h 0 (chkE_yes (sndW_some hs))⟩
  have CO : SlW (∀ W, Below w.heap.size w W → Calls Tryz.prog 10 #[tv (tmA l (l.length - 1))] W fun e w' => ∃ ao cap, e = .returned (.tuple #[.slice ao l.length cap, .int .i64 0]) ∧ Rd w' ao cap l ∧ Below W.heap.size W w') := ⟨fun W hW => by
    have := bxopen_any _ (five_oth HFV.out) W (HS.out W hW)
    rw [hWt.1, hWt.2] at this
    exact this⟩
  have CT : SlW (∀ W bo bc, Below w.heap.size w W → Bds W bo bc bs → Calls Tryz.prog 11 #[tv (tmA l (l.length - 1)), .slice bo bs.length bc] W fun e w' => e = .returned (.tuple #[.int .i64 E1, .int .i64 E2]) ∧ Below W.heap.size W w') := ⟨fun W bo bc hW h => by
    have := term_any8 _ (five_oth HFV.out) bo bc bs hreach W (HS.out W hW) (HG.out W hW) h
    rw [hWt.1, hE] at this
    exact this⟩
  have CM : SlW (∀ W xo xc, Rd W xo xc l → Below w.heap.size w W → Calls Tryz.prog 12 #[.slice xo l.length xc, .slice ao l.length cap] W fun e w' => e = .returned (.bool true) ∧ Below W.heap.size W w') := ⟨fun W xo xc h hW => sameR h (HRd.out W hW) true (by simp)⟩
  have CA : SlW (∀ W, Below w.heap.size w W → Calls Tryz.prog 13 #[tv (tmA l (l.length - 1))] W fun e w' => ∃ B ta tc, e = .returned (.func (.func 24) #[] #[.pointer (some ⟨B, 0, none⟩)]) ∧ W.heap.size ≤ B ∧ (∀ g, ta = some ⟨g, 0, none⟩ → W.heap.size ≤ g) ∧ AllAt w' B ta tc ((List.range l.length).map (tmA l)) ∧ Below W.heap.size W w') := ⟨fun W hW => by
    have := all_any _ (five_oth HFV.out) W (HS.out W hW)
    rw [all_tm hs] at this
    exact this⟩
  have COK : SlW (∀ k, k < l.length → ∃ pl : List Nd, (∀ W, Below w.heap.size w W → Calls Tryz.prog 10 #[tv (tmA l k)] W fun e w' => ∃ ao cap, e = .returned (.tuple #[.slice ao pl.length cap, .int .i64 0]) ∧ Rd w' ao cap pl ∧ Below W.heap.size W w') ∧
      (∀ W xo xc, Below w.heap.size w W → Rd W xo xc l → Calls Tryz.prog 14 #[.slice xo l.length xc, .int .i64 (k : Int)] W fun e w' => ∃ ao cap, e = .returned (.tuple #[.slice ao pl.length cap, .int .i64 0]) ∧ Rd w' ao cap pl ∧ Below W.heap.size W w')) := ⟨fun k hk => by
    refine ⟨partL l (fr.getD k 0) k, fun W hW => ?_, fun W xo xc hW h => partR (HS.out W hW) h hs k (k : Int) rfl hk rfl⟩
    have e := flat_tm hs k hk
    obtain ⟨fo, hfo⟩ := part_snd hs k hk
    have s : sndB (flatT (tmA l k)) = true := by rw [e]; exact sndW_some hfo
    have := bxopen_any _ (five_oth (five_tm hs hk)) W (HS.out W hW)
    rw [show wantT (tmA l k) = partL l (fr.getD k 0) k by unfold wantT; rw [if_pos s, e], s] at this
    exact this⟩
  obtain ⟨v, hv⟩ : ∃ v, tv (tmA l (l.length - 1)) = v := ⟨_, rfl⟩
  rw [hv] at CX CO CT CA
  have hl0I : ((l.length : Int) == 0) = false := by rw [beq_eq_false_iff_ne]; omega
  have hl64 : (l.length : Int) ≤ 64 := by omega
  clear hR hF hB hs hE hX hEX T5 TT G0 hok hnum hWt HFV hv hXF
  refine callsIn_of_wp_marks Tryz.func3 rfl trivial ?_ hro
  simp only [Tryz.ntmps3, List.size_toArray, List.length_cons, List.length_nil, Nat.reduceAdd, Nat.reduceSub, Array.replicate_succ, Array.replicate_zero, List.push_toArray, List.append_toArray, List.nil_append, List.cons_append]
  have F0 : SlW (WfB w ao l.length cap _) := ⟨WfB.start w ao l.length cap⟩
  have c0 := F0.out.ce
  gi_wp2
  generalize ((w.alloc (.cells #[.slice ao l.length cap] 22)).alloc (.cells #[.bool false] 4)) = w0 at *
  refine ⟨trivial, ((callsIn_wide (n := 3)).2 (CC.out w0 F0.out.below)).mono ?_⟩
  rintro e w1 ⟨xo, xc, rfl, hx, hq⟩
  have R1 : SlW (Rd w1 xo xc l) := ⟨hx⟩
  have F1 : SlW (WfB w ao l.length cap w1) := ⟨F0.out.step hq⟩
  have c1 := F1.out.ce
  clear hx
  clear hq c0
  gi_wp2
  refine ⟨trivial, ((callsIn_wide (n := 3)).2 (CB.out w1 F1.out.below)).mono ?_⟩
  rintro e w2 ⟨bo, bc, rfl, hy, hq⟩
  have R2 : SlW (Rd w2 xo xc l) := ⟨R1.out.below hq hq.size⟩
  have Y2 : SlW (Bds w2 bo bc bs) := ⟨hy⟩
  have F2 : SlW (WfB w ao l.length cap w2) := ⟨F1.out.step hq⟩
  have c2 := F2.out.ce
  clear hy
  clear hq c1
  gi_wp2
  refine ⟨trivial, ((callsIn_wide (n := 3)).2 (CE.out w2 xo xc bo bc F2.out.below R2.out Y2.out)).mono ?_⟩
  rintro e w3 ⟨rfl, hq⟩
  have F3 : SlW (WfB w ao l.length cap w3) := ⟨F2.out.step hq⟩
  have c3 := F3.out.ce
  clear hq c2
  gi_wp2
  refine ⟨trivial, ((callsIn_wide (n := 3)).2 (CC.out w3 F3.out.below)).mono ?_⟩
  rintro e w4 ⟨x2, y2, rfl, hx, hq⟩
  have R4 : SlW (Rd w4 x2 y2 l) := ⟨hx⟩
  have F4 : SlW (WfB w ao l.length cap w4) := ⟨F3.out.step hq⟩
  have c4 := F4.out.ce
  clear hx
  clear hq c3
  gi_wp2
  refine ⟨trivial, ((callsIn_wide (n := 3)).2 (CX.out w4 x2 y2 F4.out.below R4.out)).mono ?_⟩
  rintro e w5 ⟨rfl, hq⟩
  have F5 : SlW (WfB w ao l.length cap w5) := ⟨F4.out.step hq⟩
  have c5 := F5.out.ce
  clear hq c4
  gi_wp2
  refine ⟨trivial, ((callsIn_wide (n := 3)).2 (CC.out w5 F5.out.below)).mono ?_⟩
  rintro e w6 ⟨x3, y3, rfl, hx, hq⟩
  have R6 : SlW (Rd w6 x3 y3 l) := ⟨hx⟩
  have F6 : SlW (WfB w ao l.length cap w6) := ⟨F5.out.step hq⟩
  have c6 := F6.out.ce
  clear hx
  clear hq c5
  gi_wp2
  refine ⟨trivial, ((callsIn_wide (n := 3)).2 (CS.out w6 x3 y3 F6.out.below R6.out)).mono ?_⟩
  rintro e w7 ⟨rfl, hq⟩
  have F7 : SlW (WfB w ao l.length cap w7) := ⟨F6.out.step hq⟩
  have c7 := F7.out.ce
  clear hq c6
  gi_wp2
  refine ⟨trivial, ((callsIn_wide (n := 3)).2 (CC.out w7 F7.out.below)).mono ?_⟩
  rintro e w8 ⟨x4, y4, rfl, hx, hq⟩
  have R8 : SlW (Rd w8 x4 y4 l) := ⟨hx⟩
  have F8 : SlW (WfB w ao l.length cap w8) := ⟨F7.out.step hq⟩
  have c8 := F8.out.ce
  clear hx
  clear hq c7
  gi_wp2
  refine ⟨trivial, ((callsIn_wide (n := 3)).2 (CK.out w8 x4 y4 F8.out.below R8.out)).mono ?_⟩
  rintro e w9 ⟨rfl, hq⟩
  have F9 : SlW (WfB w ao l.length cap w9) := ⟨F8.out.step hq⟩
  have c9 := F9.out.ce
  clear hq c8
  gi_wp2
  refine ⟨trivial, ((callsIn_wide (n := 3)).2 (CO.out w9 F9.out.below)).mono ?_⟩
  rintro e w10 ⟨xo5, xc5, rfl, hx, hq⟩
  have R10 : SlW (Rd w10 xo5 xc5 l) := ⟨hx⟩
  have F10 : SlW (WfB w ao l.length cap w10) := ⟨F9.out.step hq⟩
  have c10 := F10.out.ce
  clear hx
  clear hq c9
  gi_wp2
  refine ⟨trivial, ((callsIn_wide (n := 3)).2 (CB.out w10 F10.out.below)).mono ?_⟩
  rintro e w11 ⟨bo2, bc2, rfl, hy, hq⟩
  have R11 : SlW (Rd w11 xo5 xc5 l) := ⟨R10.out.below hq hq.size⟩
  have Y11 : SlW (Bds w11 bo2 bc2 bs) := ⟨hy⟩
  have F11 : SlW (WfB w ao l.length cap w11) := ⟨F10.out.step hq⟩
  have c11 := F11.out.ce
  clear hy
  clear hq c10
  gi_wp2
  refine ⟨trivial, ((callsIn_wide (n := 3)).2 (CT.out w11 bo2 bc2 F11.out.below Y11.out)).mono ?_⟩
  rintro e w12 ⟨rfl, hq⟩
  have R12 : SlW (Rd w12 xo5 xc5 l) := ⟨R11.out.below hq hq.size⟩
  have F12 : SlW (WfB w ao l.length cap w12) := ⟨F11.out.step hq⟩
  have c12 := F12.out.ce
  clear hq c11
  gi_wp2
  refine ⟨trivial, ((callsIn_wide (n := 3)).2 (CM.out w12 xo5 xc5 R12.out F12.out.below)).mono ?_⟩
  rintro e w13 ⟨rfl, hq⟩
  have F13 : SlW (WfB w ao l.length cap w13) := ⟨F12.out.step hq⟩
  have c13 := F13.out.ce
  clear hq c12
  have hbA : Below w13.heap.size w13 (w13.alloc (.cells #[.int .i64 0] 3)) := (Below.refl _ _).alloc (Nat.le_refl _) _
  have nA : (w13.alloc (.cells #[.int .i64 0] 3)).heap[w13.heap.size]? = some (.cells #[.int .i64 0] 3 (0, 0)) := Deep.blk_alloc_new _ _
  have FA : SlW (WfB w ao l.length cap (w13.alloc (.cells #[.int .i64 0] 3))) := ⟨F13.out.step hbA⟩
  have hzA : (w13.alloc (.cells #[.int .i64 0] 3)).heap.size = w13.heap.size + 1 := by simp
  gi_wp2
  generalize w13.alloc (.cells #[.int .i64 0] 3) = wn at *
  refine ⟨trivial, ((callsIn_wide (n := 3)).2 (CA.out wn FA.out.below)).mono ?_⟩
  rintro e w14 ⟨B, ta, tc, rfl, hBB, hgB, hA, hq⟩
  have F14 : SlW (WfB w ao l.length cap w14) := ⟨FA.out.step hq⟩
  have b13 : Below w13.heap.size w13 w14 := hbA.trans (hq.mono hbA.size)
  have n14 : w14.heap[w13.heap.size]? = some (.cells #[.int .i64 0] 3 (0, 0)) := (hq.block _ (by omega)).trans nA
  have s14 : w13.heap.size + 1 ≤ w14.heap.size := by have := hq.size; omega
  have hAL : ((List.range l.length).map (tmA l)).length = l.length := by simp
  have hAt : ∀ k, k < l.length → ((List.range l.length).map (tmA l)).getD k .nil = tmA l k := fun k hk => by simp [hk]
  obtain ⟨q, hqq⟩ : ∃ q, (List.range l.length).map (tmA l) = q := ⟨_, rfl⟩
  rw [hqq] at hA hAL hAt
  have hi0 : WfI w13 w14 B ta tc q 0 w14 := ⟨n14, hA, b13, Nat.le_refl _⟩
  have hgV : ∀ g, ta = some ⟨g, 0, none⟩ → w13.heap.size + 1 ≤ g ∧ g < w14.heap.size := fun g e => by
    have := hgB g e
    rcases hA.rd with h | ⟨g', cur, e', hg', _⟩
    · have := hA.em h; rw [this] at e; cases e
    · rw [e] at e'; cases e'; have := lt_of_block hg'; omega
  have hBlt : B < w14.heap.size := by obtain ⟨x, y, hb⟩ := hA.blk; exact lt_of_block hb
  clear hqq nA hq hgB n14
  gi_wp2
  refine range_seq (gf := 24) (lb := #[.pointer (some ⟨B, 0, none⟩)]) hro (by omega) rfl trivial (enters_of Tryz.func24 (by kernel_rfl) rfl) q.length (fun k => #[tv (q.getD k .nil)]) (fun _ => rfl) (KpA B ta) KpA.trans
    (fun W l o o' hl ho hc => ⟨fun o1 h1 => (World.putObj_heap_other (by omega)).trans h1, fun g o1 e h1 => (World.putObj_heap_other (by have := hgV g e; omega)).trans h1⟩)
    (fun l J Jx W hW hY h0 => all1_in Fence.wide 3 trivial hro (by omega) l B ta tc q J Jx W (hA.below hW) hY h0)
    (WfI w13 w14 B ta tc q) (fun _ _ _ => False) (WfI.own (by omega)) (fun _ _ _ _ _ h _ _ => h) hi0 ?A ?assign ?body ?done ?stop
  case assign =>
    intro l k W K hK
    gi_wp2
    exact hK
  case body =>
    intro lp k W hl hk hI
    have hkl : k < l.length := by omega
    obtain ⟨pl, hO, hP⟩ := COK.out k hkl
    have HO : SlW _ := ⟨hO⟩
    have HP : SlW _ := ⟨hP⟩
    have BW : SlW (Below w.heap.size w W) := ⟨F13.out.below.trans (hI.below.mono F13.out.below.size)⟩
    have FW : SlW (WfB w ao l.length cap W) := ⟨F13.out.step hI.below⟩
    have hAt' := hAt k hkl
    rw [List.getD_eq_getElem?_getD] at hAt'
    rw [hAt']
    obtain ⟨xv, hxv⟩ : ∃ xv, tv (tmA l k) = xv := ⟨_, rfl⟩
    rw [hxv] at HO
    rw [hxv]
    clear hO hP hAt' hxv
    gi_wp2
    refine ⟨trivial, (in_round (l := lp) (n := 1) (HO.out W BW.out)).mono ?_⟩
    rintro e W2 ⟨po, pc, rfl, hPL, hb2⟩
    have F2 : SlW (WfB w ao l.length cap W2) := ⟨FW.out.step hb2⟩
    have n2 : W2.heap[w13.heap.size]? = some (.cells #[.int .i64 (k : Int)] 3 (0, 0)) := (hb2.block _ (lt_of_block hI.n)).trans hI.n
    have HPL : SlW (Rd W2 po pc pl) := ⟨hPL⟩
    have HCE : SlW (∀ W', Below W2.heap.size W2 W' → W'.cell? ⟨w.heap.size, 0, none⟩ = some (.slice ao l.length cap) ∧ W'.cell? ⟨w13.heap.size, 0, none⟩ = some (.int .i64 (k : Int)) ∧ Below w.heap.size w W') := ⟨fun W' hb => ⟨(F2.out.step hb).ce, by have h := (hb.block _ (lt_of_block n2)).trans n2; simp [World.cell?, h], (F2.out.step hb).below⟩⟩
    have hmo : Tryz.prog.follows .mixedOrders = true := by kernel_rfl
    have HBF : SlW (Below W.heap.size W W2) := ⟨hb2⟩
    clear hPL hb2
    gi_wp2
    apply wpIn_bundle (P2 := fun co cc qo qc W' => Below W2.heap.size W2 W' ∧ Rd W' qo qc pl)
    case h1 =>
      have kk := HCE.out W2.drew (Below.refl _ _).drew
      obtain ⟨d0, d1, _⟩ := kk
      refine wpIn_region_any hmo ?_
      try (change wpAnyIn _ _ _ _ _ _ _ _ _ (World.drew _))
      refine wpAnyIn_ready (rs := [0, 2]) (by kernel_rfl) (by simp) ?_
      refine AllReadyIn.cons rfl (fun K hK => ?_) (AllReadyIn.cons rfl (fun K hK => ?_) AllReadyIn.nil)
      · go_simp
        refine hK _ _ ?_
        clear hK K
        refine wpAnyIn_ready (rs := [1, 2]) (by kernel_rfl) (by simp) ?_
        refine AllReadyIn.cons rfl (fun K hK => ?_) (AllReadyIn.cons rfl (fun K hK => ?_) AllReadyIn.nil)
        · go_simp
          refine ⟨trivial, (in_round (l := lp) (n := 1) (CC.out _ (by first | exact (HCE.out _ (Below.refl _ _)).2.2 | exact (HCE.out _ (Below.refl _ _).drew).2.2))).mono ?_⟩
          rintro e W3 ⟨co, cc, rfl, hco, hb3'⟩
          have hb3 : Below W2.heap.size W2 W3 := (Below.refl W2.heap.size W2).drew.trans hb3'
          obtain ⟨k0, k1, k2⟩ := HCE.out W3 hb3
          have HCO : SlW (Rd W3 co cc l) := ⟨hco⟩
          have HB3 : SlW (Below W2.heap.size W2 W3) := ⟨hb3⟩
          have HK2 : SlW (Below w.heap.size w W3) := ⟨k2⟩
          clear hb3' hco hb3 k2
          refine hK _ _ ?_
          clear hK K
          refine wpAnyIn_ready (rs := [2]) (by kernel_rfl) (by simp) ?_
          refine AllReadyIn.cons rfl (fun K hK => ?_) AllReadyIn.nil
          go_simp
          refine hK _ _ ?_
          clear hK K
          refine wpAnyIn_ready (rs := [3]) (by kernel_rfl) (by simp) ?_
          refine AllReadyIn.cons rfl (fun K hK => ?_) AllReadyIn.nil
          go_simp
          refine ⟨trivial, (in_round (l := lp) (n := 1) (HP.out W3 co cc HK2.out HCO.out)).mono ?_⟩
          rintro e W4 ⟨qo, qc, rfl, hqo, hb4'⟩
          have HQ : SlW (Rd W4 qo qc pl) := ⟨hqo⟩
          have HB4 : SlW (Below W2.heap.size W2 W4) := ⟨HB3.out.trans (hb4'.mono HB3.out.size)⟩
          clear hb4' hqo
          refine hK _ _ ?_
          clear hK K
          refine wpAnyIn_ready (rs := [4]) (by kernel_rfl) (by simp) ?_
          refine AllReadyIn.cons rfl (fun K hK => ?_) AllReadyIn.nil
          go_simp
          refine hK _ _ ?_
          clear hK K
          refine wpAnyIn_ready (rs := [5, 6]) (by kernel_rfl) (by simp) ?_
          refine AllReadyIn.cons rfl (fun K hK => ?_) (AllReadyIn.cons rfl (fun K hK => ?_) AllReadyIn.nil)
          · go_simp
            refine hK _ _ ?_
            clear hK K
            refine wpAnyIn_ready (rs := [6, 7]) (by kernel_rfl) (by simp) ?_
            refine AllReadyIn.cons rfl (fun K hK => ?_) (AllReadyIn.cons rfl (fun K hK => ?_) AllReadyIn.nil)
            · go_simp
              refine hK _ _ ?_
              clear hK K
              refine wpAnyIn_ready (rs := [7]) (by kernel_rfl) (by simp) ?_
              refine AllReadyIn.cons rfl (fun K hK => ?_) AllReadyIn.nil
              go_simp
              refine hK _ _ ?_
              clear hK K
              refine wpAnyIn_ready (rs := [8]) (by kernel_rfl) (by simp) ?_
              refine AllReadyIn.cons rfl (fun K hK => ?_) AllReadyIn.nil
              go_simp
              refine hK _ _ ?_
              clear hK K
              refine wpAnyIn_done (by kernel_rfl) ?_ _
              exact ⟨rfl, co, cc, qo, qc, ⟨HB4.out, HQ.out⟩, rfl⟩
            · go_simp
              refine hK _ _ ?_
              clear hK K
              refine wpAnyIn_ready (rs := [6]) (by kernel_rfl) (by simp) ?_
              refine AllReadyIn.cons rfl (fun K hK => ?_) AllReadyIn.nil
              go_simp
              refine hK _ _ ?_
              clear hK K
              refine wpAnyIn_ready (rs := [8]) (by kernel_rfl) (by simp) ?_
              refine AllReadyIn.cons rfl (fun K hK => ?_) AllReadyIn.nil
              go_simp
              refine hK _ _ ?_
              clear hK K
              refine wpAnyIn_done (by kernel_rfl) ?_ _
              exact ⟨rfl, co, cc, qo, qc, ⟨HB4.out, HQ.out⟩, rfl⟩
          · go_simp
            refine hK _ _ ?_
            clear hK K
            refine wpAnyIn_ready (rs := [5]) (by kernel_rfl) (by simp) ?_
            refine AllReadyIn.cons rfl (fun K hK => ?_) AllReadyIn.nil
            go_simp
            refine hK _ _ ?_
            clear hK K
            refine wpAnyIn_ready (rs := [7]) (by kernel_rfl) (by simp) ?_
            refine AllReadyIn.cons rfl (fun K hK => ?_) AllReadyIn.nil
            go_simp
            refine hK _ _ ?_
            clear hK K
            refine wpAnyIn_ready (rs := [8]) (by kernel_rfl) (by simp) ?_
            refine AllReadyIn.cons rfl (fun K hK => ?_) AllReadyIn.nil
            go_simp
            refine hK _ _ ?_
            clear hK K
            refine wpAnyIn_done (by kernel_rfl) ?_ _
            exact ⟨rfl, co, cc, qo, qc, ⟨HB4.out, HQ.out⟩, rfl⟩
        · go_simp
          refine hK _ _ ?_
          clear hK K
          refine wpAnyIn_ready (rs := [1]) (by kernel_rfl) (by simp) ?_
          refine AllReadyIn.cons rfl (fun K hK => ?_) AllReadyIn.nil
          go_simp
          refine ⟨trivial, (in_round (l := lp) (n := 1) (CC.out _ (by first | exact (HCE.out _ (Below.refl _ _)).2.2 | exact (HCE.out _ (Below.refl _ _).drew).2.2))).mono ?_⟩
          rintro e W3 ⟨co, cc, rfl, hco, hb3'⟩
          have hb3 : Below W2.heap.size W2 W3 := (Below.refl W2.heap.size W2).drew.trans hb3'
          obtain ⟨k0, k1, k2⟩ := HCE.out W3 hb3
          have HCO : SlW (Rd W3 co cc l) := ⟨hco⟩
          have HB3 : SlW (Below W2.heap.size W2 W3) := ⟨hb3⟩
          have HK2 : SlW (Below w.heap.size w W3) := ⟨k2⟩
          clear hb3' hco hb3 k2
          refine hK _ _ ?_
          clear hK K
          refine wpAnyIn_ready (rs := [3]) (by kernel_rfl) (by simp) ?_
          refine AllReadyIn.cons rfl (fun K hK => ?_) AllReadyIn.nil
          go_simp
          refine ⟨trivial, (in_round (l := lp) (n := 1) (HP.out W3 co cc HK2.out HCO.out)).mono ?_⟩
          rintro e W4 ⟨qo, qc, rfl, hqo, hb4'⟩
          have HQ : SlW (Rd W4 qo qc pl) := ⟨hqo⟩
          have HB4 : SlW (Below W2.heap.size W2 W4) := ⟨HB3.out.trans (hb4'.mono HB3.out.size)⟩
          clear hb4' hqo
          refine hK _ _ ?_
          clear hK K
          refine wpAnyIn_ready (rs := [4]) (by kernel_rfl) (by simp) ?_
          refine AllReadyIn.cons rfl (fun K hK => ?_) AllReadyIn.nil
          go_simp
          refine hK _ _ ?_
          clear hK K
          refine wpAnyIn_ready (rs := [5, 6]) (by kernel_rfl) (by simp) ?_
          refine AllReadyIn.cons rfl (fun K hK => ?_) (AllReadyIn.cons rfl (fun K hK => ?_) AllReadyIn.nil)
          · go_simp
            refine hK _ _ ?_
            clear hK K
            refine wpAnyIn_ready (rs := [6, 7]) (by kernel_rfl) (by simp) ?_
            refine AllReadyIn.cons rfl (fun K hK => ?_) (AllReadyIn.cons rfl (fun K hK => ?_) AllReadyIn.nil)
            · go_simp
              refine hK _ _ ?_
              clear hK K
              refine wpAnyIn_ready (rs := [7]) (by kernel_rfl) (by simp) ?_
              refine AllReadyIn.cons rfl (fun K hK => ?_) AllReadyIn.nil
              go_simp
              refine hK _ _ ?_
              clear hK K
              refine wpAnyIn_ready (rs := [8]) (by kernel_rfl) (by simp) ?_
              refine AllReadyIn.cons rfl (fun K hK => ?_) AllReadyIn.nil
              go_simp
              refine hK _ _ ?_
              clear hK K
              refine wpAnyIn_done (by kernel_rfl) ?_ _
              exact ⟨rfl, co, cc, qo, qc, ⟨HB4.out, HQ.out⟩, rfl⟩
            · go_simp
              refine hK _ _ ?_
              clear hK K
              refine wpAnyIn_ready (rs := [6]) (by kernel_rfl) (by simp) ?_
              refine AllReadyIn.cons rfl (fun K hK => ?_) AllReadyIn.nil
              go_simp
              refine hK _ _ ?_
              clear hK K
              refine wpAnyIn_ready (rs := [8]) (by kernel_rfl) (by simp) ?_
              refine AllReadyIn.cons rfl (fun K hK => ?_) AllReadyIn.nil
              go_simp
              refine hK _ _ ?_
              clear hK K
              refine wpAnyIn_done (by kernel_rfl) ?_ _
              exact ⟨rfl, co, cc, qo, qc, ⟨HB4.out, HQ.out⟩, rfl⟩
          · go_simp
            refine hK _ _ ?_
            clear hK K
            refine wpAnyIn_ready (rs := [5]) (by kernel_rfl) (by simp) ?_
            refine AllReadyIn.cons rfl (fun K hK => ?_) AllReadyIn.nil
            go_simp
            refine hK _ _ ?_
            clear hK K
            refine wpAnyIn_ready (rs := [7]) (by kernel_rfl) (by simp) ?_
            refine AllReadyIn.cons rfl (fun K hK => ?_) AllReadyIn.nil
            go_simp
            refine hK _ _ ?_
            clear hK K
            refine wpAnyIn_ready (rs := [8]) (by kernel_rfl) (by simp) ?_
            refine AllReadyIn.cons rfl (fun K hK => ?_) AllReadyIn.nil
            go_simp
            refine hK _ _ ?_
            clear hK K
            refine wpAnyIn_done (by kernel_rfl) ?_ _
            exact ⟨rfl, co, cc, qo, qc, ⟨HB4.out, HQ.out⟩, rfl⟩
      · go_simp
        refine hK _ _ ?_
        clear hK K
        refine wpAnyIn_ready (rs := [0]) (by kernel_rfl) (by simp) ?_
        refine AllReadyIn.cons rfl (fun K hK => ?_) AllReadyIn.nil
        go_simp
        refine hK _ _ ?_
        clear hK K
        refine wpAnyIn_ready (rs := [1]) (by kernel_rfl) (by simp) ?_
        refine AllReadyIn.cons rfl (fun K hK => ?_) AllReadyIn.nil
        go_simp
        refine ⟨trivial, (in_round (l := lp) (n := 1) (CC.out _ (by first | exact (HCE.out _ (Below.refl _ _)).2.2 | exact (HCE.out _ (Below.refl _ _).drew).2.2))).mono ?_⟩
        rintro e W3 ⟨co, cc, rfl, hco, hb3'⟩
        have hb3 : Below W2.heap.size W2 W3 := (Below.refl W2.heap.size W2).drew.trans hb3'
        obtain ⟨k0, k1, k2⟩ := HCE.out W3 hb3
        have HCO : SlW (Rd W3 co cc l) := ⟨hco⟩
        have HB3 : SlW (Below W2.heap.size W2 W3) := ⟨hb3⟩
        have HK2 : SlW (Below w.heap.size w W3) := ⟨k2⟩
        clear hb3' hco hb3 k2
        refine hK _ _ ?_
        clear hK K
        refine wpAnyIn_ready (rs := [3]) (by kernel_rfl) (by simp) ?_
        refine AllReadyIn.cons rfl (fun K hK => ?_) AllReadyIn.nil
        go_simp
        refine ⟨trivial, (in_round (l := lp) (n := 1) (HP.out W3 co cc HK2.out HCO.out)).mono ?_⟩
        rintro e W4 ⟨qo, qc, rfl, hqo, hb4'⟩
        have HQ : SlW (Rd W4 qo qc pl) := ⟨hqo⟩
        have HB4 : SlW (Below W2.heap.size W2 W4) := ⟨HB3.out.trans (hb4'.mono HB3.out.size)⟩
        clear hb4' hqo
        refine hK _ _ ?_
        clear hK K
        refine wpAnyIn_ready (rs := [4]) (by kernel_rfl) (by simp) ?_
        refine AllReadyIn.cons rfl (fun K hK => ?_) AllReadyIn.nil
        go_simp
        refine hK _ _ ?_
        clear hK K
        refine wpAnyIn_ready (rs := [5, 6]) (by kernel_rfl) (by simp) ?_
        refine AllReadyIn.cons rfl (fun K hK => ?_) (AllReadyIn.cons rfl (fun K hK => ?_) AllReadyIn.nil)
        · go_simp
          refine hK _ _ ?_
          clear hK K
          refine wpAnyIn_ready (rs := [6, 7]) (by kernel_rfl) (by simp) ?_
          refine AllReadyIn.cons rfl (fun K hK => ?_) (AllReadyIn.cons rfl (fun K hK => ?_) AllReadyIn.nil)
          · go_simp
            refine hK _ _ ?_
            clear hK K
            refine wpAnyIn_ready (rs := [7]) (by kernel_rfl) (by simp) ?_
            refine AllReadyIn.cons rfl (fun K hK => ?_) AllReadyIn.nil
            go_simp
            refine hK _ _ ?_
            clear hK K
            refine wpAnyIn_ready (rs := [8]) (by kernel_rfl) (by simp) ?_
            refine AllReadyIn.cons rfl (fun K hK => ?_) AllReadyIn.nil
            go_simp
            refine hK _ _ ?_
            clear hK K
            refine wpAnyIn_done (by kernel_rfl) ?_ _
            exact ⟨rfl, co, cc, qo, qc, ⟨HB4.out, HQ.out⟩, rfl⟩
          · go_simp
            refine hK _ _ ?_
            clear hK K
            refine wpAnyIn_ready (rs := [6]) (by kernel_rfl) (by simp) ?_
            refine AllReadyIn.cons rfl (fun K hK => ?_) AllReadyIn.nil
            go_simp
            refine hK _ _ ?_
            clear hK K
            refine wpAnyIn_ready (rs := [8]) (by kernel_rfl) (by simp) ?_
            refine AllReadyIn.cons rfl (fun K hK => ?_) AllReadyIn.nil
            go_simp
            refine hK _ _ ?_
            clear hK K
            refine wpAnyIn_done (by kernel_rfl) ?_ _
            exact ⟨rfl, co, cc, qo, qc, ⟨HB4.out, HQ.out⟩, rfl⟩
        · go_simp
          refine hK _ _ ?_
          clear hK K
          refine wpAnyIn_ready (rs := [5]) (by kernel_rfl) (by simp) ?_
          refine AllReadyIn.cons rfl (fun K hK => ?_) AllReadyIn.nil
          go_simp
          refine hK _ _ ?_
          clear hK K
          refine wpAnyIn_ready (rs := [7]) (by kernel_rfl) (by simp) ?_
          refine AllReadyIn.cons rfl (fun K hK => ?_) AllReadyIn.nil
          go_simp
          refine hK _ _ ?_
          clear hK K
          refine wpAnyIn_ready (rs := [8]) (by kernel_rfl) (by simp) ?_
          refine AllReadyIn.cons rfl (fun K hK => ?_) AllReadyIn.nil
          go_simp
          refine hK _ _ ?_
          clear hK K
          refine wpAnyIn_done (by kernel_rfl) ?_ _
          exact ⟨rfl, co, cc, qo, qc, ⟨HB4.out, HQ.out⟩, rfl⟩
    case h2 =>
      rintro co cc qo qc W4 ⟨hb4, hq4⟩
      have F4 : SlW (WfB w ao l.length cap W4) := ⟨F2.out.step hb4⟩
      have cS : SlW (Calls Tryz.prog 12 #[.slice po pl.length pc, .slice qo pl.length qc] W4 fun e w' => e = .returned (.bool true) ∧ Below W4.heap.size W4 w') := ⟨sameR (HPL.out.below hb4 hb4.size) hq4 true (by simp)⟩
      have HB4 : SlW (Below W2.heap.size W2 W4) := ⟨hb4⟩
      have hk64 : (k : Int) < 64 := by omega
      clear hb4 hq4
      gi_wp2
      refine ⟨trivial, (in_round (l := lp) (n := 1) cS.out).mono ?_⟩
      rintro e W5 ⟨rfl, hb5⟩
      have bW : Below W.heap.size W W5 := HBF.out.trans ((HB4.out.trans (hb5.mono HB4.out.size)).mono HBF.out.size)
      have n5 : W5.heap[w13.heap.size]? = some (.cells #[.int .i64 (k : Int)] 3 (0, 0)) := (bW.block _ (lt_of_block hI.n)).trans hI.n
      have cn5 : W5.cell? ⟨w13.heap.size, 0, none⟩ = some (.int .i64 (k : Int)) := by simp [World.cell?, n5]
      have fn5 : W5.frozen? ⟨w13.heap.size, 0, none⟩ = false := by simp [World.frozen?, n5]
      have n6 := heap_setCell_same W5 w13.heap.size 0 #[.int .i64 (k : Int)] 3 (.int .i64 ((k : Int) + 1)) n5
      have hkp : KpA B ta W (W5.setCell ⟨w13.heap.size, 0, none⟩ (.int .i64 ((k : Int) + 1))) := (KpA.below bW).trans (KpA.setW (by omega) (fun g e => by have := hgV g e; omega))
      have hbl : Below w13.heap.size w13 (W5.setCell ⟨w13.heap.size, 0, none⟩ (.int .i64 ((k : Int) + 1))) := (hI.below.trans (bW.mono hI.below.size)).setCell (p := ⟨w13.heap.size, 0, none⟩) (Nat.le_refl _) _
      have hko : KeepsOthers W (W5.setCell ⟨w13.heap.size, 0, none⟩ (.int .i64 ((k : Int) + 1))) := (ko_below bW).trans (KeepsOthers.setCell _ _ _)
      clear hb5
      gi_wp2
      exact ⟨hko.from _, hkp, by simpa using n6, hI.all.kp hkp, hbl, Nat.le_trans hI.size hko.size⟩
  case done =>
    intro D W hD hI hK
    have nW := hI.n
    rw [hAL] at nW
    have FW : SlW (WfB w ao l.length cap W) := ⟨F13.out.step hI.below⟩
    have HD : SlW (w.heap.size + 2 ≤ D) := ⟨by have := F13.out.sz; omega⟩
    have FIN : SlW (∀ V, WfB w ao l.length cap V → V.heap[D]? = some (.deferred (some [])) → (V.setCell ⟨w.heap.size + 1, 0, none⟩ (.bool true)).heap[D]? = some (.deferred (some [])) ∧ ((V.setCell ⟨w.heap.size + 1, 0, none⟩ (.bool true)).putObj D (.deferred none)).cell? ⟨w.heap.size + 1, 0, none⟩ = some (.bool true) ∧ Below w.heap.size w ((V.setCell ⟨w.heap.size + 1, 0, none⟩ (.bool true)).putObj D (.deferred none))) := ⟨fun V hV hKV => by
      have hK' := (KeepsOthers.setCell V ⟨w.heap.size + 1, 0, none⟩ (.bool true)).same D _ hKV rfl
      obtain ⟨q0, q1⟩ := hV.fin true
      exact ⟨hK', cell_kept q0 (grownBy_putObj' _ D (.deferred none)) (fun r e => by cases e; exact ⟨_, hK', rfl⟩), q1.trans (belowK_b (w := w) (Nat.le_refl _) _ D _ _ (by have := HD.out; omega) hK' rfl rfl)⟩⟩
    have cn : W.cell? ⟨w13.heap.size, 0, none⟩ = some (.int .i64 (l.length : Int)) := by simp [World.cell?, nW]
    have c0 := FW.out.ce
    by_cases h4 : X.size ≤ 4096
    · have h4i : ¬ (4096 < (X.size : Int)) := by omega
      have CP := CPS.out h4
      have HCP : SlW _ := ⟨CP⟩
      have HNW : SlW (∀ V, Below W.heap.size W V → V.cell? ⟨w13.heap.size, 0, none⟩ = some (.int .i64 (l.length : Int)) ∧ V.heap[D]? = some (.deferred (some []))) := ⟨fun V hV => ⟨by have h := (hV.block _ (lt_of_block nW)).trans nW; simp [World.cell?, h], (hV.block _ (lt_of_block hK)).trans hK⟩⟩
      clear CP hI h4 nW hK
      gi_wp2
      refine ⟨trivial, ((callsIn_wide (n := 3)).2 (HCP.out W FW.out.below)).mono ?_⟩
      rintro e V1 ⟨yo, yc, rfl, hy, hq1⟩
      have G1 : SlW (WfB w ao l.length cap V1) := ⟨FW.out.step hq1⟩
      have Y1 : SlW (Rd V1 yo yc l) := ⟨hy⟩
      have B1 : SlW (Below W.heap.size W V1) := ⟨hq1⟩
      clear hy hq1 cn c0
      gi_wp2
      refine ⟨trivial, ((callsIn_wide (n := 3)).2 (CB.out V1 G1.out.below)).mono ?_⟩
      rintro e V2 ⟨zo, zc, rfl, hz, hq2⟩
      have G2 : SlW (WfB w ao l.length cap V2) := ⟨G1.out.step hq2⟩
      have Y2' : SlW (Rd V2 yo yc l) := ⟨Y1.out.below hq2 hq2.size⟩
      have Z2 : SlW (Bds V2 zo zc bs) := ⟨hz⟩
      have B2 : SlW (Below W.heap.size W V2) := ⟨B1.out.trans (hq2.mono B1.out.size)⟩
      clear hz hq2
      gi_wp2
      refine ⟨trivial, ((callsIn_wide (n := 3)).2 (CE.out V2 yo yc zo zc G2.out.below Y2'.out Z2.out)).mono ?_⟩
      rintro e V3 ⟨rfl, hq3⟩
      have G3 : SlW (WfB w ao l.length cap V3) := ⟨G2.out.step hq3⟩
      have Y3 : SlW (Rd V3 yo yc l) := ⟨Y2'.out.below hq3 hq3.size⟩
      have B3 : SlW (Below W.heap.size W V3) := ⟨B2.out.trans (hq3.mono B2.out.size)⟩
      have c3 := G3.out.ce
      obtain ⟨cn3, _⟩ := HNW.out V3 B3.out
      clear hq3
      gi_wp2
      refine ⟨trivial, ((callsIn_wide (n := 3)).2 (CM.out V3 yo yc Y3.out G3.out.below)).mono ?_⟩
      rintro e V4 ⟨rfl, hq4⟩
      have G4 : SlW (WfB w ao l.length cap V4) := ⟨G3.out.step hq4⟩
      have B4 : SlW (Below W.heap.size W V4) := ⟨B3.out.trans (hq4.mono B3.out.size)⟩
      have cr := G4.out.cr
      have fr' := G4.out.fr
      have F := FIN.out V4 G4.out (HNW.out V4 B4.out).2
      have HF : SlW _ := ⟨F⟩
      clear hq4 c3 cn3 F
      gi_wp2
      obtain ⟨hK', g0, hbz⟩ := HF.out
      refine ⟨by simp, .inl ⟨_, _, rfl, run_takeDeferred hK', ?_⟩⟩
      refine ⟨.bool true, ?_, rfl, hbz⟩
      simp [results, Tryz.f3, go_sem, g0]
    · have h4i : 4096 < (X.size : Int) := by omega
      have cr := FW.out.cr
      have fr' := FW.out.fr
      have F := FIN.out W FW.out hK
      have HF : SlW _ := ⟨F⟩
      clear hI h4 nW hK F
      gi_wp2
      obtain ⟨hK', g0, hbz⟩ := HF.out
      refine ⟨by simp, .inl ⟨_, _, rfl, run_takeDeferred hK', ?_⟩⟩
      refine ⟨.bool true, ?_, rfl, hbz⟩
      simp [results, Tryz.f3, go_sem, g0]
  case stop =>
    intro D c k W hD hk hX hK
    exact hX.elim

end Go.Proofs.YtljigfiokekpoaaGreatDoor

set_option linter.unusedSimpArgs false
set_option linter.unusedVariables false
namespace Go.Proofs.YtljigfiokekpoaaGreatDoor
open Go.RowKit Go.Lib

/-- WHAT THE ROW's LIST GIVES. -/
theorem tb8_of_laid {W : World} (h : laidMetH Tryz.prog [("math/bits.deBruijn32tab", Rows.laid_math_bits_deBruijn32tab), ("math/bits.deBruijn64tab", Rows.laid_math_bits_deBruijn64tab), ("internal/strconv.uint64pow10", Rows.laid_internal_strconv_uint64pow10), ("unicode/utf8.acceptRanges", Rows.laid_unicode_utf8_acceptRanges), ("sorrel/runes.spans", Rows.laid_sorrel_runes_spans), ("sorrel/arith.groups", Rows.laid_sorrel_arith_groups), ("sorrel/show.writings", Rows.laid_sorrel_show_writings), ("unicode/utf8.first", Rows.laid_unicode_utf8_first)] W) : Tb5 W ∧ Tabs W ∧ GrpCells W := by
  rw [MakeChecks.laidMetH_plain _ _ _ (by kernel_rfl)] at h
  have r1 := laidMet.reads h (n := "internal/strconv.uint64pow10") (d := Rows.laid_internal_strconv_uint64pow10) (by simp)
  have r2 := laidMet.reads h (n := "sorrel/runes.spans") (d := Rows.laid_sorrel_runes_spans) (by simp)
  have r3 := laidMet.reads h (n := "sorrel/show.writings") (d := Rows.laid_sorrel_show_writings) (by simp)
  have r4 := laidMet.reads h (n := "unicode/utf8.acceptRanges") (d := Rows.laid_unicode_utf8_acceptRanges) (by simp)
  have r5 := laidMet.reads h (n := "unicode/utf8.first") (d := Rows.laid_unicode_utf8_first) (by simp)
  have r6 := laidMet.reads h (n := "sorrel/arith.groups") (d := Rows.laid_sorrel_arith_groups) (by simp)
  rw [powData_eq] at r1
  rw [spansData_eq] at r2
  rw [writData_eq] at r3
  rw [accept_eq] at r4
  rw [first_eq] at r5
  rw [grpData_eqW] at r6
  exact ⟨⟨writ_of_reads r3, pows_of_reads r1, spans_of_reads r2⟩, ⟨spans_of_reads r2, utf8Tabs_of_reads Tryz.lays260 u8Extra r5 r4⟩, grps_of_readsW r6⟩
def laidWorld8 (P : Program) (os : Os) : World :=
  { World.holding P os ⟨#[], #[], []⟩ with heap := setVals (setVals (setVals (setVals (setVals (setVals (setVals (setVals (World.holding P os ⟨#[], #[], []⟩).heap 3 spanVals) 0 writVals) 2 powVals) 6 (deVals Rows.laid_math_bits_deBruijn32tab)) 7 (deVals Rows.laid_math_bits_deBruijn64tab)) 4 firstVals) 5 acceptVals) 1 (deValsW Rows.laid_sorrel_arith_groups) }
theorem wholeForms_walk (w : World) (ao : Option Addr) (cap : Nat) (l : List Nd) (eo : Option Addr) (ec : Nat) (bs : List Bd) (hT : Tb5 w ∧ Tabs w ∧ GrpCells w) (hR : Rd w ao cap l) (hF : FitX l) (hB : Bds w eo ec bs) (hreach : bs.length * 24 ≤ 140737488355328) :
    Calls Tryz.prog 3 #[.slice ao l.length cap, .slice eo bs.length ec] w fun e W' => e = .returned (.bool true) ∧ Below w.heap.size w W' := by
  refine (callsIn_wide (n := 4)).1 ?_
  cases hs : begL l with
  | none => exact forms_none l ao cap eo ec bs w hT.1 hT.2.1 hT.2.2 hR hF hB hreach hs
  | some fr => exact forms_some l ao cap eo ec bs w hT.1 hT.2.1 hT.2.2 hR hF hB hreach fr hs
end Go.Proofs.YtljigfiokekpoaaGreatDoor

set_option linter.unusedVariables false
namespace Go.Proofs.YtljigfiokekpoaaGreatDoor.wholeforms
open Go.ChangeShapes Go.WideShapes Go.ChangeAt Go.RowKit Go.WideMaps Go.WideElems
open Go.ChangeMaps (open_string shut_string)

set_option maxRecDepth 100000 in
set_option maxHeartbeats 1000000 in
theorem contract (H : Type) (enc : TypeId × Value → H) (W : World) (base : Nat) (args : Array Value) (ds gs : List (DataW H)) (before : List MemPlace)
    (hval : ∀ (j : Nat) t v, Tryz.f3.params[j]? = some t → args[j]? = some v → Value.okWide Tryz.prog W .any base t v)
    (hW : DataW.Whole enc Tryz.prog Tryz.f3.params.toList Rows.wholeFormsSpec.vars false W args.toList ds gs before)
    (hsz : (DataW.weightsEach Tryz.prog (Tryz.f3.params.toList ++ (OpenSpec.ofChange Rows.wholeFormsSpec).bare.plain.varTypes Tryz.prog) (ds ++ gs)).all (· ≤ reachBytes) = true)
    (hL : laidMetH Tryz.prog Rows.wholeFormsRow.laid W) :
    Calls Tryz.prog 3 args W fun e W' => ∃ v, e = .returned v ∧ Rows.wholeFormsSpec.post enc Tryz.prog Tryz.f3 false true false false W args v W' := by
  have hW' := hW
  have hlt : ∀ x ∈ before, x.block < W.heap.size := fun x hx => by simpa using hW'.lt x hx
  obtain ⟨p, q, hA0, hV, rfl, hfz, hnd⟩ := hW
  have hA : DataW.TrodAll enc Tryz.prog W 0 (fun _ => true) true Tryz.f3.params.toList args.toList ds p := hA0
  rw [Tryz.params3 ] at hA hval
  obtain ⟨v0, vs0, d0, ds0, p0, q0, hargs0, rfl, rfl, h0, r0⟩ := trodAll_cons hA
  obtain ⟨v1, vs1, d1, ds1, p1, q1, rfl, rfl, rfl, h1, r1⟩ := trodAll_cons r0
  obtain ⟨rfl, rfl, rfl⟩ := trodAll_nil r1
  obtain rfl : args = #[v0, v1] := by cases args; simp_all
  obtain ⟨rfl, rfl⟩ := trodVars_none hV
  clear hA0
  simp only [List.append_nil] at hW' hsz
  have h0k := h0
  have ok0 : Value.okWide Tryz.prog W .any base 22 v0 := hval 0 22 v0 (by rfl) (by rfl)
  obtain ⟨a0, n0, c0, rfl⟩ := okWide_slice Tryz.underlying22 ok0
  obtain ⟨fu0, hf0⟩ := h0
  obtain ⟨ao0, cap0, l0, he0, R0, hF0⟩ := open_nodesX (v := .slice a0 n0 c0) hf0
  cases he0
  have F0 := hF0 fun n hn => of_decide_eq_true (List.all_eq_true.1 hsz n (DataW.weights_mem_each (j := 0) (t := 22) (by kernel_rfl) rfl n hn))
  have h1k := h1
  have ok1 : Value.okWide Tryz.prog W .any base 23 v1 := hval 1 23 v1 (by rfl) (by rfl)
  obtain ⟨a1, n1, c1, rfl⟩ := okWide_slice Tryz.underlying23 ok1
  obtain ⟨fu1, hf1⟩ := h1
  obtain ⟨ao1, cap1, l1, he1, R1, K1, hF1⟩ := open_binds (v := .slice a1 n1 c1) hf1
  cases he1
  have F1 := hF1 fun n hn => of_decide_eq_true (List.all_eq_true.1 hsz n (DataW.weights_mem_each (j := 1) (t := 23) (by kernel_rfl) rfl n hn))
  refine (wholeForms_walk W a0 c0 l0 a1 c1 l1 (tb8_of_laid hL) R0 F0 R1 (by have := F1; have := R1.1.1; omega)).mono fun e W' ⟨he, hg⟩ => ?_
  subst he
  exact ⟨_, rfl, post_below (pv := []) hW' (fun _ _ _ => trodAll_cons_mk (shut_bool Tryz.underlying4 _) trodAll_mk0) (fun sp hsp => trodAll_cons_mk (Trod_stays Tryz.laidOut (by kernel_rfl) (of_decide_eq_true (by kernel_rfl)) h0k (fun x hx => hg.same (hlt x (by simp [hx]))) (fun x hx => hsp x (by simp [hx]))) (trodAll_cons_mk (Trod_stays Tryz.laidOut (by kernel_rfl) (of_decide_eq_true (by kernel_rfl)) h1k (fun x hx => hg.same (hlt x (by simp [hx]))) (fun x hx => hsp x (by simp [hx]))) trodAll_mk0)) (fun _ _ => rfl) (by simp) (hg.frame _)⟩

end Go.Proofs.YtljigfiokekpoaaGreatDoor.wholeforms
