/-
  EtTmW, PsPure.
-/
import Derived.Shelf.Unicode.DecodeSlow
import Derived.Laws.RangeAny
import Derived.Shelf.Strings.Builder1
import Derived.Shelf.Small.Utf8
import Derived.Shelf.Strings.BuilderF
import Derived.Shelf.Strings.BuilderK
import Derived.Shelf.Strings.BuilderRune
import Derived.Shelf.Utf8.AppendRune
import Derived.Shelf.Strconv.Itoa0
import Derived.Shelf.Strconv.Itoa1
import Derived.Shelf.LaysM
import Derived.Shelf.Strconv.Itoa2
import Derived.Shelf.Strconv.Itoa3
import Derived.Shelf.Strconv.Itoa4
import Derived.Shelf.Strings.Prefix
import Derived.Shelf.Unicode.DecodeAny
import Derived.Test.YtljigfiokekpoaaGreatDoorProg
import Derived.WalkKit
import Derived.Deep.DeepFit
import Derived.Lib.OthersKept
import Derived.Lib.RuneCountTail
import Derived.RowKit
import Derived.Laws.Entries
import Derived.Below
import Derived.Deep.AppendLies
import Derived.Deep.OwnRows
import Derived.Laws.AppendOwnNone
import Derived.Deep.QuietTactic
import Derived.BigQuiet
import Derived.Deep.RegionWith
import Derived.Laws.DeepStrings4
import Derived.Lib.QuietBelow
import Derived.StillTail
import Derived.Test.YtljigfiokekpoaaGreatDoorChecked
import Derived.Defers
import Derived.Deep.RegionLaw
import Derived.Laws.ResultCell
import Derived.RangeFuncNested
import Derived.RangeFuncBound
import Derived.RangeFuncCalls
import Derived.RangeFuncLeaves
import Derived.RangeFuncBox
import Derived.Shelf.Abstract
import Derived.Shelf.RegionOpen
import Derived.OwnWalkIn
import Derived.TacticsInMore
import Derived.LoopNIn
import Derived.LoopIn
import Derived.Lib.Strings
import Derived.RangeFuncOwn
import Derived.Lib.Small
import Derived.Test.YtljigfiokekpoaaGreatDoorZ01
import Derived.Test.YtljigfiokekpoaaGreatDoorZ02
import Derived.Test.YtljigfiokekpoaaGreatDoorZ03
import Derived.Test.YtljigfiokekpoaaGreatDoorZ04
import Derived.Test.YtljigfiokekpoaaGreatDoorZ05
import Derived.Test.YtljigfiokekpoaaGreatDoorZ06
import Derived.Test.YtljigfiokekpoaaGreatDoorZ07
import Derived.Test.YtljigfiokekpoaaGreatDoorZ08
import Derived.Test.YtljigfiokekpoaaGreatDoorZ09
import Derived.Test.YtljigfiokekpoaaGreatDoorZ14
import Derived.Test.YtljigfiokekpoaaGreatDoorZ16
import Derived.Test.YtljigfiokekpoaaGreatDoorZ17
import Derived.Test.YtljigfiokekpoaaGreatDoorZ18
import Derived.Test.YtljigfiokekpoaaGreatDoorZ19
import Derived.Test.YtljigfiokekpoaaGreatDoorZ20
import Derived.Test.YtljigfiokekpoaaGreatDoorZ21
import Derived.Test.YtljigfiokekpoaaGreatDoorZ22
import Derived.Test.YtljigfiokekpoaaGreatDoorZ23
import Derived.Test.YtljigfiokekpoaaGreatDoorZ24
import Derived.Test.YtljigfiokekpoaaGreatDoorZ25
import Derived.Test.YtljigfiokekpoaaGreatDoorZ26
set_option linter.unusedSimpArgs false
set_option linter.unusedVariables false
namespace Go.Proofs.YtljigfiokekpoaaGreatDoor
open Go.RowKit Go.Shelf
attribute [local go_sem] Oper.semAt_some

theorem blk_own {W W' : World} {row : Option Nat} {b : Nat} {c : Array Value} {T : TypeId} {f : Nat × Nat} (h : W.heap[b]? = some (.cells c T f)) (hg : W.grownBy W' row) (hr : ∀ r, row = some r → ∃ o : Obj, W.heap[r]? = some o ∧ o.isCells = false) : W'.heap[b]? = some (.cells c T f) := by
  refine (hg.block b (lt_of_block h) (fun e => ?_)).trans h
  obtain ⟨o, ho, hc⟩ := hr b e.symm
  rw [h] at ho; cases ho; cases hc
theorem Ew.own {W W' : World} {row : Option Nat} {p : Nat} {ev v : Value} {st : List Int} (h : Ew W p ev v st) (hg : W.grownBy W' row) (hr : ∀ r, row = some r → ∃ o : Obj, W.heap[r]? = some o ∧ o.isCells = false) : Ew W' p ev v st := by
  refine ⟨blk_own h.blk hg hr, h.on.kept hg ?_⟩
  rcases h.on.2 with ⟨rfl, _⟩ | ⟨g, cap, cur, rfl, _, hgb, _⟩
  · exact .inl rfl
  · refine .inr fun e' => ?_
    obtain ⟨o, ho, hc⟩ := hr g (by simpa [Value.ownBlock] using e'.symm)
    rw [hgb] at ho; cases ho; cases hc
theorem AllAt.own {W W' : World} {row : Option Nat} {B : Nat} {ta : Option Addr} {tc : Nat} {ts : List Tm} (h : AllAt W B ta tc ts) (hg : W.grownBy W' row) (hr : ∀ r, row = some r → ∃ o : Obj, W.heap[r]? = some o ∧ o.isCells = false) : AllAt W' B ta tc ts := by
  obtain ⟨x, y, hb⟩ := h.blk
  refine ⟨⟨x, y, blk_own hb hg hr⟩, h.le, h.em, ?_⟩
  rcases h.rd with h | ⟨g, cur, e, hgb, hc⟩
  · exact .inl h
  · have hg' := blk_own hgb hg hr
    refine .inr ⟨g, cur, e, hg', fun j hj => ?_⟩
    rw [← hc j hj]
    exact World.cell?_of_block (a := ⟨g, j, none⟩) (hg'.trans hgb.symm)
theorem in_round {l n : Nat} {P : Program} {f : FuncId} {args : Array Value} {w : World} {R : Ending → World → Prop} (h : Calls P f args w R) : CallsIn (Fence.wide.inRound l) n P f args w R := (callsIn_wide (n := n)).2 h

/-- What term turns lies apart from the list. -/
theorem kpa_ko {W W2 : World} {p B : Nat} {ev v : Value} {st : List Int} {ta : Option Addr} {tc : Nat} {ts : List Tm} (hE : Ew W p ev v st) (hA : AllAt W B ta tc ts) (hts : ts ≠ []) (hB : B ≠ p) (hg : ∀ g, ta = some ⟨g, 0, none⟩ → g ≠ p) (hk : KoW p v W W2) : KpA B ta W W2 := by
  have key : ∀ b c T f, W.heap[b]? = some (.cells c T f) → T ≠ 2 → some b ≠ v.ownBlock := fun b c T f hb hT e => by
    rcases hE.on.2 with ⟨rfl, _⟩ | ⟨g', cap, cur, rfl, _, hgb, _⟩
    · cases e
    · have e2 : b = g' := by simpa [Value.ownBlock] using e
      subst e2
      rw [hb] at hgb
      injection hgb with h1
      injection h1 with h2 h3
      exact hT h3
  obtain ⟨x, y, hb⟩ := hA.blk
  refine ⟨fun o ho => (hk.same B (lt_of_block hb) hB (key B _ _ _ hb (by decide))).trans ho, fun g o e ho => ?_⟩
  rcases hA.rd with h | ⟨g', cur, e', hgb, _⟩
  · exact absurd h hts
  · rw [e] at e'
    cases e'
    exact (hk.same g (lt_of_block hgb) (hg g e) (key g _ _ _ hgb (by decide))).trans ho
theorem all_snd {t : Tm} {k : Nat} (h : k < (allT t).length) : allT t = subsT t ∧ ∃ fr, begL (flatT t) = some fr := by
  unfold allT at h ⊢
  by_cases hs : sndB (flatT t) = true
  · rw [if_pos hs]
    exact ⟨rfl, Option.isSome_iff_exists.1 hs⟩
  · rw [if_neg hs] at h; simp at h
theorem want_flat {t : Tm} {fr : List Nat} (h : begL (flatT t) = some fr) : wantT t = flatT t := by unfold wantT; rw [if_pos (sndW_some h)]
theorem take_snoc {ts : List Tm} {k : Nat} (h : k < ts.length) : ts.take (k + 1) = ts.take k ++ [ts.getD k .nil] := by rw [List.take_succ_eq_append_getElem h]; simp [h]

/-- Between two rounds of Term: the numbers of the terms so far; the results' boxes; the list. -/
structure TmI (w W0 : World) (ev : Value) (bs : List Bd) (B : Nat) (ta : Option Addr) (tc : Nat) (ts : List Tm) (k : Nat) (W : World) : Prop where
  st : ∃ v st, evQ bs (ts.take k) = some st ∧ Ew W (w.heap.size + 1 + 1) ev v st
  r0 : W.heap[w.heap.size]? = some (.cells #[.int .i64 0] 2 (0, 0))
  r1 : W.heap[w.heap.size + 1]? = some (.cells #[.int .i64 0] 24 (0, 0))
  all : AllAt W B ta tc ts
  below : Below w.heap.size w W
  size : W0.heap.size ≤ W.heap.size
/-- A round has trapped. -/
structure TmX (w : World) (bs : List Bd) (ts : List Tm) (c : Code) (k : Nat) (W : World) : Prop where
  ret : c = .ret
  st : ∃ st, evQ bs (ts.take k) = some st ∧ evM bs st (ts.getD k .nil) = none
  r0 : W.heap[w.heap.size]? = some (.cells #[.int .i64 0] 2 (0, 0))
  r1 : W.heap[w.heap.size + 1]? = some (.cells #[.int .i64 12] 24 (0, 0))
  below : Below w.heap.size w W
theorem TmI.own {w W0 : World} {ev : Value} {bs : List Bd} {B : Nat} {ta : Option Addr} {tc : Nat} {ts : List Tm} (hw : w.heap.size ≤ W0.heap.size) : OwnFrom W0.heap.size (TmI w W0 ev bs B ta tc ts) := fun k W W' row h hg hr => by
  have hr' : ∀ r, row = some r → ∃ o : Obj, W.heap[r]? = some o ∧ o.isCells = false := fun r e => (hr r e).2
  obtain ⟨v, st, hq, hE⟩ := h.st
  exact ⟨⟨v, st, hq, hE.own hg hr'⟩, blk_own h.r0 hg hr', blk_own h.r1 hg hr', h.all.own hg hr', h.below.grown hg (by have := h.size; omega) (fun r e => by have := (hr r e).1; omega), Nat.le_trans h.size hg.size⟩
theorem TmX.own {w W0 : World} {bs : List Bd} {ts : List Tm} (hw : w.heap.size ≤ W0.heap.size) (c : Code) : OwnFrom W0.heap.size (TmX w bs ts c) := fun k W W' row h hg hr => by
  have hr' : ∀ r, row = some r → ∃ o : Obj, W.heap[r]? = some o ∧ o.isCells = false := fun r e => (hr r e).2
  exact ⟨h.ret, h.st, blk_own h.r0 hg hr', blk_own h.r1 hg hr', h.below.grown hg h.below.size (fun r e => by have := (hr r e).1; omega)⟩

set_option maxRecDepth 100000 in
set_option maxHeartbeats 4000000 in
theorem term_in (t : Tm) (hO : OthH t) (eo : Option Addr) (ec : Nat) (bs : List Bd) (hreach : bs.length * 24 ≤ 140737488355328) (w : World) (hT : SpanCells w) (hG : GrpCells w) (hB : Bds w eo ec bs) :
    CallsIn Fence.wide 4 Tryz.prog 11 #[tv t, .slice eo bs.length ec] w fun e W' => e = .returned (.tuple #[.int .i64 (evA bs (wantT t)).1, .int .i64 (evA bs (wantT t)).2]) ∧ Below w.heap.size w W' := by
  have hro : Fence.wide.round = none := rfl
  have cALL : Hid (∀ V, SpanCells V → Calls Tryz.prog 13 #[tv t] V fun e w' => ∃ B ta tc, e = .returned (.func (.func 24) #[] #[.pointer (some ⟨B, 0, none⟩)]) ∧ V.heap.size ≤ B ∧ (∀ g, ta = some ⟨g, 0, none⟩ → V.heap.size ≤ g) ∧ AllAt w' B ta tc (allT t) ∧ Below V.heap.size V w') := fun V hV => all_any t hO V hV
  obtain ⟨v, hv⟩ : ∃ v, tv t = v := ⟨_, rfl⟩
  rw [hv] at cALL ⊢
  clear hv
  obtain ⟨P1, hP1⟩ : ∃ P1, evA bs (wantT t) = P1 := ⟨_, rfl⟩
  rw [hP1]
  have HP : Hid (evA bs (wantT t) = P1) := hP1
  clear hP1
  obtain ⟨p1, p2⟩ := P1
  have hb3 : Below w.heap.size w (((w.alloc (.cells #[.int .i64 0] 2)).alloc (.cells #[.int .i64 0] 24)).alloc (.cells #[.slice eo bs.length ec, .slice none 0 0] 49)) := (((Below.refl _ w).alloc (Nat.le_refl _) _).alloc (by simp) _).alloc (by simp; omega) _
  refine callsIn_of_wp_marks Tryz.func11 rfl trivial ?_ hro
  simp only [Tryz.ntmps11, List.size_toArray, List.length_cons, List.length_nil, Nat.reduceAdd, Nat.reduceSub, Array.replicate_succ, Array.replicate_zero, List.push_toArray, List.append_toArray, List.nil_append, List.cons_append]
  gi_wp2
  refine ⟨trivial, ((callsIn_wide (n := 3)).2 (cALL.out _ (hT.below hb3))).mono ?_⟩
  rintro e W0 ⟨B, ta, tc, rfl, hBB, hgB, hA, hbA⟩
  have hs3 : (((w.alloc (.cells #[.int .i64 0] 2)).alloc (.cells #[.int .i64 0] 24)).alloc (.cells #[.slice eo bs.length ec, .slice none 0 0] 49)).heap.size = w.heap.size + 3 := by simp
  have b0 : (((w.alloc (.cells #[.int .i64 0] 2)).alloc (.cells #[.int .i64 0] 24)).alloc (.cells #[.slice eo bs.length ec, .slice none 0 0] 49)).heap[w.heap.size]? = some (.cells #[.int .i64 0] 2 (0, 0)) := (Deep.blk_alloc_lt _ _ _ (by simp; omega)).trans ((Deep.blk_alloc_lt _ _ _ (by simp)).trans (Deep.blk_alloc_new _ _))
  have b1 : (((w.alloc (.cells #[.int .i64 0] 2)).alloc (.cells #[.int .i64 0] 24)).alloc (.cells #[.slice eo bs.length ec, .slice none 0 0] 49)).heap[w.heap.size + 1]? = some (.cells #[.int .i64 0] 24 (0, 0)) := by
    refine (Deep.blk_alloc_lt _ _ _ (by simp)).trans ?_
    have := Deep.blk_alloc_new (w.alloc (.cells #[.int .i64 0] 2)) (.cells #[.int .i64 0] 24)
    rw [World.size_alloc] at this
    exact this
  have b2 : (((w.alloc (.cells #[.int .i64 0] 2)).alloc (.cells #[.int .i64 0] 24)).alloc (.cells #[.slice eo bs.length ec, .slice none 0 0] 49)).heap[w.heap.size + 1 + 1]? = some (.cells #[.slice eo bs.length ec, .slice none 0 0] 49 (0, 0)) := by
    have := Deep.blk_alloc_new ((w.alloc (.cells #[.int .i64 0] 2)).alloc (.cells #[.int .i64 0] 24)) (.cells #[.slice eo bs.length ec, .slice none 0 0] 49)
    rw [World.size_alloc, World.size_alloc] at this
    exact this
  generalize (((w.alloc (.cells #[.int .i64 0] 2)).alloc (.cells #[.int .i64 0] 24)).alloc (.cells #[.slice eo bs.length ec, .slice none 0 0] 49)) = Wp at *
  have hbW : Below w.heap.size w W0 := hb3.trans (hbA.mono hb3.size)
  have hsz0 : w.heap.size + 3 ≤ W0.heap.size := by have := hbA.size; omega
  have hBlt : B < W0.heap.size := by obtain ⟨x, y, hb⟩ := hA.blk; exact lt_of_block hb
  have hBge : w.heap.size + 3 ≤ B := by omega
  have hgt : ∀ g, ta = some ⟨g, 0, none⟩ → w.heap.size + 3 ≤ g := fun g e => by have := hgB g e; omega
  have hi0 : TmI w W0 (.slice eo bs.length ec) bs B ta tc (allT t) 0 W0 := ⟨⟨.slice none 0 0, [], rfl, ⟨(hbA.block _ (by omega)).trans b2, World.ownsRow_nil _ _ _ _⟩⟩, (hbA.block _ (by omega)).trans b0, (hbA.block _ (by omega)).trans b1, hA, hbW, Nat.le_refl _⟩
  have HT : Hid (SpanCells w) := hT
  have HG : Hid (GrpCells w) := hG
  have HBD : Hid (Bds w eo ec bs) := hB
  clear b0 b1 b2 hbA hb3 hs3 hT hG hB cALL
  gi_wp2
  refine range_seq (gf := 24) (lb := #[.pointer (some ⟨B, 0, none⟩)]) hro (by omega) rfl trivial (enters_of Tryz.func24 (by kernel_rfl) rfl) (allT t).length (fun k => #[tv ((allT t).getD k .nil)]) (fun _ => rfl) (KpA B ta) KpA.trans
    (fun W l o o' hl ho hc => ⟨fun o1 h1 => (World.putObj_heap_other (by omega)).trans h1, fun g o1 e h1 => ?kb⟩)
    (fun l J Jx W hW hY h0 => all1_in Fence.wide 3 trivial hro (by omega) l B ta tc (allT t) J Jx W (hA.below hW) hY h0)
    (TmI w W0 (.slice eo bs.length ec) bs B ta tc (allT t)) (TmX w bs (allT t)) (TmI.own (by omega)) (TmX.own (by omega)) hi0
    (fun k => { tmps := #[v, .slice eo bs.length ec, undef, undef, .pointer (some ⟨w.heap.size, 0, none⟩), .pointer (some ⟨w.heap.size + 1, 0, none⟩), .pointer (some ⟨w.heap.size + 1 + 1, 0, none⟩), tv ((allT t).getD k .nil), .slice eo bs.length ec, .agg #[.slice eo bs.length ec, .slice none 0 0], v, .func (.func 24) #[] #[.pointer (some ⟨B, 0, none⟩)], tv ((allT t).getD k .nil), undef, undef, undef, undef, undef, undef, undef, undef, undef, undef, undef], defers := [] })
    ?assign ?body ?done ?stop
  case kb =>
    rcases hA.rd with h | ⟨g', cur, e', hg', _⟩
    · have := hA.em h
      rw [this] at e; cases e
    · rw [e] at e'; cases e'
      exact (World.putObj_heap_other (by have := lt_of_block hg'; omega)).trans h1
  case assign =>
    intro l k W K hK
    gi_wp2
    exact hK
  case body =>
    intro l k W hl hk hI
    obtain ⟨hts, fr, hbg⟩ := all_snd hk
    obtain ⟨v1, st, hq, hE⟩ := hI.st
    have hkf : k < (flatT t).length := by rw [hts, subs_len] at hk; exact hk
    have hq' := hq
    rw [hts] at hq'
    obtain ⟨hk1, hk2⟩ := stk_sub hbg hkf hq'
    have hfit := sub_form hbg k hkf
    rw [← hts] at hk1 hfit
    have cW := in_round (l := l) (n := 1) (wterm_any W (w.heap.size + 1 + 1) eo ec v1 st bs ((allT t).getD k .nil) hfit hE hk2 hk1 (HG.out.below hI.below) (HBD.out.below hI.below) hreach)
    have HNX : Hid (evQ bs ((allT t).take (k + 1)) = evM bs st ((allT t).getD k .nil)) := by rw [Hid, take_snoc hk, evQ_snoc, hq]; rfl
    have HQ : Hid (evQ bs ((allT t).take k) = some st) := hq
    have hne : allT t ≠ [] := fun e => by rw [e] at hk; simp at hk
    clear hts hq' hkf hbg
    generalize hxx : (allT t).getD k .nil = x at *
    have HXX : Hid ((allT t).getD k .nil = x) := hxx
    clear hxx
    gi_wp2
    refine ⟨trivial, cW.mono ?_⟩
    rintro e W2 ⟨⟨⟨er, rfl, hr⟩, hb2⟩, hko⟩
    have hrow : ∀ b, b < w.heap.size + 1 + 1 + 1 → some b ≠ v1.ownBlock := fun b hb e => by have := (hE.on.lt b e.symm).1; omega
    have s0 : W2.heap[w.heap.size]? = some (.cells #[.int .i64 0] 2 (0, 0)) := (hko.same _ (lt_of_block hI.r0) (by omega) (hrow _ (by omega))).trans hI.r0
    have s1 : W2.heap[w.heap.size + 1]? = some (.cells #[.int .i64 0] 24 (0, 0)) := (hko.same _ (lt_of_block hI.r1) (by omega) (hrow _ (by omega))).trans hI.r1
    have hbw : Below w.heap.size w W2 := hI.below.trans (hb2.mono (by omega))
    cases hv : evM bs st x with
    | some st' =>
      rw [hv] at hr
      obtain ⟨rfl, v3, hE3⟩ := hr
      have hkp := kpa_ko hE hI.all hne (by omega) (fun g e => by have := hgt g e; omega) hko
      gi_wp2
      exact ⟨hko.ko.from _, hkp, ⟨v3, st', by rw [HNX.out, hv], hE3⟩, s0, s1, hI.all.kp hkp, hbw, Nat.le_trans hI.size hko.ko.size⟩
    | none =>
      rw [hv] at hr
      have hr2 : er ≠ 0 := hr
      have ge : (er != 0) = true := by simp [hr2]
      have c0 : W2.cell? ⟨w.heap.size, 0, none⟩ = some (.int .i64 0) := by simp [World.cell?, s0]
      have c1 : W2.cell? ⟨w.heap.size + 1, 0, none⟩ = some (.int .i64 0) := by simp [World.cell?, s1]
      have f0 : W2.frozen? ⟨w.heap.size, 0, none⟩ = false := by simp [World.frozen?, s0]
      have f1 : W2.frozen? ⟨w.heap.size + 1, 0, none⟩ = false := by simp [World.frozen?, s1]
      clear hr hr2
      gi_wp2
      refine ⟨((hko.ko.trans (KeepsOthers.setCell _ _ _)).trans (KeepsOthers.setCell _ _ _)).from _, rfl, ⟨st, HQ.out, by rw [HXX.out]; exact hv⟩, ?_, ?_, (hbw.setCell (p := ⟨w.heap.size, 0, none⟩) (Nat.le_refl _) _).setCell (p := ⟨w.heap.size + 1, 0, none⟩) (by show w.heap.size ≤ w.heap.size + 1; omega) _⟩
      · rw [Deep.blk_setCell_other _ _ _ _ (by show w.heap.size ≠ w.heap.size + 1; omega)]
        have := heap_setCell_same W2 w.heap.size 0 #[.int .i64 0] 2 (.int .i64 0) s0
        simpa using this
      · have h1 : (W2.setCell ⟨w.heap.size, 0, none⟩ (.int .i64 0)).heap[w.heap.size + 1]? = some (.cells #[.int .i64 0] 24 (0, 0)) := (Deep.blk_setCell_other _ _ _ _ (by show w.heap.size + 1 ≠ w.heap.size; omega)).trans s1
        have := heap_setCell_same _ (w.heap.size + 1) 0 #[.int .i64 0] 24 (.int .i64 12) h1
        simpa using this
  case done =>
    intro D W hD hI hK
    obtain ⟨v1, st, hq, hE⟩ := hI.st
    rw [List.take_length] at hq
    have c0 : W.cell? ⟨w.heap.size, 0, none⟩ = some (.int .i64 0) := by simp [World.cell?, hI.r0]
    have c1 : W.cell? ⟨w.heap.size + 1, 0, none⟩ = some (.int .i64 0) := by simp [World.cell?, hI.r1]
    have f0 : W.frozen? ⟨w.heap.size, 0, none⟩ = false := by simp [World.frozen?, hI.r0]
    have f1 : W.frozen? ⟨w.heap.size + 1, 0, none⟩ = false := by simp [World.frozen?, hI.r1]
    have FIN : ∀ (x y : Int), p1 = x → p2 = y → ∀ W3, W3 = (W.setCell ⟨w.heap.size, 0, none⟩ (.int .i64 x)).setCell ⟨w.heap.size + 1, 0, none⟩ (.int .i64 y) → W3.heap[D]? = some (.deferred (some [])) ∧ (W3.putObj D (.deferred none)).cell? ⟨w.heap.size, 0, none⟩ = some (.int .i64 p1) ∧ (W3.putObj D (.deferred none)).cell? ⟨w.heap.size + 1, 0, none⟩ = some (.int .i64 p2) ∧ Below w.heap.size w (W3.putObj D (.deferred none)) := by
      rintro x y rfl rfl W3 rfl
      have hK' := ((KeepsOthers.setCell W ⟨w.heap.size, 0, none⟩ (.int .i64 p1)).trans (KeepsOthers.setCell _ ⟨w.heap.size + 1, 0, none⟩ (.int .i64 p2))).same D _ hK rfl
      have q0 : ((W.setCell ⟨w.heap.size, 0, none⟩ (.int .i64 p1)).setCell ⟨w.heap.size + 1, 0, none⟩ (.int .i64 p2)).cell? ⟨w.heap.size, 0, none⟩ = some (.int .i64 p1) := by
        have h1 := heap_setCell_same W w.heap.size 0 #[.int .i64 0] 2 (.int .i64 p1) hI.r0
        have h2 : ((W.setCell ⟨w.heap.size, 0, none⟩ (.int .i64 p1)).setCell ⟨w.heap.size + 1, 0, none⟩ (.int .i64 p2)).heap[w.heap.size]? = _ := (Deep.blk_setCell_other _ _ _ _ (by show w.heap.size ≠ w.heap.size + 1; omega)).trans h1
        simp [World.cell?, h2]
      have q1 : ((W.setCell ⟨w.heap.size, 0, none⟩ (.int .i64 p1)).setCell ⟨w.heap.size + 1, 0, none⟩ (.int .i64 p2)).cell? ⟨w.heap.size + 1, 0, none⟩ = some (.int .i64 p2) := by
        have h1 : (W.setCell ⟨w.heap.size, 0, none⟩ (.int .i64 p1)).heap[w.heap.size + 1]? = some (.cells #[.int .i64 0] 24 (0, 0)) := (Deep.blk_setCell_other _ _ _ _ (by show w.heap.size + 1 ≠ w.heap.size; omega)).trans hI.r1
        have h2 := heap_setCell_same _ (w.heap.size + 1) 0 #[.int .i64 0] 24 (.int .i64 p2) h1
        simp [World.cell?, h2]
      exact ⟨hK', cell_kept q0 (grownBy_putObj' _ D (.deferred none)) (fun r e => by cases e; exact ⟨_, hK', rfl⟩), cell_kept q1 (grownBy_putObj' _ D (.deferred none)) (fun r e => by cases e; exact ⟨_, hK', rfl⟩), ((hI.below.setCell (p := ⟨w.heap.size, 0, none⟩) (Nat.le_refl _) _).setCell (p := ⟨w.heap.size + 1, 0, none⟩) (by show w.heap.size ≤ w.heap.size + 1; omega) _).trans (belowK_b (w := w) (Nat.le_refl _) _ D _ _ (by omega) hK' rfl rfl)⟩
    cases hs : begL (flatT t) with
    | none =>
      have hem : allT t = [] := by unfold allT; rw [if_neg (by rw [sndW_none hs]; simp)]
      have hw : wantT t = [] := by unfold wantT; rw [if_neg (by rw [sndW_none hs]; simp)]
      rw [hem] at hq
      have hst : st = [] := (Option.some.inj hq).symm
      subst hst
      obtain ⟨va, vc, rfl⟩ := row_form' hE.on
      have cp := hE.c1
      have hP := HP.out
      rw [hw] at hP
      have hP2 : (p1, p2) = ((0 : Int), (1 : Int)) := hP.symm.trans rfl
      obtain ⟨e1, e2⟩ := Prod.mk.inj hP2
      have F := FIN 0 1 e1 e2 _ rfl
      clear FIN hP hP2 hq
      gi_wp2
      obtain ⟨hK', g0, g1, hbz⟩ := F
      refine ⟨by simp, .inl ⟨_, _, rfl, run_takeDeferred hK', ?_⟩⟩
      refine ⟨.tuple #[.int .i64 p1, .int .i64 p2], ?_, rfl, hbz⟩
      simp [results, Tryz.f11, go_sem, g0, g1]
    | some fr =>
      have hem : allT t = subsT t := by unfold allT; rw [if_pos (sndW_some hs)]
      rw [hem] at hq
      obtain ⟨hP, hl1⟩ := term_all hs hq
      rw [← want_flat hs, HP.out] at hP
      obtain ⟨e1, e2⟩ := Prod.mk.inj hP
      obtain ⟨va, vc, hve⟩ : ∃ g vc, v1 = .slice (some ⟨g, 0, none⟩) 1 vc := by
        rcases hE.on.2 with ⟨_, h0⟩ | ⟨g', cap', cur, rfl, _⟩
        · omega
        · exact ⟨g', cap', by rw [hl1]⟩
      subst hve
      have cp := hE.c1
      have cg : W.cell? ⟨va, 0, none⟩ = some (.int .i64 p1) := by
        have := hE.on.cells (g := va) rfl 0 (.int .i64 p1) (by
          rw [e1]
          match st, hl1 with
          | [x], _ => rfl)
        have e0 : (⟨va, 0, none⟩ : Addr).add 0 = ⟨va, 0, none⟩ := rfl
        rw [e0] at this
        exact this
      have hvl := (hE.on.lt va rfl).1
      have cg2 : (W.setCell ⟨w.heap.size, 0, none⟩ (.int .i64 p1)).cell? ⟨va, 0, none⟩ = some (.int .i64 p1) := (World.cell?_of_block (a := ⟨va, 0, none⟩) (Deep.blk_setCell_other _ _ _ _ (by show va ≠ w.heap.size; omega))).trans cg
      have F := FIN p1 0 rfl e2 _ rfl
      clear FIN hP hq e1
      gi_wp2
      obtain ⟨hK', g0, g1, hbz⟩ := F
      refine ⟨by simp, .inl ⟨_, _, rfl, run_takeDeferred hK', ?_⟩⟩
      refine ⟨.tuple #[.int .i64 p1, .int .i64 p2], ?_, rfl, hbz⟩
      simp [results, Tryz.f11, go_sem, g0, g1]
  case stop =>
    intro D c k W hD hk hX hK
    obtain ⟨hts, fr, hbg⟩ := all_snd hk
    obtain ⟨st, hq, hn⟩ := hX.st
    have hkf : k < (flatT t).length := by rw [hts, subs_len] at hk; exact hk
    rw [hts] at hq hn
    have hP := term_trap hbg hkf hq hn
    rw [← want_flat hbg, HP.out] at hP
    obtain ⟨rfl, rfl⟩ := Prod.mk.inj hP
    have hc := hX.ret
    subst hc
    have q0 : W.cell? ⟨w.heap.size, 0, none⟩ = some (.int .i64 0) := by simp [World.cell?, hX.r0]
    have q1 : W.cell? ⟨w.heap.size + 1, 0, none⟩ = some (.int .i64 12) := by simp [World.cell?, hX.r1]
    gi_wp2
    refine ⟨by simp, .inl ⟨_, _, rfl, run_takeDeferred hK, ?_⟩⟩
    have g0 := cell_kept q0 (grownBy_putObj' _ D (.deferred none)) (fun r e => by cases e; exact ⟨_, hK, rfl⟩)
    have g1 := cell_kept q1 (grownBy_putObj' _ D (.deferred none)) (fun r e => by cases e; exact ⟨_, hK, rfl⟩)
    refine ⟨.tuple #[.int .i64 0, .int .i64 12], ?_, rfl, hX.below.trans (belowK_b (w := w) (Nat.le_refl _) W D _ _ (by omega) hK rfl rfl)⟩
    simp [results, Tryz.f11, go_sem, g0, g1]

theorem term_any8 (t : Tm) (hO : OthH t) (eo : Option Addr) (ec : Nat) (bs : List Bd) (hreach : bs.length * 24 ≤ 140737488355328) (w : World) (hT : SpanCells w) (hG : GrpCells w) (hB : Bds w eo ec bs) :
    Calls Tryz.prog 11 #[tv t, .slice eo bs.length ec] w fun e W' => e = .returned (.tuple #[.int .i64 (evA bs (wantT t)).1, .int .i64 (evA bs (wantT t)).2]) ∧ Below w.heap.size w W' :=
  (callsIn_wide (n := 4)).1 (term_in t hO eo ec bs hreach w hT hG hB)
end Go.Proofs.YtljigfiokekpoaaGreatDoor

set_option linter.unusedSimpArgs false
set_option linter.unusedVariables false
namespace Go.Proofs.YtljigfiokekpoaaGreatDoor
open Go.Lib

/-! ### what may come out -/
/-- An answer; a fault at a place; or the fuel was too small. -/
inductive Pr (α : Type) where
  | ok (a : α)
  | bad (at_ : Nat) (err : Int)
  | out
def Pr.bind {α β : Type} : Pr α → (α → Pr β) → Pr β
  | .ok a, f => f a
  | .bad p e, _ => .bad p e
  | .out, _ => .out
theorem Pr.bind_ok {α β : Type} {x : Pr α} {f : α → Pr β} {b : β} (h : x.bind f = .ok b) : ∃ a, x = .ok a ∧ f a = .ok b := by
  cases x with
  | ok a => exact ⟨a, rfl, h⟩
  | bad p e => cases h
  | out => cases h
theorem Pr.bind_assoc {α β γ : Type} (x : Pr α) (f : α → Pr β) (g : β → Pr γ) : (x.bind f).bind g = x.bind fun a => (f a).bind g := by
  cases x <;> rfl

/-! ### tokens -/
structure Tk where
  what : Int
  from_ : Nat
  to : Nat
  n : Nat
  err : Int

def psPlain (r : Int) : Int :=
  if r = 8722 then 45 else if r = 215 ∨ r = 183 then 42 else if r = 247 then 47 else if r = 172 then 126 else if r = 8743 then 38 else if r = 8744 then 124 else if r = 8853 then 94 else r
/-- Two bytes c stand there. -/
def psTwo (s : ByteArray) (p : Nat) (c : UInt8) : Bool := hasPrefix (s.extract p s.size).data.toList [c, c]
def psSign (s : ByteArray) (pat : Bool) (p : Nat) (r : Int) : Int × Int :=
  if psTwo s p 61 then (8801, 2) else if psTwo s p 60 then (8810, 2) else if psTwo s p 62 then (8811, 2)
  else if r = 61 ∨ r = 62 ∨ r = 59 ∨ r = 44 then (0, 0) else if r = 64 ∧ pat = false then (0, 0) else (psPlain r, runeLen r)
def psAt (s : ByteArray) (pat : Bool) (most p : Nat) (r : Int) : Pr Tk :=
  if kd r = 1 then .ok ⟨97, p, (spanI s p).1.toNat, 0, if nameB (s.extract p (spanI s p).1.toNat) then 0 else 7⟩
  else if kd r = 2 then .ok ⟨48, p, (numI s p).2.1, (numI s p).1, if most < (numI s p).1 then 10 else (numI s p).2.2⟩
  else if kd r = 4 ∧ 0 < (psSign s pat p r).2 then .ok ⟨(psSign s pat p r).1, p, p + (psSign s pat p r).2.toNat, 0, 0⟩
  else .bad p 5
/-- The first place from p on at which no blank stands. -/
def psSkip (s : ByteArray) : Nat → Nat → Nat
  | 0, p => p
  | f + 1, p => if p < s.size then (if kd (Utf8.decode s p).1 = 3 then psSkip s f (p + (Utf8.decode s p).2) else p) else p
def psEnd (s : ByteArray) : Tk := ⟨0, s.size, s.size, 0, 0⟩
def psFrom (s : ByteArray) (pat : Bool) (most p : Nat) : Pr Tk := if p < s.size then psAt s pat most p (Utf8.decode s p).1 else .ok (psEnd s)
/-- The token behind a place. -/
def psNext (s : ByteArray) (pat : Bool) (most p : Nat) : Pr Tk := psFrom s pat most (psSkip s s.size p)

/-! ### the grammar -/
structure Ps where
  now : Tk
  nodes : List Nd
  brk : Nat

def mx63 : Nat := 9223372036854775807
def psNx (s : ByteArray) (pat : Bool) (most : Nat) (st : Ps) : Pr Ps := (psNext s pat most st.now.to).bind fun t => .ok { st with now := t }
def psEx (s : ByteArray) (pat : Bool) (what : Int) (st : Ps) : Pr Ps :=
  if st.now.what = what then (if st.now.err = 0 then psNx s pat mx63 st else .bad st.now.from_ st.now.err) else .bad st.now.from_ 6
def psAdd (x : Nd) (st : Ps) : Nat × Ps := (st.nodes.length, { st with nodes := st.nodes ++ [x] })
def psJoin (op : Int) (ks : List Nat) (st : Ps) : Nat × Ps := psAdd ⟨op, 0, ⟨#[]⟩, ks.map Int.ofNat⟩ st
def psLit (s : ByteArray) (pat : Bool) (v : Int) (st : Ps) : Pr (Nat × Ps) := (psEx s pat 48 st).bind fun st1 => .ok (psAdd ⟨1, v, ⟨#[]⟩, []⟩ st1)
def psNamed (s : ByteArray) (pat : Bool) (op : Int) (st : Ps) : Pr (Nat × Ps) := (psEx s pat 97 st).bind fun st1 => .ok (psAdd ⟨op, 0, s.extract st.now.from_ st.now.to, []⟩ st1)
/-- What a sign stands for between two parts, and its level. -/
def psOp (c : Int) : Int × Nat :=
  if c = 124 then (11, 1) else if c = 94 then (12, 2) else if c = 38 then (10, 3) else if c = 8801 then (15, 4) else if c = 60 then (16, 5) else if c = 8810 then (13, 6) else if c = 8811 then (14, 6)
  else if c = 43 then (5, 7) else if c = 45 then (6, 7) else if c = 42 then (7, 8) else if c = 47 then (8, 8) else if c = 37 then (9, 8) else (0, 0)

inductive Rl where
  | cond
  | pair (lv : Nat)
  | loop (lv a : Nat)
  | un
  | atom

def psRun (s : ByteArray) (pat : Bool) : Nat → Rl → Ps → Pr (Nat × Ps)
  | 0, _, _ => .out
  | f + 1, .cond, st => (psRun s pat f (.pair 1) st).bind fun c =>
      if c.2.now.what = 63 then
        (psNx s pat mx63 c.2).bind fun st2 => (psRun s pat f .cond st2).bind fun a => (psEx s pat 58 a.2).bind fun st4 => (psRun s pat f .cond st4).bind fun b => .ok (psJoin 17 [c.1, a.1, b.1] b.2)
      else .ok c
  | f + 1, .pair lv, st => if 8 < lv then psRun s pat f .un st else (psRun s pat f (.pair (lv + 1)) st).bind fun a => psRun s pat f (.loop lv a.1) a.2
  | f + 1, .loop lv a, st =>
      if (psOp st.now.what).2 = lv then
        (psNx s pat mx63 st).bind fun st1 => (psRun s pat f (.pair (lv + 1)) st1).bind fun b =>
          if (psOp st.now.what).1 = 15 ∨ (psOp st.now.what).1 = 16 then .ok (psJoin (psOp st.now.what).1 [a, b.1] b.2)
          else psRun s pat f (.loop lv (psJoin (psOp st.now.what).1 [a, b.1] b.2).1) (psJoin (psOp st.now.what).1 [a, b.1] b.2).2
      else .ok (a, st)
  | f + 1, .un, st =>
      if st.now.what = 45 then
        (if (numI s st.now.to).2.2 = 11 then (psNx s pat mx63 st).bind fun st1 => (psRun s pat f .un st1).bind fun x => .ok (psJoin 3 [x.1] x.2)
         else (psNx s pat (mx63 + 1) st).bind fun st1 => psLit s pat (-(st1.now.n : Int)) st1)
      else if st.now.what = 126 then (psNx s pat mx63 st).bind fun st1 => (psRun s pat f .un st1).bind fun x => .ok (psJoin 4 [x.1] x.2)
      else psRun s pat f .atom st
  | f + 1, .atom, st =>
      if st.now.what = 48 then psLit s pat st.now.n st
      else if st.now.what = 97 then psNamed s pat 2 st
      else if st.now.what = 64 then (psNx s pat mx63 st).bind fun st1 => psNamed s pat 18 st1
      else if st.now.what = 40 then
        (if st.brk = 100 then .bad st.now.from_ 10
         else (psNx s pat mx63 { st with brk := st.brk + 1 }).bind fun st1 => (psRun s pat f .cond st1).bind fun e => (psEx s pat 41 e.2).bind fun st3 => .ok (e.1, { st3 with brk := st3.brk - 1 }))
      else .bad st.now.from_ 6

/-! ### where tokens lie -/
end Go.Proofs.YtljigfiokekpoaaGreatDoor
