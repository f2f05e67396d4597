/-
  BaW, BbP.
-/
import Derived.Shelf.Unicode.DecodeSlow
import Derived.Laws.RangeAny
import Derived.Shelf.Strings.Builder1
import Derived.Shelf.Small.Utf8
import Derived.Shelf.Strings.BuilderF
import Derived.Shelf.Strings.BuilderK
import Derived.Shelf.Strings.BuilderRune
import Derived.Shelf.Utf8.AppendRune
import Derived.Shelf.Strconv.Itoa0
import Derived.Shelf.Strconv.Itoa1
import Derived.Shelf.LaysM
import Derived.Shelf.Strconv.Itoa2
import Derived.Shelf.Strconv.Itoa3
import Derived.Shelf.Strconv.Itoa4
import Derived.Shelf.Strings.Prefix
import Derived.Shelf.Unicode.DecodeAny
import Derived.Test.YtljigfiokekpoaaGreatDoorProg
import Derived.WalkKit
import Derived.Deep.DeepFit
import Derived.Lib.OthersKept
import Derived.Lib.RuneCountTail
import Derived.Deep.AppendLies
import Derived.Deep.OwnRows
import Derived.Laws.AppendOwnNone
import Derived.Deep.QuietTactic
import Derived.BigQuiet
import Derived.Deep.RegionWith
import Derived.Laws.DeepStrings4
import Derived.Lib.QuietBelow
import Derived.StillTail
import Derived.Test.YtljigfiokekpoaaGreatDoorChecked
import Derived.Below
import Derived.Defers
import Derived.Deep.RegionLaw
import Derived.Laws.ResultCell
import Derived.RangeFuncNested
import Derived.RangeFuncBound
import Derived.RangeFuncCalls
import Derived.RangeFuncLeaves
import Derived.RangeFuncBox
import Derived.Shelf.Abstract
import Derived.Shelf.RegionOpen
import Derived.OwnWalkIn
import Derived.TacticsInMore
import Derived.LoopNIn
import Derived.LoopIn
import Derived.Test.YtljigfiokekpoaaGreatDoorZ01
import Derived.Test.YtljigfiokekpoaaGreatDoorZ02
import Derived.Test.YtljigfiokekpoaaGreatDoorZ03
import Derived.Test.YtljigfiokekpoaaGreatDoorZ04
import Derived.Test.YtljigfiokekpoaaGreatDoorZ05
import Derived.Test.YtljigfiokekpoaaGreatDoorZ06
import Derived.Test.YtljigfiokekpoaaGreatDoorZ07
import Derived.Test.YtljigfiokekpoaaGreatDoorZ09
import Derived.Test.YtljigfiokekpoaaGreatDoorZ14
import Derived.Test.YtljigfiokekpoaaGreatDoorZ16
import Derived.Test.YtljigfiokekpoaaGreatDoorZ17
import Derived.Test.YtljigfiokekpoaaGreatDoorZ18
import Derived.Test.YtljigfiokekpoaaGreatDoorZ19
import Derived.Test.YtljigfiokekpoaaGreatDoorZ20
import Derived.Test.YtljigfiokekpoaaGreatDoorZ21
set_option linter.unusedSimpArgs false
set_option linter.unusedVariables false
namespace Go.Proofs.YtljigfiokekpoaaGreatDoor
open Go.RowKit Go.Shelf
attribute [local go_sem] Oper.semAt_some

/-- How a round's body may be left: round number k. -/
def postS (B : Nat) (Kp : World → World → Prop) (I : Nat → World → Prop) (Ix : Code → Nat → World → Prop) (k : Nat) (W : World) : Exit → Act → World → Prop
  | .normal, _, W' => KeepsFrom B W W' ∧ Kp W W' ∧ I (k + 1) W'
  | .ret, _, W' => KeepsFrom B W W' ∧ Ix .ret k W'
  | .exit id, _, W' => KeepsFrom B W W' ∧ Ix (.exit id) k W'
  | _, _, _ => False

set_option maxHeartbeats 1000000 in
/-- The law: rounds are numbered, and the function yields the k-th value in round k. -/
theorem range_seq {F : Fence} {n : Nat} {P : Program} {g : Operand} {ps : Array Tmp} {assign body : Code} {Q : Exit → Act → World → Prop} {a : Act} {w : World}
    (hro : F.round = none) (h1 : 1 ≤ n) {gf : Nat} {lb : Array Value} (hg : a.eval g = .func (.func gf) #[] lb) (hFg : F.fn gf) (eg : ∀ args w, (callFunc gf args).run P w = .ok (.enter gf args) w)
    (N : Nat) (arg : Nat → Array Value) (hps : ∀ k, (arg k).size = ps.size) (Kp : World → World → Prop) (hKt : ∀ {A B C : World}, Kp A B → Kp B C → Kp A C)
    (hKb : ∀ (W : World) (l : Nat) (o o' : Obj), w.heap.size ≤ l → W.heap[l]? = some o → o.isCells = false → Kp W (W.putObj l o'))
    (hseq : ∀ (l : Nat) (J Jx : Nat → World → Prop) (W : World), Below w.heap.size w W → (∀ k, k < N → ∀ W1, J k W1 → YieldAt F (n - 1 - 1) P l (arg k) W1 fun e W' => (e = .returned (.bool true) ∧ J (k + 1) W' ∧ Kp W1 W') ∨ (e = .returned (.bool false) ∧ Jx k W')) → J 0 W →
      CallsIn F (n - 1) P gf (#[.func (.yield l) #[] #[]] ++ lb) W fun e W' => (∃ v, e = .returned v) ∧ (J N W' ∨ ∃ k, k < N ∧ Jx k W'))
    (I : Nat → World → Prop) (Ix : Code → Nat → World → Prop) (hI : OwnFrom w.heap.size I) (hIx : ∀ c, OwnFrom w.heap.size (Ix c)) (h0 : I 0 w) (A : Nat → Act)
    (hassign : ∀ (l k : Nat) (W : World) (K : Act → World → Prop), K (A k) W → assign.wpIn (F.inRound l) (n - 1 - 1) P (Exit.then K (fun _ _ _ => False)) { tmps := (ps.zip (arg k)).foldl (fun t (p, v) => t.setIfInBounds p v) a.tmps, defers := [] } W)
    (hbody : ∀ (l k : Nat) (W : World), w.heap.size ≤ l → k < N → I k W → body.wpIn (F.inRound l) (n - 1 - 1) P (postS w.heap.size Kp I Ix k W) (A k) W)
    (hdone : ∀ (D : Nat) (W : World), w.heap.size ≤ D → I N W → W.heap[D]? = some (.deferred (some [])) → Q .normal { a with defers := { target := .collected D, args := #[] } :: a.defers } W)
    (hstop : ∀ (D : Nat) (c : Code) (k : Nat) (W : World), w.heap.size ≤ D → k < N → Ix c k W → W.heap[D]? = some (.deferred (some [])) → c.wpIn F n P Q { a with defers := { target := .collected D, args := #[] } :: a.defers } W) :
    (Code.rangeFunc g ps assign body).wpIn F n P Q a w := by
  refine wpIn_rangeFunc fun fn hfn => ?_
  rw [hro]
  let R : LoopState → Option Code → Loop := fun s j => { state := s, pending := j, fn := fn, tmps := a.tmps, params := ps, assign := assign, body := body, defers := w.heap.size }
  have Rdef : ∀ s j, R s j = { state := s, pending := j, fn := fn, tmps := a.tmps, params := ps, assign := assign, body := body, defers := w.heap.size } := fun _ _ => rfl
  have Rbusy : { R .ready none with state := .busy } = R .busy none := rfl
  generalize R = R at *
  obtain ⟨V, hV⟩ : ∃ V, (w.alloc (.deferred (some []))).alloc (.loop (R .ready none)) = V := ⟨_, rfl⟩
  have vL : V.heap[w.heap.size + 1]? = some (.loop (R .ready none)) := by
    rw [← hV]
    have e := World.alloc_heap_new (w.alloc (.deferred (some []))) (.loop (R .ready none))
    rw [World.size_alloc] at e
    exact e
  have vD : V.heap[w.heap.size]? = some (.deferred (some [])) := by
    rw [← hV]
    exact (Below.heap_alloc _ _ _ (by rw [World.size_alloc]; omega)).trans (World.alloc_heap_new w _)
  have vB : Below w.heap.size w V := by
    rw [← hV]
    exact ((Below.refl _ w).alloc (Nat.le_refl _) _).alloc (by simp) _
  have vI : I 0 V := by rw [← hV]; exact hI.alloc _ (hI.alloc _ h0)
  refine ⟨w.heap.size + 1, [{ target := .collected w.heap.size, args := #[] }], V, { target := .fn (.func gf) lb, args := #[.func (.yield (w.heap.size + 1)) #[] #[]] }, V, gf, #[.func (.yield (w.heap.size + 1)) #[] #[]] ++ lb, V, ?_, ?_, ?_, ?_, fun _ => h1, ?_⟩
  · rw [← hV, Rdef]; exact run_enterLoop_outer _ _ _ _ _
  · simp only [resolve, hg]
    simp [go_sem]
  · intro f' hf'
    simp [Target.leads] at hf'
    subst hf'
    exact hFg
  · simp [invoke, go_sem, eg]
  · have key := hseq (w.heap.size + 1)
      (fun k W => I k W ∧ W.heap[w.heap.size + 1]? = some (.loop (R .ready none)) ∧ W.heap[w.heap.size]? = some (.deferred (some [])))
      (fun k W => ∃ c, Ix c k W ∧ W.heap[w.heap.size + 1]? = some (.loop (R .done (some c))) ∧ W.heap[w.heap.size]? = some (.deferred (some []))) V vB ?_ ⟨vI, vL, vD⟩
    · refine key.mono ?_
      rintro e W2 ⟨⟨v, rfl⟩, hz⟩
      rcases hz with ⟨hi, hl, hd⟩ | ⟨k, hk, c, hi, hl, hd⟩
      · have hr := run_endLoop (P := P) hl (by rw [Rdef]; simp)
        rw [Rdef] at hr
        exact ⟨none, _, hr, hdone _ _ (Nat.le_refl _) (hI.putObj _ hi (by omega) hl rfl) ((World.putObj_heap_other (by omega)).trans hd)⟩
      · have hr := run_endLoop (P := P) hl (by rw [Rdef]; simp)
        rw [Rdef] at hr
        exact ⟨some c, _, hr, hstop _ c k _ (Nat.le_refl _) hk ((hIx c).putObj _ hi (by omega) hl rfl) ((World.putObj_heap_other (by omega)).trans hd)⟩
    · rintro k hk W ⟨hi, hl, hd⟩
      have hlt : w.heap.size + 1 < W.heap.size := (Array.getElem?_eq_some_iff.1 hl).1
      have hy := run_yield (P := P) (args := arg k) hl (by rw [Rdef]; exact hps k)
      rw [Rdef] at hy
      refine ⟨fn, _, assign, body, hy, roundIn_of_wpIn hfn (hassign _ k W _ ?_)⟩
      refine ⟨_, run_beginRound hl (by rw [Rdef]), ?_⟩
      obtain ⟨W1, hW1⟩ : ∃ W1, W.putObj (w.heap.size + 1) (.loop { R .ready none with state := .busy }) = W1 := ⟨_, rfl⟩
      have l1 : W1.heap[w.heap.size + 1]? = some (.loop { R .ready none with state := .busy }) := by rw [← hW1]; exact World.putObj_heap_same hlt
      have d1 : W1.heap[w.heap.size]? = some (.deferred (some [])) := by rw [← hW1]; exact (World.putObj_heap_other (by omega)).trans hd
      have k1 : Kp W W1 := by rw [← hW1]; exact hKb _ _ _ _ (by omega) hl rfl
      have i1 : I k W1 := by rw [← hW1]; exact hI.putObj _ hi (by omega) hl rfl
      rw [hW1]
      have fin : ∀ (j : Option Code) (W3 : World), KeepsFrom w.heap.size W1 W3 → W3.heap[w.heap.size + 1]? = some (.loop { R .ready none with state := .busy }) ∧
          (Instr.endRound (w.heap.size + 1) j).run P W3 = .ok (.bool j.isNone) (W3.putObj (w.heap.size + 1) (.loop (R (if j.isNone then .ready else .done) j))) ∧
          (W3.putObj (w.heap.size + 1) (.loop (R (if j.isNone then .ready else .done) j))).heap[w.heap.size + 1]? = some (.loop (R (if j.isNone then .ready else .done) j)) ∧
          (W3.putObj (w.heap.size + 1) (.loop (R (if j.isNone then .ready else .done) j))).heap[w.heap.size]? = some (.deferred (some [])) := fun j W3 h3 => by
        have l3 := h3.same _ _ (by omega) l1 rfl
        have hr := run_endRound (P := P) j l3
        rw [Rdef] at hr
        rw [Rdef (if j.isNone then .ready else .done) j]
        exact ⟨l3, hr, World.putObj_heap_same (Array.getElem?_eq_some_iff.1 l3).1, (World.putObj_heap_other (by omega)).trans (h3.same _ _ (Nat.le_refl _) d1 rfl)⟩
      refine wpIn_mono (hbody (w.heap.size + 1) k W1 (by omega) hk i1) ?_
      rintro e a3 W3 hp
      cases e with
      | normal =>
        obtain ⟨h3, kp, hi3⟩ := hp
        obtain ⟨l3, hr, l4, d4⟩ := fin none W3 h3
        exact ⟨_, _, hr, .inl ⟨rfl, ⟨hI.putObj _ hi3 (by omega) l3 rfl, l4, d4⟩, hKt (hKt k1 kp) (hKb _ _ _ _ (by omega) l3 rfl)⟩⟩
      | ret =>
        obtain ⟨h3, hi3⟩ := hp
        obtain ⟨l3, hr, l4, d4⟩ := fin (some .ret) W3 h3
        exact ⟨_, _, hr, .inr ⟨rfl, .ret, (hIx _).putObj _ hi3 (by omega) l3 rfl, l4, d4⟩⟩
      | exit id =>
        obtain ⟨h3, hi3⟩ := hp
        obtain ⟨l3, hr, l4, d4⟩ := fin (some (.exit id)) W3 h3
        exact ⟨_, _, hr, .inr ⟨rfl, .exit id, (hIx _).putObj _ hi3 (by omega) l3 rfl, l4, d4⟩⟩
      | goto t => exact hp.elim
      | panic ch => exact hp.elim
      | outgrown => exact hp.elim

/-- All terms within a term that is sound. -/
def allT (t : Tm) : List Tm := if sndB (flatT t) = true then subsT t else []
/-- What the function that All answers holds: block B, whose list of terms lies in block g. -/
structure AllAt (w : World) (B : Nat) (ta : Option Addr) (tc : Nat) (ts : List Tm) : Prop where
  blk : ∃ x y, w.heap[B]? = some (.cells #[x, .slice ta ts.length tc, y] 60 (0, 0))
  le : ts.length ≤ 64
  em : ts = [] → ta = none
  rd : ts = [] ∨ ∃ g cur, ta = some ⟨g, 0, none⟩ ∧ w.heap[g]? = some (.cells cur 30 (0, 0)) ∧ ∀ j, j < ts.length → w.cell? ⟨g, j, none⟩ = some (tv (ts.getD j .nil))
/-- Both blocks are as they were. -/
def KpA (B : Nat) (ta : Option Addr) (W W' : World) : Prop := (∀ o, W.heap[B]? = some o → W'.heap[B]? = some o) ∧ ∀ g o, ta = some ⟨g, 0, none⟩ → W.heap[g]? = some o → W'.heap[g]? = some o
theorem KpA.trans {B : Nat} {ta : Option Addr} {X Y Z : World} (h : KpA B ta X Y) (k : KpA B ta Y Z) : KpA B ta X Z := ⟨fun o ho => k.1 o (h.1 o ho), fun g o e ho => k.2 g o e (h.2 g o e ho)⟩
theorem AllAt.kp {w w' : World} {B : Nat} {ta : Option Addr} {tc : Nat} {ts : List Tm} (h : AllAt w B ta tc ts) (hk : KpA B ta w w') : AllAt w' B ta tc ts := by
  obtain ⟨x, y, hb⟩ := h.blk
  refine ⟨⟨x, y, hk.1 _ hb⟩, h.le, h.em, ?_⟩
  rcases h.rd with h | ⟨g, cur, e, hg, hc⟩
  · exact .inl h
  · have hg' := hk.2 g _ e hg
    refine .inr ⟨g, cur, e, hg', fun j hj => ?_⟩
    rw [← hc j hj]
    exact World.cell?_of_block (a := ⟨g, j, none⟩) (hg'.trans hg.symm)
theorem KpA.below {w w' : World} {B : Nat} {ta : Option Addr} (hb : Below w.heap.size w w') : KpA B ta w w' := ⟨fun o ho => (hb.block B (lt_of_block ho)).trans ho, fun g o e ho => (hb.block g (lt_of_block ho)).trans ho⟩
theorem AllAt.below {w w' : World} {B : Nat} {ta : Option Addr} {tc : Nat} {ts : List Tm} (h : AllAt w B ta tc ts) (hb : Below w.heap.size w w') : AllAt w' B ta tc ts := h.kp (KpA.below hb)

set_option maxRecDepth 20000 in
set_option maxHeartbeats 1000000 in
theorem all_any (t : Tm) (hO : OthH t) (w : World) (T : SpanCells w) :
    Calls Tryz.prog 13 #[tv t] w fun e w' => ∃ B ta tc, e = .returned (.func (.func 24) #[] #[.pointer (some ⟨B, 0, none⟩)]) ∧ w.heap.size ≤ B ∧ (∀ g, ta = some ⟨g, 0, none⟩ → w.heap.size ≤ g) ∧ AllAt w' B ta tc (allT t) ∧ Below w.heap.size w w' := by
  have cO := open_tm t hO w T
  obtain ⟨v, hv⟩ : ∃ v, tv t = v := ⟨_, rfl⟩
  rw [hv] at cO ⊢
  have HC : Hid (Calls Tryz.prog 21 #[v] w (OpenP w t)) := cO
  clear cO hv
  go_enter Tryz.func13, Tryz.ntmps13
  go_wp2_with fail
  refine HC.out.mono ?_
  rintro e w2 ⟨hb, (⟨fr, hfr, na, nc, ta, tc, ns, rfl, hP, hns, hrow⟩ | ⟨hn, rfl⟩)⟩
  · have hs : sndB (flatT t) = true := by unfold sndB; rw [hfr]; rfl
    have hl : (subsT t).length ≤ 64 := by rw [subs_len]; exact (begL_some hfr).2.1
    have hall : allT t = subsT t := by unfold allT; rw [if_pos hs]
    have HB : Hid (Below w.heap.size w w2) := hb
    have HROW : Hid (w2.ownsRow w.heap.size 30 1 (.slice ta (subsT t).length tc) (subsT t).length ((subsT t).map tv)) := hrow
    have HALL : Hid (allT t = subsT t) := hall
    have HL : Hid ((subsT t).length ≤ 64) := hl
    have HNE : Hid (subsT t ≠ []) := by rw [Hid]; cases t <;> simp [subsT]
    clear hfr hP hns hrow hs hl hall hb
    generalize (flatT t).length = FL at *
    go_wp2_with fail
    go_ret
    have hbA : Below w2.heap.size w2 (w2.alloc (.cells #[.slice na FL nc, .slice ta (subsT t).length tc, .int .i64 FL] 60)) := (Below.refl _ _).alloc (Nat.le_refl _) _
    refine ⟨w2.heap.size, ta, tc, rfl, HB.out.size, fun g e => ?_, ?_, HB.out.trans (hbA.mono HB.out.size)⟩
    · rcases HROW.out.2 with ⟨h0, _⟩ | ⟨g', cp, cur, hve, hg, _⟩
      · injection h0 with e1; rw [e1] at e; cases e
      · injection hve with e1; rw [e1] at e; cases e; exact hg
    · rw [HALL.out]
      refine ⟨⟨_, _, Deep.blk_alloc_new _ _⟩, HL.out, fun e => absurd e HNE.out, ?_⟩
      rcases HROW.out.2 with ⟨h0, h1⟩ | ⟨g', cp, cur, hve, hg, hbk, hn, hm, hsz, htk⟩
      · exact .inl (List.length_eq_zero_iff.1 h1)
      · cases hve
        refine .inr ⟨g', cur, rfl, (hbA.block g' (lt_of_block hbk)).trans hbk, fun j hj => ?_⟩
        have := HROW.out.cells (g := g') rfl j (tv ((subsT t).getD j .nil)) (by rw [List.getElem?_map]; simp [hj])
        have e0 : (⟨g', 0, none⟩ : Addr).add j = ⟨g', j, none⟩ := by rw [Go.WideShapes.add_plain, Nat.zero_add]
        rw [e0] at this
        exact (hbA.cell (p := ⟨g', j, none⟩) (lt_of_block hbk)).trans this
  · have hs : sndB (flatT t) = false := by unfold sndB; rw [hn]; rfl
    have hall : allT t = [] := by unfold allT; rw [if_neg (by simp [hs])]
    have HB : Hid (Below w.heap.size w w2) := hb
    have HALL : Hid (allT t = []) := hall
    clear hn hs hall hb
    go_wp2_with fail
    go_ret
    have hbA : Below w2.heap.size w2 (w2.alloc (.cells #[.slice none 0 0, .slice none 0 0, .int .i64 0] 60)) := (Below.refl _ _).alloc (Nat.le_refl _) _
    refine ⟨w2.heap.size, none, 0, rfl, HB.out.size, (fun g e => nomatch e), ?_, HB.out.trans (hbA.mono HB.out.size)⟩
    rw [HALL.out]
    exact ⟨⟨_, _, Deep.blk_alloc_new _ _⟩, by simp, fun _ => rfl, .inl rfl⟩

set_option maxRecDepth 100000 in
set_option maxHeartbeats 2000000 in
theorem all1_in (F : Fence) (n : Nat) (h8 : F.fn 24) (hro : F.round = none) (hn : 1 ≤ n) (l B : Nat) (ta : Option Addr) (tc : Nat) (ts : List Tm) (J Jx : Nat → World → Prop) (W : World) (hA : AllAt W B ta tc ts)
    (hY : ∀ k, k < ts.length → ∀ W1, J k W1 → YieldAt F (n - 1) Tryz.prog l #[tv (ts.getD k .nil)] W1 fun e W' => (e = .returned (.bool true) ∧ J (k + 1) W' ∧ KpA B ta W1 W') ∨ (e = .returned (.bool false) ∧ Jx k W')) (h0 : J 0 W) :
    CallsIn F n Tryz.prog 24 #[.func (.yield l) #[] #[], .pointer (some ⟨B, 0, none⟩)] W fun e W' => (∃ v, e = .returned v) ∧ (J ts.length W' ∨ ∃ k, k < ts.length ∧ Jx k W') := by
  obtain ⟨x0, y0, hblk⟩ := hA.blk
  have hle := hA.le
  have c1 : W.cell? ⟨B, 1, none⟩ = some (.slice ta ts.length tc) := by simp [World.cell?, hblk]
  refine callsIn_of_wp Tryz.func24 rfl h8 ?_ hro
  simp only [Tryz.ntmps24, List.size_toArray, List.length_cons, List.length_nil, Nat.reduceAdd, Nat.reduceSub, Array.replicate_succ, Array.replicate_zero, List.push_toArray, List.append_toArray, List.nil_append, List.cons_append]
  gi_wp2
  gi_loopw [8] (fun i wr => ∃ k : Nat, k ≤ ts.length ∧ i = .int .i64 k ∧ J k wr ∧ AllAt wr B ta tc ts) (fun i _ => ts.length - (intOf i).toNat)
  case atStart => exact ⟨0, by omega, rfl, h0, hA⟩
  case round =>
    obtain ⟨k, hk, rfl, hJ, hAr⟩ := hrel
    by_cases hlt : k < ts.length
    · obtain ⟨g, cur, rfl, hg, hc⟩ : ∃ g cur, ta = some ⟨g, 0, none⟩ ∧ wr.heap[g]? = some (.cells cur 30 (0, 0)) ∧ ∀ j, j < ts.length → wr.cell? ⟨g, j, none⟩ = some (tv (ts.getD j .nil)) := by
        rcases hAr.rd with h | h
        · subst h; simp at hlt
        · exact h
      have c0 := hc k hlt
      obtain ⟨fn, tmps, assign, body, hy, hR⟩ := hY k hlt wr hJ
      try dsimp only at hy
      obtain ⟨x, hx⟩ : ∃ x, tv (ts.getD k .nil) = x := ⟨_, rfl⟩
      rw [hx] at c0 hy
      have hkl : (k : Int) < (ts.length : Int) := by omega
      clear hc
      gi_wp2
      refine hR.mono ?_
      rintro e W3 (⟨rfl, hJ3, hk3⟩ | ⟨rfl, hJx3⟩)
      · gi_wp2
        go_roundw
        case rel => exact ⟨k + 1, by omega, by simp, hJ3, hAr.kp hk3⟩
        case measure => simp [intOf]; omega
      · gi_wp2
        refine bodyPost_ret (results_none rfl _ _ _) rfl ?_
        exact ⟨⟨_, rfl⟩, .inr ⟨k, hlt, hJx3⟩⟩
    · obtain rfl : k = ts.length := by omega
      gi_wp2
      go_end0
      exact ⟨⟨_, rfl⟩, .inl hJ⟩
end Go.Proofs.YtljigfiokekpoaaGreatDoor

set_option linter.unusedSimpArgs false
set_option linter.unusedVariables false
namespace Go.Proofs.YtljigfiokekpoaaGreatDoor
open Go.RowKit

theorem parts_tm {l : List Nd} {fr : List Nat} (hs : begL l = some fr) {i : Nat} (hi : i < l.length) : partsT (tmA l i) = (l.getD i nd0).kids.map (fun k => tmA l k.toNat) := by
  have hk := snd_kk hs i hi
  have hf := ((begOk_of (begL_some hs).2.2.1).at_ i hi).1
  rcases form_cases hf with ⟨h1, h2⟩ | ⟨h1, h2⟩ | ⟨h1, h2, a, h3⟩ | ⟨h1, h2, a, b, h3⟩ | ⟨h1, c, a, b, h3⟩
  · rw [tmA_lit hi h1 hk, h2]; rfl
  · rw [tmA_var hi h1 hk, h2]; rfl
  · have ha : a = ((a.toNat : Nat) : Int) := by have := hk a (by rw [h3]; simp); omega
    rw [tmA_un hi h1 h2 a.toNat (by rw [h3, ← ha]) hk, h3]; rfl
  · have ha : a = ((a.toNat : Nat) : Int) := by have := hk a (by rw [h3]; simp); omega
    have hb : b = ((b.toNat : Nat) : Int) := by have := hk b (by rw [h3]; simp); omega
    rw [tmA_bin hi h1 h2 a.toNat b.toNat (by rw [h3, ← ha, ← hb]) hk, h3]; rfl
  · have hc : c = ((c.toNat : Nat) : Int) := by have := hk c (by rw [h3]; simp); omega
    have ha : a = ((a.toNat : Nat) : Int) := by have := hk a (by rw [h3]; simp); omega
    have hb : b = ((b.toNat : Nat) : Int) := by have := hk b (by rw [h3]; simp); omega
    rw [tmA_ifs hi h1 c.toNat a.toNat b.toNat (by rw [h3, ← hc, ← ha, ← hb]) hk, h3]; rfl
theorem chain_seg {fr : List Nat} (hl : Low fr) : ∀ (ks : List Int) (c a : Nat), chainL fr ks c = some a → (ks.reverse.map fun k => List.range' (fr.getD k.toNat 0) (k.toNat + 1 - fr.getD k.toNat 0)).flatten = List.range' a (c - a) := by
  intro ks
  induction ks with
  | nil => intro c a h; simp [chainL] at h; subst h; simp
  | cons k ks ih =>
    intro c a h
    simp only [chainL] at h
    split at h
    · cases h
    · rename_i hc
      have e : k.toNat = c - 1 := by omega
      have h1 := ih _ _ h
      have h2 := chainL_le hl _ _ _ h
      have h3 := hl (c - 1)
      rw [List.reverse_cons, List.map_append, List.flatten_append, h1]
      simp only [List.map_cons, List.map_nil, List.flatten_cons, List.flatten_nil, List.append_nil, e]
      have e2 : fr.getD (c - 1) 0 = a + (fr.getD (c - 1) 0 - a) := by omega
      have e3 : c - a = (fr.getD (c - 1) 0 - a) + (c - 1 + 1 - fr.getD (c - 1) 0) := by omega
      rw [e3]
      conv => lhs; rhs; rw [e2]
      rw [show c - 1 + 1 - (a + (fr.getD (c - 1) 0 - a)) = c - 1 + 1 - fr.getD (c - 1) 0 by omega]
      exact List.range'_append_1 ..
theorem subs_tm {l : List Nd} {fr : List Nat} (hs : begL l = some fr) : ∀ i, i < l.length → subsT (tmA l i) = (List.range' (fr.getD i 0) (i + 1 - fr.getD i 0)).map (tmA l) := by
  have hok := begOk_of (begL_some hs).2.2.1
  intro i
  induction i using Nat.strongRecOn with
  | ind i IH =>
    intro hi
    have hk := snd_kk hs i hi
    rw [subsT_eq, parts_tm hs hi, List.map_map]
    have e1 : (l.getD i nd0).kids.map (subsT ∘ fun k => tmA l k.toNat) = (l.getD i nd0).kids.map (fun k => (List.range' (fr.getD k.toNat 0) (k.toNat + 1 - fr.getD k.toNat 0)).map (tmA l)) := by
      refine List.map_congr_left fun k hkk => ?_
      have := hk k hkk
      exact IH k.toNat (by omega) (by omega)
    have e2 := chain_seg hok.low _ _ _ (hok.at_ i hi).2
    rw [List.reverse_reverse] at e2
    rw [e1]
    have e3 : ((l.getD i nd0).kids.map (fun k => (List.range' (fr.getD k.toNat 0) (k.toNat + 1 - fr.getD k.toNat 0)).map (tmA l))).flatten = (List.range' (fr.getD i 0) (i - fr.getD i 0)).map (tmA l) := by
      rw [← e2, List.map_flatten, List.map_map]; rfl
    have hlow := hok.low i
    rw [e3, show i + 1 - fr.getD i 0 = (i - fr.getD i 0) + 1 by omega, List.range'_concat, List.map_append, show fr.getD i 0 + 1 * (i - fr.getD i 0) = i by omega]
    rfl
/-- All of an expression's term: the terms of its places. -/
theorem all_tm {l : List Nd} {fr : List Nat} (hs : begL l = some fr) : allT (tmA l (l.length - 1)) = (List.range l.length).map (tmA l) := by
  obtain ⟨h0, _, hr, ht⟩ := begL_some hs
  have hsn : sndB (flatT (tmA l (l.length - 1))) = true := by rw [flat_whole hs]; unfold sndB; rw [hs]; rfl
  unfold allT
  rw [if_pos hsn, subs_tm hs _ (by omega), ht, show l.length - 1 + 1 - 0 = l.length by omega, ← List.range_eq_range']

end Go.Proofs.YtljigfiokekpoaaGreatDoor
