/-
  BaW, EtP, EtW, EtTmW.
-/
import Derived.Test.YtdcfjopmddaemaaDoorMBxOpW
import Derived.RangeFuncNested
import Derived.RangeFuncBound
import Derived.RangeFuncCalls
import Derived.RangeFuncLeaves
import Derived.RangeFuncBox
import Derived.Shelf.Abstract
import Derived.Shelf.RegionOpen
import Derived.OwnWalkIn
import Derived.TacticsInMore
import Derived.LoopNIn
import Derived.LoopIn
import Derived.Test.YtdcfjopmddaemaaDoorMGF
import Derived.Test.YtdcfjopmddaemaaDoorMBxWk
import Derived.Test.YtdcfjopmddaemaaDoorMBxSplW
set_option linter.unusedSimpArgs false
set_option linter.unusedVariables false
namespace Go.Proofs.YtdcfjopmddaemaaDoor
open Go.RowKit Go.Shelf
attribute [local go_sem] Oper.semAt_some

/-- How a round's body may be left: round number k. -/
def postS (B : Nat) (Kp : World → World → Prop) (I : Nat → World → Prop) (Ix : Code → Nat → World → Prop) (k : Nat) (W : World) : Exit → Act → World → Prop
  | .normal, _, W' => KeepsFrom B W W' ∧ Kp W W' ∧ I (k + 1) W'
  | .ret, _, W' => KeepsFrom B W W' ∧ Ix .ret k W'
  | .exit id, _, W' => KeepsFrom B W W' ∧ Ix (.exit id) k W'
  | _, _, _ => False

set_option maxHeartbeats 1000000 in
/-- The law: rounds are numbered, and the function yields the k-th value in round k. -/
theorem range_seq {F : Fence} {n : Nat} {P : Program} {g : Operand} {ps : Array Tmp} {assign body : Code} {Q : Exit → Act → World → Prop} {a : Act} {w : World}
    (hro : F.round = none) (h1 : 1 ≤ n) {gf : Nat} {lb : Array Value} (hg : a.eval g = .func (.func gf) #[] lb) (hFg : F.fn gf) (eg : ∀ args w, (callFunc gf args).run P w = .ok (.enter gf args) w)
    (N : Nat) (arg : Nat → Array Value) (hps : ∀ k, (arg k).size = ps.size) (Kp : World → World → Prop) (hKt : ∀ {A B C : World}, Kp A B → Kp B C → Kp A C)
    (hKb : ∀ (W : World) (l : Nat) (o o' : Obj), w.heap.size ≤ l → W.heap[l]? = some o → o.isCells = false → Kp W (W.putObj l o'))
    (hseq : ∀ (l : Nat) (J Jx : Nat → World → Prop) (W : World), Below w.heap.size w W → (∀ k, k < N → ∀ W1, J k W1 → YieldAt F (n - 1 - 1) P l (arg k) W1 fun e W' => (e = .returned (.bool true) ∧ J (k + 1) W' ∧ Kp W1 W') ∨ (e = .returned (.bool false) ∧ Jx k W')) → J 0 W →
      CallsIn F (n - 1) P gf (#[.func (.yield l) #[] #[]] ++ lb) W fun e W' => (∃ v, e = .returned v) ∧ (J N W' ∨ ∃ k, k < N ∧ Jx k W'))
    (I : Nat → World → Prop) (Ix : Code → Nat → World → Prop) (hI : OwnFrom w.heap.size I) (hIx : ∀ c, OwnFrom w.heap.size (Ix c)) (h0 : I 0 w) (A : Nat → Act)
    (hassign : ∀ (l k : Nat) (W : World) (K : Act → World → Prop), K (A k) W → assign.wpIn (F.inRound l) (n - 1 - 1) P (Exit.then K (fun _ _ _ => False)) { tmps := (ps.zip (arg k)).foldl (fun t (p, v) => t.setIfInBounds p v) a.tmps, defers := [] } W)
    (hbody : ∀ (l k : Nat) (W : World), w.heap.size ≤ l → k < N → I k W → body.wpIn (F.inRound l) (n - 1 - 1) P (postS w.heap.size Kp I Ix k W) (A k) W)
    (hdone : ∀ (D : Nat) (W : World), w.heap.size ≤ D → I N W → W.heap[D]? = some (.deferred (some [])) → Q .normal { a with defers := { target := .collected D, args := #[] } :: a.defers } W)
    (hstop : ∀ (D : Nat) (c : Code) (k : Nat) (W : World), w.heap.size ≤ D → k < N → Ix c k W → W.heap[D]? = some (.deferred (some [])) → c.wpIn F n P Q { a with defers := { target := .collected D, args := #[] } :: a.defers } W) :
    (Code.rangeFunc g ps assign body).wpIn F n P Q a w := by
  refine wpIn_rangeFunc fun fn hfn => ?_
  rw [hro]
  let R : LoopState → Option Code → Loop := fun s j => { state := s, pending := j, fn := fn, tmps := a.tmps, params := ps, assign := assign, body := body, defers := w.heap.size }
  have Rdef : ∀ s j, R s j = { state := s, pending := j, fn := fn, tmps := a.tmps, params := ps, assign := assign, body := body, defers := w.heap.size } := fun _ _ => rfl
  have Rbusy : { R .ready none with state := .busy } = R .busy none := rfl
  generalize R = R at *
  obtain ⟨V, hV⟩ : ∃ V, (w.alloc (.deferred (some []))).alloc (.loop (R .ready none)) = V := ⟨_, rfl⟩
  have vL : V.heap[w.heap.size + 1]? = some (.loop (R .ready none)) := by
    rw [← hV]
    have e := World.alloc_heap_new (w.alloc (.deferred (some []))) (.loop (R .ready none))
    rw [World.size_alloc] at e
    exact e
  have vD : V.heap[w.heap.size]? = some (.deferred (some [])) := by
    rw [← hV]
    exact (Below.heap_alloc _ _ _ (by rw [World.size_alloc]; omega)).trans (World.alloc_heap_new w _)
  have vB : Below w.heap.size w V := by
    rw [← hV]
    exact ((Below.refl _ w).alloc (Nat.le_refl _) _).alloc (by simp) _
  have vI : I 0 V := by rw [← hV]; exact hI.alloc _ (hI.alloc _ h0)
  refine ⟨w.heap.size + 1, [{ target := .collected w.heap.size, args := #[] }], V, { target := .fn (.func gf) lb, args := #[.func (.yield (w.heap.size + 1)) #[] #[]] }, V, gf, #[.func (.yield (w.heap.size + 1)) #[] #[]] ++ lb, V, ?_, ?_, ?_, ?_, fun _ => h1, ?_⟩
  · rw [← hV, Rdef]; exact run_enterLoop_outer _ _ _ _ _
  · simp only [resolve, hg]
    simp [go_sem]
  · intro f' hf'
    simp [Target.leads] at hf'
    subst hf'
    exact hFg
  · simp [invoke, go_sem, eg]
  · have key := hseq (w.heap.size + 1)
      (fun k W => I k W ∧ W.heap[w.heap.size + 1]? = some (.loop (R .ready none)) ∧ W.heap[w.heap.size]? = some (.deferred (some [])))
      (fun k W => ∃ c, Ix c k W ∧ W.heap[w.heap.size + 1]? = some (.loop (R .done (some c))) ∧ W.heap[w.heap.size]? = some (.deferred (some []))) V vB ?_ ⟨vI, vL, vD⟩
    · refine key.mono ?_
      rintro e W2 ⟨⟨v, rfl⟩, hz⟩
      rcases hz with ⟨hi, hl, hd⟩ | ⟨k, hk, c, hi, hl, hd⟩
      · have hr := run_endLoop (P := P) hl (by rw [Rdef]; simp)
        rw [Rdef] at hr
        exact ⟨none, _, hr, hdone _ _ (Nat.le_refl _) (hI.putObj _ hi (by omega) hl rfl) ((World.putObj_heap_other (by omega)).trans hd)⟩
      · have hr := run_endLoop (P := P) hl (by rw [Rdef]; simp)
        rw [Rdef] at hr
        exact ⟨some c, _, hr, hstop _ c k _ (Nat.le_refl _) hk ((hIx c).putObj _ hi (by omega) hl rfl) ((World.putObj_heap_other (by omega)).trans hd)⟩
    · rintro k hk W ⟨hi, hl, hd⟩
      have hlt : w.heap.size + 1 < W.heap.size := (Array.getElem?_eq_some_iff.1 hl).1
      have hy := run_yield (P := P) (args := arg k) hl (by rw [Rdef]; exact hps k)
      rw [Rdef] at hy
      refine ⟨fn, _, assign, body, hy, roundIn_of_wpIn hfn (hassign _ k W _ ?_)⟩
      refine ⟨_, run_beginRound hl (by rw [Rdef]), ?_⟩
      obtain ⟨W1, hW1⟩ : ∃ W1, W.putObj (w.heap.size + 1) (.loop { R .ready none with state := .busy }) = W1 := ⟨_, rfl⟩
      have l1 : W1.heap[w.heap.size + 1]? = some (.loop { R .ready none with state := .busy }) := by rw [← hW1]; exact World.putObj_heap_same hlt
      have d1 : W1.heap[w.heap.size]? = some (.deferred (some [])) := by rw [← hW1]; exact (World.putObj_heap_other (by omega)).trans hd
      have k1 : Kp W W1 := by rw [← hW1]; exact hKb _ _ _ _ (by omega) hl rfl
      have i1 : I k W1 := by rw [← hW1]; exact hI.putObj _ hi (by omega) hl rfl
      rw [hW1]
      have fin : ∀ (j : Option Code) (W3 : World), KeepsFrom w.heap.size W1 W3 → W3.heap[w.heap.size + 1]? = some (.loop { R .ready none with state := .busy }) ∧
          (Instr.endRound (w.heap.size + 1) j).run P W3 = .ok (.bool j.isNone) (W3.putObj (w.heap.size + 1) (.loop (R (if j.isNone then .ready else .done) j))) ∧
          (W3.putObj (w.heap.size + 1) (.loop (R (if j.isNone then .ready else .done) j))).heap[w.heap.size + 1]? = some (.loop (R (if j.isNone then .ready else .done) j)) ∧
          (W3.putObj (w.heap.size + 1) (.loop (R (if j.isNone then .ready else .done) j))).heap[w.heap.size]? = some (.deferred (some [])) := fun j W3 h3 => by
        have l3 := h3.same _ _ (by omega) l1 rfl
        have hr := run_endRound (P := P) j l3
        rw [Rdef] at hr
        rw [Rdef (if j.isNone then .ready else .done) j]
        exact ⟨l3, hr, World.putObj_heap_same (Array.getElem?_eq_some_iff.1 l3).1, (World.putObj_heap_other (by omega)).trans (h3.same _ _ (Nat.le_refl _) d1 rfl)⟩
      refine wpIn_mono (hbody (w.heap.size + 1) k W1 (by omega) hk i1) ?_
      rintro e a3 W3 hp
      cases e with
      | normal =>
        obtain ⟨h3, kp, hi3⟩ := hp
        obtain ⟨l3, hr, l4, d4⟩ := fin none W3 h3
        exact ⟨_, _, hr, .inl ⟨rfl, ⟨hI.putObj _ hi3 (by omega) l3 rfl, l4, d4⟩, hKt (hKt k1 kp) (hKb _ _ _ _ (by omega) l3 rfl)⟩⟩
      | ret =>
        obtain ⟨h3, hi3⟩ := hp
        obtain ⟨l3, hr, l4, d4⟩ := fin (some .ret) W3 h3
        exact ⟨_, _, hr, .inr ⟨rfl, .ret, (hIx _).putObj _ hi3 (by omega) l3 rfl, l4, d4⟩⟩
      | exit id =>
        obtain ⟨h3, hi3⟩ := hp
        obtain ⟨l3, hr, l4, d4⟩ := fin (some (.exit id)) W3 h3
        exact ⟨_, _, hr, .inr ⟨rfl, .exit id, (hIx _).putObj _ hi3 (by omega) l3 rfl, l4, d4⟩⟩
      | goto t => exact hp.elim
      | panic ch => exact hp.elim
      | outgrown => exact hp.elim

/-- All terms within a term that is sound. -/
def allT (t : Tm) : List Tm := if sndB (flatT t) = true then subsT t else []
/-- What the function that All answers holds: block B, whose list of terms lies in block g. -/
structure AllAt (w : World) (B : Nat) (ta : Option Addr) (tc : Nat) (ts : List Tm) : Prop where
  blk : ∃ x y, w.heap[B]? = some (.cells #[x, .slice ta ts.length tc, y] 96 (0, 0))
  le : ts.length ≤ 64
  em : ts = [] → ta = none
  rd : ts = [] ∨ ∃ g cur, ta = some ⟨g, 0, none⟩ ∧ w.heap[g]? = some (.cells cur 45 (0, 0)) ∧ ∀ j, j < ts.length → w.cell? ⟨g, j, none⟩ = some (tv (ts.getD j .nil))
/-- Both blocks are as they were. -/
def KpA (B : Nat) (ta : Option Addr) (W W' : World) : Prop := (∀ o, W.heap[B]? = some o → W'.heap[B]? = some o) ∧ ∀ g o, ta = some ⟨g, 0, none⟩ → W.heap[g]? = some o → W'.heap[g]? = some o
theorem KpA.trans {B : Nat} {ta : Option Addr} {X Y Z : World} (h : KpA B ta X Y) (k : KpA B ta Y Z) : KpA B ta X Z := ⟨fun o ho => k.1 o (h.1 o ho), fun g o e ho => k.2 g o e (h.2 g o e ho)⟩
theorem AllAt.kp {w w' : World} {B : Nat} {ta : Option Addr} {tc : Nat} {ts : List Tm} (h : AllAt w B ta tc ts) (hk : KpA B ta w w') : AllAt w' B ta tc ts := by
  obtain ⟨x, y, hb⟩ := h.blk
  refine ⟨⟨x, y, hk.1 _ hb⟩, h.le, h.em, ?_⟩
  rcases h.rd with h | ⟨g, cur, e, hg, hc⟩
  · exact .inl h
  · have hg' := hk.2 g _ e hg
    refine .inr ⟨g, cur, e, hg', fun j hj => ?_⟩
    rw [← hc j hj]
    exact World.cell?_of_block (a := ⟨g, j, none⟩) (hg'.trans hg.symm)
theorem KpA.below {w w' : World} {B : Nat} {ta : Option Addr} (hb : Below w.heap.size w w') : KpA B ta w w' := ⟨fun o ho => (hb.block B (lt_of_block ho)).trans ho, fun g o e ho => (hb.block g (lt_of_block ho)).trans ho⟩
theorem AllAt.below {w w' : World} {B : Nat} {ta : Option Addr} {tc : Nat} {ts : List Tm} (h : AllAt w B ta tc ts) (hb : Below w.heap.size w w') : AllAt w' B ta tc ts := h.kp (KpA.below hb)

set_option maxRecDepth 20000 in
set_option maxHeartbeats 1000000 in
theorem all_any (t : Tm) (hO : OthH t) (w : World) (T : SpanCells w) :
    Calls Tryd.prog 26 #[tv t] w fun e w' => ∃ B ta tc, e = .returned (.func (.func 52) #[] #[.pointer (some ⟨B, 0, none⟩)]) ∧ w.heap.size ≤ B ∧ (∀ g, ta = some ⟨g, 0, none⟩ → w.heap.size ≤ g) ∧ AllAt w' B ta tc (allT t) ∧ Below w.heap.size w w' := by
  have cO := open_tm t hO w T
  obtain ⟨v, hv⟩ : ∃ v, tv t = v := ⟨_, rfl⟩
  rw [hv] at cO ⊢
  have HC : Hid (Calls Tryd.prog 51 #[v] w (OpenP w t)) := cO
  clear cO hv
  go_enter Tryd.func26, Tryd.ntmps26
  go_wp2_with fail
  refine HC.out.mono ?_
  rintro e w2 ⟨hb, (⟨fr, hfr, na, nc, ta, tc, ns, rfl, hP, hns, hrow⟩ | ⟨hn, rfl⟩)⟩
  · have hs : sndB (flatT t) = true := by unfold sndB; rw [hfr]; rfl
    have hl : (subsT t).length ≤ 64 := by rw [subs_len]; exact (begL_some hfr).2.1
    have hall : allT t = subsT t := by unfold allT; rw [if_pos hs]
    have HB : Hid (Below w.heap.size w w2) := hb
    have HROW : Hid (w2.ownsRow w.heap.size 45 1 (.slice ta (subsT t).length tc) (subsT t).length ((subsT t).map tv)) := hrow
    have HALL : Hid (allT t = subsT t) := hall
    have HL : Hid ((subsT t).length ≤ 64) := hl
    have HNE : Hid (subsT t ≠ []) := by rw [Hid]; cases t <;> simp [subsT]
    clear hfr hP hns hrow hs hl hall hb
    generalize (flatT t).length = FL at *
    go_wp2_with fail
    go_ret
    have hbA : Below w2.heap.size w2 (w2.alloc (.cells #[.slice na FL nc, .slice ta (subsT t).length tc, .int .i64 FL] 96)) := (Below.refl _ _).alloc (Nat.le_refl _) _
    refine ⟨w2.heap.size, ta, tc, rfl, HB.out.size, fun g e => ?_, ?_, HB.out.trans (hbA.mono HB.out.size)⟩
    · rcases HROW.out.2 with ⟨h0, _⟩ | ⟨g', cp, cur, hve, hg, _⟩
      · injection h0 with e1; rw [e1] at e; cases e
      · injection hve with e1; rw [e1] at e; cases e; exact hg
    · rw [HALL.out]
      refine ⟨⟨_, _, Deep.blk_alloc_new _ _⟩, HL.out, fun e => absurd e HNE.out, ?_⟩
      rcases HROW.out.2 with ⟨h0, h1⟩ | ⟨g', cp, cur, hve, hg, hbk, hn, hm, hsz, htk⟩
      · exact .inl (List.length_eq_zero_iff.1 h1)
      · cases hve
        refine .inr ⟨g', cur, rfl, (hbA.block g' (lt_of_block hbk)).trans hbk, fun j hj => ?_⟩
        have := HROW.out.cells (g := g') rfl j (tv ((subsT t).getD j .nil)) (by rw [List.getElem?_map]; simp [hj])
        have e0 : (⟨g', 0, none⟩ : Addr).add j = ⟨g', j, none⟩ := by rw [Go.WideShapes.add_plain, Nat.zero_add]
        rw [e0] at this
        exact (hbA.cell (p := ⟨g', j, none⟩) (lt_of_block hbk)).trans this
  · have hs : sndB (flatT t) = false := by unfold sndB; rw [hn]; rfl
    have hall : allT t = [] := by unfold allT; rw [if_neg (by simp [hs])]
    have HB : Hid (Below w.heap.size w w2) := hb
    have HALL : Hid (allT t = []) := hall
    clear hn hs hall hb
    go_wp2_with fail
    go_ret
    have hbA : Below w2.heap.size w2 (w2.alloc (.cells #[.slice none 0 0, .slice none 0 0, .int .i64 0] 96)) := (Below.refl _ _).alloc (Nat.le_refl _) _
    refine ⟨w2.heap.size, none, 0, rfl, HB.out.size, (fun g e => nomatch e), ?_, HB.out.trans (hbA.mono HB.out.size)⟩
    rw [HALL.out]
    exact ⟨⟨_, _, Deep.blk_alloc_new _ _⟩, by simp, fun _ => rfl, .inl rfl⟩

set_option maxRecDepth 100000 in
set_option maxHeartbeats 2000000 in
theorem all1_in (F : Fence) (n : Nat) (h8 : F.fn 52) (hro : F.round = none) (hn : 1 ≤ n) (l B : Nat) (ta : Option Addr) (tc : Nat) (ts : List Tm) (J Jx : Nat → World → Prop) (W : World) (hA : AllAt W B ta tc ts)
    (hY : ∀ k, k < ts.length → ∀ W1, J k W1 → YieldAt F (n - 1) Tryd.prog l #[tv (ts.getD k .nil)] W1 fun e W' => (e = .returned (.bool true) ∧ J (k + 1) W' ∧ KpA B ta W1 W') ∨ (e = .returned (.bool false) ∧ Jx k W')) (h0 : J 0 W) :
    CallsIn F n Tryd.prog 52 #[.func (.yield l) #[] #[], .pointer (some ⟨B, 0, none⟩)] W fun e W' => (∃ v, e = .returned v) ∧ (J ts.length W' ∨ ∃ k, k < ts.length ∧ Jx k W') := by
  obtain ⟨x0, y0, hblk⟩ := hA.blk
  have hle := hA.le
  have c1 : W.cell? ⟨B, 1, none⟩ = some (.slice ta ts.length tc) := by simp [World.cell?, hblk]
  refine callsIn_of_wp Tryd.func52 rfl h8 ?_ hro
  simp only [Tryd.ntmps52, List.size_toArray, List.length_cons, List.length_nil, Nat.reduceAdd, Nat.reduceSub, Array.replicate_succ, Array.replicate_zero, List.push_toArray, List.append_toArray, List.nil_append, List.cons_append]
  gi_wp2
  gi_loopw [8] (fun i wr => ∃ k : Nat, k ≤ ts.length ∧ i = .int .i64 k ∧ J k wr ∧ AllAt wr B ta tc ts) (fun i _ => ts.length - (intOf i).toNat)
  case atStart => exact ⟨0, by omega, rfl, h0, hA⟩
  case round =>
    obtain ⟨k, hk, rfl, hJ, hAr⟩ := hrel
    by_cases hlt : k < ts.length
    · obtain ⟨g, cur, rfl, hg, hc⟩ : ∃ g cur, ta = some ⟨g, 0, none⟩ ∧ wr.heap[g]? = some (.cells cur 45 (0, 0)) ∧ ∀ j, j < ts.length → wr.cell? ⟨g, j, none⟩ = some (tv (ts.getD j .nil)) := by
        rcases hAr.rd with h | h
        · subst h; simp at hlt
        · exact h
      have c0 := hc k hlt
      obtain ⟨fn, tmps, assign, body, hy, hR⟩ := hY k hlt wr hJ
      try dsimp only at hy
      obtain ⟨x, hx⟩ : ∃ x, tv (ts.getD k .nil) = x := ⟨_, rfl⟩
      rw [hx] at c0 hy
      have hkl : (k : Int) < (ts.length : Int) := by omega
      clear hc
      gi_wp2
      refine hR.mono ?_
      rintro e W3 (⟨rfl, hJ3, hk3⟩ | ⟨rfl, hJx3⟩)
      · gi_wp2
        go_roundw
        case rel => exact ⟨k + 1, by omega, by simp, hJ3, hAr.kp hk3⟩
        case measure => simp [intOf]; omega
      · gi_wp2
        refine bodyPost_ret (results_none rfl _ _ _) rfl ?_
        exact ⟨⟨_, rfl⟩, .inr ⟨k, hlt, hJx3⟩⟩
    · obtain rfl : k = ts.length := by omega
      gi_wp2
      go_end0
      exact ⟨⟨_, rfl⟩, .inl hJ⟩
end Go.Proofs.YtdcfjopmddaemaaDoor

set_option linter.unusedSimpArgs false
set_option linter.unusedVariables false
namespace Go.Proofs.YtdcfjopmddaemaaDoor

/-- What of a node counts on the way. -/
def shp (x : Nd) : Int × Int × ByteArray × Nat := (x.op, x.n, x.name, x.kids.length)
def shT (t : Tm) : Int × Int × ByteArray × Nat := (opT t, nT t, nameT t, (partsT t).length)
theorem shp_mv (f b : Int) (l : List Nd) : (l.map (mvN f b)).map shp = l.map shp := by
  rw [List.map_map]
  refine List.map_congr_left fun x _ => ?_
  simp [shp, mvN]
theorem shp_acc (ps : List (List Nd)) : (accS ps).1.map shp = (ps.map (List.map shp)).flatten := by
  have key : ∀ (qs rs : List (List Nd)), (accS rs).1.map shp = (rs.map (List.map shp)).flatten → (accS (rs ++ qs)).1.map shp = ((rs ++ qs).map (List.map shp)).flatten := by
    intro qs
    induction qs with
    | nil => intro rs h; simpa using h
    | cons q qs ih =>
      intro rs h
      have e : rs ++ q :: qs = (rs ++ [q]) ++ qs := by simp
      rw [e]
      refine ih _ ?_
      rw [accS_snoc]
      simp only [List.map_append, h, shp_mv, List.map_cons, List.map_nil, List.flatten_append, List.flatten_cons, List.flatten_nil, List.append_nil]
  have := key ps [] rfl
  simpa using this
theorem shp_join (op n : Int) (nm : ByteArray) (ps : List (List Nd)) : (joinL op n nm ps).map shp = (ps.map (List.map shp)).flatten ++ [(op, n, nm, ps.length)] := by
  unfold joinL
  rw [List.map_append, shp_acc]
  simp [shp, accS_len2]
theorem shp_flat (t : Tm) : (flatT t).map shp = (subsT t).map shT := by
  induction t with
  | nil => simp [flatT, shp_join, subsT, shT, opT, nT, nameT, partsT]
  | lit n => simp [flatT, shp_join, subsT, shT, opT, nT, nameT, partsT]
  | var s => simp [flatT, shp_join, subsT, shT, opT, nT, nameT, partsT]
  | un op a iha => simp [flatT, shp_join, subsT, shT, opT, nT, nameT, partsT, iha]
  | bin op a b iha ihb => simp [flatT, shp_join, subsT, shT, opT, nT, nameT, partsT, iha, ihb]
  | ifs c a b ihc iha ihb => simp [flatT, shp_join, subsT, shT, opT, nT, nameT, partsT, ihc, iha, ihb]
  | other u x => simp [flatT, shp_join, subsT, shT, opT, nT, nameT, partsT]
theorem subW_len (t : Tm) : (subsT t).length = (flatT t).length := by
  have := congrArg List.length (shp_flat t)
  simpa using this.symm
theorem shp_at (t : Tm) (i : Nat) (hi : i < (flatT t).length) : shp ((flatT t).getD i nd0) = shT ((subsT t).getD i .nil) := by
  have h := congrArg (fun l => l[i]?) (shp_flat t)
  have hs : i < (subsT t).length := by rw [subW_len]; exact hi
  simp only [List.getElem?_map, List.getElem?_eq_getElem hi, List.getElem?_eq_getElem hs, Option.map_some, Option.some.injEq] at h
  simpa [hi, hs] using h

theorem evN_shp {bs : List Bd} {st : List Int} {x y : Nd} (h : shp x = shp y) : evN bs st x = evN bs st y := by
  unfold shp at h
  obtain ⟨h1, h2, h3, h4⟩ : x.op = y.op ∧ x.n = y.n ∧ x.name = y.name ∧ x.kids.length = y.kids.length := by simpa using h
  unfold evN
  rw [h1, h2, h3, h4]
/-- A term put onto the numbers. -/
def evM (bs : List Bd) (st : List Int) (t : Tm) : Option (List Int) := evN bs st ⟨opT t, nT t, nameT t, List.replicate (partsT t).length 0⟩
theorem evM_eq {bs : List Bd} {st : List Int} {x : Nd} {t : Tm} (h : shp x = shT t) : evM bs st t = evN bs st x := by
  unfold evM
  refine evN_shp ?_
  rw [h]
  simp [shp, shT]
/-- The numbers behind these terms. -/
def evQ (bs : List Bd) (ts : List Tm) : Option (List Int) := ts.foldl (fun o t => o.bind fun st => evM bs st t) (some [])
theorem evQ_snoc (bs : List Bd) (ts : List Tm) (t : Tm) : evQ bs (ts ++ [t]) = (evQ bs ts).bind fun st => evM bs st t := by
  unfold evQ; rw [List.foldl_append]; rfl
theorem evQ_take (bs : List Bd) (t : Tm) : ∀ k, k ≤ (flatT t).length → evQ bs ((subsT t).take k) = evS bs (flatT t) k := by
  intro k
  induction k with
  | zero => intro _; rfl
  | succ k ih =>
    intro hk
    have hs : k < (subsT t).length := by rw [subW_len]; omega
    rw [List.take_succ_eq_append_getElem hs, evQ_snoc, ih (by omega)]
    show _ = (evS bs (flatT t) k).bind _
    congr 1
    funext st
    have e : (subsT t)[k] = (subsT t).getD k .nil := by simp [hs]
    rw [e]
    exact evM_eq (shp_at t k (by omega))
/-- A term within a sound one is of one of the five kinds, and has its operator. -/
theorem sub_form {t : Tm} {fr : List Nat} (hb : begL (flatT t) = some fr) (i : Nat) (hi : i < (flatT t).length) : fitB (opT ((subsT t).getD i .nil)) (nT ((subsT t).getD i .nil)) (nameT ((subsT t).getD i .nil)) ((partsT ((subsT t).getD i .nil)).length : Nat) = true := by
  have hf := ((begOk_of (begL_some hb).2.2.1).at_ i hi).1
  have h := shp_at t i hi
  unfold shp shT at h
  obtain ⟨h1, h2, h3, h4⟩ : ((flatT t).getD i nd0).op = opT ((subsT t).getD i .nil) ∧ ((flatT t).getD i nd0).n = nT ((subsT t).getD i .nil) ∧ ((flatT t).getD i nd0).name = nameT ((subsT t).getD i .nil) ∧ ((flatT t).getD i nd0).kids.length = (partsT ((subsT t).getD i .nil)).length := by
    injection h with a b
    injection b with b c
    injection c with c d
    exact ⟨a, b, c, d⟩
  unfold formB at hf
  rw [h1, h2, h3, h4] at hf
  exact hf
/-- What Term answers. -/
theorem term_all {bs : List Bd} {t : Tm} {fr : List Nat} (hb : begL (flatT t) = some fr) {st : List Int} (h : evQ bs (subsT t) = some st) : evA bs (flatT t) = (st.getD 0 0, 0) ∧ st.length = 1 := by
  have e := evQ_take bs t (flatT t).length (Nat.le_refl _)
  rw [← subW_len, List.take_length, h, subW_len] at e
  have hbo := begOk_of (begL_some hb).2.2.1
  have hk := okN_end hbo (flatT t).length st (Nat.le_refl _) e.symm (.inl rfl)
  have h1 := (snd_end (bs := bs) hb).2 hk.symm
  have h2 := (snd_end (bs := bs) hb).1.1 hk.symm
  rw [← e] at h1
  have h3 := Option.some.inj h1
  subst h3
  refine ⟨?_, rfl⟩
  unfold evA
  rw [if_pos (sndW_some hb)]
  cases hv : vA bs (flatT t) ((flatT t).length - 1) with
  | none => exact absurd hv h2
  | some v => rfl
theorem term_trap {bs : List Bd} {t : Tm} {fr : List Nat} (hb : begL (flatT t) = some fr) {k : Nat} (hk : k < (flatT t).length) {st : List Int} (h : evQ bs ((subsT t).take k) = some st) (hn : evM bs st ((subsT t).getD k .nil) = none) : evA bs (flatT t) = (0, 12) := by
  rw [evQ_take bs t k (by omega)] at h
  rw [evM_eq (shp_at t k hk)] at hn
  have hbo := begOk_of (begL_some hb).2.2.1
  have ho := okN_end hbo k st (by omega) h (.inr ⟨hk, hn⟩)
  have hv : vA bs (flatT t) ((flatT t).length - 1) = none := by
    cases hv : vA bs (flatT t) ((flatT t).length - 1) with
    | none => rfl
    | some v => exact absurd ((snd_end (bs := bs) hb).1.2 (by rw [hv]; simp)) (by omega)
  unfold evA
  rw [if_pos (sndW_some hb), hv]
theorem stk_sub {bs : List Bd} {t : Tm} {fr : List Nat} (hb : begL (flatT t) = some fr) {k : Nat} (hk : k < (flatT t).length) {st : List Int} (h : evQ bs ((subsT t).take k) = some st) : (partsT ((subsT t).getD k .nil)).length ≤ st.length ∧ st.length ≤ 64 := by
  rw [evQ_take bs t k (by omega)] at h
  have hbo := begOk_of (begL_some hb).2.2.1
  have h1 := evS_kids hbo k hk st h
  have h2 := evS_len k st h
  have h64 := (begL_some hb).2.1
  have h3 := shp_at t k hk
  have h4 : ((flatT t).getD k nd0).kids.length = (partsT ((subsT t).getD k .nil)).length := by
    unfold shp shT at h3
    injection h3 with a b
    injection b with b c
    injection c with c d
  omega
end Go.Proofs.YtdcfjopmddaemaaDoor

set_option linter.unusedSimpArgs false
set_option linter.unusedVariables false
namespace Go.Proofs.YtdcfjopmddaemaaDoor
open Go.RowKit Go.Lib Go.Sort

/-- What node leaves; and no block but cells has turned. -/
def NdQ (w : World) (p : Nat) (v ev : Value) (r : Option (List Int)) (e : Ending) (w' : World) : Prop := NdP w p ev r e w' ∧ KoW p v w w'

set_option maxRecDepth 20000 in
set_option maxHeartbeats 2000000 in
theorem wterm_lit (w : World) (p : Nat) (eo : Option Addr) (ec : Nat) (v : Value) (st : List Int) (bs : List Bd) (n : Int) (hM : Ew w p (.slice eo bs.length ec) v st) (hlen : st.length ≤ 64) :
    Calls Tryd.prog 54 #[.pointer (some ⟨p, 0, none⟩), tv (.lit n)] w (NdQ w p v (.slice eo bs.length ec) (evM bs st (.lit n))) := by
  have hE : evM bs st (.lit n) = some (st ++ [n]) := rfl
  rw [hE]
  unfold tv
  have h0 := taLit
  have hpl := hM.lt
  have hb1 : Below w.heap.size w (w.alloc (.cells #[.int .i64 n] 77)) := (Below.refl _ _).alloc (Nat.le_refl _) _
  have cP : Hid (Calls Tryd.prog 71 #[.pointer (some ⟨p, 0, none⟩), .int .i64 n] (w.alloc (.cells #[.int .i64 n] 77)) fun e w' => e = .returned (.tuple #[]) ∧ (∃ v', Ew w' p (.slice eo bs.length ec) v' (st ++ [n])) ∧ Below p (w.alloc (.cells #[.int .i64 n] 77)) w' ∧ KoW p v (w.alloc (.cells #[.int .i64 n] 77)) w') := wput_ko _ p _ v st n (hM.below hb1) (by omega)
  have HB1 : Hid (Below w.heap.size w (w.alloc (.cells #[.int .i64 n] 77))) := hb1
  clear hM hb1 hE
  go_enter Tryd.func54, Tryd.ntmps54
  go_wp2_with fail
  refine cP.out.mono ?_
  rintro e w2 ⟨rfl, ⟨v', hE⟩, hB, hK⟩
  have HKO : Hid (KoW p v w w2) := (KoW.below HB1.out).trans hK
  clear hK
  go_wp2_with fail
  go_ret
  exact ⟨⟨⟨0, rfl, rfl, v', hE⟩, (HB1.out.mono (by omega)).trans hB⟩, HKO.out⟩

set_option maxRecDepth 20000 in
set_option maxHeartbeats 2000000 in
theorem wterm_var (w : World) (p : Nat) (eo : Option Addr) (ec : Nat) (v : Value) (st : List Int) (bs : List Bd) (s : ByteArray) (hM : Ew w p (.slice eo bs.length ec) v st) (hlen : st.length ≤ 64) (hb : Bds w eo ec bs) (hreach : bs.length * 24 ≤ 140737488355328) :
    Calls Tryd.prog 54 #[.pointer (some ⟨p, 0, none⟩), tv (.var s)] w (NdQ w p v (.slice eo bs.length ec) (evM bs st (.var s))) := by
  have hE : evM bs st (.var s) = some (st ++ [getB bs s]) := rfl
  rw [hE]
  unfold tv
  have h0 := taLit
  have h1 := taVar
  have hpl := hM.lt
  have hb1 : Below w.heap.size w (w.alloc (.cells #[.string s] 80)) := (Below.refl _ _).alloc (Nat.le_refl _) _
  have HM1 : Hid (Ew (w.alloc (.cells #[.string s] 80)) p (.slice eo bs.length ec) v st) := hM.below hb1
  have HBS : Hid (Bds (w.alloc (.cells #[.string s] 80)) eo ec bs) := hb.below hb1
  have HB1 : Hid (Below w.heap.size w (w.alloc (.cells #[.string s] 80))) := hb1
  have c0 := HM1.out.c0
  have e0 : (w.alloc (.cells #[.string s] 80)).cell? ⟨w.heap.size, 0, none⟩ = some (.string s) := by simp
  clear hM hb1 hE hb
  go_enter Tryd.func54, Tryd.ntmps54
  go_wp2_with fail
  generalize w.alloc (.cells #[.string s] 80) = W1 at *
  have g0 := cell_regrown c0
  have g2 := cell_regrown e0
  have cG : Hid (∀ d os, Calls Tryd.prog 72 #[.slice eo bs.length ec, .string s] (grow (redrawn W1 d) os) fun e w'' => e = .returned (.int .i64 (getB bs s)) ∧ ∃ p : Regrown, w'' = grow (redrawn W1 p.d) p.os) := fun d os => Calls.regrown_of (getE_any eo ec bs s hreach _ (HBS.out.below (below_regrown W1 d os)))
  refine wp_region_quiet_then 8 (by kernel_rfl) (by kernel_rfl) ?_
  simp only [List.take_succ_cons, List.take_zero]
  iterate 8 (go_big_quiet_step ((go_at_call 72; exact cG.out _ _)))
  refine wpQuiet_nil ?_
  intro w' hw'
  obtain ⟨⟨dq, osq⟩, hw''⟩ := hw'
  subst hw''
  simp only [List.drop_succ_cons, List.drop_zero]
  have hb2 := below_regrown W1 dq osq
  have HM2 : Hid (Ew (grow (redrawn W1 dq) osq) p (.slice eo bs.length ec) v st) := HM1.out.below hb2
  have HB2 : Hid (Below w.heap.size w (grow (redrawn W1 dq) osq)) := HB1.out.trans (hb2.mono HB1.out.size)
  generalize grow (redrawn W1 dq) osq = w2 at *
  clear hb2 HM1 HB1 c0 e0 g0 g2 cG h0 h1
  go_wp2_with fail
  refine (wput_ko w2 p _ v st _ HM2.out (by omega)).mono ?_
  rintro e w3 ⟨rfl, ⟨v', hE⟩, hB, hK⟩
  have HKO : Hid (KoW p v w w3) := (KoW.below HB2.out).trans hK
  clear hK
  go_wp2_with fail
  go_ret
  exact ⟨⟨⟨0, rfl, rfl, v', hE⟩, (HB2.out.mono (by omega)).trans hB⟩, HKO.out⟩

/-- What apply leaves, as node tells it. -/
theorem ndp_of_apply {w w2 : World} {p : Nat} {ev : Value} {st : List Int} {bs : List Bd} {op n : Int} {nm : ByteArray} {ks : List Int} {r er : Int} (h1 : op ≠ 1) (h2 : op ≠ 2) (hr : apR op (st.drop (st.length - ks.length)) = (r, er)) (hE : ∃ v', Ew w2 p ev v' (st.take (st.length - ks.length) ++ [r])) (hB : Below p w w2) : NdP w p ev (evN bs st ⟨op, n, nm, ks⟩) (.returned (.int .i64 er)) w2 := by
  refine ⟨⟨er, rfl, ?_⟩, hB⟩
  unfold evN
  simp only
  rw [if_neg h1, if_neg h2]
  unfold apO
  rw [hr]
  by_cases he : er = 0
  · simp only [he, if_true]; exact ⟨trivial, hE⟩
  · simp only [he, if_false]; exact he

set_option maxRecDepth 20000 in
set_option maxHeartbeats 2000000 in
theorem wterm_un (w : World) (p : Nat) (eo : Option Addr) (ec : Nat) (v : Value) (st : List Int) (bs : List Bd) (op : Int) (a : Tm) (hM : Ew w p (.slice eo bs.length ec) v st) (hlen : st.length ≤ 64) (hk : 1 ≤ st.length) (hG : GrpCells w) (o1 : op ≠ 1) (o2 : op ≠ 2) :
    Calls Tryd.prog 54 #[.pointer (some ⟨p, 0, none⟩), tv (.un op a)] w (NdQ w p v (.slice eo bs.length ec) (evM bs st (.un op a))) := by
  have HFIN : Hid (∀ w2 r er, apR op (st.drop (st.length - 1)) = (r, er) → (∃ v', Ew w2 p (.slice eo bs.length ec) v' (st.take (st.length - 1) ++ [r])) → Below p w w2 → NdP w p (.slice eo bs.length ec) (evM bs st (.un op a)) (.returned (.int .i64 er)) w2) := fun w2 r er h1 h2 h3 => ndp_of_apply (ks := List.replicate 1 0) o1 o2 h1 h2 h3
  generalize evM bs st (.un op a) = Z at *
  unfold tv
  have h0 := taLit
  have h1 := taVar
  have h2 := taUn
  have sa := st_one (tv_one a)
  have ca := tv_cells a
  unfold Value.cells at ca
  generalize tv a = va at *
  have hpl := hM.lt
  have HM : Hid (Ew w p (.slice eo bs.length ec) v st) := hM
  have HG : Hid (GrpCells w) := hG
  have cA : Hid (∀ V, Below w.heap.size w V → Calls Tryd.prog 73 #[.pointer (some ⟨p, 0, none⟩), .int .i64 op, .int .i64 1] V fun e w' => ∃ r er, apR op (st.drop (st.length - 1)) = (r, er) ∧ e = .returned (.int .i64 er) ∧ (∃ v', Ew w' p (.slice eo bs.length ec) v' (st.take (st.length - 1) ++ [r])) ∧ Below p V w' ∧ KoW p v V w') := fun V hV => (wapply_ko V p _ v st op 1 (HM.out.below hV) (by omega) (by omega) hk (HG.out.below hV)).mono fun e w' ⟨h1, h2, h3, h4⟩ => ⟨_, _, rfl, h1, h2, h3, h4⟩
  clear hM hG o1 o2
  go_enter Tryd.func54, Tryd.ntmps54
  go_wp2_with fail
  refine (cA.out _ ((Below.refl _ _).alloc (Nat.le_refl _) _)).mono ?_
  rintro e w2 ⟨r, er, hr, rfl, hE, hB, hK⟩
  have HKO : Hid (KoW p v w w2) := (KoW.below ((Below.refl w.heap.size w).alloc (Nat.le_refl _) _)).trans hK
  have HZ : Hid (NdP w p (.slice eo bs.length ec) Z (.returned (.int .i64 er)) w2) := HFIN.out w2 r er hr hE ((((Below.refl w.heap.size w).alloc (Nat.le_refl _) _).mono (by omega)).trans hB)
  clear hr hE hB HFIN hK
  go_wp2_with fail
  go_ret
  exact ⟨HZ.out, HKO.out⟩

set_option maxRecDepth 20000 in
set_option maxHeartbeats 2000000 in
theorem wterm_bin (w : World) (p : Nat) (eo : Option Addr) (ec : Nat) (v : Value) (st : List Int) (bs : List Bd) (op : Int) (a b : Tm) (hM : Ew w p (.slice eo bs.length ec) v st) (hlen : st.length ≤ 64) (hk : 2 ≤ st.length) (hG : GrpCells w) (o1 : op ≠ 1) (o2 : op ≠ 2) :
    Calls Tryd.prog 54 #[.pointer (some ⟨p, 0, none⟩), tv (.bin op a b)] w (NdQ w p v (.slice eo bs.length ec) (evM bs st (.bin op a b))) := by
  have HFIN : Hid (∀ w2 r er, apR op (st.drop (st.length - 2)) = (r, er) → (∃ v', Ew w2 p (.slice eo bs.length ec) v' (st.take (st.length - 2) ++ [r])) → Below p w w2 → NdP w p (.slice eo bs.length ec) (evM bs st (.bin op a b)) (.returned (.int .i64 er)) w2) := fun w2 r er h1 h2 h3 => ndp_of_apply (ks := List.replicate 2 0) o1 o2 h1 h2 h3
  generalize evM bs st (.bin op a b) = Z at *
  unfold tv
  have h0 := taLit
  have h1 := taVar
  have h2 := taUn
  have h3 := taBin
  have sa := st_one (tv_one a)
  have ca := tv_cells a
  unfold Value.cells at ca
  generalize tv a = va at *
  have sb := st_one (tv_one b)
  have cb := tv_cells b
  unfold Value.cells at cb
  generalize tv b = vb at *
  have hpl := hM.lt
  have HM : Hid (Ew w p (.slice eo bs.length ec) v st) := hM
  have HG : Hid (GrpCells w) := hG
  have cA : Hid (∀ V, Below w.heap.size w V → Calls Tryd.prog 73 #[.pointer (some ⟨p, 0, none⟩), .int .i64 op, .int .i64 2] V fun e w' => ∃ r er, apR op (st.drop (st.length - 2)) = (r, er) ∧ e = .returned (.int .i64 er) ∧ (∃ v', Ew w' p (.slice eo bs.length ec) v' (st.take (st.length - 2) ++ [r])) ∧ Below p V w' ∧ KoW p v V w') := fun V hV => (wapply_ko V p _ v st op 2 (HM.out.below hV) (by omega) (by omega) hk (HG.out.below hV)).mono fun e w' ⟨h1, h2, h3, h4⟩ => ⟨_, _, rfl, h1, h2, h3, h4⟩
  clear hM hG o1 o2
  go_enter Tryd.func54, Tryd.ntmps54
  go_wp2_with fail
  refine (cA.out _ ((Below.refl _ _).alloc (Nat.le_refl _) _)).mono ?_
  rintro e w2 ⟨r, er, hr, rfl, hE, hB, hK⟩
  have HKO : Hid (KoW p v w w2) := (KoW.below ((Below.refl w.heap.size w).alloc (Nat.le_refl _) _)).trans hK
  have HZ : Hid (NdP w p (.slice eo bs.length ec) Z (.returned (.int .i64 er)) w2) := HFIN.out w2 r er hr hE ((((Below.refl w.heap.size w).alloc (Nat.le_refl _) _).mono (by omega)).trans hB)
  clear hr hE hB HFIN hK
  go_wp2_with fail
  go_ret
  exact ⟨HZ.out, HKO.out⟩

set_option maxRecDepth 20000 in
set_option maxHeartbeats 2000000 in
theorem wterm_ifs (w : World) (p : Nat) (eo : Option Addr) (ec : Nat) (v : Value) (st : List Int) (bs : List Bd) (c a b : Tm) (hM : Ew w p (.slice eo bs.length ec) v st) (hlen : st.length ≤ 64) (hk : 3 ≤ st.length) (hG : GrpCells w) :
    Calls Tryd.prog 54 #[.pointer (some ⟨p, 0, none⟩), tv (.ifs c a b)] w (NdQ w p v (.slice eo bs.length ec) (evM bs st (.ifs c a b))) := by
  have HFIN : Hid (∀ w2 r er, apR 17 (st.drop (st.length - 3)) = (r, er) → (∃ v', Ew w2 p (.slice eo bs.length ec) v' (st.take (st.length - 3) ++ [r])) → Below p w w2 → NdP w p (.slice eo bs.length ec) (evM bs st (.ifs c a b)) (.returned (.int .i64 er)) w2) := fun w2 r er h1 h2 h3 => ndp_of_apply (ks := List.replicate 3 0) (by show (17 : Int) ≠ 1; decide) (by show (17 : Int) ≠ 2; decide) h1 h2 h3
  generalize evM bs st (.ifs c a b) = Z at *
  unfold tv
  have h0 := taLit
  have h1 := taVar
  have h2 := taUn
  have h3 := taBin
  have h4 := taIf
  have sc := st_one (tv_one c)
  have cc := tv_cells c
  unfold Value.cells at cc
  generalize tv c = vc at *
  have sa := st_one (tv_one a)
  have ca := tv_cells a
  unfold Value.cells at ca
  generalize tv a = va at *
  have sb := st_one (tv_one b)
  have cb := tv_cells b
  unfold Value.cells at cb
  generalize tv b = vb at *
  have hpl := hM.lt
  have HM : Hid (Ew w p (.slice eo bs.length ec) v st) := hM
  have HG : Hid (GrpCells w) := hG
  have cA : Hid (∀ V, Below w.heap.size w V → Calls Tryd.prog 73 #[.pointer (some ⟨p, 0, none⟩), .int .i64 17, .int .i64 3] V fun e w' => ∃ r er, apR 17 (st.drop (st.length - 3)) = (r, er) ∧ e = .returned (.int .i64 er) ∧ (∃ v', Ew w' p (.slice eo bs.length ec) v' (st.take (st.length - 3) ++ [r])) ∧ Below p V w' ∧ KoW p v V w') := fun V hV => (wapply_ko V p _ v st 17 3 (HM.out.below hV) (by omega) (by omega) hk (HG.out.below hV)).mono fun e w' ⟨h1, h2, h3, h4⟩ => ⟨_, _, rfl, h1, h2, h3, h4⟩
  clear hM hG
  go_enter Tryd.func54, Tryd.ntmps54
  go_wp2_with fail
  refine (cA.out _ ((Below.refl _ _).alloc (Nat.le_refl _) _)).mono ?_
  rintro e w2 ⟨r, er, hr, rfl, hE, hB, hK⟩
  have HKO : Hid (KoW p v w w2) := (KoW.below ((Below.refl w.heap.size w).alloc (Nat.le_refl _) _)).trans hK
  have HZ : Hid (NdP w p (.slice eo bs.length ec) Z (.returned (.int .i64 er)) w2) := HFIN.out w2 r er hr hE ((((Below.refl w.heap.size w).alloc (Nat.le_refl _) _).mono (by omega)).trans hB)
  clear hr hE hB HFIN hK
  go_wp2_with fail
  go_ret
  exact ⟨HZ.out, HKO.out⟩


/-- term of a term that may stand in a sound one. -/
theorem wterm_any (w : World) (p : Nat) (eo : Option Addr) (ec : Nat) (v : Value) (st : List Int) (bs : List Bd) (t : Tm) (hf : fitB (opT t) (nT t) (nameT t) ((partsT t).length : Nat) = true) (hM : Ew w p (.slice eo bs.length ec) v st) (hlen : st.length ≤ 64) (hk : (partsT t).length ≤ st.length) (hG : GrpCells w) (hb : Bds w eo ec bs) (hreach : bs.length * 24 ≤ 140737488355328) :
    Calls Tryd.prog 54 #[.pointer (some ⟨p, 0, none⟩), tv t] w (NdQ w p v (.slice eo bs.length ec) (evM bs st t)) := by
  have har := hf
  unfold fitB at har
  simp only [Bool.and_eq_true, decide_eq_true_eq] at har
  obtain ⟨⟨⟨h0, h1⟩, _⟩, _⟩ := har
  cases t with
  | nil => simp [opT, aritI] at h0
  | other u x => simp [opT, aritI] at h0
  | lit n => exact wterm_lit w p eo ec v st bs n hM hlen
  | var s => exact wterm_var w p eo ec v st bs s hM hlen hb hreach
  | un op a =>
    refine wterm_un w p eo ec v st bs op a hM hlen (by simpa [partsT] using hk) hG ?_ ?_
    · intro e; subst e; simp [opT, partsT, aritI] at h1
    · intro e; subst e; simp [opT, partsT, aritI] at h1
  | bin op a b =>
    refine wterm_bin w p eo ec v st bs op a b hM hlen (by simpa [partsT] using hk) hG ?_ ?_
    · intro e; subst e; simp [opT, partsT, aritI] at h1
    · intro e; subst e; simp [opT, partsT, aritI] at h1
  | ifs c a b => exact wterm_ifs w p eo ec v st bs c a b hM hlen (by simpa [partsT] using hk) hG
end Go.Proofs.YtdcfjopmddaemaaDoor

set_option linter.unusedSimpArgs false
set_option linter.unusedVariables false
namespace Go.Proofs.YtdcfjopmddaemaaDoor
open Go.RowKit Go.Shelf
attribute [local go_sem] Oper.semAt_some

theorem blk_own {W W' : World} {row : Option Nat} {b : Nat} {c : Array Value} {T : TypeId} {f : Nat × Nat} (h : W.heap[b]? = some (.cells c T f)) (hg : W.grownBy W' row) (hr : ∀ r, row = some r → ∃ o : Obj, W.heap[r]? = some o ∧ o.isCells = false) : W'.heap[b]? = some (.cells c T f) := by
  refine (hg.block b (lt_of_block h) (fun e => ?_)).trans h
  obtain ⟨o, ho, hc⟩ := hr b e.symm
  rw [h] at ho; cases ho; cases hc
theorem Ew.own {W W' : World} {row : Option Nat} {p : Nat} {ev v : Value} {st : List Int} (h : Ew W p ev v st) (hg : W.grownBy W' row) (hr : ∀ r, row = some r → ∃ o : Obj, W.heap[r]? = some o ∧ o.isCells = false) : Ew W' p ev v st := by
  refine ⟨blk_own h.blk hg hr, h.on.kept hg ?_⟩
  rcases h.on.2 with ⟨rfl, _⟩ | ⟨g, cap, cur, rfl, _, hgb, _⟩
  · exact .inl rfl
  · refine .inr fun e' => ?_
    obtain ⟨o, ho, hc⟩ := hr g (by simpa [Value.ownBlock] using e'.symm)
    rw [hgb] at ho; cases ho; cases hc
theorem AllAt.own {W W' : World} {row : Option Nat} {B : Nat} {ta : Option Addr} {tc : Nat} {ts : List Tm} (h : AllAt W B ta tc ts) (hg : W.grownBy W' row) (hr : ∀ r, row = some r → ∃ o : Obj, W.heap[r]? = some o ∧ o.isCells = false) : AllAt W' B ta tc ts := by
  obtain ⟨x, y, hb⟩ := h.blk
  refine ⟨⟨x, y, blk_own hb hg hr⟩, h.le, h.em, ?_⟩
  rcases h.rd with h | ⟨g, cur, e, hgb, hc⟩
  · exact .inl h
  · have hg' := blk_own hgb hg hr
    refine .inr ⟨g, cur, e, hg', fun j hj => ?_⟩
    rw [← hc j hj]
    exact World.cell?_of_block (a := ⟨g, j, none⟩) (hg'.trans hgb.symm)
theorem in_round {l n : Nat} {P : Program} {f : FuncId} {args : Array Value} {w : World} {R : Ending → World → Prop} (h : Calls P f args w R) : CallsIn (Fence.wide.inRound l) n P f args w R := (callsIn_wide (n := n)).2 h

/-- What term turns lies apart from the list. -/
theorem kpa_ko {W W2 : World} {p B : Nat} {ev v : Value} {st : List Int} {ta : Option Addr} {tc : Nat} {ts : List Tm} (hE : Ew W p ev v st) (hA : AllAt W B ta tc ts) (hts : ts ≠ []) (hB : B ≠ p) (hg : ∀ g, ta = some ⟨g, 0, none⟩ → g ≠ p) (hk : KoW p v W W2) : KpA B ta W W2 := by
  have key : ∀ b c T f, W.heap[b]? = some (.cells c T f) → T ≠ 2 → some b ≠ v.ownBlock := fun b c T f hb hT e => by
    rcases hE.on.2 with ⟨rfl, _⟩ | ⟨g', cap, cur, rfl, _, hgb, _⟩
    · cases e
    · have e2 : b = g' := by simpa [Value.ownBlock] using e
      subst e2
      rw [hb] at hgb
      injection hgb with h1
      injection h1 with h2 h3
      exact hT h3
  obtain ⟨x, y, hb⟩ := hA.blk
  refine ⟨fun o ho => (hk.same B (lt_of_block hb) hB (key B _ _ _ hb (by decide))).trans ho, fun g o e ho => ?_⟩
  rcases hA.rd with h | ⟨g', cur, e', hgb, _⟩
  · exact absurd h hts
  · rw [e] at e'
    cases e'
    exact (hk.same g (lt_of_block hgb) (hg g e) (key g _ _ _ hgb (by decide))).trans ho
theorem all_snd {t : Tm} {k : Nat} (h : k < (allT t).length) : allT t = subsT t ∧ ∃ fr, begL (flatT t) = some fr := by
  unfold allT at h ⊢
  by_cases hs : sndB (flatT t) = true
  · rw [if_pos hs]
    exact ⟨rfl, Option.isSome_iff_exists.1 hs⟩
  · rw [if_neg hs] at h; simp at h
theorem want_flat {t : Tm} {fr : List Nat} (h : begL (flatT t) = some fr) : wantT t = flatT t := by unfold wantT; rw [if_pos (sndW_some h)]
theorem take_snoc {ts : List Tm} {k : Nat} (h : k < ts.length) : ts.take (k + 1) = ts.take k ++ [ts.getD k .nil] := by rw [List.take_succ_eq_append_getElem h]; simp [h]

/-- Between two rounds of Term: the numbers of the terms so far; the results' boxes; the list. -/
structure TmI (w W0 : World) (ev : Value) (bs : List Bd) (B : Nat) (ta : Option Addr) (tc : Nat) (ts : List Tm) (k : Nat) (W : World) : Prop where
  st : ∃ v st, evQ bs (ts.take k) = some st ∧ Ew W (w.heap.size + 1 + 1) ev v st
  r0 : W.heap[w.heap.size]? = some (.cells #[.int .i64 0] 2 (0, 0))
  r1 : W.heap[w.heap.size + 1]? = some (.cells #[.int .i64 0] 24 (0, 0))
  all : AllAt W B ta tc ts
  below : Below w.heap.size w W
  size : W0.heap.size ≤ W.heap.size
/-- A round has trapped. -/
structure TmX (w : World) (bs : List Bd) (ts : List Tm) (c : Code) (k : Nat) (W : World) : Prop where
  ret : c = .ret
  st : ∃ st, evQ bs (ts.take k) = some st ∧ evM bs st (ts.getD k .nil) = none
  r0 : W.heap[w.heap.size]? = some (.cells #[.int .i64 0] 2 (0, 0))
  r1 : W.heap[w.heap.size + 1]? = some (.cells #[.int .i64 12] 24 (0, 0))
  below : Below w.heap.size w W
theorem TmI.own {w W0 : World} {ev : Value} {bs : List Bd} {B : Nat} {ta : Option Addr} {tc : Nat} {ts : List Tm} (hw : w.heap.size ≤ W0.heap.size) : OwnFrom W0.heap.size (TmI w W0 ev bs B ta tc ts) := fun k W W' row h hg hr => by
  have hr' : ∀ r, row = some r → ∃ o : Obj, W.heap[r]? = some o ∧ o.isCells = false := fun r e => (hr r e).2
  obtain ⟨v, st, hq, hE⟩ := h.st
  exact ⟨⟨v, st, hq, hE.own hg hr'⟩, blk_own h.r0 hg hr', blk_own h.r1 hg hr', h.all.own hg hr', h.below.grown hg (by have := h.size; omega) (fun r e => by have := (hr r e).1; omega), Nat.le_trans h.size hg.size⟩
theorem TmX.own {w W0 : World} {bs : List Bd} {ts : List Tm} (hw : w.heap.size ≤ W0.heap.size) (c : Code) : OwnFrom W0.heap.size (TmX w bs ts c) := fun k W W' row h hg hr => by
  have hr' : ∀ r, row = some r → ∃ o : Obj, W.heap[r]? = some o ∧ o.isCells = false := fun r e => (hr r e).2
  exact ⟨h.ret, h.st, blk_own h.r0 hg hr', blk_own h.r1 hg hr', h.below.grown hg h.below.size (fun r e => by have := (hr r e).1; omega)⟩

set_option maxRecDepth 100000 in
set_option maxHeartbeats 4000000 in
theorem term_in (t : Tm) (hO : OthH t) (eo : Option Addr) (ec : Nat) (bs : List Bd) (hreach : bs.length * 24 ≤ 140737488355328) (w : World) (hT : SpanCells w) (hG : GrpCells w) (hB : Bds w eo ec bs) :
    CallsIn Fence.wide 4 Tryd.prog 29 #[tv t, .slice eo bs.length ec] w fun e W' => e = .returned (.tuple #[.int .i64 (evA bs (wantT t)).1, .int .i64 (evA bs (wantT t)).2]) ∧ Below w.heap.size w W' := by
  have hro : Fence.wide.round = none := rfl
  have cALL : Hid (∀ V, SpanCells V → Calls Tryd.prog 26 #[tv t] V fun e w' => ∃ B ta tc, e = .returned (.func (.func 52) #[] #[.pointer (some ⟨B, 0, none⟩)]) ∧ V.heap.size ≤ B ∧ (∀ g, ta = some ⟨g, 0, none⟩ → V.heap.size ≤ g) ∧ AllAt w' B ta tc (allT t) ∧ Below V.heap.size V w') := fun V hV => all_any t hO V hV
  obtain ⟨v, hv⟩ : ∃ v, tv t = v := ⟨_, rfl⟩
  rw [hv] at cALL ⊢
  clear hv
  obtain ⟨P1, hP1⟩ : ∃ P1, evA bs (wantT t) = P1 := ⟨_, rfl⟩
  rw [hP1]
  have HP : Hid (evA bs (wantT t) = P1) := hP1
  clear hP1
  obtain ⟨p1, p2⟩ := P1
  have hb3 : Below w.heap.size w (((w.alloc (.cells #[.int .i64 0] 2)).alloc (.cells #[.int .i64 0] 24)).alloc (.cells #[.slice eo bs.length ec, .slice none 0 0] 107)) := (((Below.refl _ w).alloc (Nat.le_refl _) _).alloc (by simp) _).alloc (by simp; omega) _
  refine callsIn_of_wp_marks Tryd.func29 rfl trivial ?_ hro
  simp only [Tryd.ntmps29, List.size_toArray, List.length_cons, List.length_nil, Nat.reduceAdd, Nat.reduceSub, Array.replicate_succ, Array.replicate_zero, List.push_toArray, List.append_toArray, List.nil_append, List.cons_append]
  gi_wp2
  refine ⟨trivial, ((callsIn_wide (n := 3)).2 (cALL.out _ (hT.below hb3))).mono ?_⟩
  rintro e W0 ⟨B, ta, tc, rfl, hBB, hgB, hA, hbA⟩
  have hs3 : (((w.alloc (.cells #[.int .i64 0] 2)).alloc (.cells #[.int .i64 0] 24)).alloc (.cells #[.slice eo bs.length ec, .slice none 0 0] 107)).heap.size = w.heap.size + 3 := by simp
  have b0 : (((w.alloc (.cells #[.int .i64 0] 2)).alloc (.cells #[.int .i64 0] 24)).alloc (.cells #[.slice eo bs.length ec, .slice none 0 0] 107)).heap[w.heap.size]? = some (.cells #[.int .i64 0] 2 (0, 0)) := (Deep.blk_alloc_lt _ _ _ (by simp; omega)).trans ((Deep.blk_alloc_lt _ _ _ (by simp)).trans (Deep.blk_alloc_new _ _))
  have b1 : (((w.alloc (.cells #[.int .i64 0] 2)).alloc (.cells #[.int .i64 0] 24)).alloc (.cells #[.slice eo bs.length ec, .slice none 0 0] 107)).heap[w.heap.size + 1]? = some (.cells #[.int .i64 0] 24 (0, 0)) := by
    refine (Deep.blk_alloc_lt _ _ _ (by simp)).trans ?_
    have := Deep.blk_alloc_new (w.alloc (.cells #[.int .i64 0] 2)) (.cells #[.int .i64 0] 24)
    rw [World.size_alloc] at this
    exact this
  have b2 : (((w.alloc (.cells #[.int .i64 0] 2)).alloc (.cells #[.int .i64 0] 24)).alloc (.cells #[.slice eo bs.length ec, .slice none 0 0] 107)).heap[w.heap.size + 1 + 1]? = some (.cells #[.slice eo bs.length ec, .slice none 0 0] 107 (0, 0)) := by
    have := Deep.blk_alloc_new ((w.alloc (.cells #[.int .i64 0] 2)).alloc (.cells #[.int .i64 0] 24)) (.cells #[.slice eo bs.length ec, .slice none 0 0] 107)
    rw [World.size_alloc, World.size_alloc] at this
    exact this
  generalize (((w.alloc (.cells #[.int .i64 0] 2)).alloc (.cells #[.int .i64 0] 24)).alloc (.cells #[.slice eo bs.length ec, .slice none 0 0] 107)) = Wp at *
  have hbW : Below w.heap.size w W0 := hb3.trans (hbA.mono hb3.size)
  have hsz0 : w.heap.size + 3 ≤ W0.heap.size := by have := hbA.size; omega
  have hBlt : B < W0.heap.size := by obtain ⟨x, y, hb⟩ := hA.blk; exact lt_of_block hb
  have hBge : w.heap.size + 3 ≤ B := by omega
  have hgt : ∀ g, ta = some ⟨g, 0, none⟩ → w.heap.size + 3 ≤ g := fun g e => by have := hgB g e; omega
  have hi0 : TmI w W0 (.slice eo bs.length ec) bs B ta tc (allT t) 0 W0 := ⟨⟨.slice none 0 0, [], rfl, ⟨(hbA.block _ (by omega)).trans b2, World.ownsRow_nil _ _ _ _⟩⟩, (hbA.block _ (by omega)).trans b0, (hbA.block _ (by omega)).trans b1, hA, hbW, Nat.le_refl _⟩
  have HT : Hid (SpanCells w) := hT
  have HG : Hid (GrpCells w) := hG
  have HBD : Hid (Bds w eo ec bs) := hB
  clear b0 b1 b2 hbA hb3 hs3 hT hG hB cALL
  gi_wp2
  refine range_seq (gf := 52) (lb := #[.pointer (some ⟨B, 0, none⟩)]) hro (by omega) rfl trivial (enters_of Tryd.func52 (by kernel_rfl) rfl) (allT t).length (fun k => #[tv ((allT t).getD k .nil)]) (fun _ => rfl) (KpA B ta) KpA.trans
    (fun W l o o' hl ho hc => ⟨fun o1 h1 => (World.putObj_heap_other (by omega)).trans h1, fun g o1 e h1 => ?kb⟩)
    (fun l J Jx W hW hY h0 => all1_in Fence.wide 3 trivial hro (by omega) l B ta tc (allT t) J Jx W (hA.below hW) hY h0)
    (TmI w W0 (.slice eo bs.length ec) bs B ta tc (allT t)) (TmX w bs (allT t)) (TmI.own (by omega)) (TmX.own (by omega)) hi0
    (fun k => { tmps := #[v, .slice eo bs.length ec, undef, undef, .pointer (some ⟨w.heap.size, 0, none⟩), .pointer (some ⟨w.heap.size + 1, 0, none⟩), .pointer (some ⟨w.heap.size + 1 + 1, 0, none⟩), tv ((allT t).getD k .nil), .slice eo bs.length ec, .agg #[.slice eo bs.length ec, .slice none 0 0], v, .func (.func 52) #[] #[.pointer (some ⟨B, 0, none⟩)], tv ((allT t).getD k .nil), undef, undef, undef, undef, undef, undef, undef, undef, undef, undef, undef], defers := [] })
    ?assign ?body ?done ?stop
  case kb =>
    rcases hA.rd with h | ⟨g', cur, e', hg', _⟩
    · have := hA.em h
      rw [this] at e; cases e
    · rw [e] at e'; cases e'
      exact (World.putObj_heap_other (by have := lt_of_block hg'; omega)).trans h1
  case assign =>
    intro l k W K hK
    gi_wp2
    exact hK
  case body =>
    intro l k W hl hk hI
    obtain ⟨hts, fr, hbg⟩ := all_snd hk
    obtain ⟨v1, st, hq, hE⟩ := hI.st
    have hkf : k < (flatT t).length := by rw [hts, subs_len] at hk; exact hk
    have hq' := hq
    rw [hts] at hq'
    obtain ⟨hk1, hk2⟩ := stk_sub hbg hkf hq'
    have hfit := sub_form hbg k hkf
    rw [← hts] at hk1 hfit
    have cW := in_round (l := l) (n := 1) (wterm_any W (w.heap.size + 1 + 1) eo ec v1 st bs ((allT t).getD k .nil) hfit hE hk2 hk1 (HG.out.below hI.below) (HBD.out.below hI.below) hreach)
    have HNX : Hid (evQ bs ((allT t).take (k + 1)) = evM bs st ((allT t).getD k .nil)) := by rw [Hid, take_snoc hk, evQ_snoc, hq]; rfl
    have HQ : Hid (evQ bs ((allT t).take k) = some st) := hq
    have hne : allT t ≠ [] := fun e => by rw [e] at hk; simp at hk
    clear hts hq' hkf hbg
    generalize hxx : (allT t).getD k .nil = x at *
    have HXX : Hid ((allT t).getD k .nil = x) := hxx
    clear hxx
    gi_wp2
    refine ⟨trivial, cW.mono ?_⟩
    rintro e W2 ⟨⟨⟨er, rfl, hr⟩, hb2⟩, hko⟩
    have hrow : ∀ b, b < w.heap.size + 1 + 1 + 1 → some b ≠ v1.ownBlock := fun b hb e => by have := (hE.on.lt b e.symm).1; omega
    have s0 : W2.heap[w.heap.size]? = some (.cells #[.int .i64 0] 2 (0, 0)) := (hko.same _ (lt_of_block hI.r0) (by omega) (hrow _ (by omega))).trans hI.r0
    have s1 : W2.heap[w.heap.size + 1]? = some (.cells #[.int .i64 0] 24 (0, 0)) := (hko.same _ (lt_of_block hI.r1) (by omega) (hrow _ (by omega))).trans hI.r1
    have hbw : Below w.heap.size w W2 := hI.below.trans (hb2.mono (by omega))
    cases hv : evM bs st x with
    | some st' =>
      rw [hv] at hr
      obtain ⟨rfl, v3, hE3⟩ := hr
      have hkp := kpa_ko hE hI.all hne (by omega) (fun g e => by have := hgt g e; omega) hko
      gi_wp2
      exact ⟨hko.ko.from _, hkp, ⟨v3, st', by rw [HNX.out, hv], hE3⟩, s0, s1, hI.all.kp hkp, hbw, Nat.le_trans hI.size hko.ko.size⟩
    | none =>
      rw [hv] at hr
      have hr2 : er ≠ 0 := hr
      have ge : (er != 0) = true := by simp [hr2]
      have c0 : W2.cell? ⟨w.heap.size, 0, none⟩ = some (.int .i64 0) := by simp [World.cell?, s0]
      have c1 : W2.cell? ⟨w.heap.size + 1, 0, none⟩ = some (.int .i64 0) := by simp [World.cell?, s1]
      have f0 : W2.frozen? ⟨w.heap.size, 0, none⟩ = false := by simp [World.frozen?, s0]
      have f1 : W2.frozen? ⟨w.heap.size + 1, 0, none⟩ = false := by simp [World.frozen?, s1]
      clear hr hr2
      gi_wp2
      refine ⟨((hko.ko.trans (KeepsOthers.setCell _ _ _)).trans (KeepsOthers.setCell _ _ _)).from _, rfl, ⟨st, HQ.out, by rw [HXX.out]; exact hv⟩, ?_, ?_, (hbw.setCell (p := ⟨w.heap.size, 0, none⟩) (Nat.le_refl _) _).setCell (p := ⟨w.heap.size + 1, 0, none⟩) (by show w.heap.size ≤ w.heap.size + 1; omega) _⟩
      · rw [Deep.blk_setCell_other _ _ _ _ (by show w.heap.size ≠ w.heap.size + 1; omega)]
        have := heap_setCell_same W2 w.heap.size 0 #[.int .i64 0] 2 (.int .i64 0) s0
        simpa using this
      · have h1 : (W2.setCell ⟨w.heap.size, 0, none⟩ (.int .i64 0)).heap[w.heap.size + 1]? = some (.cells #[.int .i64 0] 24 (0, 0)) := (Deep.blk_setCell_other _ _ _ _ (by show w.heap.size + 1 ≠ w.heap.size; omega)).trans s1
        have := heap_setCell_same _ (w.heap.size + 1) 0 #[.int .i64 0] 24 (.int .i64 12) h1
        simpa using this
  case done =>
    intro D W hD hI hK
    obtain ⟨v1, st, hq, hE⟩ := hI.st
    rw [List.take_length] at hq
    have c0 : W.cell? ⟨w.heap.size, 0, none⟩ = some (.int .i64 0) := by simp [World.cell?, hI.r0]
    have c1 : W.cell? ⟨w.heap.size + 1, 0, none⟩ = some (.int .i64 0) := by simp [World.cell?, hI.r1]
    have f0 : W.frozen? ⟨w.heap.size, 0, none⟩ = false := by simp [World.frozen?, hI.r0]
    have f1 : W.frozen? ⟨w.heap.size + 1, 0, none⟩ = false := by simp [World.frozen?, hI.r1]
    have FIN : ∀ (x y : Int), p1 = x → p2 = y → ∀ W3, W3 = (W.setCell ⟨w.heap.size, 0, none⟩ (.int .i64 x)).setCell ⟨w.heap.size + 1, 0, none⟩ (.int .i64 y) → W3.heap[D]? = some (.deferred (some [])) ∧ (W3.putObj D (.deferred none)).cell? ⟨w.heap.size, 0, none⟩ = some (.int .i64 p1) ∧ (W3.putObj D (.deferred none)).cell? ⟨w.heap.size + 1, 0, none⟩ = some (.int .i64 p2) ∧ Below w.heap.size w (W3.putObj D (.deferred none)) := by
      rintro x y rfl rfl W3 rfl
      have hK' := ((KeepsOthers.setCell W ⟨w.heap.size, 0, none⟩ (.int .i64 p1)).trans (KeepsOthers.setCell _ ⟨w.heap.size + 1, 0, none⟩ (.int .i64 p2))).same D _ hK rfl
      have q0 : ((W.setCell ⟨w.heap.size, 0, none⟩ (.int .i64 p1)).setCell ⟨w.heap.size + 1, 0, none⟩ (.int .i64 p2)).cell? ⟨w.heap.size, 0, none⟩ = some (.int .i64 p1) := by
        have h1 := heap_setCell_same W w.heap.size 0 #[.int .i64 0] 2 (.int .i64 p1) hI.r0
        have h2 : ((W.setCell ⟨w.heap.size, 0, none⟩ (.int .i64 p1)).setCell ⟨w.heap.size + 1, 0, none⟩ (.int .i64 p2)).heap[w.heap.size]? = _ := (Deep.blk_setCell_other _ _ _ _ (by show w.heap.size ≠ w.heap.size + 1; omega)).trans h1
        simp [World.cell?, h2]
      have q1 : ((W.setCell ⟨w.heap.size, 0, none⟩ (.int .i64 p1)).setCell ⟨w.heap.size + 1, 0, none⟩ (.int .i64 p2)).cell? ⟨w.heap.size + 1, 0, none⟩ = some (.int .i64 p2) := by
        have h1 : (W.setCell ⟨w.heap.size, 0, none⟩ (.int .i64 p1)).heap[w.heap.size + 1]? = some (.cells #[.int .i64 0] 24 (0, 0)) := (Deep.blk_setCell_other _ _ _ _ (by show w.heap.size + 1 ≠ w.heap.size; omega)).trans hI.r1
        have h2 := heap_setCell_same _ (w.heap.size + 1) 0 #[.int .i64 0] 24 (.int .i64 p2) h1
        simp [World.cell?, h2]
      exact ⟨hK', cell_kept q0 (grownBy_putObj' _ D (.deferred none)) (fun r e => by cases e; exact ⟨_, hK', rfl⟩), cell_kept q1 (grownBy_putObj' _ D (.deferred none)) (fun r e => by cases e; exact ⟨_, hK', rfl⟩), ((hI.below.setCell (p := ⟨w.heap.size, 0, none⟩) (Nat.le_refl _) _).setCell (p := ⟨w.heap.size + 1, 0, none⟩) (by show w.heap.size ≤ w.heap.size + 1; omega) _).trans (belowK_b (w := w) (Nat.le_refl _) _ D _ _ (by omega) hK' rfl rfl)⟩
    cases hs : begL (flatT t) with
    | none =>
      have hem : allT t = [] := by unfold allT; rw [if_neg (by rw [sndW_none hs]; simp)]
      have hw : wantT t = [] := by unfold wantT; rw [if_neg (by rw [sndW_none hs]; simp)]
      rw [hem] at hq
      have hst : st = [] := (Option.some.inj hq).symm
      subst hst
      obtain ⟨va, vc, rfl⟩ := row_form' hE.on
      have cp := hE.c1
      have hP := HP.out
      rw [hw] at hP
      have hP2 : (p1, p2) = ((0 : Int), (1 : Int)) := hP.symm.trans rfl
      obtain ⟨e1, e2⟩ := Prod.mk.inj hP2
      have F := FIN 0 1 e1 e2 _ rfl
      clear FIN hP hP2 hq
      gi_wp2
      obtain ⟨hK', g0, g1, hbz⟩ := F
      refine ⟨by simp, .inl ⟨_, _, rfl, run_takeDeferred hK', ?_⟩⟩
      refine ⟨.tuple #[.int .i64 p1, .int .i64 p2], ?_, rfl, hbz⟩
      simp [results, Tryd.f29, go_sem, g0, g1]
    | some fr =>
      have hem : allT t = subsT t := by unfold allT; rw [if_pos (sndW_some hs)]
      rw [hem] at hq
      obtain ⟨hP, hl1⟩ := term_all hs hq
      rw [← want_flat hs, HP.out] at hP
      obtain ⟨e1, e2⟩ := Prod.mk.inj hP
      obtain ⟨va, vc, hve⟩ : ∃ g vc, v1 = .slice (some ⟨g, 0, none⟩) 1 vc := by
        rcases hE.on.2 with ⟨_, h0⟩ | ⟨g', cap', cur, rfl, _⟩
        · omega
        · exact ⟨g', cap', by rw [hl1]⟩
      subst hve
      have cp := hE.c1
      have cg : W.cell? ⟨va, 0, none⟩ = some (.int .i64 p1) := by
        have := hE.on.cells (g := va) rfl 0 (.int .i64 p1) (by
          rw [e1]
          match st, hl1 with
          | [x], _ => rfl)
        have e0 : (⟨va, 0, none⟩ : Addr).add 0 = ⟨va, 0, none⟩ := rfl
        rw [e0] at this
        exact this
      have hvl := (hE.on.lt va rfl).1
      have cg2 : (W.setCell ⟨w.heap.size, 0, none⟩ (.int .i64 p1)).cell? ⟨va, 0, none⟩ = some (.int .i64 p1) := (World.cell?_of_block (a := ⟨va, 0, none⟩) (Deep.blk_setCell_other _ _ _ _ (by show va ≠ w.heap.size; omega))).trans cg
      have F := FIN p1 0 rfl e2 _ rfl
      clear FIN hP hq e1
      gi_wp2
      obtain ⟨hK', g0, g1, hbz⟩ := F
      refine ⟨by simp, .inl ⟨_, _, rfl, run_takeDeferred hK', ?_⟩⟩
      refine ⟨.tuple #[.int .i64 p1, .int .i64 p2], ?_, rfl, hbz⟩
      simp [results, Tryd.f29, go_sem, g0, g1]
  case stop =>
    intro D c k W hD hk hX hK
    obtain ⟨hts, fr, hbg⟩ := all_snd hk
    obtain ⟨st, hq, hn⟩ := hX.st
    have hkf : k < (flatT t).length := by rw [hts, subs_len] at hk; exact hk
    rw [hts] at hq hn
    have hP := term_trap hbg hkf hq hn
    rw [← want_flat hbg, HP.out] at hP
    obtain ⟨rfl, rfl⟩ := Prod.mk.inj hP
    have hc := hX.ret
    subst hc
    have q0 : W.cell? ⟨w.heap.size, 0, none⟩ = some (.int .i64 0) := by simp [World.cell?, hX.r0]
    have q1 : W.cell? ⟨w.heap.size + 1, 0, none⟩ = some (.int .i64 12) := by simp [World.cell?, hX.r1]
    gi_wp2
    refine ⟨by simp, .inl ⟨_, _, rfl, run_takeDeferred hK, ?_⟩⟩
    have g0 := cell_kept q0 (grownBy_putObj' _ D (.deferred none)) (fun r e => by cases e; exact ⟨_, hK, rfl⟩)
    have g1 := cell_kept q1 (grownBy_putObj' _ D (.deferred none)) (fun r e => by cases e; exact ⟨_, hK, rfl⟩)
    refine ⟨.tuple #[.int .i64 0, .int .i64 12], ?_, rfl, hX.below.trans (belowK_b (w := w) (Nat.le_refl _) W D _ _ (by omega) hK rfl rfl)⟩
    simp [results, Tryd.f29, go_sem, g0, g1]

theorem term_any8 (t : Tm) (hO : OthH t) (eo : Option Addr) (ec : Nat) (bs : List Bd) (hreach : bs.length * 24 ≤ 140737488355328) (w : World) (hT : SpanCells w) (hG : GrpCells w) (hB : Bds w eo ec bs) :
    Calls Tryd.prog 29 #[tv t, .slice eo bs.length ec] w fun e W' => e = .returned (.tuple #[.int .i64 (evA bs (wantT t)).1, .int .i64 (evA bs (wantT t)).2]) ∧ Below w.heap.size w W' :=
  (callsIn_wide (n := 4)).1 (term_in t hO eo ec bs hreach w hT hG hB)
end Go.Proofs.YtdcfjopmddaemaaDoor
