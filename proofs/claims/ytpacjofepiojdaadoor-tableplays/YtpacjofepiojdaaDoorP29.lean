/-
  RgV, RgM, RgT, TbAl.
-/
import Derived.Shelf.Unicode.DecodeSlow
import Derived.Laws.RangeAny
import Derived.Shelf.Small.Bits
import Derived.Shelf.Strconv.Itoa0
import Derived.Shelf.LaysM
import Derived.Shelf.Strconv.Clone
import Derived.Shelf.Unicode.DecodeAny
import Derived.Shelf.Slices.CompactS
import Derived.Ground.SlsfProg
import Derived.Shelf.SlSortCmp.Insertion
import Derived.Shelf.SlSortCmp.SiftDown1
import Derived.Shelf.SlSortCmp.HeapSort1
import Derived.Shelf.SlSortCmp.Insertion1
import Derived.Shelf.SlSortCmp.Median1
import Derived.Shelf.SlSortCmp.Pivot1
import Derived.Shelf.SlSortCmp.ReverseRange1
import Derived.Shelf.SlSortCmp.PartialInsertion1
import Derived.Shelf.SlSortCmp.PartitionEqual1
import Derived.Shelf.SlSortCmp.Partition1
import Derived.Shelf.SlSortCmp.Pdq1
import Derived.Shelf.SlSortCmp.Whole1
import Derived.Test.YtpacjofepiojdaaDoorProg
import Derived.WalkKit
import Derived.Deep.DeepFit
import Derived.Lib.OthersKept
import Derived.Lib.RuneCountTail
import Derived.Deep.AppendLies
import Derived.Deep.OwnRows
import Derived.Laws.AppendOwnNone
import Derived.Deep.QuietTactic
import Derived.BigQuiet
import Derived.Deep.RegionWith
import Derived.Laws.DeepStrings4
import Derived.Below
import Derived.Maps.OwnSet
import Derived.Maps.Keyed
import Derived.DeepKeys4
import Derived.Lib.QuietBelow
import Derived.StillTail
import Derived.Deep.RegionHeld3
import Derived.Laws.ResultCell
import Derived.Laws.CopyOwn
import Derived.RangeFuncNested
import Derived.RangeFuncBound
import Derived.RangeFuncCalls
import Derived.RangeFuncLeaves
import Derived.RangeFuncBox
import Derived.Shelf.Abstract
import Derived.Shelf.RegionOpen
import Derived.OwnWalkIn
import Derived.TacticsInMore
import Derived.LoopNIn
import Derived.LoopIn
import Derived.OrdersIn
import Derived.Test.YtpacjofepiojdaaDoorP01
import Derived.Test.YtpacjofepiojdaaDoorP02
import Derived.Test.YtpacjofepiojdaaDoorP03
import Derived.Test.YtpacjofepiojdaaDoorP04
import Derived.Test.YtpacjofepiojdaaDoorP05
import Derived.Test.YtpacjofepiojdaaDoorP06
import Derived.Test.YtpacjofepiojdaaDoorP07
import Derived.Test.YtpacjofepiojdaaDoorP08
import Derived.Test.YtpacjofepiojdaaDoorP09
import Derived.Test.YtpacjofepiojdaaDoorP10
import Derived.Test.YtpacjofepiojdaaDoorP11
import Derived.Test.YtpacjofepiojdaaDoorP12
import Derived.Test.YtpacjofepiojdaaDoorP13
import Derived.Test.YtpacjofepiojdaaDoorP14
import Derived.Test.YtpacjofepiojdaaDoorP15
import Derived.Test.YtpacjofepiojdaaDoorP16
import Derived.Test.YtpacjofepiojdaaDoorP28
set_option linter.unusedSimpArgs false
set_option linter.unusedVariables false
namespace Go.Proofs.YtpacjofepiojdaaDoor
open Go.RowKit Go.Shelf
attribute [local go_sem] Oper.semAt_some

set_option maxHeartbeats 1000000 in
/-- The law: rounds are numbered, and what the function yields in round k is a V k. -/
theorem range_seqV {F : Fence} {n : Nat} {P : Program} {g : Operand} {ps : Array Tmp} {assign body : Code} {Q : Exit → Act → World → Prop} {a : Act} {w : World}
    (hro : F.round = none) (h1 : 1 ≤ n) {gf : Nat} {lb : Array Value} (hg : a.eval g = .func (.func gf) #[] lb) (hFg : F.fn gf) (eg : ∀ args w, (callFunc gf args).run P w = .ok (.enter gf args) w)
    (N : Nat) (V : Nat → Array Value → World → Prop) (hps : ∀ k args W, V k args W → args.size = ps.size) (hVp : ∀ k args (W : World) (l : Nat) (o o' : Obj), w.heap.size ≤ l → W.heap[l]? = some o → o.isCells = false → V k args W → V k args (W.putObj l o')) (Kp : World → World → Prop) (hKt : ∀ {A B C : World}, Kp A B → Kp B C → Kp A C)
    (hKb : ∀ (W : World) (l : Nat) (o o' : Obj), w.heap.size ≤ l → W.heap[l]? = some o → o.isCells = false → Kp W (W.putObj l o'))
    (hseq : ∀ (l : Nat) (J Jx : Nat → World → Prop) (W : World), Below w.heap.size w W → (∀ k A B, J k A → Below A.heap.size A B → J k B) → (∀ k, k < N → ∀ W1 args, J k W1 → V k args W1 → YieldAt F (n - 1 - 1) P l args W1 fun e W' => (e = .returned (.bool true) ∧ J (k + 1) W' ∧ Kp W1 W') ∨ (e = .returned (.bool false) ∧ Jx k W')) → J 0 W →
      CallsIn F (n - 1) P gf (#[.func (.yield l) #[] #[]] ++ lb) W fun e W' => (∃ v, e = .returned v) ∧ (J N W' ∨ ∃ k, k < N ∧ Jx k W'))
    (I : Nat → World → Prop) (Ix : Code → Nat → World → Prop) (hI : OwnFrom w.heap.size I) (hIx : ∀ c, OwnFrom w.heap.size (Ix c)) (h0 : I 0 w) (A : Nat → Array Value → World → Act) (U : Nat → Array Value → World → World) (hU : ∀ k args W, Below W.heap.size W (U k args W)) (hKw : ∀ X Y : World, Below X.heap.size X Y → Kp X Y) (hVw : ∀ k args (X Y : World), V k args X → Below X.heap.size X Y → V k args Y)
    (hassign : ∀ (l k : Nat) (W : World) (args : Array Value) (K : Act → World → Prop), V k args W → K (A k args W) (U k args W) → assign.wpIn (F.inRound l) (n - 1 - 1) P (Exit.then K (fun _ _ _ => False)) { tmps := (ps.zip args).foldl (fun t (p, v) => t.setIfInBounds p v) a.tmps, defers := [] } W)
    (hbody : ∀ (l k : Nat) (W0 W : World) (args : Array Value), w.heap.size ≤ l → k < N → I k W → V k args W → l < W0.heap.size → (W.heap.size = (U k args W0).heap.size ∧ ∀ b, b ≠ l → W.heap[b]? = (U k args W0).heap[b]?) → body.wpIn (F.inRound l) (n - 1 - 1) P (postQ w.heap.size Kp I Ix k W) (A k args W0) W)
    (hdone : ∀ (D : Nat) (W : World), w.heap.size ≤ D → I N W → W.heap[D]? = some (.deferred (some [])) → Q .normal { a with defers := { target := .collected D, args := #[] } :: a.defers } W)
    (hstop : ∀ (D : Nat) (c : Code) (k : Nat) (W : World), w.heap.size ≤ D → k < N → Ix c k W → W.heap[D]? = some (.deferred (some [])) → c.wpIn F n P Q { a with defers := { target := .collected D, args := #[] } :: a.defers } W) :
    (Code.rangeFunc g ps assign body).wpIn F n P Q a w := by
  refine wpIn_rangeFunc fun fn hfn => ?_
  rw [hro]
  let R : LoopState → Option Code → Loop := fun s j => { state := s, pending := j, fn := fn, tmps := a.tmps, params := ps, assign := assign, body := body, defers := w.heap.size }
  have Rdef : ∀ s j, R s j = { state := s, pending := j, fn := fn, tmps := a.tmps, params := ps, assign := assign, body := body, defers := w.heap.size } := fun _ _ => rfl
  have Rbusy : { R .ready none with state := .busy } = R .busy none := rfl
  generalize R = R at *
  obtain ⟨V0, hV⟩ : ∃ V0, (w.alloc (.deferred (some []))).alloc (.loop (R .ready none)) = V0 := ⟨_, rfl⟩
  have vL : V0.heap[w.heap.size + 1]? = some (.loop (R .ready none)) := by
    rw [← hV]
    have e := World.alloc_heap_new (w.alloc (.deferred (some []))) (.loop (R .ready none))
    rw [World.size_alloc] at e
    exact e
  have vD : V0.heap[w.heap.size]? = some (.deferred (some [])) := by
    rw [← hV]
    exact (Below.heap_alloc _ _ _ (by rw [World.size_alloc]; omega)).trans (World.alloc_heap_new w _)
  have vB : Below w.heap.size w V0 := by
    rw [← hV]
    exact ((Below.refl _ w).alloc (Nat.le_refl _) _).alloc (by simp) _
  have vI : I 0 V0 := by rw [← hV]; exact hI.alloc _ (hI.alloc _ h0)
  refine ⟨w.heap.size + 1, [{ target := .collected w.heap.size, args := #[] }], V0, { target := .fn (.func gf) lb, args := #[.func (.yield (w.heap.size + 1)) #[] #[]] }, V0, gf, #[.func (.yield (w.heap.size + 1)) #[] #[]] ++ lb, V0, ?_, ?_, ?_, ?_, fun _ => h1, ?_⟩
  · rw [← hV, Rdef]; exact run_enterLoop_outer _ _ _ _ _
  · simp only [resolve, hg]
    simp [go_sem]
  · intro f' hf'
    simp [Target.leads] at hf'
    subst hf'
    exact hFg
  · simp [invoke, go_sem, eg]
  · have key := hseq (w.heap.size + 1)
      (fun k W => I k W ∧ W.heap[w.heap.size + 1]? = some (.loop (R .ready none)) ∧ W.heap[w.heap.size]? = some (.deferred (some [])))
      (fun k W => ∃ c, Ix c k W ∧ W.heap[w.heap.size + 1]? = some (.loop (R .done (some c))) ∧ W.heap[w.heap.size]? = some (.deferred (some []))) V0 vB ?_ ?_ ⟨vI, vL, vD⟩
    · refine key.mono ?_
      rintro e W2 ⟨⟨v, rfl⟩, hz⟩
      rcases hz with ⟨hi, hl, hd⟩ | ⟨k, hk, c, hi, hl, hd⟩
      · have hr := run_endLoop (P := P) hl (by rw [Rdef]; simp)
        rw [Rdef] at hr
        exact ⟨none, _, hr, hdone _ _ (Nat.le_refl _) (hI.putObj _ hi (by omega) hl rfl) ((World.putObj_heap_other (by omega)).trans hd)⟩
      · have hr := run_endLoop (P := P) hl (by rw [Rdef]; simp)
        rw [Rdef] at hr
        exact ⟨some c, _, hr, hstop _ c k _ (Nat.le_refl _) hk ((hIx c).putObj _ hi (by omega) hl rfl) ((World.putObj_heap_other (by omega)).trans hd)⟩
    · rintro k X Y ⟨hi, hl, hd⟩ hb
      exact ⟨hI k X Y none hi ⟨hb.os, hb.tape, hb.output, hb.size, fun j hj _ => hb.block j hj⟩ (fun r e => by cases e), (hb.block _ (Array.getElem?_eq_some_iff.1 hl).1).trans hl, (hb.block _ (Array.getElem?_eq_some_iff.1 hd).1).trans hd⟩
    · rintro k hk W args ⟨hi, hl, hd⟩ hv
      have hsz0 : w.heap.size + 1 < W.heap.size := (Array.getElem?_eq_some_iff.1 hl).1
      have hy := run_yield (P := P) (args := args) hl (by rw [Rdef]; exact hps k args W hv)
      rw [Rdef] at hy
      refine ⟨fn, _, assign, body, hy, roundIn_of_wpIn hfn (hassign _ k W args _ hv ?_)⟩
      have hbu := hU k args W
      obtain ⟨W0, hW0⟩ : ∃ W0, W = W0 := ⟨_, rfl⟩
      obtain ⟨Wu, hWu⟩ : ∃ Wu, U k args W = Wu := ⟨_, rfl⟩
      rw [hWu] at hbu ⊢
      have kU : Kp W Wu := hKw _ _ hbu
      have hi := hI k W Wu none hi ⟨hbu.os, hbu.tape, hbu.output, hbu.size, fun j hj _ => hbu.block j hj⟩ (fun r e => by cases e)
      have hl := (hbu.block _ (Array.getElem?_eq_some_iff.1 hl).1).trans hl
      have hd := (hbu.block _ (Array.getElem?_eq_some_iff.1 hd).1).trans hd
      have hv := hVw k args W Wu hv hbu
      have hlt : w.heap.size + 1 < Wu.heap.size := (Array.getElem?_eq_some_iff.1 hl).1
      refine ⟨_, run_beginRound hl (by rw [Rdef]), ?_⟩
      obtain ⟨W1, hW1⟩ : ∃ W1, Wu.putObj (w.heap.size + 1) (.loop { R .ready none with state := .busy }) = W1 := ⟨_, rfl⟩
      have l1 : W1.heap[w.heap.size + 1]? = some (.loop { R .ready none with state := .busy }) := by rw [← hW1]; exact World.putObj_heap_same hlt
      have d1 : W1.heap[w.heap.size]? = some (.deferred (some [])) := by rw [← hW1]; exact (World.putObj_heap_other (by omega)).trans hd
      have k1 : Kp W W1 := by rw [← hW1]; exact hKt kU (hKb _ _ _ _ (by omega) hl rfl)
      have u1 : W1.heap.size = (U k args W).heap.size ∧ ∀ b, b ≠ w.heap.size + 1 → W1.heap[b]? = (U k args W).heap[b]? := by rw [← hW1, hWu]; exact ⟨by simp, fun b hb => World.putObj_heap_other (fun e => hb e)⟩
      have i1 : I k W1 := by rw [← hW1]; exact hI.putObj _ hi (by omega) hl rfl
      have v1 : V k args W1 := by rw [← hW1]; exact hVp _ _ _ _ _ _ (by omega) hl rfl hv
      rw [hW1]
      have fin : ∀ (j : Option Code) (W3 : World), KeepsFrom w.heap.size W1 W3 → W3.heap[w.heap.size + 1]? = some (.loop { R .ready none with state := .busy }) ∧
          (Instr.endRound (w.heap.size + 1) j).run P W3 = .ok (.bool j.isNone) (W3.putObj (w.heap.size + 1) (.loop (R (if j.isNone then .ready else .done) j))) ∧
          (W3.putObj (w.heap.size + 1) (.loop (R (if j.isNone then .ready else .done) j))).heap[w.heap.size + 1]? = some (.loop (R (if j.isNone then .ready else .done) j)) ∧
          (W3.putObj (w.heap.size + 1) (.loop (R (if j.isNone then .ready else .done) j))).heap[w.heap.size]? = some (.deferred (some [])) := fun j W3 h3 => by
        have l3 := h3.same _ _ (by omega) l1 rfl
        have hr := run_endRound (P := P) j l3
        rw [Rdef] at hr
        rw [Rdef (if j.isNone then .ready else .done) j]
        exact ⟨l3, hr, World.putObj_heap_same (Array.getElem?_eq_some_iff.1 l3).1, (World.putObj_heap_other (by omega)).trans (h3.same _ _ (Nat.le_refl _) d1 rfl)⟩
      refine wpIn_mono (hbody (w.heap.size + 1) k W W1 args (by omega) hk i1 v1 hsz0 u1) ?_
      rintro e a3 W3 hp
      cases e with
      | normal =>
        obtain ⟨h3, kp, hi3⟩ := hp
        obtain ⟨l3, hr, l4, d4⟩ := fin none W3 h3
        exact ⟨_, _, hr, .inl ⟨rfl, ⟨hI.putObj _ hi3 (by omega) l3 rfl, l4, d4⟩, hKt (hKt k1 kp) (hKb _ _ _ _ (by omega) l3 rfl)⟩⟩
      | ret =>
        obtain ⟨h3, hi3⟩ := hp
        obtain ⟨l3, hr, l4, d4⟩ := fin (some .ret) W3 h3
        exact ⟨_, _, hr, .inr ⟨rfl, .ret, (hIx _).putObj _ hi3 (by omega) l3 rfl, l4, d4⟩⟩
      | exit id =>
        obtain ⟨h3, hi3⟩ := hp
        obtain ⟨l3, hr, l4, d4⟩ := fin (some (.exit id)) W3 h3
        exact ⟨_, _, hr, .inr ⟨rfl, .exit id, (hIx _).putObj _ hi3 (by omega) l3 rfl, l4, d4⟩⟩
      | goto t => exact hp.elim
      | panic ch => exact hp.elim
      | outgrown => exact hp.elim

end Go.Proofs.YtpacjofepiojdaaDoor

set_option linter.unusedSimpArgs false
set_option linter.unusedVariables false
namespace Go.Proofs.YtpacjofepiojdaaDoor
open Go.RowKit Go.Shelf
attribute [local go_sem] Oper.semAt_some

def mkDT (D : Nat) : Deferred := { target := .collected D, args := #[] }
/-- At a return all marks are taken, and nothing else turns. -/
theorem leaves_marksT {F : Fence} {n : Nat} {P : Program} {fn : Func} {tmps : Array Value} {R : Ending → World → Prop} : ∀ (ds : List Nat) (w : World), ds.Nodup → (∀ D ∈ ds, w.heap[D]? = some (.deferred (some []))) →
    (∀ w' : World, w'.os = w.os → w'.tape = w.tape → w'.output = w.output → w'.heap.size = w.heap.size → (∀ b, b ∉ ds → w'.heap[b]? = w.heap[b]?) → LeavesIn F n P fn tmps R [] .returning w') → LeavesInM F n P fn tmps R (ds.map mkDT) .returning w := by
  intro ds
  induction ds with
  | nil => intro w _ _ h; exact h w rfl rfl rfl rfl (fun _ _ => rfl)
  | cons D ds ih =>
    intro w hn hd h
    obtain ⟨hn1, hn2⟩ := List.nodup_cons.1 hn
    have hD := hd D (by simp)
    refine ⟨by simp, .inl ⟨D, w.putObj D (.deferred none), rfl, run_takeDeferred hD, ih _ hn2 (fun E hE => ?_) (fun w' h1 h2 h3 h4 h5 => ?_)⟩⟩
    · rw [World.putObj_heap_other (fun e => hn1 (by subst e; exact hE))]
      exact hd E (by simp [hE])
    · refine h w' h1 h2 h3 (h4.trans (by simp)) (fun b hb => ?_)
      rw [h5 b (fun e => hb (by simp [e])), World.putObj_heap_other (fun e => hb (by simp [e]))]
/-- The marks: each once, each with its block. -/
structure MksT (w0 W : World) (ds : List Nat) : Prop where
  nd : ds.Nodup
  at_ : ∀ D ∈ ds, w0.heap.size + 3 ≤ D ∧ D < W.heap.size ∧ W.heap[D]? = some (.deferred (some []))
theorem MksT.keep {w0 W W' : World} {ds : List Nat} (h : MksT w0 W ds) (hk : ∀ D, D < W.heap.size → W.heap[D]? = some (.deferred (some [])) → W'.heap[D]? = some (.deferred (some []))) (hs : W.heap.size ≤ W'.heap.size) : MksT w0 W' ds :=
  ⟨h.nd, fun D hD => by have := h.at_ D hD; exact ⟨this.1, by omega, hk D this.2.1 this.2.2⟩⟩
theorem MksT.cons {w0 W W' : World} {ds : List Nat} (h : MksT w0 W ds) (hb : Below W.heap.size W W') {D : Nat} (hD : W.heap.size ≤ D) (hw : w0.heap.size + 3 ≤ W.heap.size) (hd : W'.heap[D]? = some (.deferred (some []))) : MksT w0 W' (D :: ds) := by
  have h' : MksT w0 W' ds := h.keep (fun E h1 h2 => (hb.block E h1).trans h2) hb.size
  refine ⟨List.nodup_cons.2 ⟨fun hm => by have := (h.at_ D hm).2.1; omega, h.nd⟩, fun E hE => ?_⟩
  rcases List.mem_cons.1 hE with rfl | hE
  · exact ⟨by omega, lt_of_block hd, hd⟩
  · exact h'.at_ E hE
theorem blk_ownT {W W' : World} {row : Option Nat} {b : Nat} {c : Array Value} {T : TypeId} {f : Nat × Nat} (h : W.heap[b]? = some (.cells c T f)) (hg : W.grownBy W' row) (hr : ∀ r, row = some r → ∃ o : Obj, W.heap[r]? = some o ∧ o.isCells = false) : W'.heap[b]? = some (.cells c T f) := by
  refine (hg.block b (lt_of_block h) (fun e => ?_)).trans h
  obtain ⟨o, ho, hc⟩ := hr b e.symm
  rw [h] at ho; cases ho; cases hc
theorem in_roundT {l n : Nat} {P : Program} {f : FuncId} {args : Array Value} {w : World} {R : Ending → World → Prop} (h : Calls P f args w R) : CallsIn (Fence.wide.inRound l) n P f args w R := (callsIn_wide (n := n)).2 h
theorem ko_belowT {w w' : World} (hb : Below w.heap.size w w') : KeepsOthers w w' := ⟨hb.size, fun k o hk _ => (hb.block k (lt_of_block hk)).trans hk⟩
end Go.Proofs.YtpacjofepiojdaaDoor

set_option linter.unusedSimpArgs false
set_option linter.unusedVariables false
namespace Go.Proofs.YtpacjofepiojdaaDoor
open Go Go.Sort Go.RowKit

theorem rowsIn_round {l n : Nat} {P : Program} {row : String} {args : Array Value} {w : World} {R : Value → World → Prop} (h : Rows P row args w R) : RowsIn (Fence.wide.inRound l) n P row args w R :=
  fun c cs _ => let ⟨v, w', r, s⟩ := h c cs; ⟨v, w', r, stepsIn_wide.2 s⟩
theorem upon_round {l n : Nat} {P : Program} {o : Oper} {a : Act} {next next' : Act → World → Prop} {Q : Exit → Act → World → Prop} {r : Result Next} (hn : ∀ a w, next a w → next' a w) (h : o.upon P a next Q r) : o.uponIn (Fence.wide.inRound l) n P a next' Q r := by
  cases r with
  | ok x w' =>
    cases x with
    | value v => exact hn _ _ h
    | skip => exact hn _ _ h
    | defer d => exact hn _ _ h
    | enter f args =>
      refine ⟨fun h9 => (by cases h9), in_roundT (Calls.mono h ?_)⟩
      intro e w'' he
      cases e <;> first | exact hn _ _ he | exact he
    | row row args => exact ⟨fun h9 => (by cases h9), rowsIn_round (Rows.mono h fun _ _ he => hn _ _ he)⟩
    | round l f tmps assign body => exact h.elim
    | _ => exact h.elim
  | halt x w' => cases x <;> first | exact h | exact h.elim
theorem op_round {l n : Nat} {P : Program} {ops : Array Oper} {Q : Exit → Act → World → Prop} {i : Nat} {K K' : Act → World → Prop} {a : Act} {w : World} (hd : ∀ (i : Nat) o, ops[i]? = some o → ∀ c, o.op ≠ .defer c) (hL : ¬ LetsOut Q) (hn : ∀ a w, K a w → K' a w) (h : wpOp P ops Q i K a w) : wpOpIn (Fence.wide.inRound l) n P ops Q i K' a w := by
  unfold wpOp at h
  unfold wpOpIn
  cases ho : ops[i]? with
  | none => rw [ho] at h; exact hn _ _ h
  | some o =>
    rw [ho] at h
    simp only at h ⊢
    by_cases hw : Region.wanted o (yielded ops a.tmps) = true
    · rw [if_pos hw] at h ⊢
      rcases h with h | ⟨_, h⟩
      · refine ⟨fun f _ => trivial, ?_⟩
        have e : o.semAt (Fence.wide.inRound l).round a.eval = execOp a.eval o := Oper.semAt_some l _ _ (hd i o ho)
        rw [e]
        exact upon_round hn h
      · exact absurd h hL
    · rw [if_neg hw] at h ⊢
      exact ⟨fun f _ => trivial, hn _ _ h⟩
theorem any_round {l n : Nat} {P : Program} {ops : Array Oper} {Q : Exit → Act → World → Prop} (hd : ∀ (i : Nat) o, ops[i]? = some o → ∀ c, o.op ≠ .defer c) (hL : ¬ LetsOut Q) : ∀ (fuel : Nat) (ls : Array Bool) (a : Act) (w : World), wpAny P .any ops Q fuel ls a w → wpAnyIn (Fence.wide.inRound l) n P .any ops Q fuel ls a w := by
  intro fuel
  induction fuel with
  | zero => intro ls a w h; exact h
  | succ fuel ih => intro ls a w h; exact ⟨h.1, fun i hi => op_round hd hL (fun a w => ih _ a w) (h.2 i hi)⟩
/-- No operation of these is a defer statement. -/
def noDefer (l : List Oper) : Bool := l.all fun o => match o.op with | .defer _ => false | _ => true
theorem noDefer_at {l : List Oper} (h : noDefer l = true) : ∀ (i : Nat) o, l.toArray[i]? = some o → ∀ c, o.op ≠ .defer c := fun i o ho c e => by
  have hm : o ∈ l := by
    rw [List.getElem?_toArray] at ho
    exact List.mem_of_getElem? ho
  have := List.all_eq_true.1 h o hm
  rw [e] at this
  cases this
/-- QTail's law, at the level of orders. -/
theorem any_quiet_then {P : Program} {Q : Exit → Act → World → Prop} {a : Act} {w : World} {l : List Oper} (n : Nat) (hB : Region.lexTailB .any l.toArray n = true)
    (h : wpQuiet P l.toArray (fun w' => ∃ p : Regrown, w' = grow (redrawn w p.d) p.os) (fun a' => ∀ w', (∃ p : Regrown, w' = grow (redrawn w p.d) p.os) → wpList P l.toArray Q (l.drop n) a' w') (l.take n) a) : wpAny P .any l.toArray Q l.toArray.size (Array.replicate l.toArray.size false) a { w with drawn := w.drawn + 1 } := by
  simp only [Region.lexTailB, Bool.and_eq_true, decide_eq_true_eq] at hB
  obtain ⟨⟨⟨⟨hsel, hn⟩, hs⟩, hc⟩, hlex⟩ := hB
  have hn' : n < l.length := by simpa using hn
  have htl : (l.take n).length = n := by simp; omega
  have hdl : (l.drop n).length = l.toArray.size - n := by simp
  have inv0 : HeadInv .any l.toArray n (Array.replicate l.toArray.size false) :=
    ⟨by simp, fun j oj _ hl => (by rw [getD_replicate_false] at hl; cases hl), fun t _ ht => getD_in (by simpa using ht) (getD_replicate_false _ _)⟩
  have H := QHead.lex (P := P) (md := .any) (g := l.toArray.size - n) hsel hs hc hn (l.take n) 0 _ a (fun j hj => by
    have hj' : j < n := by rw [htl] at hj; exact hj
    simp [hj']) (by simpa using htl) inv0 (by rw [htl]; exact hlex) h
  have := QHead.any (Q := Q) (g := l.toArray.size - n) (fun ls a' w' hw' hL => by
    have := wpAny_of_seq (md := .any) (Q' := Q) (l.drop n) n ls a' w' (fun j => by simp [List.getElem?_drop]) (by rw [hdl]; exact hL.1) (hL.2 w' hw')
    rwa [hdl] at this) _ _ _ { w with drawn := w.drawn + 1 } ⟨⟨w.drawn + 1, #[]⟩, by rw [grow_empty]; rfl⟩ H
  rw [htl, show n + (l.toArray.size - n) = l.toArray.size by omega] at this
  exact this
/-- THE LAW: the first n operations only read, or call what lays memory; the others come in their order. -/
theorem wpIn_region_quiet_then {l m : Nat} {P : Program} {id : Nat} {Q : Exit → Act → World → Prop} {a : Act} {w : World} {ops : List Oper} (n : Nat) (hm : P.follows .mixedOrders = true) (hB : Region.lexTailB .any ops.toArray n = true) (hd : noDefer ops = true) (hL : ¬ LetsOut Q)
    (h : wpQuiet P ops.toArray (fun w' => ∃ p : Regrown, w' = grow (redrawn w p.d) p.os) (fun a' => ∀ w', (∃ p : Regrown, w' = grow (redrawn w p.d) p.os) → wpList P ops.toArray Q (ops.drop n) a' w') (ops.take n) a) : (Code.region id ops.toArray true).wpIn (Fence.wide.inRound l) m P Q a w := by
  refine wpIn_region_any hm (any_round (noDefer_at hd) hL _ _ _ _ ?_)
  exact any_quiet_then n hB h
end Go.Proofs.YtpacjofepiojdaaDoor

set_option linter.unusedSimpArgs false
set_option linter.unusedVariables false
namespace Go.Proofs.YtpacjofepiojdaaDoor
open Go.RowKit Go.Lib Go.Sort Go.Maps Go.Shelf
attribute [local go_sem] Oper.semAt_some

/-- What the function that All answers holds: block B, and the entries' first cells. -/
structure AlAt (w : World) (B : Nat) (ev : Value) (L : List Nd) : Prop where
  blk : w.heap[B]? = some (.cells #[ev] 101 (0, 0))
  form : ∃ ao cap, ev = .slice ao L.length cap ∧ L.length ≤ cap ∧ cap ≤ maxLen
  rd : ∀ i, i < L.length → ∃ g cap, ev = .slice (some ⟨g, 0, none⟩) L.length cap ∧ w.cell? ⟨g, i * 7, none⟩ = some (.int .i64 (edA L i).op) ∧ w.cell? ⟨g, i * 7 + 1, none⟩ = some (.int .i64 (edA L i).n) ∧ w.cell? ⟨g, i * 7 + 2, none⟩ = some (.string (edA L i).name) ∧ w.cell? ⟨g, i * 7 + 3, none⟩ = some (.int .i64 ((edA L i).kids.getD 0 0)) ∧ w.cell? ⟨g, i * 7 + 4, none⟩ = some (.int .i64 ((edA L i).kids.getD 1 0)) ∧ w.cell? ⟨g, i * 7 + 5, none⟩ = some (.int .i64 ((edA L i).kids.getD 2 0))
  fm : ∀ i, i < L.length → formB (edA L i) = true
  le : L.length ≤ 1048576
/-- What the function wants kept. -/
def KpL (B : Nat) (ev : Value) (n : Nat) (W W' : World) : Prop := W.heap.size ≤ W'.heap.size ∧ (∀ o, W.heap[B]? = some o → W'.heap[B]? = some o) ∧ ∀ g, ev.ownBlock = some g → ∀ j u, j < n * 7 → W.cell? ⟨g, j, none⟩ = some u → W'.cell? ⟨g, j, none⟩ = some u
theorem KpL.trans {B : Nat} {ev : Value} {n : Nat} {X Y Z : World} (h : KpL B ev n X Y) (k : KpL B ev n Y Z) : KpL B ev n X Z := ⟨Nat.le_trans h.1 k.1, fun o ho => k.2.1 o (h.2.1 o ho), fun g e j u hj hu => k.2.2 g e j u hj (h.2.2 g e j u hj hu)⟩
theorem AlAt.kp {w w' : World} {B : Nat} {ev : Value} {L : List Nd} (h : AlAt w B ev L) (hk : KpL B ev L.length w w') : AlAt w' B ev L := by
  refine ⟨hk.2.1 _ h.blk, h.form, fun i hi => ?_, h.fm, h.le⟩
  obtain ⟨g, cap, rfl, c0, c1, c2, c3, c4, c5⟩ := h.rd i hi
  exact ⟨g, cap, rfl, hk.2.2 g rfl _ _ (by omega) c0, hk.2.2 g rfl _ _ (by omega) c1, hk.2.2 g rfl _ _ (by omega) c2, hk.2.2 g rfl _ _ (by omega) c3, hk.2.2 g rfl _ _ (by omega) c4, hk.2.2 g rfl _ _ (by omega) c5⟩
theorem cell_lt {w : World} {g j : Nat} {u : Value} (h : w.cell? ⟨g, j, none⟩ = some u) : g < w.heap.size := World.block_lt_of_cell? w _ h
theorem KpL.below {w w' : World} {B : Nat} {ev : Value} {n : Nat} (hb : Below w.heap.size w w') : KpL B ev n w w' := ⟨hb.size, fun o ho => (hb.block B (lt_of_block ho)).trans ho, fun g _ j u _ hu => (hb.cell (p := ⟨g, j, none⟩) (cell_lt hu)).trans hu⟩
theorem AlAt.below {w w' : World} {B : Nat} {ev : Value} {L : List Nd} (h : AlAt w B ev L) (hb : Below w.heap.size w w') : AlAt w' B ev L := h.kp (KpL.below hb)

set_option maxRecDepth 20000 in
set_option maxHeartbeats 1000000 in
theorem tAll_any (w : World) (p : Nat) (ev mv : Value) (L : List Nd) (h : TbM w p ev mv L) (hle : L.length ≤ 1048576) :
    Calls Tryd.prog 34 #[.pointer (some ⟨p, 0, none⟩)] w fun e w' => ∃ B, e = .returned (.func (.func 71) #[] #[.pointer (some ⟨B, 0, none⟩)]) ∧ w.heap.size ≤ B ∧ AlAt w' B ev L ∧ Below w.heap.size w w' := by
  have t0 := h.c0
  have hpl := h.lt
  have HM : Sld (TbM w p ev mv L) := ⟨h⟩
  have hform : ∃ ao cap, ev = .slice ao L.length cap ∧ L.length ≤ cap ∧ cap ≤ maxLen := by
    rcases h.on.2 with ⟨rfl, h0⟩ | ⟨g, cap, cur, rfl, _, _, h8, h9, _⟩
    · exact ⟨none, 0, by rw [h0], by omega, by simp [maxLen]⟩
    · exact ⟨_, cap, rfl, h8, h9⟩
  obtain ⟨ao, cap, rfl, hc1, hc2⟩ := hform
  have hEnd : ∀ W B, Below w.heap.size w W → W.heap[B]? = some (.cells #[.slice ao L.length cap] 101 (0, 0)) → AlAt W B (.slice ao L.length cap) L := fun W B hb hB => by
    refine ⟨hB, ⟨ao, cap, rfl, hc1, hc2⟩, fun i hi => ?_, fun i hi => ?_, hle⟩
    · have hM := h.below hb
      obtain ⟨g, cap', hv, hg, hgl, hcc, hcm⟩ := hM.row hi
      cases hv
      obtain ⟨e0, e1, e2, e3, e4, e5, e6⟩ := hM.at_ hi
      exact ⟨g, cap, rfl, e0, e1, e2, e3, e4, e5⟩
    · exact h.inv.form i hi
  have HE : Sld _ := ⟨hEnd⟩
  clear h hEnd
  go_enter Tryd.func34, Tryd.ntmps34
  go_wp2_with fail
  go_ret
  have hb : Below w.heap.size w (w.alloc (.cells #[.slice ao L.length cap] 101)) := (Below.refl _ w).alloc (Nat.le_refl _) _
  exact ⟨w.heap.size, rfl, Nat.le_refl _, HE.out _ _ hb (World.alloc_heap_new w _), hb⟩

theorem OwnI.low {w : World} {b b0 : Nat} {v : Value} {ks : List Int} (h : OwnI w b v ks) (hb : b0 ≤ b) : OwnI w b0 v ks := by
  exact ownsRow_mono h hb
/-- What the function yields in round k. -/
def YdL (L : List Nd) (b0 : Nat) (k : Nat) (args : Array Value) (W : World) : Prop := ∃ ao cap, args = #[.int .i64 k, .agg #[.int .i64 (edA L k).op, .int .i64 (edA L k).n, .string (edA L k).name, .slice ao (edA L k).kids.length cap]] ∧ OwnI W b0 (.slice ao (edA L k).kids.length cap) (edA L k).kids
set_option maxRecDepth 100000 in
set_option maxHeartbeats 2000000 in
theorem tall1_in (n : Nat) (hn : 1 ≤ n) (b0 l B : Nat) (ev : Value) (L : List Nd) (J Jx : Nat → World → Prop) (W : World) (hA : AlAt W B ev L) (hb0 : b0 ≤ W.heap.size) (hJb : ∀ k X Y, J k X → Below X.heap.size X Y → J k Y)
    (hY : ∀ k, k < L.length → ∀ W1 args, J k W1 → YdL L b0 k args W1 → YieldAt Fence.wide (n - 1) Tryd.prog l args W1 fun e W' => (e = .returned (.bool true) ∧ J (k + 1) W' ∧ KpL B ev L.length W1 W') ∨ (e = .returned (.bool false) ∧ Jx k W')) (h0 : J 0 W) :
    CallsIn Fence.wide n Tryd.prog 71 #[.func (.yield l) #[] #[], .pointer (some ⟨B, 0, none⟩)] W fun e W' => (∃ v, e = .returned v) ∧ (J L.length W' ∨ ∃ k, k < L.length ∧ Jx k W') := by
  have c1 : W.cell? ⟨B, 0, none⟩ = some ev := by simp [World.cell?, hA.blk]
  have hle := hA.le
  obtain ⟨ao, cap, rfl, hc1, hc2⟩ := hA.form
  have HA : Sld _ := ⟨hA⟩
  clear hA
  refine callsIn_of_wp Tryd.func71 rfl trivial ?_ rfl
  simp only [Tryd.ntmps71, List.size_toArray, List.length_cons, List.length_nil, Nat.reduceAdd, Nat.reduceSub, Array.replicate_succ, Array.replicate_zero, List.push_toArray, List.append_toArray, List.nil_append, List.cons_append]
  gi_wp2
  gi_loopw [6] (fun i wr => ∃ k : Nat, k ≤ L.length ∧ i = .int .i64 k ∧ J k wr ∧ AlAt wr B (.slice ao L.length cap) L ∧ b0 ≤ wr.heap.size) (fun i _ => L.length - (RowKit.intOf i).toNat)
  case atStart => exact ⟨0, by omega, rfl, h0, HA.out, hb0⟩
  case round =>
    obtain ⟨k, hk, rfl, hJ, hAr, hb⟩ := hrel
    by_cases hlt : k < L.length
    · obtain ⟨g, cap', hv, e0, e1, e2, e3, e4, e5⟩ := hAr.rd k hlt
      cases hv
      have hfm := hAr.fm k hlt
      have d1 : wr.cell? ⟨B, 0, none⟩ = some (.slice (some ⟨g, 0, none⟩) L.length cap) := by simp [World.cell?, hAr.blk]
      have CN : Sld (∀ W, Calls Tryd.prog 72 #[shV (edA L k)] W fun e w' => ∃ ao cap, e = .returned (.agg #[.int .i64 (edA L k).op, .int .i64 (edA L k).n, .string (edA L k).name, .slice ao (edA L k).kids.length cap]) ∧ OwnI w' W.heap.size (.slice ao (edA L k).kids.length cap) (edA L k).kids ∧ Below W.heap.size W w') := ⟨fun W => tnode_any (edA L k) W hfm⟩
      have HR : Sld _ := ⟨hAr⟩
      unfold shV at CN
      have HX : Sld _ := ⟨hY k hlt⟩
      have HXL : Sld (YdL L b0 k = fun args W => ∃ ao cap, args = #[.int .i64 k, .agg #[.int .i64 (edA L k).op, .int .i64 (edA L k).n, .string (edA L k).name, .slice ao (edA L k).kids.length cap]] ∧ OwnI W b0 (.slice ao (edA L k).kids.length cap) (edA L k).kids) := ⟨rfl⟩
      clear hY hAr
      generalize edA L k = x at *
      obtain ⟨op, nn, nm, ks⟩ := x
      simp only at *
      generalize ks.getD 0 0 = k0 at *
      generalize ks.getD 1 0 = k1 at *
      generalize ks.getD 2 0 = k2 at *
      have hkl : (k : Int) < (L.length : Int) := by omega
      gi_wp2
      refine ⟨trivial, (callsIn_wide.2 (CN.out wr)).mono ?_⟩
      rintro e w2 ⟨ka, kc, rfl, hOw, hb2⟩
      have hJ2 := hJb k _ _ hJ hb2
      obtain ⟨fn, tmps, assign, body, hy, hRR⟩ := HX.out w2 #[.int .i64 k, .agg #[.int .i64 op, .int .i64 nn, .string nm, .slice ka ks.length kc]] hJ2 (by rw [HXL.out]; exact ⟨ka, kc, rfl, OwnI.low hOw hb⟩)
      try dsimp only at hy
      have HR2 : Sld _ := ⟨HR.out.below hb2⟩
      have hs2 := Nat.le_trans hb hb2.size
      clear HX HR CN
      gi_wp2
      refine hRR.mono ?_
      rintro e W3 (⟨rfl, hJ3, hk3⟩ | ⟨rfl, hJx3⟩)
      · gi_wp2
        go_roundw
        case rel => exact ⟨k + 1, by omega, by simp, hJ3, HR2.out.kp hk3, Nat.le_trans hs2 hk3.1⟩
        case measure => simp [RowKit.intOf]; omega
      · gi_wp2
        refine bodyPost_ret (results_none rfl _ _ _) rfl ?_
        exact ⟨⟨_, rfl⟩, .inr ⟨k, hlt, hJx3⟩⟩
    · obtain rfl : k = L.length := by omega
      gi_wp2
      go_end0
      exact ⟨⟨_, rfl⟩, .inl hJ⟩
end Go.Proofs.YtpacjofepiojdaaDoor
