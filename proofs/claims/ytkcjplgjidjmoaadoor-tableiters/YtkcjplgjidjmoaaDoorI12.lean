/-
  RgV, TbAl.
-/
import Derived.Shelf.Unicode.DecodeSlow
import Derived.Laws.RangeAny
import Derived.Shelf.Small.Bits
import Derived.Shelf.Strconv.Itoa0
import Derived.Shelf.LaysM
import Derived.Shelf.Strconv.Clone
import Derived.Shelf.Unicode.DecodeAny
import Derived.Shelf.Slices.CompactS
import Derived.Ground.SlsfProg
import Derived.Shelf.SlSortCmp.Insertion
import Derived.Shelf.SlSortCmp.SiftDown1
import Derived.Shelf.SlSortCmp.HeapSort1
import Derived.Shelf.SlSortCmp.Insertion1
import Derived.Shelf.SlSortCmp.Median1
import Derived.Shelf.SlSortCmp.Pivot1
import Derived.Shelf.SlSortCmp.ReverseRange1
import Derived.Shelf.SlSortCmp.PartialInsertion1
import Derived.Shelf.SlSortCmp.PartitionEqual1
import Derived.Shelf.SlSortCmp.Partition1
import Derived.Shelf.SlSortCmp.Pdq1
import Derived.Shelf.SlSortCmp.Whole1
import Derived.Test.YtkcjplgjidjmoaaDoorProg
import Derived.WalkKit
import Derived.Deep.DeepFit
import Derived.Lib.OthersKept
import Derived.Lib.RuneCountTail
import Derived.Deep.AppendLies
import Derived.Deep.OwnRows
import Derived.Laws.AppendOwnNone
import Derived.Deep.QuietTactic
import Derived.BigQuiet
import Derived.Deep.RegionWith
import Derived.Laws.DeepStrings4
import Derived.Below
import Derived.Maps.OwnSet
import Derived.Maps.Keyed
import Derived.DeepKeys4
import Derived.Lib.QuietBelow
import Derived.StillTail
import Derived.Deep.RegionHeld3
import Derived.Laws.ResultCell
import Derived.Laws.CopyOwn
import Derived.RangeFuncNested
import Derived.RangeFuncBound
import Derived.RangeFuncCalls
import Derived.RangeFuncLeaves
import Derived.RangeFuncBox
import Derived.Shelf.Abstract
import Derived.Shelf.RegionOpen
import Derived.OwnWalkIn
import Derived.TacticsInMore
import Derived.LoopNIn
import Derived.LoopIn
import Derived.Test.YtkcjplgjidjmoaaDoorI01
import Derived.Test.YtkcjplgjidjmoaaDoorI02
import Derived.Test.YtkcjplgjidjmoaaDoorI03
import Derived.Test.YtkcjplgjidjmoaaDoorI04
import Derived.Test.YtkcjplgjidjmoaaDoorI05
import Derived.Test.YtkcjplgjidjmoaaDoorI06
import Derived.Test.YtkcjplgjidjmoaaDoorI07
import Derived.Test.YtkcjplgjidjmoaaDoorI08
import Derived.Test.YtkcjplgjidjmoaaDoorI09
import Derived.Test.YtkcjplgjidjmoaaDoorI10
import Derived.Test.YtkcjplgjidjmoaaDoorI11
set_option linter.unusedSimpArgs false
set_option linter.unusedVariables false
namespace Go.Proofs.YtkcjplgjidjmoaaDoor
open Go.RowKit Go.Shelf
attribute [local go_sem] Oper.semAt_some

set_option maxHeartbeats 1000000 in
/-- The law: rounds are numbered, and what the function yields in round k is a V k. -/
theorem range_seqV {F : Fence} {n : Nat} {P : Program} {g : Operand} {ps : Array Tmp} {assign body : Code} {Q : Exit → Act → World → Prop} {a : Act} {w : World}
    (hro : F.round = none) (h1 : 1 ≤ n) {gf : Nat} {lb : Array Value} (hg : a.eval g = .func (.func gf) #[] lb) (hFg : F.fn gf) (eg : ∀ args w, (callFunc gf args).run P w = .ok (.enter gf args) w)
    (N : Nat) (V : Nat → Array Value → World → Prop) (hps : ∀ k args W, V k args W → args.size = ps.size) (hVp : ∀ k args (W : World) (l : Nat) (o o' : Obj), w.heap.size ≤ l → W.heap[l]? = some o → o.isCells = false → V k args W → V k args (W.putObj l o')) (Kp : World → World → Prop) (hKt : ∀ {A B C : World}, Kp A B → Kp B C → Kp A C)
    (hKb : ∀ (W : World) (l : Nat) (o o' : Obj), w.heap.size ≤ l → W.heap[l]? = some o → o.isCells = false → Kp W (W.putObj l o'))
    (hseq : ∀ (l : Nat) (J Jx : Nat → World → Prop) (W : World), Below w.heap.size w W → (∀ k A B, J k A → Below A.heap.size A B → J k B) → (∀ k, k < N → ∀ W1 args, J k W1 → V k args W1 → YieldAt F (n - 1 - 1) P l args W1 fun e W' => (e = .returned (.bool true) ∧ J (k + 1) W' ∧ Kp W1 W') ∨ (e = .returned (.bool false) ∧ Jx k W')) → J 0 W →
      CallsIn F (n - 1) P gf (#[.func (.yield l) #[] #[]] ++ lb) W fun e W' => (∃ v, e = .returned v) ∧ (J N W' ∨ ∃ k, k < N ∧ Jx k W'))
    (I : Nat → World → Prop) (Ix : Code → Nat → World → Prop) (hI : OwnFrom w.heap.size I) (hIx : ∀ c, OwnFrom w.heap.size (Ix c)) (h0 : I 0 w) (A : Nat → Array Value → World → Act) (U : Nat → Array Value → World → World) (hU : ∀ k args W, Below W.heap.size W (U k args W)) (hKw : ∀ X Y : World, Below X.heap.size X Y → Kp X Y) (hVw : ∀ k args (X Y : World), V k args X → Below X.heap.size X Y → V k args Y)
    (hassign : ∀ (l k : Nat) (W : World) (args : Array Value) (K : Act → World → Prop), V k args W → K (A k args W) (U k args W) → assign.wpIn (F.inRound l) (n - 1 - 1) P (Exit.then K (fun _ _ _ => False)) { tmps := (ps.zip args).foldl (fun t (p, v) => t.setIfInBounds p v) a.tmps, defers := [] } W)
    (hbody : ∀ (l k : Nat) (W0 W : World) (args : Array Value), w.heap.size ≤ l → k < N → I k W → V k args W → l < W0.heap.size → (W.heap.size = (U k args W0).heap.size ∧ ∀ b, b ≠ l → W.heap[b]? = (U k args W0).heap[b]?) → body.wpIn (F.inRound l) (n - 1 - 1) P (postQ w.heap.size Kp I Ix k W) (A k args W0) W)
    (hdone : ∀ (D : Nat) (W : World), w.heap.size ≤ D → I N W → W.heap[D]? = some (.deferred (some [])) → Q .normal { a with defers := { target := .collected D, args := #[] } :: a.defers } W)
    (hstop : ∀ (D : Nat) (c : Code) (k : Nat) (W : World), w.heap.size ≤ D → k < N → Ix c k W → W.heap[D]? = some (.deferred (some [])) → c.wpIn F n P Q { a with defers := { target := .collected D, args := #[] } :: a.defers } W) :
    (Code.rangeFunc g ps assign body).wpIn F n P Q a w := by
  refine wpIn_rangeFunc fun fn hfn => ?_
  rw [hro]
  let R : LoopState → Option Code → Loop := fun s j => { state := s, pending := j, fn := fn, tmps := a.tmps, params := ps, assign := assign, body := body, defers := w.heap.size }
  have Rdef : ∀ s j, R s j = { state := s, pending := j, fn := fn, tmps := a.tmps, params := ps, assign := assign, body := body, defers := w.heap.size } := fun _ _ => rfl
  have Rbusy : { R .ready none with state := .busy } = R .busy none := rfl
  generalize R = R at *
  obtain ⟨V0, hV⟩ : ∃ V0, (w.alloc (.deferred (some []))).alloc (.loop (R .ready none)) = V0 := ⟨_, rfl⟩
  have vL : V0.heap[w.heap.size + 1]? = some (.loop (R .ready none)) := by
    rw [← hV]
    have e := World.alloc_heap_new (w.alloc (.deferred (some []))) (.loop (R .ready none))
    rw [World.size_alloc] at e
    exact e
  have vD : V0.heap[w.heap.size]? = some (.deferred (some [])) := by
    rw [← hV]
    exact (Below.heap_alloc _ _ _ (by rw [World.size_alloc]; omega)).trans (World.alloc_heap_new w _)
  have vB : Below w.heap.size w V0 := by
    rw [← hV]
    exact ((Below.refl _ w).alloc (Nat.le_refl _) _).alloc (by simp) _
  have vI : I 0 V0 := by rw [← hV]; exact hI.alloc _ (hI.alloc _ h0)
  refine ⟨w.heap.size + 1, [{ target := .collected w.heap.size, args := #[] }], V0, { target := .fn (.func gf) lb, args := #[.func (.yield (w.heap.size + 1)) #[] #[]] }, V0, gf, #[.func (.yield (w.heap.size + 1)) #[] #[]] ++ lb, V0, ?_, ?_, ?_, ?_, fun _ => h1, ?_⟩
  · rw [← hV, Rdef]; exact run_enterLoop_outer _ _ _ _ _
  · simp only [resolve, hg]
    simp [go_sem]
  · intro f' hf'
    simp [Target.leads] at hf'
    subst hf'
    exact hFg
  · simp [invoke, go_sem, eg]
  · have key := hseq (w.heap.size + 1)
      (fun k W => I k W ∧ W.heap[w.heap.size + 1]? = some (.loop (R .ready none)) ∧ W.heap[w.heap.size]? = some (.deferred (some [])))
      (fun k W => ∃ c, Ix c k W ∧ W.heap[w.heap.size + 1]? = some (.loop (R .done (some c))) ∧ W.heap[w.heap.size]? = some (.deferred (some []))) V0 vB ?_ ?_ ⟨vI, vL, vD⟩
    · refine key.mono ?_
      rintro e W2 ⟨⟨v, rfl⟩, hz⟩
      rcases hz with ⟨hi, hl, hd⟩ | ⟨k, hk, c, hi, hl, hd⟩
      · have hr := run_endLoop (P := P) hl (by rw [Rdef]; simp)
        rw [Rdef] at hr
        exact ⟨none, _, hr, hdone _ _ (Nat.le_refl _) (hI.putObj _ hi (by omega) hl rfl) ((World.putObj_heap_other (by omega)).trans hd)⟩
      · have hr := run_endLoop (P := P) hl (by rw [Rdef]; simp)
        rw [Rdef] at hr
        exact ⟨some c, _, hr, hstop _ c k _ (Nat.le_refl _) hk ((hIx c).putObj _ hi (by omega) hl rfl) ((World.putObj_heap_other (by omega)).trans hd)⟩
    · rintro k X Y ⟨hi, hl, hd⟩ hb
      exact ⟨hI k X Y none hi ⟨hb.os, hb.tape, hb.output, hb.size, fun j hj _ => hb.block j hj⟩ (fun r e => by cases e), (hb.block _ (Array.getElem?_eq_some_iff.1 hl).1).trans hl, (hb.block _ (Array.getElem?_eq_some_iff.1 hd).1).trans hd⟩
    · rintro k hk W args ⟨hi, hl, hd⟩ hv
      have hsz0 : w.heap.size + 1 < W.heap.size := (Array.getElem?_eq_some_iff.1 hl).1
      have hy := run_yield (P := P) (args := args) hl (by rw [Rdef]; exact hps k args W hv)
      rw [Rdef] at hy
      refine ⟨fn, _, assign, body, hy, roundIn_of_wpIn hfn (hassign _ k W args _ hv ?_)⟩
      have hbu := hU k args W
      obtain ⟨W0, hW0⟩ : ∃ W0, W = W0 := ⟨_, rfl⟩
      obtain ⟨Wu, hWu⟩ : ∃ Wu, U k args W = Wu := ⟨_, rfl⟩
      rw [hWu] at hbu ⊢
      have kU : Kp W Wu := hKw _ _ hbu
      have hi := hI k W Wu none hi ⟨hbu.os, hbu.tape, hbu.output, hbu.size, fun j hj _ => hbu.block j hj⟩ (fun r e => by cases e)
      have hl := (hbu.block _ (Array.getElem?_eq_some_iff.1 hl).1).trans hl
      have hd := (hbu.block _ (Array.getElem?_eq_some_iff.1 hd).1).trans hd
      have hv := hVw k args W Wu hv hbu
      have hlt : w.heap.size + 1 < Wu.heap.size := (Array.getElem?_eq_some_iff.1 hl).1
      refine ⟨_, run_beginRound hl (by rw [Rdef]), ?_⟩
      obtain ⟨W1, hW1⟩ : ∃ W1, Wu.putObj (w.heap.size + 1) (.loop { R .ready none with state := .busy }) = W1 := ⟨_, rfl⟩
      have l1 : W1.heap[w.heap.size + 1]? = some (.loop { R .ready none with state := .busy }) := by rw [← hW1]; exact World.putObj_heap_same hlt
      have d1 : W1.heap[w.heap.size]? = some (.deferred (some [])) := by rw [← hW1]; exact (World.putObj_heap_other (by omega)).trans hd
      have k1 : Kp W W1 := by rw [← hW1]; exact hKt kU (hKb _ _ _ _ (by omega) hl rfl)
      have u1 : W1.heap.size = (U k args W).heap.size ∧ ∀ b, b ≠ w.heap.size + 1 → W1.heap[b]? = (U k args W).heap[b]? := by rw [← hW1, hWu]; exact ⟨by simp, fun b hb => World.putObj_heap_other (fun e => hb e)⟩
      have i1 : I k W1 := by rw [← hW1]; exact hI.putObj _ hi (by omega) hl rfl
      have v1 : V k args W1 := by rw [← hW1]; exact hVp _ _ _ _ _ _ (by omega) hl rfl hv
      rw [hW1]
      have fin : ∀ (j : Option Code) (W3 : World), KeepsFrom w.heap.size W1 W3 → W3.heap[w.heap.size + 1]? = some (.loop { R .ready none with state := .busy }) ∧
          (Instr.endRound (w.heap.size + 1) j).run P W3 = .ok (.bool j.isNone) (W3.putObj (w.heap.size + 1) (.loop (R (if j.isNone then .ready else .done) j))) ∧
          (W3.putObj (w.heap.size + 1) (.loop (R (if j.isNone then .ready else .done) j))).heap[w.heap.size + 1]? = some (.loop (R (if j.isNone then .ready else .done) j)) ∧
          (W3.putObj (w.heap.size + 1) (.loop (R (if j.isNone then .ready else .done) j))).heap[w.heap.size]? = some (.deferred (some [])) := fun j W3 h3 => by
        have l3 := h3.same _ _ (by omega) l1 rfl
        have hr := run_endRound (P := P) j l3
        rw [Rdef] at hr
        rw [Rdef (if j.isNone then .ready else .done) j]
        exact ⟨l3, hr, World.putObj_heap_same (Array.getElem?_eq_some_iff.1 l3).1, (World.putObj_heap_other (by omega)).trans (h3.same _ _ (Nat.le_refl _) d1 rfl)⟩
      refine wpIn_mono (hbody (w.heap.size + 1) k W W1 args (by omega) hk i1 v1 hsz0 u1) ?_
      rintro e a3 W3 hp
      cases e with
      | normal =>
        obtain ⟨h3, kp, hi3⟩ := hp
        obtain ⟨l3, hr, l4, d4⟩ := fin none W3 h3
        exact ⟨_, _, hr, .inl ⟨rfl, ⟨hI.putObj _ hi3 (by omega) l3 rfl, l4, d4⟩, hKt (hKt k1 kp) (hKb _ _ _ _ (by omega) l3 rfl)⟩⟩
      | ret =>
        obtain ⟨h3, hi3⟩ := hp
        obtain ⟨l3, hr, l4, d4⟩ := fin (some .ret) W3 h3
        exact ⟨_, _, hr, .inr ⟨rfl, .ret, (hIx _).putObj _ hi3 (by omega) l3 rfl, l4, d4⟩⟩
      | exit id =>
        obtain ⟨h3, hi3⟩ := hp
        obtain ⟨l3, hr, l4, d4⟩ := fin (some (.exit id)) W3 h3
        exact ⟨_, _, hr, .inr ⟨rfl, .exit id, (hIx _).putObj _ hi3 (by omega) l3 rfl, l4, d4⟩⟩
      | goto t => exact hp.elim
      | panic ch => exact hp.elim
      | outgrown => exact hp.elim

end Go.Proofs.YtkcjplgjidjmoaaDoor

set_option linter.unusedSimpArgs false
set_option linter.unusedVariables false
namespace Go.Proofs.YtkcjplgjidjmoaaDoor
open Go.RowKit Go.Lib Go.Sort Go.Maps Go.Shelf
attribute [local go_sem] Oper.semAt_some

/-- What the function that All answers holds: block B, and the entries' first cells. -/
structure AlAt (w : World) (B : Nat) (ev : Value) (L : List Nd) : Prop where
  blk : w.heap[B]? = some (.cells #[ev] 75 (0, 0))
  form : ∃ ao cap, ev = .slice ao L.length cap ∧ L.length ≤ cap ∧ cap ≤ maxLen
  rd : ∀ i, i < L.length → ∃ g cap, ev = .slice (some ⟨g, 0, none⟩) L.length cap ∧ w.cell? ⟨g, i * 7, none⟩ = some (.int .i64 (edA L i).op) ∧ w.cell? ⟨g, i * 7 + 1, none⟩ = some (.int .i64 (edA L i).n) ∧ w.cell? ⟨g, i * 7 + 2, none⟩ = some (.string (edA L i).name) ∧ w.cell? ⟨g, i * 7 + 3, none⟩ = some (.int .i64 ((edA L i).kids.getD 0 0)) ∧ w.cell? ⟨g, i * 7 + 4, none⟩ = some (.int .i64 ((edA L i).kids.getD 1 0)) ∧ w.cell? ⟨g, i * 7 + 5, none⟩ = some (.int .i64 ((edA L i).kids.getD 2 0))
  fm : ∀ i, i < L.length → formB (edA L i) = true
  le : L.length ≤ 1048576
/-- What the function wants kept. -/
def KpL (B : Nat) (ev : Value) (n : Nat) (W W' : World) : Prop := W.heap.size ≤ W'.heap.size ∧ (∀ o, W.heap[B]? = some o → W'.heap[B]? = some o) ∧ ∀ g, ev.ownBlock = some g → ∀ j u, j < n * 7 → W.cell? ⟨g, j, none⟩ = some u → W'.cell? ⟨g, j, none⟩ = some u
theorem KpL.trans {B : Nat} {ev : Value} {n : Nat} {X Y Z : World} (h : KpL B ev n X Y) (k : KpL B ev n Y Z) : KpL B ev n X Z := ⟨Nat.le_trans h.1 k.1, fun o ho => k.2.1 o (h.2.1 o ho), fun g e j u hj hu => k.2.2 g e j u hj (h.2.2 g e j u hj hu)⟩
theorem AlAt.kp {w w' : World} {B : Nat} {ev : Value} {L : List Nd} (h : AlAt w B ev L) (hk : KpL B ev L.length w w') : AlAt w' B ev L := by
  refine ⟨hk.2.1 _ h.blk, h.form, fun i hi => ?_, h.fm, h.le⟩
  obtain ⟨g, cap, rfl, c0, c1, c2, c3, c4, c5⟩ := h.rd i hi
  exact ⟨g, cap, rfl, hk.2.2 g rfl _ _ (by omega) c0, hk.2.2 g rfl _ _ (by omega) c1, hk.2.2 g rfl _ _ (by omega) c2, hk.2.2 g rfl _ _ (by omega) c3, hk.2.2 g rfl _ _ (by omega) c4, hk.2.2 g rfl _ _ (by omega) c5⟩
theorem cell_lt {w : World} {g j : Nat} {u : Value} (h : w.cell? ⟨g, j, none⟩ = some u) : g < w.heap.size := World.block_lt_of_cell? w _ h
theorem KpL.below {w w' : World} {B : Nat} {ev : Value} {n : Nat} (hb : Below w.heap.size w w') : KpL B ev n w w' := ⟨hb.size, fun o ho => (hb.block B (lt_of_block ho)).trans ho, fun g _ j u _ hu => (hb.cell (p := ⟨g, j, none⟩) (cell_lt hu)).trans hu⟩
theorem AlAt.below {w w' : World} {B : Nat} {ev : Value} {L : List Nd} (h : AlAt w B ev L) (hb : Below w.heap.size w w') : AlAt w' B ev L := h.kp (KpL.below hb)

set_option maxRecDepth 20000 in
set_option maxHeartbeats 1000000 in
theorem tAll_any (w : World) (p : Nat) (ev mv : Value) (L : List Nd) (h : TbM w p ev mv L) (hle : L.length ≤ 1048576) :
    Calls Tryd.prog 25 #[.pointer (some ⟨p, 0, none⟩)] w fun e w' => ∃ B, e = .returned (.func (.func 54) #[] #[.pointer (some ⟨B, 0, none⟩)]) ∧ w.heap.size ≤ B ∧ AlAt w' B ev L ∧ Below w.heap.size w w' := by
  have t0 := h.c0
  have hpl := h.lt
  have HM : Sld (TbM w p ev mv L) := ⟨h⟩
  have hform : ∃ ao cap, ev = .slice ao L.length cap ∧ L.length ≤ cap ∧ cap ≤ maxLen := by
    rcases h.on.2 with ⟨rfl, h0⟩ | ⟨g, cap, cur, rfl, _, _, h8, h9, _⟩
    · exact ⟨none, 0, by rw [h0], by omega, by simp [maxLen]⟩
    · exact ⟨_, cap, rfl, h8, h9⟩
  obtain ⟨ao, cap, rfl, hc1, hc2⟩ := hform
  have hEnd : ∀ W B, Below w.heap.size w W → W.heap[B]? = some (.cells #[.slice ao L.length cap] 75 (0, 0)) → AlAt W B (.slice ao L.length cap) L := fun W B hb hB => by
    refine ⟨hB, ⟨ao, cap, rfl, hc1, hc2⟩, fun i hi => ?_, fun i hi => ?_, hle⟩
    · have hM := h.below hb
      obtain ⟨g, cap', hv, hg, hgl, hcc, hcm⟩ := hM.row hi
      cases hv
      obtain ⟨e0, e1, e2, e3, e4, e5, e6⟩ := hM.at_ hi
      exact ⟨g, cap, rfl, e0, e1, e2, e3, e4, e5⟩
    · exact h.inv.form i hi
  have HE : Sld _ := ⟨hEnd⟩
  clear h hEnd
  go_enter Tryd.func25, Tryd.ntmps25
  go_wp2_with fail
  go_ret
  have hb : Below w.heap.size w (w.alloc (.cells #[.slice ao L.length cap] 75)) := (Below.refl _ w).alloc (Nat.le_refl _) _
  exact ⟨w.heap.size, rfl, Nat.le_refl _, HE.out _ _ hb (World.alloc_heap_new w _), hb⟩

theorem OwnI.low {w : World} {b b0 : Nat} {v : Value} {ks : List Int} (h : OwnI w b v ks) (hb : b0 ≤ b) : OwnI w b0 v ks := by
  exact ownsRow_mono h hb
/-- What the function yields in round k. -/
def YdL (L : List Nd) (b0 : Nat) (k : Nat) (args : Array Value) (W : World) : Prop := ∃ ao cap, args = #[.int .i64 k, .agg #[.int .i64 (edA L k).op, .int .i64 (edA L k).n, .string (edA L k).name, .slice ao (edA L k).kids.length cap]] ∧ OwnI W b0 (.slice ao (edA L k).kids.length cap) (edA L k).kids
set_option maxRecDepth 100000 in
set_option maxHeartbeats 2000000 in
theorem tall1_in (n : Nat) (hn : 1 ≤ n) (b0 l B : Nat) (ev : Value) (L : List Nd) (J Jx : Nat → World → Prop) (W : World) (hA : AlAt W B ev L) (hb0 : b0 ≤ W.heap.size) (hJb : ∀ k X Y, J k X → Below X.heap.size X Y → J k Y)
    (hY : ∀ k, k < L.length → ∀ W1 args, J k W1 → YdL L b0 k args W1 → YieldAt Fence.wide (n - 1) Tryd.prog l args W1 fun e W' => (e = .returned (.bool true) ∧ J (k + 1) W' ∧ KpL B ev L.length W1 W') ∨ (e = .returned (.bool false) ∧ Jx k W')) (h0 : J 0 W) :
    CallsIn Fence.wide n Tryd.prog 54 #[.func (.yield l) #[] #[], .pointer (some ⟨B, 0, none⟩)] W fun e W' => (∃ v, e = .returned v) ∧ (J L.length W' ∨ ∃ k, k < L.length ∧ Jx k W') := by
  have c1 : W.cell? ⟨B, 0, none⟩ = some ev := by simp [World.cell?, hA.blk]
  have hle := hA.le
  obtain ⟨ao, cap, rfl, hc1, hc2⟩ := hA.form
  have HA : Sld _ := ⟨hA⟩
  clear hA
  refine callsIn_of_wp Tryd.func54 rfl trivial ?_ rfl
  simp only [Tryd.ntmps54, List.size_toArray, List.length_cons, List.length_nil, Nat.reduceAdd, Nat.reduceSub, Array.replicate_succ, Array.replicate_zero, List.push_toArray, List.append_toArray, List.nil_append, List.cons_append]
  gi_wp2
  gi_loopw [6] (fun i wr => ∃ k : Nat, k ≤ L.length ∧ i = .int .i64 k ∧ J k wr ∧ AlAt wr B (.slice ao L.length cap) L ∧ b0 ≤ wr.heap.size) (fun i _ => L.length - (RowKit.intOf i).toNat)
  case atStart => exact ⟨0, by omega, rfl, h0, HA.out, hb0⟩
  case round =>
    obtain ⟨k, hk, rfl, hJ, hAr, hb⟩ := hrel
    by_cases hlt : k < L.length
    · obtain ⟨g, cap', hv, e0, e1, e2, e3, e4, e5⟩ := hAr.rd k hlt
      cases hv
      have hfm := hAr.fm k hlt
      have d1 : wr.cell? ⟨B, 0, none⟩ = some (.slice (some ⟨g, 0, none⟩) L.length cap) := by simp [World.cell?, hAr.blk]
      have CN : Sld (∀ W, Calls Tryd.prog 55 #[shV (edA L k)] W fun e w' => ∃ ao cap, e = .returned (.agg #[.int .i64 (edA L k).op, .int .i64 (edA L k).n, .string (edA L k).name, .slice ao (edA L k).kids.length cap]) ∧ OwnI w' W.heap.size (.slice ao (edA L k).kids.length cap) (edA L k).kids ∧ Below W.heap.size W w') := ⟨fun W => tnode_any (edA L k) W hfm⟩
      have HR : Sld _ := ⟨hAr⟩
      unfold shV at CN
      have HX : Sld _ := ⟨hY k hlt⟩
      have HXL : Sld (YdL L b0 k = fun args W => ∃ ao cap, args = #[.int .i64 k, .agg #[.int .i64 (edA L k).op, .int .i64 (edA L k).n, .string (edA L k).name, .slice ao (edA L k).kids.length cap]] ∧ OwnI W b0 (.slice ao (edA L k).kids.length cap) (edA L k).kids) := ⟨rfl⟩
      clear hY hAr
      generalize edA L k = x at *
      obtain ⟨op, nn, nm, ks⟩ := x
      simp only at *
      generalize ks.getD 0 0 = k0 at *
      generalize ks.getD 1 0 = k1 at *
      generalize ks.getD 2 0 = k2 at *
      have hkl : (k : Int) < (L.length : Int) := by omega
      gi_wp2
      refine ⟨trivial, (callsIn_wide.2 (CN.out wr)).mono ?_⟩
      rintro e w2 ⟨ka, kc, rfl, hOw, hb2⟩
      have hJ2 := hJb k _ _ hJ hb2
      obtain ⟨fn, tmps, assign, body, hy, hRR⟩ := HX.out w2 #[.int .i64 k, .agg #[.int .i64 op, .int .i64 nn, .string nm, .slice ka ks.length kc]] hJ2 (by rw [HXL.out]; exact ⟨ka, kc, rfl, OwnI.low hOw hb⟩)
      try dsimp only at hy
      have HR2 : Sld _ := ⟨HR.out.below hb2⟩
      have hs2 := Nat.le_trans hb hb2.size
      clear HX HR CN
      gi_wp2
      refine hRR.mono ?_
      rintro e W3 (⟨rfl, hJ3, hk3⟩ | ⟨rfl, hJx3⟩)
      · gi_wp2
        go_roundw
        case rel => exact ⟨k + 1, by omega, by simp, hJ3, HR2.out.kp hk3, Nat.le_trans hs2 hk3.1⟩
        case measure => simp [RowKit.intOf]; omega
      · gi_wp2
        refine bodyPost_ret (results_none rfl _ _ _) rfl ?_
        exact ⟨⟨_, rfl⟩, .inr ⟨k, hlt, hJx3⟩⟩
    · obtain rfl : k = L.length := by omega
      gi_wp2
      go_end0
      exact ⟨⟨_, rfl⟩, .inl hJ⟩
end Go.Proofs.YtkcjplgjidjmoaaDoor
