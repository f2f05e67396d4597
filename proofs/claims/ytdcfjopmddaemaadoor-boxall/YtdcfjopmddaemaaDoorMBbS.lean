/-
  What the walk of BoxAll shares.
-/
import Derived.Test.YtdcfjopmddaemaaDoorMBbP
import Derived.Test.YtdcfjopmddaemaaDoorMGG
import Derived.Test.YtdcfjopmddaemaaDoorMBxExpW
set_option linter.unusedSimpArgs false
set_option linter.unusedVariables false
namespace Go.Proofs.YtdcfjopmddaemaaDoor
open Go.RowKit Go.Shelf
attribute [local go_sem] Oper.semAt_some

/-- Between two rounds of a range over All: the count in its box; the list; what lay ahead of the box is as it was. -/
structure BaI (Wn W0 : World) (B : Nat) (ta : Option Addr) (tc : Nat) (ts : List Tm) (k : Nat) (W : World) : Prop where
  n : W.heap[Wn.heap.size]? = some (.cells #[.int .i64 (k : Int)] 3 (0, 0))
  all : AllAt W B ta tc ts
  below : Below Wn.heap.size Wn W
  size : W0.heap.size ≤ W.heap.size
theorem BaI.own {Wn W0 : World} {B : Nat} {ta : Option Addr} {tc : Nat} {ts : List Tm} (hw : Wn.heap.size ≤ W0.heap.size) : OwnFrom W0.heap.size (BaI Wn W0 B ta tc ts) := fun k W W' row h hg hr => by
  have hr' : ∀ r, row = some r → ∃ o : Obj, W.heap[r]? = some o ∧ o.isCells = false := fun r e => (hr r e).2
  exact ⟨blk_own h.n hg hr', h.all.own hg hr', h.below.grown hg (by have := h.size; omega) (fun r e => by have := (hr r e).1; omega), Nat.le_trans h.size hg.size⟩
/-- The body has left by break. -/
structure BaX (Wn : World) (cut : Int) (c : Code) (k : Nat) (W : World) : Prop where
  ex : c = .exit 2
  n : W.heap[Wn.heap.size]? = some (.cells #[.int .i64 cut] 3 (0, 0))
  below : Below Wn.heap.size Wn W
theorem BaX.own {Wn W0 : World} {cut : Int} (hw : Wn.heap.size ≤ W0.heap.size) (c : Code) : OwnFrom W0.heap.size (BaX Wn cut c) := fun k W W' row h hg hr => by
  have hr' : ∀ r, row = some r → ∃ o : Obj, W.heap[r]? = some o ∧ o.isCells = false := fun r e => (hr r e).2
  exact ⟨h.ex, blk_own h.n hg hr', h.below.grown hg h.below.size (fun r e => by have := (hr r e).1; omega)⟩
theorem KpA.set {W : World} {B p o : Nat} {ta : Option Addr} {u : Value} (hB : B ≠ p) (hg : ∀ g, ta = some ⟨g, 0, none⟩ → g ≠ p) : KpA B ta W (W.setCell ⟨p, o, none⟩ u) :=
  ⟨fun o' h => (Deep.blk_setCell_other _ _ _ _ (by show B ≠ p; exact hB)).trans h, fun g o' e h => (Deep.blk_setCell_other _ _ _ _ (by show g ≠ p; exact hg g e)).trans h⟩

theorem eqF_nil (B : Nat) (w : World) : (binOp .eql 49 (.func (.func 52) #[] #[.pointer (some ⟨B, 0, none⟩)]) .nilFunc).run Tryd.prog w = .ok (.bool false) w := by first | kernel_rfl | rfl | simp [binOp, go_sem]
theorem all_want (t : Tm) : (allT t).length = (wantT t).length := by
  unfold allT wantT
  split
  · exact subs_len t
  · rfl
/-- The marks: each once, each with its block. -/
structure Mks (w0 W : World) (ds : List Nat) : Prop where
  nd : ds.Nodup
  at_ : ∀ D ∈ ds, w0.heap.size + 3 ≤ D ∧ D < W.heap.size ∧ W.heap[D]? = some (.deferred (some []))
theorem Mks.keep {w0 W W' : World} {ds : List Nat} (h : Mks w0 W ds) (hk : ∀ D, D < W.heap.size → W.heap[D]? = some (.deferred (some [])) → W'.heap[D]? = some (.deferred (some []))) (hs : W.heap.size ≤ W'.heap.size) : Mks w0 W' ds :=
  ⟨h.nd, fun D hD => by have := h.at_ D hD; exact ⟨this.1, by omega, hk D this.2.1 this.2.2⟩⟩
theorem Mks.cons {w0 W W' : World} {ds : List Nat} (h : Mks w0 W ds) (hb : Below W.heap.size W W') {D : Nat} (hD : W.heap.size ≤ D) (hw : w0.heap.size + 3 ≤ W.heap.size) (hd : W'.heap[D]? = some (.deferred (some []))) : Mks w0 W' (D :: ds) := by
  have h' : Mks w0 W' ds := h.keep (fun E h1 h2 => (hb.block E h1).trans h2) hb.size
  refine ⟨List.nodup_cons.2 ⟨fun hm => by have := (h.at_ D hm).2.1; omega, h.nd⟩, fun E hE => ?_⟩
  rcases List.mem_cons.1 hE with rfl | hE
  · exact ⟨by omega, lt_of_block hd, hd⟩
  · exact h'.at_ E hE
end Go.Proofs.YtdcfjopmddaemaaDoor
