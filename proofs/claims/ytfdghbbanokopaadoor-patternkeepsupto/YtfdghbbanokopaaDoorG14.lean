/-
  BkR, RmPure, SwPure.
-/
import Derived.Shelf.Unicode.DecodeSlow
import Derived.Laws.RangeAny
import Derived.Shelf.Strconv.Itoa0
import Derived.Shelf.Unicode.DecodeAny
import Derived.Test.YtfdghbbanokopaaDoorProg
import Derived.WalkKit
import Derived.Deep.DeepFit
import Derived.Lib.OthersKept
import Derived.Lib.RuneCountTail
import Derived.Deep.AppendLies
import Derived.Deep.OwnRows
import Derived.Laws.AppendOwnNone
import Derived.Deep.QuietTactic
import Derived.BigQuiet
import Derived.Deep.RegionWith
import Derived.Laws.DeepStrings4
import Derived.Below
import Derived.Deep.RegionLaw
import Derived.Test.YtfdghbbanokopaaDoorG01
import Derived.Test.YtfdghbbanokopaaDoorG02
import Derived.Test.YtfdghbbanokopaaDoorG03
import Derived.Test.YtfdghbbanokopaaDoorG04
import Derived.Test.YtfdghbbanokopaaDoorG05
import Derived.Test.YtfdghbbanokopaaDoorG06
import Derived.Test.YtfdghbbanokopaaDoorG07
import Derived.Test.YtfdghbbanokopaaDoorG08
import Derived.Test.YtfdghbbanokopaaDoorG09
import Derived.Test.YtfdghbbanokopaaDoorG13
set_option linter.unusedSimpArgs false
set_option linter.unusedVariables false
namespace Go.Proofs.YtfdghbbanokopaaDoor
open Go.RowKit Go.Lib

theorem own_low {w : World} {base base' : Nat} {e : TypeId} {s n : Nat} {v : Value} {xs : List Value} (h : w.ownsRow base e s v n xs) (hb : base' ≤ base) : w.ownsRow base' e s v n xs :=
  ⟨h.1, h.2.imp id fun ⟨g, cap, cur, h1, h2, h3⟩ => ⟨g, cap, cur, h1, by omega, h3⟩⟩
theorem ownP_low {w : World} {base base' : Nat} {v : Value} {q : List (Nd × Value)} (h : OwnP w base v q) (hb : base' ≤ base) : OwnP w base' v q := ⟨own_low h.row hb, fun y hy => own_low (h.kids y hy) hb⟩
/-- The rows of kids. -/
def kR (q : List (Nd × Value)) : List Rw := q.map fun y => (y.2, y.1.kids.length, y.1.kids.map (Value.int .i64))
theorem kR_v (q : List (Nd × Value)) : (kR q).map (·.1) = q.map (·.2) := by simp [kR]
/-- Rows one after the other. -/
def LiesR (R : List Rw) (lo hi : Nat) : Prop := ∀ r ∈ R, ∀ b, r.1.ownBlock = some b → lo ≤ b ∧ b < hi
theorem RwL.app {w : World} {base : Nat} {e : TypeId} {s : Nat} {R S : List Rw} (h : RwL w base e s R) (k : RwL w base e s S) (hd : ∀ r ∈ R, ∀ t ∈ S, ∀ b, r.1.ownBlock = some b → t.1.ownBlock ≠ some b) : RwL w base e s (R ++ S) :=
  ⟨fun r hr => (List.mem_append.1 hr).elim (h.own r) (k.own r), List.pairwise_append.2 ⟨h.ap, k.ap, hd⟩⟩
theorem lies_apart {R S : List Rw} {a b c d : Nat} (h : LiesR R a b) (k : LiesR S c d) (hbc : b ≤ c ∨ d ≤ a) : ∀ r ∈ R, ∀ t ∈ S, ∀ g, r.1.ownBlock = some g → t.1.ownBlock ≠ some g := fun r hr t ht g h1 h2 => by
  have := h r hr g h1; have := k t ht g h2; omega
theorem RwL.one {w : World} {base : Nat} {e : TypeId} {s : Nat} {r : Rw} (h : w.ownsRow base e s r.1 r.2.1 r.2.2) : RwL w base e s [r] := ⟨fun x hx => by simp at hx; subst hx; exact h, List.pairwise_singleton _ _⟩
theorem RwL.lies {w : World} {base : Nat} {e : TypeId} {s : Nat} {R : List Rw} (h : RwL w base e s R) : LiesR R base w.heap.size := fun r hr b hb => by
  obtain ⟨h1, h2, _⟩ := rw_block (h.own r hr) hb
  exact ⟨h1, h2⟩
theorem RwL.low {w : World} {base base' : Nat} {e : TypeId} {s : Nat} {R : List Rw} (h : RwL w base e s R) (hb : base' ≤ base) : RwL w base' e s R := ⟨fun r hr => own_low (h.own r hr) hb, h.ap⟩
theorem RwL.bel {w w' : World} {base : Nat} {e : TypeId} {s : Nat} {R : List Rw} (h : RwL w base e s R) (hb : Below w.heap.size w w') : RwL w' base e s R := h.keep fun r hr b hv => hb.block b (rw_block (h.own r hr) hv).2.1
theorem LiesR.app {R S : List Rw} {a b : Nat} (h : LiesR R a b) (k : LiesR S a b) : LiesR (R ++ S) a b := fun r hr => (List.mem_append.1 hr).elim (h r) (k r)
theorem LiesR.wide {R : List Rw} {a b a' b' : Nat} (h : LiesR R a b) (h1 : a' ≤ a) (h2 : b ≤ b') : LiesR R a' b' := fun r hr g hg => by have := h r hr g hg; omega
theorem kR_own {w : World} {base : Nat} {v : Value} {q : List (Nd × Value)} (h : OwnP w base v q) (ha : KdAp q) : RwL w base 3 1 (kR q) :=
  ⟨fun r hr => by
    obtain ⟨y, hy, rfl⟩ := List.mem_map.1 hr
    exact h.kids y hy, List.pairwise_map.2 ha⟩
theorem ownP_below {w w' : World} {base : Nat} {v : Value} {q : List (Nd × Value)} (h : OwnP w base v q) (hb : Below w.heap.size w w') : OwnP w' base v q :=
  ⟨rw_same h.row (fun b hv => hb.block b (rw_block h.row hv).2.1), fun y hy => rw_same (h.kids y hy) (fun b hv => hb.block b (rw_block (h.kids y hy) hv).2.1)⟩
theorem row_below {w w' : World} {base : Nat} {e : TypeId} {s n : Nat} {v : Value} {xs : List Value} (h : w.ownsRow base e s v n xs) (hb : Below w.heap.size w w') : w'.ownsRow base e s v n xs := rw_same h (fun b hv => hb.block b (rw_block h hv).2.1)
/-- Answers: expressions that were made one after the other, from lo to hi. -/
structure Anss (W : World) (lo hi : Nat) (A : List (Value × List (Nd × Value))) : Prop where
  kids : RwL W lo 3 1 (A.flatMap fun a => kR a.2)
  rows : RwL W lo 50 4 (A.map fun a => (a.1, a.2.length, ndCells a.2))
  lk : LiesR (A.flatMap fun a => kR a.2) lo hi
  lr : LiesR (A.map fun a => (a.1, a.2.length, ndCells a.2)) lo hi
  le : lo ≤ hi
theorem Anss.nil (W : World) (z : Nat) : Anss W z z [] := ⟨⟨by simp, List.Pairwise.nil⟩, ⟨by simp, List.Pairwise.nil⟩, (by intro r hr; simp at hr), (by intro r hr; simp at hr), Nat.le_refl _⟩
theorem Anss.below {W W' : World} {lo hi : Nat} {A : List (Value × List (Nd × Value))} (h : Anss W lo hi A) (hb : Below W.heap.size W W') : Anss W' lo hi A :=
  ⟨h.kids.bel hb, h.rows.bel hb, h.lk, h.lr, h.le⟩
theorem Anss.wide {W : World} {lo hi hi' : Nat} {A : List (Value × List (Nd × Value))} (h : Anss W lo hi A) (hb : hi ≤ hi') : Anss W lo hi' A :=
  ⟨h.kids, h.rows, h.lk.wide (Nat.le_refl _) hb, h.lr.wide (Nat.le_refl _) hb, Nat.le_trans h.le hb⟩
theorem Anss.snoc {W : World} {lo hi : Nat} {A : List (Value × List (Nd × Value))} {v : Value} {q : List (Nd × Value)} (h : Anss W lo hi A) (ho : OwnP W hi v q) (ha : KdAp q) (hw : hi ≤ W.heap.size) : Anss W lo W.heap.size (A ++ [(v, q)]) := by
  have k1 := kR_own ho ha
  have r1 : RwL W hi 50 4 [((v, q.length, ndCells q) : Rw)] := RwL.one ho.row
  have e1 : ((A ++ [(v, q)]).flatMap fun a => kR a.2) = (A.flatMap fun a => kR a.2) ++ kR q := by simp
  have e2 : ((A ++ [(v, q)]).map fun a => ((a.1, a.2.length, ndCells a.2) : Rw)) = (A.map fun a => (a.1, a.2.length, ndCells a.2)) ++ [(v, q.length, ndCells q)] := by simp
  refine ⟨?_, ?_, ?_, ?_, Nat.le_trans h.le hw⟩
  · rw [e1]; exact h.kids.app (k1.low h.le) (lies_apart h.lk k1.lies (.inl (Nat.le_refl _)))
  · rw [e2]; exact h.rows.app (r1.low h.le) (lies_apart h.lr r1.lies (.inl (Nat.le_refl _)))
  · rw [e1]; exact (h.lk.wide (Nat.le_refl _) hw).app (k1.lies.wide h.le (Nat.le_refl _))
  · rw [e2]; exact (h.lr.wide (Nat.le_refl _) hw).app (r1.lies.wide h.le (Nat.le_refl _))
theorem Anss.ownP {W : World} {lo hi : Nat} {A : List (Value × List (Nd × Value))} (h : Anss W lo hi A) {a : Value × List (Nd × Value)} (ha : a ∈ A) : OwnP W lo a.1 a.2 :=
  ⟨h.rows.own _ (List.mem_map_of_mem ha), fun y hy => h.kids.own ((y.2, y.1.kids.length, y.1.kids.map (Value.int .i64)) : Rw) (List.mem_flatMap.2 ⟨a, ha, List.mem_map_of_mem (f := fun y : Nd × Value => ((y.2, y.1.kids.length, y.1.kids.map (Value.int .i64)) : Rw)) hy⟩)⟩
end Go.Proofs.YtfdghbbanokopaaDoor

set_option linter.unusedSimpArgs false
set_option linter.unusedVariables false
namespace Go.Proofs.YtfdghbbanokopaaDoor
open Go.RowKit Go.Lib

/-- The marks behind a list of numbers, and behind a list of nodes. -/
def spL (k : Nat) : List Int := (List.range k).map fun (j : Nat) => 7000 + (j : Int)
theorem spL_succ (k : Nat) : spL (k + 1) = spL k ++ [7000 + (k : Int)] := by simp [spL, List.range_succ]
theorem spL_len (k : Nat) : (spL k).length = k := by simp [spL]
def exL (k : Nat) : List Nd := (List.range k).map fun (j : Nat) => ⟨7000 + (j : Int), 0, ⟨#[]⟩, []⟩
theorem exL_succ (k : Nat) : exL (k + 1) = exL k ++ [⟨7000 + (k : Int), 0, ⟨#[]⟩, []⟩] := by simp [exL, List.range_succ]
theorem exL_len (k : Nat) : (exL k).length = k := by simp [exL]

/-- Within the reach, with the marks. -/
structure FitR (l : List Nd) : Prop where
  len : l.length * 56 ≤ 140737488351232
  kids : ∀ x ∈ l, x.kids.length * 8 ≤ 140737488351232
  name : ∀ x ∈ l, x.name.size ≤ maxLen
theorem FitR.fit {l : List Nd} (h : FitR l) : Fit l := ⟨by have := h.len; omega, fun x hx => by have := h.kids x hx; omega, h.name⟩

theorem rm_block {w : World} {base : Nat} {e : TypeId} {s n : Nat} {v : Value} {xs : List Value} (h : w.ownsRow base e s v n xs) : ∀ b, v.ownBlock = some b → base ≤ b ∧ b < w.heap.size := by
  intro b hb
  rcases h.2 with ⟨rfl, _⟩ | ⟨g, cap, cur, rfl, h1, h2, _⟩
  · cases hb
  · simp [Value.ownBlock] at hb; subst hb; exact ⟨h1, lt_of_block h2⟩
theorem rm_same {w w' : World} {base : Nat} {e : TypeId} {s n : Nat} {v : Value} {xs : List Value} (h : w.ownsRow base e s v n xs) (hb : ∀ b, v.ownBlock = some b → w'.heap[b]? = w.heap[b]?) : w'.ownsRow base e s v n xs := by
  rcases h with ⟨h1, h2⟩
  refine ⟨h1, ?_⟩
  rcases h2 with h2 | ⟨g, cap, cur, rfl, hg, h3, r⟩
  · exact .inl h2
  · exact .inr ⟨g, cap, cur, rfl, hg, (hb g rfl).trans h3, r⟩
theorem rm_form {w : World} {base : Nat} {e : TypeId} {s n : Nat} {v : Value} {xs : List Value} (h : w.ownsRow base e s v n xs) : ∃ ao cap, v = .slice ao n cap := by
  rcases h.2 with ⟨rfl, h0⟩ | ⟨g', cap', cur, rfl, _⟩
  · exact ⟨none, 0, by rw [h0]⟩
  · exact ⟨_, _, rfl⟩
/-- A row is no block of another type. -/
theorem rm_ne {w : World} {base M : Nat} {e T : TypeId} {s n : Nat} {v : Value} {xs : List Value} {c : Array Value} (h : w.ownsRow base e s v n xs) (hb : w.heap[M]? = some (.cells c T (0, 0))) (hne : e ≠ T) : v.ownBlock ≠ some M := by
  intro hv
  rcases h.2 with ⟨rfl, _⟩ | ⟨g, cap, cur, rfl, _, h2, _⟩
  · cases hv
  · simp [Value.ownBlock] at hv; subst hv; rw [hb] at h2; simp at h2; exact hne h2.2.symm
/-- The first part of a row. -/
theorem rm_cut {w : World} {base g cap : Nat} {ks ms : List Int} (h : OwnI w base (.slice (some ⟨g, 0, none⟩) (ks ++ ms).length cap) (ks ++ ms)) : OwnI w base (.slice (some ⟨g, 0, none⟩) ks.length cap) ks := by
  obtain ⟨h1, h2⟩ := h
  refine ⟨by simp, ?_⟩
  rcases h2 with ⟨h2, _⟩ | ⟨g', cap', cur, h3, hb, hg, hn, hm, hs, ht⟩
  · cases h2
  · cases h3
    refine .inr ⟨g, cap, cur, rfl, hb, hg, by simp at hn; omega, hm, hs, ?_⟩
    have e : cur.toList.take (ks.length * 1) = (cur.toList.take ((ks ++ ms).length * 1)).take ks.length := by
      rw [List.take_take]; congr 1; simp
    rw [e, ht]
    simp

/-- In Roomy's first loop; the room's block is the first behind wC. -/
structure RMid (wC : World) (l : List Nd) (k : Nat) (vw vf vk : Value) (p : List (Nd × Value)) (ks : List Value) (wr : World) : Prop where
  blk : wr.heap[wC.heap.size]? = some (.cells #[vw, vf, vk] 96 (0, 0))
  full : OwnP wr (wC.heap.size + 1) vf p
  nodes : p.map (·.1) = l.take k
  klist : wr.ownsRow (wC.heap.size + 1) 48 1 vk k ks
  kids : ∀ i, i < k → OwnI wr (wC.heap.size + 1) (ks.getD i (.slice none 0 0)) ((l.getD i nd0).kids ++ spL 7)
  bel : Below wC.heap.size wC wr
  ap : KdAp p

theorem RMid.below {wC wr w' : World} {l : List Nd} {k : Nat} {vw vf vk : Value} {p : List (Nd × Value)} {ks : List Value} (h : RMid wC l k vw vf vk p ks wr) (hb : Below wr.heap.size wr w') : RMid wC l k vw vf vk p ks w' :=
  ⟨(hb.block _ (lt_of_block h.blk)).trans h.blk, h.full.below hb, h.nodes, ownsRow_below h.klist hb, fun i hi => (h.kids i hi).below hb, h.bel.trans (hb.mono h.bel.size), h.ap⟩

/-- One list of numbers more. -/
theorem RMid.addKids {wC wr w1 : World} {l : List Nd} {k : Nat} {vw vf vk vk' v : Value} {p : List (Nd × Value)} {ks : List Value} {o : Obj}
    (h : RMid wC l k vw vf vk p ks wr) (hv : OwnI wr (wC.heap.size + 1) v ((l.getD k nd0).kids ++ spL 7)) (hlen : ks.length = k)
    (hown : w1.ownsRow (wC.heap.size + 1) 48 1 vk' (k + 1) (ks ++ [v])) (hg : (wr.alloc o).grownBy w1 vk.ownBlock) :
    (w1.setCell ⟨wC.heap.size, 2, none⟩ vk').heap[wC.heap.size]? = some (.cells #[vw, vf, vk'] 96 (0, 0)) ∧
    OwnP (w1.setCell ⟨wC.heap.size, 2, none⟩ vk') (wC.heap.size + 1) vf p ∧
    (w1.setCell ⟨wC.heap.size, 2, none⟩ vk').ownsRow (wC.heap.size + 1) 48 1 vk' (k + 1) (ks ++ [v]) ∧
    (∀ i, i < k + 1 → OwnI (w1.setCell ⟨wC.heap.size, 2, none⟩ vk') (wC.heap.size + 1) ((ks ++ [v]).getD i (.slice none 0 0)) ((l.getD i nd0).kids ++ spL 7)) ∧
    Below wC.heap.size wC (w1.setCell ⟨wC.heap.size, 2, none⟩ vk') ∧
    (∀ b, b < wr.heap.size → b ≠ wC.heap.size → vk.ownBlock ≠ some b → (w1.setCell ⟨wC.heap.size, 2, none⟩ vk').heap[b]? = wr.heap[b]?) := by
  have hR := lt_of_block h.blk
  have keep : ∀ b, b < wr.heap.size → b ≠ wC.heap.size → vk.ownBlock ≠ some b → (w1.setCell ⟨wC.heap.size, 2, none⟩ vk').heap[b]? = wr.heap[b]? := fun b hb h1 h2 => by
    rw [Deep.blk_setCell_other _ _ _ _ h1, hg.block b (by rw [World.size_alloc]; omega) (fun e => h2 e.symm)]
    exact Deep.blk_alloc_lt _ _ _ hb
  have hneT : ∀ {e : TypeId} {s n : Nat} {v : Value} {xs : List Value}, wr.ownsRow (wC.heap.size + 1) e s v n xs → e ≠ 48 → (w1.setCell ⟨wC.heap.size, 2, none⟩ vk').ownsRow (wC.heap.size + 1) e s v n xs := fun hr hne => by
    refine rm_same hr fun b hb => keep b (rm_block hr b hb).2 (by have := (rm_block hr b hb).1; omega) (fun e => ?_)
    rcases ownBlock_ne hr h.klist hne with h1 | h1
    · rw [h1] at hb; cases hb
    · exact h1 (hb.trans e.symm)
  have hb1 : w1.heap[wC.heap.size]? = wr.heap[wC.heap.size]? := by
    rw [hg.block wC.heap.size (by rw [World.size_alloc]; omega) (fun e => by have := (rm_block h.klist _ e.symm).1; omega)]
    exact Deep.blk_alloc_lt _ _ _ hR
  refine ⟨?_, ⟨hneT h.full.row (by decide), fun q hq => hneT (h.full.kids q hq) (by decide)⟩, ?_, fun i hi => ?_, ?_, keep⟩
  · have := heap_setCell_same w1 wC.heap.size 2 _ _ vk' (hb1.trans h.blk)
    simpa using this
  · refine rm_same hown fun b hb => Deep.blk_setCell_other _ _ _ _ ?_
    have := (rm_block hown b hb).1
    show b ≠ wC.heap.size
    omega
  · by_cases hlt : i < k
    · have e1 : (ks ++ [v]).getD i (.slice none 0 0) = ks.getD i (.slice none 0 0) := by simp only [List.getD_eq_getElem?_getD]; rw [List.getElem?_append_left (by omega)]
      rw [e1]
      exact hneT (h.kids i hlt) (by decide)
    · have he : i = k := by omega
      subst he
      have e1 : (ks ++ [v]).getD i (.slice none 0 0) = v := by rw [← hlen]; simp
      rw [e1]
      exact hneT hv (by decide)
  · have hb2 : Below wC.heap.size wC w1 := (h.bel.alloc (by omega) _).grown hg (by rw [World.size_alloc]; omega) (fun b hb => by have := (rm_block h.klist b hb).1; omega)
    exact hb2.setCell (Nat.le_refl _) _

theorem ownP_same {w w' : World} {base R : Nat} {v : Value} {p : List (Nd × Value)} {u : Value} {o : Nat} (h : OwnP w base v p) (hR : R < base) (hw : w' = w.setCell ⟨R, o, none⟩ u) : OwnP w' base v p := by
  subst hw
  exact ⟨rm_same h.row fun b hb => Deep.blk_setCell_other _ _ _ _ (by have := (rm_block h.row b hb).1; show b ≠ R; omega), fun q hq => rm_same (h.kids q hq) fun b hb => Deep.blk_setCell_other _ _ _ _ (by have := (rm_block (h.kids q hq) b hb).1; show b ≠ R; omega)⟩

/-- One node more. -/
theorem RMid.addNode {wC w6 w7 : World} {l : List Nd} {k : Nat} {vw vf vf' vk kv : Value} {p : List (Nd × Value)} {ks : List Value} {o : Obj} {x : Nd}
    (blk : w6.heap[wC.heap.size]? = some (.cells #[vw, vf, vk] 96 (0, 0))) (full : OwnP w6 (wC.heap.size + 1) vf p) (nodes : p.map (·.1) = l.take k) (hk : k < l.length) (hx : l.getD k nd0 = x)
    (klist : w6.ownsRow (wC.heap.size + 1) 48 1 vk (k + 1) ks) (kids : ∀ i, i < k + 1 → OwnI w6 (wC.heap.size + 1) (ks.getD i (.slice none 0 0)) ((l.getD i nd0).kids ++ spL 7)) (bel : Below wC.heap.size wC w6) (hap : KdAp (p ++ [(x, kv)]))
    (hkv : OwnI w6 (wC.heap.size + 1) kv x.kids) (hown : w7.ownsRow (wC.heap.size + 1) 50 4 vf' (p.length + 1) (ndCells p ++ [.int .i64 x.op, .int .i64 x.n, .string x.name, kv])) (hg : (w6.alloc o).drew.grownBy w7 vf.ownBlock) :
    RMid wC l (k + 1) vw vf' vk (p ++ [(x, kv)]) ks (w7.setCell ⟨wC.heap.size, 1, none⟩ vf') := by
  have hR := lt_of_block blk
  have b0 : Below w6.heap.size w6 (w6.alloc o).drew := ((Below.refl _ _).alloc (Nat.le_refl _) _).drew
  have full0 := full.below b0
  have hf7 := OwnP.snoc full0 (x := x) (hkv.below b0) hown hg
  have hneT : ∀ {e : TypeId} {s n : Nat} {v : Value} {xs : List Value}, w6.ownsRow (wC.heap.size + 1) e s v n xs → e ≠ 50 → (w7.setCell ⟨wC.heap.size, 1, none⟩ vf').ownsRow (wC.heap.size + 1) e s v n xs := fun hr hne => by
    have h1 := World.ownsRow.kept (ownsRow_below hr b0) hg (ownBlock_ne (ownsRow_below hr b0) full0.row hne)
    refine rm_same h1 fun b hb => Deep.blk_setCell_other _ _ _ _ ?_
    have := (rm_block h1 b hb).1
    show b ≠ wC.heap.size
    omega
  have hs0 : (w6.alloc o).drew.heap.size = w6.heap.size + 1 := World.size_alloc _ _
  have hb7 : w7.heap[wC.heap.size]? = w6.heap[wC.heap.size]? := by
    rw [hg.block wC.heap.size (by omega) (fun e => by have := (rm_block full.row _ e.symm).1; omega)]
    exact Deep.blk_alloc_lt _ _ _ hR
  refine ⟨?_, ownP_same hf7 (by omega) rfl, ?_, hneT klist (by decide), fun i hi => hneT (kids i hi) (by decide), ?_, hap⟩
  · have := heap_setCell_same w7 wC.heap.size 1 _ _ vf' (hb7.trans blk)
    simpa using this
  · have e : l.take (k + 1) = l.take k ++ [l.getD k nd0] := by rw [List.take_succ_eq_append_getElem hk]; simp [hk]
    rw [e, List.map_append, nodes, hx]; rfl
  · have hb2 : Below wC.heap.size wC w7 := (bel.trans (b0.mono bel.size)).grown hg (by rw [hs0]; have := bel.size; omega) (fun b hb => by have := (rm_block full.row b hb).1; omega)
    exact hb2.setCell (Nat.le_refl _) _
end Go.Proofs.YtfdghbbanokopaaDoor

set_option linter.unusedSimpArgs false
set_option linter.unusedVariables false
namespace Go.Proofs.YtfdghbbanokopaaDoor
open Go.RowKit Go.Lib

/-- One cell of an owned row is set. -/
theorem own_put {w : World} {base : Nat} {e : TypeId} {s n g cap : Nat} {xs : List Value} {i : Nat} {u : Value} (h : w.ownsRow base e s (.slice (some ⟨g, 0, none⟩) n cap) n xs) (hi : i < xs.length) : (w.setCell ⟨g, i, none⟩ u).ownsRow base e s (.slice (some ⟨g, 0, none⟩) n cap) n (xs.set i u) := by
  obtain ⟨h1, h2⟩ := h
  refine ⟨by simpa using h1, ?_⟩
  rcases h2 with ⟨h2, _⟩ | ⟨g', cap', cur, h3, hb, hg, hn, hm, hs, ht⟩
  · cases h2
  · cases h3
    refine .inr ⟨g, cap, cur.setIfInBounds i u, rfl, hb, heap_setCell_same w g i cur e u hg, hn, hm, by simpa using hs, ?_⟩
    rw [← ht]
    simp [List.take_set]

theorem own_block' {w : World} {base : Nat} {e : TypeId} {s n : Nat} {v : Value} {xs : List Value} (h : w.ownsRow base e s v n xs) : ∀ b, v.ownBlock = some b → base ≤ b ∧ b < w.heap.size := by
  intro b hb
  rcases h.2 with ⟨rfl, _⟩ | ⟨g, cap, cur, rfl, h1, h2, _⟩
  · cases hb
  · simp [Value.ownBlock] at hb; subst hb; exact ⟨h1, lt_of_block h2⟩
theorem own_same' {w w' : World} {base : Nat} {e : TypeId} {s n : Nat} {v : Value} {xs : List Value} (h : w.ownsRow base e s v n xs) (hb : ∀ b, v.ownBlock = some b → w'.heap[b]? = w.heap[b]?) : w'.ownsRow base e s v n xs := by
  rcases h with ⟨h1, h2⟩
  refine ⟨h1, ?_⟩
  rcases h2 with h2 | ⟨g, cap, cur, rfl, hg, h3, r⟩
  · exact .inl h2
  · exact .inr ⟨g, cap, cur, rfl, hg, (hb g rfl).trans h3, r⟩
theorem row_form' {w : World} {base : Nat} {e : TypeId} {s n : Nat} {v : Value} {xs : List Value} (h : w.ownsRow base e s v n xs) : ∃ ao cap, v = .slice ao n cap := by
  rcases h.2 with ⟨rfl, h0⟩ | ⟨g', cap', cur, rfl, _⟩
  · exact ⟨none, 0, by rw [h0]⟩
  · exact ⟨_, _, rfl⟩

theorem own_set' {w : World} {base p o : Nat} {e : TypeId} {s n : Nat} {v u : Value} {xs : List Value} (h : w.ownsRow base e s v n xs) (hp : v.ownBlock ≠ some p) : (w.setCell ⟨p, o, none⟩ u).ownsRow base e s v n xs :=
  own_same' h fun b hb => Deep.blk_setCell_other _ _ _ _ (by show b ≠ p; intro e; subst e; exact hp hb)

/-- The names' list, the number to stop at: where the function finds them. -/
structure Cst (w : World) (A Sb Nb : Nat) (stop : Int) (na : Option Addr) (nc : Nat) (names : List ByteArray) : Prop where
  sb : Sb < A
  nb : Nb < A
  stopC : w.cell? ⟨Sb, 0, none⟩ = some (.int .i64 stop)
  namesC : w.cell? ⟨Nb, 0, none⟩ = some (.slice na names.length nc)
  len : names.length ≤ nc ∧ nc ≤ maxLen
  row : names = [] ∨ ∃ b o, na = some ⟨b, o, none⟩ ∧ b < A ∧ ∀ j, j < names.length → w.cell? ⟨b, o + j, none⟩ = some (.string (names.getD j ⟨#[]⟩))
theorem Cst.below {w w' : World} {A Sb Nb : Nat} {stop : Int} {na : Option Addr} {nc : Nat} {names : List ByteArray} (h : Cst w A Sb Nb stop na nc names) (hb : Below A w w') : Cst w' A Sb Nb stop na nc names :=
  ⟨h.sb, h.nb, (hb.cell (p := ⟨Sb, 0, none⟩) h.sb).trans h.stopC, (hb.cell (p := ⟨Nb, 0, none⟩) h.nb).trans h.namesC, h.len, by
    rcases h.row with h | ⟨b, o, e, hlt, hc⟩
    · exact .inl h
    · exact .inr ⟨b, o, e, hlt, fun j hj => (hb.cell (p := ⟨b, o + j, none⟩) hlt).trans (hc j hj)⟩⟩

/-- What has been asked. -/
structure AskAt (w : World) (A : Nat) (va : Value) (qs : List ByteArray) : Prop where
  blk : w.heap[A]? = some (.cells #[va] 33 (0, 0))
  row : w.ownsRow (A + 1) 9 1 va qs.length (qs.map Value.string)
theorem AskAt.below {w w' : World} {A : Nat} {va : Value} {qs : List ByteArray} (h : AskAt w A va qs) (hb : Below w.heap.size w w') : AskAt w' A va qs :=
  ⟨(hb.block _ (lt_of_block h.blk)).trans h.blk, ownsRow_below h.row hb⟩

theorem row_cell {w : World} {base : Nat} {e : TypeId} {v : Value} {n : Nat} {xs : List Value} (h : w.ownsRow base e 1 v n xs) {i : Nat} (hi : i < n) {d : Value} : ∃ g cap, v = .slice (some ⟨g, 0, none⟩) n cap ∧ g < w.heap.size ∧ n ≤ cap ∧ cap ≤ maxLen ∧ w.cell? ⟨g, i, none⟩ = some (xs.getD i d) := by
  obtain ⟨h1, h2⟩ := h
  rcases h2 with ⟨rfl, h0⟩ | ⟨g, cap, cur, rfl, hb, hg, hn, hm, hs, ht⟩
  · omega
  · refine ⟨g, cap, rfl, lt_of_block hg, hn, hm, ?_⟩
    have hc : w.cell? ⟨g, i, none⟩ = cur[i]? := by simp [World.cell?, hg]
    rw [hc, ← Array.getElem?_toList]
    have e : cur.toList[i]? = (cur.toList.take (n * 1))[i]? := by rw [List.getElem?_take, if_pos (by omega)]
    rw [e, ht]
    simp [show i < xs.length by omega]
end Go.Proofs.YtfdghbbanokopaaDoor
