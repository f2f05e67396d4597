/-
  Add, walked.
-/
import Derived.Test.YtjidockolacghaaDoorTbW8
import Derived.Laws.OwnMore
set_option linter.unusedSimpArgs false
set_option linter.unusedVariables false
namespace Go.Proofs.YtjidockolacghaaDoor
open Go.RowKit Go.Lib Go.Sort Go.Maps

theorem stA_putS (L : List Nd) (ids : List Nat) (x : Nd) : stA (L, ids) x = if (putS L (adN ids x)).2.1 = 0 then some ((putS L (adN ids x)).2.2, ids ++ [(putS L (adN ids x)).1]) else none := by
  unfold stA putS
  simp only
  cases ixL L (adN ids x) with
  | some i => simp
  | none =>
    simp only
    split <;> simp
theorem putS_err (L : List Nd) (x : Nd) : (putS L x).2.1 = 0 ∨ (putS L x).2.1 = 10 ∧ (putS L x).2.2 = L ∧ 1048576 ≤ L.length := by
  unfold putS
  cases ixL L x with
  | some i => simp
  | none =>
    simp only
    split
    · simp
    · right; exact ⟨rfl, rfl, by omega⟩
theorem TbM.typed {w : World} {p : Nat} {ev mv : Value} {L : List Nd} (h : TbM w p ev mv L) {b : Nat} {cur : Array Value} {e : TypeId} {fr : Nat × Nat} (hb : w.heap[b]? = some (.cells cur e fr)) (h1 : e ≠ 80) (h2 : e ≠ 91) : ¬ TbS p ev mv b := by
  rintro (rfl | hr | hm)
  · rw [h.blk] at hb
    injection hb with hb
    injection hb with _ hb
    exact h1 hb.symm
  · obtain ⟨_, _, cap, cu, _, h3, _⟩ := rw_block h.on hr
    rw [h3] at hb
    injection hb with hb
    injection hb with _ hb
    exact h2 hb.symm
  · rcases h.ids with ⟨h3, _⟩ | ⟨B, h3, _, h4⟩
    · rw [h3] at hm; cases hm
    · rw [h3] at hm
      cases hm
      obtain ⟨es, c, h5⟩ := h4.obj
      rw [h5] at hb; cases hb
theorem own_tb {w w' : World} {p : Nat} {ev mv : Value} {L : List Nd} (h : TbM w p ev mv L) (ht : Tk (TbS p ev mv) w w') {base : Nat} {e : TypeId} {s n : Nat} {v : Value} {xs : List Value} (ho : w.ownsRow base e s v n xs) (h1 : e ≠ 80) (h2 : e ≠ 91) : w'.ownsRow base e s v n xs :=
  rw_same ho (fun b hb => by
    obtain ⟨_, h3, cap, cu, _, h4, _⟩ := rw_block ho hb
    exact ht.same b h3 (h.typed h4 h1 h2))
theorem OwnI.tb {w w' : World} {p : Nat} {ev mv : Value} {L : List Nd} (h : TbM w p ev mv L) (ht : Tk (TbS p ev mv) w w') {base : Nat} {v : Value} {ks : List Int} (ho : OwnI w base v ks) : OwnI w' base v ks := own_tb h ht ho (by decide) (by decide)
theorem OwnP.tb {w w' : World} {p : Nat} {ev mv : Value} {L : List Nd} (h : TbM w p ev mv L) (ht : Tk (TbS p ev mv) w w') {base : Nat} {v : Value} {q : List (Nd × Value)} (ho : OwnP w base v q) : OwnP w' base v q :=
  ⟨own_tb h ht ho.row (by decide) (by decide), fun y hy => (ho.kids y hy).tb h ht⟩
theorem OwnN.tb {w w' : World} {p : Nat} {ev mv : Value} {L : List Nd} (h : TbM w p ev mv L) (ht : Tk (TbS p ev mv) w w') {base : Nat} {v : Value} {l : List Nd} (ho : OwnN w base v l) : OwnN w' base v l := let ⟨q, h1, h2⟩ := ho; ⟨q, h1, h2.tb h ht⟩
theorem OwnI.cellT {w : World} {base g n cap : Nat} {ks : List Int} (h : OwnI w base (.slice (some ⟨g, 0, none⟩) n cap) ks) (hn : ks.length = n) {i : Nat} (hi : i < n) : w.cell? ⟨g, i, none⟩ = some (.int .i64 (ks.getD i 0)) := by
  subst hn
  obtain ⟨u, h1, h2⟩ := rw_cell h (i := i) (by omega)
  rw [h1, ← h2]
  simp [hi]
theorem OwnI.frT {w : World} {base g n cap : Nat} {ks : List Int} (h : OwnI w base (.slice (some ⟨g, 0, none⟩) n cap) ks) (hn : ks.length = n) (i : Nat) : w.frozen? ⟨g, i, none⟩ = false := by
  subst hn; exact rw_fro h i
theorem OwnI.putT {w : World} {base g n cap : Nat} {ks : List Int} (h : OwnI w base (.slice (some ⟨g, 0, none⟩) n cap) ks) (hn : ks.length = n) (i : Nat) (x : Int) : OwnI (w.setCell ⟨g, i, none⟩ (.int .i64 x)) base (.slice (some ⟨g, 0, none⟩) n cap) (ks.set i x) := by
  subst hn
  have := rw_put h i (.int .i64 x)
  unfold OwnI
  rw [List.length_set, List.map_set]
  exact this
theorem made_zerosT (n : Nat) : (madeCells (Value.int .i64 0).cells (n * 1)).toList = (List.replicate n (0 : Int)).map (Value.int .i64) := by
  apply List.ext_getElem
  · simp [madeCells]
  · intro i h1 h2
    simp [madeCells, Value.cells, Nat.mod_one]

/-- The kids of a shape while they are turned into numbers. -/
def mixK (ids : List Nat) (ks : List Int) (k j : Nat) : Int := if j < k then ((ids.getD (ks.getD j 0).toNat 0 : Nat) : Int) else ks.getD j 0
theorem mixK_zero (ids : List Nat) (ks : List Int) (j : Nat) : mixK ids ks 0 j = ks.getD j 0 := by simp [mixK]
theorem mixK_end (ids : List Nat) (x : Nd) (j : Nat) : mixK ids x.kids x.kids.length j = (adN ids x).kids.getD j 0 := by
  unfold mixK adN
  simp only
  split
  · rename_i h; simp [h]
  · rename_i h
    rw [List.getD_eq_getElem?_getD, List.getElem?_eq_none (by omega), List.getD_eq_getElem?_getD, List.getElem?_eq_none (by simp; omega)]
def mixC (op n : Int) (nm : ByteArray) (ids : List Nat) (ks : List Int) (k : Nat) : Array Value := #[.int .i64 op, .int .i64 n, .string nm, .int .i64 (mixK ids ks k 0), .int .i64 (mixK ids ks k 1), .int .i64 (mixK ids ks k 2)]
theorem mixC_set (op n : Int) (nm : ByteArray) (ids : List Nat) (ks : List Int) (k : Nat) (hk : k < 3) : (mixC op n nm ids ks k).setIfInBounds (3 + k) (.int .i64 ((ids.getD (ks.getD k 0).toNat 0 : Nat) : Int)) = mixC op n nm ids ks (k + 1) := by
  match k, hk with
  | 0, _ => simp [mixC, mixK]
  | 1, _ => simp [mixC, mixK]
  | 2, _ => simp [mixC, mixK]
  | k + 3, h => omega
/-- The inner loop of Add. -/
structure MixM (wc : World) (sb : Nat) (op n : Int) (nm : ByteArray) (ids : List Nat) (ks : List Int) (k : Nat) (wk : World) : Prop where
  blk : wk.heap[sb]? = some (.cells (mixC op n nm ids ks k) 89 (0, 0))
  bel : Below sb wc wk
theorem MixM.step {wc : World} {sb : Nat} {op n : Int} {nm : ByteArray} {ids : List Nat} {ks : List Int} {k : Nat} {wk : World} (h : MixM wc sb op n nm ids ks k wk) (hk : k < 3) : MixM wc sb op n nm ids ks (k + 1) (wk.setCell ⟨sb, 3 + k, none⟩ (.int .i64 ((ids.getD (ks.getD k 0).toNat 0 : Nat) : Int))) := by
  refine ⟨?_, h.bel.setCell (p := ⟨sb, 3 + k, none⟩) (Nat.le_refl _) _⟩
  have := heap_setCell_same wk sb (3 + k) _ 89 (.int .i64 ((ids.getD (ks.getD k 0).toNat 0 : Nat) : Int)) h.blk
  rw [mixC_set _ _ _ _ _ _ hk] at this
  exact this
theorem MixM.cell {wc : World} {sb : Nat} {op n : Int} {nm : ByteArray} {ids : List Nat} {ks : List Int} {k : Nat} {wk : World} (h : MixM wc sb op n nm ids ks k wk) (hk : k < 3) : wk.cell? ⟨sb, 3 + k, none⟩ = some (.int .i64 (ks.getD k 0)) ∧ wk.frozen? ⟨sb, 3 + k, none⟩ = false := by
  have hb := h.blk
  refine ⟨?_, by simp [World.frozen?, hb]⟩
  match k, hk with
  | 0, _ => simp [World.cell?, hb, mixC, mixK]
  | 1, _ => simp [World.cell?, hb, mixC, mixK]
  | 2, _ => simp [World.cell?, hb, mixC, mixK]
  | k + 3, h => omega

/-- Nodes whose kids lie below a block. -/
def ArgO (z : Nat) (w : World) (base : Nat) (vs : Value) (l : List Nd) : Prop := ∃ q : List (Nd × Value), q.map (·.1) = l ∧ OwnP w base vs q ∧ ∀ y ∈ q, ∀ b, y.2.ownBlock = some b → b < z
theorem ArgO.of {w : World} {base : Nat} {vs : Value} {l : List Nd} (h : OwnN w base vs l) : ArgO w.heap.size w base vs l := by
  obtain ⟨q, h1, h2⟩ := h
  exact ⟨q, h1, h2, fun y hy b hb => (rw_block (h2.kids y hy) hb).2.1⟩
theorem ArgO.own {z : Nat} {w : World} {base : Nat} {vs : Value} {l : List Nd} (h : ArgO z w base vs l) : OwnN w base vs l := let ⟨q, h1, h2, _⟩ := h; ⟨q, h1, h2⟩
theorem ArgO.below {z : Nat} {w w' : World} {base : Nat} {vs : Value} {l : List Nd} (h : ArgO z w base vs l) (hb : Below w.heap.size w w') : ArgO z w' base vs l := let ⟨q, h1, h2, h3⟩ := h; ⟨q, h1, h2.below hb, h3⟩
theorem ArgO.tb {w w' : World} {p : Nat} {ev mv : Value} {L : List Nd} (h : TbM w p ev mv L) (ht : Tk (TbS p ev mv) w w') {z base : Nat} {v : Value} {l : List Nd} (ho : ArgO z w base v l) : ArgO z w' base v l := let ⟨q, h1, h2, h3⟩ := ho; ⟨q, h1, h2.tb h ht, h3⟩
/-- Add between two rounds. -/
structure AdMid (w : World) (p : Nat) (ev mv : Value) (L l : List Nd) (base : Nat) (vs : Value) (G : Nat) (k : Nat) (wr : World) (Lk : List Nd) (ids : List Nat) : Prop where
  run : addR (L, []) (l.take k) = some (Lk, ids)
  len : ids.length = k
  tb : ∃ ev' mv', TbT w p ev mv ev' mv' Lk wr
  arg : ArgO w.heap.size wr base vs l
  row : OwnI wr w.heap.size (.slice (some ⟨G, 0, none⟩) l.length l.length) (ids.map (fun i => ((i : Nat) : Int)) ++ List.replicate (l.length - k) 0)
theorem adm_ids {ids : List Nat} {n k j : Nat} (hl : ids.length = k) (hj : j < k) : (ids.map (fun i => ((i : Nat) : Int)) ++ List.replicate (n - k) 0).getD j 0 = ((ids.getD j 0 : Nat) : Int) := by
  rw [List.getD_eq_getElem?_getD, List.getElem?_append_left (by simp; omega)]
  simp [show j < ids.length by omega]
theorem adm_set {ids : List Nat} {n k : Nat} (i : Nat) (hl : ids.length = k) (hk : k < n) : (ids.map (fun i => ((i : Nat) : Int)) ++ List.replicate (n - k) 0).set k ((i : Nat) : Int) = (ids ++ [i]).map (fun i => ((i : Nat) : Int)) ++ List.replicate (n - (k + 1)) 0 := by
  rw [List.set_append_right _ _ (by simp; omega)]
  have e : n - k = (n - (k + 1)) + 1 := by omega
  simp [hl, e, List.replicate_succ]
theorem adm_len {ids : List Nat} {n k : Nat} (hl : ids.length = k) (hk : k ≤ n) : (ids.map (fun i => ((i : Nat) : Int)) ++ List.replicate (n - k) 0).length = n := by simp; omega
/-- A round that put its node in. -/
theorem AdMid.next {w wr wk w' : World} {p : Nat} {ev mv : Value} {L l : List Nd} {base : Nat} {vs : Value} {G k : Nat} {Lk : List Nd} {ids : List Nat} {ev' mv' ev'' mv'' : Value} {L' : List Nd} {i : Nat} (h : AdMid w p ev mv L l base vs G k wr Lk ids) (hk : k < l.length) (ht : TbT w p ev mv ev' mv' Lk wr) (hb : Below wr.heap.size wr wk) (hp : TbT wk p ev' mv' ev'' mv'' L' w') (hs : stA (Lk, ids) (l.getD k nd0) = some (L', ids ++ [i])) :
    AdMid w p ev mv L l base vs G (k + 1) (w'.setCell ⟨G, k, none⟩ (.int .i64 (i : Nat))) L' (ids ++ [i]) := by
  have htk := ht.tb.below hb
  have hrow : OwnI w' w.heap.size (.slice (some ⟨G, 0, none⟩) l.length l.length) (ids.map (fun i => ((i : Nat) : Int)) ++ List.replicate (l.length - k) 0) := (h.row.below hb).tb htk hp.tk
  have hG := rw_block hrow (b := G) rfl
  obtain ⟨hG1, hG2, capG, curG, _, hG3, _⟩ := hG
  refine ⟨?_, by simp [h.len], ⟨ev'', mv'', ?_⟩, ?_, ?_⟩
  · rw [addR_snoc _ _ hk, h.run]; exact hs
  · have h1 := (ht.trans (TbT.of_below ht.tb hb)).trans hp
    refine ⟨h1.tb.same fun b hb' hs' => ?_, h1.tk.trans (Tk.set (S := fun b => b = G) (b := G) (o := k) rfl) (fun b e => .inr (by have : b = G := e; omega)), h1.yo⟩
    exact Deep.blk_setCell_other _ _ _ _ (fun e => by
      have e2 : b = G := e
      subst e2
      exact h1.tb.typed hG3 (by decide) (by decide) hs')
  · have h1 := (h.arg.below hb).tb htk hp.tk
    obtain ⟨q, hq1, hq2, hq3⟩ := h1
    refine ⟨q, hq1, ⟨rw_same hq2.row (fun b hb' => ?_), fun y hy => ?_⟩, hq3⟩
    · obtain ⟨_, _, c, cu, _, h3, _⟩ := rw_block hq2.row hb'
      exact Deep.blk_setCell_other _ _ _ _ (fun e => by
        have e2 : b = G := e
        subst e2
        rw [hG3] at h3
        simp at h3)
    · refine rw_same (hq2.kids y hy) (fun b hb' => Deep.blk_setCell_other _ _ _ _ (fun e => ?_))
      have e2 : b = G := e
      have := hq3 y hy b hb'
      omega
  · have := hrow.putT (adm_len h.len (by omega)) k ((i : Nat) : Int)
    rw [adm_set i h.len hk] at this
    exact this
end Go.Proofs.YtjidockolacghaaDoor
