/-
  Writing an entry's expression behind others: plain facts, and the memory of it.
-/
import Derived.Test.YtjidockolacghaaDoorTbA2
set_option linter.unusedSimpArgs false
set_option linter.unusedVariables false
namespace Go.Proofs.YtjidockolacghaaDoor
open Go.RowKit Go.Lib Go.Sort Go.Maps

def KUp (l : List Nd) : Prop := ∀ x ∈ l, ∀ k ∈ x.kids, 0 ≤ k
theorem mvN_up {x : Nd} {m d : Nat} (h : ∀ k ∈ x.kids, 0 ≤ k) : mvN 0 (d : Int) (mvN 0 (m : Int) x) = mvN 0 ((d + m : Nat) : Int) x := by
  unfold mvN
  simp only [List.map_map, Nd.mk.injEq, true_and]
  refine List.map_congr_left fun k hk => ?_
  have := h k hk
  simp only [Function.comp]
  unfold mvK
  rw [if_pos this, if_pos (by omega), if_pos this]
  omega
theorem map_up {l : List Nd} {m d : Nat} (h : KUp l) : (l.map (mvN 0 (m : Int))).map (mvN 0 (d : Int)) = l.map (mvN 0 ((d + m : Nat) : Int)) := by
  rw [List.map_map]
  exact List.map_congr_left fun x hx => mvN_up (h x hx)
theorem kup_mv {l : List Nd} {m : Nat} (h : KUp l) : KUp (l.map (mvN 0 (m : Int))) := by
  intro x hx k hk
  simp only [List.mem_map] at hx
  obtain ⟨y, hy, rfl⟩ := hx
  unfold mvN at hk
  simp only [List.mem_map] at hk
  obtain ⟨j, hj, rfl⟩ := hk
  have := h y hy j hj
  unfold mvK
  rw [if_pos this]; omega
theorem acc_up (ps : List (List Nd)) (h : ∀ p ∈ ps, KUp p ∧ 1 ≤ p.length) : KUp (accS ps).1 ∧ ∀ k ∈ (accS ps).2, 0 ≤ k := by
  have key : ∀ (qs rs : List (List Nd)), (∀ p ∈ qs, KUp p ∧ 1 ≤ p.length) → (KUp (accS rs).1 ∧ ∀ k ∈ (accS rs).2, 0 ≤ k) → (KUp (accS (rs ++ qs)).1 ∧ ∀ k ∈ (accS (rs ++ qs)).2, 0 ≤ k) := by
    intro qs
    induction qs with
    | nil => intro rs _ h; simpa using h
    | cons q qs ih =>
      intro rs hq h
      have e : rs ++ q :: qs = (rs ++ [q]) ++ qs := by simp
      rw [e]
      refine ih (rs ++ [q]) (fun p hp => hq p (by simp [hp])) ?_
      rw [accS_snoc]
      refine ⟨fun x hx => ?_, fun k hk => ?_⟩
      · rcases List.mem_append.1 hx with hx | hx
        · exact h.1 x hx
        · exact kup_mv (hq q (by simp)).1 x hx
      · rcases List.mem_append.1 hk with hk | hk
        · exact h.2 k hk
        · simp at hk
          have := (hq q (by simp)).2
          omega
  simpa using key ps [] h ⟨by intro x hx; simp [accS_nil] at hx, by intro k hk; simp [accS_nil] at hk⟩
theorem join_mv (op n : Int) (nm : ByteArray) (ps : List (List Nd)) (d : Nat) (h : ∀ k ∈ (accS ps).2, 0 ≤ k) : (joinL op n nm ps).map (mvN 0 (d : Int)) = (accS ps).1.map (mvN 0 (d : Int)) ++ [⟨op, n, nm, (accS ps).2.map (· + (d : Int))⟩] := by
  unfold joinL
  rw [List.map_append]
  congr 1
  simp only [List.map_cons, List.map_nil, mvN, List.cons.injEq, and_true, Nd.mk.injEq, true_and]
  refine List.map_congr_left fun k hk => ?_
  have := h k hk
  unfold mvK
  rw [if_pos this]
theorem exA_up {L : List Nd} (h : TbI L) : ∀ i, i < L.length → KUp (exA L i) ∧ 1 ≤ (exA L i).length := by
  intro i
  induction i using Nat.strongRecOn with
  | ind i ih =>
    intro hi
    rw [exA_at h hi]
    have hp : ∀ p ∈ (edA L i).kids.map (fun k => exA L k.toNat), KUp p ∧ 1 ≤ p.length := fun p hp => by
      simp only [List.mem_map] at hp
      obtain ⟨k, hk, rfl⟩ := hp
      have := h.kids i hi k hk
      exact ih k.toNat (by omega) (by omega)
    obtain ⟨h1, h2⟩ := acc_up _ hp
    refine ⟨fun x hx => ?_, by rw [joinL_len]; omega⟩
    unfold joinL at hx
    rcases List.mem_append.1 hx with hx | hx
    · exact h1 x hx
    · simp at hx
      subst hx
      exact h2
/-- The parts of an entry. -/
def ptL (L : List Nd) (i : Nat) : List (List Nd) := (edA L i).kids.map fun k => exA L k.toNat
theorem ptL_len (L : List Nd) (i : Nat) : (ptL L i).length = (edA L i).kids.length := by simp [ptL]
theorem ptL_at (L : List Nd) {i j : Nat} (hj : j < (edA L i).kids.length) : (ptL L i).getD j [] = exA L ((edA L i).kids.getD j 0).toNat := by
  simp [ptL, hj]
theorem ptL_up {L : List Nd} (h : TbI L) {i : Nat} (hi : i < L.length) : ∀ p ∈ ptL L i, KUp p ∧ 1 ≤ p.length := fun p hp => by
  unfold ptL at hp
  simp only [List.mem_map] at hp
  obtain ⟨k, hk, rfl⟩ := hp
  have := h.kids i hi k hk
  exact exA_up h k.toNat (by omega)
theorem exA_pt {L : List Nd} (h : TbI L) {i : Nat} (hi : i < L.length) (d : Nat) : (exA L i).map (mvN 0 (d : Int)) = (accS (ptL L i)).1.map (mvN 0 (d : Int)) ++ [⟨(edA L i).op, (edA L i).n, (edA L i).name, (accS (ptL L i)).2.map (· + (d : Int))⟩] := by
  rw [exA_at h hi]
  exact join_mv _ _ _ _ _ (acc_up _ (ptL_up h hi)).2
/-- One part more. -/
theorem acc_next {ps : List (List Nd)} {j : Nat} (hj : j < ps.length) (d : Nat) (hu : KUp (ps.getD j [])) :
    (accS (ps.take (j + 1))).1.map (mvN 0 (d : Int)) = (accS (ps.take j)).1.map (mvN 0 (d : Int)) ++ (ps.getD j []).map (mvN 0 ((d + (accS (ps.take j)).1.length : Nat) : Int)) ∧
    (accS (ps.take (j + 1))).2.map (· + (d : Int)) = (accS (ps.take j)).2.map (· + (d : Int)) ++ [((d + (accS (ps.take j)).1.length + (ps.getD j []).length : Nat) : Int) - 1] := by
  have e : ps.take (j + 1) = ps.take j ++ [ps.getD j []] := by rw [List.take_succ_eq_append_getElem hj]; simp [hj]
  rw [e, accS_snoc]
  refine ⟨?_, ?_⟩
  · rw [List.map_append, map_up hu]
  · rw [List.map_append]
    simp
    omega
theorem acc_less {L : List Nd} (h : TbI L) {i j : Nat} (hi : i < L.length) (hj : j < (edA L i).kids.length) : (accS ((ptL L i).take j)).1.length + ((ptL L i).getD j []).length ≤ (exA L i).length := by
  rw [exA_at h hi, joinL_len, accS_sum]
  show _ ≤ 1 + ((ptL L i).map List.length).sum
  have hj2 : j < (ptL L i).length := by rw [ptL_len]; exact hj
  have e : (ptL L i).map List.length = ((ptL L i).take j).map List.length ++ (((ptL L i).getD j []).length :: ((ptL L i).drop (j + 1)).map List.length) := by
    conv => lhs; rw [← List.take_append_drop j (ptL L i)]
    rw [List.map_append, List.drop_eq_getElem_cons hj2, List.map_cons]
    simp [hj2]
  rw [e, List.sum_append, List.sum_cons]
  omega

/-- No two rows of kids are one. -/
def KdAp (q : List (Nd × Value)) : Prop := q.Pairwise fun a b => ∀ g, a.2.ownBlock = some g → b.2.ownBlock ≠ some g
/-- What is written behind a list: in wr, since w; kids in rows from z on. -/
def WEx (w : World) (z base : Nat) (v : Value) (q : List (Nd × Value)) (ms : List Nd) (x : Value) (wr : World) : Prop :=
  ∃ p' : List (Nd × Value), OwnP wr base x (q ++ p') ∧ p'.map (·.1) = ms ∧ (∀ y ∈ p', OwnI wr z y.2 y.1.kids) ∧ w.grownBy wr v.ownBlock ∧ (x.ownBlock = v.ownBlock ∨ ∀ g, x.ownBlock = some g → z ≤ g) ∧ Below base w wr ∧ KdAp p'
theorem WEx.start {w w1 : World} {base : Nat} {v : Value} {q : List (Nd × Value)} (h : OwnP w base v q) (hb : Below w.heap.size w w1) (hs : base ≤ w.heap.size) : WEx w w1.heap.size base v q [] v w1 :=
  ⟨[], by simpa using h.below hb, rfl, by simp, grown_of_below hb _, .inl rfl, hb.mono hs, List.Pairwise.nil⟩
theorem WEx.call {w wr w2 : World} {z base : Nat} {v x x2 : Value} {q p' : List (Nd × Value)} {ms ms2 : List Nd} (h0 : OwnP wr base x (q ++ p')) (h1 : p'.map (·.1) = ms) (h2 : ∀ y ∈ p', OwnI wr z y.2 y.1.kids) (h3 : w.grownBy wr v.ownBlock) (h4 : x.ownBlock = v.ownBlock ∨ ∀ g, x.ownBlock = some g → z ≤ g) (h5 : Below base w wr) (h6 : KdAp p')
    (hz : w.heap.size ≤ z) (hzr : z ≤ wr.heap.size) (hc : WEx wr wr.heap.size base x (q ++ p') ms2 x2 w2) : WEx w z base v q (ms ++ ms2) x2 w2 := by
  obtain ⟨p2, g0, g1, g2, g3, g4, g5, g6⟩ := hc
  have hkeep : ∀ y ∈ p', OwnI w2 z y.2 y.1.kids := fun y hy => World.ownsRow.kept (h2 y hy) g3 (ownBlock_ne (h2 y hy) h0.row (by decide))
  refine ⟨p' ++ p2, by rw [← List.append_assoc]; exact g0, by rw [List.map_append, h1, g1], fun y hy => ?_, ⟨g3.os.trans h3.os, g3.tape.trans h3.tape, g3.output.trans h3.output, Nat.le_trans h3.size g3.size, fun k hk1 hk2 => ?_⟩, ?_, h5.trans g5, ?_⟩
  · rcases List.mem_append.1 hy with hy | hy
    · exact hkeep y hy
    · exact ownsRow_mono (g2 y hy) hzr
  · rw [g3.block k (Nat.lt_of_lt_of_le hk1 h3.size) (fun e => by
      rcases h4 with h4 | h4
      · rw [h4] at e; exact hk2 e
      · have := h4 k e.symm; omega)]
    exact h3.block k hk1 hk2
  · rcases g4 with g4 | g4
    · rw [g4]; exact h4
    · exact .inr fun g hg => by have := g4 g hg; omega
  · unfold KdAp
    rw [List.pairwise_append]
    refine ⟨h6, g6, fun a ha b hb g hg hg2 => ?_⟩
    have e1 := (rw_block (h2 a ha) hg).2.1
    have e2 := (rw_block (g2 b hb) hg2).1
    omega
/-- A cell of a row of numbers is set that is none of these. -/
theorem WEx.set {w wr : World} {z base kb o : Nat} {v x u : Value} {q : List (Nd × Value)} {ms : List Nd} (h : WEx w z base v q ms x wr) (hq : ∀ y ∈ q, ∀ g, y.2.ownBlock = some g → g < w.heap.size) (hk1 : w.heap.size ≤ kb) (hk2 : kb < z) (hb : base ≤ kb) {cur : Array Value} {f : Nat × Nat} (hkb : wr.heap[kb]? = some (.cells cur 3 f)) : WEx w z base v q ms x (wr.setCell ⟨kb, o, none⟩ u) := by
  obtain ⟨p', g0, g1, g2, g3, g4, g5, g6⟩ := h
  have hoth : ∀ k, k ≠ kb → (wr.setCell ⟨kb, o, none⟩ u).heap[k]? = wr.heap[k]? := fun k hk => Deep.blk_setCell_other _ _ _ _ hk
  have hb1 := g5.setCell (p := ⟨kb, o, none⟩) hb u
  refine ⟨p', ⟨rw_same g0.row (fun b hb' => hoth b (fun e => ?_)), fun y hy => ?_⟩, g1, fun y hy => rw_same (g2 y hy) (fun b hb' => hoth b (fun e => by have := (rw_block (g2 y hy) hb').1; omega)), ⟨hb1.os, hb1.tape, hb1.output, hb1.size, fun k h1 h2 => (hoth k (by omega)).trans (g3.block k h1 h2)⟩, g4, hb1, g6⟩
  · subst e
    obtain ⟨_, _, c, cu, _, h3, _⟩ := rw_block g0.row hb'
    rw [h3] at hkb
    simp at hkb
  · refine rw_same (g0.kids y hy) (fun b hb' => hoth b (fun e => ?_))
    subst e
    rcases List.mem_append.1 hy with hy | hy
    · have := hq y hy b hb'; omega
    · have := (rw_block (g2 y hy) hb').1; omega
/-- The node itself, at the end. -/
theorem WEx.last {w wr W w1 : World} {z base : Nat} {v x : Value} {q p' : List (Nd × Value)} {ms : List Nd} {y : Nd} {kv : Value} {g n cap : Nat} (g0 : OwnP wr base x (q ++ p')) (g1 : p'.map (·.1) = ms) (g2 : ∀ y ∈ p', OwnI wr z y.2 y.1.kids) (g3 : w.grownBy wr v.ownBlock) (g4 : x.ownBlock = v.ownBlock ∨ ∀ g, x.ownBlock = some g → z ≤ g) (g5 : Below base w wr) (g6 : KdAp p')
    (hz : w.heap.size ≤ z) (hbase : base ≤ w.heap.size) (hBW : Below wr.heap.size wr W) (hk : OwnI W w.heap.size kv y.kids) (hkz : ∀ g, kv.ownBlock = some g → g < z) (hlen : n = (q ++ p').length)
    (hown' : w1.ownsRow base 47 4 (.slice (some ⟨g, 0, none⟩) (n + 1) cap) (n + 1) (ndCells (q ++ p') ++ [.int .i64 y.op, .int .i64 y.n, .string y.name, kv])) (hg : W.grownBy w1 x.ownBlock) (hat : x.ownBlock = some g ∨ g = W.heap.size) :
    WEx w w.heap.size base v q (ms ++ [y]) (.slice (some ⟨g, 0, none⟩) (n + 1) cap) w1 := by
  have hsz : w.heap.size ≤ wr.heap.size := g3.size
  have hPW := g0.below hBW
  have hkb : OwnI W base kv y.kids := ownsRow_mono hk hbase
  refine ⟨p' ++ [(y, kv)], ?_, by simp [g1], fun a ha => ?_, ⟨hg.os.trans (hBW.os.trans g3.os), hg.tape.trans (hBW.tape.trans g3.tape), hg.output.trans (hBW.output.trans g3.output), Nat.le_trans hsz (Nat.le_trans hBW.size hg.size), fun k hk1 hk2 => ?_⟩, ?_, ?_, ?_⟩
  · rw [← List.append_assoc]
    subst hlen
    exact hPW.snoc hkb hown' hg
  · rcases List.mem_append.1 ha with ha | ha
    · have h1 := (g2 a ha).below hBW
      exact ownsRow_mono (World.ownsRow.kept h1 hg (ownBlock_ne h1 hPW.row (by decide))) hz
    · simp at ha; subst ha
      exact World.ownsRow.kept hk hg (ownBlock_ne hk hPW.row (by decide))
  · rw [hg.block k (by have := hBW.size; omega) (fun he => by
      rcases g4 with hx | hx
      · rw [hx] at he; exact hk2 he
      · have := hx k he.symm; omega), hBW.block k (by omega), g3.block k hk1 hk2]
  · rcases hat with hat | hat
    · rcases g4 with hx | hx
      · left; show some g = v.ownBlock; rw [← hx, hat]
      · right; intro g' hg'; have e : g = g' := Option.some.inj hg'; have := hx g hat; omega
    · right; intro g' hg'; have e : g = g' := Option.some.inj hg'; have := hBW.size; omega
  · exact (g5.trans (hBW.mono (by omega))).grown hg (by have := hBW.size; omega) (fun k hk => (hPW.row.lt k hk).1)
  · unfold KdAp
    rw [List.pairwise_append]
    refine ⟨g6, List.pairwise_singleton _ _, fun a ha b hb g' hg' hg2 => ?_⟩
    simp at hb
    subst hb
    have := (rw_block (g2 a ha) hg').1
    have := hkz g' hg2
    omega
/-- A table stays through what is written. -/
theorem TbM.grown {w w' : World} {p : Nat} {ev mv : Value} {L : List Nd} (h : TbM w p ev mv L) {base : Nat} {v : Value} {q : List (Nd × Value)} (ho : OwnP w base v q) (hg : w.grownBy w' v.ownBlock) : TbM w' p ev mv L := h.same fun b hb hs => hg.block b hb (fun e => by
  obtain ⟨_, _, c, cu, _, h3, _⟩ := rw_block ho.row e.symm
  exact h.typed h3 (by decide) (by decide) hs)
end Go.Proofs.YtjidockolacghaaDoor
