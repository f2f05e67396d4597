/-
  TgW5.
-/
import Derived.Test.YtlbmijcpalfaeaaGreatDoorP22
set_option linter.unusedSimpArgs false
set_option linter.unusedVariables false
set_option linter.unusedSectionVars false
namespace Go.Proofs.YtlbmijcpalfaeaaGreatDoor.Gt
open Go.RowKit Go.Lib Go.Sort Go.Maps
variable [Gr]

theorem TbM.drew {w : World} {p : Nat} {ev mv : Value} {L : List Nd} (h : TbM w p ev mv L) (n : Nat) : TbM (w.drewN n) p ev mv L := h.same fun _ _ _ => rfl
/-- What the map says of a node. -/
theorem TbM.look {w : World} {p : Nat} {ev mv : Value} {L : List Nd} (h : TbM w p ev mv L) {x : Nd} (hx : NdK x) :
    (Instr.lookup 85 mv (shV x) true).run Tryz.prog w = .ok (.tuple #[.int .i64 (((ixL L x).getD 0 : Nat) : Int), .bool (ixL L x).isSome]) w := by
  rcases h.ids with ⟨rfl, rfl⟩ | ⟨B, rfl, _, h3⟩
  · rw [look_none hx.key, ixL_nil]; rfl
  · exact h3.look hx
set_option maxRecDepth 20000 in
set_option maxHeartbeats 4000000 in
theorem tput_there (w : World) (p : Nat) (ev mv : Value) (L : List Nd) (x : Nd) (i : Nat) (h : TbM w p ev mv L) (hx : NdK x) (hi : ixL L x = some i) :
    Calls Tryz.prog 94 #[.pointer (some ⟨p, 0, none⟩), shV x] w fun e w' => e = .returned (.tuple #[.int .i64 i, .int .i64 0]) ∧ Below w.heap.size w w' := by
  have hl : ∀ W, Below w.heap.size w W → ∀ n, (Instr.lookup 85 mv (shV x) true).run Tryz.prog (W.drewN n) = .ok (.tuple #[.int .i64 (i : Int), .bool true]) (W.drewN n) := fun W hW n => by
    have := ((h.below hW).drew n).look hx
    rw [hi] at this
    exact this
  have hpl := h.lt
  have c1 := h.c1
  obtain ⟨op, n, nm, ks⟩ := x
  rw [shV_eq] at hl ⊢
  generalize ks.getD 0 0 = k0 at *
  generalize ks.getD 1 0 = k1 at *
  generalize ks.getD 2 0 = k2 at *
  obtain ⟨w1, hw1⟩ : ∃ w1, w.alloc (.cells #[.int .i64 op, .int .i64 n, .string nm, .int .i64 k0, .int .i64 k1, .int .i64 k2] 143) = w1 := ⟨_, rfl⟩
  have HB1 : Hid (Below w.heap.size w w1) := by rw [← hw1]; exact (Below.refl _ _).alloc (Nat.le_refl _) _
  have hb : w1.heap[w.heap.size]? = some (.cells #[.int .i64 op, .int .i64 n, .string nm, .int .i64 k0, .int .i64 k1, .int .i64 k2] 143 (0, 0)) := by rw [← hw1, Deep.blk_alloc_new]
  obtain ⟨b0, b1, b2, b3, b4, b5, _⟩ := blk6 hb
  have d1 : w1.cell? ⟨p, 1, none⟩ = some mv := (HB1.out.cell (p := ⟨p, 1, none⟩) hpl).trans c1
  have HW : Hid (w.alloc (.cells #[.int .i64 op, .int .i64 n, .string nm, .int .i64 k0, .int .i64 k1, .int .i64 k2] 143) = w1) := hw1
  have hl1 := hl w1 HB1.out
  clear hw1 hb h c1 hl
  go_enter Tryz.func94, Tryz.ntmps94
  go_wp2_with fail
  rw [HW.out]
  go_quiet (fail)
  go_wp2_with fail
  go_ret2
  exact ⟨rfl, HB1.out.trans ⟨rfl, rfl, rfl, Nat.le_refl _, fun _ _ => rfl⟩⟩
set_option maxRecDepth 20000 in
set_option maxHeartbeats 4000000 in
theorem tput_full (w : World) (p : Nat) (ev mv : Value) (L : List Nd) (x : Nd) (h : TbM w p ev mv L) (hx : NdK x) (hi : ixL L x = none) (hf : 1048576 ≤ L.length) :
    Calls Tryz.prog 94 #[.pointer (some ⟨p, 0, none⟩), shV x] w fun e w' => e = .returned (.tuple #[.int .i64 0, .int .i64 10]) ∧ Below w.heap.size w w' := by
  have hl : ∀ W, Below w.heap.size w W → ∀ n, (Instr.lookup 85 mv (shV x) true).run Tryz.prog (W.drewN n) = .ok (.tuple #[.int .i64 0, .bool false]) (W.drewN n) := fun W hW n => by
    have := ((h.below hW).drew n).look hx
    rw [hi] at this
    exact this
  have hpl := h.lt
  have c1 := h.c1
  have c0 := h.c0
  obtain ⟨ao, cap, rfl⟩ := h.form
  have hfI : (1048576 : Int) ≤ (L.length : Int) := by omega
  generalize L.length = N at *
  obtain ⟨op, n, nm, ks⟩ := x
  rw [shV_eq] at hl ⊢
  generalize ks.getD 0 0 = k0 at *
  generalize ks.getD 1 0 = k1 at *
  generalize ks.getD 2 0 = k2 at *
  obtain ⟨w1, hw1⟩ : ∃ w1, w.alloc (.cells #[.int .i64 op, .int .i64 n, .string nm, .int .i64 k0, .int .i64 k1, .int .i64 k2] 143) = w1 := ⟨_, rfl⟩
  have HB1 : Hid (Below w.heap.size w w1) := by rw [← hw1]; exact (Below.refl _ _).alloc (Nat.le_refl _) _
  have hb : w1.heap[w.heap.size]? = some (.cells #[.int .i64 op, .int .i64 n, .string nm, .int .i64 k0, .int .i64 k1, .int .i64 k2] 143 (0, 0)) := by rw [← hw1, Deep.blk_alloc_new]
  obtain ⟨b0, b1, b2, b3, b4, b5, _⟩ := blk6 hb
  have d0 : w1.cell? ⟨p, 0, none⟩ = some (.slice ao N cap) := (HB1.out.cell (p := ⟨p, 0, none⟩) hpl).trans c0
  have d1 : w1.cell? ⟨p, 1, none⟩ = some mv := (HB1.out.cell (p := ⟨p, 1, none⟩) hpl).trans c1
  have HW : Hid (w.alloc (.cells #[.int .i64 op, .int .i64 n, .string nm, .int .i64 k0, .int .i64 k1, .int .i64 k2] 143) = w1) := hw1
  have hl1 := hl w1 HB1.out
  clear hw1 hb h c1 hl c0
  go_enter Tryz.func94, Tryz.ntmps94
  go_wp2_with fail
  rw [HW.out]
  go_quiet (fail)
  go_wp2_with fail
  go_ret2
  exact ⟨rfl, HB1.out.trans ⟨rfl, rfl, rfl, Nat.le_refl _, fun _ _ => rfl⟩⟩

/-- What the rest of put wants, behind the making of the map. -/
structure PutMid (w : World) (p : Nat) (ev mv : Value) (B : Nat) (L : List Nd) (bx : Nat) (x : Nd) (W : World) : Prop where
  tm : TbM W p ev (.map (some B)) L
  tk : Tk (TbS p ev mv) w W
  yo : mv = .map (some B) ∨ (mv = .map none ∧ w.heap.size ≤ B)
  box : W.heap[bx]? = some (.cells #[.int .i64 x.op, .int .i64 x.n, .string x.name, .int .i64 (x.kids.getD 0 0), .int .i64 (x.kids.getD 1 0), .int .i64 (x.kids.getD 2 0)] 143 (0, 0))
theorem PutMid.far {w : World} {p : Nat} {ev mv : Value} {B : Nat} {L : List Nd} {bx : Nat} {x : Nd} {W W' : World} (h : PutMid w p ev mv B L bx x W) (hb : Below W.heap.size W W') : PutMid w p ev mv B L bx x W' :=
  ⟨h.tm.below hb, h.tk.trans (T := fun _ => False) (Tk.of_below hb) (fun _ hf => hf.elim), h.yo, (hb.block _ (lt_of_block h.box)).trans h.box⟩
theorem PutMid.nodes {w : World} {p : Nat} {ev mv : Value} {B : Nat} {L : List Nd} {bx : Nat} {x : Nd} {W W' : World} (h : PutMid w p ev mv B L bx x W) (he : ∀ k : Nat, W'.heap[k]? = W.heap[k]?) (h1 : W'.os = W.os) (h2 : W'.tape = W.tape) (h3 : W'.output = W.output) (h4 : W'.heap.size = W.heap.size) : PutMid w p ev mv B L bx x W' :=
  h.far ⟨h1, h2, h3, Nat.le_of_eq h4.symm, fun k _ => he k⟩
/-- The end of put. -/
theorem put_end {w W w5 w6 : World} {p : Nat} {ev mv : Value} {B : Nat} {L : List Nd} {bx : Nat} {x : Nd} (h : PutMid w p ev mv B L bx x W) (hx : NdK x) (hi : ixL L x = none) (hl : L.length < 1048576) (hk : ∀ k ∈ x.kids, 0 ≤ k ∧ k < (L.length : Int))
    (h5 : IdF w5 B (fun y => if y = x then some L.length else ixL L y) (L.length + 1)) (ht : Tk (TbS p ev (.map (some B))) W w5) (h5p : w5.heap[p]? = W.heap[p]?)
    {g6 cap6 : Nat} (hown : w6.ownsRow (p + 1) 159 7 (.slice (some ⟨g6, 0, none⟩) (L.length + 1) cap6) (L.length + 1) (enCells (enL L) ++ enC (x, szK (szL L) 1 x.kids))) (hg : w5.grownBy w6 ev.ownBlock ∨ ∃ w5', Below w5.heap.size w5 w5' ∧ w5'.grownBy w6 ev.ownBlock) (hat : ev.ownBlock = some g6 ∨ W.heap.size ≤ g6) (hM : TbM w p ev mv L) (hst : ev.ownBlock = some g6 ∨ w6.ownsRow (p + 1) 159 7 ev L.length (enCells (enL L))) :
    TbT w p ev mv (.slice (some ⟨g6, 0, none⟩) (L.length + 1) cap6) (.map (some B)) (L ++ [x]) (w6.setCell ⟨p, 0, none⟩ (.slice (some ⟨g6, 0, none⟩) (L.length + 1) cap6)) := by
  have htm := h.tm
  have hpl := htm.lt
  have hids : p < B := by
    rcases htm.ids with ⟨h1, _⟩ | ⟨B', h1, h2, _⟩
    · cases h1
    · cases h1; exact h2
  obtain ⟨es, cc, hBo⟩ := h5.obj
  have hrowne : ∀ b, ev.ownBlock = some b → b ≠ p ∧ b < W.heap.size := fun b hb => by
    obtain ⟨h1, h2, _⟩ := rw_block htm.on hb
    exact ⟨by omega, h2⟩
  -- from w5 on
  have key : ∀ k, k < w5.heap.size → ev.ownBlock ≠ some k → w6.heap[k]? = w5.heap[k]? := fun k hk hne => by
    rcases hg with hg | ⟨w5', hb, hg⟩
    · exact hg.block k hk (fun e => hne e.symm)
    · rw [hg.block k (Nat.lt_of_lt_of_le hk hb.size) (fun e => hne e.symm)]
      exact hb.block k hk
  have tk6 : Tk (TbS p ev (.map (some B))) w5 w6 := by
    rcases hg with hg | ⟨w5', hb, hg⟩
    · exact Tk.grown hg _ (fun b hb => .inr (.inl hb))
    · exact (Tk.of_below hb).trans (Tk.grown hg (TbS p ev (.map (some B))) (fun b hb => .inr (.inl hb))) (fun b hb => .inl hb)
  have tkW : Tk (TbS p ev (.map (some B))) W (w6.setCell ⟨p, 0, none⟩ (.slice (some ⟨g6, 0, none⟩) (L.length + 1) cap6)) :=
    (ht.trans tk6 (fun b hb => .inl hb)).trans (Tk.set (TbS p ev (.map (some B))) (.inl rfl)) (fun b hb => .inl hb)
  have hp6 : w6.heap[p]? = some (.cells #[ev, .map (some B), Gr.a, Gr.b, Gr.c, Gr.d] 90 (0, 0)) := by
    rw [key p (Nat.lt_of_lt_of_le hpl ht.size) (fun e => (hrowne p e).1 rfl), h5p]
    exact htm.blk
  have hBlt : B < w5.heap.size := h5.lt
  have hBr : ev.ownBlock ≠ some B := fun e => by
    obtain ⟨_, _, cap, cur, _, h1, _⟩ := rw_block htm.on e
    obtain ⟨es', cc', h2⟩ : ∃ es c, W.heap[B]? = some (.map es c) := by
      rcases htm.ids with ⟨h1, _⟩ | ⟨B', h1, _, h3⟩
      · cases h1
      · cases h1; exact h3.obj
    rw [h1] at h2; cases h2
  have hnd : (L ++ [x]).Nodup := (htm.inv.snoc hx.form hk (ixL_none.1 hi) hl).nodup
  have hIE : IdF (w6.setCell ⟨p, 0, none⟩ (.slice (some ⟨g6, 0, none⟩) (L.length + 1) cap6)) B (ixL (L ++ [x])) (L ++ [x]).length := by
    have h6 : IdF w6 B (fun y => if y = x then some L.length else ixL L y) (L.length + 1) := h5.block (key B hBlt hBr)
    have h7 := h6.block (w' := w6.setCell ⟨p, 0, none⟩ (.slice (some ⟨g6, 0, none⟩) (L.length + 1) cap6)) (Deep.blk_setCell_other _ _ _ _ (by show B ≠ p; omega))
    exact h7.congr (fun y _ => ixL_snoc hnd hi y) (by simp)
  refine ⟨⟨?_, ?_, .inr ⟨B, rfl, hids, hIE⟩, htm.inv.snoc hx.form hk (ixL_none.1 hi) hl, ?_⟩, h.tk.trans tkW ?_, ?_, ?_, ?_, ?_⟩
  · have := heap_setCell_same w6 p 0 #[ev, .map (some B), Gr.a, Gr.b, Gr.c, Gr.d] 90 (.slice (some ⟨g6, 0, none⟩) (L.length + 1) cap6) hp6
    simpa using this
  · have h1 : w6.ownsRow (p + 1) 159 7 (.slice (some ⟨g6, 0, none⟩) (L.length + 1) cap6) (L ++ [x]).length (enCells (enL (L ++ [x]))) := by
      rw [enL_snoc, enCells_append]
      simpa [enCells] using hown
    exact rw_same h1 (fun b hb' => Deep.blk_setCell_other _ _ _ _ (by have := (rw_block h1 hb').1; show b ≠ p; omega))
  · intro y hy
    rcases List.mem_append.1 hy with hy | hy
    · exact htm.nr y hy
    · simp at hy
      subst hy
      exact ⟨hx.key.n, hx.key.nm⟩
  · rintro b (rfl | hb | hb)
    · exact .inl (.inl rfl)
    · exact .inl (.inr (.inl hb))
    · cases hb
      rcases h.yo with h1 | h1
      · exact .inl (.inr (.inr h1))
      · exact .inr h1.2
  · rintro b (rfl | hb | hb)
    · exact .inl (.inl rfl)
    · have e1 : g6 = b := by simpa [Value.ownBlock] using hb
      subst e1
      rcases hat with h1 | h1
      · exact .inl (.inr (.inl h1))
      · right; have := h.tk.size; omega
    · cases hb
      rcases h.yo with h1 | h1
      · exact .inl (.inr (.inr h1))
      · exact .inr h1.2
  · intro B' e
    rcases h.yo with h1 | h1
    · rw [e] at h1; cases h1; rfl
    · rw [e] at h1; cases h1.1
  · obtain ⟨ao, cap, rfl⟩ := htm.form
    show L.length ≤ L.length + 1
    omega
  · intro g hg1 hpg j u hj hu
    obtain ⟨ao, cap, rfl⟩ := htm.form
    have hao : ao = some ⟨g, 0, none⟩ := by
      rcases htm.on.2 with ⟨h1, _⟩ | ⟨g', c', _, h1, _⟩
      · simp only [Value.slice.injEq] at h1; rw [h1.1] at hg1; cases hg1
      · cases h1
        simp [Value.ownBlock] at hg1
        rw [hg1]
    subst hao
    have hj' : j < (enCells (enL L)).length := by rw [enCells_length]; simpa [lenV, enL_len] using hj
    have e0 : ∀ k, (⟨g, 0, none⟩ : Addr).add k = ⟨g, k, none⟩ := fun k => by rw [Go.WideShapes.add_plain, Nat.zero_add]
    have hu1 := hM.on.cells (g := g) rfl j _ (List.getElem?_eq_getElem hj')
    rw [e0, hu] at hu1
    have hne : (⟨p, 0, none⟩ : Addr).block ≠ g := by show p ≠ g; omega
    have fin : w6.cell? ⟨g, j, none⟩ = some u := by
      rcases hst with h1 | h1
      · have h2 : g = g6 := by simpa [Value.ownBlock] using h1
        subst h2
        have h3 := hown.cells (g := g) rfl j ((enCells (enL L))[j]) (by rw [List.getElem?_append_left hj']; exact List.getElem?_eq_getElem hj')
        rw [e0] at h3
        rw [h3]
        exact hu1.symm
      · have h3 := h1.cells (g := g) rfl j _ (List.getElem?_eq_getElem hj')
        rw [e0] at h3
        rw [h3]
        exact hu1.symm
    have hb : (w6.setCell ⟨p, 0, none⟩ (.slice (some ⟨g6, 0, none⟩) (L.length + 1) cap6)).heap[g]? = w6.heap[g]? := Deep.blk_setCell_other _ _ _ _ (by show g ≠ p; omega)
    simp only [World.cell?] at fin ⊢
    rw [hb]
    exact fin
end Go.Proofs.YtlbmijcpalfaeaaGreatDoor.Gt
