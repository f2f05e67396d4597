/-
  DcI.
-/
import Derived.Test.YtlbmijcpalfaeaaGreatDoorP35
set_option linter.unusedSimpArgs false
set_option linter.unusedVariables false
namespace Go.Proofs.YtlbmijcpalfaeaaGreatDoor
open Go.RowKit Go.Lib Go.Sort

theorem below_of_grown {W wr : World} {sh : Nat} (h : W.grownBy wr (some sh)) (hs : sh ≤ W.heap.size) : Below sh W wr := by
  obtain ⟨h1, h2, h3, h4, h5⟩ := h
  exact ⟨h1, h2, h3, h4, fun k hk => h5 k (by omega) (by simp; omega)⟩
theorem ownSetO {w : World} {base b o : Nat} {e : TypeId} {s n : Nat} {v u : Value} {xs : List Value} (h : w.ownsRow base e s v n xs) (hp : v.ownBlock ≠ some b) : (w.setCell ⟨b, o, none⟩ u).ownsRow base e s v n xs := by
  rcases h with ⟨h1, h2⟩
  refine ⟨h1, ?_⟩
  rcases h2 with h2 | ⟨g, cap, cur, rfl, hg, h3, r⟩
  · exact .inl h2
  · exact .inr ⟨g, cap, cur, rfl, hg, (Deep.blk_setCell_other _ _ _ _ (by show g ≠ b; rintro rfl; exact hp rfl)).trans h3, r⟩
theorem grownSetY {W wr : World} {b o : Nat} {row : Option Nat} {u : Value} (h : W.grownBy wr row) (hb : W.heap.size ≤ b) : W.grownBy (wr.setCell ⟨b, o, none⟩ u) row := by
  have hB : Below b wr (wr.setCell ⟨b, o, none⟩ u) := (Below.refl _ _).setCell (p := ⟨b, o, none⟩) (Nat.le_refl _) _
  obtain ⟨h1, h2, h3, h4, h5⟩ := h
  exact ⟨hB.os.trans h1, hB.tape.trans h2, hB.output.trans h3, Nat.le_trans h4 hB.size, fun k hk hne => (Deep.blk_setCell_other _ _ _ _ (by show k ≠ b; omega)).trans (h5 k hk hne)⟩
theorem grownBelow {W wr w2 : World} {row : Option Nat} (h : W.grownBy wr row) (hb : Below wr.heap.size wr w2) : W.grownBy w2 row :=
  grown_trans' h (grown_of_below hb none) (fun b hb => by cases hb)

structure LyM (W : World) (sh n LB FB : Nat) (cv zv : Value) (p : List (Nd × Value)) (fd : List Bool) (wr : World) : Prop where
  row : wr.ownsRow W.heap.size 41 4 (.slice (some ⟨LB, 0, none⟩) n n) n (ndCells p)
  frow : wr.ownsRow W.heap.size 4 1 (.slice (some ⟨FB, 0, none⟩) n n) n (fd.map Value.bool)
  len : p.length = n
  flen : fd.length = n
  kids : ∀ q ∈ p, Ints W sh q.2 q.1.kids
  blk : wr.heap[sh]? = some (.cells #[cv, zv, .slice (some ⟨LB, 0, none⟩) n n] 96 (0, 0))
  gr : W.grownBy wr (some sh)
  shl : sh < W.heap.size
theorem LyM.c0 {W : World} {sh n LB FB : Nat} {cv zv : Value} {p : List (Nd × Value)} {fd : List Bool} {wr : World} (h : LyM W sh n LB FB cv zv p fd wr) : wr.cell? ⟨sh, 0, none⟩ = some cv := by simp [World.cell?, h.blk]
theorem LyM.c1 {W : World} {sh n LB FB : Nat} {cv zv : Value} {p : List (Nd × Value)} {fd : List Bool} {wr : World} (h : LyM W sh n LB FB cv zv p fd wr) : wr.cell? ⟨sh, 1, none⟩ = some zv := by simp [World.cell?, h.blk]
theorem LyM.c2 {W : World} {sh n LB FB : Nat} {cv zv : Value} {p : List (Nd × Value)} {fd : List Bool} {wr : World} (h : LyM W sh n LB FB cv zv p fd wr) : wr.cell? ⟨sh, 2, none⟩ = some (.slice (some ⟨LB, 0, none⟩) n n) := by simp [World.cell?, h.blk]
theorem LyM.below {W : World} {sh n LB FB : Nat} {cv zv : Value} {p : List (Nd × Value)} {fd : List Bool} {wr w2 : World} (h : LyM W sh n LB FB cv zv p fd wr) (hb : Below wr.heap.size wr w2) : LyM W sh n LB FB cv zv p fd w2 := by
  have hl : sh < wr.heap.size := World.block_lt_of_cell? wr _ h.c0
  exact ⟨ownsRow_below h.row hb, ownsRow_below h.frow hb, h.len, h.flen, h.kids, (hb.block sh hl).trans h.blk, grownBelow h.gr hb, h.shl⟩
theorem LyM.blw {W : World} {sh n LB FB : Nat} {cv zv : Value} {p : List (Nd × Value)} {fd : List Bool} {wr : World} (h : LyM W sh n LB FB cv zv p fd wr) : Below sh W wr := below_of_grown h.gr (by have := h.shl; omega)
theorem LyM.nodes {W : World} {sh n LB FB : Nat} {cv zv : Value} {p : List (Nd × Value)} {fd : List Bool} {wr : World} (h : LyM W sh n LB FB cv zv p fd wr) (hn : n ≤ 4096) : Nodes wr wr.heap.size (.slice (some ⟨LB, 0, none⟩) n n) (p.map (·.1)) := by
  have hl := h.len
  refine ⟨_, n, by rw [List.length_map, hl], by rw [List.length_map]; omega, by unfold maxLen; omega, ?_⟩
  by_cases h0 : p = []
  · left; rw [h0]; rfl
  · right
    have hb := (rw_block h.row (b := LB) rfl).2.1
    refine ⟨LB, 0, rfl, hb, fun i hi => ?_⟩
    rw [List.length_map] at hi
    obtain ⟨⟨x, kv⟩, hx⟩ : ∃ xk, p[i]? = some xk := ⟨p[i], List.getElem?_eq_getElem hi⟩
    obtain ⟨a0, a1, a2, a3, _⟩ := rowN_at h.row hx
    have e : (p.map (·.1)).getD i nd0 = x := by rw [List.getD_eq_getElem?_getD, List.getElem?_map, hx]; rfl
    rw [e, Nat.zero_add]
    exact ⟨kv, a0, a1, a2, a3, (h.kids _ (List.mem_of_getElem? hx)).below h.blw (by have := h.shl; have := h.blw.size; omega)⟩
theorem LyM.shr {W : World} {sh n LB FB : Nat} {cv : Value} {p : List (Nd × Value)} {fd : List Bool} {wr : World} {za : Option Addr} {zc : Nat} {zs : List Int} (h : LyM W sh n LB FB cv (.slice za n zc) p fd wr) (hn : n ≤ 4096) (hz : Ints W sh (.slice za n zc) zs) (hl : zs.length = n) : ShR wr sh za zc (some ⟨LB, 0, none⟩) n zs (p.map (·.1)) := by
  have hp := h.len
  refine ⟨by rw [hl]; exact h.c1, by rw [List.length_map, hp]; exact h.c2, by rw [hl]; exact hz.below h.blw (by have := h.shl; have := h.blw.size; omega), by rw [List.length_map, hp]; exact h.nodes hn, by rw [List.length_map, hp, hl]⟩
theorem LyM.ne {W : World} {sh n LB FB : Nat} {cv zv : Value} {p : List (Nd × Value)} {fd : List Bool} {wr : World} (h : LyM W sh n LB FB cv zv p fd wr) : FB ≠ LB ∧ W.heap.size ≤ FB ∧ W.heap.size ≤ LB := by
  refine ⟨fun e => ?_, (rw_block h.frow (b := FB) rfl).1, (rw_block h.row (b := LB) rfl).1⟩
  rcases ownBlock_ne h.frow h.row (by decide) with n1 | n1
  · simp [Value.ownBlock] at n1
  · exact n1 (by simp [Value.ownBlock, e])
theorem LyM.cellF {W : World} {sh n LB FB : Nat} {cv zv : Value} {p : List (Nd × Value)} {fd : List Bool} {wr : World} (h : LyM W sh n LB FB cv zv p fd wr) {q : Nat} (hq : q < n) : wr.cell? ⟨FB, q, none⟩ = some (.bool (fd.getD q false)) ∧ wr.frozen? ⟨FB, q, none⟩ = false := by
  obtain ⟨u, h1, h2⟩ := rw_cell h.frow (i := q) (by omega)
  have := h.flen
  exact ⟨by rw [h1, ← h2]; simp [show q < fd.length by omega], rw_fro h.frow _⟩
theorem LyM.putF {W : World} {sh n LB FB : Nat} {cv zv : Value} {p : List (Nd × Value)} {fd : List Bool} {wr : World} (h : LyM W sh n LB FB cv zv p fd wr) (q : Nat) : LyM W sh n LB FB cv zv p (fd.set q true) (wr.setCell ⟨FB, q, none⟩ (.bool true)) := by
  obtain ⟨n1, n2, n3⟩ := h.ne
  have hs := h.shl
  refine ⟨ownSetO h.row (by simp [Value.ownBlock]; omega), ?_, h.len, by rw [List.length_set]; exact h.flen, h.kids, (Deep.blk_setCell_other _ _ _ _ (by show sh ≠ FB; omega)).trans h.blk, grownSetY h.gr n2, hs⟩
  rw [List.map_set]
  exact rw_put h.frow q (.bool true)
theorem LyM.putL {W : World} {sh n LB FB : Nat} {cv zv : Value} {p : List (Nd × Value)} {fd : List Bool} {wr : World} (h : LyM W sh n LB FB cv zv p fd wr) {q : Nat} (hq : q < n) (x : Nd) (kv : Value) (hk : Ints W sh kv x.kids) :
    LyM W sh n LB FB cv zv (p.set q (x, kv)) fd ((((wr.setCell ⟨LB, q * 4, none⟩ (.int .i64 x.op)).setCell ⟨LB, q * 4 + 1, none⟩ (.int .i64 x.n)).setCell ⟨LB, q * 4 + 2, none⟩ (.string x.name)).setCell ⟨LB, q * 4 + 3, none⟩ kv) := by
  obtain ⟨n1, n2, n3⟩ := h.ne
  have hs := h.shl
  have key : ∀ (V : World) (o : Nat) (u : Value), (V.setCell ⟨LB, o, none⟩ u).heap[sh]? = V.heap[sh]? := fun V o u => Deep.blk_setCell_other _ _ _ _ (by show sh ≠ LB; omega)
  refine ⟨rowN_put h.row (by rw [h.len]; exact hq) x kv, ?_, by rw [List.length_set]; exact h.len, h.flen, fun r hr => ?_, ?_, ?_, hs⟩
  · have hne : (Value.slice (some ⟨FB, 0, none⟩) n n).ownBlock ≠ some LB := by simp [Value.ownBlock]; omega
    exact ownSetO (ownSetO (ownSetO (ownSetO h.frow hne) hne) hne) hne
  · rcases List.mem_or_eq_of_mem_set hr with hr | rfl
    · exact h.kids r hr
    · exact hk
  · rw [key, key, key, key]; exact h.blk
  · exact grownSetY (grownSetY (grownSetY (grownSetY h.gr n3) n3) n3) n3
theorem made_bools (n : Nat) : (madeCells (Value.bool false).cells (n * 1)).toList = (List.replicate n false).map Value.bool := by
  apply List.ext_getElem?
  intro i
  rw [List.map_replicate, List.getElem?_replicate]
  by_cases hi : i < n
  · simp [madeCells, hi, Nat.mod_one, Value.cells]
  · simp [madeCells, hi]
theorem made_nodes (n : Nat) : (madeCells (Value.agg #[.int .i64 0, .int .i64 0, .string ⟨#[]⟩, .slice none 0 0]).cells (n * 4)).toList = ndCells (List.replicate n nz) := by
  have hz : (Value.agg #[.int .i64 0, .int .i64 0, .string ⟨#[]⟩, .slice none 0 0]).cells = #[.int .i64 0, .int .i64 0, .string ⟨#[]⟩, .slice none 0 0] := by rfl
  rw [hz]
  apply List.ext_getElem?
  intro i
  by_cases hi : i < n * 4
  · have hq : (List.replicate n nz)[i / 4]? = some (nd0, .slice none 0 0) := by rw [List.getElem?_replicate, if_pos (by omega)]; rfl
    obtain ⟨a0, a1, a2, a3⟩ := ndCells_at _ _ _ _ hq
    have hm : i % 4 = 0 ∨ i % 4 = 1 ∨ i % 4 = 2 ∨ i % 4 = 3 := by omega
    have hl : (madeCells #[Value.int .i64 0, .int .i64 0, .string ⟨#[]⟩, .slice none 0 0] (n * 4)).toList[i]? = some (#[Value.int .i64 0, .int .i64 0, .string ⟨#[]⟩, .slice none 0 0][i % 4]!) := by
      simp [madeCells, hi]
    rw [hl]
    rcases hm with e | e | e | e
    · rw [e, show i = i / 4 * 4 by omega, a0]; rfl
    · rw [e, show i = i / 4 * 4 + 1 by omega, a1]; rfl
    · rw [e, show i = i / 4 * 4 + 2 by omega, a2]; rfl
    · rw [e, show i = i / 4 * 4 + 3 by omega, a3]; rfl
  · rw [List.getElem?_eq_none (by simp [madeCells]; omega), List.getElem?_eq_none (by rw [ndCells_length]; simp; omega)]
end Go.Proofs.YtlbmijcpalfaeaaGreatDoor
