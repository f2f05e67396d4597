/-
  TgM, GmR, TbW1, TgW1, TbW2.
-/
import Derived.Test.YtlbmijcpalfaeaaGreatDoorP10
import Derived.Test.YtlbmijcpalfaeaaGreatDoorP19
import Derived.Laws.ResultCell
import Derived.Laws.CopyOwn
set_option linter.unusedSimpArgs false
set_option linter.unusedVariables false
set_option linter.unusedSectionVars false
namespace Go.Proofs.YtlbmijcpalfaeaaGreatDoor.Gt
open Go.RowKit Go.Lib Go.Maps Go.WideMaps
/-- What stands behind the table in a Graph. -/
class Gr where
  a : Value
  b : Value
  c : Value
  d : Value
variable [Gr]

structure TbM (w : World) (p : Nat) (ev mv : Value) (L : List Nd) : Prop where
  blk : w.heap[p]? = some (.cells #[ev, mv, Gr.a, Gr.b, Gr.c, Gr.d] 90 (0, 0))
  on : w.ownsRow (p + 1) 159 7 ev L.length (enCells (enL L))
  ids : (mv = .map none ∧ L = []) ∨ ∃ B, mv = .map (some B) ∧ p < B ∧ IdF w B (ixL L) L.length
  inv : TbI L
  nr : ∀ x ∈ L, N6 x.n ∧ x.name.size ≤ maxLen
theorem TbM.lt {w : World} {p : Nat} {ev mv : Value} {L : List Nd} (h : TbM w p ev mv L) : p < w.heap.size := lt_of_block h.blk
/-- The block and the row alone. -/
structure TbR (w : World) (p : Nat) (ev mv : Value) (L : List Nd) : Prop where
  blk : w.heap[p]? = some (.cells #[ev, mv, Gr.a, Gr.b, Gr.c, Gr.d] 90 (0, 0))
  on : w.ownsRow (p + 1) 159 7 ev L.length (enCells (enL L))
theorem TbM.r {w : World} {p : Nat} {ev mv : Value} {L : List Nd} (h : TbM w p ev mv L) : TbR w p ev mv L := ⟨h.blk, h.on⟩
theorem TbR.lt {w : World} {p : Nat} {ev mv : Value} {L : List Nd} (h : TbR w p ev mv L) : p < w.heap.size := lt_of_block h.blk
theorem TbR.same {w w' : World} {p : Nat} {ev mv : Value} {L : List Nd} (h : TbR w p ev mv L) (hs : ∀ b, b < w.heap.size → b = p ∨ ev.ownBlock = some b → w'.heap[b]? = w.heap[b]?) : TbR w' p ev mv L :=
  ⟨(hs p h.lt (.inl rfl)).trans h.blk, rw_same h.on (fun b hb => hs b (rw_block h.on hb).2.1 (.inr hb))⟩
theorem TbR.below {w w' : World} {p : Nat} {ev mv : Value} {L : List Nd} (h : TbR w p ev mv L) (hb : Below w.heap.size w w') : TbR w' p ev mv L := h.same fun b h1 _ => hb.block b h1
theorem TbR.c0 {w : World} {p : Nat} {ev mv : Value} {L : List Nd} (h : TbR w p ev mv L) : w.cell? ⟨p, 0, none⟩ = some ev := by simp [World.cell?, h.blk]
theorem TbR.row {w : World} {p : Nat} {ev mv : Value} {L : List Nd} (h : TbR w p ev mv L) {x : Nat} (hx : x < L.length) : ∃ g cap, ev = .slice (some ⟨g, 0, none⟩) L.length cap ∧ p + 1 ≤ g ∧ g < w.heap.size ∧ L.length ≤ cap ∧ cap ≤ maxLen := by
  obtain ⟨h1, h2⟩ := h.on
  rcases h2 with ⟨rfl, h0⟩ | ⟨g, cap, cur, rfl, hb, hg, hn, hm, hs, ht⟩
  · omega
  · exact ⟨g, cap, rfl, hb, lt_of_block hg, hn, hm⟩
theorem TbM.same {w w' : World} {p : Nat} {ev mv : Value} {L : List Nd} (h : TbM w p ev mv L) (hs : ∀ b, b < w.heap.size → TbS p ev mv b → w'.heap[b]? = w.heap[b]?) : TbM w' p ev mv L := by
  refine ⟨(hs p h.lt (.inl rfl)).trans h.blk, rw_same h.on (fun b hb => hs b (rw_block h.on hb).2.1 (.inr (.inl hb))), ?_, h.inv, h.nr⟩
  rcases h.ids with h1 | ⟨B, h1, h2, h3⟩
  · exact .inl h1
  · exact .inr ⟨B, h1, h2, h3.block (hs B h3.lt (.inr (.inr h1)))⟩
theorem TbM.below {w w' : World} {p : Nat} {ev mv : Value} {L : List Nd} (h : TbM w p ev mv L) (hb : Below w.heap.size w w') : TbM w' p ev mv L := h.same fun b h1 _ => hb.block b h1
theorem TbM.c0 {w : World} {p : Nat} {ev mv : Value} {L : List Nd} (h : TbM w p ev mv L) : w.cell? ⟨p, 0, none⟩ = some ev := by simp [World.cell?, h.blk]
theorem TbM.c1 {w : World} {p : Nat} {ev mv : Value} {L : List Nd} (h : TbM w p ev mv L) : w.cell? ⟨p, 1, none⟩ = some mv := by simp [World.cell?, h.blk]
theorem TbM.form {w : World} {p : Nat} {ev mv : Value} {L : List Nd} (h : TbM w p ev mv L) : ∃ ao cap, ev = .slice ao L.length cap := rw_form h.on
theorem TbM.row {w : World} {p : Nat} {ev mv : Value} {L : List Nd} (h : TbM w p ev mv L) {x : Nat} (hx : x < L.length) : ∃ g cap, ev = .slice (some ⟨g, 0, none⟩) L.length cap ∧ p + 1 ≤ g ∧ g < w.heap.size ∧ L.length ≤ cap ∧ cap ≤ maxLen := by
  obtain ⟨h1, h2⟩ := h.on
  rcases h2 with ⟨rfl, h0⟩ | ⟨g, cap, cur, rfl, hb, hg, hn, hm, hs, ht⟩
  · omega
  · exact ⟨g, cap, rfl, hb, lt_of_block hg, hn, hm⟩
theorem TbM.at_ {w : World} {p g cap : Nat} {mv : Value} {L : List Nd} (h : TbM w p (.slice (some ⟨g, 0, none⟩) L.length cap) mv L) {i : Nat} (hi : i < L.length) : EnAt w g (i * 7) (edA L i) ((szL L).getD i 0) := enAt_of h.on rfl hi
theorem TbR.at_ {w : World} {p g cap : Nat} {mv : Value} {L : List Nd} (h : TbR w p (.slice (some ⟨g, 0, none⟩) L.length cap) mv L) {i : Nat} (hi : i < L.length) : EnAt w g (i * 7) (edA L i) ((szL L).getD i 0) := enAt_of h.on rfl hi
theorem TbM.ndk {w : World} {p : Nat} {ev mv : Value} {L : List Nd} (h : TbM w p ev mv L) {i : Nat} (hi : i < L.length) : NdK (edA L i) := by
  obtain ⟨h1, h2⟩ := h.nr _ (edA_mem hi)
  have hl := h.inv.le
  exact NdK.of (h.inv.form i hi) h1 h2 fun k hk => by have := h.inv.kids i hi k hk; omega

theorem TbM.base {w : World} {p : Nat} {ev mv : Value} {L : List Nd} (h : TbM w p ev mv L) : ∀ b, TbS p ev mv b → p ≤ b := by
  rintro b (rfl | hb | hb)
  · exact Nat.le_refl _
  · have := (rw_block h.on hb).1; omega
  · rcases h.ids with ⟨h1, _⟩ | ⟨B, h1, h2, _⟩
    · rw [h1] at hb; cases hb
    · rw [h1] at hb; cases hb; omega
/-- What a call leaves that may turn the table. -/
structure TbT (w : World) (p : Nat) (ev mv ev' mv' : Value) (L' : List Nd) (w' : World) : Prop where
  tb : TbM w' p ev' mv' L'
  tk : Tk (TbS p ev mv) w w'
  yo : ∀ b, TbS p ev' mv' b → TbS p ev mv b ∨ w.heap.size ≤ b
  mp : ∀ B, mv = .map (some B) → mv' = .map (some B)
  gr : lenV ev ≤ lenV ev'
  st : ∀ g, ev.ownBlock = some g → p < g → ∀ j u, j < lenV ev * 7 → w.cell? ⟨g, j, none⟩ = some u → w'.cell? ⟨g, j, none⟩ = some u
theorem TbT.below {w w' : World} {p : Nat} {ev mv ev' mv' : Value} {L L' : List Nd} (h : TbT w p ev mv ev' mv' L' w') (hm : TbM w p ev mv L) : Below p w w' := h.tk.below (by have := hm.lt; omega) hm.base
theorem TbT.trans {w w' w'' : World} {p : Nat} {ev mv ev' mv' ev'' mv'' : Value} {L' L'' : List Nd} (h : TbT w p ev mv ev' mv' L' w') (k : TbT w' p ev' mv' ev'' mv'' L'' w'') : TbT w p ev mv ev'' mv'' L'' w'' :=
  ⟨k.tb, h.tk.trans k.tk h.yo, fun b hb => by
    rcases k.yo b hb with h1 | h1
    · exact h.yo b h1
    · right; have := h.tk.size; omega, fun B e => k.mp B (h.mp B e), Nat.le_trans h.gr k.gr, fun g hg hpg j u hj hu => by
    have h1 := h.st g hg hpg j u hj hu
    by_cases he : ev'.ownBlock = some g
    · exact k.st g he hpg j u (Nat.lt_of_lt_of_le hj (Nat.mul_le_mul_right 7 h.gr)) h1
    · have hne : ¬ TbS p ev' mv' g := by
        rintro (e | e | e)
        · omega
        · exact he e
        · rcases h.tb.ids with ⟨h2, _⟩ | ⟨B, h2, _, h3⟩
          · rw [h2] at e; cases e
          · rw [h2] at e
            cases e
            obtain ⟨es, c, h4⟩ := h3.obj
            simp [World.cell?, h4] at h1
      have h2 := k.tk.same g (World.block_lt_of_cell? w' _ h1) hne
      simp only [World.cell?] at h1 ⊢
      rw [h2]
      exact h1⟩
theorem TbT.of_below {w w' : World} {p : Nat} {ev mv : Value} {L : List Nd} (h : TbM w p ev mv L) (hb : Below w.heap.size w w') : TbT w p ev mv ev mv L w' := ⟨h.below hb, Tk.of_below hb, fun b hb => .inl hb, fun B e => e, Nat.le_refl _, fun g _ _ j u _ hu => (hb.cell (p := ⟨g, j, none⟩) (World.block_lt_of_cell? w _ hu)).trans hu⟩
end Go.Proofs.YtlbmijcpalfaeaaGreatDoor.Gt

set_option linter.unusedSimpArgs false
set_option linter.unusedVariables false
namespace Go.Proofs.YtlbmijcpalfaeaaGreatDoor.Gt
open Go.RowKit Go.Lib

theorem grown_set (w : World) (g o : Nat) (u : Value) : w.grownBy (w.setCell ⟨g, o, none⟩ u) (some g) := by
  have hb : Below g w (w.setCell ⟨g, o, none⟩ u) := (Below.refl _ _).setCell (p := ⟨g, o, none⟩) (Nat.le_refl _) _
  exact ⟨hb.os, hb.tape, hb.output, hb.size, fun k hk hne => Deep.blk_setCell_other _ _ _ _ (by show k ≠ g; intro e; subst e; exact hne rfl)⟩
theorem row_ne_ty {w : World} {base : Nat} {e T : TypeId} {s n R : Nat} {v : Value} {xs : List Value} {cs : Array Value} {fr : Nat × Nat} (h : w.ownsRow base e s v n xs) (hR : w.heap[R]? = some (.cells cs T fr)) (hne : e ≠ T) : v.ownBlock ≠ some R := by
  rcases h.2 with ⟨rfl, _⟩ | ⟨g, cap, cur, rfl, _, hg, _⟩
  · simp [Value.ownBlock]
  · intro hh
    simp [Value.ownBlock] at hh
    subst hh
    rw [hR] at hg
    simp at hg
    exact hne hg.2.1.symm
/-- Rows of numbers, of the call's own, no two in one block. -/
structure OwR (w : World) (base : Nat) (R : List (Value × List Int)) : Prop where
  own : ∀ r ∈ R, OwnI w base r.1 r.2
  ap : R.Pairwise fun r s => ∀ b, r.1.ownBlock = some b → s.1.ownBlock ≠ some b
theorem own_lt {w : World} {base : Nat} {e : TypeId} {s n : Nat} {v : Value} {xs : List Value} (h : w.ownsRow base e s v n xs) {b : Nat} (hb : v.ownBlock = some b) : base ≤ b ∧ b < w.heap.size := by
  rcases h.2 with ⟨rfl, _⟩ | ⟨g, cap, cur, rfl, hg0, hg, _⟩
  · simp [Value.ownBlock] at hb
  · simp [Value.ownBlock] at hb; subst hb; exact ⟨hg0, lt_of_block hg⟩
theorem OwR.below {w w' : World} {base : Nat} {R : List (Value × List Int)} (h : OwR w base R) (hb : Below w.heap.size w w') : OwR w' base R :=
  ⟨fun r hr => (h.own r hr).below hb, h.ap⟩
/-- What lies elsewhere has turned. -/
theorem OwR.kept {w w' : World} {base : Nat} {R : List (Value × List Int)} (h : OwR w base R) {row : Option Nat} (hg : w.grownBy w' row) (hne : ∀ r ∈ R, ∀ b, r.1.ownBlock = some b → row ≠ some b) : OwR w' base R :=
  ⟨fun r hr => World.ownsRow.kept (h.own r hr) hg (by
    cases hv : r.1.ownBlock with
    | none => exact .inl rfl
    | some b => exact .inr (fun e => hne r hr b hv (by rw [← e]))), h.ap⟩
theorem OwR.perm {w : World} {base : Nat} {R R' : List (Value × List Int)} (h : OwR w base R) (hp : R.Perm R') : OwR w base R' :=
  ⟨fun r hr => h.own r (hp.mem_iff.2 hr), (List.Perm.pairwise_iff (fun {x y} hxy b h1 h2 => hxy b h2 h1) hp).1 h.ap⟩
/-- One of them has turned (in place, or laid anew). -/
theorem OwR.turn {w w' : World} {base : Nat} {v v' : Value} {l l' : List Int} {R : List (Value × List Int)} (h : OwR w base ((v, l) :: R)) (hg : w.grownBy w' v.ownBlock) (ho : OwnI w' base v' l') (hv : v'.ownBlock = v.ownBlock ∨ ∀ b, v'.ownBlock = some b → w.heap.size ≤ b) : OwR w' base ((v', l') :: R) := by
  have h2 := List.pairwise_cons.1 h.ap
  have hk : ∀ r ∈ R, OwnI w' base r.1 r.2 := fun r hr => World.ownsRow.kept (h.own r (List.mem_cons_of_mem _ hr)) hg (by
    cases hb : v.ownBlock with
    | none => cases hv : r.1.ownBlock <;> simp
    | some b => exact .inr (h2.1 r hr b hb))
  refine ⟨fun r hr => ?_, List.pairwise_cons.2 ⟨fun s hs b hb => ?_, h2.2⟩⟩
  · rcases List.mem_cons.1 hr with rfl | hr
    · exact ho
    · exact hk r hr
  · rcases hv with hv | hv
    · exact h2.1 s hs b (hv ▸ hb)
    · intro hsb
      have := (own_lt (h.own s (List.mem_cons_of_mem _ hs)) hsb).2
      have := hv b hb
      omega
theorem OwR.cons {w : World} {base : Nat} {R : List (Value × List Int)} (h : OwR w base R) {v : Value} {l : List Int} (ho : OwnI w base v l) (hn : ∀ r ∈ R, ∀ b, r.1.ownBlock = some b → v.ownBlock ≠ some b) : OwR w base ((v, l) :: R) :=
  ⟨fun r hr => by
    rcases List.mem_cons.1 hr with rfl | hr
    · exact ho
    · exact h.own r hr, List.pairwise_cons.2 ⟨fun s hs b hb hsb => hn s hs b hsb hb, h.ap⟩⟩

/-- Such a row, as a slice. -/
theorem ownI_form {w : World} {base : Nat} {v : Value} {l : List Int} (h : OwnI w base v l) : ∃ ao cap, v = .slice ao l.length cap ∧ l.length ≤ cap ∧ cap ≤ maxLen ∧ (l = [] ∨ ∃ g, ao = some ⟨g, 0, none⟩ ∧ base ≤ g ∧ g < w.heap.size ∧ ∀ j, j < l.length → w.cell? ⟨g, j, none⟩ = some (.int .i64 (l.getD j 0)) ∧ w.frozen? ⟨g, j, none⟩ = false) := by
  rcases h.2 with ⟨rfl, h0⟩ | ⟨g, cap, cur, rfl, hg0, hg, h1, h2, h3, h4⟩
  · have : l = [] := List.length_eq_zero_iff.1 h0
    subst this
    exact ⟨none, 0, rfl, by simp, by simp, .inl rfl⟩
  · refine ⟨_, cap, rfl, h1, h2, .inr ⟨g, rfl, hg0, lt_of_block hg, fun j hj => ⟨?_, frozen_of_heap hg _⟩⟩⟩
    rw [cell_of_heap hg, ← Array.getElem?_toList]
    have : cur.toList[j]? = (cur.toList.take (l.length * 1))[j]? := by rw [List.getElem?_take, if_pos (by omega)]
    rw [this, h4]
    simp [hj]
theorem OwR.set {w w' : World} {base i : Nat} {v : Value} {l l' : List Int} {R : List (Value × List Int)} (h : OwR w base R) (hi : R[i]? = some (v, l)) (hg : w.grownBy w' v.ownBlock) (ho : OwnI w' base v l') : OwR w' base (R.set i (v, l')) := by
  obtain ⟨hlt, he⟩ := List.getElem?_eq_some_iff.1 hi
  have e1 : R = R.take i ++ (v, l) :: R.drop (i + 1) := by rw [← he]; simp
  have e2 : R.set i (v, l') = R.take i ++ (v, l') :: R.drop (i + 1) := by rw [List.set_eq_take_append_cons_drop, if_pos hlt]
  rw [e2]
  rw [e1] at h
  exact ((h.perm List.perm_middle).turn hg ho (.inl rfl)).perm List.perm_middle.symm
/-- One cell of an owned row is set. -/
theorem own_put {w : World} {base : Nat} {e : TypeId} {s n g cap : Nat} {xs : List Value} {i : Nat} {u : Value} (h : w.ownsRow base e s (.slice (some ⟨g, 0, none⟩) n cap) n xs) (hi : i < xs.length) : (w.setCell ⟨g, i, none⟩ u).ownsRow base e s (.slice (some ⟨g, 0, none⟩) n cap) n (xs.set i u) := by
  obtain ⟨h1, h2⟩ := h
  refine ⟨by simpa using h1, ?_⟩
  rcases h2 with ⟨h2, _⟩ | ⟨g', cap', cur, h3, hb, hg, hn, hm, hs, ht⟩
  · cases h2
  · cases h3
    refine .inr ⟨g, cap, cur.setIfInBounds i u, rfl, hb, heap_setCell_same w g i cur e u hg, hn, hm, by simpa using hs, ?_⟩
    rw [← ht]
    simp [List.take_set]

theorem own_same' {w w' : World} {base : Nat} {e : TypeId} {s n : Nat} {v : Value} {xs : List Value} (h : w.ownsRow base e s v n xs) (hb : ∀ b, v.ownBlock = some b → w'.heap[b]? = w.heap[b]?) : w'.ownsRow base e s v n xs := by
  rcases h with ⟨h1, h2⟩
  refine ⟨h1, ?_⟩
  rcases h2 with h2 | ⟨g, cap, cur, rfl, hg, h3, r⟩
  · exact .inl h2
  · exact .inr ⟨g, cap, cur, rfl, hg, (hb g rfl).trans h3, r⟩
theorem own_set' {w : World} {base p o : Nat} {e : TypeId} {s n : Nat} {v u : Value} {xs : List Value} (h : w.ownsRow base e s v n xs) (hp : v.ownBlock ≠ some p) : (w.setCell ⟨p, o, none⟩ u).ownsRow base e s v n xs :=
  own_same' h fun b hb => Deep.blk_setCell_other _ _ _ _ (by show b ≠ p; intro e; subst e; exact hp hb)

end Go.Proofs.YtlbmijcpalfaeaaGreatDoor.Gt

set_option linter.unusedSimpArgs false
set_option linter.unusedVariables false
namespace Go.Proofs.YtlbmijcpalfaeaaGreatDoor
open Go.RowKit Go.Lib Go.Sort

theorem TbM.fresh (w : World) : TbM (w.alloc (.cells #[.slice none 0 0, .map none] 87)) w.heap.size (.slice none 0 0) (.map none) [] :=
  ⟨Deep.blk_alloc_new _ _, World.ownsRow_nil _ _ _ _, .inl ⟨rfl, rfl⟩, TbI.nil, by simp⟩

set_option maxHeartbeats 1000000 in
theorem tlen_any (w : World) (p : Nat) (ev mv : Value) (L : List Nd) (h : TbM w p ev mv L) : Calls Tryz.prog 113 #[.pointer (some ⟨p, 0, none⟩)] w fun e w' => e = .returned (.int .i64 L.length) ∧ w' = w := by
  obtain ⟨ao, cap, rfl⟩ := h.form
  have c0 := h.c0
  go_enter Tryz.func113, Tryz.ntmps113
  go_wp2
  go_ret
  exact ⟨rfl, rfl⟩
/-- Is it an entry's number? -/
def hasT (L : List Nd) (a : Int) : Bool := decide (0 ≤ a) && decide (a < (L.length : Int))
theorem hasT_iff {L : List Nd} {a : Int} : hasT L a = true ↔ ∃ k : Nat, a = k ∧ k < L.length := by
  unfold hasT
  simp only [Bool.and_eq_true, decide_eq_true_eq]
  constructor
  · rintro ⟨h1, h2⟩; exact ⟨a.toNat, by omega, by omega⟩
  · rintro ⟨k, rfl, h⟩; omega
set_option maxHeartbeats 1000000 in
theorem thas_any (w : World) (p : Nat) (ev mv : Value) (L : List Nd) (a : Int) (h : TbM w p ev mv L) : Calls Tryz.prog 103 #[.pointer (some ⟨p, 0, none⟩), .int .i64 a] w fun e w' => e = .returned (.bool (hasT L a)) ∧ w' = w := by
  have HL : Hid (∀ V, V = w → Calls Tryz.prog 113 #[.pointer (some ⟨p, 0, none⟩)] V fun e w' => e = .returned (.int .i64 L.length) ∧ w' = w) := fun V hV => by subst hV; exact tlen_any V p ev mv L h
  unfold hasT
  by_cases h0 : 0 ≤ a
  · obtain ⟨N, hN⟩ : ∃ N, L.length = N := ⟨_, rfl⟩
    rw [hN] at HL ⊢
    clear hN
    go_enter Tryz.func103, Tryz.ntmps103
    go_wp2_with (go_at_call 113; refine (HL.out _ rfl).mono ?_; rintro e w' ⟨rfl, rfl⟩)
    go_ret
    exact ⟨by simp [h0], rfl⟩
  · go_enter Tryz.func103, Tryz.ntmps103
    go_wp2
    go_ret
    exact ⟨by rw [show decide (0 ≤ a) = false from decide_eq_false (by omega), Bool.false_and]; rfl, rfl⟩
set_option maxHeartbeats 1000000 in
theorem tfits_any (op n : Int) (nm : ByteArray) (ka : Option Addr) (kl kc : Nat) (w : World) (hT : SpanCells w) :
    Calls Tryz.prog 102 #[.agg #[.int .i64 op, .int .i64 n, .string nm, .slice ka kl kc]] w fun e w' => e = .returned (.bool (fitB op n nm kl)) ∧ Below w.heap.size w w' := by
  have HF : Hid (fitB op n nm kl = (!(arE op != 0) && !((kl : Int) != arK op) && !(n != 0 && op != 1) && (if op = 2 then nameB nm else nm.toList.isEmpty))) := by
    show _ = _
    by_cases h : 0 ≤ aritI op
    · rw [(ar_of rfl h).1, (ar_of rfl h).2]
      unfold fitB
      rw [Bool.eq_iff_iff]
      simp [h]
    · have h1 : aritI op = -1 := by have := aritI_ge op; omega
      rw [(ar_none h1).1, (ar_none h1).2]
      unfold fitB
      simp [h1]
  have ca : Hid (∀ W, Calls Tryz.prog 51 #[.int .i64 op] W fun e w' => e = .returned (.tuple #[.int .i64 (arK op), .int .i64 (arE op)]) ∧ w' = W) := arity_any op
  generalize arK op = k at *
  generalize arE op = x at *
  obtain ⟨w1, hw1⟩ : ∃ w1, w.alloc (.cells #[.int .i64 op, .int .i64 n, .string nm, .slice ka kl kc] 41) = w1 := ⟨_, rfl⟩
  have HB1 : Hid (Below w.heap.size w w1) := by rw [← hw1]; exact (Below.refl _ _).alloc (Nat.le_refl _) _
  have hT1 : SpanCells w1 := hT.below (by rw [← hw1]; exact (Below.refl _ _).alloc (Nat.le_refl _) _)
  have c0 : w1.cell? ⟨w.heap.size, 0, none⟩ = some (.int .i64 op) := by rw [← hw1]; simp
  have c1 : w1.cell? ⟨w.heap.size, 1, none⟩ = some (.int .i64 n) := by rw [← hw1]; simp
  have c2 : w1.cell? ⟨w.heap.size, 2, none⟩ = some (.string nm) := by rw [← hw1]; simp
  have c3 : w1.cell? ⟨w.heap.size, 3, none⟩ = some (.slice ka kl kc) := by rw [← hw1]; simp
  have HW : Hid (w.alloc (.cells #[.int .i64 op, .int .i64 n, .string nm, .slice ka kl kc] 41) = w1) := hw1
  have hsz1 : w.heap.size ≤ w1.heap.size := HB1.out.size
  clear hw1
  go_enter Tryz.func102, Tryz.ntmps102
  go_wp2_with fail
  rw [HW.out]
  go_wp2_with (first | (go_at_call 51; refine (ca.out _).mono ?_; rintro e w' ⟨rfl, rfl⟩) | (go_at_call 52; refine (name_spans _ _ hT1).mono ?_; rintro e w' ⟨rfl, hb⟩))
  all_goals
    go_ret
    first
    | exact ⟨ret_bool (by rw [HF.out]; simp_all), HB1.out.trans (hb.mono hsz1)⟩
    | exact ⟨ret_bool (by rw [HF.out]; simp_all), HB1.out⟩
end Go.Proofs.YtlbmijcpalfaeaaGreatDoor

set_option linter.unusedSimpArgs false
set_option linter.unusedVariables false
set_option linter.unusedSectionVars false
namespace Go.Proofs.YtlbmijcpalfaeaaGreatDoor.Gt
open Go.RowKit Go.Lib Go.Sort
variable [Gr]

set_option maxHeartbeats 1000000 in
theorem tlen_any (w : World) (p : Nat) (ev mv : Value) (L : List Nd) (h : TbM w p ev mv L) : Calls Tryz.prog 113 #[.pointer (some ⟨p, 0, none⟩)] w fun e w' => e = .returned (.int .i64 L.length) ∧ w' = w := by
  obtain ⟨ao, cap, rfl⟩ := h.form
  have c0 := h.c0
  go_enter Tryz.func113, Tryz.ntmps113
  go_wp2
  go_ret
  exact ⟨rfl, rfl⟩
set_option maxHeartbeats 1000000 in
theorem thas_any (w : World) (p : Nat) (ev mv : Value) (L : List Nd) (a : Int) (h : TbM w p ev mv L) : Calls Tryz.prog 103 #[.pointer (some ⟨p, 0, none⟩), .int .i64 a] w fun e w' => e = .returned (.bool (hasT L a)) ∧ w' = w := by
  have HL : Hid (∀ V, V = w → Calls Tryz.prog 113 #[.pointer (some ⟨p, 0, none⟩)] V fun e w' => e = .returned (.int .i64 L.length) ∧ w' = w) := fun V hV => by subst hV; exact tlen_any V p ev mv L h
  unfold hasT
  by_cases h0 : 0 ≤ a
  · obtain ⟨N, hN⟩ : ∃ N, L.length = N := ⟨_, rfl⟩
    rw [hN] at HL ⊢
    clear hN
    go_enter Tryz.func103, Tryz.ntmps103
    go_wp2_with (go_at_call 113; refine (HL.out _ rfl).mono ?_; rintro e w' ⟨rfl, rfl⟩)
    go_ret
    exact ⟨by simp [h0], rfl⟩
  · go_enter Tryz.func103, Tryz.ntmps103
    go_wp2
    go_ret
    exact ⟨by rw [show decide (0 ≤ a) = false from decide_eq_false (by omega), Bool.false_and]; rfl, rfl⟩
end Go.Proofs.YtlbmijcpalfaeaaGreatDoor.Gt

set_option linter.unusedSimpArgs false
set_option linter.unusedVariables false
namespace Go.Proofs.YtlbmijcpalfaeaaGreatDoor
open Go.RowKit Go.Lib Go.Sort

theorem splice_kids (a b c : Value) {ks : List Int} (h : ks.length ≤ 3) : splice [a, b, c, .int .i64 0, .int .i64 0, .int .i64 0] 3 (ks.map (Value.int .i64)) = [a, b, c, .int .i64 (ks.getD 0 0), .int .i64 (ks.getD 1 0), .int .i64 (ks.getD 2 0)] := by
  match ks, h with
  | [], _ => rfl
  | [x], _ => rfl
  | [x, y], _ => rfl
  | [x, y, z], _ => rfl
  | x :: y :: z :: u :: r, h => simp at h
theorem blk6 {w : World} {b : Nat} {a c d e f g : Value} {t : TypeId} (h : w.heap[b]? = some (.cells #[a, c, d, e, f, g] t (0, 0))) : w.cell? ⟨b, 0, none⟩ = some a ∧ w.cell? ⟨b, 1, none⟩ = some c ∧ w.cell? ⟨b, 2, none⟩ = some d ∧ w.cell? ⟨b, 3, none⟩ = some e ∧ w.cell? ⟨b, 4, none⟩ = some f ∧ w.cell? ⟨b, 5, none⟩ = some g ∧ ∀ o, w.frozen? ⟨b, o, none⟩ = false := by
  simp [World.cell?, World.frozen?, h]

theorem set6 {w : World} {b : Nat} {a0 a1 a2 a3 a4 a5 : Value} {t : TypeId} (h : w.heap[b]? = some (.cells #[a0, a1, a2, a3, a4, a5] t (0, 0))) (v0 v1 v2 v3 v4 v5 : Value) :
    ((((((w.setCell ⟨b, 0, none⟩ v0).setCell ⟨b, 1, none⟩ v1).setCell ⟨b, 2, none⟩ v2).setCell ⟨b, 3, none⟩ v3).setCell ⟨b, 4, none⟩ v4).setCell ⟨b, 5, none⟩ v5).heap[b]? = some (.cells #[v0, v1, v2, v3, v4, v5] t (0, 0)) := by
  have h0 := heap_setCell_same w b 0 _ t v0 h
  have h1 := heap_setCell_same _ b 1 _ t v1 h0
  have h2 := heap_setCell_same _ b 2 _ t v2 h1
  have h3 := heap_setCell_same _ b 3 _ t v3 h2
  have h4 := heap_setCell_same _ b 4 _ t v4 h3
  have h5 := heap_setCell_same _ b 5 _ t v5 h4
  simpa using h5
theorem below_set6 {B : Nat} {w0 w : World} {b : Nat} (h : Below B w0 w) (hb : B ≤ b) (v0 v1 v2 v3 v4 v5 : Value) : Below B w0 ((((((w.setCell ⟨b, 0, none⟩ v0).setCell ⟨b, 1, none⟩ v1).setCell ⟨b, 2, none⟩ v2).setCell ⟨b, 3, none⟩ v3).setCell ⟨b, 4, none⟩ v4).setCell ⟨b, 5, none⟩ v5) :=
  (((((h.setCell hb _).setCell hb _).setCell hb _).setCell hb _).setCell hb _).setCell hb _

set_option maxRecDepth 20000 in
set_option maxHeartbeats 2000000 in
theorem shaped_any (op n : Int) (nm : ByteArray) (ks : List Int) (ka : Option Addr) (kc : Nat) (w : World) (hI : Ints w w.heap.size (.slice ka ks.length kc) ks) (h3 : ks.length ≤ 3) :
    Calls Tryz.prog 104 #[.agg #[.int .i64 op, .int .i64 n, .string nm, .slice ka ks.length kc]] w fun e w' => e = .returned (shV ⟨op, n, nm, ks⟩) ∧ Below w.heap.size w w' := by
  obtain ⟨ao, cap, hv, hl, ⟨hm, hnn⟩, hc⟩ := hI
  simp only [Value.slice.injEq, true_and] at hv
  obtain ⟨rfl, rfl⟩ := hv
  obtain ⟨j0, hj, hy0, hy1, hy2⟩ := info_parts Tryz.info3
  have hsz : (Tryz.prog.info? 3).map (·.size) = some 1 := by rw [hj]; simp [hy1]
  unfold maxLen at hm
  obtain ⟨w3, hw3⟩ : ∃ w3, ((w.alloc (.cells #[.int .i64 op, .int .i64 n, .string nm, .slice ka ks.length kc] 41)).alloc (.cells #[.int .i64 0, .int .i64 0, .string ⟨#[]⟩, .int .i64 0, .int .i64 0, .int .i64 0] 143)).alloc (.cells #[.int .i64 op, .int .i64 n, .string nm, .int .i64 0, .int .i64 0, .int .i64 0] 143) = w3 := ⟨_, rfl⟩
  have HB3 : Hid (Below w.heap.size w w3) := by rw [← hw3]; exact (((Below.refl _ _).alloc (Nat.le_refl _) _).alloc (by simp) _).alloc (by simp; omega) _
  have hsz3 : w3.heap.size = w.heap.size + 3 := by rw [← hw3]; simp
  have hbs : w3.heap[w.heap.size + 2]? = some (.cells [.int .i64 op, .int .i64 n, .string nm, .int .i64 0, .int .i64 0, .int .i64 0].toArray 143 (0, 0)) := by
    rw [← hw3]
    have := Deep.blk_alloc_new ((w.alloc (.cells #[.int .i64 op, .int .i64 n, .string nm, .slice ka ks.length kc] 41)).alloc (.cells #[.int .i64 0, .int .i64 0, .string ⟨#[]⟩, .int .i64 0, .int .i64 0, .int .i64 0] 143)) (.cells #[.int .i64 op, .int .i64 n, .string nm, .int .i64 0, .int .i64 0, .int .i64 0] 143)
    simpa using this
  have hbr : w3.heap[w.heap.size + 1]? = some (.cells #[.int .i64 0, .int .i64 0, .string ⟨#[]⟩, .int .i64 0, .int .i64 0, .int .i64 0] 143 (0, 0)) := by
    rw [← hw3, Deep.blk_alloc_lt _ _ _ (by simp)]
    have := Deep.blk_alloc_new (w.alloc (.cells #[.int .i64 op, .int .i64 n, .string nm, .slice ka ks.length kc] 41)) (.cells #[.int .i64 0, .int .i64 0, .string ⟨#[]⟩, .int .i64 0, .int .i64 0, .int .i64 0] 143)
    simpa using this
  have ck : w3.cell? ⟨w.heap.size, 3, none⟩ = some (.slice ka ks.length kc) := by
    rw [← hw3]
    simp (disch := (first | (simp; done) | (simp; omega))) [World.cell?_alloc_past, World.cell?_alloc_at]
  have HSRC : Hid (∀ ad, ka = some ad → ∀ j u, (ks.map (Value.int .i64))[j]? = some u → w3.cell? (ad.add j) = some u) := src_cells hc HB3.out
  have HBS : Hid (w3.heap[w.heap.size + 2]? = some (.cells [.int .i64 op, .int .i64 n, .string nm, .int .i64 0, .int .i64 0, .int .i64 0].toArray 143 (0, 0))) := hbs
  have HBR : Hid (w3.heap[w.heap.size + 1]? = some (.cells #[.int .i64 0, .int .i64 0, .string ⟨#[]⟩, .int .i64 0, .int .i64 0, .int .i64 0] 143 (0, 0))) := hbr
  have HW : Hid (((w.alloc (.cells #[.int .i64 op, .int .i64 n, .string nm, .slice ka ks.length kc] 41)).alloc (.cells #[.int .i64 0, .int .i64 0, .string ⟨#[]⟩, .int .i64 0, .int .i64 0, .int .i64 0] 143)).alloc (.cells #[.int .i64 op, .int .i64 n, .string nm, .int .i64 0, .int .i64 0, .int .i64 0] 143) = w3) := hw3
  have HSZ : Hid (w3.heap.size = w.heap.size + 3) := hsz3
  have HNN : Hid (ks.length ≠ 0 → ∃ ad, ka = some ad) := fun h => by
    cases ka with
    | none => have := hnn rfl; omega
    | some ad => exact ⟨ad, rfl⟩
  obtain ⟨N, hN⟩ : ∃ N, ks.length = N := ⟨_, rfl⟩
  have HN : Hid (ks.length = N) := hN
  rw [hN] at ck ⊢
  rw [hN] at HW HNN h3 hl
  clear hw3 hbs hbr hc hsz3 hnn hN
  have HPOS : Hid (0 < (ks.map (Value.int .i64)).length → ∃ ad, ka = some ad ∧ ∀ j u, (ks.map (Value.int .i64))[j]? = some u → w3.drew.cell? (ad.add j) = some u) := fun h => by
    obtain ⟨ad, had⟩ := HNN.out (by rw [List.length_map, HN.out] at h; omega)
    exact ⟨ad, had, HSRC.out ad had⟩
  have HSP : Hid (splice [.int .i64 op, .int .i64 n, .string nm, .int .i64 0, .int .i64 0, .int .i64 0] 3 (ks.map (Value.int .i64)) = [.int .i64 op, .int .i64 n, .string nm, .int .i64 (ks.getD 0 0), .int .i64 (ks.getD 1 0), .int .i64 (ks.getD 2 0)]) := splice_kids _ _ _ (by rw [HN.out]; exact h3)
  unfold shV
  show Calls _ _ _ _ fun e w' => e = .returned (.agg #[.int .i64 op, .int .i64 n, .string nm, .int .i64 (ks.getD 0 0), .int .i64 (ks.getD 1 0), .int .i64 (ks.getD 2 0)]) ∧ _
  generalize ks.getD 0 0 = k0 at *
  generalize ks.getD 1 0 = k1 at *
  generalize ks.getD 2 0 = k2 at *
  go_enter Tryz.func104, Tryz.ntmps104
  go_wp2_with fail
  rw [HW.out]
  go_region_held3 (fun W => W.cell? ⟨w.heap.size, 3, none⟩ = some (.slice ka N kc)) (go_keep) (first | (refine step_copy_splice rfl (.tmp 12) (.tmp 14) 24 24 rfl 3 Tryz.underlying24 hsz (some ⟨w.heap.size + 2, 3, none⟩) ka 3 3 N kc rfl rfl (w.heap.size + 2) 3 [.int .i64 op, .int .i64 n, .string nm, .int .i64 0, .int .i64 0, .int .i64 0] 143 HBS.out (ks.map (Value.int .i64)) (by rw [List.length_map, HN.out]; exact (Nat.min_eq_left h3).symm) (fun h => ⟨rfl, HPOS.out h⟩) (by rw [List.length_map, HN.out]; show 3 + N ≤ 6; omega) (ints_oneCell _ _) (w.heap.size + 2) w3 (Below.refl _ _).drew (Nat.le_refl _) ?_; intro w4 hg4 hb4; have hk4 : w4.cell? ⟨w.heap.size, 3, none⟩ = some (.slice ka N kc) := (hb4.cell (p := ⟨w.heap.size, 3, none⟩) (by show w.heap.size < w.heap.size + 2; omega)).trans ck))
  have hg5 : w4.heap[w.heap.size + 1 + 1]? = some (.cells #[.int .i64 op, .int .i64 n, .string nm, .int .i64 k0, .int .i64 k1, .int .i64 k2] 143 (0, 0)) := by
    have := hg4.out
    rw [HSP.out] at this
    exact this
  have hg6 : w4.heap[w.heap.size + 1]? = some (.cells #[.int .i64 0, .int .i64 0, .string ⟨#[]⟩, .int .i64 0, .int .i64 0, .int .i64 0] 143 (0, 0)) := (hb4.block _ (by omega)).trans HBR.out
  obtain ⟨s0, s1, s2, s3, s4, s5, sf⟩ := blk6 hg5
  obtain ⟨r0, r1, r2, r3, r4, r5, rf⟩ := blk6 hg6
  have HB4 : Hid (Below w.heap.size w w4) := HB3.out.trans (hb4.mono (by omega))
  clear hg4 hg5 hb4
  go_wp2_with fail
  have hS := set6 hg6 (.int .i64 op) (.int .i64 n) (.string nm) (.int .i64 k0) (.int .i64 k1) (.int .i64 k2)
  have HBE := below_set6 HB4.out (Nat.le_add_right _ 1) (.int .i64 op) (.int .i64 n) (.string nm) (.int .i64 k0) (.int .i64 k1) (.int .i64 k2)
  generalize (((((w4.setCell ⟨w.heap.size + 1, 0, none⟩ (.int .i64 op)).setCell ⟨w.heap.size + 1, 1, none⟩ (.int .i64 n)).setCell ⟨w.heap.size + 1, 2, none⟩ (.string nm)).setCell ⟨w.heap.size + 1, 3, none⟩ (.int .i64 k0)).setCell ⟨w.heap.size + 1, 4, none⟩ (.int .i64 k1)).setCell ⟨w.heap.size + 1, 5, none⟩ (.int .i64 k2) = W at *
  obtain ⟨y0, y1, y2, y3, y4, y5, _⟩ := blk6 hS
  refine bodyPost_ret (v := .agg #[.int .i64 op, .int .i64 n, .string nm, .int .i64 k0, .int .i64 k1, .int .i64 k2]) (by simp [results, Tryz.results104, go_sem, y0, y1, y2, y3, y4, y5]) rfl ⟨rfl, HBE⟩
end Go.Proofs.YtlbmijcpalfaeaaGreatDoor
