/-
  TableNil, walked.
-/
import Derived.Test.YtaonednimkoeiaaDoorTbN
set_option linter.unusedSimpArgs false
set_option linter.unusedVariables false
namespace Go.Proofs.YtaonednimkoeiaaDoor
open Go.RowKit Go.Lib Go.Sort Go.Maps Go.Shelf
attribute [local go_sem] Oper.semAt_some

theorem eqf_some (f : Fn) (lb : Array Value) (w : World) : (binOp .eql 67 (.func f #[] lb) .nilFunc).run Tryd.prog w = .ok (.bool false) w := by kernel_rfl

/-- A range over a function that yields nothing. -/
theorem range_none {F : Fence} {n : Nat} {P : Program} {g : Operand} {ps : Array Tmp} {body : Code} {Q : Exit → Act → World → Prop} {a : Act} {w : World}
    (hro : F.round = none) (h1 : 1 ≤ n) {gf : Nat} {lb : Array Value} (hg : a.eval g = .func (.func gf) #[] lb) (hFg : F.fn gf) (eg : ∀ args w, (callFunc gf args).run P w = .ok (.enter gf args) w)
    (hseq : ∀ (l : Nat) (J : Nat → World → Prop) (W : World), Below w.heap.size w W → J 0 W →
      CallsIn F (n - 1) P gf (#[.func (.yield l) #[] #[]] ++ lb) W fun e W' => (∃ v, e = .returned v) ∧ J 0 W')
    (hdone : ∀ (D : Nat) (W : World), w.heap.size ≤ D → Below w.heap.size w W → W.heap[D]? = some (.deferred (some [])) → Q .normal { a with defers := { target := .collected D, args := #[] } :: a.defers } W) :
    (Code.rangeFunc g ps .skip body).wpIn F n P Q a w :=
  range_seqQ (gf := gf) (lb := lb) hro h1 hg hFg eg 0 (fun _ => Array.replicate ps.size undef) (fun _ => by simp) (fun _ _ => True) (fun _ _ => trivial)
    (fun W l o o' hl ho hc => trivial)
    (fun l J Jx W hW hY h0 => (hseq l J W hW h0).mono (fun e W' h => ⟨h.1, .inl h.2⟩))
    (fun _ W => Below w.heap.size w W) (fun _ _ _ => False) (ownFrom_below (Nat.le_refl _) (Nat.le_refl _)) (fun _ _ _ _ _ h _ _ => h) (Below.refl _ _)
    (fun k => { tmps := (ps.zip (Array.replicate ps.size undef)).foldl (fun t (p, v) => t.setIfInBounds p v) a.tmps, defers := [] })
    (fun l k W K hK => by gi_wp2; simpa using hK) (fun l k W _ hk _ => absurd hk (Nat.not_lt_zero _)) (fun D W hD hI hK => hdone D W hD hI hK) (fun _ _ _ _ _ hk _ _ => absurd hk (Nat.not_lt_zero _))

set_option maxRecDepth 100000 in
set_option maxHeartbeats 8000000 in
theorem tableNil_in (w : World) (hT : SpanCells w) : CallsIn Fence.wide 4 Tryd.prog 6 #[] w fun e w' => e = .returned (.bool true) ∧ Below w.heap.size w w' := by
  obtain ⟨wz, hwz⟩ : ∃ wz, w.alloc (.cells #[.int .i64 0, .int .i64 0, .string ⟨#[]⟩, .slice none 0 0] 59) = wz := ⟨_, rfl⟩
  have hBz : Below w.heap.size w wz := by rw [← hwz]; exact (Below.refl _ _).alloc (Nat.le_refl _) _
  have hbz : wz.heap[w.heap.size]? = some (.cells #[.int .i64 0, .int .i64 0, .string ⟨#[]⟩, .slice none 0 0] 59 (0, 0)) := by rw [← hwz, Deep.blk_alloc_new]
  obtain ⟨z0, z1, z2, z3, zf⟩ := blk4 hbz
  have hb1 := set4 hbz (.int .i64 1) (.int .i64 0) (.string ⟨#[]⟩) (.slice none 0 0)
  have hB1 := below_set4 hBz (Nat.le_refl w.heap.size) (.int .i64 1) (.int .i64 0) (.string ⟨#[]⟩) (.slice none 0 0)
  obtain ⟨w1, hw1⟩ : ∃ w1, (((wz.setCell ⟨w.heap.size, 0, none⟩ (.int .i64 1)).setCell ⟨w.heap.size, 1, none⟩ (.int .i64 0)).setCell ⟨w.heap.size, 2, none⟩ (.string ⟨#[]⟩)).setCell ⟨w.heap.size, 3, none⟩ (.slice none 0 0) = w1 := ⟨_, rfl⟩
  rw [hw1] at hb1 hB1
  have HB1 : Sld (Below w.heap.size w w1) := ⟨hB1⟩
  have hl1 := lt_of_block hb1
  have HCE : Sld (∀ W, Below w1.heap.size w1 W → W.cell? ⟨w.heap.size, 0, none⟩ = some (.int .i64 1) ∧ W.cell? ⟨w.heap.size, 1, none⟩ = some (.int .i64 0) ∧ W.cell? ⟨w.heap.size, 2, none⟩ = some (.string ⟨#[]⟩) ∧ W.cell? ⟨w.heap.size, 3, none⟩ = some (.slice none 0 0)) := ⟨fun W hW => by
    obtain ⟨q0, q1, q2, q3, _⟩ := blk4 ((hW.block _ hl1).trans hb1)
    exact ⟨q0, q1, q2, q3⟩⟩
  have HT : Sld (SpanCells w) := ⟨hT⟩
  obtain ⟨b0, b1, b2, b3⟩ := HCE.out w1 (Below.refl _ _)
  clear hb1 hT hl1 hBz hbz hB1
  refine callsIn_of_wp_marks Tryd.func6 rfl trivial ?_ rfl
  simp only [Tryd.ntmps6, List.size_toArray, List.length_cons, List.length_nil, Nat.reduceAdd, Nat.reduceSub, Array.replicate_succ, Array.replicate_zero, List.push_toArray, List.append_toArray, List.nil_append, List.cons_append]
  gi_wp2_with fail
  try rw [hw1]
  clear hw1 hwz z0 z1 z2 z3 zf
  refine ⟨trivial, ((callsIn_wide (n := 3)).2 (nil_put w1 1 0 ⟨#[]⟩ none 0 0)).mono ?_⟩
  rintro e w2 ⟨rfl, hb2⟩
  have HB2 : Sld (Below w1.heap.size w1 w2) := ⟨hb2⟩
  obtain ⟨c0, c1, c2, c3⟩ := HCE.out w2 hb2
  clear hb2 b0 b1 b2 b3
  gi_wp2_with fail
  refine ⟨trivial, ((callsIn_wide (n := 3)).2 (nil_find w2 1 0 ⟨#[]⟩ none 0 0)).mono ?_⟩
  rintro e w3 ⟨rfl, hb3⟩
  have HB3 : Sld (Below w1.heap.size w1 w3) := ⟨HB2.out.trans (hb3.mono HB2.out.size)⟩
  clear hb3 c0 c1 c2 c3
  gi_wp2_with fail
  refine ⟨trivial, ((callsIn_wide (n := 3)).2 (nil_node w3 0)).mono ?_⟩
  rintro e w4 ⟨rfl, hb4⟩
  have hb4' := HB3.out.trans (hb4.mono HB3.out.size)
  have HB4 : Sld (Below w1.heap.size w1 w4) := ⟨hb4'⟩
  obtain ⟨c0, c1, c2, c3⟩ := HCE.out w4 hb4'
  have hlt4 : w.heap.size < w4.heap.size := World.block_lt_of_cell? w4 _ c0
  have hne4 : w.heap.size ≠ w4.heap.size := by omega
  have hne4' : w4.heap.size ≠ w.heap.size := by omega
  clear hb4 hb4'
  gi_wp2_with fail
  refine ⟨trivial, ((callsIn_wide (n := 3)).2 (nil_add _ _)).mono ?_⟩
  rintro e w5 ⟨rfl, hw5⟩
  have hB5 : Below w4.heap.size w4 w5 := by rw [hw5]; exact ((Below.refl _ _).alloc (Nat.le_refl _) _).alloc (by simp) _
  have hx5 : w5.heap[w4.heap.size]? = some (.cells #[.int .i64 0, .int .i64 0, .string ⟨#[]⟩, .slice none 0 0] 59 (0, 0)) := by rw [hw5, Deep.blk_alloc_lt _ _ _ (by simp), Deep.blk_alloc_new]
  have HB5 : Sld (Below w1.heap.size w1 w5) := ⟨HB4.out.trans (hB5.mono HB4.out.size)⟩
  have HX5 : Sld (w5.heap[w4.heap.size]? = some (.cells #[.int .i64 0, .int .i64 0, .string ⟨#[]⟩, .slice none 0 0] 59 (0, 0))) := ⟨hx5⟩
  clear hw5 hB5 hx5 c0 c1 c2 c3
  gi_wp2_with fail
  refine ⟨trivial, ((callsIn_wide (n := 3)).2 (nil_expr _ _)).mono ?_⟩
  rintro e w6 ⟨rfl, hw6⟩
  subst hw6
  gi_wp2_with fail
  refine ⟨trivial, ((callsIn_wide (n := 3)).2 (nil_size _ _)).mono ?_⟩
  rintro e w7 ⟨rfl, hw7⟩
  subst hw7
  gi_wp2_with fail
  refine ⟨trivial, ((callsIn_wide (n := 3)).2 (nil_all _)).mono ?_⟩
  rintro e w8 ⟨rfl, hw8⟩
  have hB8 : Below w7.heap.size w7 w8 := by rw [hw8]; exact (Below.refl _ _).alloc (Nat.le_refl _) _
  have hsz8 : w8.heap.size = w7.heap.size + 1 := by rw [hw8]; simp
  have hx8 : w8.heap[w7.heap.size]? = some (.cells #[.slice none 0 0] 96 (0, 0)) := by rw [hw8, Deep.blk_alloc_new]
  have HB8 : Sld (Below w1.heap.size w1 w8) := ⟨HB5.out.trans (hB8.mono HB5.out.size)⟩
  have HX8 : Sld (w8.heap[w4.heap.size]? = some (.cells #[.int .i64 0, .int .i64 0, .string ⟨#[]⟩, .slice none 0 0] 59 (0, 0)) ∧ w8.heap[w7.heap.size]? = some (.cells #[.slice none 0 0] 96 (0, 0))) := ⟨(hB8.block _ (lt_of_block HX5.out)).trans HX5.out, hx8⟩
  clear hw8 hB8 hsz8 hx8
  have hef := eqf_some
  gi_wp2_with fail
  clear hef
  obtain ⟨w9, hw9⟩ : ∃ w9, w8.alloc (.cells #[.int .i64 0] 3) = w9 := ⟨_, rfl⟩
  rw [hw9]
  have hB9 : Below w8.heap.size w8 w9 := by rw [← hw9]; exact (Below.refl _ _).alloc (Nat.le_refl _) _
  have hk9 : w9.heap[w8.heap.size]? = some (.cells #[.int .i64 0] 3 (0, 0)) := by rw [← hw9, Deep.blk_alloc_new]
  have hx9 := (hB9.block _ (lt_of_block HX8.out.1)).trans HX8.out.1
  have hl9 := (hB9.block _ (lt_of_block HX8.out.2)).trans HX8.out.2
  have HB9 : Below w1.heap.size w1 w9 := HB8.out.trans (hB9.mono HB8.out.size)
  clear hw9 hB9
  refine range_none (gf := 71) (lb := #[.pointer (some ⟨w7.heap.size, 0, none⟩)]) rfl (by omega) rfl trivial (enters_of Tryd.func71 (by kernel_rfl) rfl)
    (fun l J W hW h0 => nil_all1 Fence.wide 3 trivial rfl l w7.heap.size J W (by have hc := (hW.block _ (lt_of_block hl9)).trans hl9; simp [World.cell?, hc]) h0) ?_
  intro D W hD hI hK
  have HKB : Sld (∀ W', Below W.heap.size W W' → Below w1.heap.size w1 W' ∧ D < W'.heap.size ∧ w.heap.size ≤ D ∧ W'.heap[D]? = some (.deferred (some [])) ∧ W'.cell? ⟨w8.heap.size, 0, none⟩ = some (.int .i64 0) ∧ W'.cell? ⟨w4.heap.size, 0, none⟩ = some (.int .i64 0)) := ⟨fun W' hW' => by
    have hB : Below w9.heap.size w9 W' := hI.trans (hW'.mono hI.size)
    have e1 := (hB.block _ (lt_of_block hk9)).trans hk9
    have e2 := (hB.block _ (lt_of_block hx9)).trans hx9
    exact ⟨HB9.trans (hB.mono HB9.size), Nat.lt_of_lt_of_le (lt_of_block hK) hW'.size, Nat.le_trans HB1.out.size (Nat.le_trans HB9.size hD), (hW'.block _ (lt_of_block hK)).trans hK, by simp [World.cell?, e1], by simp [World.cell?, e2]⟩⟩
  have HTW : Sld (SpanCells W) := ⟨HT.out.below (HB1.out.trans ((HKB.out W (Below.refl _ _)).1.mono HB1.out.size))⟩
  clear hK hI hD hk9 hx9 hl9 HB9
  gi_wp2_with fail
  refine ⟨trivial, ((callsIn_wide (n := 3)).2 (awake10_any _ HTW.out)).mono ?_⟩
  rintro e wa ⟨rfl, hba⟩
  have HBA : Sld (Below W.heap.size W wa) := ⟨hba⟩
  obtain ⟨_, _, _, _, k0, x0⟩ := HKB.out wa hba
  clear hba
  gi_wp2_with fail
  refine ⟨trivial, ((callsIn_wide (n := 3)).2 (tlen_nil _)).mono ?_⟩
  rintro e wb ⟨rfl, hwb⟩
  subst hwb
  gi_wp2_with fail
  obtain ⟨hbw, hDl, hl1, hK', _, _⟩ := HKB.out _ HBA.out
  have hbz := (HB1.out.trans (hbw.mono HB1.out.size)).trans (belowK_b (w := w) (Nat.le_refl _) _ D _ (.deferred none) hl1 hK' rfl rfl)
  refine ⟨by simp, .inl ⟨_, _, rfl, run_takeDeferred hK', ?_⟩⟩
  refine ⟨.bool true, ?_, rfl, hbz⟩
  simp [results, Tryd.f6, go_sem]
theorem tableNil_walk (w : World) (hT : SpanCells w) : Calls Tryd.prog 6 #[] w fun e w' => e = .returned (.bool true) ∧ Below w.heap.size w w' :=
  callsIn_wide.1 (tableNil_in w hT)
end Go.Proofs.YtaonednimkoeiaaDoor
