/-
  Shapes: of a node; their parts; as a node.
-/
import Derived.Test.YtaonednimkoeiaaDoorTbW1
set_option linter.unusedSimpArgs false
set_option linter.unusedVariables false
namespace Go.Proofs.YtaonednimkoeiaaDoor
open Go.RowKit Go.Lib Go.Sort

theorem splice_kids (a b c : Value) {ks : List Int} (h : ks.length ≤ 3) : splice [a, b, c, .int .i64 0, .int .i64 0, .int .i64 0] 3 (ks.map (Value.int .i64)) = [a, b, c, .int .i64 (ks.getD 0 0), .int .i64 (ks.getD 1 0), .int .i64 (ks.getD 2 0)] := by
  match ks, h with
  | [], _ => rfl
  | [x], _ => rfl
  | [x, y], _ => rfl
  | [x, y, z], _ => rfl
  | x :: y :: z :: u :: r, h => simp at h
theorem blk6 {w : World} {b : Nat} {a c d e f g : Value} {t : TypeId} (h : w.heap[b]? = some (.cells #[a, c, d, e, f, g] t (0, 0))) : w.cell? ⟨b, 0, none⟩ = some a ∧ w.cell? ⟨b, 1, none⟩ = some c ∧ w.cell? ⟨b, 2, none⟩ = some d ∧ w.cell? ⟨b, 3, none⟩ = some e ∧ w.cell? ⟨b, 4, none⟩ = some f ∧ w.cell? ⟨b, 5, none⟩ = some g ∧ ∀ o, w.frozen? ⟨b, o, none⟩ = false := by
  simp [World.cell?, World.frozen?, h]

theorem set6 {w : World} {b : Nat} {a0 a1 a2 a3 a4 a5 : Value} {t : TypeId} (h : w.heap[b]? = some (.cells #[a0, a1, a2, a3, a4, a5] t (0, 0))) (v0 v1 v2 v3 v4 v5 : Value) :
    ((((((w.setCell ⟨b, 0, none⟩ v0).setCell ⟨b, 1, none⟩ v1).setCell ⟨b, 2, none⟩ v2).setCell ⟨b, 3, none⟩ v3).setCell ⟨b, 4, none⟩ v4).setCell ⟨b, 5, none⟩ v5).heap[b]? = some (.cells #[v0, v1, v2, v3, v4, v5] t (0, 0)) := by
  have h0 := heap_setCell_same w b 0 _ t v0 h
  have h1 := heap_setCell_same _ b 1 _ t v1 h0
  have h2 := heap_setCell_same _ b 2 _ t v2 h1
  have h3 := heap_setCell_same _ b 3 _ t v3 h2
  have h4 := heap_setCell_same _ b 4 _ t v4 h3
  have h5 := heap_setCell_same _ b 5 _ t v5 h4
  simpa using h5
theorem below_set6 {B : Nat} {w0 w : World} {b : Nat} (h : Below B w0 w) (hb : B ≤ b) (v0 v1 v2 v3 v4 v5 : Value) : Below B w0 ((((((w.setCell ⟨b, 0, none⟩ v0).setCell ⟨b, 1, none⟩ v1).setCell ⟨b, 2, none⟩ v2).setCell ⟨b, 3, none⟩ v3).setCell ⟨b, 4, none⟩ v4).setCell ⟨b, 5, none⟩ v5) :=
  (((((h.setCell hb _).setCell hb _).setCell hb _).setCell hb _).setCell hb _).setCell hb _

set_option maxRecDepth 20000 in
set_option maxHeartbeats 2000000 in
theorem shaped_any (op n : Int) (nm : ByteArray) (ks : List Int) (ka : Option Addr) (kc : Nat) (w : World) (hI : Ints w w.heap.size (.slice ka ks.length kc) ks) (h3 : ks.length ≤ 3) :
    Calls Tryd.prog 69 #[.agg #[.int .i64 op, .int .i64 n, .string nm, .slice ka ks.length kc]] w fun e w' => e = .returned (shV ⟨op, n, nm, ks⟩) ∧ Below w.heap.size w w' := by
  obtain ⟨ao, cap, hv, hl, ⟨hm, hnn⟩, hc⟩ := hI
  simp only [Value.slice.injEq, true_and] at hv
  obtain ⟨rfl, rfl⟩ := hv
  obtain ⟨j0, hj, hy0, hy1, hy2⟩ := info_parts Tryd.info3
  have hsz : (Tryd.prog.info? 3).map (·.size) = some 1 := by rw [hj]; simp [hy1]
  unfold maxLen at hm
  obtain ⟨w3, hw3⟩ : ∃ w3, ((w.alloc (.cells #[.int .i64 op, .int .i64 n, .string nm, .slice ka ks.length kc] 59)).alloc (.cells #[.int .i64 0, .int .i64 0, .string ⟨#[]⟩, .int .i64 0, .int .i64 0, .int .i64 0] 102)).alloc (.cells #[.int .i64 op, .int .i64 n, .string nm, .int .i64 0, .int .i64 0, .int .i64 0] 102) = w3 := ⟨_, rfl⟩
  have HB3 : Hid (Below w.heap.size w w3) := by rw [← hw3]; exact (((Below.refl _ _).alloc (Nat.le_refl _) _).alloc (by simp) _).alloc (by simp; omega) _
  have hsz3 : w3.heap.size = w.heap.size + 3 := by rw [← hw3]; simp
  have hbs : w3.heap[w.heap.size + 2]? = some (.cells [.int .i64 op, .int .i64 n, .string nm, .int .i64 0, .int .i64 0, .int .i64 0].toArray 102 (0, 0)) := by
    rw [← hw3]
    have := Deep.blk_alloc_new ((w.alloc (.cells #[.int .i64 op, .int .i64 n, .string nm, .slice ka ks.length kc] 59)).alloc (.cells #[.int .i64 0, .int .i64 0, .string ⟨#[]⟩, .int .i64 0, .int .i64 0, .int .i64 0] 102)) (.cells #[.int .i64 op, .int .i64 n, .string nm, .int .i64 0, .int .i64 0, .int .i64 0] 102)
    simpa using this
  have hbr : w3.heap[w.heap.size + 1]? = some (.cells #[.int .i64 0, .int .i64 0, .string ⟨#[]⟩, .int .i64 0, .int .i64 0, .int .i64 0] 102 (0, 0)) := by
    rw [← hw3, Deep.blk_alloc_lt _ _ _ (by simp)]
    have := Deep.blk_alloc_new (w.alloc (.cells #[.int .i64 op, .int .i64 n, .string nm, .slice ka ks.length kc] 59)) (.cells #[.int .i64 0, .int .i64 0, .string ⟨#[]⟩, .int .i64 0, .int .i64 0, .int .i64 0] 102)
    simpa using this
  have ck : w3.cell? ⟨w.heap.size, 3, none⟩ = some (.slice ka ks.length kc) := by
    rw [← hw3]
    simp (disch := (first | (simp; done) | (simp; omega))) [World.cell?_alloc_past, World.cell?_alloc_at]
  have HSRC : Hid (∀ ad, ka = some ad → ∀ j u, (ks.map (Value.int .i64))[j]? = some u → w3.cell? (ad.add j) = some u) := src_cells hc HB3.out
  have HBS : Hid (w3.heap[w.heap.size + 2]? = some (.cells [.int .i64 op, .int .i64 n, .string nm, .int .i64 0, .int .i64 0, .int .i64 0].toArray 102 (0, 0))) := hbs
  have HBR : Hid (w3.heap[w.heap.size + 1]? = some (.cells #[.int .i64 0, .int .i64 0, .string ⟨#[]⟩, .int .i64 0, .int .i64 0, .int .i64 0] 102 (0, 0))) := hbr
  have HW : Hid (((w.alloc (.cells #[.int .i64 op, .int .i64 n, .string nm, .slice ka ks.length kc] 59)).alloc (.cells #[.int .i64 0, .int .i64 0, .string ⟨#[]⟩, .int .i64 0, .int .i64 0, .int .i64 0] 102)).alloc (.cells #[.int .i64 op, .int .i64 n, .string nm, .int .i64 0, .int .i64 0, .int .i64 0] 102) = w3) := hw3
  have HSZ : Hid (w3.heap.size = w.heap.size + 3) := hsz3
  have HNN : Hid (ks.length ≠ 0 → ∃ ad, ka = some ad) := fun h => by
    cases ka with
    | none => have := hnn rfl; omega
    | some ad => exact ⟨ad, rfl⟩
  obtain ⟨N, hN⟩ : ∃ N, ks.length = N := ⟨_, rfl⟩
  have HN : Hid (ks.length = N) := hN
  rw [hN] at ck ⊢
  rw [hN] at HW HNN h3 hl
  clear hw3 hbs hbr hc hsz3 hnn hN
  have HPOS : Hid (0 < (ks.map (Value.int .i64)).length → ∃ ad, ka = some ad ∧ ∀ j u, (ks.map (Value.int .i64))[j]? = some u → w3.drew.cell? (ad.add j) = some u) := fun h => by
    obtain ⟨ad, had⟩ := HNN.out (by rw [List.length_map, HN.out] at h; omega)
    exact ⟨ad, had, HSRC.out ad had⟩
  have HSP : Hid (splice [.int .i64 op, .int .i64 n, .string nm, .int .i64 0, .int .i64 0, .int .i64 0] 3 (ks.map (Value.int .i64)) = [.int .i64 op, .int .i64 n, .string nm, .int .i64 (ks.getD 0 0), .int .i64 (ks.getD 1 0), .int .i64 (ks.getD 2 0)]) := splice_kids _ _ _ (by rw [HN.out]; exact h3)
  unfold shV
  show Calls _ _ _ _ fun e w' => e = .returned (.agg #[.int .i64 op, .int .i64 n, .string nm, .int .i64 (ks.getD 0 0), .int .i64 (ks.getD 1 0), .int .i64 (ks.getD 2 0)]) ∧ _
  generalize ks.getD 0 0 = k0 at *
  generalize ks.getD 1 0 = k1 at *
  generalize ks.getD 2 0 = k2 at *
  go_enter Tryd.func69, Tryd.ntmps69
  go_wp2_with fail
  rw [HW.out]
  go_region_held3 (fun W => W.cell? ⟨w.heap.size, 3, none⟩ = some (.slice ka N kc)) (go_keep) (first | (refine step_copy_splice rfl (.tmp 12) (.tmp 14) 57 57 rfl 3 Tryd.underlying57 hsz (some ⟨w.heap.size + 2, 3, none⟩) ka 3 3 N kc rfl rfl (w.heap.size + 2) 3 [.int .i64 op, .int .i64 n, .string nm, .int .i64 0, .int .i64 0, .int .i64 0] 102 HBS.out (ks.map (Value.int .i64)) (by rw [List.length_map, HN.out]; exact (Nat.min_eq_left h3).symm) (fun h => ⟨rfl, HPOS.out h⟩) (by rw [List.length_map, HN.out]; show 3 + N ≤ 6; omega) (ints_oneCell _ _) (w.heap.size + 2) w3 (Below.refl _ _).drew (Nat.le_refl _) ?_; intro w4 hg4 hb4; have hk4 : w4.cell? ⟨w.heap.size, 3, none⟩ = some (.slice ka N kc) := (hb4.cell (p := ⟨w.heap.size, 3, none⟩) (by show w.heap.size < w.heap.size + 2; omega)).trans ck))
  have hg5 : w4.heap[w.heap.size + 1 + 1]? = some (.cells #[.int .i64 op, .int .i64 n, .string nm, .int .i64 k0, .int .i64 k1, .int .i64 k2] 102 (0, 0)) := by
    have := hg4.out
    rw [HSP.out] at this
    exact this
  have hg6 : w4.heap[w.heap.size + 1]? = some (.cells #[.int .i64 0, .int .i64 0, .string ⟨#[]⟩, .int .i64 0, .int .i64 0, .int .i64 0] 102 (0, 0)) := (hb4.block _ (by omega)).trans HBR.out
  obtain ⟨s0, s1, s2, s3, s4, s5, sf⟩ := blk6 hg5
  obtain ⟨r0, r1, r2, r3, r4, r5, rf⟩ := blk6 hg6
  have HB4 : Hid (Below w.heap.size w w4) := HB3.out.trans (hb4.mono (by omega))
  clear hg4 hg5 hb4
  go_wp2_with fail
  have hS := set6 hg6 (.int .i64 op) (.int .i64 n) (.string nm) (.int .i64 k0) (.int .i64 k1) (.int .i64 k2)
  have HBE := below_set6 HB4.out (Nat.le_add_right _ 1) (.int .i64 op) (.int .i64 n) (.string nm) (.int .i64 k0) (.int .i64 k1) (.int .i64 k2)
  generalize (((((w4.setCell ⟨w.heap.size + 1, 0, none⟩ (.int .i64 op)).setCell ⟨w.heap.size + 1, 1, none⟩ (.int .i64 n)).setCell ⟨w.heap.size + 1, 2, none⟩ (.string nm)).setCell ⟨w.heap.size + 1, 3, none⟩ (.int .i64 k0)).setCell ⟨w.heap.size + 1, 4, none⟩ (.int .i64 k1)).setCell ⟨w.heap.size + 1, 5, none⟩ (.int .i64 k2) = W at *
  obtain ⟨y0, y1, y2, y3, y4, y5, _⟩ := blk6 hS
  refine bodyPost_ret (v := .agg #[.int .i64 op, .int .i64 n, .string nm, .int .i64 k0, .int .i64 k1, .int .i64 k2]) (by simp [results, Tryd.results69, go_sem, y0, y1, y2, y3, y4, y5]) rfl ⟨rfl, HBE⟩
end Go.Proofs.YtaonednimkoeiaaDoor
