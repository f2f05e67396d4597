/-
  TbW3.
-/
import Derived.Shelf.Unicode.DecodeSlow
import Derived.Laws.RangeAny
import Derived.Shelf.Small.Bits
import Derived.Shelf.Strconv.Itoa0
import Derived.Shelf.LaysM
import Derived.Shelf.Strconv.Clone
import Derived.Shelf.Unicode.DecodeAny
import Derived.Shelf.Slices.CompactS
import Derived.Ground.SlsfProg
import Derived.Shelf.SlSortCmp.Insertion
import Derived.Shelf.SlSortCmp.SiftDown1
import Derived.Shelf.SlSortCmp.HeapSort1
import Derived.Shelf.SlSortCmp.Insertion1
import Derived.Shelf.SlSortCmp.Median1
import Derived.Shelf.SlSortCmp.Pivot1
import Derived.Shelf.SlSortCmp.ReverseRange1
import Derived.Shelf.SlSortCmp.PartialInsertion1
import Derived.Shelf.SlSortCmp.PartitionEqual1
import Derived.Shelf.SlSortCmp.Partition1
import Derived.Shelf.SlSortCmp.Pdq1
import Derived.Shelf.SlSortCmp.Whole1
import Derived.Test.YtpacjofepiojdaaDoorProg
import Derived.WalkKit
import Derived.Deep.DeepFit
import Derived.Lib.OthersKept
import Derived.Lib.RuneCountTail
import Derived.Deep.AppendLies
import Derived.Deep.OwnRows
import Derived.Laws.AppendOwnNone
import Derived.Deep.QuietTactic
import Derived.BigQuiet
import Derived.Deep.RegionWith
import Derived.Laws.DeepStrings4
import Derived.Below
import Derived.Maps.OwnSet
import Derived.Maps.Keyed
import Derived.DeepKeys4
import Derived.Lib.QuietBelow
import Derived.StillTail
import Derived.Deep.RegionHeld3
import Derived.Laws.ResultCell
import Derived.Laws.CopyOwn
import Derived.Test.YtpacjofepiojdaaDoorP01
import Derived.Test.YtpacjofepiojdaaDoorP02
import Derived.Test.YtpacjofepiojdaaDoorP03
import Derived.Test.YtpacjofepiojdaaDoorP04
import Derived.Test.YtpacjofepiojdaaDoorP05
import Derived.Test.YtpacjofepiojdaaDoorP06
import Derived.Test.YtpacjofepiojdaaDoorP07
import Derived.Test.YtpacjofepiojdaaDoorP08
import Derived.Test.YtpacjofepiojdaaDoorP09
import Derived.Test.YtpacjofepiojdaaDoorP10
import Derived.Test.YtpacjofepiojdaaDoorP11
set_option linter.unusedSimpArgs false
set_option linter.unusedVariables false
namespace Go.Proofs.YtpacjofepiojdaaDoor
open Go.RowKit Go.Lib Go.Sort

theorem form_ar {x : Nd} (h : formB x = true) : arK x.op = (x.kids.length : Nat) ∧ arE x.op = 0 := by
  have := formB_arit h
  have := ar_of (op := x.op) this.symm (by omega)
  exact this
theorem three_cells {w : World} {b : Nat} {ks : List Int} (h3 : ks.length ≤ 3) (c3 : w.cell? ⟨b, 3, none⟩ = some (.int .i64 (ks.getD 0 0))) (c4 : w.cell? ⟨b, 4, none⟩ = some (.int .i64 (ks.getD 1 0))) (c5 : w.cell? ⟨b, 5, none⟩ = some (.int .i64 (ks.getD 2 0))) :
    ∀ ad, some (⟨b, 3, none⟩ : Addr) = some ad → ∀ j u, (ks.map (Value.int .i64))[j]? = some u → w.cell? (ad.add j) = some u := by
  intro ad had j u hj
  cases had
  have hjl : j < ks.length := by
    have := List.getElem?_eq_some_iff.1 hj
    simpa using this.1
  rw [Go.WideShapes.add_plain, ← hj]
  match j, hjl with
  | 0, h => rw [c3]; simp [h]
  | 1, h => rw [show 3 + 1 = 4 from rfl, c4]; simp [h]
  | 2, h => rw [show 3 + 2 = 5 from rfl, c5]; simp [h]
  | j + 3, h => omega

set_option maxRecDepth 20000 in
set_option maxHeartbeats 2000000 in
theorem parts_any (x : Nd) (w : World) (hf : formB x = true) :
    Calls Tryd.prog 100 #[shV x] w fun e w' => ∃ v, e = .returned v ∧ OwnI w' w.heap.size v x.kids ∧ Below w.heap.size w w' := by
  obtain ⟨j0, hj, hy0, hy1, hy2⟩ := info_parts Tryd.info3
  have h3 := formB_kids hf
  obtain ⟨e1, e2⟩ := form_ar hf
  have ca : Hid (∀ W, Calls Tryd.prog 86 #[.int .i64 x.op] W fun e w' => e = .returned (.tuple #[.int .i64 (x.kids.length : Nat), .int .i64 0]) ∧ w' = W) := fun W => by
    have := arity_any x.op W
    rw [e1, e2] at this
    exact this
  obtain ⟨op, n, nm, ks⟩ := x
  simp only at h3 ca ⊢
  unfold shV
  simp only
  have HT : Hid (∀ W : World, W.cell? ⟨w.heap.size, 3, none⟩ = some (.int .i64 (ks.getD 0 0)) → W.cell? ⟨w.heap.size, 4, none⟩ = some (.int .i64 (ks.getD 1 0)) → W.cell? ⟨w.heap.size, 5, none⟩ = some (.int .i64 (ks.getD 2 0)) → ∀ ad, some (⟨w.heap.size, 3, none⟩ : Addr) = some ad → ∀ j u, (ks.map (Value.int .i64))[j]? = some u → W.cell? (ad.add j) = some u) := fun W => three_cells h3
  generalize ks.getD 0 0 = k0 at *
  generalize ks.getD 1 0 = k1 at *
  generalize ks.getD 2 0 = k2 at *
  obtain ⟨w1, hw1⟩ : ∃ w1, w.alloc (.cells #[.int .i64 op, .int .i64 n, .string nm, .int .i64 k0, .int .i64 k1, .int .i64 k2] 116) = w1 := ⟨_, rfl⟩
  have HB1 : Hid (Below w.heap.size w w1) := by rw [← hw1]; exact (Below.refl _ _).alloc (Nat.le_refl _) _
  have hb : w1.heap[w.heap.size]? = some (.cells #[.int .i64 op, .int .i64 n, .string nm, .int .i64 k0, .int .i64 k1, .int .i64 k2] 116 (0, 0)) := by rw [← hw1, Deep.blk_alloc_new]
  obtain ⟨c0, c1, c2, c3, c4, c5, cf⟩ := blk6 hb
  have HW : Hid (w.alloc (.cells #[.int .i64 op, .int .i64 n, .string nm, .int .i64 k0, .int .i64 k1, .int .i64 k2] 116) = w1) := hw1
  have HSRC : Hid (∀ ad, some (⟨w.heap.size, 3, none⟩ : Addr) = some ad → ∀ j u, (ks.map (Value.int .i64))[j]? = some u → w1.cell? (ad.add j) = some u) := HT.out w1 c3 c4 c5
  have hsz := HB1.out.size
  obtain ⟨N, hN⟩ : ∃ N, ks.length = N := ⟨_, rfl⟩
  have HN : Hid (ks.length = N) := hN
  rw [hN] at ca h3
  have hNI : (N : Int) ≤ 3 := by omega
  clear hw1 hN HT hb
  go_enter Tryd.func100, Tryd.ntmps100
  go_wp2_with fail
  rw [HW.out]
  go_wp2_with (first | (go_at_call 86; refine (ca.out _).mono ?_; rintro e w' ⟨rfl, rfl⟩) | (at_builtin; refine wpList_append_src _ rfl (.const (.slice none 0 0)) (.tmp 13) 61 rfl w.heap.size 3 j0 (.int .i64 0) 1 8 Tryd.underlying61 hj hy0 hy1 hy2 rfl (by decide) _ 0 [] rfl (World.ownsRow_nil _ _ _ _) (some ⟨w.heap.size, 3, none⟩) N 3 (ks.map (Value.int .i64)) rfl (by simp) (by rw [List.length_map, HN.out]; omega) HSRC.out (ints_oneCell _ _) (by unfold maxLen; omega) (by omega) hsz ?_; intro v2 w2 hO2 hg2))
  have hO3 : OwnI w2 w.heap.size v2 ks := by
    unfold OwnI
    rw [HN.out]
    simpa using hO2
  have HO3 : Hid (OwnI w2 w.heap.size v2 ks) := hO3
  have HB2 : Hid (Below w.heap.size w w2) := HB1.out.grown hg2 hsz (fun k hk => by cases hk)
  clear hO2 hO3 hg2
  go_wp2_with fail
  go_ret
  exact ⟨_, rfl, HO3.out, HB2.out⟩

theorem set4 {w : World} {b : Nat} {a0 a1 a2 a3 : Value} {t : TypeId} (h : w.heap[b]? = some (.cells #[a0, a1, a2, a3] t (0, 0))) (v0 v1 v2 v3 : Value) :
    ((((w.setCell ⟨b, 0, none⟩ v0).setCell ⟨b, 1, none⟩ v1).setCell ⟨b, 2, none⟩ v2).setCell ⟨b, 3, none⟩ v3).heap[b]? = some (.cells #[v0, v1, v2, v3] t (0, 0)) := by
  have h0 := heap_setCell_same w b 0 _ t v0 h
  have h1 := heap_setCell_same _ b 1 _ t v1 h0
  have h2 := heap_setCell_same _ b 2 _ t v2 h1
  have h3 := heap_setCell_same _ b 3 _ t v3 h2
  simpa using h3
theorem blk4 {w : World} {b : Nat} {a c d e : Value} {t : TypeId} (h : w.heap[b]? = some (.cells #[a, c, d, e] t (0, 0))) : w.cell? ⟨b, 0, none⟩ = some a ∧ w.cell? ⟨b, 1, none⟩ = some c ∧ w.cell? ⟨b, 2, none⟩ = some d ∧ w.cell? ⟨b, 3, none⟩ = some e ∧ ∀ o, w.frozen? ⟨b, o, none⟩ = false := by
  simp [World.cell?, World.frozen?, h]
theorem below_set4 {B : Nat} {w0 w : World} {b : Nat} (h : Below B w0 w) (hb : B ≤ b) (v0 v1 v2 v3 : Value) : Below B w0 ((((w.setCell ⟨b, 0, none⟩ v0).setCell ⟨b, 1, none⟩ v1).setCell ⟨b, 2, none⟩ v2).setCell ⟨b, 3, none⟩ v3) :=
  (((h.setCell hb _).setCell hb _).setCell hb _).setCell hb _
theorem ownI_far {w w' : World} {base b : Nat} {v : Value} {ks : List Int} (h : OwnI w base v ks) (hb : b < base) (hs : ∀ k, k ≠ b → w'.heap[k]? = w.heap[k]?) : OwnI w' base v ks := rw_same h (fun k hk => hs k (by have := (rw_block h hk).1; omega))

set_option maxRecDepth 20000 in
set_option maxHeartbeats 2000000 in
theorem tnode_any (x : Nd) (w : World) (hf : formB x = true) :
    Calls Tryd.prog 72 #[shV x] w fun e w' => ∃ ao cap, e = .returned (.agg #[.int .i64 x.op, .int .i64 x.n, .string x.name, .slice ao x.kids.length cap]) ∧ OwnI w' w.heap.size (.slice ao x.kids.length cap) x.kids ∧ Below w.heap.size w w' := by
  have cp : Hid (∀ W, Calls Tryd.prog 100 #[shV x] W fun e w' => ∃ ao cap, e = .returned (.slice ao x.kids.length cap) ∧ OwnI w' W.heap.size (.slice ao x.kids.length cap) x.kids ∧ Below W.heap.size W w') := fun W => (parts_any x W hf).mono fun e w' ⟨v, h1, h2, h3⟩ => by
    obtain ⟨ao, cap, rfl⟩ := h2.form'
    exact ⟨ao, cap, h1, h2, h3⟩
  obtain ⟨op, n, nm, ks⟩ := x
  simp only at cp ⊢
  unfold shV at *
  simp only at cp ⊢
  generalize ks.getD 0 0 = k0 at *
  generalize ks.getD 1 0 = k1 at *
  generalize ks.getD 2 0 = k2 at *
  obtain ⟨w2, hw2⟩ : ∃ w2, (w.alloc (.cells #[.int .i64 op, .int .i64 n, .string nm, .int .i64 k0, .int .i64 k1, .int .i64 k2] 116)).alloc (.cells #[.int .i64 0, .int .i64 0, .string ⟨#[]⟩, .slice none 0 0] 63) = w2 := ⟨_, rfl⟩
  have HB2 : Hid (Below w.heap.size w w2) := by rw [← hw2]; exact ((Below.refl _ _).alloc (Nat.le_refl _) _).alloc (by simp) _
  have hb : w2.heap[w.heap.size]? = some (.cells #[.int .i64 op, .int .i64 n, .string nm, .int .i64 k0, .int .i64 k1, .int .i64 k2] 116 (0, 0)) := by rw [← hw2, Deep.blk_alloc_lt _ _ _ (by simp), Deep.blk_alloc_new]
  have hb1 : w2.heap[w.heap.size + 1]? = some (.cells #[.int .i64 0, .int .i64 0, .string ⟨#[]⟩, .slice none 0 0] 63 (0, 0)) := by
    rw [← hw2]
    have := Deep.blk_alloc_new (w.alloc (.cells #[.int .i64 op, .int .i64 n, .string nm, .int .i64 k0, .int .i64 k1, .int .i64 k2] 116)) (.cells #[.int .i64 0, .int .i64 0, .string ⟨#[]⟩, .slice none 0 0] 63)
    simpa using this
  have hsz2 : w2.heap.size = w.heap.size + 2 := by rw [← hw2]; simp
  obtain ⟨c0, c1, c2, c3, c4, c5, cf⟩ := blk6 hb
  have HW : Hid ((w.alloc (.cells #[.int .i64 op, .int .i64 n, .string nm, .int .i64 k0, .int .i64 k1, .int .i64 k2] 116)).alloc (.cells #[.int .i64 0, .int .i64 0, .string ⟨#[]⟩, .slice none 0 0] 63) = w2) := hw2
  have HCE : Hid (∀ W, Below w2.heap.size w2 W → (W.cell? ⟨w.heap.size, 0, none⟩ = some (.int .i64 op) ∧ W.cell? ⟨w.heap.size, 1, none⟩ = some (.int .i64 n) ∧ W.cell? ⟨w.heap.size, 2, none⟩ = some (.string nm) ∧ W.cell? ⟨w.heap.size, 3, none⟩ = some (.int .i64 k0) ∧ W.cell? ⟨w.heap.size, 4, none⟩ = some (.int .i64 k1) ∧ W.cell? ⟨w.heap.size, 5, none⟩ = some (.int .i64 k2)) ∧ W.heap[w.heap.size + 1]? = some (.cells #[.int .i64 0, .int .i64 0, .string ⟨#[]⟩, .slice none 0 0] 63 (0, 0))) := fun W hW => by
    obtain ⟨q0, q1, q2, q3, q4, q5, _⟩ := blk6 ((hW.block _ (by omega)).trans hb)
    exact ⟨⟨q0, q1, q2, q3, q4, q5⟩, (hW.block _ (by omega)).trans hb1⟩
  have HSZ : Hid (w2.heap.size = w.heap.size + 2) := hsz2
  clear hw2 hb hb1 cf hsz2
  go_enter Tryd.func72, Tryd.ntmps72
  go_wp2_with fail
  rw [HW.out]
  have q1 := (HCE.out _ (Below.refl _ w2).drew).2
  obtain ⟨z0, z1, z2, z3, zf⟩ := blk4 q1
  go_region_held3 (fun W => W.cell? ⟨w.heap.size, 0, none⟩ = some (.int .i64 op) ∧ W.cell? ⟨w.heap.size, 1, none⟩ = some (.int .i64 n) ∧ W.cell? ⟨w.heap.size, 2, none⟩ = some (.string nm) ∧ W.cell? ⟨w.heap.size, 3, none⟩ = some (.int .i64 k0) ∧ W.cell? ⟨w.heap.size, 4, none⟩ = some (.int .i64 k1) ∧ W.cell? ⟨w.heap.size, 5, none⟩ = some (.int .i64 k2)) (go_keep) (first | (go_at_call 100; refine (cp.out _).mono ?_; rintro e w5 ⟨ao5, cap5, rfl, hO5, hb5⟩; have hb5' : Below w2.heap.size w2 w5 := (Below.refl _ _).drew.trans hb5; have HO5 : Hid (OwnI w5 w2.heap.size (.slice ao5 ks.length cap5) ks) := hO5; have HB5 : Hid (Below w2.heap.size w2 w5) := hb5'; obtain ⟨⟨k0', k1', k2', k3', k4', k5'⟩, hn5⟩ := HCE.out w5 hb5'; obtain ⟨y0, y1, y2, y3, yf⟩ := blk4 hn5))
  all_goals
    go_wp2_with fail
    have hS := set4 hn5 (.int .i64 op) (.int .i64 n) (.string nm) (.slice ao5 ks.length cap5)
    have HBE := below_set4 (HB2.out.trans (HB5.out.mono (by have := HSZ.out; omega))) (Nat.le_add_right _ 1) (.int .i64 op) (.int .i64 n) (.string nm) (.slice ao5 ks.length cap5)
    have HOE : OwnI ((((w5.setCell ⟨w.heap.size + 1, 0, none⟩ (.int .i64 op)).setCell ⟨w.heap.size + 1, 1, none⟩ (.int .i64 n)).setCell ⟨w.heap.size + 1, 2, none⟩ (.string nm)).setCell ⟨w.heap.size + 1, 3, none⟩ (.slice ao5 ks.length cap5)) w.heap.size (.slice ao5 ks.length cap5) ks := by
      have := ownI_far (b := w.heap.size + 1) HO5.out (by have := HSZ.out; omega) (w' := (((w5.setCell ⟨w.heap.size + 1, 0, none⟩ (.int .i64 op)).setCell ⟨w.heap.size + 1, 1, none⟩ (.int .i64 n)).setCell ⟨w.heap.size + 1, 2, none⟩ (.string nm)).setCell ⟨w.heap.size + 1, 3, none⟩ (.slice ao5 ks.length cap5)) (fun k hk => by
        rw [Deep.blk_setCell_other _ _ _ _ hk, Deep.blk_setCell_other _ _ _ _ hk, Deep.blk_setCell_other _ _ _ _ hk, Deep.blk_setCell_other _ _ _ _ hk])
      exact ownsRow_mono this (by have := HSZ.out; omega)
    generalize (((w5.setCell ⟨w.heap.size + 1, 0, none⟩ (.int .i64 op)).setCell ⟨w.heap.size + 1, 1, none⟩ (.int .i64 n)).setCell ⟨w.heap.size + 1, 2, none⟩ (.string nm)).setCell ⟨w.heap.size + 1, 3, none⟩ (.slice ao5 ks.length cap5) = W at *
    obtain ⟨x0, x1, x2, x3, _⟩ := blk4 hS
    refine bodyPost_ret (v := .agg #[.int .i64 op, .int .i64 n, .string nm, .slice ao5 ks.length cap5]) (by simp [results, Tryd.results72, go_sem, x0, x1, x2, x3]) rfl ⟨ao5, cap5, rfl, HOE, HBE⟩
end Go.Proofs.YtpacjofepiojdaaDoor
