/-
  TbW1, TbW2, TbW3, TbW4.
-/
import Derived.Shelf.Unicode.DecodeSlow
import Derived.Laws.RangeAny
import Derived.Shelf.Small.Bits
import Derived.Shelf.Strconv.Itoa0
import Derived.Shelf.LaysM
import Derived.Shelf.Strconv.Clone
import Derived.Shelf.Unicode.DecodeAny
import Derived.Shelf.Slices.CompactS
import Derived.Ground.SlsfProg
import Derived.Shelf.SlSortCmp.Insertion
import Derived.Shelf.SlSortCmp.SiftDown1
import Derived.Shelf.SlSortCmp.HeapSort1
import Derived.Shelf.SlSortCmp.Insertion1
import Derived.Shelf.SlSortCmp.Median1
import Derived.Shelf.SlSortCmp.Pivot1
import Derived.Shelf.SlSortCmp.ReverseRange1
import Derived.Shelf.SlSortCmp.PartialInsertion1
import Derived.Shelf.SlSortCmp.PartitionEqual1
import Derived.Shelf.SlSortCmp.Partition1
import Derived.Shelf.SlSortCmp.Pdq1
import Derived.Shelf.SlSortCmp.Whole1
import Derived.Test.YtkcjplgjidjmoaaDoorProg
import Derived.WalkKit
import Derived.Deep.DeepFit
import Derived.Lib.OthersKept
import Derived.Lib.RuneCountTail
import Derived.Deep.AppendLies
import Derived.Deep.OwnRows
import Derived.Laws.AppendOwnNone
import Derived.Deep.QuietTactic
import Derived.BigQuiet
import Derived.Deep.RegionWith
import Derived.Laws.DeepStrings4
import Derived.Below
import Derived.Maps.OwnSet
import Derived.Maps.Keyed
import Derived.DeepKeys4
import Derived.Lib.QuietBelow
import Derived.StillTail
import Derived.Deep.RegionHeld3
import Derived.Laws.ResultCell
import Derived.Laws.CopyOwn
import Derived.Test.YtkcjplgjidjmoaaDoorI01
import Derived.Test.YtkcjplgjidjmoaaDoorI02
import Derived.Test.YtkcjplgjidjmoaaDoorI03
import Derived.Test.YtkcjplgjidjmoaaDoorI04
import Derived.Test.YtkcjplgjidjmoaaDoorI05
import Derived.Test.YtkcjplgjidjmoaaDoorI06
import Derived.Test.YtkcjplgjidjmoaaDoorI07
import Derived.Test.YtkcjplgjidjmoaaDoorI08
set_option linter.unusedSimpArgs false
set_option linter.unusedVariables false
namespace Go.Proofs.YtkcjplgjidjmoaaDoor
open Go.RowKit Go.Lib Go.Sort

set_option maxHeartbeats 1000000 in
theorem tnew_any (w : World) : Calls Tryd.prog 21 #[] w fun e w' => e = .returned (.pointer (some ⟨w.heap.size, 0, none⟩)) ∧ w' = w.alloc (.cells #[.slice none 0 0, .map none] 78) := by
  go_enter Tryd.func21, Tryd.ntmps21
  go_wp2
  go_ret
  exact ⟨rfl, rfl⟩
theorem TbM.fresh (w : World) : TbM (w.alloc (.cells #[.slice none 0 0, .map none] 78)) w.heap.size (.slice none 0 0) (.map none) [] :=
  ⟨Deep.blk_alloc_new _ _, World.ownsRow_nil _ _ _ _, .inl ⟨rfl, rfl⟩, TbI.nil, by simp⟩

set_option maxHeartbeats 1000000 in
theorem tlen_any (w : World) (p : Nat) (ev mv : Value) (L : List Nd) (h : TbM w p ev mv L) : Calls Tryd.prog 24 #[.pointer (some ⟨p, 0, none⟩)] w fun e w' => e = .returned (.int .i64 L.length) ∧ w' = w := by
  obtain ⟨ao, cap, rfl⟩ := h.form
  have c0 := h.c0
  go_enter Tryd.func24, Tryd.ntmps24
  go_wp2
  go_ret
  exact ⟨rfl, rfl⟩
/-- Is it an entry's number? -/
def hasT (L : List Nd) (a : Int) : Bool := decide (0 ≤ a) && decide (a < (L.length : Int))
theorem hasT_iff {L : List Nd} {a : Int} : hasT L a = true ↔ ∃ k : Nat, a = k ∧ k < L.length := by
  unfold hasT
  simp only [Bool.and_eq_true, decide_eq_true_eq]
  constructor
  · rintro ⟨h1, h2⟩; exact ⟨a.toNat, by omega, by omega⟩
  · rintro ⟨k, rfl, h⟩; omega
set_option maxHeartbeats 1000000 in
theorem thas_any (w : World) (p : Nat) (ev mv : Value) (L : List Nd) (a : Int) (h : TbM w p ev mv L) : Calls Tryd.prog 59 #[.pointer (some ⟨p, 0, none⟩), .int .i64 a] w fun e w' => e = .returned (.bool (hasT L a)) ∧ w' = w := by
  have HL : Hid (∀ V, V = w → Calls Tryd.prog 24 #[.pointer (some ⟨p, 0, none⟩)] V fun e w' => e = .returned (.int .i64 L.length) ∧ w' = w) := fun V hV => by subst hV; exact tlen_any V p ev mv L h
  unfold hasT
  by_cases h0 : 0 ≤ a
  · obtain ⟨N, hN⟩ : ∃ N, L.length = N := ⟨_, rfl⟩
    rw [hN] at HL ⊢
    clear hN
    go_enter Tryd.func59, Tryd.ntmps59
    go_wp2_with (go_at_call 24; refine (HL.out _ rfl).mono ?_; rintro e w' ⟨rfl, rfl⟩)
    go_ret
    exact ⟨by simp [h0], rfl⟩
  · go_enter Tryd.func59, Tryd.ntmps59
    go_wp2
    go_ret
    exact ⟨by rw [show decide (0 ≤ a) = false from decide_eq_false (by omega), Bool.false_and]; rfl, rfl⟩
end Go.Proofs.YtkcjplgjidjmoaaDoor

set_option linter.unusedSimpArgs false
set_option linter.unusedVariables false
namespace Go.Proofs.YtkcjplgjidjmoaaDoor
open Go.RowKit Go.Lib Go.Sort

theorem splice_kids (a b c : Value) {ks : List Int} (h : ks.length ≤ 3) : splice [a, b, c, .int .i64 0, .int .i64 0, .int .i64 0] 3 (ks.map (Value.int .i64)) = [a, b, c, .int .i64 (ks.getD 0 0), .int .i64 (ks.getD 1 0), .int .i64 (ks.getD 2 0)] := by
  match ks, h with
  | [], _ => rfl
  | [x], _ => rfl
  | [x, y], _ => rfl
  | [x, y, z], _ => rfl
  | x :: y :: z :: u :: r, h => simp at h
theorem blk6 {w : World} {b : Nat} {a c d e f g : Value} {t : TypeId} (h : w.heap[b]? = some (.cells #[a, c, d, e, f, g] t (0, 0))) : w.cell? ⟨b, 0, none⟩ = some a ∧ w.cell? ⟨b, 1, none⟩ = some c ∧ w.cell? ⟨b, 2, none⟩ = some d ∧ w.cell? ⟨b, 3, none⟩ = some e ∧ w.cell? ⟨b, 4, none⟩ = some f ∧ w.cell? ⟨b, 5, none⟩ = some g ∧ ∀ o, w.frozen? ⟨b, o, none⟩ = false := by
  simp [World.cell?, World.frozen?, h]

theorem set6 {w : World} {b : Nat} {a0 a1 a2 a3 a4 a5 : Value} {t : TypeId} (h : w.heap[b]? = some (.cells #[a0, a1, a2, a3, a4, a5] t (0, 0))) (v0 v1 v2 v3 v4 v5 : Value) :
    ((((((w.setCell ⟨b, 0, none⟩ v0).setCell ⟨b, 1, none⟩ v1).setCell ⟨b, 2, none⟩ v2).setCell ⟨b, 3, none⟩ v3).setCell ⟨b, 4, none⟩ v4).setCell ⟨b, 5, none⟩ v5).heap[b]? = some (.cells #[v0, v1, v2, v3, v4, v5] t (0, 0)) := by
  have h0 := heap_setCell_same w b 0 _ t v0 h
  have h1 := heap_setCell_same _ b 1 _ t v1 h0
  have h2 := heap_setCell_same _ b 2 _ t v2 h1
  have h3 := heap_setCell_same _ b 3 _ t v3 h2
  have h4 := heap_setCell_same _ b 4 _ t v4 h3
  have h5 := heap_setCell_same _ b 5 _ t v5 h4
  simpa using h5
theorem below_set6 {B : Nat} {w0 w : World} {b : Nat} (h : Below B w0 w) (hb : B ≤ b) (v0 v1 v2 v3 v4 v5 : Value) : Below B w0 ((((((w.setCell ⟨b, 0, none⟩ v0).setCell ⟨b, 1, none⟩ v1).setCell ⟨b, 2, none⟩ v2).setCell ⟨b, 3, none⟩ v3).setCell ⟨b, 4, none⟩ v4).setCell ⟨b, 5, none⟩ v5) :=
  (((((h.setCell hb _).setCell hb _).setCell hb _).setCell hb _).setCell hb _).setCell hb _

set_option maxRecDepth 20000 in
set_option maxHeartbeats 2000000 in
theorem shaped_any (op n : Int) (nm : ByteArray) (ks : List Int) (ka : Option Addr) (kc : Nat) (w : World) (hI : Ints w w.heap.size (.slice ka ks.length kc) ks) (h3 : ks.length ≤ 3) :
    Calls Tryd.prog 61 #[.agg #[.int .i64 op, .int .i64 n, .string nm, .slice ka ks.length kc]] w fun e w' => e = .returned (shV ⟨op, n, nm, ks⟩) ∧ Below w.heap.size w w' := by
  obtain ⟨ao, cap, hv, hl, ⟨hm, hnn⟩, hc⟩ := hI
  simp only [Value.slice.injEq, true_and] at hv
  obtain ⟨rfl, rfl⟩ := hv
  obtain ⟨j0, hj, hy0, hy1, hy2⟩ := info_parts Tryd.info3
  have hsz : (Tryd.prog.info? 3).map (·.size) = some 1 := by rw [hj]; simp [hy1]
  unfold maxLen at hm
  obtain ⟨w3, hw3⟩ : ∃ w3, ((w.alloc (.cells #[.int .i64 op, .int .i64 n, .string nm, .slice ka ks.length kc] 47)).alloc (.cells #[.int .i64 0, .int .i64 0, .string ⟨#[]⟩, .int .i64 0, .int .i64 0, .int .i64 0] 88)).alloc (.cells #[.int .i64 op, .int .i64 n, .string nm, .int .i64 0, .int .i64 0, .int .i64 0] 88) = w3 := ⟨_, rfl⟩
  have HB3 : Hid (Below w.heap.size w w3) := by rw [← hw3]; exact (((Below.refl _ _).alloc (Nat.le_refl _) _).alloc (by simp) _).alloc (by simp; omega) _
  have hsz3 : w3.heap.size = w.heap.size + 3 := by rw [← hw3]; simp
  have hbs : w3.heap[w.heap.size + 2]? = some (.cells [.int .i64 op, .int .i64 n, .string nm, .int .i64 0, .int .i64 0, .int .i64 0].toArray 88 (0, 0)) := by
    rw [← hw3]
    have := Deep.blk_alloc_new ((w.alloc (.cells #[.int .i64 op, .int .i64 n, .string nm, .slice ka ks.length kc] 47)).alloc (.cells #[.int .i64 0, .int .i64 0, .string ⟨#[]⟩, .int .i64 0, .int .i64 0, .int .i64 0] 88)) (.cells #[.int .i64 op, .int .i64 n, .string nm, .int .i64 0, .int .i64 0, .int .i64 0] 88)
    simpa using this
  have hbr : w3.heap[w.heap.size + 1]? = some (.cells #[.int .i64 0, .int .i64 0, .string ⟨#[]⟩, .int .i64 0, .int .i64 0, .int .i64 0] 88 (0, 0)) := by
    rw [← hw3, Deep.blk_alloc_lt _ _ _ (by simp)]
    have := Deep.blk_alloc_new (w.alloc (.cells #[.int .i64 op, .int .i64 n, .string nm, .slice ka ks.length kc] 47)) (.cells #[.int .i64 0, .int .i64 0, .string ⟨#[]⟩, .int .i64 0, .int .i64 0, .int .i64 0] 88)
    simpa using this
  have ck : w3.cell? ⟨w.heap.size, 3, none⟩ = some (.slice ka ks.length kc) := by
    rw [← hw3]
    simp (disch := (first | (simp; done) | (simp; omega))) [World.cell?_alloc_past, World.cell?_alloc_at]
  have HSRC : Hid (∀ ad, ka = some ad → ∀ j u, (ks.map (Value.int .i64))[j]? = some u → w3.cell? (ad.add j) = some u) := src_cells hc HB3.out
  have HBS : Hid (w3.heap[w.heap.size + 2]? = some (.cells [.int .i64 op, .int .i64 n, .string nm, .int .i64 0, .int .i64 0, .int .i64 0].toArray 88 (0, 0))) := hbs
  have HBR : Hid (w3.heap[w.heap.size + 1]? = some (.cells #[.int .i64 0, .int .i64 0, .string ⟨#[]⟩, .int .i64 0, .int .i64 0, .int .i64 0] 88 (0, 0))) := hbr
  have HW : Hid (((w.alloc (.cells #[.int .i64 op, .int .i64 n, .string nm, .slice ka ks.length kc] 47)).alloc (.cells #[.int .i64 0, .int .i64 0, .string ⟨#[]⟩, .int .i64 0, .int .i64 0, .int .i64 0] 88)).alloc (.cells #[.int .i64 op, .int .i64 n, .string nm, .int .i64 0, .int .i64 0, .int .i64 0] 88) = w3) := hw3
  have HSZ : Hid (w3.heap.size = w.heap.size + 3) := hsz3
  have HNN : Hid (ks.length ≠ 0 → ∃ ad, ka = some ad) := fun h => by
    cases ka with
    | none => have := hnn rfl; omega
    | some ad => exact ⟨ad, rfl⟩
  obtain ⟨N, hN⟩ : ∃ N, ks.length = N := ⟨_, rfl⟩
  have HN : Hid (ks.length = N) := hN
  rw [hN] at ck ⊢
  rw [hN] at HW HNN h3 hl
  clear hw3 hbs hbr hc hsz3 hnn hN
  have HPOS : Hid (0 < (ks.map (Value.int .i64)).length → ∃ ad, ka = some ad ∧ ∀ j u, (ks.map (Value.int .i64))[j]? = some u → w3.drew.cell? (ad.add j) = some u) := fun h => by
    obtain ⟨ad, had⟩ := HNN.out (by rw [List.length_map, HN.out] at h; omega)
    exact ⟨ad, had, HSRC.out ad had⟩
  have HSP : Hid (splice [.int .i64 op, .int .i64 n, .string nm, .int .i64 0, .int .i64 0, .int .i64 0] 3 (ks.map (Value.int .i64)) = [.int .i64 op, .int .i64 n, .string nm, .int .i64 (ks.getD 0 0), .int .i64 (ks.getD 1 0), .int .i64 (ks.getD 2 0)]) := splice_kids _ _ _ (by rw [HN.out]; exact h3)
  unfold shV
  show Calls _ _ _ _ fun e w' => e = .returned (.agg #[.int .i64 op, .int .i64 n, .string nm, .int .i64 (ks.getD 0 0), .int .i64 (ks.getD 1 0), .int .i64 (ks.getD 2 0)]) ∧ _
  generalize ks.getD 0 0 = k0 at *
  generalize ks.getD 1 0 = k1 at *
  generalize ks.getD 2 0 = k2 at *
  go_enter Tryd.func61, Tryd.ntmps61
  go_wp2_with fail
  rw [HW.out]
  go_region_held3 (fun W => W.cell? ⟨w.heap.size, 3, none⟩ = some (.slice ka N kc)) (go_keep) (first | (refine step_copy_splice rfl (.tmp 12) (.tmp 14) 45 45 rfl 3 Tryd.underlying45 hsz (some ⟨w.heap.size + 2, 3, none⟩) ka 3 3 N kc rfl rfl (w.heap.size + 2) 3 [.int .i64 op, .int .i64 n, .string nm, .int .i64 0, .int .i64 0, .int .i64 0] 88 HBS.out (ks.map (Value.int .i64)) (by rw [List.length_map, HN.out]; exact (Nat.min_eq_left h3).symm) (fun h => ⟨rfl, HPOS.out h⟩) (by rw [List.length_map, HN.out]; show 3 + N ≤ 6; omega) (ints_oneCell _ _) (w.heap.size + 2) w3 (Below.refl _ _).drew (Nat.le_refl _) ?_; intro w4 hg4 hb4; have hk4 : w4.cell? ⟨w.heap.size, 3, none⟩ = some (.slice ka N kc) := (hb4.cell (p := ⟨w.heap.size, 3, none⟩) (by show w.heap.size < w.heap.size + 2; omega)).trans ck))
  have hg5 : w4.heap[w.heap.size + 1 + 1]? = some (.cells #[.int .i64 op, .int .i64 n, .string nm, .int .i64 k0, .int .i64 k1, .int .i64 k2] 88 (0, 0)) := by
    have := hg4.out
    rw [HSP.out] at this
    exact this
  have hg6 : w4.heap[w.heap.size + 1]? = some (.cells #[.int .i64 0, .int .i64 0, .string ⟨#[]⟩, .int .i64 0, .int .i64 0, .int .i64 0] 88 (0, 0)) := (hb4.block _ (by omega)).trans HBR.out
  obtain ⟨s0, s1, s2, s3, s4, s5, sf⟩ := blk6 hg5
  obtain ⟨r0, r1, r2, r3, r4, r5, rf⟩ := blk6 hg6
  have HB4 : Hid (Below w.heap.size w w4) := HB3.out.trans (hb4.mono (by omega))
  clear hg4 hg5 hb4
  go_wp2_with fail
  have hS := set6 hg6 (.int .i64 op) (.int .i64 n) (.string nm) (.int .i64 k0) (.int .i64 k1) (.int .i64 k2)
  have HBE := below_set6 HB4.out (Nat.le_add_right _ 1) (.int .i64 op) (.int .i64 n) (.string nm) (.int .i64 k0) (.int .i64 k1) (.int .i64 k2)
  generalize (((((w4.setCell ⟨w.heap.size + 1, 0, none⟩ (.int .i64 op)).setCell ⟨w.heap.size + 1, 1, none⟩ (.int .i64 n)).setCell ⟨w.heap.size + 1, 2, none⟩ (.string nm)).setCell ⟨w.heap.size + 1, 3, none⟩ (.int .i64 k0)).setCell ⟨w.heap.size + 1, 4, none⟩ (.int .i64 k1)).setCell ⟨w.heap.size + 1, 5, none⟩ (.int .i64 k2) = W at *
  obtain ⟨y0, y1, y2, y3, y4, y5, _⟩ := blk6 hS
  refine bodyPost_ret (v := .agg #[.int .i64 op, .int .i64 n, .string nm, .int .i64 k0, .int .i64 k1, .int .i64 k2]) (by simp [results, Tryd.results61, go_sem, y0, y1, y2, y3, y4, y5]) rfl ⟨rfl, HBE⟩
end Go.Proofs.YtkcjplgjidjmoaaDoor

set_option linter.unusedSimpArgs false
set_option linter.unusedVariables false
namespace Go.Proofs.YtkcjplgjidjmoaaDoor
open Go.RowKit Go.Lib Go.Sort

theorem form_ar {x : Nd} (h : formB x = true) : arK x.op = (x.kids.length : Nat) ∧ arE x.op = 0 := by
  have := formB_arit h
  have := ar_of (op := x.op) this.symm (by omega)
  exact this
theorem three_cells {w : World} {b : Nat} {ks : List Int} (h3 : ks.length ≤ 3) (c3 : w.cell? ⟨b, 3, none⟩ = some (.int .i64 (ks.getD 0 0))) (c4 : w.cell? ⟨b, 4, none⟩ = some (.int .i64 (ks.getD 1 0))) (c5 : w.cell? ⟨b, 5, none⟩ = some (.int .i64 (ks.getD 2 0))) :
    ∀ ad, some (⟨b, 3, none⟩ : Addr) = some ad → ∀ j u, (ks.map (Value.int .i64))[j]? = some u → w.cell? (ad.add j) = some u := by
  intro ad had j u hj
  cases had
  have hjl : j < ks.length := by
    have := List.getElem?_eq_some_iff.1 hj
    simpa using this.1
  rw [Go.WideShapes.add_plain, ← hj]
  match j, hjl with
  | 0, h => rw [c3]; simp [h]
  | 1, h => rw [show 3 + 1 = 4 from rfl, c4]; simp [h]
  | 2, h => rw [show 3 + 2 = 5 from rfl, c5]; simp [h]
  | j + 3, h => omega

set_option maxRecDepth 20000 in
set_option maxHeartbeats 2000000 in
theorem parts_any (x : Nd) (w : World) (hf : formB x = true) :
    Calls Tryd.prog 74 #[shV x] w fun e w' => ∃ v, e = .returned v ∧ OwnI w' w.heap.size v x.kids ∧ Below w.heap.size w w' := by
  obtain ⟨j0, hj, hy0, hy1, hy2⟩ := info_parts Tryd.info3
  have h3 := formB_kids hf
  obtain ⟨e1, e2⟩ := form_ar hf
  have ca : Hid (∀ W, Calls Tryd.prog 78 #[.int .i64 x.op] W fun e w' => e = .returned (.tuple #[.int .i64 (x.kids.length : Nat), .int .i64 0]) ∧ w' = W) := fun W => by
    have := arity_any x.op W
    rw [e1, e2] at this
    exact this
  obtain ⟨op, n, nm, ks⟩ := x
  simp only at h3 ca ⊢
  unfold shV
  simp only
  have HT : Hid (∀ W : World, W.cell? ⟨w.heap.size, 3, none⟩ = some (.int .i64 (ks.getD 0 0)) → W.cell? ⟨w.heap.size, 4, none⟩ = some (.int .i64 (ks.getD 1 0)) → W.cell? ⟨w.heap.size, 5, none⟩ = some (.int .i64 (ks.getD 2 0)) → ∀ ad, some (⟨w.heap.size, 3, none⟩ : Addr) = some ad → ∀ j u, (ks.map (Value.int .i64))[j]? = some u → W.cell? (ad.add j) = some u) := fun W => three_cells h3
  generalize ks.getD 0 0 = k0 at *
  generalize ks.getD 1 0 = k1 at *
  generalize ks.getD 2 0 = k2 at *
  obtain ⟨w1, hw1⟩ : ∃ w1, w.alloc (.cells #[.int .i64 op, .int .i64 n, .string nm, .int .i64 k0, .int .i64 k1, .int .i64 k2] 88) = w1 := ⟨_, rfl⟩
  have HB1 : Hid (Below w.heap.size w w1) := by rw [← hw1]; exact (Below.refl _ _).alloc (Nat.le_refl _) _
  have hb : w1.heap[w.heap.size]? = some (.cells #[.int .i64 op, .int .i64 n, .string nm, .int .i64 k0, .int .i64 k1, .int .i64 k2] 88 (0, 0)) := by rw [← hw1, Deep.blk_alloc_new]
  obtain ⟨c0, c1, c2, c3, c4, c5, cf⟩ := blk6 hb
  have HW : Hid (w.alloc (.cells #[.int .i64 op, .int .i64 n, .string nm, .int .i64 k0, .int .i64 k1, .int .i64 k2] 88) = w1) := hw1
  have HSRC : Hid (∀ ad, some (⟨w.heap.size, 3, none⟩ : Addr) = some ad → ∀ j u, (ks.map (Value.int .i64))[j]? = some u → w1.cell? (ad.add j) = some u) := HT.out w1 c3 c4 c5
  have hsz := HB1.out.size
  obtain ⟨N, hN⟩ : ∃ N, ks.length = N := ⟨_, rfl⟩
  have HN : Hid (ks.length = N) := hN
  rw [hN] at ca h3
  have hNI : (N : Int) ≤ 3 := by omega
  clear hw1 hN HT hb
  go_enter Tryd.func74, Tryd.ntmps74
  go_wp2_with fail
  rw [HW.out]
  go_wp2_with (first | (go_at_call 78; refine (ca.out _).mono ?_; rintro e w' ⟨rfl, rfl⟩) | (at_builtin; refine wpList_append_src _ rfl (.const (.slice none 0 0)) (.tmp 13) 45 rfl w.heap.size 3 j0 (.int .i64 0) 1 8 Tryd.underlying45 hj hy0 hy1 hy2 rfl (by decide) _ 0 [] rfl (World.ownsRow_nil _ _ _ _) (some ⟨w.heap.size, 3, none⟩) N 3 (ks.map (Value.int .i64)) rfl (by simp) (by rw [List.length_map, HN.out]; omega) HSRC.out (ints_oneCell _ _) (by unfold maxLen; omega) (by omega) hsz ?_; intro v2 w2 hO2 hg2))
  have hO3 : OwnI w2 w.heap.size v2 ks := by
    unfold OwnI
    rw [HN.out]
    simpa using hO2
  have HO3 : Hid (OwnI w2 w.heap.size v2 ks) := hO3
  have HB2 : Hid (Below w.heap.size w w2) := HB1.out.grown hg2 hsz (fun k hk => by cases hk)
  clear hO2 hO3 hg2
  go_wp2_with fail
  go_ret
  exact ⟨_, rfl, HO3.out, HB2.out⟩

theorem set4 {w : World} {b : Nat} {a0 a1 a2 a3 : Value} {t : TypeId} (h : w.heap[b]? = some (.cells #[a0, a1, a2, a3] t (0, 0))) (v0 v1 v2 v3 : Value) :
    ((((w.setCell ⟨b, 0, none⟩ v0).setCell ⟨b, 1, none⟩ v1).setCell ⟨b, 2, none⟩ v2).setCell ⟨b, 3, none⟩ v3).heap[b]? = some (.cells #[v0, v1, v2, v3] t (0, 0)) := by
  have h0 := heap_setCell_same w b 0 _ t v0 h
  have h1 := heap_setCell_same _ b 1 _ t v1 h0
  have h2 := heap_setCell_same _ b 2 _ t v2 h1
  have h3 := heap_setCell_same _ b 3 _ t v3 h2
  simpa using h3
theorem blk4 {w : World} {b : Nat} {a c d e : Value} {t : TypeId} (h : w.heap[b]? = some (.cells #[a, c, d, e] t (0, 0))) : w.cell? ⟨b, 0, none⟩ = some a ∧ w.cell? ⟨b, 1, none⟩ = some c ∧ w.cell? ⟨b, 2, none⟩ = some d ∧ w.cell? ⟨b, 3, none⟩ = some e ∧ ∀ o, w.frozen? ⟨b, o, none⟩ = false := by
  simp [World.cell?, World.frozen?, h]
theorem below_set4 {B : Nat} {w0 w : World} {b : Nat} (h : Below B w0 w) (hb : B ≤ b) (v0 v1 v2 v3 : Value) : Below B w0 ((((w.setCell ⟨b, 0, none⟩ v0).setCell ⟨b, 1, none⟩ v1).setCell ⟨b, 2, none⟩ v2).setCell ⟨b, 3, none⟩ v3) :=
  (((h.setCell hb _).setCell hb _).setCell hb _).setCell hb _
theorem ownI_far {w w' : World} {base b : Nat} {v : Value} {ks : List Int} (h : OwnI w base v ks) (hb : b < base) (hs : ∀ k, k ≠ b → w'.heap[k]? = w.heap[k]?) : OwnI w' base v ks := rw_same h (fun k hk => hs k (by have := (rw_block h hk).1; omega))

set_option maxRecDepth 20000 in
set_option maxHeartbeats 2000000 in
theorem tnode_any (x : Nd) (w : World) (hf : formB x = true) :
    Calls Tryd.prog 55 #[shV x] w fun e w' => ∃ ao cap, e = .returned (.agg #[.int .i64 x.op, .int .i64 x.n, .string x.name, .slice ao x.kids.length cap]) ∧ OwnI w' w.heap.size (.slice ao x.kids.length cap) x.kids ∧ Below w.heap.size w w' := by
  have cp : Hid (∀ W, Calls Tryd.prog 74 #[shV x] W fun e w' => ∃ ao cap, e = .returned (.slice ao x.kids.length cap) ∧ OwnI w' W.heap.size (.slice ao x.kids.length cap) x.kids ∧ Below W.heap.size W w') := fun W => (parts_any x W hf).mono fun e w' ⟨v, h1, h2, h3⟩ => by
    obtain ⟨ao, cap, rfl⟩ := h2.form'
    exact ⟨ao, cap, h1, h2, h3⟩
  obtain ⟨op, n, nm, ks⟩ := x
  simp only at cp ⊢
  unfold shV at *
  simp only at cp ⊢
  generalize ks.getD 0 0 = k0 at *
  generalize ks.getD 1 0 = k1 at *
  generalize ks.getD 2 0 = k2 at *
  obtain ⟨w2, hw2⟩ : ∃ w2, (w.alloc (.cells #[.int .i64 op, .int .i64 n, .string nm, .int .i64 k0, .int .i64 k1, .int .i64 k2] 88)).alloc (.cells #[.int .i64 0, .int .i64 0, .string ⟨#[]⟩, .slice none 0 0] 47) = w2 := ⟨_, rfl⟩
  have HB2 : Hid (Below w.heap.size w w2) := by rw [← hw2]; exact ((Below.refl _ _).alloc (Nat.le_refl _) _).alloc (by simp) _
  have hb : w2.heap[w.heap.size]? = some (.cells #[.int .i64 op, .int .i64 n, .string nm, .int .i64 k0, .int .i64 k1, .int .i64 k2] 88 (0, 0)) := by rw [← hw2, Deep.blk_alloc_lt _ _ _ (by simp), Deep.blk_alloc_new]
  have hb1 : w2.heap[w.heap.size + 1]? = some (.cells #[.int .i64 0, .int .i64 0, .string ⟨#[]⟩, .slice none 0 0] 47 (0, 0)) := by
    rw [← hw2]
    have := Deep.blk_alloc_new (w.alloc (.cells #[.int .i64 op, .int .i64 n, .string nm, .int .i64 k0, .int .i64 k1, .int .i64 k2] 88)) (.cells #[.int .i64 0, .int .i64 0, .string ⟨#[]⟩, .slice none 0 0] 47)
    simpa using this
  have hsz2 : w2.heap.size = w.heap.size + 2 := by rw [← hw2]; simp
  obtain ⟨c0, c1, c2, c3, c4, c5, cf⟩ := blk6 hb
  have HW : Hid ((w.alloc (.cells #[.int .i64 op, .int .i64 n, .string nm, .int .i64 k0, .int .i64 k1, .int .i64 k2] 88)).alloc (.cells #[.int .i64 0, .int .i64 0, .string ⟨#[]⟩, .slice none 0 0] 47) = w2) := hw2
  have HCE : Hid (∀ W, Below w2.heap.size w2 W → (W.cell? ⟨w.heap.size, 0, none⟩ = some (.int .i64 op) ∧ W.cell? ⟨w.heap.size, 1, none⟩ = some (.int .i64 n) ∧ W.cell? ⟨w.heap.size, 2, none⟩ = some (.string nm) ∧ W.cell? ⟨w.heap.size, 3, none⟩ = some (.int .i64 k0) ∧ W.cell? ⟨w.heap.size, 4, none⟩ = some (.int .i64 k1) ∧ W.cell? ⟨w.heap.size, 5, none⟩ = some (.int .i64 k2)) ∧ W.heap[w.heap.size + 1]? = some (.cells #[.int .i64 0, .int .i64 0, .string ⟨#[]⟩, .slice none 0 0] 47 (0, 0))) := fun W hW => by
    obtain ⟨q0, q1, q2, q3, q4, q5, _⟩ := blk6 ((hW.block _ (by omega)).trans hb)
    exact ⟨⟨q0, q1, q2, q3, q4, q5⟩, (hW.block _ (by omega)).trans hb1⟩
  have HSZ : Hid (w2.heap.size = w.heap.size + 2) := hsz2
  clear hw2 hb hb1 cf hsz2
  go_enter Tryd.func55, Tryd.ntmps55
  go_wp2_with fail
  rw [HW.out]
  have q1 := (HCE.out _ (Below.refl _ w2).drew).2
  obtain ⟨z0, z1, z2, z3, zf⟩ := blk4 q1
  go_region_held3 (fun W => W.cell? ⟨w.heap.size, 0, none⟩ = some (.int .i64 op) ∧ W.cell? ⟨w.heap.size, 1, none⟩ = some (.int .i64 n) ∧ W.cell? ⟨w.heap.size, 2, none⟩ = some (.string nm) ∧ W.cell? ⟨w.heap.size, 3, none⟩ = some (.int .i64 k0) ∧ W.cell? ⟨w.heap.size, 4, none⟩ = some (.int .i64 k1) ∧ W.cell? ⟨w.heap.size, 5, none⟩ = some (.int .i64 k2)) (go_keep) (first | (go_at_call 74; refine (cp.out _).mono ?_; rintro e w5 ⟨ao5, cap5, rfl, hO5, hb5⟩; have hb5' : Below w2.heap.size w2 w5 := (Below.refl _ _).drew.trans hb5; have HO5 : Hid (OwnI w5 w2.heap.size (.slice ao5 ks.length cap5) ks) := hO5; have HB5 : Hid (Below w2.heap.size w2 w5) := hb5'; obtain ⟨⟨k0', k1', k2', k3', k4', k5'⟩, hn5⟩ := HCE.out w5 hb5'; obtain ⟨y0, y1, y2, y3, yf⟩ := blk4 hn5))
  all_goals
    go_wp2_with fail
    have hS := set4 hn5 (.int .i64 op) (.int .i64 n) (.string nm) (.slice ao5 ks.length cap5)
    have HBE := below_set4 (HB2.out.trans (HB5.out.mono (by have := HSZ.out; omega))) (Nat.le_add_right _ 1) (.int .i64 op) (.int .i64 n) (.string nm) (.slice ao5 ks.length cap5)
    have HOE : OwnI ((((w5.setCell ⟨w.heap.size + 1, 0, none⟩ (.int .i64 op)).setCell ⟨w.heap.size + 1, 1, none⟩ (.int .i64 n)).setCell ⟨w.heap.size + 1, 2, none⟩ (.string nm)).setCell ⟨w.heap.size + 1, 3, none⟩ (.slice ao5 ks.length cap5)) w.heap.size (.slice ao5 ks.length cap5) ks := by
      have := ownI_far (b := w.heap.size + 1) HO5.out (by have := HSZ.out; omega) (w' := (((w5.setCell ⟨w.heap.size + 1, 0, none⟩ (.int .i64 op)).setCell ⟨w.heap.size + 1, 1, none⟩ (.int .i64 n)).setCell ⟨w.heap.size + 1, 2, none⟩ (.string nm)).setCell ⟨w.heap.size + 1, 3, none⟩ (.slice ao5 ks.length cap5)) (fun k hk => by
        rw [Deep.blk_setCell_other _ _ _ _ hk, Deep.blk_setCell_other _ _ _ _ hk, Deep.blk_setCell_other _ _ _ _ hk, Deep.blk_setCell_other _ _ _ _ hk])
      exact ownsRow_mono this (by have := HSZ.out; omega)
    generalize (((w5.setCell ⟨w.heap.size + 1, 0, none⟩ (.int .i64 op)).setCell ⟨w.heap.size + 1, 1, none⟩ (.int .i64 n)).setCell ⟨w.heap.size + 1, 2, none⟩ (.string nm)).setCell ⟨w.heap.size + 1, 3, none⟩ (.slice ao5 ks.length cap5) = W at *
    obtain ⟨x0, x1, x2, x3, _⟩ := blk4 hS
    refine bodyPost_ret (v := .agg #[.int .i64 op, .int .i64 n, .string nm, .slice ao5 ks.length cap5]) (by simp [results, Tryd.results55, go_sem, x0, x1, x2, x3]) rfl ⟨ao5, cap5, rfl, HOE, HBE⟩
end Go.Proofs.YtkcjplgjidjmoaaDoor

set_option linter.unusedSimpArgs false
set_option linter.unusedVariables false
namespace Go.Proofs.YtkcjplgjidjmoaaDoor
open Go.RowKit Go.Lib Go.Sort

theorem sz_step {s z : Nat} (h : s ≤ 1073741824) : (s : Int) + min (z : Int) (1073741824 - (s : Int)) = ((min 1073741824 (s + z) : Nat) : Int) := by
  omega

set_option maxRecDepth 20000 in
set_option maxHeartbeats 2000000 in
theorem sizeOf_any (w : World) (p : Nat) (ev mv : Value) (L : List Nd) (x : Nd) (h : TbR w p ev mv L) (hf : formB x = true) (hk : ∀ k ∈ x.kids, 0 ≤ k ∧ k < (L.length : Int)) :
    Calls Tryd.prog 77 #[.pointer (some ⟨p, 0, none⟩), shV x] w fun e w' => e = .returned (.int .i64 (szK (szL L) 1 x.kids : Nat)) ∧ Below w.heap.size w w' := by
  have cp : Hid (∀ W, Calls Tryd.prog 74 #[shV x] W fun e w' => ∃ ao cap, e = .returned (.slice ao x.kids.length cap) ∧ OwnI w' W.heap.size (.slice ao x.kids.length cap) x.kids ∧ Below W.heap.size W w') := fun W => (parts_any x W hf).mono fun e w' ⟨v, h1, h2, h3⟩ => by
    obtain ⟨ao, cap, rfl⟩ := h2.form'
    exact ⟨ao, cap, h1, h2, h3⟩
  have h3 := formB_kids hf
  have HM : Hid (TbR w p ev mv L) := h
  obtain ⟨op, n, nm, ks⟩ := x
  simp only at cp hk h3 ⊢
  unfold shV at *
  simp only at cp ⊢
  generalize ks.getD 0 0 = k0 at *
  generalize ks.getD 1 0 = k1 at *
  generalize ks.getD 2 0 = k2 at *
  have HK : Hid (∀ k ∈ ks, 0 ≤ k ∧ k < (L.length : Int)) := hk
  have hpl := h.lt
  obtain ⟨w1, hw1⟩ : ∃ w1, w.alloc (.cells #[.int .i64 op, .int .i64 n, .string nm, .int .i64 k0, .int .i64 k1, .int .i64 k2] 88) = w1 := ⟨_, rfl⟩
  have HB1 : Hid (Below w.heap.size w w1) := by rw [← hw1]; exact (Below.refl _ _).alloc (Nat.le_refl _) _
  have hb : w1.heap[w.heap.size]? = some (.cells #[.int .i64 op, .int .i64 n, .string nm, .int .i64 k0, .int .i64 k1, .int .i64 k2] 88 (0, 0)) := by rw [← hw1, Deep.blk_alloc_new]
  obtain ⟨c0, c1, c2, c3, c4, c5, cf⟩ := blk6 hb
  have HW : Hid (w.alloc (.cells #[.int .i64 op, .int .i64 n, .string nm, .int .i64 k0, .int .i64 k1, .int .i64 k2] 88) = w1) := hw1
  clear hw1 hb cf h hk hf
  go_enter Tryd.func77, Tryd.ntmps77
  go_wp2_with fail
  rw [HW.out]
  go_wp2_with (go_at_call 74; refine (cp.out _).mono ?_; rintro e w2 ⟨ao, cap, rfl, hO, hb2⟩)
  have HB2 : Hid (Below w.heap.size w w2) := HB1.out.trans (hb2.mono HB1.out.size)
  have HI : Hid (Ints w2 w2.heap.size (.slice ao ks.length cap) ks) := Ints_of_own hO (Nat.le_refl _)
  have HM2 : Hid (TbR w2 p ev mv L) := HM.out.below HB2.out
  clear hb2 hO c0 c1 c2 c3 c4 c5
  go_loopw [5, 11] (fun s i wr => ∃ k : Nat, k ≤ ks.length ∧ i = .int .i64 k ∧ s = .int .i64 (szK (szL L) 1 (ks.take k) : Nat) ∧ wr = w2) (fun _ i _ => ks.length - (RowKit.intOf i).toNat)
  case atStart => exact ⟨0, by omega, rfl, rfl, rfl⟩
  case round =>
    obtain ⟨k, hkl, rfl, rfl, rfl⟩ := hrel
    by_cases hlt : k < ks.length
    · obtain ⟨ao', cap', hv, hl, hm, hc⟩ := HI.out
      simp only [Value.slice.injEq, true_and] at hv
      obtain ⟨rfl, rfl⟩ := hv
      obtain ⟨b, o, rfl, hbl, hc⟩ : ∃ b o, ao = some ⟨b, o, none⟩ ∧ b < wr.heap.size ∧ ∀ j, j < ks.length → wr.cell? ⟨b, o + j, none⟩ = some (.int .i64 (ks.getD j 0)) := by
        rcases hc with h | h
        · subst h; simp at hlt
        · exact h
      have ck := hc k hlt
      have hr := HK.out (ks.getD k 0) (by simp [hlt])
      have hs1 := szK_le (szL L) (ks.take k) 1 (by omega)
      have HST : Hid (szK (szL L) 1 (ks.take (k + 1)) = min 1073741824 (szK (szL L) 1 (ks.take k) + (szL L).getD (ks.getD k 0).toNat 0)) := by
        have : ks.take (k + 1) = ks.take k ++ [ks.getD k 0] := by rw [List.take_succ_eq_append_getElem hlt]; simp [hlt]
        show _ = _
        rw [this, szK_snoc]
      have hzb := szL_bd L (ks.getD k 0).toNat
      obtain ⟨q, hq, hql⟩ : ∃ q : Nat, ks.getD k 0 = q ∧ q < L.length := ⟨(ks.getD k 0).toNat, by omega, by omega⟩
      rw [hq] at ck HST hzb
      simp only [Int.toNat_natCast] at HST hzb
      obtain ⟨g, cap2, rfl, hg, hgl, hcc, hcm⟩ := HM2.out.row hql
      have ce := (HM2.out.at_ hql).c6
      have t0 := HM2.out.c0
      unfold maxLen at hcm
      have hqI : (q : Int) < (L.length : Int) := by omega
      have hltI : (k : Int) < (ks.length : Int) := by omega
      generalize szK (szL L) 1 (ks.take k) = s at *
      generalize (szL L).getD q 0 = z at *
      clear hc hm hl hr hq
      go_wp2_with fail
      refine ⟨⟨k + 1, by omega, by go_num, ?_, trivial⟩, by simp [RowKit.intOf]; omega⟩
      rw [HST.out, ← sz_step hs1]
    · have hke : k = ks.length := by omega
      subst hke
      have e1 : ks.take ks.length = ks := List.take_length
      rw [e1]
      go_wp2_with fail
      go_ret
      exact ⟨rfl, HB2.out⟩

end Go.Proofs.YtkcjplgjidjmoaaDoor
