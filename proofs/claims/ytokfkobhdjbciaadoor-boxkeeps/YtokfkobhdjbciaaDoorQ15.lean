/-
  BxOpW, BxPure.
-/
import Derived.Shelf.Unicode.DecodeSlow
import Derived.Laws.RangeAny
import Derived.Shelf.Small.Bits
import Derived.Shelf.Strconv.Itoa0
import Derived.Shelf.Unicode.Decode
import Derived.Shelf.Unicode.DecodeAny
import Derived.Shelf.Slices.CompactS
import Derived.Shelf.Slices.Cells
import Derived.Ground.SlsfProg
import Derived.Shelf.SlSortCmp.Insertion
import Derived.Shelf.SlSortCmp.SiftDown1
import Derived.Shelf.SlSortCmp.HeapSort1
import Derived.Shelf.SlSortCmp.Insertion1
import Derived.Shelf.SlSortCmp.Median1
import Derived.Shelf.SlSortCmp.Pivot1
import Derived.Shelf.SlSortCmp.ReverseRange1
import Derived.Shelf.SlSortCmp.PartialInsertion1
import Derived.Shelf.SlSortCmp.PartitionEqual1
import Derived.Shelf.SlSortCmp.Partition1
import Derived.Shelf.SlSortCmp.Pdq1
import Derived.Shelf.SlSortCmp.Whole1
import Derived.Test.YtokfkobhdjbciaaDoorProg
import Derived.WalkKit
import Derived.Deep.DeepFit
import Derived.Lib.OthersKept
import Derived.Lib.RuneCountTail
import Derived.Deep.AppendLies
import Derived.Deep.OwnRows
import Derived.Laws.AppendOwnNone
import Derived.Deep.QuietTactic
import Derived.BigQuiet
import Derived.Deep.RegionWith
import Derived.Laws.DeepStrings4
import Derived.Below
import Derived.Test.YtokfkobhdjbciaaDoorChecked
import Derived.Defers
import Derived.Lib.QuietBelow
import Derived.StillTail
import Derived.Deep.RegionLaw
import Derived.Laws.ResultCell
import Derived.Test.YtokfkobhdjbciaaDoorQ01
import Derived.Test.YtokfkobhdjbciaaDoorQ02
import Derived.Test.YtokfkobhdjbciaaDoorQ03
import Derived.Test.YtokfkobhdjbciaaDoorQ04
import Derived.Test.YtokfkobhdjbciaaDoorQ05
import Derived.Test.YtokfkobhdjbciaaDoorQ06
import Derived.Test.YtokfkobhdjbciaaDoorQ07
import Derived.Test.YtokfkobhdjbciaaDoorQ08
import Derived.Test.YtokfkobhdjbciaaDoorQ09
import Derived.Test.YtokfkobhdjbciaaDoorQ10
import Derived.Test.YtokfkobhdjbciaaDoorQ11
import Derived.Test.YtokfkobhdjbciaaDoorQ12
import Derived.Test.YtokfkobhdjbciaaDoorQ13
import Derived.Test.YtokfkobhdjbciaaDoorQ14
set_option linter.unusedSimpArgs false
set_option linter.unusedVariables false
namespace Go.Proofs.YtokfkobhdjbciaaDoor
open Go.RowKit Go.Lib

theorem five_oth {t : Tm} : Five t → OthH t := by
  induction t with
  | nil => intro h; exact h.elim
  | other u x => intro h; exact h.elim
  | lit n => intro _; trivial
  | var s => intro _; trivial
  | un op a iha => intro h; exact iha h
  | bin op a b iha ihb => intro h; exact ⟨iha h.1, ihb h.2⟩
  | ifs c a b ihc iha ihb => intro h; exact ⟨ihc h.1, iha h.2.1, ihb h.2.2⟩

theorem row_form {w : World} {base : Nat} {e : TypeId} {s n : Nat} {v : Value} {xs : List Value} (h : w.ownsRow base e s v n xs) : ∃ ao cap, v = .slice ao n cap := by
  rcases h.2 with ⟨rfl, h0⟩ | ⟨g', cap', cur, rfl, _⟩
  · exact ⟨none, 0, by rw [h0]⟩
  · exact ⟨_, _, rfl⟩

/-- What open tells. -/
def OpenP (w : World) (t : Tm) (e : Ending) (w' : World) : Prop :=
  Below w.heap.size w w' ∧
  ((∃ fr, begL (flatT t) = some fr ∧ ∃ na nc ta tc ns, e = .returned (.tuple #[.agg #[.slice na (flatT t).length nc, .slice ta (subsT t).length tc, .int .i64 (flatT t).length], .bool true]) ∧ (OwnP w' w.heap.size (.slice na (flatT t).length nc) ns ∧ KdAp ns) ∧ ns.map (·.1) = flatT t ∧ w'.ownsRow w.heap.size 45 1 (.slice ta (subsT t).length tc) (subsT t).length ((subsT t).map tv)) ∨
   (begL (flatT t) = none ∧ e = .returned (.tuple #[.agg #[.slice none 0 0, .slice none 0 0, .int .i64 0], .bool false])))

set_option maxRecDepth 20000 in
set_option maxHeartbeats 2000000 in
theorem open_tm (t : Tm) (hO : OthH t) (w : World) (T : SpanCells w) : Calls Tryd.prog 50 #[tv t] w (OpenP w t) := by
  obtain ⟨v, hv⟩ : ∃ v, tv t = v := ⟨_, rfl⟩
  have cA : Hid (∀ V p, V.heap[p]? = some (.cells #[.slice none 0 0, .slice none 0 0, .int .i64 0] 99 (0, 0)) → Calls Tryd.prog 71 #[.pointer (some ⟨p, 0, none⟩), v] V (AddP V p (.slice none 0 0) (.slice none 0 0) [] [] 0 t)) := fun V p h => by
    have := add_tm ((flatT t).length + 1) t (by omega) hO V p (.slice none 0 0) (.slice none 0 0) [] [] 0 ⟨h, OwnP_nil _ _, World.ownsRow_nil _ _ _ _, List.Pairwise.nil⟩ (by simp) (by simp) (by omega)
    rw [hv] at this; exact this
  rw [hv]
  clear hv
  go_enter Tryd.func50, Tryd.ntmps50
  have HT : Hid (SpanCells w) := T
  clear T
  go_wp2_with fail
  have hp0 := Deep.blk_alloc_new (w.alloc (.cells #[.slice none 0 0, .slice none 0 0, .int .i64 0] 99)) (.cells #[.slice none 0 0, .slice none 0 0, .int .i64 0] 99)
  have hr0 : ((w.alloc (.cells #[.slice none 0 0, .slice none 0 0, .int .i64 0] 99)).alloc (.cells #[.slice none 0 0, .slice none 0 0, .int .i64 0] 99)).heap[w.heap.size]? = some (.cells #[.slice none 0 0, .slice none 0 0, .int .i64 0] 99 (0, 0)) := (Deep.blk_alloc_lt _ _ _ (by simp)).trans (Deep.blk_alloc_new _ _)
  have hb0 : Below w.heap.size w ((w.alloc (.cells #[.slice none 0 0, .slice none 0 0, .int .i64 0] 99)).alloc (.cells #[.slice none 0 0, .slice none 0 0, .int .i64 0] 99)) := ((Below.refl _ _).alloc (Nat.le_refl _) _).alloc (by simp) _
  have hs0 : ((w.alloc (.cells #[.slice none 0 0, .slice none 0 0, .int .i64 0] 99)).alloc (.cells #[.slice none 0 0, .slice none 0 0, .int .i64 0] 99)).heap.size = w.heap.size + 2 := by simp
  simp only [World.size_alloc] at hp0
  generalize ((w.alloc (.cells #[.slice none 0 0, .slice none 0 0, .int .i64 0] 99)).alloc (.cells #[.slice none 0 0, .slice none 0 0, .int .i64 0] 99)) = w0 at *
  have HB0 : Hid (Below w.heap.size w w0) := hb0
  clear hb0
  refine (cA.out _ _ hp0).mono ?_
  rintro e w2 (⟨h64, rfl, vn, vt, ns, WK, hns, hy, FR⟩ | ⟨h64, rfl, hB⟩)
  · have hr2 : w2.heap[w.heap.size]? = some (.cells #[.slice none 0 0, .slice none 0 0, .int .i64 0] 99 (0, 0)) := (FR.same w.heap.size (by omega) (by omega) (by simp [Value.ownBlock]) (by simp [Value.ownBlock])).trans hr0
    have hu : Below (w.heap.size + 1) w0 w2 := FR.under (by omega) (fun b h => by cases h) (fun b h => by cases h)
    have hb2 : Below w.heap.size w w2 := HB0.out.trans (hu.mono (by omega))
    have HT2 : Hid (SpanCells w2) := HT.out.below hb2
    have HB2 : Hid (Below w.heap.size w w2) := hb2
    simp only [List.nil_append, Nat.zero_add, List.length_nil] at WK h64 hns
    have hns' : ns.map (·.1) = flatT t := by rw [hns]; exact map_mvN_zero _ _
    have hnl : ns.length = (flatT t).length := by rw [← hns', List.length_map]
    obtain ⟨na, nc, hvn⟩ := WK.on.form
    obtain ⟨ta, tc, hvt⟩ := row_form WK.ot
    rw [hnl] at hvn
    subst hvn
    subst hvt
    have hN := Nodes_of_ownP WK.on (Nat.le_refl _)
    rw [hns'] at hN
    have p0 : w2.cell? ⟨w.heap.size + 1, 0, none⟩ = some (.slice na (flatT t).length nc) := by simp [World.cell?, WK.blk]
    have HWK : Hid (Wk w2 (w.heap.size + 1) (.slice na (flatT t).length nc) (.slice ta (subsT t).length tc) ns (subsT t) (flatT t).length) := WK
    have HNS : Hid (ns.map (·.1) = flatT t) := hns'
    have HAPO : Hid (KdAp ns) := WK.ap
    have hp2 := lt_of_block WK.blk
    have HR2 : Hid (w2.heap[w.heap.size]? = some (.cells #[.slice none 0 0, .slice none 0 0, .int .i64 0] 99 (0, 0))) := hr2
    clear hns hns' hnl WK hy FR hu hb2 hr0 hp0 hs0 hr2
    cases hs : begL (flatT t) with
    | none =>
      have CK : Hid (Calls Tryd.prog 7 #[.slice na (flatT t).length nc] w2 fun e w' => e = .returned (.int .i64 1) ∧ Below w2.heap.size w2 w') := check_none _ (flatT t) _ _ (Nat.le_refl _) HT2.out hN hs
      have HS : Hid (begL (flatT t) = none) := hs
      clear hs hN
      generalize (flatT t).length = L at *
      go_wp2_with fail
      refine CK.out.mono ?_
      rintro e w3 ⟨rfl, hb3⟩
      have hr3 : w3.heap[w.heap.size]? = _ := (hb3.block _ (by omega)).trans HR2.out
      have q0 : w3.cell? ⟨w.heap.size, 0, none⟩ = some (.slice none 0 0) := by simp [World.cell?, hr3]
      have q1 : w3.cell? ⟨w.heap.size, 1, none⟩ = some (.slice none 0 0) := by simp [World.cell?, hr3]
      have q2 : w3.cell? ⟨w.heap.size, 2, none⟩ = some (.int .i64 0) := by simp [World.cell?, hr3]
      have f0 : w3.frozen? ⟨w.heap.size, 0, none⟩ = false := by simp [World.frozen?, hr3]
      have f1 : w3.frozen? ⟨w.heap.size, 1, none⟩ = false := by simp [World.frozen?, hr3]
      have f2 : w3.frozen? ⟨w.heap.size, 2, none⟩ = false := by simp [World.frozen?, hr3]
      have HB3 : Hid (Below w.heap.size w w3) := HB2.out.trans (hb3.mono HB2.out.size)
      have HR3 : Hid (w3.heap[w.heap.size]? = some (.cells #[.slice none 0 0, .slice none 0 0, .int .i64 0] 99 (0, 0))) := hr3
      clear hb3 hr3
      go_wp2_with fail
      obtain ⟨w4, hw4⟩ : ∃ w4, (((w3.setCell ⟨w.heap.size, 0, none⟩ (.slice none 0 0)).setCell ⟨w.heap.size, 1, none⟩ (.slice none 0 0)).setCell ⟨w.heap.size, 2, none⟩ (.int .i64 0)) = w4 := ⟨_, rfl⟩
      have hr4 : w4.heap[w.heap.size]? = some (.cells #[.slice none 0 0, .slice none 0 0, .int .i64 0] 99 (0, 0)) := by
        have := blk_set (o := 2) (v := .int .i64 0) (blk_set (o := 1) (v := .slice none 0 0) (blk_set (o := 0) (v := .slice none 0 0) HR3.out))
        rw [hw4] at this; simpa using this
      have HB4 : Hid (Below w.heap.size w w4) := by rw [← hw4]; exact ((HB3.out.setCell (Nat.le_refl _) _).setCell (Nat.le_refl _) _).setCell (Nat.le_refl _) _
      rw [hw4]
      clear hw4
      refine bodyPost_ret (v := .tuple #[.agg #[.slice none 0 0, .slice none 0 0, .int .i64 0], .bool false]) ?_ rfl ⟨HB4.out, .inr ⟨HS.out, rfl⟩⟩
      rw [results_cell_tmp rfl]
      simp [go_sem, World.cell?, hr4]
    | some fr =>
      have CK : Hid (Calls Tryd.prog 7 #[.slice na (flatT t).length nc] w2 fun e w' => e = .returned (.int .i64 0) ∧ Below w2.heap.size w2 w') := check_some _ (flatT t) fr _ _ (Nat.le_refl _) HT2.out hN hs
      have HS : Hid (begL (flatT t) = some fr) := hs
      clear hs hN
      obtain ⟨L, hL⟩ : ∃ L, (flatT t).length = L := ⟨_, rfl⟩
      obtain ⟨K, hK⟩ : ∃ K, (subsT t).length = K := ⟨_, rfl⟩
      have HL : Hid ((flatT t).length = L) := hL
      have HK : Hid ((subsT t).length = K) := hK
      rw [hL] at p0 CK HWK h64
      rw [hK] at HWK
      clear hL hK
      go_wp2_with fail
      refine CK.out.mono ?_
      rintro e w3 ⟨rfl, hb3⟩
      have hr3 : w3.heap[w.heap.size]? = _ := (hb3.block _ (by omega)).trans HR2.out
      have hp3 : w3.heap[w.heap.size + 1]? = _ := (hb3.block _ (by omega)).trans HWK.out.blk
      have q0 : w3.cell? ⟨w.heap.size, 0, none⟩ = some (.slice none 0 0) := by simp [World.cell?, hr3]
      have q1 : w3.cell? ⟨w.heap.size, 1, none⟩ = some (.slice none 0 0) := by simp [World.cell?, hr3]
      have q2 : w3.cell? ⟨w.heap.size, 2, none⟩ = some (.int .i64 0) := by simp [World.cell?, hr3]
      have f0 : w3.frozen? ⟨w.heap.size, 0, none⟩ = false := by simp [World.frozen?, hr3]
      have f1 : w3.frozen? ⟨w.heap.size, 1, none⟩ = false := by simp [World.frozen?, hr3]
      have f2 : w3.frozen? ⟨w.heap.size, 2, none⟩ = false := by simp [World.frozen?, hr3]
      have z0 : w3.cell? ⟨w.heap.size + 1, 0, none⟩ = some (.slice na L nc) := by simp [World.cell?, hp3]
      have z1 : w3.cell? ⟨w.heap.size + 1, 1, none⟩ = some (.slice ta K tc) := by simp [World.cell?, hp3]
      have z2 : w3.cell? ⟨w.heap.size + 1, 2, none⟩ = some (.int .i64 L) := by simp [World.cell?, hp3]
      have HB3 : Hid (Below w.heap.size w w3) := HB2.out.trans (hb3.mono HB2.out.size)
      have HR3 : Hid (w3.heap[w.heap.size]? = some (.cells #[.slice none 0 0, .slice none 0 0, .int .i64 0] 99 (0, 0))) := hr3
      have HON : Hid (OwnP w3 (w.heap.size + 1 + 1) (.slice na L nc) ns) := HWK.out.on.below hb3
      have HOT : Hid (w3.ownsRow (w.heap.size + 1 + 1) 45 1 (.slice ta K tc) K ((subsT t).map tv)) := by
        have := ownsRow_below HWK.out.ot hb3
        rw [HK.out] at this
        exact this
      clear hb3 hr3 hp3
      go_wp2_with fail
      obtain ⟨w4, hw4⟩ : ∃ w4, (((w3.setCell ⟨w.heap.size, 0, none⟩ (.slice na L nc)).setCell ⟨w.heap.size, 1, none⟩ (.slice ta K tc)).setCell ⟨w.heap.size, 2, none⟩ (.int .i64 L)) = w4 := ⟨_, rfl⟩
      have hr4 : w4.heap[w.heap.size]? = some (.cells #[.slice na L nc, .slice ta K tc, .int .i64 L] 99 (0, 0)) := by
        have := blk_set (o := 2) (v := .int .i64 L) (blk_set (o := 1) (v := .slice ta K tc) (blk_set (o := 0) (v := .slice na L nc) HR3.out))
        rw [hw4] at this; simpa using this
      have HB4 : Hid (Below w.heap.size w w4) := by rw [← hw4]; exact ((HB3.out.setCell (Nat.le_refl _) _).setCell (Nat.le_refl _) _).setCell (Nat.le_refl _) _
      have hn4 : OwnP w4 w.heap.size (.slice na L nc) ns := by
        have h : OwnP w4 (w.heap.size + 1 + 1) (.slice na L nc) ns := by
          rw [← hw4]; exact ownP_set (ownP_set (ownP_set HON.out (by omega)) (by omega)) (by omega)
        exact ⟨ownsRow_mono h.row (by omega), fun q hq => ownsRow_mono (h.kids q hq) (by omega)⟩
      have ht4 : w4.ownsRow w.heap.size 45 1 (.slice ta K tc) K ((subsT t).map tv) := by
        have h : w4.ownsRow (w.heap.size + 1 + 1) 45 1 (.slice ta K tc) K ((subsT t).map tv) := by
          rw [← hw4]; exact own_set (own_set (own_set HOT.out (by omega)) (by omega)) (by omega)
        exact ownsRow_mono h (by omega)
      rw [hw4]
      clear hw4
      refine bodyPost_ret (v := .tuple #[.agg #[.slice na L nc, .slice ta K tc, .int .i64 L], .bool true]) ?_ rfl ⟨HB4.out, .inl ⟨fr, HS.out, na, nc, ta, tc, ns, by rw [HL.out, HK.out], by rw [HL.out]; exact ⟨hn4, HAPO.out⟩, HNS.out, by rw [HK.out]; exact ht4⟩⟩
      rw [results_cell_tmp rfl]
      simp [go_sem, World.cell?, hr4]
  · have hr2 : w2.heap[w.heap.size]? = some (.cells #[.slice none 0 0, .slice none 0 0, .int .i64 0] 99 (0, 0)) := (hB.block _ (by omega)).trans hr0
    have HB2 : Hid (Below w.heap.size w w2) := HB0.out.trans (hB.mono (by omega))
    have q0 : w2.cell? ⟨w.heap.size, 0, none⟩ = some (.slice none 0 0) := by simp [World.cell?, hr2]
    have q1 : w2.cell? ⟨w.heap.size, 1, none⟩ = some (.slice none 0 0) := by simp [World.cell?, hr2]
    have q2 : w2.cell? ⟨w.heap.size, 2, none⟩ = some (.int .i64 0) := by simp [World.cell?, hr2]
    have f0 : w2.frozen? ⟨w.heap.size, 0, none⟩ = false := by simp [World.frozen?, hr2]
    have f1 : w2.frozen? ⟨w.heap.size, 1, none⟩ = false := by simp [World.frozen?, hr2]
    have f2 : w2.frozen? ⟨w.heap.size, 2, none⟩ = false := by simp [World.frozen?, hr2]
    have HR2 : Hid (w2.heap[w.heap.size]? = some (.cells #[.slice none 0 0, .slice none 0 0, .int .i64 0] 99 (0, 0))) := hr2
    have HS : Hid (begL (flatT t) = none) := by rw [Hid]; unfold begL; rw [if_pos (by omega)]
    clear hr2 hB hr0 hp0 hs0 h64
    go_wp2_with fail
    obtain ⟨w4, hw4⟩ : ∃ w4, (((w2.setCell ⟨w.heap.size, 0, none⟩ (.slice none 0 0)).setCell ⟨w.heap.size, 1, none⟩ (.slice none 0 0)).setCell ⟨w.heap.size, 2, none⟩ (.int .i64 0)) = w4 := ⟨_, rfl⟩
    have hr4 : w4.heap[w.heap.size]? = some (.cells #[.slice none 0 0, .slice none 0 0, .int .i64 0] 99 (0, 0)) := by
      have := blk_set (o := 2) (v := .int .i64 0) (blk_set (o := 1) (v := .slice none 0 0) (blk_set (o := 0) (v := .slice none 0 0) HR2.out))
      rw [hw4] at this; simpa using this
    have HB4 : Hid (Below w.heap.size w w4) := by rw [← hw4]; exact ((HB2.out.setCell (Nat.le_refl _) _).setCell (Nat.le_refl _) _).setCell (Nat.le_refl _) _
    rw [hw4]
    clear hw4
    refine bodyPost_ret (v := .tuple #[.agg #[.slice none 0 0, .slice none 0 0, .int .i64 0], .bool false]) ?_ rfl ⟨HB4.out, .inr ⟨HS.out, rfl⟩⟩
    rw [results_cell_tmp rfl]
    simp [go_sem, World.cell?, hr4]

/-- What Open says: the document's nodes, in memory of its own, or none. -/
theorem open_own (t : Tm) (hO : OthH t) (w : World) (T : SpanCells w) : Calls Tryd.prog 23 #[tv t] w fun e w' => ∃ v ns, e = .returned (.tuple #[v, .int .i64 (if sndB (flatT t) = true then 0 else 1)]) ∧ (OwnP w' w.heap.size v ns ∧ KdAp ns) ∧ ns.map (·.1) = wantT t ∧ Below w.heap.size w w' := by
  have cO : Hid (∀ V, SpanCells V → Calls Tryd.prog 50 #[tv t] V (OpenP V t)) := fun V h => open_tm t hO V h
  obtain ⟨v, hv⟩ : ∃ v, tv t = v := ⟨_, rfl⟩
  rw [hv] at cO ⊢
  clear hv
  obtain ⟨er, her⟩ : ∃ er, (if sndB (flatT t) = true then (0 : Int) else 1) = er := ⟨_, rfl⟩
  rw [her]
  have HER : Hid ((if sndB (flatT t) = true then (0 : Int) else 1) = er) := her
  clear her
  go_enter Tryd.func23, Tryd.ntmps23
  go_wp2_with fail
  refine (cO.out _ T).mono ?_
  rintro e w2 ⟨hb, ⟨fr, hs, na, nc, ta, tc, ns, rfl, hN, hm, _⟩ | ⟨hs, rfl⟩⟩
  · have HE : Hid (er = 0 ∧ wantT t = flatT t) := by
      have : sndB (flatT t) = true := by unfold sndB; rw [hs]; rfl
      exact ⟨by rw [← HER.out, if_pos this], by unfold wantT; rw [if_pos this]⟩
    have HN : Hid ((OwnP w2 w.heap.size (.slice na (flatT t).length nc) ns ∧ KdAp ns) ∧ ns.map (·.1) = flatT t ∧ Below w.heap.size w w2) := ⟨hN, hm, hb⟩
    clear hs hN hm hb
    generalize (flatT t).length = L at *
    generalize (subsT t).length = K at *
    go_wp2_with fail
    go_ret2
    obtain ⟨h1, h2, h3⟩ := HN.out
    refine ⟨_, ns, by rw [HE.out.1]; rfl, ?_, by rw [HE.out.2]; exact h2, ?_⟩
    · exact ⟨h1.1.below ((Below.refl _ _).alloc (Nat.le_refl _) _), h1.2⟩
    · exact h3.alloc h3.size _
  · have HE : Hid (er = 1 ∧ wantT t = []) := by
      have : sndB (flatT t) = false := by unfold sndB; rw [hs]; rfl
      exact ⟨by rw [← HER.out, this]; rfl, by unfold wantT; rw [this]; rfl⟩
    have HN : Hid (Below w.heap.size w w2) := hb
    clear hs hb
    go_wp2_with fail
    go_ret2
    refine ⟨_, [], by rw [HE.out.1]; rfl, ⟨OwnP_nil _ _, List.Pairwise.nil⟩, by rw [HE.out.2]; rfl, ?_⟩
    exact HN.out.alloc HN.out.size _
end Go.Proofs.YtokfkobhdjbciaaDoor

set_option linter.unusedSimpArgs false
set_option linter.unusedVariables false
namespace Go.Proofs.YtokfkobhdjbciaaDoor
open Go.RowKit

structure Cl where
  kind : Int
  op : Int
  n : Int
  name : ByteArray
  a : Int
  b : Int
  c : Int
def cl0 : Cl := ⟨0, 0, 0, ⟨#[]⟩, 0, 0, 0⟩

def PTR : TypeId := 93
def FRN : TypeId := 94

/-- The earlier value of that number, or nil. -/
def getT (ts : List Tm) (k : Int) : Tm := if 0 ≤ k ∧ k < ts.length then ts.getD k.toNat .nil else .nil
/-- The value of one cell, those of the earlier ones being ts; p: where a literal is laid. -/
def mkT (x : Cl) (ts : List Tm) (p : Addr) : Tm :=
  if x.kind = 1 then .lit x.n else if x.kind = 2 then .var x.name else if x.kind = 3 then .un x.op (getT ts x.a)
  else if x.kind = 4 then .bin x.op (getT ts x.a) (getT ts x.b) else if x.kind = 5 then .ifs (getT ts x.c) (getT ts x.a) (getT ts x.b)
  else if x.kind = 6 then .other PTR (.pointer (some p)) else if x.kind = 7 then .other FRN (.agg #[.int .i64 x.n]) else .nil

inductive Vals (cs : List Cl) : List Tm → Prop
  | nil : Vals cs []
  | snoc (ts : List Tm) (p : Addr) (h : Vals cs ts) (hl : ts.length < cs.length) : Vals cs (ts ++ [mkT (cs.getD ts.length cl0) ts p])

theorem Vals.at_ {cs : List Cl} {ts : List Tm} (h : Vals cs ts) : ∀ i, i < ts.length → ∃ p, ts.getD i .nil = mkT (cs.getD i cl0) (ts.take i) p := by
  induction h with
  | nil => intro i hi; simp at hi
  | snoc ts p h hl ih =>
    intro i hi
    simp at hi
    by_cases hlt : i < ts.length
    · obtain ⟨q, hq⟩ := ih i hlt
      refine ⟨q, ?_⟩
      have e1 : (ts ++ [mkT (cs.getD ts.length cl0) ts p]).getD i .nil = ts.getD i .nil := by
        simp only [List.getD_eq_getElem?_getD]; rw [List.getElem?_append_left hlt]
      have e2 : (ts ++ [mkT (cs.getD ts.length cl0) ts p]).take i = ts.take i := List.take_append_of_le_length (by omega)
      rw [e1, e2, hq]
    · have he : i = ts.length := by omega
      subst he
      exact ⟨p, by simp⟩

/-- Of the kinds that occur. -/
def Kn : Tm → Prop
  | .other u x => (u = PTR ∧ ∃ p, x = .pointer (some p)) ∨ (u = FRN ∧ ∃ n, x = .agg #[.int .i64 n])
  | _ => True
theorem Kn.oth {t : Tm} (h : Kn t) : Oth t := by
  cases t with
  | other u x =>
    rcases h with ⟨rfl, _⟩ | ⟨rfl, _⟩
    · exact ⟨by decide, by decide, by decide, by decide, by decide⟩
    · exact ⟨by decide, by decide, by decide, by decide, by decide⟩
  | _ => trivial
structure ClAt (w : World) (b o : Nat) (x : Cl) : Prop where
  c0 : w.cell? ⟨b, o, none⟩ = some (.int .i64 x.kind)
  c1 : w.cell? ⟨b, o + 1, none⟩ = some (.int .i64 x.op)
  c2 : w.cell? ⟨b, o + 2, none⟩ = some (.int .i64 x.n)
  c3 : w.cell? ⟨b, o + 3, none⟩ = some (.string x.name)
  c4 : w.cell? ⟨b, o + 4, none⟩ = some (.int .i64 x.a)
  c5 : w.cell? ⟨b, o + 5, none⟩ = some (.int .i64 x.b)
  c6 : w.cell? ⟨b, o + 6, none⟩ = some (.int .i64 x.c)
theorem ClAt.below {w w' : World} {B b o : Nat} {x : Cl} (h : ClAt w b o x) (hb : Below B w w') (hlt : b < B) : ClAt w' b o x :=
  ⟨(hb.cell (p := ⟨b, o, none⟩) hlt).trans h.c0, (hb.cell (p := ⟨b, o + 1, none⟩) hlt).trans h.c1, (hb.cell (p := ⟨b, o + 2, none⟩) hlt).trans h.c2, (hb.cell (p := ⟨b, o + 3, none⟩) hlt).trans h.c3, (hb.cell (p := ⟨b, o + 4, none⟩) hlt).trans h.c4, (hb.cell (p := ⟨b, o + 5, none⟩) hlt).trans h.c5, (hb.cell (p := ⟨b, o + 6, none⟩) hlt).trans h.c6⟩

/-- The slice reads as the cells l. -/
def Cls (w : World) (ao : Option Addr) (cap : Nat) (l : List Cl) : Prop :=
  l.length ≤ cap ∧ cap ≤ maxLen ∧ (l = [] ∨ ∃ b o, ao = some ⟨b, o, none⟩ ∧ b < w.heap.size ∧ ∀ i, i < l.length → ClAt w b (o + i * 7) (l.getD i cl0))
theorem Cls.below {w w' : World} {ao : Option Addr} {cap : Nat} {l : List Cl} (h : Cls w ao cap l) (hb : Below w.heap.size w w') : Cls w' ao cap l := by
  obtain ⟨h1, h2, h3⟩ := h
  refine ⟨h1, h2, ?_⟩
  rcases h3 with h3 | ⟨b, o, e, hlt, hc⟩
  · exact .inl h3
  · exact .inr ⟨b, o, e, Nat.lt_of_lt_of_le hlt hb.size, fun i hi => (hc i hi).below hb hlt⟩
theorem Cls.at_ {w : World} {ao : Option Addr} {cap : Nat} {l : List Cl} (h : Cls w ao cap l) {i : Nat} (hi : i < l.length) : ∃ b o, ao = some ⟨b, o, none⟩ ∧ b < w.heap.size ∧ ∀ i, i < l.length → ClAt w b (o + i * 7) (l.getD i cl0) := by
  rcases h.2.2 with h | h
  · subst h; simp at hi
  · exact h
end Go.Proofs.YtokfkobhdjbciaaDoor

namespace Go.Proofs.YtokfkobhdjbciaaDoor
open Go.RowKit

set_option maxRecDepth 20000 in
set_option maxHeartbeats 1000000 in
theorem parts_any (t : Tm) (hO : Oth t) (w : World) : Calls Tryd.prog 28 #[tv t] w fun e w' => ∃ g, e = .returned (pvT g t) ∧ w.heap.size ≤ g ∧ PartsAt w' g t ∧ Below w.heap.size w w' := by
  have HS : Hid (∀ w, Calls Tryd.prog 52 #[tv t] w fun e w' => ∃ g ao n c, e = .returned (.tuple #[.agg #[.int .i64 (opT t), .int .i64 (nT t), .string (nameT t), .slice none 0 0], .slice ao n c]) ∧ .slice ao n c = pvT g t ∧ w.heap.size ≤ g ∧ PartsAt w' g t ∧ Below w.heap.size w w') := fun w => by
    refine (split_any t hO w).mono ?_
    rintro e w' ⟨g, rfl, h1, h2, h3⟩
    by_cases h0 : (partsT t).length = 0
    · refine ⟨g, none, 0, 0, ?_, ?_, h1, h2, h3⟩
      · unfold pvT; rw [if_pos h0]
      · unfold pvT; rw [if_pos h0]
    · refine ⟨g, some ⟨g, 0, none⟩, (partsT t).length, (partsT t).length, ?_, ?_, h1, h2, h3⟩
      · unfold pvT; rw [if_neg h0]
      · unfold pvT; rw [if_neg h0]
  obtain ⟨v, hv⟩ : ∃ v, tv t = v := ⟨_, rfl⟩
  rw [hv] at HS ⊢
  clear hv
  generalize nT t = n at *
  generalize opT t = op at *
  generalize nameT t = nm at *
  go_enter Tryd.func28, Tryd.ntmps28
  go_wp2_with fail
  refine (HS.out _).mono ?_
  rintro e w2 ⟨g, ao, k, c, rfl, hpv, hg, hP, hb2⟩
  have HP : Hid (.slice ao k c = pvT g t ∧ PartsAt w2 g t) := ⟨hpv, hP⟩
  clear hpv hP
  go_wp2_with fail
  go_ret
  exact ⟨g, by rw [← HP.out.1]; rfl, hg, HP.out.2.below ((Below.refl _ _).alloc (Nat.le_refl _) _), hb2.alloc hb2.size _⟩

end Go.Proofs.YtokfkobhdjbciaaDoor
