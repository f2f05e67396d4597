/-
  ExDepW, RbPure, VdW, PlEW, QTail.
-/
import Derived.Test.YtpacjofepiojdaaDoorChecked
import GoSem.PinnedTables
import GoSem.Claim
import GoSem.ClaimJoined
import GoSem.ClaimMapViews
import Derived.JoinedTies
import Derived.KernelRfl
import Derived.Shelf.Unicode.DecodeSlow
import Derived.Laws.RangeAny
import Derived.Shelf.Small.Bits
import Derived.Shelf.Strconv.Itoa0
import Derived.Shelf.LaysM
import Derived.Shelf.Strconv.Clone
import Derived.Shelf.Unicode.DecodeAny
import Derived.Shelf.Slices.CompactS
import Derived.Ground.SlsfProg
import Derived.Shelf.SlSortCmp.Insertion
import Derived.Shelf.SlSortCmp.SiftDown1
import Derived.Shelf.SlSortCmp.HeapSort1
import Derived.Shelf.SlSortCmp.Insertion1
import Derived.Shelf.SlSortCmp.Median1
import Derived.Shelf.SlSortCmp.Pivot1
import Derived.Shelf.SlSortCmp.ReverseRange1
import Derived.Shelf.SlSortCmp.PartialInsertion1
import Derived.Shelf.SlSortCmp.PartitionEqual1
import Derived.Shelf.SlSortCmp.Partition1
import Derived.Shelf.SlSortCmp.Pdq1
import Derived.Shelf.SlSortCmp.Whole1
import Derived.Test.YtpacjofepiojdaaDoorProg
import Derived.WalkKit
import Derived.Deep.DeepFit
import Derived.Lib.OthersKept
import Derived.Lib.RuneCountTail
import Derived.Lib.LaidU8
import Derived.MakeChecks
import Derived.ProofKit
import Derived.OpenShut
import Derived.Deep.DeepHandedRow
import Derived.Deep.AppendLies
import Derived.Deep.OwnRows
import Derived.Laws.AppendOwnNone
import Derived.Deep.QuietTactic
import Derived.BigQuiet
import Derived.Deep.RegionWith
import Derived.Laws.DeepStrings4
import Derived.Deep.Slices
import Derived.SizedLaws
import Derived.Below
import Derived.Lib.MapLaws
import Derived.Sort.Walk0
import Derived.Lib.SlicesCompact
import Derived.Sort.EncStr
import Derived.Calls
import Derived.RunT
import Derived.Lib.QuietBelow
import Derived.Deep.Draws
import Derived.Sort.OwnSorted
import Derived.Laws.IdiomStrings
import Derived.WalkSmall
import Derived.Deep.RegionHeld3
import Derived.StillTail
import Derived.Test.YtpacjofepiojdaaDoorRows
import Derived.Test.YtpacjofepiojdaaDoorE01
import Derived.Test.YtpacjofepiojdaaDoorE02
import Derived.Test.YtpacjofepiojdaaDoorE03
import Derived.Test.YtpacjofepiojdaaDoorE04
import Derived.Test.YtpacjofepiojdaaDoorE05
import Derived.Test.YtpacjofepiojdaaDoorE06
import Derived.Test.YtpacjofepiojdaaDoorE07
import Derived.Test.YtpacjofepiojdaaDoorE08
import Derived.Test.YtpacjofepiojdaaDoorE09
import Derived.Test.YtpacjofepiojdaaDoorE10
import Derived.Test.YtpacjofepiojdaaDoorE11
import Derived.Test.YtpacjofepiojdaaDoorE12
import Derived.Test.YtpacjofepiojdaaDoorE13
set_option linter.unusedSimpArgs false
set_option linter.unusedVariables false
namespace Go.Proofs.YtpacjofepiojdaaDoor
open Go.RowKit Go.Lib

def mxF (ds : List Nat) (m : Nat) (ks : List Int) : Nat := ks.foldl (fun m k => max m (ds.getD k.toNat 0)) m
/-- How deep each node's expression is. -/
def dpR (ds : List Nat) : List Nd → List Nat
  | [] => ds
  | x :: l => dpR (ds ++ [mxF ds 0 x.kids + 1]) l

theorem dpR_append (l m : List Nd) : ∀ ds, dpR ds (l ++ m) = dpR (dpR ds l) m := by
  induction l with
  | nil => intro ds; rfl
  | cons x l ih => intro ds; simp only [List.cons_append, dpR]; exact ih _
theorem dpR_len (l : List Nd) : ∀ ds, (dpR ds l).length = ds.length + l.length := by
  induction l with
  | nil => intro ds; simp [dpR]
  | cons x l ih => intro ds; simp only [dpR]; rw [ih]; simp; omega
theorem dpR_take {l : List Nd} {k : Nat} (h : k < l.length) : dpR [] (l.take (k + 1)) = dpR [] (l.take k) ++ [mxF (dpR [] (l.take k)) 0 (l.getD k nd0).kids + 1] := by
  rw [List.take_succ_eq_append_getElem h, dpR_append]
  simp [dpR, h]
def Small (ds : List Nat) : Prop := ∀ j, ds.getD j 0 ≤ j + 1
theorem mxF_le {ds : List Nat} (hs : Small ds) (n : Nat) : ∀ (ks : List Int) (m : Nat), (∀ k ∈ ks, 0 ≤ k ∧ k < (n : Int)) → m ≤ n → mxF ds m ks ≤ n := by
  intro ks
  induction ks with
  | nil => intro m _ h; simpa [mxF] using h
  | cons k ks ih =>
    intro m hk h
    unfold mxF
    simp only [List.foldl_cons]
    have h1 := hk k (List.mem_cons_self ..)
    have h2 := hs k.toNat
    exact ih _ (fun q hq => hk q (List.mem_cons_of_mem _ hq)) (by omega)
theorem mxF_snoc (ds : List Nat) (m : Nat) (ks : List Int) (k : Int) : mxF ds m (ks ++ [k]) = max (mxF ds m ks) (ds.getD k.toNat 0) := by
  unfold mxF; rw [List.foldl_append]; rfl
theorem Small.snoc {ds : List Nat} (h : Small ds) {a : Nat} (ha : a ≤ ds.length + 1) : Small (ds ++ [a]) := by
  intro j
  rw [getD_snoc]
  split
  · exact h j
  · split <;> omega

structure DpMid (w2 : World) (G : Nat) (n : Nat) (ds : List Nat) (wo : World) (nv : Array Value) (m k : Nat) (wr : World) : Prop where
  row : wr.rowIs G 3 n (fun j => .int .i64 (if j = k then (m : Nat) else (ds.getD j 0 : Nat)))
  node : wr.heap[wo.heap.size]? = some (.cells nv 63 (0, 0))
  below : Below G w2 wr

theorem DpMid.drew {w2 : World} {G n : Nat} {ds : List Nat} {wo : World} {nv : Array Value} {m k : Nat} {wr : World} (h : DpMid w2 G n ds wo nv m k wr) : DpMid w2 G n ds wo nv m k wr.drew := ⟨h.row, h.node, h.below.drew⟩

set_option maxHeartbeats 4000000 in
theorem depth_some (vs : Value) (l : List Nd) (fr : List Nat) (w : World) (B : Nat) (hBw : B ≤ w.heap.size) (hT : SpanCells w) (hN : Nodes w B vs l) (h : begL l = some fr) :
    Calls Tryd.prog 16 #[vs] w fun e w' => e = .returned (.tuple #[.int .i64 ((dpR [] l).getD (l.length - 1) 0 : Nat), .int .i64 0]) ∧ Below w.heap.size w w' := by
  have h64 := (snd_bounds h).1
  have hl0 := (begL_some h).1
  have hkids := begR_kids (begL_some h).2.2.1 low_nil
  have hok3 := (snd_bounds h).2
  have hchain := (begL_some h).2.2.1
  have HS : Hid (begL l = some fr) := h
  clear h
  have hkk : ∀ i, i < l.length → ∀ k ∈ (l.getD i nd0).kids, 0 ≤ k ∧ k < (i : Int) := by
    intro i hi k hk
    have hlow := (begR_some hchain low_nil).2.1
    have hs := sts_of_beg l [] fr low_nil hchain
    have h1 := sts_at l i hi
    have e : sts l = fr.map some := hs
    have hlen := begR_len hchain
    rw [e, chain_some hlow _ _ (by omega)] at h1
    have h2 : (fr.map some).getD i none = some (fr.getD i 0) := by simp [show i < fr.length by omega]
    rw [h2] at h1
    exact chainL_kids _ _ _ h1.symm hlow k (by simpa using hk)
  have HKK : Hid (∀ i, i < l.length → ∀ k ∈ (l.getD i nd0).kids, 0 ≤ k ∧ k < (i : Int)) := hkk
  have HK3 : Hid (∀ i, i < l.length → (l.getD i nd0).kids.length ≤ 3) := fun i hi => hok3 _ (by simp [hi])
  clear hkids hok3 hchain hkk
  have hN0 := hN
  obtain ⟨ao, cap0, rfl, hl, hm, hc⟩ := hN
  unfold maxLen at hm
  obtain ⟨b, o, rfl, hbl, hc'⟩ : ∃ b o, ao = some ⟨b, o, none⟩ ∧ b < B ∧ ∀ i, i < l.length → ∃ kv, NodeAt w B b (o + i * 4) (l.getD i nd0) kv := by
    rcases hc with h | h
    · subst h; simp at hl0
    · exact h
  have HC : Hid (∀ i, i < l.length → ∃ kv, NodeAt w B b (o + i * 4) (l.getD i nd0) kv) := hc'
  clear hc hc'
  have hmk := run_make_row' (P := Tryd.prog) 61 3 (.int .i64 0) 8 Tryd.underlying61 Tryd.info3 rfl .i64 .i64 l.length (by omega) (by omega)
  obtain ⟨Z, hZ⟩ : ∃ Z, (dpR [] l).getD (l.length - 1) 0 = Z := ⟨_, rfl⟩
  rw [hZ]
  have HZ : Hid ((dpR [] l).getD (l.length - 1) 0 = Z) := hZ
  clear hZ
  go_enter Tryd.func16, Tryd.ntmps16
  go_wp2_with (go_at_call 8; refine (check_some _ l fr _ B hBw hT hN0 HS.out).mono ?_; rintro e w2 ⟨rfl, hb2⟩)
  have hz2 := hb2.size
  have HB2 : Hid (Below w.heap.size w w2) := hb2
  clear hb2 hN0 hT
  go_loopw [17] (fun i wr => ∃ k : Nat, k ≤ l.length ∧ i = .int .i64 k ∧ wr.rowIs w2.heap.size 3 l.length (fun j => .int .i64 ((dpR [] (l.take k)).getD j 0 : Nat)) ∧ Hid (Small (dpR [] (l.take k))) ∧ Below w2.heap.size w2 wr) (fun i _ => l.length - (RowKit.intOf i).toNat)
  case atStart => exact ⟨0, by omega, rfl, World.rowIs_made _ _ _ _, by intro j; simp [dpR], (Below.refl _ _).alloc (Nat.le_refl _) _⟩
  case round =>
    obtain ⟨k, hk, rfl, hrow, hsm, hB⟩ := hrel
    obtain ⟨wo, hwo⟩ : ∃ wo, wo = wr := ⟨_, rfl⟩
    subst hwo
    have hgl := hrow.lt
    clear hmk
    by_cases hlt : k < l.length
    · obtain ⟨kv, hNA⟩ := HC.out k hlt
      have hNA := hNA.below ((HB2.out.mono hBw).trans (hB.mono (by omega))) (Nat.le_refl _) hbl
      have hk3 := HK3.out k hlt
      have hkr := HKK.out k hlt
      have HD := dpR_take hlt
      have hdl : (dpR [] (l.take k)).length = k := by rw [dpR_len]; simp; omega
      generalize l.getD k nd0 = x at *
      obtain ⟨op, n, nm, kids⟩ := x
      obtain ⟨c0, c1, c2, c3, hki⟩ := hNA
      simp only at c0 c1 c2 c3 hki hk3 hkr HD
      obtain ⟨ka, kc, rfl, hkl, ⟨hkm, _⟩, hkc⟩ := hki
      unfold maxLen at hkm
      have HKC : Hid (kids = [] ∨ ∃ b o, ka = some ⟨b, o, none⟩ ∧ b < B ∧ ∀ j, j < kids.length → wo.cell? ⟨b, o + j, none⟩ = some (.int .i64 (kids.getD j 0))) := hkc
      have HKR : Hid (∀ q ∈ kids, 0 ≤ q ∧ q < (k : Int)) := hkr
      generalize dpR [] (l.take k) = ds at *
      have HDD : Hid (dpR [] (l.take (k + 1)) = ds ++ [mxF ds 0 kids + 1]) := HD
      have HDL : Hid (ds.length = k) := hdl
      clear hkc hkr HD hdl
      have hb9 : b < wo.heap.size := by omega
      have hb8 : b ≠ wo.heap.size := by omega
      have hg8 : w2.heap.size ≠ wo.heap.size := by omega
      go_wp2_with fail
      go_loopw [25] (fun q wr => ∃ j : Nat, j ≤ kids.length ∧ q = .int .i64 j ∧ DpMid w2 w2.heap.size l.length ds wo #[.int .i64 op, .int .i64 n, .string nm, .slice ka kids.length kc] (mxF ds 0 (kids.take j)) k wr) (fun q _ => kids.length - (RowKit.intOf q).toNat)
      case atStart =>
        refine ⟨0, by omega, rfl, ⟨(hrow.alloc _).congr (fun j hj => ?_), by rw [Deep.blk_alloc_new], hB.alloc (by omega) _⟩⟩
        by_cases hjk : j = k
        · have : ds.getD k 0 = 0 := by rw [List.getD_eq_getElem?_getD, List.getElem?_eq_none (by rw [HDL.out]; omega)]; rfl
          rw [if_pos hjk, hjk, this]; rfl
        · rw [if_neg hjk]
      case round =>
        obtain ⟨j, hj, rfl, hM⟩ := hrel
        have hrl := hM.row.lt
        have hnl := lt_of_block hM.node
        have d3 : wr.cell? ⟨wo.heap.size, 3, none⟩ = some (.slice ka kids.length kc) := by simp [World.cell?, hM.node]
        by_cases hjl : j < kids.length
        · obtain ⟨kb, ko, rfl, hkb, hkc⟩ : ∃ b o, ka = some ⟨b, o, none⟩ ∧ b < B ∧ ∀ j, j < kids.length → wo.cell? ⟨b, o + j, none⟩ = some (.int .i64 (kids.getD j 0)) := by
            rcases HKC.out with h | h
            · subst h; simp at hjl
            · exact h
          have hcj : wr.cell? ⟨kb, ko + j, none⟩ = some (.int .i64 (kids.getD j 0)) := by
            have e1 := hkc j hjl
            rw [hB.cell (p := ⟨kb, ko + j, none⟩) (by show kb < w2.heap.size; omega)] at e1
            rw [hM.below.cell (p := ⟨kb, ko + j, none⟩) (by show kb < w2.heap.size; omega)]; exact e1
          obtain ⟨hy0, hy1⟩ := HKR.out (kids.getD j 0) (by simp [hjl])
          have HMX : Hid (mxF ds 0 (kids.take (j + 1)) = max (mxF ds 0 (kids.take j)) (ds.getD (kids.getD j 0).toNat 0)) := by
            show mxF ds 0 (kids.take (j + 1)) = _
            rw [List.take_succ_eq_append_getElem hjl, mxF_snoc]; simp [hjl]
          have hmle := mxF_le hsm.out k (kids.take j) 0 (fun q hq => HKR.out q (List.mem_of_mem_take hq)) (by omega)
          clear hkc HKC
          generalize kids.getD j 0 = y at *
          obtain ⟨y, rfl⟩ : ∃ z : Nat, y = (z : Int) := ⟨y.toNat, by omega⟩
          rw [Int.toNat_natCast] at HMX
          have hyk : y < k := by omega
          have hdy := hsm.out y
          have e0 : wr.cell? ⟨w2.heap.size, k, none⟩ = some (.int .i64 (mxF ds 0 (kids.take j) : Nat)) := by have := hM.row.cell hlt; rw [if_pos rfl] at this; exact this
          have e1 : wr.cell? ⟨w2.heap.size, y, none⟩ = some (.int .i64 (ds.getD y 0 : Nat)) := by have := hM.row.cell (show y < l.length by omega); rw [if_neg (by omega)] at this; exact this
          have f0 := hM.row.frozen k
          have HSET : Hid (∀ m' : Nat, DpMid w2 w2.heap.size l.length ds wo #[.int .i64 op, .int .i64 n, .string nm, .slice (some ⟨kb, ko, none⟩) kids.length kc] m' k (wr.setCell ⟨w2.heap.size, k, none⟩ (.int .i64 (m' : Nat)))) := fun m' => by
            refine ⟨(hM.row.set k _).congr (fun q hq => ?_), (Deep.blk_setCell_other _ _ _ _ (by show wo.heap.size ≠ w2.heap.size; omega)).trans hM.node, hM.below.setCell (Nat.le_refl _) _⟩
            by_cases hqk : q = k
            · rw [if_pos hqk, if_pos hqk]
            · rw [if_neg hqk, if_neg hqk, if_neg hqk]
          generalize mxF ds 0 (kids.take j) = m at *
          generalize ds.getD y 0 = z at *
          go_wp2_with fail
          go_region
          go_wp2_with fail
          refine ⟨⟨j + 1, by omega, by go_num, ?_⟩, by simp [RowKit.intOf]; omega⟩
          rw [HMX.out]
          have hmx : (max (m : Int) (z : Int)) = ((max m z : Nat) : Int) := by omega
          rw [hmx]
          exact (HSET.out (max m z)).drew
        · have hje : j = kids.length := by omega
          subst hje
          rw [List.take_length] at hM
          have hmle := mxF_le hsm.out k kids 0 (fun q hq => HKR.out q hq) (by omega)
          have e0 : wr.cell? ⟨w2.heap.size, k, none⟩ = some (.int .i64 (mxF ds 0 kids : Nat)) := by have := hM.row.cell hlt; rw [if_pos rfl] at this; exact this
          have f0 := hM.row.frozen k
          generalize mxF ds 0 kids = m at *
          have HEND : Hid ((wr.setCell ⟨w2.heap.size, k, none⟩ (.int .i64 ((m : Int) + 1))).rowIs w2.heap.size 3 l.length (fun j => .int .i64 ((ds ++ [m + 1]).getD j 0 : Nat))) := (hM.row.set k _).congr (fun q hq => by
            rw [getD_snoc, HDL.out]
            by_cases hqk : q = k
            · rw [if_pos hqk, if_neg (by omega), if_pos hqk]; rfl
            · rw [if_neg hqk, if_neg hqk]
              by_cases hq2 : q < k
              · rw [if_pos hq2]
              · rw [if_neg hq2, if_neg hqk]
                have : ds.getD q 0 = 0 := by rw [List.getD_eq_getElem?_getD, List.getElem?_eq_none (by rw [HDL.out]; omega)]; rfl
                rw [this])
          have hBl := hM.below
          clear hM
          go_wp2_with fail
          refine ⟨⟨k + 1, by omega, by go_num, ?_, ?_, hBl.setCell (Nat.le_refl _) _⟩, by simp [RowKit.intOf]; omega⟩
          · rw [HDD.out]; exact HEND.out
          · show Small (dpR [] (l.take (k + 1)))
            rw [HDD.out]; exact hsm.out.snoc (by rw [HDL.out]; omega)
    · have hke : k = l.length := by omega
      subst hke
      rw [List.take_length] at hrow
      have e0 : wo.cell? ⟨w2.heap.size, l.length - 1, none⟩ = some (.int .i64 (Z : Nat)) := by have := hrow.cell (i := l.length - 1) (by omega); rw [HZ.out] at this; exact this
      clear hrow
      go_wp2_with fail
      go_ret2
      exact ⟨rfl, HB2.out.trans (hB.mono hz2)⟩

set_option maxHeartbeats 1000000 in
theorem depth_none (vs : Value) (l : List Nd) (w : World) (B : Nat) (hBw : B ≤ w.heap.size) (hT : SpanCells w) (hN : Nodes w B vs l) (h : begL l = none) :
    Calls Tryd.prog 16 #[vs] w fun e w' => e = .returned (.tuple #[.int .i64 0, .int .i64 1]) ∧ Below w.heap.size w w' := by
  have HS : Hid (begL l = none) := h
  clear h
  go_enter Tryd.func16, Tryd.ntmps16
  go_wp2_with (go_at_call 8; refine (check_none _ l _ B hBw hT hN HS.out).mono ?_; rintro e w2 ⟨rfl, hb2⟩)
  go_ret2
  exact ⟨rfl, hb2⟩

end Go.Proofs.YtpacjofepiojdaaDoor

set_option linter.unusedSimpArgs false
set_option linter.unusedVariables false
namespace Go.Proofs.YtpacjofepiojdaaDoor
open Go.Lib

/-! ### the variables -/
/-! ### the depth -/
theorem snd_chk {l : List Nd} {fr : List Nat} (hb : begL l = some fr) : ∀ s ∈ vsL l, (chk s).2 = 0 ∧ s.size ≤ 64 := by
  obtain ⟨h0, _, hr, _⟩ := begL_some hb
  have hok := begOk_of hr
  intro s hs
  obtain ⟨x, hx, rfl⟩ := List.mem_map.1 hs
  rw [List.mem_filter] at hx
  obtain ⟨j, hj, e⟩ := List.mem_iff_getElem.1 hx.1
  have hf := (hok.at_ j hj).1
  have ej : l.getD j nd0 = x := by simp [hj, e]
  rw [ej] at hf
  exact form_name hf
end Go.Proofs.YtpacjofepiojdaaDoor

set_option linter.unusedSimpArgs false
set_option linter.unusedVariables false
namespace Go.Proofs.YtpacjofepiojdaaDoor
open Go.Lib

end Go.Proofs.YtpacjofepiojdaaDoor

namespace Go.Proofs.YtpacjofepiojdaaDoor
open Go.RowKit Go.Lib

/-- The document's names so far, and what lies ahead. -/
structure VdMid (w2 : World) (v : Value) (ys : List ByteArray) (wr : World) : Prop where
  row : wr.ownsRow w2.heap.size 9 1 v ys.length (ys.map Value.string)
  below : Below w2.heap.size w2 wr
theorem VdMid.next {w2 wr wq : World} {v : Value} {ys : List ByteArray} (h : VdMid w2 v ys wr) (hb : Below wr.heap.size wr wq) : VdMid w2 v ys wq := ⟨ownsRow_below h.row hb, h.below.trans (hb.mono h.below.size)⟩
theorem VdMid.cell {w2 wr : World} {v : Value} {ys : List ByteArray} (h : VdMid w2 v ys wr) {j : Nat} (hj : j < ys.length) : ∃ g cap, v = .slice (some ⟨g, 0, none⟩) ys.length cap ∧ w2.heap.size ≤ g ∧ g < wr.heap.size ∧ ys.length ≤ cap ∧ cap ≤ maxLen ∧ wr.cell? ⟨g, j, none⟩ = some (.string (ys.getD j ⟨#[]⟩)) := by
  obtain ⟨g, cap, h1, h2, h3, h4, h5⟩ := row_cell h.row hj (d := .string ⟨#[]⟩)
  refine ⟨g, cap, h1, ?_, h2, h3, h4, ?_⟩
  · exact (own_block' h.row g (by rw [h1]; rfl)).1
  · rw [h5]; simp [hj]

set_option maxRecDepth 20000 in
set_option maxHeartbeats 1000000 in
theorem sameTexts_any (w : World) (ao bo : Option Addr) (ac bc : Nat) (xs : List ByteArray) (hx : Strs w ao ac xs) (hy : Strs w bo bc xs) :
    Calls Tryd.prog 20 #[.slice ao xs.length ac, .slice bo xs.length bc] w fun e w' => e = .returned (.bool true) ∧ Below w.heap.size w w' := by
  have HX : Sld (Strs w ao ac xs) := ⟨hx⟩
  have HY : Sld (Strs w bo bc xs) := ⟨hy⟩
  obtain ⟨h1, h2, _⟩ := hx
  obtain ⟨h3, h4, _⟩ := hy
  unfold maxLen at h2 h4
  go_enter Tryd.func20, Tryd.ntmps20
  go_wp2_with fail
  go_loopw [5] (fun i wr => ∃ k : Nat, k ≤ xs.length ∧ i = .int .i64 k ∧ Below w.heap.size w wr) (fun i _ => xs.length - (RowKit.intOf i).toNat)
  case atStart => exact ⟨0, by omega, rfl, Below.refl _ _⟩
  case round =>
    obtain ⟨k, hk, rfl, hB⟩ := hrel
    have HB : Sld (Below w.heap.size w wr) := ⟨hB⟩
    clear hB
    by_cases hlt : k < xs.length
    · obtain ⟨a1, o1, rfl, hl1, c1⟩ := (HX.out.below HB.out).cell hlt
      obtain ⟨a2, o2, rfl, hl2, c2⟩ := (HY.out.below HB.out).cell hlt
      generalize xs.getD k ⟨#[]⟩ = s at *
      go_wp2_with fail
      go_region
      go_wp2_with fail
      exact ⟨⟨k + 1, by omega, by go_num, HB.out.drew⟩, by simp [RowKit.intOf]; omega⟩
    · have hke : k = xs.length := by omega
      subst hke
      go_wp2_with fail
      go_ret
      exact ⟨rfl, HB.out⟩

end Go.Proofs.YtpacjofepiojdaaDoor

set_option linter.unusedSimpArgs false
set_option linter.unusedVariables false
namespace Go.Proofs.YtpacjofepiojdaaDoor
open Go.RowKit Go.Lib

def VrE (l : List Nd) (xs : List ByteArray) (er : Int) : Prop := (begL l = none ∧ xs = [] ∧ er = 1) ∨ (begL l ≠ none ∧ VrOf (vsL l) xs ∧ er = 0)
theorem VrE.eq {l : List Nd} {xs ys : List ByteArray} {e f : Int} (h : VrE l xs e) (h' : VrE l ys f) : ys = xs ∧ f = e := by
  rcases h with ⟨h1, h2, h3⟩ | ⟨h1, h2, h3⟩ <;> rcases h' with ⟨h4, h5, h6⟩ | ⟨h4, h5, h6⟩
  · exact ⟨by rw [h2, h5], by rw [h3, h6]⟩
  · exact absurd h1 h4
  · exact absurd h4 h1
  · exact ⟨h5.eq h2 fun _ => Iff.rfl, by rw [h3, h6]⟩
end Go.Proofs.YtpacjofepiojdaaDoor

namespace Go.Proofs.YtpacjofepiojdaaDoor
open Go Go.Sort Go.RowKit

section
variable {P : Program} {ops : Array Oper} {md : Region.Mode} {C : World → Prop}

/-- f operations of the first n are still to come, each quiet in the class; behind them L. -/
def QHead (P : Program) (md : Region.Mode) (ops : Array Oper) (C : World → Prop) (n : Nat) (L : Array Bool → Act → Prop) : Nat → Array Bool → Act → Prop
  | 0, ls, a => L ls a
  | f + 1, ls, a => Region.ready md ops ls ≠ [] ∧ ∀ i ∈ Region.ready md ops ls, i < n ∧ qOp P ops C i (QHead P md ops C n L f (ls.setIfInBounds i true)) a

theorem QHead.any {n g : Nat} {L : Array Bool → Act → Prop} {Q : Exit → Act → World → Prop} (hL : ∀ ls a w, C w → L ls a → wpAny P md ops Q g ls a w) : ∀ (f : Nat) (ls : Array Bool) (a : Act) (w : World), C w → QHead P md ops C n L f ls a → wpAny P md ops Q (f + g) ls a w := by
  intro f
  induction f with
  | zero => intro ls a w hw h; rw [Nat.zero_add]; exact hL _ _ _ hw h
  | succ f ih =>
    intro ls a w hw h
    have e : f + 1 + g = (f + g) + 1 := by omega
    rw [e]
    exact ⟨fun h0 => absurd h0 h.1, fun i hi => wpOp_of_qOp hw (fun a' w' hw' h' => ih _ a' w' hw' h') (h.2 i hi).2⟩

/-- One that is ready, and apart from all that don't wait for it, may come first. -/
theorem QHead.first {n i : Nat} {oi : Oper} {v : Value} {L : Array Bool → Act → Prop} (hi : ops[i]? = some oi) (hsel : ∀ (j : Nat) (o : Oper) cs b, ops[j]? = some o → o.op ≠ .select cs b)
    (hs : Region.sinkB md ops n = true) (hc : Region.chainB md ops n = true) (hn : n < ops.size) (hin : i < n) (hdone : ∀ ls a, L ls a → ∀ j ∈ Region.ready md ops ls, n ≤ j) :
    ∀ (f : Nat) (ls : Array Bool) (a : Act), HeadInv md ops n ls →
      (∀ j oj, ops[j]? = some oj → j ≠ i → ls.getD j true = false → (∀ e ∈ oj.after, Region.binds md e = true → e.on ≠ i) → oi.apart ops oj = true) →
      i ∈ Region.ready md ops ls → YieldsIn P ops C oi v a → QHead P md ops C n L f (ls.setIfInBounds i true) (a.put oi.dst v) → QHead P md ops C n L (f + 1) ls a := by
  intro f
  induction f with
  | zero =>
    intro ls a inv _ hr hy H
    have hun := (mem_ready.1 hr).1
    constructor
    · intro h; rw [h] at hr; cases hr
    · intro j hj
      have hjn : j < n := Nat.lt_of_not_le fun h => tail_waits hs hc hn inv _ i rfl hin hun j h hj
      refine ⟨hjn, ?_⟩
      by_cases hji : j = i
      · subst hji; exact hy.qOp hi H
      · have := hdone _ _ H j (ready_mono hj hji); omega
  | succ f ih =>
    intro ls a inv hfree hr hy H
    have hun := (mem_ready.1 hr).1
    constructor
    · intro h; rw [h] at hr; cases hr
    · intro j hj
      have hjn : j < n := Nat.lt_of_not_le fun h => tail_waits hs hc hn inv _ i rfl hin hun j h hj
      refine ⟨hjn, ?_⟩
      by_cases hji : j = i
      · subst hji; exact hy.qOp hi H
      · obtain ⟨hjun, oj, hoj, hall⟩ := mem_ready.1 hj
        have hnot : ∀ e ∈ oj.after, Region.binds md e = true → e.on ≠ i := fun e he hb heq => by
          have h1 := hall e he hb
          rw [heq, getD_both hun] at h1
          cases h1
        have h2 := qOp_put hoj (hfree j oj hoj hji hjun hnot) (fun cs b => hsel i oi cs b hi) (fun cs b => hsel j oj cs b hoj) hy (H.2 j (ready_mono hj hji)).2
        have hfree' : ∀ k ok, ops[k]? = some ok → k ≠ i → (ls.setIfInBounds j true).getD k true = false → (∀ e ∈ ok.after, Region.binds md e = true → e.on ≠ i) → oi.apart ops ok = true := fun k ok hk hki hu hno => by
          refine hfree k ok hk hki ?_ hno
          by_cases hjk : j = k
          · subst hjk; exact hjun
          · rw [getD_set_ne true hjk] at hu; exact hu
        refine qOp_mono (fun a' h3 => ih (ls.setIfInBounds j true) a' (inv.set hj hjn) hfree' (ready_mono hr (Ne.symm hji)) h3.1 ?_) h2
        rw [Array.setIfInBounds_comm _ _ hji]
        exact h3.2

theorem QHead.lex {n g : Nat} {K : Act → Prop} (hsel : Region.noSelect ops = true) (hs : Region.sinkB md ops n = true) (hc : Region.chainB md ops n = true) (hn : n < ops.size) :
    ∀ (l : List Oper) (k : Nat) (ls : Array Bool) (a : Act), (∀ j, j < l.length → l[j]? = ops[k + j]?) → k + l.length = n → HeadInv md ops n ls → Region.lexHead md ops g l.length k ls = true → wpQuiet P ops C K l a →
      QHead P md ops C n (fun ls' a' => Region.seqB md ops g n ls' = true ∧ K a') l.length ls a := by
  intro l
  induction l with
  | nil =>
    intro k ls a _ hk _ hB h
    have : k = n := by simpa using hk
    subst this
    exact ⟨by simpa [Region.lexHead] using hB, h⟩
  | cons o l ih =>
    intro k ls a hl hk inv hB h
    have h0 : ops[k]? = some o := by simpa using (hl 0 (by simp)).symm
    simp only [List.length_cons, Region.lexHead, Bool.and_eq_true] at hB
    have hkn : k < n := by simp only [List.length_cons] at hk; omega
    have hr : k ∈ Region.ready md ops ls := by simpa using hB.1.1
    have hq : qOp P ops C k (wpQuiet P ops C K l) a := by unfold qOp; simp only [h0]; exact h
    obtain ⟨v, hy, hK⟩ := yieldsIn_of_qOp h0 hq
    refine QHead.first h0 (Region.noSelect_spec hsel) hs hc hn hkn (fun ls' a' hL => seqB_ready hL.1) l.length ls a inv (Region.free_spec h0 hB.1.2) hr hy ?_
    refine ih (k + 1) _ _ (fun j hj => ?_) (by simp only [List.length_cons] at hk; omega) (inv.set hr hkn) hB.2 hK
    have := hl (j + 1) (by simp; omega)
    simpa [Nat.add_assoc, Nat.add_comm 1 j] using this
end

/-- THE LAW, at the class 'w with new memory laid behind it'. -/
theorem wp_region_quiet_then {P : Program} {id : Nat} {Q : Exit → Act → World → Prop} {a : Act} {w : World} {l : List Oper} (n : Nat) (hm : P.follows .mixedOrders = true) (hB : Region.lexTailB .any l.toArray n = true)
    (h : wpQuiet P l.toArray (fun w' => ∃ p : Regrown, w' = grow (redrawn w p.d) p.os) (fun a' => ∀ w', (∃ p : Regrown, w' = grow (redrawn w p.d) p.os) → wpList P l.toArray Q (l.drop n) a' w') (l.take n) a) : (Code.region id l.toArray true).wp P Q a w := by
  simp only [Region.lexTailB, Bool.and_eq_true, decide_eq_true_eq] at hB
  obtain ⟨⟨⟨⟨hsel, hn⟩, hs⟩, hc⟩, hlex⟩ := hB
  have hn' : n < l.length := by simpa using hn
  have htl : (l.take n).length = n := by simp; omega
  have hdl : (l.drop n).length = l.toArray.size - n := by simp
  have inv0 : HeadInv .any l.toArray n (Array.replicate l.toArray.size false) :=
    ⟨by simp, fun j oj _ hl => (by rw [getD_replicate_false] at hl; cases hl), fun t _ ht => getD_in (by simpa using ht) (getD_replicate_false _ _)⟩
  have H := QHead.lex (P := P) (md := .any) (g := l.toArray.size - n) hsel hs hc hn (l.take n) 0 _ a (fun j hj => by
    have hj' : j < n := by rw [htl] at hj; exact hj
    simp [hj']) (by simpa using htl) inv0 (by rw [htl]; exact hlex) h
  refine wp_region_any hm ?_
  have := QHead.any (Q := Q) (g := l.toArray.size - n) (fun ls a' w' hw' hL => by
    have := wpAny_of_seq (md := .any) (Q' := Q) (l.drop n) n ls a' w' (fun j => by simp [List.getElem?_drop]) (by rw [hdl]; exact hL.1) (hL.2 w' hw')
    rwa [hdl] at this) _ _ _ { w with drawn := w.drawn + 1 } ⟨⟨w.drawn + 1, #[]⟩, by rw [grow_empty]; rfl⟩ H
  rw [htl, show n + (l.toArray.size - n) = l.toArray.size by omega] at this
  exact this
end Go.Proofs.YtpacjofepiojdaaDoor
