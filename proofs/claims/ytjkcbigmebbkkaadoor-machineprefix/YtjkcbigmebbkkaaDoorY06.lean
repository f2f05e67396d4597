/-
  MaU.
-/
import Derived.Shelf.Unicode.DecodeSlow
import Derived.Laws.RangeAny
import Derived.Shelf.Strconv.Itoa0
import Derived.Shelf.Unicode.DecodeAny
import Derived.Test.YtjkcbigmebbkkaaDoorProg
import Derived.WalkKit
import Derived.Deep.DeepFit
import Derived.Lib.OthersKept
import Derived.Lib.RuneCountTail
import Derived.Deep.AppendLies
import Derived.Deep.OwnRows
import Derived.Laws.AppendOwnNone
import Derived.Deep.QuietTactic
import Derived.BigQuiet
import Derived.Deep.RegionWith
import Derived.Laws.DeepStrings4
import Derived.Laws.CopyOwn
import Derived.Laws.MakeOwn
import Derived.Deep.RegionLaw
import Derived.Test.YtjkcbigmebbkkaaDoorY01
import Derived.Test.YtjkcbigmebbkkaaDoorY02
import Derived.Test.YtjkcbigmebbkkaaDoorY03
import Derived.Test.YtjkcbigmebbkkaaDoorY04
import Derived.Test.YtjkcbigmebbkkaaDoorY05
set_option linter.unusedSimpArgs false
set_option linter.unusedVariables false
namespace Go.Proofs.YtjkcbigmebbkkaaDoor
open Go.RowKit Go.Lib

set_option maxRecDepth 20000 in
set_option maxHeartbeats 1000000 in
theorem mul64_small (y : Nat) (hy : y ≤ 6) (w : World) : Calls Tryd.prog 126 #[.int .u64 1, .int .u64 (y : Int)] w fun e w' => e = .returned (.tuple #[.int .u64 0, .int .u64 (y : Int)]) ∧ w' = w := by
  have h7 : y = 0 ∨ y = 1 ∨ y = 2 ∨ y = 3 ∨ y = 4 ∨ y = 5 ∨ y = 6 := by omega
  rcases h7 with rfl | rfl | rfl | rfl | rfl | rfl | rfl
  all_goals
    go_enter Tryd.func126, Tryd.ntmps126
    go_wp2
    go_ret2
    exact ⟨rfl, rfl⟩
set_option maxHeartbeats 400000 in
theorem mul_small (y : Nat) (hy : y ≤ 6) (w : World) : Calls Tryd.prog 109 #[.int .u64 1, .int .u64 (y : Int)] w fun e w' => e = .returned (.tuple #[.int .u64 0, .int .u64 (y : Int)]) ∧ w' = w := by
  have c := mul64_small y hy w
  go_enter Tryd.func109, Tryd.ntmps109
  go_wp2_with fail
  refine c.mono ?_
  rintro e w1 ⟨rfl, rfl⟩
  go_wp2_with fail
  go_ret2
  exact ⟨rfl, rfl⟩
theorem made_one (z : Value) (n : Nat) : madeCells #[z] n = (List.replicate n z).toArray := by
  apply Array.ext
  · simp [madeCells]
  · intro i h1 h2
    simp [madeCells]
    have h : i % 1 = 0 := by omega
    simp [Nat.mod_one]
theorem size_info {P : Program} {t : TypeId} {z : Option Value} {s b : Nat} (h : (P.info? t).map (fun i => (i.zero, i.size, i.bytes)) = some (z, s, b)) : (P.info? t).map (·.size) = some s := by
  cases hh : P.info? t with
  | none => rw [hh] at h; cases h
  | some i => rw [hh] at h; simp at h; simp [h.2.1]
/-- How much is written. -/
structure RepI (w : World) (g n k : Nat) (z z0 : Value) (T : TypeId) (wr : World) : Prop where
  blk : wr.heap[g]? = some (.cells (List.replicate k z ++ List.replicate (n - k) z0).toArray T (0, 0))
  below : Below w.heap.size w wr
  le : k ≤ n
theorem rep_splice (z z0 : Value) (n k c : Nat) (hc : c ≤ n - k) (hk : k ≤ n) : splice (List.replicate k z ++ List.replicate (n - k) z0) k (List.replicate c z) = List.replicate (k + c) z ++ List.replicate (n - (k + c)) z0 := by
  unfold splice
  rw [List.take_append_of_le_length (by simp), List.take_of_length_le (by simp), List.length_replicate, List.drop_append, List.drop_of_length_le (by simp), List.nil_append, List.drop_replicate, List.length_replicate, ← List.append_assoc, List.replicate_append_replicate]
  congr 2
  omega
theorem rep_cell {w wr : World} {g n k : Nat} {z z0 : Value} {T : TypeId} (h : RepI w g n k z z0 T wr) {j : Nat} (hj : j < k) : wr.cell? ⟨g, j, none⟩ = some z := by
  rw [cell_of_heap h.blk]
  simp [List.getElem?_append_left, hj]


set_option maxRecDepth 20000 in
set_option maxHeartbeats 4000000 in
theorem repeat_int {w : World} {b o : Nat} {z : Value} (hz : w.cell? ⟨b, o, none⟩ = some z) (hz1 : z.oneCell' = true) (n : Nat) (hn : n ≤ 6) :
    Calls Tryd.prog 84 #[.slice (some ⟨b, o, none⟩) 1 1, .int .i64 (n : Int)] w fun e w' => ∃ g, e = .returned (.slice (some ⟨g, 0, none⟩) n n) ∧ w.heap.size ≤ g ∧ w'.heap[g]? = some (.cells (List.replicate n z).toArray 3 (0, 0)) ∧ Below w.heap.size w w' := by
  have hmk := run_make_row' (P := Tryd.prog) 61 3 (Value.int .i64 0) 8 Tryd.underlying61 Tryd.info3 rfl .i64 .i64 n (by omega) (by omega)
  rw [made_one] at hmk
  have c := mul_small n hn
  have hsz := size_info Tryd.info3
  have ha : b < w.heap.size := World.block_lt_of_cell? w _ hz
  have hb0 : Below w.heap.size w (w.alloc (.cells (List.replicate n (Value.int .i64 0)).toArray 3)) := (Below.refl _ _).alloc (Nat.le_refl _) _
  have HSRC : Hid (∀ j v, (List.replicate (min 1 n) z)[j]? = some v → (w.alloc (.cells (List.replicate n (Value.int .i64 0)).toArray 3)).cell? (Addr.add ⟨b, o, none⟩ j) = some v) := by
    intro j v h
    have h1 := List.getElem?_eq_some_iff.1 h
    obtain ⟨hj, hv⟩ := h1
    simp at hj hv
    subst hv
    have : j = 0 := by omega
    subst this
    exact (hb0.cell (p := ⟨b, o, none⟩) ha).trans hz
  have HBLK : Hid ((w.alloc (.cells (List.replicate n (Value.int .i64 0)).toArray 3)).heap[w.heap.size]? = some (.cells (List.replicate n (Value.int .i64 0)).toArray 3 (0, 0))) := by
    show _ = _
    simpa using (MapKept.heap_alloc w (.cells (List.replicate n (Value.int .i64 0)).toArray 3)).1
  have hcp := run_copy_row (P := Tryd.prog) (w.alloc (.cells (List.replicate n (Value.int .i64 0)).toArray 3)) 61 61 3 3 w.heap.size 0 n n ⟨b, o, none⟩ 1 1 _ _ (List.replicate (min 1 n) z) Tryd.underlying61 hsz HBLK.out List.length_replicate HSRC.out (by simp; omega) (fun v hv => by rw [List.eq_of_mem_replicate hv]; exact hz1)
  have hI : RepI w w.heap.size n (min 1 n) z (Value.int .i64 0) 3 ((w.alloc (.cells (List.replicate n (Value.int .i64 0)).toArray 3)).setRow w.heap.size (((List.replicate n (Value.int .i64 0)).toArray.toList.take 0 ++ List.replicate (min 1 n) z ++ (List.replicate n (Value.int .i64 0)).toArray.toList.drop (0 + (List.replicate (min 1 n) z).length)).toArray)) := by
    refine ⟨?_, below_setRow hb0 (Nat.le_refl _) _, by omega⟩
    rw [setRow_heap _ _ _ _ _ _ HBLK.out]
    have := rep_splice z (Value.int .i64 0) n 0 (min 1 n) (by omega) (by omega)
    unfold splice at this
    simp at this ⊢
  rw [List.length_replicate] at hcp
  obtain ⟨w2, hw2⟩ : ∃ w2, (w.alloc (.cells (List.replicate n (Value.int .i64 0)).toArray 3)).setRow w.heap.size (((List.replicate n (Value.int .i64 0)).toArray.toList.take 0 ++ List.replicate (min 1 n) z ++ (List.replicate n (Value.int .i64 0)).toArray.toList.drop (0 + (List.replicate (min 1 n) z).length)).toArray) = w2 := ⟨_, rfl⟩
  rw [hw2] at hI
  rw [List.length_replicate] at hw2
  rw [hw2] at hcp
  have HI : Hid (RepI w w.heap.size n (min 1 n) z (Value.int .i64 0) 3 w2) := hI
  clear hw2 hI HBLK HSRC
  replace hmk := hmk w
  obtain ⟨wm, hwm⟩ : ∃ wm, w.alloc (.cells (List.replicate n (Value.int .i64 0)).toArray 3) = wm := ⟨_, rfl⟩
  rw [hwm] at hmk hcp hb0
  clear hwm
  have HCR : Hid (∀ (k : Nat) (wr : World), RepI w w.heap.size n k z (Value.int .i64 0) 3 wr → 1 ≤ k → ∃ wn, (Builtin.copy_ #[61, 61 ] 3 #[.slice (some ⟨w.heap.size, k, none⟩) (n - k) (n - k), .slice (some ⟨w.heap.size, 0, none⟩) k n]).run Tryd.prog wr = .ok (.int .i64 ((min k (n - k) : Nat) : Int)) wn ∧ RepI w w.heap.size n (k + min k (n - k)) z (Value.int .i64 0) 3 wn) := by
    intro k wr hR hk
    have hle := hR.le
    have h := run_copy_row (P := Tryd.prog) wr 61 61 3 3 w.heap.size k (n - k) (n - k) ⟨w.heap.size, 0, none⟩ k n _ _ (List.replicate (min k (n - k)) z) Tryd.underlying61 hsz hR.blk List.length_replicate (fun j v h => by
      obtain ⟨hj, hv⟩ := List.getElem?_eq_some_iff.1 h
      simp at hj hv
      subst hv
      have := rep_cell hR (j := j) (by omega)
      by_cases hj0 : j = 0
      · subst hj0; simpa [Addr.add] using this
      · simpa [Addr.add, hj0] using this) (by simp; omega) (fun v hv => by rw [List.eq_of_mem_replicate hv]; exact hz1)
    rw [List.length_replicate] at h
    refine ⟨_, h, ?_, below_setRow hR.below (Nat.le_refl _) _, by omega⟩
    rw [setRow_heap _ _ _ _ _ _ hR.blk]
    have := rep_splice z (Value.int .i64 0) n k (min k (n - k)) (by omega) hle
    unfold splice at this
    rw [List.length_replicate] at this
    rw [List.append_assoc]
    rw [List.toList_toArray, this]
  have n0 : ¬ ((n : Int) < 0) := by omega
  have ncu : IntKind.u64.wrap (n : Int) = n := by rw [IntKind.wrap_u64]; omega
  have nci : IntKind.i64.wrap (n : Int) = n := by rw [IntKind.wrap_i64]; omega
  have nbig : ¬ (9223372036854775807 < (n : Int)) := by omega
  obtain ⟨m1, hm1⟩ : ∃ m1, min 1 n = m1 := ⟨_, rfl⟩
  have hmm : m1 ≤ n ∧ (1 ≤ n → 1 ≤ m1) := by omega
  rw [hm1] at hcp HI
  clear hz hz1 hb0 hm1
  go_enter Tryd.func84, Tryd.ntmps84
  go_wp2_with fail
  refine (c _).mono ?_
  rintro e w1 ⟨rfl, rfl⟩
  go_wp2_with fail
  go_loopw [8] (fun q wr => ∃ k : Nat, q = .int .i64 k ∧ (1 ≤ n → 1 ≤ k) ∧ RepI w1 w1.heap.size n k z (Value.int .i64 0) 3 wr) (fun q _ => n - (RowKit.intOf q).toNat)
  case atStart => exact ⟨m1, rfl, hmm.2, HI.out⟩
  case round =>
    obtain ⟨k, rfl, hk1, hR⟩ := hrel
    have hle := hR.le
    by_cases hlt : k < n
    · have hk := hk1 (by omega)
      obtain ⟨wn, hcn, hN⟩ := HCR.out k wr.drew ⟨hR.blk, hR.below.drew, hR.le⟩ hk
      have HN : Hid (_) := hN
      have hkk : (k : Int) < (n : Int) := by omega
      obtain ⟨d, hd⟩ : ∃ d, min k (n - k) = d := ⟨_, rfl⟩
      rw [hd] at hcn HN
      have hd1 : 1 ≤ d ∧ k + d ≤ n := by omega
      have hwr : IntKind.i64.wrap ((k : Int) + (d : Int)) = (k : Int) + d := by rw [IntKind.wrap_i64]; omega
      clear hR hN hcp hmk
      go_wp2_with fail
      go_region
      go_wp2_with fail
      exact ⟨⟨k + d, by go_num, fun _ => by omega, HN.out⟩, by simp [RowKit.intOf]; omega⟩
    · have hke : k = n := by omega
      subst hke
      have hblk := hR.blk
      rw [Nat.sub_self, List.replicate_zero, List.append_nil] at hblk
      have HBK : Hid (_) := hblk
      have HBB : Hid (_) := hR.below
      clear hR hblk hcp hmk
      go_wp2_with fail
      go_ret
      exact ⟨_, rfl, Nat.le_refl _, HBK.out, HBB.out⟩


set_option maxRecDepth 20000 in
set_option maxHeartbeats 4000000 in
theorem repeat_nodes {w : World} {b o : Nat} {z : Value} (hz : w.cell? ⟨b, o, none⟩ = some z) (hz1 : z.oneCell' = true) (n : Nat) (hn : n ≤ 6) :
    Calls Tryd.prog 127 #[.slice (some ⟨b, o, none⟩) 1 1, .int .i64 (n : Int)] w fun e w' => ∃ g, e = .returned (.slice (some ⟨g, 0, none⟩) n n) ∧ w.heap.size ≤ g ∧ w'.heap[g]? = some (.cells (List.replicate n z).toArray 22 (0, 0)) ∧ Below w.heap.size w w' := by
  have hmk := run_make_row' (P := Tryd.prog) 46 22 (Value.slice none 0 0) 24 Tryd.underlying46 Tryd.infoNodes rfl .i64 .i64 n (by omega) (by omega)
  rw [made_one] at hmk
  have c := mul_small n hn
  have hsz := size_info Tryd.infoNodes
  have ha : b < w.heap.size := World.block_lt_of_cell? w _ hz
  have hb0 : Below w.heap.size w (w.alloc (.cells (List.replicate n (Value.slice none 0 0)).toArray 22)) := (Below.refl _ _).alloc (Nat.le_refl _) _
  have HSRC : Hid (∀ j v, (List.replicate (min 1 n) z)[j]? = some v → (w.alloc (.cells (List.replicate n (Value.slice none 0 0)).toArray 22)).cell? (Addr.add ⟨b, o, none⟩ j) = some v) := by
    intro j v h
    have h1 := List.getElem?_eq_some_iff.1 h
    obtain ⟨hj, hv⟩ := h1
    simp at hj hv
    subst hv
    have : j = 0 := by omega
    subst this
    exact (hb0.cell (p := ⟨b, o, none⟩) ha).trans hz
  have HBLK : Hid ((w.alloc (.cells (List.replicate n (Value.slice none 0 0)).toArray 22)).heap[w.heap.size]? = some (.cells (List.replicate n (Value.slice none 0 0)).toArray 22 (0, 0))) := by
    show _ = _
    simpa using (MapKept.heap_alloc w (.cells (List.replicate n (Value.slice none 0 0)).toArray 22)).1
  have hcp := run_copy_row (P := Tryd.prog) (w.alloc (.cells (List.replicate n (Value.slice none 0 0)).toArray 22)) 46 46 3 22 w.heap.size 0 n n ⟨b, o, none⟩ 1 1 _ _ (List.replicate (min 1 n) z) Tryd.underlying46 hsz HBLK.out List.length_replicate HSRC.out (by simp; omega) (fun v hv => by rw [List.eq_of_mem_replicate hv]; exact hz1)
  have hI : RepI w w.heap.size n (min 1 n) z (Value.slice none 0 0) 22 ((w.alloc (.cells (List.replicate n (Value.slice none 0 0)).toArray 22)).setRow w.heap.size (((List.replicate n (Value.slice none 0 0)).toArray.toList.take 0 ++ List.replicate (min 1 n) z ++ (List.replicate n (Value.slice none 0 0)).toArray.toList.drop (0 + (List.replicate (min 1 n) z).length)).toArray)) := by
    refine ⟨?_, below_setRow hb0 (Nat.le_refl _) _, by omega⟩
    rw [setRow_heap _ _ _ _ _ _ HBLK.out]
    have := rep_splice z (Value.slice none 0 0) n 0 (min 1 n) (by omega) (by omega)
    unfold splice at this
    simp at this ⊢
  rw [List.length_replicate] at hcp
  obtain ⟨w2, hw2⟩ : ∃ w2, (w.alloc (.cells (List.replicate n (Value.slice none 0 0)).toArray 22)).setRow w.heap.size (((List.replicate n (Value.slice none 0 0)).toArray.toList.take 0 ++ List.replicate (min 1 n) z ++ (List.replicate n (Value.slice none 0 0)).toArray.toList.drop (0 + (List.replicate (min 1 n) z).length)).toArray) = w2 := ⟨_, rfl⟩
  rw [hw2] at hI
  rw [List.length_replicate] at hw2
  rw [hw2] at hcp
  have HI : Hid (RepI w w.heap.size n (min 1 n) z (Value.slice none 0 0) 22 w2) := hI
  clear hw2 hI HBLK HSRC
  replace hmk := hmk w
  obtain ⟨wm, hwm⟩ : ∃ wm, w.alloc (.cells (List.replicate n (Value.slice none 0 0)).toArray 22) = wm := ⟨_, rfl⟩
  rw [hwm] at hmk hcp hb0
  clear hwm
  have HCR : Hid (∀ (k : Nat) (wr : World), RepI w w.heap.size n k z (Value.slice none 0 0) 22 wr → 1 ≤ k → ∃ wn, (Builtin.copy_ #[46, 46 ] 3 #[.slice (some ⟨w.heap.size, k, none⟩) (n - k) (n - k), .slice (some ⟨w.heap.size, 0, none⟩) k n]).run Tryd.prog wr = .ok (.int .i64 ((min k (n - k) : Nat) : Int)) wn ∧ RepI w w.heap.size n (k + min k (n - k)) z (Value.slice none 0 0) 22 wn) := by
    intro k wr hR hk
    have hle := hR.le
    have h := run_copy_row (P := Tryd.prog) wr 46 46 3 22 w.heap.size k (n - k) (n - k) ⟨w.heap.size, 0, none⟩ k n _ _ (List.replicate (min k (n - k)) z) Tryd.underlying46 hsz hR.blk List.length_replicate (fun j v h => by
      obtain ⟨hj, hv⟩ := List.getElem?_eq_some_iff.1 h
      simp at hj hv
      subst hv
      have := rep_cell hR (j := j) (by omega)
      by_cases hj0 : j = 0
      · subst hj0; simpa [Addr.add] using this
      · simpa [Addr.add, hj0] using this) (by simp; omega) (fun v hv => by rw [List.eq_of_mem_replicate hv]; exact hz1)
    rw [List.length_replicate] at h
    refine ⟨_, h, ?_, below_setRow hR.below (Nat.le_refl _) _, by omega⟩
    rw [setRow_heap _ _ _ _ _ _ hR.blk]
    have := rep_splice z (Value.slice none 0 0) n k (min k (n - k)) (by omega) hle
    unfold splice at this
    rw [List.length_replicate] at this
    rw [List.append_assoc]
    rw [List.toList_toArray, this]
  have n0 : ¬ ((n : Int) < 0) := by omega
  have ncu : IntKind.u64.wrap (n : Int) = n := by rw [IntKind.wrap_u64]; omega
  have nci : IntKind.i64.wrap (n : Int) = n := by rw [IntKind.wrap_i64]; omega
  have nbig : ¬ (9223372036854775807 < (n : Int)) := by omega
  obtain ⟨m1, hm1⟩ : ∃ m1, min 1 n = m1 := ⟨_, rfl⟩
  have hmm : m1 ≤ n ∧ (1 ≤ n → 1 ≤ m1) := by omega
  rw [hm1] at hcp HI
  clear hz hz1 hb0 hm1
  go_enter Tryd.func127, Tryd.ntmps127
  go_wp2_with fail
  refine (c _).mono ?_
  rintro e w1 ⟨rfl, rfl⟩
  go_wp2_with fail
  go_loopw [8] (fun q wr => ∃ k : Nat, q = .int .i64 k ∧ (1 ≤ n → 1 ≤ k) ∧ RepI w1 w1.heap.size n k z (Value.slice none 0 0) 22 wr) (fun q _ => n - (RowKit.intOf q).toNat)
  case atStart => exact ⟨m1, rfl, hmm.2, HI.out⟩
  case round =>
    obtain ⟨k, rfl, hk1, hR⟩ := hrel
    have hle := hR.le
    by_cases hlt : k < n
    · have hk := hk1 (by omega)
      obtain ⟨wn, hcn, hN⟩ := HCR.out k wr.drew ⟨hR.blk, hR.below.drew, hR.le⟩ hk
      have HN : Hid (_) := hN
      have hkk : (k : Int) < (n : Int) := by omega
      obtain ⟨d, hd⟩ : ∃ d, min k (n - k) = d := ⟨_, rfl⟩
      rw [hd] at hcn HN
      have hd1 : 1 ≤ d ∧ k + d ≤ n := by omega
      have hwr : IntKind.i64.wrap ((k : Int) + (d : Int)) = (k : Int) + d := by rw [IntKind.wrap_i64]; omega
      clear hR hN hcp hmk
      go_wp2_with fail
      go_region
      go_wp2_with fail
      exact ⟨⟨k + d, by go_num, fun _ => by omega, HN.out⟩, by simp [RowKit.intOf]; omega⟩
    · have hke : k = n := by omega
      subst hke
      have hblk := hR.blk
      rw [Nat.sub_self, List.replicate_zero, List.append_nil] at hblk
      have HBK : Hid (_) := hblk
      have HBB : Hid (_) := hR.below
      clear hR hblk hcp hmk
      go_wp2_with fail
      go_ret
      exact ⟨_, rfl, Nat.le_refl _, HBK.out, HBB.out⟩

end Go.Proofs.YtjkcbigmebbkkaaDoor
