/-
  QTail, BxTrmW, BxBoxW.
-/
import Derived.Shelf.Unicode.DecodeSlow
import Derived.Laws.RangeAny
import Derived.Shelf.Small.Bits
import Derived.Shelf.Strconv.Itoa0
import Derived.Shelf.Unicode.Decode
import Derived.Shelf.Unicode.DecodeAny
import Derived.Shelf.Slices.CompactS
import Derived.Shelf.Slices.Cells
import Derived.Ground.SlsfProg
import Derived.Shelf.SlSortCmp.Insertion
import Derived.Shelf.SlSortCmp.SiftDown1
import Derived.Shelf.SlSortCmp.HeapSort1
import Derived.Shelf.SlSortCmp.Insertion1
import Derived.Shelf.SlSortCmp.Median1
import Derived.Shelf.SlSortCmp.Pivot1
import Derived.Shelf.SlSortCmp.ReverseRange1
import Derived.Shelf.SlSortCmp.PartialInsertion1
import Derived.Shelf.SlSortCmp.PartitionEqual1
import Derived.Shelf.SlSortCmp.Partition1
import Derived.Shelf.SlSortCmp.Pdq1
import Derived.Shelf.SlSortCmp.Whole1
import Derived.Test.YtokfkobhdjbciaaDoorProg
import Derived.WalkKit
import Derived.Deep.DeepFit
import Derived.Lib.OthersKept
import Derived.Lib.RuneCountTail
import Derived.Deep.AppendLies
import Derived.Deep.OwnRows
import Derived.Laws.AppendOwnNone
import Derived.Deep.QuietTactic
import Derived.BigQuiet
import Derived.Deep.RegionWith
import Derived.Laws.DeepStrings4
import Derived.Test.YtokfkobhdjbciaaDoorChecked
import Derived.Below
import Derived.Defers
import Derived.Lib.QuietBelow
import Derived.StillTail
import Derived.Test.YtokfkobhdjbciaaDoorQ01
import Derived.Test.YtokfkobhdjbciaaDoorQ02
import Derived.Test.YtokfkobhdjbciaaDoorQ03
import Derived.Test.YtokfkobhdjbciaaDoorQ04
import Derived.Test.YtokfkobhdjbciaaDoorQ05
import Derived.Test.YtokfkobhdjbciaaDoorQ06
import Derived.Test.YtokfkobhdjbciaaDoorQ07
import Derived.Test.YtokfkobhdjbciaaDoorQ09
import Derived.Test.YtokfkobhdjbciaaDoorQ10
import Derived.Test.YtokfkobhdjbciaaDoorQ11
namespace Go.Proofs.YtokfkobhdjbciaaDoor
open Go Go.Sort Go.RowKit

section
variable {P : Program} {ops : Array Oper} {md : Region.Mode} {C : World → Prop}

/-- f operations of the first n are still to come, each quiet in the class; behind them L. -/
def QHead (P : Program) (md : Region.Mode) (ops : Array Oper) (C : World → Prop) (n : Nat) (L : Array Bool → Act → Prop) : Nat → Array Bool → Act → Prop
  | 0, ls, a => L ls a
  | f + 1, ls, a => Region.ready md ops ls ≠ [] ∧ ∀ i ∈ Region.ready md ops ls, i < n ∧ qOp P ops C i (QHead P md ops C n L f (ls.setIfInBounds i true)) a

theorem QHead.any {n g : Nat} {L : Array Bool → Act → Prop} {Q : Exit → Act → World → Prop} (hL : ∀ ls a w, C w → L ls a → wpAny P md ops Q g ls a w) : ∀ (f : Nat) (ls : Array Bool) (a : Act) (w : World), C w → QHead P md ops C n L f ls a → wpAny P md ops Q (f + g) ls a w := by
  intro f
  induction f with
  | zero => intro ls a w hw h; rw [Nat.zero_add]; exact hL _ _ _ hw h
  | succ f ih =>
    intro ls a w hw h
    have e : f + 1 + g = (f + g) + 1 := by omega
    rw [e]
    exact ⟨fun h0 => absurd h0 h.1, fun i hi => wpOp_of_qOp hw (fun a' w' hw' h' => ih _ a' w' hw' h') (h.2 i hi).2⟩

/-- One that is ready, and apart from all that don't wait for it, may come first. -/
theorem QHead.first {n i : Nat} {oi : Oper} {v : Value} {L : Array Bool → Act → Prop} (hi : ops[i]? = some oi) (hsel : ∀ (j : Nat) (o : Oper) cs b, ops[j]? = some o → o.op ≠ .select cs b)
    (hs : Region.sinkB md ops n = true) (hc : Region.chainB md ops n = true) (hn : n < ops.size) (hin : i < n) (hdone : ∀ ls a, L ls a → ∀ j ∈ Region.ready md ops ls, n ≤ j) :
    ∀ (f : Nat) (ls : Array Bool) (a : Act), HeadInv md ops n ls →
      (∀ j oj, ops[j]? = some oj → j ≠ i → ls.getD j true = false → (∀ e ∈ oj.after, Region.binds md e = true → e.on ≠ i) → oi.apart ops oj = true) →
      i ∈ Region.ready md ops ls → YieldsIn P ops C oi v a → QHead P md ops C n L f (ls.setIfInBounds i true) (a.put oi.dst v) → QHead P md ops C n L (f + 1) ls a := by
  intro f
  induction f with
  | zero =>
    intro ls a inv _ hr hy H
    have hun := (mem_ready.1 hr).1
    constructor
    · intro h; rw [h] at hr; cases hr
    · intro j hj
      have hjn : j < n := Nat.lt_of_not_le fun h => tail_waits hs hc hn inv _ i rfl hin hun j h hj
      refine ⟨hjn, ?_⟩
      by_cases hji : j = i
      · subst hji; exact hy.qOp hi H
      · have := hdone _ _ H j (ready_mono hj hji); omega
  | succ f ih =>
    intro ls a inv hfree hr hy H
    have hun := (mem_ready.1 hr).1
    constructor
    · intro h; rw [h] at hr; cases hr
    · intro j hj
      have hjn : j < n := Nat.lt_of_not_le fun h => tail_waits hs hc hn inv _ i rfl hin hun j h hj
      refine ⟨hjn, ?_⟩
      by_cases hji : j = i
      · subst hji; exact hy.qOp hi H
      · obtain ⟨hjun, oj, hoj, hall⟩ := mem_ready.1 hj
        have hnot : ∀ e ∈ oj.after, Region.binds md e = true → e.on ≠ i := fun e he hb heq => by
          have h1 := hall e he hb
          rw [heq, getD_both hun] at h1
          cases h1
        have h2 := qOp_put hoj (hfree j oj hoj hji hjun hnot) (fun cs b => hsel i oi cs b hi) (fun cs b => hsel j oj cs b hoj) hy (H.2 j (ready_mono hj hji)).2
        have hfree' : ∀ k ok, ops[k]? = some ok → k ≠ i → (ls.setIfInBounds j true).getD k true = false → (∀ e ∈ ok.after, Region.binds md e = true → e.on ≠ i) → oi.apart ops ok = true := fun k ok hk hki hu hno => by
          refine hfree k ok hk hki ?_ hno
          by_cases hjk : j = k
          · subst hjk; exact hjun
          · rw [getD_set_ne true hjk] at hu; exact hu
        refine qOp_mono (fun a' h3 => ih (ls.setIfInBounds j true) a' (inv.set hj hjn) hfree' (ready_mono hr (Ne.symm hji)) h3.1 ?_) h2
        rw [Array.setIfInBounds_comm _ _ hji]
        exact h3.2

end

end Go.Proofs.YtokfkobhdjbciaaDoor

set_option linter.unusedSimpArgs false
set_option linter.unusedVariables false
namespace Go.Proofs.YtokfkobhdjbciaaDoor
open Go.RowKit Go.Lib Go.Sort

set_option maxRecDepth 20000 in
set_option maxHeartbeats 1000000 in
theorem termPart (G N L M kb ko kl kc q z : Nat) (v : Value) (w : World) (hN : N ≤ 64) (hkl : kl ≤ 3) (hL : w.cell? ⟨L, 0, none⟩ = some (.slice (some ⟨G, 0, none⟩) N N)) (hM : w.cell? ⟨M, 3, none⟩ = some (.slice (some ⟨kb, ko, none⟩) kl kc)) (hq : q < kl) (hk : w.cell? ⟨kb, ko + q, none⟩ = some (.int .i64 z)) (hz : z < N) (hv : w.cell? ⟨G, z, none⟩ = some v) :
    Calls Tryd.prog 72 #[.int .i64 q, .pointer (some ⟨L, 0, none⟩), .pointer (some ⟨M, 0, none⟩)] w fun e w' => e = .returned v ∧ Below w.heap.size w w' := by
  have h1 : (q : Int) < (kl : Int) := by omega
  have h2 : (z : Int) < (N : Int) := by omega
  go_enter Tryd.func72, Tryd.ntmps72
  go_wp2_with fail
  go_quiet (fail)
  go_wp2_with fail
  go_ret
  exact ⟨rfl, below_drewN (Below.refl _ _) _⟩

set_option maxRecDepth 20000 in
set_option maxHeartbeats 4000000 in
theorem term_any (l : List Nd) (fr : List Nat) (hs : begL l = some fr) (G i : Nat) (kv : Value) (hi : i < l.length) (w : World) (hI : Ints w w.heap.size kv (l.getD i nd0).kids) (hG : ∀ j, j < i → w.cell? ⟨G, j, none⟩ = some (tv (tmA l j))) (hGl : G < w.heap.size) :
    Calls Tryd.prog 51 #[.agg #[.int .i64 (l.getD i nd0).op, .int .i64 (l.getD i nd0).n, .string (l.getD i nd0).name, kv], .slice (some ⟨G, 0, none⟩) l.length l.length] w fun e w' => e = .returned (tv (tmA l i)) ∧ Below w.heap.size w w' := by
  have hmf : ∀ (fn : Fn) (first cap : Array Value) (w : World), (Instr.makeFunc fn first cap).run Tryd.prog w = .ok (.func fn first cap) w := fun _ _ _ _ => rfl
  have h64 := (begL_some hs).2.1
  have hok := begOk_of (begL_some hs).2.2.1
  have hcs := form_cases (hok.at_ i hi).1
  have hkk := snd_kk hs i hi
  have L1 := @tmA_lit l i hi
  have L2 := @tmA_var l i hi
  have L3 := @tmA_un l i hi
  have L4 := @tmA_bin l i hi
  have L5 := @tmA_ifs l i hi
  have HG : Hid (∀ j, j < i → w.cell? ⟨G, j, none⟩ = some (tv (tmA l j))) := hG
  clear hok hG
  generalize l.getD i nd0 = x at *
  obtain ⟨op, n, nm, kids⟩ := x
  simp only at hI hcs hkk L1 L2 L3 L4 L5 ⊢
  rcases hcs with ⟨h, rfl⟩ | ⟨h, rfl⟩ | ⟨h1, h2, a, rfl⟩ | ⟨h1, h2, a, bb, rfl⟩ | ⟨h, c, a, bb, rfl⟩
  · have hE := L1 h hkk
    subst h
    rw [hE]
    clear L1 L2 L3 L4 L5 hE
    unfold tv
    obtain ⟨ka, kc, rfl, _⟩ := hI
    go_enter Tryd.func51, Tryd.ntmps51
    go_wp2_with fail
    go_ret
    exact ⟨rfl, ((Below.refl _ _).alloc (Nat.le_refl _) _).alloc (by simp) _⟩
  · have hE := L2 h hkk
    subst h
    rw [hE]
    clear L1 L2 L3 L4 L5 hE
    unfold tv
    obtain ⟨ka, kc, rfl, _⟩ := hI
    go_enter Tryd.func51, Tryd.ntmps51
    go_wp2_with fail
    go_ret
    exact ⟨rfl, ((Below.refl _ _).alloc (Nat.le_refl _) _).alloc (by simp) _⟩
  · have hka := hkk a (by simp)
    obtain ⟨a, rfl⟩ : ∃ z : Nat, a = (z : Int) := ⟨a.toNat, by omega⟩
    have hE := L3 h1 h2 a rfl hkk
    have o1 : (op == 1) = false := by simpa using h1
    have o2 : (op == 2) = false := by simpa using h2
    rw [hE]
    clear L1 L2 L3 L4 L5 hE
    have sa := st_one (tv_one (tmA l a))
    have qa := tv_cells (tmA l a)
    unfold Value.cells at qa
    unfold tv
    obtain ⟨ka, kc, rfl, hk1, ⟨hk2, _⟩, hkc⟩ := hI
    unfold maxLen at hk2
    obtain ⟨kb, ko, rfl, hkb, hkc⟩ : ∃ b o, ka = some ⟨b, o, none⟩ ∧ b < w.heap.size ∧ ∀ j, j < 1 → w.cell? ⟨b, o + j, none⟩ = some (.int .i64 (([(a : Int)] : List Int).getD j 0)) := by
      rcases hkc with h | h
      · cases h
      · exact h
    simp only [List.length_cons, List.length_nil, Nat.zero_add]
    obtain ⟨W1, hW1⟩ : ∃ W1, (w.alloc (.cells #[.int .i64 op, .int .i64 n, .string nm, .slice (some ⟨kb, ko, none⟩) 1 kc] 67)).alloc (.cells #[.slice (some ⟨G, 0, none⟩) l.length l.length] 39) = W1 := ⟨_, rfl⟩
    have hb1 : Below w.heap.size w W1 := by rw [← hW1]; exact ((Below.refl _ _).alloc (Nat.le_refl _) _).alloc (by simp) _
    have HB1 : Hid (Below w.heap.size w W1) := hb1
    have x0 : W1.cell? ⟨w.heap.size, 0, none⟩ = some (.int .i64 op) := by rw [← hW1]; simp
    have x3 : W1.cell? ⟨w.heap.size, 3, none⟩ = some (.slice (some ⟨kb, ko, none⟩) 1 kc) := by rw [← hW1]; simp
    have x4 : W1.cell? ⟨w.heap.size + 1, 0, none⟩ = some (.slice (some ⟨G, 0, none⟩) l.length l.length) := by rw [← hW1]; simp
    have HX : Hid (∀ V, Below W1.heap.size W1 V → ∀ (q z : Nat), q < 1 → ([(a : Int)] : List Int).getD q 0 = (z : Int) → z < i → Calls Tryd.prog 72 #[.int .i64 q, .pointer (some ⟨w.heap.size + 1, 0, none⟩), .pointer (some ⟨w.heap.size, 0, none⟩)] V fun e w' => e = .returned (tv (tmA l z)) ∧ Below V.heap.size V w') := fun V hV q z hq hz hzi => by
      have up : ∀ {b o : Nat} {v : Value}, W1.cell? ⟨b, o, none⟩ = some v → V.cell? ⟨b, o, none⟩ = some v := fun {b o v} h => (hV.cell (p := ⟨b, o, none⟩) (World.block_lt_of_cell? _ _ h)).trans h
      have e1 : W1.cell? ⟨kb, ko + q, none⟩ = some (.int .i64 z) := (HB1.out.cell (p := ⟨kb, ko + q, none⟩) hkb).trans ((hkc q hq).trans (by rw [hz]))
      have e2 : W1.cell? ⟨G, z, none⟩ = some (tv (tmA l z)) := (HB1.out.cell (p := ⟨G, z, none⟩) hGl).trans (HG.out z hzi)
      exact termPart G l.length (w.heap.size + 1) w.heap.size kb ko 1 kc q z _ V h64 (by omega) (up x4) (up x3) hq (up e1) (by omega) (up e2)
    have HW1 : Hid ((w.alloc (.cells #[.int .i64 op, .int .i64 n, .string nm, .slice (some ⟨kb, ko, none⟩) 1 kc] 67)).alloc (.cells #[.slice (some ⟨G, 0, none⟩) l.length l.length] 39) = W1) := hW1
    have g0 := cell_regrown x0
    clear hW1 hb1 hkc HG x4
    have c0 : Hid (∀ d os, Calls Tryd.prog 72 #[.int .i64 0, .pointer (some ⟨w.heap.size + 1, 0, none⟩), .pointer (some ⟨w.heap.size, 0, none⟩)] (grow (redrawn W1 d) os) fun e w'' => e = .returned (tv (tmA l a)) ∧ ∃ p : Regrown, w'' = grow (redrawn W1 p.d) p.os) := fun d os => Calls.regrown_of (HX.out _ (below_regrown W1 d os) 0 a (by omega) rfl (by omega))
    go_enter Tryd.func51, Tryd.ntmps51
    go_wp2_with fail
    rw [HW1.out]
    refine wp_region_quiet_below (by kernel_rfl) (by kernel_rfl) ?_
    iterate 7 (go_big_quiet_step ((first | (go_at_call_of 72 (Value.int .i64 0); exact c0.out _ _))))
    refine wpQuiet_nil ?_
    intro _ hw'
    obtain ⟨⟨ds, oss⟩, hw''⟩ := hw'
    subst hw''
    go_wp2_with fail
    go_ret
    exact ⟨rfl, HB1.out.trans ((below_regrown W1 ds oss).mono HB1.out.size)⟩
  · have hka := hkk a (by simp)
    obtain ⟨a, rfl⟩ : ∃ z : Nat, a = (z : Int) := ⟨a.toNat, by omega⟩
    have hkbb := hkk bb (by simp)
    obtain ⟨bb, rfl⟩ : ∃ z : Nat, bb = (z : Int) := ⟨bb.toNat, by omega⟩
    have hE := L4 h1 h2 a bb rfl hkk
    have o1 : (op == 1) = false := by simpa using h1
    have o2 : (op == 2) = false := by simpa using h2
    rw [hE]
    clear L1 L2 L3 L4 L5 hE
    have sa := st_one (tv_one (tmA l a))
    have qa := tv_cells (tmA l a)
    unfold Value.cells at qa
    have sbb := st_one (tv_one (tmA l bb))
    have qbb := tv_cells (tmA l bb)
    unfold Value.cells at qbb
    unfold tv
    obtain ⟨ka, kc, rfl, hk1, ⟨hk2, _⟩, hkc⟩ := hI
    unfold maxLen at hk2
    obtain ⟨kb, ko, rfl, hkb, hkc⟩ : ∃ b o, ka = some ⟨b, o, none⟩ ∧ b < w.heap.size ∧ ∀ j, j < 2 → w.cell? ⟨b, o + j, none⟩ = some (.int .i64 (([(a : Int), (bb : Int)] : List Int).getD j 0)) := by
      rcases hkc with h | h
      · cases h
      · exact h
    simp only [List.length_cons, List.length_nil, Nat.zero_add]
    obtain ⟨W1, hW1⟩ : ∃ W1, (w.alloc (.cells #[.int .i64 op, .int .i64 n, .string nm, .slice (some ⟨kb, ko, none⟩) 2 kc] 67)).alloc (.cells #[.slice (some ⟨G, 0, none⟩) l.length l.length] 39) = W1 := ⟨_, rfl⟩
    have hb1 : Below w.heap.size w W1 := by rw [← hW1]; exact ((Below.refl _ _).alloc (Nat.le_refl _) _).alloc (by simp) _
    have HB1 : Hid (Below w.heap.size w W1) := hb1
    have x0 : W1.cell? ⟨w.heap.size, 0, none⟩ = some (.int .i64 op) := by rw [← hW1]; simp
    have x3 : W1.cell? ⟨w.heap.size, 3, none⟩ = some (.slice (some ⟨kb, ko, none⟩) 2 kc) := by rw [← hW1]; simp
    have x4 : W1.cell? ⟨w.heap.size + 1, 0, none⟩ = some (.slice (some ⟨G, 0, none⟩) l.length l.length) := by rw [← hW1]; simp
    have HX : Hid (∀ V, Below W1.heap.size W1 V → ∀ (q z : Nat), q < 2 → ([(a : Int), (bb : Int)] : List Int).getD q 0 = (z : Int) → z < i → Calls Tryd.prog 72 #[.int .i64 q, .pointer (some ⟨w.heap.size + 1, 0, none⟩), .pointer (some ⟨w.heap.size, 0, none⟩)] V fun e w' => e = .returned (tv (tmA l z)) ∧ Below V.heap.size V w') := fun V hV q z hq hz hzi => by
      have up : ∀ {b o : Nat} {v : Value}, W1.cell? ⟨b, o, none⟩ = some v → V.cell? ⟨b, o, none⟩ = some v := fun {b o v} h => (hV.cell (p := ⟨b, o, none⟩) (World.block_lt_of_cell? _ _ h)).trans h
      have e1 : W1.cell? ⟨kb, ko + q, none⟩ = some (.int .i64 z) := (HB1.out.cell (p := ⟨kb, ko + q, none⟩) hkb).trans ((hkc q hq).trans (by rw [hz]))
      have e2 : W1.cell? ⟨G, z, none⟩ = some (tv (tmA l z)) := (HB1.out.cell (p := ⟨G, z, none⟩) hGl).trans (HG.out z hzi)
      exact termPart G l.length (w.heap.size + 1) w.heap.size kb ko 2 kc q z _ V h64 (by omega) (up x4) (up x3) hq (up e1) (by omega) (up e2)
    have HW1 : Hid ((w.alloc (.cells #[.int .i64 op, .int .i64 n, .string nm, .slice (some ⟨kb, ko, none⟩) 2 kc] 67)).alloc (.cells #[.slice (some ⟨G, 0, none⟩) l.length l.length] 39) = W1) := hW1
    have g0 := cell_regrown x0
    clear hW1 hb1 hkc HG x4
    have c0 : Hid (∀ d os, Calls Tryd.prog 72 #[.int .i64 0, .pointer (some ⟨w.heap.size + 1, 0, none⟩), .pointer (some ⟨w.heap.size, 0, none⟩)] (grow (redrawn W1 d) os) fun e w'' => e = .returned (tv (tmA l a)) ∧ ∃ p : Regrown, w'' = grow (redrawn W1 p.d) p.os) := fun d os => Calls.regrown_of (HX.out _ (below_regrown W1 d os) 0 a (by omega) rfl (by omega))
    have c1 : Hid (∀ d os, Calls Tryd.prog 72 #[.int .i64 1, .pointer (some ⟨w.heap.size + 1, 0, none⟩), .pointer (some ⟨w.heap.size, 0, none⟩)] (grow (redrawn W1 d) os) fun e w'' => e = .returned (tv (tmA l bb)) ∧ ∃ p : Regrown, w'' = grow (redrawn W1 p.d) p.os) := fun d os => Calls.regrown_of (HX.out _ (below_regrown W1 d os) 1 bb (by omega) rfl (by omega))
    go_enter Tryd.func51, Tryd.ntmps51
    go_wp2_with fail
    rw [HW1.out]
    refine wp_region_quiet_below (by kernel_rfl) (by kernel_rfl) ?_
    iterate 9 (go_big_quiet_step ((first | (go_at_call_of 72 (Value.int .i64 0); exact c0.out _ _) | (go_at_call_of 72 (Value.int .i64 1); exact c1.out _ _))))
    refine wpQuiet_nil ?_
    intro _ hw'
    obtain ⟨⟨ds, oss⟩, hw''⟩ := hw'
    subst hw''
    go_wp2_with fail
    go_ret
    exact ⟨rfl, HB1.out.trans ((below_regrown W1 ds oss).mono HB1.out.size)⟩
  · have hkc := hkk c (by simp)
    obtain ⟨c, rfl⟩ : ∃ z : Nat, c = (z : Int) := ⟨c.toNat, by omega⟩
    have hka := hkk a (by simp)
    obtain ⟨a, rfl⟩ : ∃ z : Nat, a = (z : Int) := ⟨a.toNat, by omega⟩
    have hkbb := hkk bb (by simp)
    obtain ⟨bb, rfl⟩ : ∃ z : Nat, bb = (z : Int) := ⟨bb.toNat, by omega⟩
    have hE := L5 h c a bb rfl hkk
    subst h
    rw [hE]
    clear L1 L2 L3 L4 L5 hE
    have sc := st_one (tv_one (tmA l c))
    have qc := tv_cells (tmA l c)
    unfold Value.cells at qc
    have sa := st_one (tv_one (tmA l a))
    have qa := tv_cells (tmA l a)
    unfold Value.cells at qa
    have sbb := st_one (tv_one (tmA l bb))
    have qbb := tv_cells (tmA l bb)
    unfold Value.cells at qbb
    unfold tv
    obtain ⟨ka, kc, rfl, hk1, ⟨hk2, _⟩, hkc⟩ := hI
    unfold maxLen at hk2
    obtain ⟨kb, ko, rfl, hkb, hkc⟩ : ∃ b o, ka = some ⟨b, o, none⟩ ∧ b < w.heap.size ∧ ∀ j, j < 3 → w.cell? ⟨b, o + j, none⟩ = some (.int .i64 (([(c : Int), (a : Int), (bb : Int)] : List Int).getD j 0)) := by
      rcases hkc with h | h
      · cases h
      · exact h
    simp only [List.length_cons, List.length_nil, Nat.zero_add]
    obtain ⟨W1, hW1⟩ : ∃ W1, (w.alloc (.cells #[.int .i64 17, .int .i64 n, .string nm, .slice (some ⟨kb, ko, none⟩) 3 kc] 67)).alloc (.cells #[.slice (some ⟨G, 0, none⟩) l.length l.length] 39) = W1 := ⟨_, rfl⟩
    have hb1 : Below w.heap.size w W1 := by rw [← hW1]; exact ((Below.refl _ _).alloc (Nat.le_refl _) _).alloc (by simp) _
    have HB1 : Hid (Below w.heap.size w W1) := hb1
    have x0 : W1.cell? ⟨w.heap.size, 0, none⟩ = some (.int .i64 17) := by rw [← hW1]; simp
    have x3 : W1.cell? ⟨w.heap.size, 3, none⟩ = some (.slice (some ⟨kb, ko, none⟩) 3 kc) := by rw [← hW1]; simp
    have x4 : W1.cell? ⟨w.heap.size + 1, 0, none⟩ = some (.slice (some ⟨G, 0, none⟩) l.length l.length) := by rw [← hW1]; simp
    have HX : Hid (∀ V, Below W1.heap.size W1 V → ∀ (q z : Nat), q < 3 → ([(c : Int), (a : Int), (bb : Int)] : List Int).getD q 0 = (z : Int) → z < i → Calls Tryd.prog 72 #[.int .i64 q, .pointer (some ⟨w.heap.size + 1, 0, none⟩), .pointer (some ⟨w.heap.size, 0, none⟩)] V fun e w' => e = .returned (tv (tmA l z)) ∧ Below V.heap.size V w') := fun V hV q z hq hz hzi => by
      have up : ∀ {b o : Nat} {v : Value}, W1.cell? ⟨b, o, none⟩ = some v → V.cell? ⟨b, o, none⟩ = some v := fun {b o v} h => (hV.cell (p := ⟨b, o, none⟩) (World.block_lt_of_cell? _ _ h)).trans h
      have e1 : W1.cell? ⟨kb, ko + q, none⟩ = some (.int .i64 z) := (HB1.out.cell (p := ⟨kb, ko + q, none⟩) hkb).trans ((hkc q hq).trans (by rw [hz]))
      have e2 : W1.cell? ⟨G, z, none⟩ = some (tv (tmA l z)) := (HB1.out.cell (p := ⟨G, z, none⟩) hGl).trans (HG.out z hzi)
      exact termPart G l.length (w.heap.size + 1) w.heap.size kb ko 3 kc q z _ V h64 (by omega) (up x4) (up x3) hq (up e1) (by omega) (up e2)
    have HW1 : Hid ((w.alloc (.cells #[.int .i64 17, .int .i64 n, .string nm, .slice (some ⟨kb, ko, none⟩) 3 kc] 67)).alloc (.cells #[.slice (some ⟨G, 0, none⟩) l.length l.length] 39) = W1) := hW1
    clear hW1 hb1 hkc HG x4
    go_enter Tryd.func51, Tryd.ntmps51
    go_wp2_with fail
    rw [HW1.out]
    refine (HX.out _ (Below.refl _ _) 0 c (by omega) rfl (by omega)).mono ?_
    rintro e y0 ⟨rfl, hy0⟩
    have bw0 : Below W1.heap.size W1 y0 := hy0
    go_wp2_with fail
    refine (HX.out _ bw0 1 a (by omega) rfl (by omega)).mono ?_
    rintro e y1 ⟨rfl, hy1⟩
    have bw1 : Below W1.heap.size W1 y1 := bw0.trans (hy1.mono bw0.size)
    go_wp2_with fail
    refine (HX.out _ bw1 2 bb (by omega) rfl (by omega)).mono ?_
    rintro e y2 ⟨rfl, hy2⟩
    have bw2 : Below W1.heap.size W1 y2 := bw1.trans (hy2.mono bw1.size)
    go_wp2_with fail
    go_ret
    exact ⟨rfl, HB1.out.trans (bw2.mono HB1.out.size)⟩
end Go.Proofs.YtokfkobhdjbciaaDoor

set_option linter.unusedSimpArgs false
set_option linter.unusedVariables false
namespace Go.Proofs.YtokfkobhdjbciaaDoor
open Go.RowKit Go.Lib Go.Sort


theorem five_iface {t : Tm} (h : Five t) : ∃ u x, tv t = .iface u x := by
  cases t with
  | nil => exact h.elim
  | other u x => exact h.elim
  | _ => exact ⟨_, _, rfl⟩

set_option maxRecDepth 20000 in
set_option maxHeartbeats 1000000 in
theorem box_none {w : World} {ao : Option Addr} {cap : Nat} {l : List Nd} (T : SpanCells w) (hR : Rd w ao cap l) (h : begL l = none) :
    Calls Tryd.prog 25 #[.slice ao l.length cap] w fun e w' => e = .returned (.tuple #[.nilIface, .int .i64 1]) ∧ Below w.heap.size w w' := by
  have HS : Hid (begL l = none) := h
  clear h
  go_enter Tryd.func25, Tryd.ntmps25
  go_wp2_with fail
  refine (check_none _ l _ _ (Nat.le_refl _) T hR HS.out).mono ?_
  rintro e w2 ⟨rfl, hb2⟩
  go_wp2_with fail
  go_ret2
  exact ⟨rfl, hb2⟩

set_option maxRecDepth 20000 in
set_option maxHeartbeats 2000000 in
theorem box_some {w : World} {ao : Option Addr} {cap : Nat} {l : List Nd} {fr : List Nat} (T : SpanCells w) (hR : Rd w ao cap l) (h : begL l = some fr) :
    Calls Tryd.prog 25 #[.slice ao l.length cap] w fun e w' => e = .returned (.tuple #[tv (tmA l (l.length - 1)), .int .i64 0]) ∧ Below w.heap.size w w' := by
  have h64 := (begL_some h).2.1
  have hl0 := (begL_some h).1
  have HS : Hid (begL l = some fr) := h
  clear h
  have hmk := run_make_row' (P := Tryd.prog) 39 45 .nilIface 16 Tryd.underlying39 Tryd.infoTerm rfl .i64 .i64 l.length (by omega) (by omega)
  go_enter Tryd.func25, Tryd.ntmps25
  go_wp2_with fail
  refine (check_some _ l fr _ _ (Nat.le_refl _) T hR HS.out).mono ?_
  rintro e w2 ⟨rfl, hb2⟩
  have HB2 : Hid (Below w.heap.size w w2) := hb2
  have HR2 : Hid (Rd w2 ao cap l) := hR.below hb2 hb2.size
  clear hR T hb2
  go_wp2_with fail
  go_loopw [15] (fun i wr => ∃ k : Nat, k ≤ l.length ∧ i = .int .i64 k ∧ wr.rowIs w2.heap.size 45 l.length (fun j => if j < k then tv (tmA l j) else .nilIface) ∧ Below w2.heap.size w2 wr) (fun i _ => l.length - (RowKit.intOf i).toNat)
  case atStart =>
    refine ⟨0, by omega, rfl, ?_, (Below.refl _ _).alloc (Nat.le_refl _) _⟩
    exact (World.rowIs_made w2 .nilIface l.length 45).congr (fun j hj => by rw [if_neg (by omega)])
  case round =>
    obtain ⟨k, hk, rfl, hrow, hB⟩ := hrel
    clear hmk
    have hGlt := hrow.lt
    have HROW : Hid (wr.rowIs w2.heap.size 45 l.length (fun j => if j < k then tv (tmA l j) else .nilIface)) := hrow
    have HB : Hid (Below w2.heap.size w2 wr) := hB
    by_cases hlt : k < l.length
    · have hRr := HR2.out.below hB hB.size
      obtain ⟨ao', cap', h1, hl, hm, hc⟩ := hRr
      cases h1
      unfold maxLen at hm
      obtain ⟨b, o, rfl, hb, hc⟩ : ∃ b o, ao = some ⟨b, o, none⟩ ∧ b < wr.heap.size ∧ ∀ i, i < l.length → ∃ kv, NodeAt wr wr.heap.size b (o + i * 4) (l.getD i nd0) kv := by
        rcases hc with h | h
        · subst h; simp at hlt
        · exact h
      obtain ⟨kv, hn⟩ := hc k hlt
      clear hc hrow hB
      have HN : Hid (NodeAt wr wr.heap.size b (o + k * 4) (l.getD k nd0) kv) := hn
      obtain ⟨c0, c1, c2, c3, hI⟩ := hn
      obtain ⟨ka, kc, rfl, _⟩ := id hI
      clear hI
      have cT : Hid (∀ V, Below wr.heap.size wr V → Calls Tryd.prog 51 #[.agg #[.int .i64 (l.getD k nd0).op, .int .i64 (l.getD k nd0).n, .string (l.getD k nd0).name, .slice ka (l.getD k nd0).kids.length kc], .slice (some ⟨w2.heap.size, 0, none⟩) l.length l.length] V fun e w' => e = .returned (tv (tmA l k)) ∧ Below V.heap.size V w') := fun V hV => by
        refine term_any l fr HS.out w2.heap.size k _ hlt V ((HN.out.kids).below hV hV.size) (fun j hj => ?_) (Nat.lt_of_lt_of_le hGlt hV.size)
        have := HROW.out.cell (i := j) (by omega)
        rw [if_pos hj] at this
        exact (hV.cell (p := ⟨w2.heap.size, j, none⟩) hGlt).trans this
      have hbne : b ≠ wr.heap.size := by omega
      have hGne : w2.heap.size ≠ wr.heap.size := by omega
      generalize l.getD k nd0 = x at *
      obtain ⟨op, n, nm, kids⟩ := x
      simp only at c0 c1 c2 c3 cT
      obtain ⟨u, xv, hvx⟩ := five_iface (five_tm HS.out hlt)
      rw [hvx] at cT
      have HVX : Hid (tv (tmA l k) = .iface u xv) := hvx
      clear hvx
      have hlt' : (k : Int) < (l.length : Int) := by omega
      go_wp2_with fail
      refine (cT.out _ ((Below.refl _ _).alloc (Nat.le_refl _) _)).mono ?_
      rintro e w3 ⟨rfl, hb3⟩
      have hbw : Below wr.heap.size wr w3 := ((Below.refl _ _).alloc (Nat.le_refl _) _).trans (hb3.mono (by simp))
      have hrow3 : w3.rowIs w2.heap.size 45 l.length (fun j => if j < k then tv (tmA l j) else .nilIface) := by
        obtain ⟨c, h1, h2⟩ := HROW.out
        exact ⟨c, (hbw.block _ hGlt).trans h1, h2⟩
      have q0 := hrow3.cell hlt
      have q1 := hrow3.frozen k
      have HR3 : Hid (w3.rowIs w2.heap.size 45 l.length (fun j => if j < k then tv (tmA l j) else .nilIface)) := hrow3
      have HBW : Hid (Below wr.heap.size wr w3) := hbw
      rw [if_neg (by omega)] at q0
      clear hrow3 hbw hb3
      go_wp2_with fail
      refine ⟨⟨k + 1, by omega, by go_num, ?_, (HB.out.trans (HBW.out.mono HB.out.size)).setCell (Nat.le_refl _) _⟩, by simp [RowKit.intOf]; omega⟩
      rw [← HVX.out]
      refine (HR3.out.set k (tv (tmA l k))).congr (fun j hj => ?_)
      by_cases hjk : j = k
      · subst hjk; rw [if_pos rfl, if_pos (by omega)]
      · rw [if_neg hjk]
        by_cases hj2 : j < k
        · rw [if_pos hj2, if_pos (by omega)]
        · rw [if_neg hj2, if_neg (by omega)]
    · have hke : k = l.length := by omega
      subst hke
      have e0 := hrow.cell (i := l.length - 1) (by omega)
      rw [if_pos (by omega)] at e0
      clear hrow
      have h1 : ((l.length : Int) - 1) = ((l.length - 1 : Nat) : Int) := by omega
      go_wp2_with fail
      go_ret2
      exact ⟨rfl, HB2.out.trans (hB.mono HB2.out.size)⟩
end Go.Proofs.YtokfkobhdjbciaaDoor
