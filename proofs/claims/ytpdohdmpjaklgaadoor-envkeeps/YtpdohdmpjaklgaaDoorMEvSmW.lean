/-
  The comparison of two bindings, and of two environments, walked; awake.
-/
import Derived.Test.YtpdohdmpjaklgaaDoorMEvGetW
import Derived.Laws.StructEq
import Derived.Lib.QuietBelow
set_option linter.unusedSimpArgs false
set_option linter.unusedVariables false
namespace Go.Proofs.YtpdohdmpjaklgaaDoor
open Go.RowKit Go.Lib Go.Sort
theorem str_bind : Tryd.prog.underlying 38 = some (.struct (Tryd.prog.fieldsOf 38)) := by kernel_rfl
theorem sto_bind : Tryd.prog.stoodInHeld 38 = false := by kernel_rfl
theorem fld_bind : (Tryd.prog.fieldsOf 38).toList.map (fun f => (f.name, f.type, f.offset)) = [("Name", 9, 0), ("N", 2, 1)] := by kernel_rfl
theorem toList_iff (a b : ByteArray) : a.toList = b.toList ↔ a = b := by
  have := eq_toList a b
  by_cases h : a = b
  · subst h; simp
  · rw [decide_eq_false h] at this
    simp at this
    simp [h, this]
theorem neq_bind (a b : ByteArray) (m n : Int) (w : World) : (binOp .neq 38 (.agg #[.string a, .int .i64 m]) (.agg #[.string b, .int .i64 n])).run Tryd.prog w = .ok (.bool (!decide ((a, m) = (b, n)))) w := by
  rw [run_neq_struct, run_equalIn_struct w 9999 38 _ _ str_bind sto_bind]
  have h := fld_bind
  generalize (Tryd.prog.fieldsOf 38).toList = fs at *
  rcases fs with _ | ⟨f, _ | ⟨g, _ | ⟨x, r⟩⟩⟩
  · simp at h
  · simp at h
  · simp at h
    obtain ⟨⟨h1, h2, h3⟩, h4, h5, h6⟩ := h
    simp [Op.eqFields, go_sem, h1, h2, h3, h4, h5, h6, toList_iff]
    by_cases e1 : a = b
    · by_cases e2 : m = n <;> simp [e1, e2]
    · simp [e1]
  · simp at h

set_option maxHeartbeats 1000000 in
theorem same_any (ao bo : Option Addr) (ca cb : Nat) (l m : List Bd) (w : World) (hA : Bds w ao ca l) (hB : Bds w bo cb m) :
    Calls Tryd.prog 16 #[.slice ao l.length ca, .slice bo m.length cb] w fun e W' => e = .returned (.bool (decide (l = m))) ∧ Below w.heap.size w W' := by
  by_cases hlen : l.length = m.length
  · obtain ⟨⟨hl, hm, _⟩, _⟩ := id hA
    unfold maxLen at hm
    have HA : Hid (Bds w ao ca l) := hA
    have HB : Hid (Bds w bo cb m) := hB
    clear hA hB
    obtain ⟨R, hR⟩ : ∃ R, decide (l = m) = R := ⟨_, rfl⟩
    have HR : Hid (decide (l = m) = R) := hR
    rw [hR]
    clear hR
    have HL : Hid (l.length = m.length) := hlen
    obtain ⟨n, hn⟩ : ∃ n, m.length = n := ⟨_, rfl⟩
    have HM : Hid (m.length = n) := hn
    rw [hlen, hn]
    rw [hlen, hn] at hl
    clear hlen hn
    have hq := neq_bind
    go_enter Tryd.func16, Tryd.ntmps16
    go_wp2
    go_loopw [5] (fun i wr => ∃ k : Nat, k ≤ n ∧ i = .int .i64 k ∧ Below w.heap.size w wr ∧ Hid (∀ i, i < k → l.getD i bd0 = m.getD i bd0)) (fun i _ => n - (RowKit.intOf i).toNat)
    case atStart => exact ⟨0, by omega, rfl, Below.refl _ _, fun _ h => absurd h (by omega)⟩
    case round =>
      obtain ⟨k, hk, rfl, HB0, HK⟩ := hrel
      by_cases hlt : k < n
      · obtain ⟨b, o, rfl, hb, ⟨c0, c1⟩⟩ := (HA.out.below HB0).at_ (i := k) (by rw [HL.out, HM.out]; exact hlt)
        obtain ⟨b', o', rfl, hb', ⟨d0, d1⟩⟩ := (HB.out.below HB0).at_ (i := k) (by rw [HM.out]; exact hlt)
        have hkl2 : (k : Int) < (n : Int) := by omega
        obtain ⟨x, hx⟩ : ∃ x, l.getD k bd0 = x := ⟨_, rfl⟩
        obtain ⟨y, hy⟩ : ∃ y, m.getD k bd0 = y := ⟨_, rfl⟩
        rw [hx] at c0 c1
        rw [hy] at d0 d1
        have HX : Hid (l.getD k bd0 = x) := hx
        have HY : Hid (m.getD k bd0 = y) := hy
        clear hx hy
        obtain ⟨x1, x2⟩ := x
        obtain ⟨y1, y2⟩ := y
        simp only at c0 c1 d0 d1
        have HBH : Hid (Below w.heap.size w wr) := HB0
        clear HB0
        replace c0 := cell_regrown c0
        replace c1 := cell_regrown c1
        replace d0 := cell_regrown d0
        replace d1 := cell_regrown d1
        by_cases he : (x1, x2) = (y1, y2)
        · have hd : decide ((x1, x2) = (y1, y2)) = true := decide_eq_true he
          have HE : Hid ((x1, x2) = (y1, y2)) := he
          have hqq := fun w => (hq x1 y1 x2 y2 w)
          rw [hd] at hqq
          clear he hd hq
          go_wp2_with fail
          refine wp_region_quiet_below (by kernel_rfl) (by kernel_rfl) ?_
          iterate 9 (go_big_quiet_step (fail))
          refine wpQuiet_nil ?_
          intro _ hw'
          obtain ⟨⟨ds, oss⟩, hw''⟩ := hw'
          subst hw''
          have b4 := HBH.out.trans ((below_regrown wr ds oss).mono HBH.out.size)
          generalize grow (redrawn wr ds) oss = w6 at *
          go_wp2
          go_roundw
          case rel => exact ⟨k + 1, by omega, by simp, b4, fun i hi => by
            by_cases h : i < k
            · exact HK.out i h
            · obtain rfl : i = k := by omega
              rw [HX.out, HY.out]; exact HE.out⟩
          case measure => simp [RowKit.intOf]; omega
        · have hd : decide ((x1, x2) = (y1, y2)) = false := decide_eq_false he
          have HE : Hid (¬ (x1, x2) = (y1, y2)) := he
          have hqq := fun w => (hq x1 y1 x2 y2 w)
          rw [hd] at hqq
          clear he hd hq
          go_wp2_with fail
          refine wp_region_quiet_below (by kernel_rfl) (by kernel_rfl) ?_
          iterate 9 (go_big_quiet_step (fail))
          refine wpQuiet_nil ?_
          intro _ hw'
          obtain ⟨⟨ds, oss⟩, hw''⟩ := hw'
          subst hw''
          have b4 := HBH.out.trans ((below_regrown wr ds oss).mono HBH.out.size)
          generalize grow (redrawn wr ds) oss = w6 at *
          go_wp2
          go_ret
          exact ⟨by rw [← HR.out, decide_eq_false (fun h => HE.out (by rw [← HX.out, ← HY.out, h]))]; rfl, b4⟩
      · obtain rfl : k = n := by omega
        go_wp2
        go_ret
        refine ⟨?_, HB0⟩
        rw [← HR.out, decide_eq_true]
        · rfl
        · apply List.ext_getElem
          · exact HL.out
          · intro i h1 h2
            have := HK.out i (by rw [← HM.out]; exact h2)
            simpa [h1, h2] using this
  · have e : decide (l = m) = false := decide_eq_false (fun h => hlen (by rw [h]))
    rw [e]
    have hne : ((l.length : Int) == (m.length : Int)) = false := by simp; omega
    go_enter Tryd.func16, Tryd.ntmps16
    go_wp2
    go_ret
    exact ⟨rfl, Below.refl _ _⟩

set_option maxHeartbeats 1000000 in
theorem awake_any (w : World) : Calls Tryd.prog 8 #[] w fun e W' => e = .returned (.bool true) ∧ Below w.heap.size w W' := by
  have hI : Bds (w.alloc (.cells #[.string ⟨#[97]⟩, .int .i64 3] 38)) (some ⟨w.heap.size, 0, none⟩) 1 [(⟨#[97]⟩, 3)] := by
    refine ⟨⟨by simp, by simp [maxLen], by simp⟩, .inr ⟨w.heap.size, 0, rfl, by simp, fun i hi => ?_⟩⟩
    obtain rfl : i = 0 := by simpa using hi
    exact ⟨by simp, by simp⟩
  have cg : Hid (Calls Tryd.prog 9 #[.slice (some ⟨w.heap.size, 0, none⟩) 1 1, .string ⟨#[97]⟩] (w.alloc (.cells #[.string ⟨#[97]⟩, .int .i64 3] 38)) fun e W' => e = .returned (.int .i64 3) ∧ Below (w.heap.size + 1) (w.alloc (.cells #[.string ⟨#[97]⟩, .int .i64 3] 38)) W') := by
    have := get_any _ 1 [(⟨#[97]⟩, 3)] ⟨#[97]⟩ (by simp) _ hI
    have e : getB [((⟨#[97]⟩ : ByteArray), (3 : Int))] ⟨#[97]⟩ = 3 := by simp [getB, getN]
    rw [e] at this
    rw [World.size_alloc] at this
    exact this
  go_enter Tryd.func8, Tryd.ntmps8
  go_wp2_with (go_at_call 9; refine cg.out.mono ?_; rintro e w2 ⟨rfl, b2⟩)
  go_ret
  exact ⟨rfl, ((Below.refl w.heap.size w).alloc (Nat.le_refl _) _).trans (b2.mono (by omega))⟩
end Go.Proofs.YtpdohdmpjaklgaaDoor
