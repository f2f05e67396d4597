/-
  What the document's Order answers, for every two texts of at most 2^46 bytes.
-/
import Derived.Test.YtkdcjkhpbbcncaaDoorOrderW
import Derived.Laws.IdiomStrings
import Derived.WalkSmall
import Derived.Deep.QuietTactic
import Derived.BigQuiet
set_option linter.unusedSimpArgs false
set_option linter.unusedVariables false
namespace Go.Proofs.YtkdcjkhpbbcncaaDoor
open Go.RowKit Go.Lib

theorem convRunes_list (s : ByteArray) : ∀ (f i : Nat) (acc : Array Value), (Conv.runesFrom s f i acc).toList = acc.toList ++ (runesFrom s f i).map (Value.int .i32)
  | 0, i, acc => by simp [Conv.runesFrom, runesFrom]
  | f + 1, i, acc => by
    unfold Conv.runesFrom runesFrom
    split
    · rw [convRunes_list s f]
      simp
    · simp
theorem rl_length_le (s : ByteArray) : ∀ (f i : Nat), (runesFrom s f i).length ≤ f
  | 0, i => by simp [runesFrom]
  | f + 1, i => by
    unfold runesFrom
    split
    · have := rl_length_le s f (i + (Utf8.decode s i).2)
      simp; omega
    · simp

/-- '[]rune(s)': a new row that holds the runes. -/
theorem conv_runes (s : ByteArray) (w : World) (hs : s.size ≤ 70368744177664) :
    ∃ cap w1, (convert 9 137 (.string s)).run Tryd.prog w = .ok (.slice (some ⟨w.heap.size, 0, none⟩) (rl s).length cap) w1 ∧ Below w.heap.size w w1 ∧ w1.heap.size = w.heap.size + 1 ∧
      ∀ j, j < (rl s).length → w1.cell? ⟨w.heap.size, j, none⟩ = some (.int .i32 ((rl s).getD j 0)) := by
  have hl : (Conv.runesFrom s s.size 0 #[]).toList = (rl s).map (Value.int .i32) := by
    rw [convRunes_list]; rfl
  have hsz : (Conv.runesFrom s s.size 0 #[]).size = (rl s).length := by
    rw [← Array.length_toList, hl, List.length_map]
  have hle : (rl s).length ≤ s.size := rl_length_le s s.size 0
  have hrun := run_runes_of_string (P := Tryd.prog) w 9 137 21 s Tryd.underlying9 Tryd.underlying137 Tryd.underlying21 (by rw [hsz]; omega)
  rw [hsz] at hrun
  refine ⟨_, _, hrun, (Below.refl _ _).drew.alloc (Nat.le_refl _) _, by simp, fun j hj => ?_⟩
  have hc := World.cell?_alloc_mark w.drew (Conv.runesFrom s s.size 0 #[] ++ Array.replicate (grownCap w (rl s).length 0 21 - (rl s).length) (.int .i32 0)) 21 (0, 0) j
  refine hc.trans ?_
  rw [Array.getElem?_append_left (by rw [hsz]; exact hj), ← Array.getElem?_toList, hl, List.getElem?_map, List.getElem?_eq_getElem hj]
  simp [hj]

theorem cmpL_end (a b : List Int) (k : Nat) (h : ¬ (k < a.length ∧ k < b.length)) (hk : k ≤ a.length) (hk2 : k ≤ b.length) : cmpL (a.drop k) (b.drop k) = cmp3 a.length b.length := by
  unfold cmp3
  by_cases ha : k < a.length
  · have hb : k = b.length := by omega
    rw [List.drop_eq_getElem_cons ha, List.drop_of_length_le (by omega : b.length ≤ k)]
    rw [if_neg (by omega), if_pos (by omega)]
    rfl
  · by_cases hb : k < b.length
    · rw [List.drop_of_length_le (by omega : a.length ≤ k), List.drop_eq_getElem_cons hb, if_pos (by omega)]
      rfl
    · rw [List.drop_of_length_le (by omega : a.length ≤ k), List.drop_of_length_le (by omega : b.length ≤ k), if_neg (by omega), if_neg (by omega)]
      rfl
theorem cmpL_step (a b : List Int) (k : Nat) (ha : k < a.length) (hb : k < b.length) : cmpL (a.drop k) (b.drop k) = if cmp3 (a.getD k 0) (b.getD k 0) = 0 then cmpL (a.drop (k + 1)) (b.drop (k + 1)) else cmp3 (a.getD k 0) (b.getD k 0) := by
  rw [List.drop_eq_getElem_cons ha, List.drop_eq_getElem_cons hb, cmpL]
  simp [ha, hb]

set_option maxHeartbeats 2000000 in
theorem refOrder_any (s t : ByteArray) (w : World) (hs : s.size ≤ 70368744177664) (ht : t.size ≤ 70368744177664) :
    Calls Tryd.prog 55 #[.string s, .string t] w fun e w' => e = .returned (.int .i64 (ordI s t)) ∧ Below w.heap.size w w' := by
  obtain ⟨ca, w1, h1, hb1, hz1, hc1⟩ := conv_runes s w hs
  obtain ⟨cb, w2, h2, hb2, hz2, hc2⟩ := conv_runes t w1 ht
  rw [hz1] at h2 hb2 hz2 hc2
  have hla : (rl s).length ≤ s.size := rl_length_le s s.size 0
  have hlb : (rl t).length ≤ t.size := rl_length_le t t.size 0
  have HO : Hid (ordI s t = cmpL (rl s) (rl t)) := rfl
  generalize rl s = a at *
  generalize rl t = b at *
  have C1 : Hid (∀ j, j < a.length → w2.cell? ⟨w.heap.size, j, none⟩ = some (.int .i32 (a.getD j 0))) := fun j hj => by
    rw [hb2.cell (p := ⟨w.heap.size, j, none⟩) (Nat.lt_succ_self _)]; exact hc1 j hj
  have C2 : Hid (∀ j, j < b.length → w2.cell? ⟨w.heap.size + 1, j, none⟩ = some (.int .i32 (b.getD j 0))) := hc2
  have hB : Below w.heap.size w w2 := hb1.trans (hb2.mono (by omega))
  clear hc1 hc2 hb1 hb2 hz1
  have HZ2 : Hid (w2.heap.size = w.heap.size + 1 + 1) := hz2
  clear hz2
  go_enter Tryd.func55, Tryd.ntmps55
  go_wp2
  clear h1 h2
  go_loopw [7] (fun i w' => ∃ k : Nat, k ≤ a.length ∧ k ≤ b.length ∧ i = .int .i64 k ∧ Below (w.heap.size + 1 + 1) w2 w' ∧ Hid (cmpL (a.drop k) (b.drop k) = ordI s t)) (fun i _ => a.length - (RowKit.intOf i).toNat)
  case atStart => exact ⟨0, by omega, by omega, rfl, Below.refl _ _, by show _ = _; rw [HO.out]; rfl⟩
  case round =>
    obtain ⟨k, hka, hkb, rfl, hBr, HN⟩ := hrel
    have hBw : Below w.heap.size w wr := hB.trans (hBr.mono (by omega))
    by_cases hlt : k < a.length ∧ k < b.length
    · obtain ⟨h1, h2⟩ := hlt
      have HS : Hid (cmpL (a.drop k) (b.drop k) = if cmp3 (a.getD k 0) (b.getD k 0) = 0 then cmpL (a.drop (k + 1)) (b.drop (k + 1)) else cmp3 (a.getD k 0) (b.getD k 0)) := cmpL_step a b k h1 h2
      have cA : wr.cell? ⟨w.heap.size, k, none⟩ = some (.int .i32 (a.getD k 0)) := by
        rw [hBr.cell (p := ⟨w.heap.size, k, none⟩) (by show w.heap.size < _; omega)]; exact C1.out k h1
      have cB : wr.cell? ⟨w.heap.size + 1, k, none⟩ = some (.int .i32 (b.getD k 0)) := by
        rw [hBr.cell (p := ⟨w.heap.size + 1, k, none⟩) (by show w.heap.size + 1 < _; omega)]; exact C2.out k h2
      generalize a.getD k 0 = x at *
      generalize b.getD k 0 = y at *
      have z1 : (k : Int) < (a.length : Int) := by omega
      have z2 : (k : Int) < (b.length : Int) := by omega
      by_cases hxy : x < y
      · have hv : Hid (ordI s t = -1) := by show _ = _; rw [← HN.out, HS.out]; simp [cmp3, hxy]
        go_wp2_with fail
        go_quiet (fail)
        go_wp2
        go_ret
        exact ⟨ret_int hv.out.symm, below_drewN hBw _⟩
      · by_cases hyx : y < x
        · have hv : Hid (ordI s t = 1) := by show _ = _; rw [← HN.out, HS.out]; simp [cmp3, hxy, hyx]
          go_wp2_with fail
          go_quiet (fail)
          go_wp2_with fail
          go_quiet (fail)
          go_wp2
          go_ret
          exact ⟨ret_int hv.out.symm, below_drewN (below_drewN hBw _) _⟩
        · have hv : Hid (cmpL (a.drop (k + 1)) (b.drop (k + 1)) = ordI s t) := by show _ = _; rw [← HN.out, HS.out]; simp [cmp3, hxy, hyx]
          go_wp2_with fail
          go_quiet (fail)
          go_wp2_with fail
          go_quiet (fail)
          go_wp2
          exact ⟨⟨k + 1, by omega, by omega, by go_num, below_drewN hBr _, hv⟩, by simp [RowKit.intOf]; omega⟩
    · have hv : Hid (ordI s t = cmp3 a.length b.length) := by show _ = _; rw [← HN.out, cmpL_end a b k hlt hka hkb]
      by_cases h1 : k < a.length
      · have h2 : ¬ k < b.length := fun e => hlt ⟨h1, e⟩
        have hab : ¬ (a.length : Int) < (b.length : Int) := by omega
        have hba : (b.length : Int) < (a.length : Int) := by omega
        go_wp2
        go_ret
        exact ⟨ret_int (by rw [hv.out]; unfold cmp3; rw [if_neg (by omega), if_pos (by omega)]), hBw⟩
      · by_cases h2 : k < b.length
        · have hab : (a.length : Int) < (b.length : Int) := by omega
          go_wp2
          go_ret
          exact ⟨ret_int (by rw [hv.out]; unfold cmp3; rw [if_pos (by omega)]), hBw⟩
        · have hab : ¬ (a.length : Int) < (b.length : Int) := by omega
          have hba : ¬ (b.length : Int) < (a.length : Int) := by omega
          go_wp2
          go_ret
          exact ⟨ret_int (by rw [hv.out]; unfold cmp3; rw [if_neg (by omega), if_neg (by omega)]), hBw⟩
end Go.Proofs.YtkdcjkhpbbcncaaDoor
