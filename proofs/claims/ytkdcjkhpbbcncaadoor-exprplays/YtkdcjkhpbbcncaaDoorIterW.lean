/-
  A range over a text whose rounds call functions: where the iterator stands, and that nothing older has turned.
-/
import Derived.Test.YtkdcjkhpbbcncaaDoorKindW
import Derived.Test.YtkdcjkhpbbcncaaDoorPure
import Derived.Lib.OthersKept
set_option linter.unusedSimpArgs false
namespace Go.Proofs.YtkdcjkhpbbcncaaDoor
open Go.RowKit Go.Lib

/-- The tables that the program reads lie in memory. -/
structure Tabs (w : World) : Prop where
  spans : SpanCells w
  utf : Lib.Utf8Tabs 1 2 w

theorem Tabs.below {w w' : World} (h : Tabs w) (hb : Below w.heap.size w w') : Tabs w' := by
  refine ⟨h.spans.below hb, fun c hc => ?_, fun i hi => ?_⟩
  · have h0 := h.utf.1 c hc
    exact (hb.cell (World.block_lt_of_cell? w _ h0)).trans h0
  · have h0 := h.utf.2 i hi
    exact ⟨(hb.cell (World.block_lt_of_cell? w _ h0.1)).trans h0.1, (hb.cell (World.block_lt_of_cell? w _ h0.2)).trans h0.2⟩

/-- The iterator over s, laid when the world was w, stands at pos; nothing of w has turned. -/
structure It (w : World) (s : ByteArray) (pos : Nat) (wr : World) : Prop where
  at_ : wr.heap[w.heap.size]? = some (.stringIter s pos)
  below : Below w.heap.size w wr

theorem It.start (w : World) (s : ByteArray) : It w s 0 (w.iter s 0) := ⟨World.iter_heap w s 0, (Below.refl _ _).alloc (Nat.le_refl _) _⟩
theorem It.lt {w : World} {s : ByteArray} {pos : Nat} {wr : World} (h : It w s pos wr) : w.heap.size < wr.heap.size := (Array.getElem?_eq_some_iff.1 h.at_).1
theorem It.next {w : World} {s : ByteArray} {pos : Nat} {wr : World} (h : It w s pos wr) (pos' : Nat) : It w s pos' (wr.iterAt w.heap.size s pos') :=
  ⟨iterAt_heap wr _ s pos pos' h.at_, below_iterAt h.below (Nat.le_refl _) s pos'⟩
theorem It.call {w : World} {s : ByteArray} {pos : Nat} {wr w2 : World} (h : It w s pos wr) (hb : Below wr.heap.size wr w2) : It w s pos w2 :=
  ⟨(hb.block _ h.lt).trans h.at_, h.below.trans (hb.mono (Nat.le_of_lt h.lt))⟩
theorem It.pos {w : World} {s : ByteArray} {pos : Nat} {wr : World} (h : It w s pos wr) : wr.iterPos w.heap.size = pos := by
  simp [World.iterPos, h.at_]
theorem It.tabs {w : World} {s : ByteArray} {pos : Nat} {wr : World} (h : It w s pos wr) (hT : Tabs w) : Tabs wr := hT.below h.below

/-! ### Name -/
set_option maxHeartbeats 1000000 in
theorem name_spans (s : ByteArray) (w : World) (hT : SpanCells w) :
    Calls Tryd.prog 58 #[.string s] w fun e w' => e = .returned (.bool (nameB s)) ∧ Below w.heap.size w w' := by
  go_enter Tryd.func58, Tryd.ntmps58
  go_wp2
  go_loopw [3] (fun c w' => ∃ (pos f n : Nat), It w s pos w' ∧ c = .int .i64 n ∧ n ≤ 16 ∧ (pos = 0 ↔ n = 0) ∧ Hid (nmF s f pos n = nameB s) ∧ s.size ≤ pos + f) (fun _ w' => s.size - w'.iterPos w.heap.size)
  case atStart => exact ⟨0, s.size, 0, It.start w s, rfl, by omega, by simp, rfl, by omega⟩
  case round =>
    obtain ⟨pos, f, n, hI, rfl, hn, h0, HN, hf⟩ := hrel
    have hm := hI.pos
    by_cases hp : pos < s.size
    · have hnx : ∀ ty, (Instr.next (.pointer (some ⟨w.heap.size, 0, none⟩)) true ty).run Tryd.prog wr = _ := fun ty => run_next_any_at wr w.heap.size s pos ty hI.at_ hp
      obtain ⟨f, rfl⟩ : ∃ g, f = g + 1 := ⟨f - 1, by omega⟩
      have hw := width_pos s pos hp
      have HX := nmF_step s f pos n hp
      generalize (Utf8.decode s pos).2 = v at *
      generalize ((Utf8.decode s pos).1 : Int) = r at *
      have hI1 := hI.next (pos + v)
      have hT1 := hT.below hI1.below
      have HY : Hid (nmF s (f + 1) pos n = nmS r n (nmF s f (pos + v) (n + 1))) := HX
      clear HX
      go_wp2_with (first | (go_at_call 97; refine (kind_any _ _ hT1).mono ?_; rintro e w2 ⟨rfl, hb2⟩; have hT2 := hT1.below hb2) | (go_at_call 98; refine (goesOn_any _ _ (by first | exact hT2 | exact hT1)).mono ?_; rintro e w3 ⟨rfl, hb3⟩))
      · have hI3 := (hI1.call hb2).call hb3
        have hn0 : n = 0 := by assumption
        subst hn0
        have hk : kd r = 1 := by assumption
        refine ⟨⟨pos + v, f, 1, hI3, rfl, by omega, by omega, ?_, by omega⟩, ?_⟩
        · show nmF s f (pos + v) 1 = nameB s
          rw [← HN.out, HY.out]; simp [nmS, *]
        · rw [hI3.pos, hm]; omega
      · go_ret
        have hn0 : n = 0 := by assumption
        subst hn0
        have hk : kd r = 1 := by assumption
        exact ⟨ret_bool (by rw [← HN.out, HY.out]; simp [nmS, *]), ((hI1.call hb2).call hb3).below⟩
      · go_ret
        have hn0 : n = 0 := by assumption
        subst hn0
        exact ⟨ret_bool (by rw [← HN.out, HY.out]; simp [nmS, *]), (hI1.call hb2).below⟩
      · go_ret
        have hn16 : n = 16 := by have : ((n : Int) == 16) = true := by assumption
                                 simp at this; omega
        subst hn16
        exact ⟨ret_bool (by rw [← HN.out, HY.out, nmF_long s f _ 17 (by omega)]; simp [nmS]), (hI1.call hb3).below⟩
      · have hI3 := hI1.call hb3
        have hn16 : ¬ n = 16 := by have : ((n : Int) == 16) = false := by assumption
                                   simp at this; omega
        have hn0 : ¬ n = 0 := by assumption
        refine ⟨⟨pos + v, f, n + 1, hI3, by go_num, by omega, by omega, ?_, by omega⟩, ?_⟩
        · show nmF s f (pos + v) (n + 1) = nameB s
          rw [← HN.out, HY.out]; simp [nmS, *]
        · rw [hI3.pos, hm]; omega
      · go_ret
        exact ⟨ret_bool (by rw [← HN.out, HY.out]; simp [nmS, *]), (hI1.call hb3).below⟩
    · have hnx : ∀ ty, (Instr.next (.pointer (some ⟨w.heap.size, 0, none⟩)) true ty).run Tryd.prog wr = _ := fun ty => run_next_end_at wr w.heap.size s pos ty hI.at_ hp
      go_wp2
      go_ret
      exact ⟨ret_bool (by rw [← HN.out, nmF_end s f pos n hp]; apply decide_eq_decide.2; omega), hI.below⟩

theorem name_any (s : ByteArray) (w : World) (hT : Tabs w) :
    Calls Tryd.prog 58 #[.string s] w fun e w' => e = .returned (.bool (nameB s)) ∧ Below w.heap.size w w' := name_spans s w hT.spans
end Go.Proofs.YtkdcjkhpbbcncaaDoor
