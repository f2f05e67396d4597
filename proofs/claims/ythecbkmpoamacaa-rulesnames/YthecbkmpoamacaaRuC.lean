/-
  The name of a rule looked for by the program: the closure, slices.IndexFunc, Named.
-/
import Derived.Test.YthecbkmpoamacaaRuB
set_option linter.unusedSimpArgs false
set_option linter.unusedVariables false
namespace Go.Proofs.Ythecbkmpoamacaa
open Go.RowKit

set_option maxRecDepth 20000 in
set_option maxHeartbeats 1000000 in
theorem nm1_any (w : World) (B : Nat) (s nm l r : ByteArray) (v : Value) (hB : w.cell? ⟨B, 0, none⟩ = some (.string s)) (hlt : B < w.heap.size) :
    Calls Try.prog 12 #[.agg #[.string nm, .string l, .string r, v], .pointer (some ⟨B, 0, none⟩)] w fun e w' => e = .returned (.bool (decide (nm = s))) ∧ Below w.heap.size w w' := by
  have hb1 : Hid (Below w.heap.size w (w.alloc (.cells #[.string nm, .string l, .string r, v] 38))) := (Below.refl _ _).alloc (Nat.le_refl _) _
  have c0 : (w.alloc (.cells #[.string nm, .string l, .string r, v] 38)).cell? ⟨w.heap.size, 0, none⟩ = some (.string nm) := by rw [World.cell?_alloc_new]; rfl
  have cB : (w.alloc (.cells #[.string nm, .string l, .string r, v] 38)).cell? ⟨B, 0, none⟩ = some (.string s) := (World.cell?_alloc_lt _ _ _ hlt).trans hB
  by_cases he : nm = s
  · subst he
    have e1 : (nm.toList == nm.toList) = true := by simp
    go_enter Try.func12, Try.ntmps12
    go_wp2_with fail
    go_ret
    exact ⟨by simp, hb1.out⟩
  · have e1 : (nm.toList == s.toList) = false := by rw [beq_toLisR]; exact decide_eq_false he
    go_enter Try.func12, Try.ntmps12
    go_wp2_with fail
    go_ret
    exact ⟨by simp [he], hb1.out⟩

/-- The program's table as it lies, for a search by names. -/
def TbN (w : World) (b : Nat) : Prop := b < w.heap.size ∧ ∀ i, i < 44 → ∃ s, w.cell? ⟨b, i * 4, none⟩ = some (.string (lnL.getD i ln0).name) ∧ w.cell? ⟨b, i * 4 + 1, none⟩ = some (.string (lnL.getD i ln0).left) ∧ w.cell? ⟨b, i * 4 + 2, none⟩ = some (.string (lnL.getD i ln0).right) ∧ w.cell? ⟨b, i * 4 + 3, none⟩ = some s
theorem TbN.below {w w' : World} {b : Nat} (h : TbN w b) (hb : Below w.heap.size w w') : TbN w' b := by
  have hl := h.1
  refine ⟨Nat.lt_of_lt_of_le h.1 hb.size, fun i hi => ?_⟩
  obtain ⟨s, h0, h1, h2, h3⟩ := h.2 i hi
  exact ⟨s, (hb.cell (p := ⟨b, _, none⟩) hl).trans h0, (hb.cell (p := ⟨b, _, none⟩) hl).trans h1, (hb.cell (p := ⟨b, _, none⟩) hl).trans h2, (hb.cell (p := ⟨b, _, none⟩) hl).trans h3⟩

/-- What IndexFunc answers. -/
def idI (s : ByteArray) : Int := if idxR s < 44 then (idxR s : Int) else -1

set_option maxRecDepth 20000 in
set_option maxHeartbeats 2000000 in
theorem index17_any (w : World) (b B : Nat) (s : ByteArray) (hT : TbN w b) (hB : w.cell? ⟨B, 0, none⟩ = some (.string s)) (hlt : B < w.heap.size) :
    Calls Try.prog 10 #[.slice (some ⟨b, 0, none⟩) 44 44, .func (.func 12) #[] #[.pointer (some ⟨B, 0, none⟩)] ] w fun e w' => e = .returned (.int .i64 (idI s)) ∧ Below w.heap.size w w' := by
  have HT : Hid (TbN w b) := hT
  have HB : Hid (w.cell? ⟨B, 0, none⟩ = some (.string s)) := hB
  clear hT hB
  go_enter Try.func10, Try.ntmps10
  go_wp2_with fail
  go_loopw [8] (fun i wr => ∃ k : Nat, k ≤ 44 ∧ i = .int .i64 k ∧ k ≤ idxR s ∧ Below w.heap.size w wr) (fun i _ => 44 - (RowKit.intOf i).toNat)
  case atStart => exact ⟨0, by omega, rfl, by omega, Below.refl _ _⟩
  case round =>
    obtain ⟨k, hk, rfl, hA, hbw⟩ := hrel
    have hsw := hbw.size
    have HW : Hid (Below w.heap.size w wr) := hbw
    by_cases hlt2 : k < 44
    · obtain ⟨v, c0, c1, c2, c3⟩ := (HT.out.below hbw).2 k hlt2
      have cB : wr.cell? ⟨B, 0, none⟩ = some (.string s) := (hbw.cell (p := ⟨B, 0, none⟩) hlt).trans HB.out
      have cN := nm1_any wr B s (lnL.getD k ln0).name (lnL.getD k ln0).left (lnL.getD k ln0).right v cB (by omega)
      by_cases he : (lnL.getD k ln0).name = s
      · have hi := idxR_eq hlt2 hA he
        have hN : Hid ((idI s) = (k : Int)) := by show idI s = _; unfold idI; rw [hi, if_pos hlt2]
        rw [he, decide_eq_true rfl] at cN
        rw [he] at c0
        generalize (lnL.getD k ln0).left = nl at *
        generalize (lnL.getD k ln0).right = nr at *
        clear hi he hbw
        go_wp2_with (go_at_call 12; refine cN.mono ?_; rintro e w2 ⟨rfl, hb2⟩; have HB2 : Hid (_) := hb2; clear hb2)
        go_ret
        exact ⟨by rw [hN.out] <;> rfl, HW.out.trans (HB2.out.mono hsw)⟩
      · rw [decide_eq_false he] at cN
        have hn : Hid (k + 1 ≤ idxR s) := by
          show k + 1 ≤ idxR s
          rcases Nat.lt_or_ge k (idxR s) with h | h
          · exact h
          · exact absurd (by rw [show k = idxR s by omega]; exact idxR_at (by omega)) he
        generalize (lnL.getD k ln0).name = nm at *
        generalize (lnL.getD k ln0).left = nl at *
        generalize (lnL.getD k ln0).right = nr at *
        clear he hbw
        go_wp2_with (go_at_call 12; refine cN.mono ?_; rintro e w2 ⟨rfl, hb2⟩; have HB2 : Hid (_) := hb2; clear hb2)
        exact ⟨⟨k + 1, by omega, by go_num, hn.out, HW.out.trans (HB2.out.mono hsw)⟩, by simp [RowKit.intOf]; omega⟩
    · have hke : k = 44 := by omega
      subst hke
      have hN : Hid ((idI s) = -1) := by show idI s = _; unfold idI; rw [if_neg (by omega)]
      clear hbw
      go_wp2_with fail
      go_ret
      exact ⟨by rw [hN.out] <;> rfl, HW.out⟩

theorem tbN_of {w w' : World} {b : Nat} (hc : ∀ k, w'.cell? ⟨b, k, none⟩ = (pCells w.heap.size)[k]?) (hb : b < w'.heap.size) : TbN w' b := by
  refine ⟨hb, fun i hi => ?_⟩
  obtain ⟨s, h0, h1, h2, h3⟩ := pCells_at w.heap.size i hi
  rw [Nat.mul_comm] at h0 h1 h2 h3
  exact ⟨s, (hc _).trans h0, (hc _).trans h1, (hc _).trans h2, (hc _).trans h3⟩

set_option maxRecDepth 20000 in
set_option maxHeartbeats 1000000 in
theorem named_any (w : World) (s : ByteArray) :
    Calls Try.prog 7 #[.string s] w fun e w' => e = .returned (.tuple #[.int .i64 (namR s).1, .int .i64 (namR s).2]) ∧ Below w.heap.size w w' := by
  have hb1 : Hid (Below w.heap.size w (w.alloc (.cells #[.string s] 9))) := (Below.refl _ _).alloc (Nat.le_refl _) _
  have c0 : (w.alloc (.cells #[.string s] 9)).cell? ⟨w.heap.size, 0, none⟩ = some (.string s) := by rw [World.cell?_alloc_new]; rfl
  have hs1 : (w.alloc (.cells #[.string s] 9)).heap.size = w.heap.size + 1 := by simp
  generalize hw1 : w.alloc (.cells #[.string s] 9) = w1 at *
  have HL : Hid (w.heap.size < w1.heap.size) := by show w.heap.size < w1.heap.size; omega
  have cT := table_any w1
  have hbl : ∀ {w2 : World} {b : Nat}, w1.heap.size ≤ b → (∀ k, w2.cell? ⟨b, k, none⟩ = (pCells w1.heap.size)[k]?) → b < w2.heap.size := fun {w2} {b} _ hc => World.block_lt_of_cell? _ _ ((hc 0).trans (pCells_at w1.heap.size 0 (by omega)).choose_spec.1)
  go_enter Try.func7, Try.ntmps7
  by_cases h44 : idxR s < 44
  · have hI : idI s = (idxR s : Int) := by unfold idI; rw [if_pos h44]
    have hN : Hid (namR s = ((idxR s : Int), 0)) := by show namR s = _; unfold namR; rw [if_pos h44]
    generalize idxR s = k at *
    go_wp2_with fail
    refine cT.mono ?_; rintro e w2 ⟨b, rfl, hb, hc, hb2⟩
    have cI := index17_any w2 b w.heap.size s (tbN_of hc (hbl hb hc)) ((hb2.cell (p := ⟨w.heap.size, 0, none⟩) HL.out).trans c0) (Nat.lt_of_lt_of_le HL.out hb2.size)
    rw [hI] at cI
    have HB2 : Hid (Below w.heap.size w w2) := hb1.out.trans (hb2.mono (Nat.le_of_lt HL.out))
    clear hb2 hc
    go_wp2_with (go_at_call 10; refine cI.mono ?_; rintro e w3 ⟨rfl, hb3⟩)
    go_ret2
    exact ⟨by rw [hN.out] <;> rfl, HB2.out.trans (hb3.mono HB2.out.size)⟩
  · have hI : idI s = -1 := by unfold idI; rw [if_neg h44]
    have hN : Hid (namR s = (0, 7)) := by show namR s = _; unfold namR; rw [if_neg h44]
    go_wp2_with fail
    refine cT.mono ?_; rintro e w2 ⟨b, rfl, hb, hc, hb2⟩
    have cI := index17_any w2 b w.heap.size s (tbN_of hc (hbl hb hc)) ((hb2.cell (p := ⟨w.heap.size, 0, none⟩) HL.out).trans c0) (Nat.lt_of_lt_of_le HL.out hb2.size)
    rw [hI] at cI
    have HB2 : Hid (Below w.heap.size w w2) := hb1.out.trans (hb2.mono (Nat.le_of_lt HL.out))
    clear hb2 hc
    go_wp2_with (go_at_call 10; refine cI.mono ?_; rintro e w3 ⟨rfl, hb3⟩)
    go_ret2
    exact ⟨by rw [hN.out] <;> rfl, HB2.out.trans (hb3.mono HB2.out.size)⟩
end Go.Proofs.Ythecbkmpoamacaa
