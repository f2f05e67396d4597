/-
  The walk of ExprMakes.
-/
import Derived.Test.YtbapjhlichjhoaaDoorExRMkW
import Derived.Deep.RegionHeld3
set_option linter.unusedSimpArgs false
set_option linter.unusedVariables false
namespace Go.Proofs.YtbapjhlichjhoaaDoor
open Go.RowKit Go.Lib

/-- The errno and the nodes that Make answers. -/
def mkE (op n : Int) (nm : ByteArray) (ps : List (List Nd)) : Int :=
  if ps.any (fun l => !sndB l) = true then 1 else if fitB op n nm ps.length = false then 2 else if 64 < 1 + (accS ps).1.length then 10 else 0
def mkL (op n : Int) (nm : ByteArray) (ps : List (List Nd)) : List Nd := if mkE op n nm ps = 0 then joinL op n nm ps else []

theorem any_no {ps : List (List Nd)} (h : ∀ l ∈ ps, sndB l = true) : ps.any (fun l => !sndB l) = false := by
  rw [List.any_eq_false]; intro l hl; simp [h l hl]
theorem any_yes {ps : List (List Nd)} (h : ∃ l ∈ ps, sndB l = false) : ps.any (fun l => !sndB l) = true := by
  rw [List.any_eq_true]; obtain ⟨l, h1, h2⟩ := h; exact ⟨l, h1, by simp [h2]⟩

theorem Rd_nil (w : World) : Rd w none 0 [] := ⟨none, 0, rfl, by simp, by simp, .inl rfl⟩

theorem make_R {w w' : World} {op n : Int} {nm : ByteArray} {ps : List (List Nd)} {e : Ending} (h : MakePost w op n nm ps e w') :
    ∃ ao cap, e = .returned (.tuple #[.slice ao (mkL op n nm ps).length cap, .int .i64 (mkE op n nm ps)]) ∧ Rd w' ao cap (mkL op n nm ps) ∧ Below w.heap.size w w' := by
  rcases h.ways with ⟨h1, rfl⟩ | ⟨h1, h2, rfl⟩ | ⟨h1, h2, h3, rfl⟩ | ⟨h1, h2, h3, v, rfl, hO⟩
  · have hE : mkE op n nm ps = 1 := by unfold mkE; rw [if_pos (any_yes h1)]
    have hL : mkL op n nm ps = [] := by unfold mkL; rw [if_neg (by rw [hE]; decide)]
    rw [hE, hL]; exact ⟨none, 0, rfl, Rd_nil _, h.below⟩
  · have hE : mkE op n nm ps = 2 := by unfold mkE; rw [if_neg (by rw [any_no h1]; decide), if_pos h2]
    have hL : mkL op n nm ps = [] := by unfold mkL; rw [if_neg (by rw [hE]; decide)]
    rw [hE, hL]; exact ⟨none, 0, rfl, Rd_nil _, h.below⟩
  · have hE : mkE op n nm ps = 10 := by unfold mkE; rw [if_neg (by rw [any_no h1]; decide), if_neg (by rw [h2]; decide), if_pos h3]
    have hL : mkL op n nm ps = [] := by unfold mkL; rw [if_neg (by rw [hE]; decide)]
    rw [hE, hL]; exact ⟨none, 0, rfl, Rd_nil _, h.below⟩
  · have hE : mkE op n nm ps = 0 := by unfold mkE; rw [if_neg (by rw [any_no h1]; decide), if_neg (by rw [h2]; decide), if_neg (by omega)]
    have hL : mkL op n nm ps = joinL op n nm ps := by unfold mkL; rw [if_pos hE]
    rw [hE, hL]
    obtain ⟨ao, cap, rfl, hR⟩ := Rd_of_own hO
    exact ⟨ao, cap, rfl, hR, h.below⟩

/-- The slice reads as the lists, anywhere in memory. -/
def RdL (w : World) (ao : Option Addr) (cap : Nat) (ps : List (List Nd)) : Prop := Lst w w.heap.size (.slice ao ps.length cap) ps
theorem RdL.below {w w' : World} {ao : Option Addr} {cap : Nat} {ps : List (List Nd)} (h : RdL w ao cap ps) (hb : Below w.heap.size w w') : RdL w' ao cap ps := Lst.below h hb hb.size

theorem makeR {w : World} {ao : Option Addr} {cap : Nat} {ps : List (List Nd)} (op n : Int) (nm : ByteArray) (T : SpanCells w) (h : RdL w ao cap ps) (hlen : ps.length * 24 ≤ 140737488355328) (E : Int) (L : List Nd) (hE : mkE op n nm ps = E) (hL : mkL op n nm ps = L) :
    Calls Tryd.prog 25 #[.int .i64 op, .int .i64 n, .string nm, .slice ao ps.length cap] w fun e w' => ∃ ao cap, e = .returned (.tuple #[.slice ao L.length cap, .int .i64 E]) ∧ Rd w' ao cap L ∧ Below w.heap.size w w' := by
  subst hE hL
  exact (make_any op n nm _ ps w _ (Nat.le_refl _) T h hlen).mono fun e w' hh => make_R hh
theorem refMakeR {w : World} {ao : Option Addr} {cap : Nat} {ps : List (List Nd)} (op n : Int) (nm : ByteArray) (h : RdL w ao cap ps) (hlen : ps.length * 24 ≤ 140737488355328) (hF : ∀ l ∈ ps, Fit l) (hnm : nm.size ≤ maxLen) (E : Int) (L : List Nd) (hE : mkE op n nm ps = E) (hL : mkL op n nm ps = L) :
    Calls Tryd.prog 27 #[.int .i64 op, .int .i64 n, .string nm, .slice ao ps.length cap] w fun e w' => ∃ ao cap, e = .returned (.tuple #[.slice ao L.length cap, .int .i64 E]) ∧ Rd w' ao cap L ∧ Below w.heap.size w w' := by
  subst hE hL
  exact (refMake_any op n nm _ ps w _ (Nat.le_refl _) h hlen hF hnm).mono fun e w' hh => make_R hh
theorem copiesR {w : World} {ao : Option Addr} {cap : Nat} {ps : List (List Nd)} (h : RdL w ao cap ps) (hlen : ps.length * 24 ≤ 140737488355328) (hF : ∀ l ∈ ps, Fit l) :
    Calls Tryd.prog 26 #[.slice ao ps.length cap] w fun e w' => ∃ ao cap, e = .returned (.slice ao ps.length cap) ∧ RdL w' ao cap ps ∧ Below w.heap.size w w' := by
  refine (copies_any _ ps w _ (Nat.le_refl _) h hlen hF).mono ?_
  rintro e w' ⟨v, pvs, rfl, hO, hb⟩
  have hL := Lst_of_own hO (Nat.le_refl _)
  obtain ⟨ao', cap', rfl, _⟩ := id hL
  exact ⟨ao', cap', rfl, hL, hb⟩

set_option maxHeartbeats 4000000 in
theorem makes_walk (w : World) (op n : Int) (nm : ByteArray) (ao : Option Addr) (cap : Nat) (ps : List (List Nd)) (T : SpanCells w) (hN : RdL w ao cap ps) (hlen : ps.length * 24 ≤ 140737488355328) (hF : ∀ l ∈ ps, Fit l) (hnm : nm.size ≤ maxLen) :
    Calls Tryd.prog 4 #[.agg #[.int .i64 op, .int .i64 n, .string nm, .slice ao ps.length cap]] w fun e w' => e = .returned (.bool true) ∧ Below w.heap.size w w' := by
  obtain ⟨E, hE⟩ : ∃ E, mkE op n nm ps = E := ⟨_, rfl⟩
  obtain ⟨L, hL⟩ : ∃ L, mkL op n nm ps = L := ⟨_, rfl⟩
  have HE : Hid (mkE op n nm ps = E) := hE
  have HL : Hid (mkL op n nm ps = L) := hL
  have HF : Hid (∀ l ∈ ps, Fit l) := hF
  have HNM : Hid (nm.size ≤ maxLen) := hnm
  have HLEN : Hid (ps.length * 24 ≤ 140737488355328) := hlen
  clear hE hL hF hnm
  obtain ⟨w0, hw0⟩ : ∃ w0, w.alloc (.cells #[.int .i64 op, .int .i64 n, .string nm, .slice ao ps.length cap] 40) = w0 := ⟨_, rfl⟩
  have hb0 : Below w.heap.size w w0 := by rw [← hw0]; exact (Below.refl _ _).alloc (Nat.le_refl _) _
  have hsz0 : w0.heap.size = w.heap.size + 1 := by rw [← hw0]; simp
  have hblk : w0.heap[w.heap.size]? = some (.cells #[.int .i64 op, .int .i64 n, .string nm, .slice ao ps.length cap] 40 (0, 0)) := by rw [← hw0, Deep.blk_alloc_new]
  have HW0 : Hid (w.alloc (.cells #[.int .i64 op, .int .i64 n, .string nm, .slice ao ps.length cap] 40) = w0) := hw0
  have HSZ0 : Hid (w0.heap.size = w.heap.size + 1) := hsz0
  have T0 := T.below hb0
  have R0 := hN.below hb0
  clear hw0 hsz0 T hN
  have hcells : ∀ W, Below w0.heap.size w0 W → W.cell? ⟨w.heap.size, 0, none⟩ = some (.int .i64 op) ∧ W.cell? ⟨w.heap.size, 1, none⟩ = some (.int .i64 n) ∧ W.cell? ⟨w.heap.size, 2, none⟩ = some (.string nm) ∧ W.cell? ⟨w.heap.size, 3, none⟩ = some (.slice ao ps.length cap) := fun W hW => by
    obtain ⟨d0, d1, d2, d3, _⟩ := node_cells ((hW.block w.heap.size (by have := HSZ0.out; omega)).trans hblk)
    exact ⟨d0, d1, d2, d3⟩
  have HCE : Hid (∀ W, Below w0.heap.size w0 W → W.cell? ⟨w.heap.size, 0, none⟩ = some (.int .i64 op) ∧ W.cell? ⟨w.heap.size, 1, none⟩ = some (.int .i64 n) ∧ W.cell? ⟨w.heap.size, 2, none⟩ = some (.string nm) ∧ W.cell? ⟨w.heap.size, 3, none⟩ = some (.slice ao ps.length cap)) := hcells
  clear hcells hblk
  have cA : Hid (∀ W, Calls Tryd.prog 23 #[.int .i64 op] W fun e w' => e = .returned (.tuple #[.int .i64 (arK op), .int .i64 (arE op)]) ∧ w' = W) := arity_any op
  have cR : Hid (∀ W, Calls Tryd.prog 24 #[.int .i64 op] W fun e w' => e = .returned (.int .i64 (aritI op)) ∧ w' = W) := refArity_any op
  have hr1 := aritI_ge op
  have hval : (0 ≤ aritI op ∧ arK op = aritI op ∧ arE op = 0) ∨ (aritI op < 0 ∧ arK op = 0 ∧ arE op = 2) := by
    by_cases h : 0 ≤ aritI op
    · exact .inl ⟨h, ar_of rfl h⟩
    · exact .inr ⟨by omega, ar_none (by omega)⟩
  clear hr1
  generalize aritI op = r at *
  generalize arK op = k at *
  generalize arE op = x at *
  rcases hval with ⟨hr, rfl, rfl⟩ | ⟨hr, rfl, rfl⟩
  all_goals
    have hr' := hr
    go_enter Tryd.func4, Tryd.ntmps4
    go_wp2_with fail
    rw [HW0.out]
    refine (awk_any _ T0).mono ?_
    rintro e w1 ⟨rfl, hb1⟩
    have T1 := T0.below hb1
    have R1 := R0.below hb1
    obtain ⟨d0, d1, d2, d3⟩ := HCE.out w1 hb1
    go_wp2_with (first | (go_at_call 23; refine (cA.out _).mono ?_; rintro e w' ⟨rfl, rfl⟩) | (go_at_call 24; refine (cR.out _).mono ?_; rintro e w' ⟨rfl, rfl⟩))
    go_region_held3 (fun W => W.cell? ⟨w.heap.size, 0, none⟩ = some (.int .i64 op) ∧ W.cell? ⟨w.heap.size, 1, none⟩ = some (.int .i64 n) ∧ W.cell? ⟨w.heap.size, 2, none⟩ = some (.string nm) ∧ W.cell? ⟨w.heap.size, 3, none⟩ = some (.slice ao ps.length cap)) (go_keep) (first | (go_at_call 26; refine (copiesR (R1.below (Below.refl _ _).drew) HLEN.out HF.out).mono ?_; rintro e w3 ⟨ao3, cap3, rfl, R3, hb3⟩; obtain ⟨k0, k1, k2, k3⟩ := HCE.out w3 (hb1.drew.trans (hb3.mono hb1.size))) | (go_at_call 25; refine (makeR op n nm (T1.below ((Below.refl _ _).drew.trans hb3)) R3 HLEN.out E L HE.out HL.out).mono ?_; rintro e w4 ⟨ao4, cap4, rfl, R4, hb4⟩; obtain ⟨l0, l1, l2, l3⟩ := HCE.out w4 ((hb1.drew.trans (hb3.mono hb1.size)).trans (hb4.mono (hb1.drew.trans (hb3.mono hb1.size)).size))))
    have b4 : Below w0.heap.size w0 w4 := (hb1.drew.trans (hb3.mono hb1.size)).trans (hb4.mono (hb1.drew.trans (hb3.mono hb1.size)).size)
    have R5 := R0.below b4
    clear R1 R3 R0 T0 T1 hb1 hb3 hb4 k0 k1 k2 k3 d0 d1 d2 d3
    go_wp2_with fail
    refine (refMakeR op n nm R5 HLEN.out HF.out HNM.out E L HE.out HL.out).mono ?_
    rintro e w6 ⟨ao6, cap6, rfl, R6, hb6⟩
    have R46 := R4.below hb6 hb6.size
    go_wp2_with fail
    refine (sameR R46 R6 true (by simp)).mono ?_
    rintro e w7 ⟨rfl, hb7⟩
    go_wp2_with fail
    go_ret
    have z4 := b4.size
    have z6 := hb6.size
    have hz := HSZ0.out
    exact ⟨rfl, ((hb0.trans (b4.mono (by omega))).trans (hb6.mono (by omega))).trans (hb7.mono (by omega))⟩
end Go.Proofs.YtbapjhlichjhoaaDoor
