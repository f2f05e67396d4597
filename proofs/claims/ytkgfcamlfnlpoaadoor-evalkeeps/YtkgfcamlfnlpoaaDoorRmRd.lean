/-
  A room, read; what Expr hands out.
-/
import Derived.Test.YtkgfcamlfnlpoaaDoorRmW
import Derived.Test.YtkgfcamlfnlpoaaDoorSwPure
import Derived.BigQuiet
set_option linter.unusedSimpArgs false
set_option linter.unusedVariables false
namespace Go.Proofs.YtkgfcamlfnlpoaaDoor
open Go.RowKit Go.Lib

structure RoomRd (w : World) (R : Nat) (l : List Nd) (wa : Option Addr) (wc fb fc : Nat) (ka : Option Addr) (kc : Nat) : Prop where
  lt : R < w.heap.size
  c0 : w.cell? ⟨R, 0, none⟩ = some (.slice wa l.length wc)
  c1 : w.cell? ⟨R, 1, none⟩ = some (.slice (some ⟨fb, 0, none⟩) (l.length + 7) fc)
  c2 : w.cell? ⟨R, 2, none⟩ = some (.slice ka l.length kc)
  was : Rd w wa wc l
  full : Rd w (some ⟨fb, 0, none⟩) fc (l ++ exL 7)
  kcap : l.length ≤ kc ∧ kc ≤ maxLen
  kids : ∀ i, i < l.length → ∃ kb gi ci, ka = some ⟨kb, 0, none⟩ ∧ kb < w.heap.size ∧ w.cell? ⟨kb, i, none⟩ = some (.slice (some ⟨gi, 0, none⟩) ((l.getD i nd0).kids.length + 7) ci) ∧ gi < w.heap.size ∧ (l.getD i nd0).kids.length + 7 ≤ ci ∧ ci ≤ maxLen ∧ ∀ j, j < 7 → w.cell? ⟨gi, (l.getD i nd0).kids.length + j, none⟩ = some (.int .i64 (7000 + (j : Int)))

theorem RoomRd.below {w w' : World} {R : Nat} {l : List Nd} {wa : Option Addr} {wc fb fc : Nat} {ka : Option Addr} {kc : Nat} (h : RoomRd w R l wa wc fb fc ka kc) (hb : Below w.heap.size w w') : RoomRd w' R l wa wc fb fc ka kc :=
  ⟨Nat.lt_of_lt_of_le h.lt hb.size, (hb.cell (p := ⟨R, 0, none⟩) h.lt).trans h.c0, (hb.cell (p := ⟨R, 1, none⟩) h.lt).trans h.c1, (hb.cell (p := ⟨R, 2, none⟩) h.lt).trans h.c2, h.was.below hb hb.size, h.full.below hb hb.size, h.kcap, fun i hi => by
    obtain ⟨kb, gi, ci, h1, h2, h3, h4, h5, h6, h7⟩ := h.kids i hi
    exact ⟨kb, gi, ci, h1, Nat.lt_of_lt_of_le h2 hb.size, (hb.cell (p := ⟨kb, i, none⟩) h2).trans h3, Nat.lt_of_lt_of_le h4 hb.size, h5, h6, fun j hj => (hb.cell (p := ⟨gi, _, none⟩) h4).trans (h7 j hj)⟩⟩

theorem RoomOk.rd {w w' : World} {R : Nat} {l : List Nd} {vw vf vk : Value} {p : List (Nd × Value)} {ks : List Value} (h : RoomOk w R l vw vf vk p ks w') : ∃ wa wc fb fc ka kc, RoomRd w' R l wa wc fb fc ka kc := by
  obtain ⟨wa, wc, rfl, hW⟩ := Rd_of_own h.was
  have hfo : OwnN w' (R + 1) vf (l ++ exL 7) := ⟨p, h.nodes, h.full⟩
  obtain ⟨fa, fc, rfl, hFu⟩ := Rd_of_own hfo
  obtain ⟨fb, rfl⟩ : ∃ fb, fa = some ⟨fb, 0, none⟩ := by
    rcases h.full.row.2 with ⟨e, _⟩ | ⟨g, c, cur, e, _⟩
    · simp [exL_len] at e
    · simp only [Value.slice.injEq] at e; exact ⟨g, e.1⟩
  obtain ⟨ka, kc, hvk⟩ := rm_form h.klist
  have hkc : l.length ≤ kc ∧ kc ≤ maxLen := by
    rw [hvk] at h
    rcases h.klist.2 with ⟨e, h0⟩ | ⟨g, c, cur, e, _, _, hn, hm, _⟩
    · simp only [Value.slice.injEq] at e; exact ⟨by omega, by rw [e.2.2]; exact Nat.zero_le _⟩
    · simp only [Value.slice.injEq] at e; exact ⟨by omega, by rw [e.2.2]; exact hm⟩
  subst hvk
  have hlen : (l ++ exL 7).length = l.length + 7 := by rw [List.length_append, exL_len]
  refine ⟨wa, wc, fb, fc, ka, kc, lt_of_block h.blk, by simp [World.cell?, h.blk], ?_, by simp [World.cell?, h.blk], hW, hFu, hkc, fun i hi => ?_⟩
  · have : w'.cell? ⟨R, 1, none⟩ = some (.slice (some ⟨fb, 0, none⟩) (l ++ exL 7).length fc) := by simp [World.cell?, h.blk]
    rw [hlen] at this; exact this
  · obtain ⟨kb, kcap, e1, h1, _, _, h2⟩ := row_cell h.klist hi (d := .slice none 0 0)
    cases e1
    have hI := h.kids i hi
    unfold OwnI at hI
    have hL : ((l.getD i nd0).kids ++ spL 7).length = (l.getD i nd0).kids.length + 7 := by rw [List.length_append, spL_len]
    rw [hL] at hI
    obtain ⟨gi, ci, e2, h3, h4, h5, _⟩ := row_cell hI (i := 0) (by omega) (d := .slice none 0 0)
    rw [e2] at h2
    refine ⟨kb, gi, ci, rfl, h1, h2, h3, h4, h5, fun j hj => ?_⟩
    obtain ⟨g', c', e3, _, _, _, h6⟩ := row_cell hI (i := (l.getD i nd0).kids.length + j) (by omega) (d := .slice none 0 0)
    rw [e2] at e3
    cases e3
    rw [h6]
    generalize (l.getD i nd0).kids = kk
    have e4 : (((kk ++ spL 7).map (Value.int .i64)).getD (kk.length + j) (.slice none 0 0)) = .int .i64 (7000 + (j : Int)) := by
      rw [List.map_append]
      simp only [List.getD_eq_getElem?_getD]
      rw [List.getElem?_append_right (by simp)]
      simp [spL, hj]
    rw [e4]

theorem Rd.prefix {w : World} {ao : Option Addr} {cap : Nat} {l m : List Nd} (h : Rd w ao cap (l ++ m)) : Rd w ao cap l := by
  obtain ⟨ao', cap', e, h1, h2, h3⟩ := h
  cases e
  refine ⟨ao, cap, rfl, by simp at h1; omega, h2, ?_⟩
  rcases h3 with h3 | ⟨b, o, rfl, hlt, hc⟩
  · left; exact (List.append_eq_nil_iff.1 h3).1
  · right
    refine ⟨b, o, rfl, hlt, fun i hi => ?_⟩
    obtain ⟨kv, hn⟩ := hc i (by rw [List.length_append]; omega)
    have e : (l ++ m).getD i nd0 = l.getD i nd0 := by simp only [List.getD_eq_getElem?_getD]; rw [List.getElem?_append_left hi]
    rw [e] at hn
    exact ⟨kv, hn⟩

set_option maxRecDepth 20000 in
set_option maxHeartbeats 1000000 in
theorem roomExpr {w : World} {R : Nat} {l : List Nd} {wa : Option Addr} {wc fb fc : Nat} {ka : Option Addr} {kc : Nat} (h : RoomRd w R l wa wc fb fc ka kc) :
    Calls Tryd.prog 32 #[.pointer (some ⟨R, 0, none⟩)] w fun e w' => e = .returned (.slice (some ⟨fb, 0, none⟩) l.length fc) ∧ Below w.heap.size w w' := by
  have c0 := h.c0
  have c1 := h.c1
  obtain ⟨hf1, hf2⟩ := h.full.bound
  rw [List.length_append, exL_len] at hf1
  unfold maxLen at hf2
  have hcut : (l.length : Int) ≤ (fc : Int) := by omega
  clear h
  go_enter Tryd.func32, Tryd.ntmps32
  go_wp2_with fail
  go_quiet (fail)
  go_wp2_with fail
  go_ret
  exact ⟨rfl, below_drewN' (Below.refl _ _) _⟩
end Go.Proofs.YtkgfcamlfnlpoaaDoor
