/-
  What Box answers.
-/
import Derived.Test.YtiobcipmieefaaaDoorBxTrmW
import Derived.Test.YtiobcipmieefaaaDoorBxTm
set_option linter.unusedSimpArgs false
set_option linter.unusedVariables false
namespace Go.Proofs.YtiobcipmieefaaaDoor
open Go.RowKit Go.Lib Go.Sort


theorem five_iface {t : Tm} (h : Five t) : ∃ u x, tv t = .iface u x := by
  cases t with
  | nil => exact h.elim
  | other u x => exact h.elim
  | _ => exact ⟨_, _, rfl⟩

set_option maxRecDepth 20000 in
set_option maxHeartbeats 1000000 in
theorem box_none {w : World} {ao : Option Addr} {cap : Nat} {l : List Nd} (T : SpanCells w) (hR : Rd w ao cap l) (h : begL l = none) :
    Calls Tryd.prog 9 #[.slice ao l.length cap] w fun e w' => e = .returned (.tuple #[.nilIface, .int .i64 1]) ∧ Below w.heap.size w w' := by
  have HS : Hid (begL l = none) := h
  clear h
  go_enter Tryd.func9, Tryd.ntmps9
  go_wp2_with fail
  refine (check_none _ l _ _ (Nat.le_refl _) T hR HS.out).mono ?_
  rintro e w2 ⟨rfl, hb2⟩
  go_wp2_with fail
  go_ret2
  exact ⟨rfl, hb2⟩

set_option maxRecDepth 20000 in
set_option maxHeartbeats 2000000 in
theorem box_some {w : World} {ao : Option Addr} {cap : Nat} {l : List Nd} {fr : List Nat} (T : SpanCells w) (hR : Rd w ao cap l) (h : begL l = some fr) :
    Calls Tryd.prog 9 #[.slice ao l.length cap] w fun e w' => e = .returned (.tuple #[tv (tmA l (l.length - 1)), .int .i64 0]) ∧ Below w.heap.size w w' := by
  have h64 := (begL_some h).2.1
  have hl0 := (begL_some h).1
  have HS : Hid (begL l = some fr) := h
  clear h
  have hmk := run_make_row' (P := Tryd.prog) 38 25 .nilIface 16 Tryd.underlying38 Tryd.infoTerm rfl .i64 .i64 l.length (by omega) (by omega)
  go_enter Tryd.func9, Tryd.ntmps9
  go_wp2_with fail
  refine (check_some _ l fr _ _ (Nat.le_refl _) T hR HS.out).mono ?_
  rintro e w2 ⟨rfl, hb2⟩
  have HB2 : Hid (Below w.heap.size w w2) := hb2
  have HR2 : Hid (Rd w2 ao cap l) := hR.below hb2 hb2.size
  clear hR T hb2
  go_wp2_with fail
  go_loopw [15] (fun i wr => ∃ k : Nat, k ≤ l.length ∧ i = .int .i64 k ∧ wr.rowIs w2.heap.size 25 l.length (fun j => if j < k then tv (tmA l j) else .nilIface) ∧ Below w2.heap.size w2 wr) (fun i _ => l.length - (RowKit.intOf i).toNat)
  case atStart =>
    refine ⟨0, by omega, rfl, ?_, (Below.refl _ _).alloc (Nat.le_refl _) _⟩
    exact (World.rowIs_made w2 .nilIface l.length 25).congr (fun j hj => by rw [if_neg (by omega)])
  case round =>
    obtain ⟨k, hk, rfl, hrow, hB⟩ := hrel
    clear hmk
    have hGlt := hrow.lt
    have HROW : Hid (wr.rowIs w2.heap.size 25 l.length (fun j => if j < k then tv (tmA l j) else .nilIface)) := hrow
    have HB : Hid (Below w2.heap.size w2 wr) := hB
    by_cases hlt : k < l.length
    · have hRr := HR2.out.below hB hB.size
      obtain ⟨ao', cap', h1, hl, hm, hc⟩ := hRr
      cases h1
      unfold maxLen at hm
      obtain ⟨b, o, rfl, hb, hc⟩ : ∃ b o, ao = some ⟨b, o, none⟩ ∧ b < wr.heap.size ∧ ∀ i, i < l.length → ∃ kv, NodeAt wr wr.heap.size b (o + i * 4) (l.getD i nd0) kv := by
        rcases hc with h | h
        · subst h; simp at hlt
        · exact h
      obtain ⟨kv, hn⟩ := hc k hlt
      clear hc hrow hB
      have HN : Hid (NodeAt wr wr.heap.size b (o + k * 4) (l.getD k nd0) kv) := hn
      obtain ⟨c0, c1, c2, c3, hI⟩ := hn
      obtain ⟨ka, kc, rfl, _⟩ := id hI
      clear hI
      have cT : Hid (∀ V, Below wr.heap.size wr V → Calls Tryd.prog 38 #[.agg #[.int .i64 (l.getD k nd0).op, .int .i64 (l.getD k nd0).n, .string (l.getD k nd0).name, .slice ka (l.getD k nd0).kids.length kc], .slice (some ⟨w2.heap.size, 0, none⟩) l.length l.length] V fun e w' => e = .returned (tv (tmA l k)) ∧ Below V.heap.size V w') := fun V hV => by
        refine term_any l fr HS.out w2.heap.size k _ hlt V ((HN.out.kids).below hV hV.size) (fun j hj => ?_) (Nat.lt_of_lt_of_le hGlt hV.size)
        have := HROW.out.cell (i := j) (by omega)
        rw [if_pos hj] at this
        exact (hV.cell (p := ⟨w2.heap.size, j, none⟩) hGlt).trans this
      have hbne : b ≠ wr.heap.size := by omega
      have hGne : w2.heap.size ≠ wr.heap.size := by omega
      generalize l.getD k nd0 = x at *
      obtain ⟨op, n, nm, kids⟩ := x
      simp only at c0 c1 c2 c3 cT
      obtain ⟨u, xv, hvx⟩ := five_iface (five_tm HS.out hlt)
      rw [hvx] at cT
      have HVX : Hid (tv (tmA l k) = .iface u xv) := hvx
      clear hvx
      have hlt' : (k : Int) < (l.length : Int) := by omega
      go_wp2_with fail
      refine (cT.out _ ((Below.refl _ _).alloc (Nat.le_refl _) _)).mono ?_
      rintro e w3 ⟨rfl, hb3⟩
      have hbw : Below wr.heap.size wr w3 := ((Below.refl _ _).alloc (Nat.le_refl _) _).trans (hb3.mono (by simp))
      have hrow3 : w3.rowIs w2.heap.size 25 l.length (fun j => if j < k then tv (tmA l j) else .nilIface) := by
        obtain ⟨c, h1, h2⟩ := HROW.out
        exact ⟨c, (hbw.block _ hGlt).trans h1, h2⟩
      have q0 := hrow3.cell hlt
      have q1 := hrow3.frozen k
      have HR3 : Hid (w3.rowIs w2.heap.size 25 l.length (fun j => if j < k then tv (tmA l j) else .nilIface)) := hrow3
      have HBW : Hid (Below wr.heap.size wr w3) := hbw
      rw [if_neg (by omega)] at q0
      clear hrow3 hbw hb3
      go_wp2_with fail
      refine ⟨⟨k + 1, by omega, by go_num, ?_, (HB.out.trans (HBW.out.mono HB.out.size)).setCell (Nat.le_refl _) _⟩, by simp [RowKit.intOf]; omega⟩
      rw [← HVX.out]
      refine (HR3.out.set k (tv (tmA l k))).congr (fun j hj => ?_)
      by_cases hjk : j = k
      · subst hjk; rw [if_pos rfl, if_pos (by omega)]
      · rw [if_neg hjk]
        by_cases hj2 : j < k
        · rw [if_pos hj2, if_pos (by omega)]
        · rw [if_neg hj2, if_neg (by omega)]
    · have hke : k = l.length := by omega
      subst hke
      have e0 := hrow.cell (i := l.length - 1) (by omega)
      rw [if_pos (by omega)] at e0
      clear hrow
      have h1 : ((l.length : Int) - 1) = ((l.length - 1 : Nat) : Int) := by omega
      go_wp2_with fail
      go_ret2
      exact ⟨rfl, HB2.out.trans (hB.mono HB2.out.size)⟩
end Go.Proofs.YtiobcipmieefaaaDoor
