/-
  Expr, walked.
-/
import Derived.Test.YtjidockolacghaaDoorTbE2
set_option linter.unusedSimpArgs false
set_option linter.unusedVariables false
namespace Go.Proofs.YtjidockolacghaaDoor
open Go.RowKit Go.Lib Go.Sort Go.Maps

/-- An expression that is answered: all of its memory is young, no two rows of kids are one. -/
structure ExO (w : World) (v : Value) (l : List Nd) (w' : World) : Prop where
  ex : ∃ q : List (Nd × Value), q.map (·.1) = l ∧ OwnP w' w.heap.size v q ∧ KdAp q
  below : Below w.heap.size w w'
theorem ExO.own {w w' : World} {v : Value} {l : List Nd} (h : ExO w v l w') : OwnN w' w.heap.size v l := let ⟨q, h1, h2, _⟩ := h.ex; ⟨q, h1, h2⟩
theorem ExO.of {w w' : World} {v : Value} {l : List Nd} (h : WEx w w.heap.size w.heap.size (.slice none 0 0) [] (l.map (mvN 0 ((([] : List (Nd × Value)).length : Nat) : Int))) v w') : ExO w v l w' := by
  obtain ⟨p', g0, g1, g2, g3, g4, g5, g6⟩ := h
  refine ⟨⟨p', ?_, by simpa using g0, g6⟩, g5⟩
  rw [g1]
  exact map_mvN_zero 0 l
set_option maxRecDepth 20000 in
set_option maxHeartbeats 4000000 in
theorem tExpr_ok (w : World) (p : Nat) (ev mv : Value) (L : List Nd) (i : Nat) (h : TbM w p ev mv L) (hi : i < L.length) (hs : (exA L i).length ≤ 64) :
    Calls Tryd.prog 30 #[.pointer (some ⟨p, 0, none⟩), .int .i64 i] w fun e w' => ∃ ao cap, e = .returned (.tuple #[.slice ao (exA L i).length cap, .int .i64 0]) ∧ ExO w (.slice ao (exA L i).length cap) (exA L i) w' := by
  have ch : Sld (Calls Tryd.prog 62 #[.pointer (some ⟨p, 0, none⟩), .int .i64 i] w fun e w' => e = .returned (.bool true) ∧ w' = w) := ⟨by
    have := thas_any w p ev mv L i h
    rw [hasT_iff.2 ⟨i, rfl, hi⟩] at this
    exact this⟩
  have cw : Sld (Calls Tryd.prog 63 #[.pointer (some ⟨p, 0, none⟩), .slice none 0 0, .int .i64 i] w fun e w' => ∃ ao cap, e = .returned (.slice ao (exA L i).length cap) ∧ ExO w (.slice ao (exA L i).length cap) (exA L i) w') := ⟨(twrite_any p ev mv L h.inv i hi w w.heap.size (.slice none 0 0) [] h ⟨World.ownsRow_nil _ _ _ _, by simp⟩ (Nat.le_refl _) (by simp; omega)).mono fun e w' ⟨v', h1, h2⟩ => by
    have h3 := ExO.of h2
    obtain ⟨q, hq1, hq2, _⟩ := h3.ex
    obtain ⟨ao, cap, hv⟩ := rw_form hq2.row
    have : q.length = (exA L i).length := by rw [← hq1]; simp
    rw [this] at hv
    subst hv
    exact ⟨ao, cap, h1, h3⟩⟩
  obtain ⟨g, cap, hev, hg, hgl, hcc, hcm⟩ := h.row hi
  have t0 := h.c0
  have hM2 := h
  rw [hev] at hM2 t0
  have e6 := (hM2.at_ hi).c6
  have hsz := szA_ex h.inv i hi
  have hiI : (i : Int) < (L.length : Int) := by omega
  have hzI : ((szL L).getD i 0 : Int) ≤ 64 := by omega
  unfold maxLen at hcm
  generalize (szL L).getD i 0 = Z at *
  generalize exA L i = X at *
  clear h hM2 hev hsz
  go_enter Tryd.func30, Tryd.ntmps30
  go_wp2_with fail
  refine ch.out.mono ?_
  rintro e w4 ⟨rfl, hw4⟩
  subst hw4
  go_wp2_with fail
  refine cw.out.mono ?_
  rintro e w5 ⟨ao, cap5, rfl, hX⟩
  have HX : Sld (ExO w4 (.slice ao X.length cap5) X w5) := ⟨hX⟩
  clear hX
  go_wp2_with fail
  go_ret2
  exact ⟨ao, cap5, rfl, HX.out⟩
set_option maxRecDepth 20000 in
set_option maxHeartbeats 4000000 in
theorem tExpr_large (w : World) (p : Nat) (ev mv : Value) (L : List Nd) (i : Nat) (h : TbM w p ev mv L) (hi : i < L.length) (hs : 64 < (szL L).getD i 0) :
    Calls Tryd.prog 30 #[.pointer (some ⟨p, 0, none⟩), .int .i64 i] w fun e w' => e = .returned (.tuple #[.slice none 0 0, .int .i64 10]) ∧ w' = w := by
  have ch : Sld (Calls Tryd.prog 62 #[.pointer (some ⟨p, 0, none⟩), .int .i64 i] w fun e w' => e = .returned (.bool true) ∧ w' = w) := ⟨by
    have := thas_any w p ev mv L i h
    rw [hasT_iff.2 ⟨i, rfl, hi⟩] at this
    exact this⟩
  obtain ⟨g, cap, hev, hg, hgl, hcc, hcm⟩ := h.row hi
  have t0 := h.c0
  have hM2 := h
  rw [hev] at hM2 t0
  have e6 := (hM2.at_ hi).c6
  have hiI : (i : Int) < (L.length : Int) := by omega
  have hzI : (64 : Int) < ((szL L).getD i 0 : Nat) := by omega
  unfold maxLen at hcm
  generalize (szL L).getD i 0 = Z at *
  clear h hM2 hev
  go_enter Tryd.func30, Tryd.ntmps30
  go_wp2_with fail
  refine ch.out.mono ?_
  rintro e w4 ⟨rfl, hw4⟩
  subst hw4
  go_wp2_with fail
  go_ret2
  exact ⟨rfl, rfl⟩
set_option maxRecDepth 20000 in
set_option maxHeartbeats 4000000 in
theorem tExpr_bad (w : World) (p : Nat) (ev mv : Value) (L : List Nd) (a : Int) (h : TbM w p ev mv L) (hi : hasT L a = false) :
    Calls Tryd.prog 30 #[.pointer (some ⟨p, 0, none⟩), .int .i64 a] w fun e w' => e = .returned (.tuple #[.slice none 0 0, .int .i64 2]) ∧ w' = w := by
  have ch : Sld (Calls Tryd.prog 62 #[.pointer (some ⟨p, 0, none⟩), .int .i64 a] w fun e w' => e = .returned (.bool false) ∧ w' = w) := ⟨by
    have := thas_any w p ev mv L a h
    rw [hi] at this
    exact this⟩
  clear h
  go_enter Tryd.func30, Tryd.ntmps30
  go_wp2_with fail
  refine ch.out.mono ?_
  rintro e w4 ⟨rfl, hw4⟩
  subst hw4
  go_wp2_with fail
  go_ret2
  exact ⟨rfl, rfl⟩
end Go.Proofs.YtjidockolacghaaDoor
