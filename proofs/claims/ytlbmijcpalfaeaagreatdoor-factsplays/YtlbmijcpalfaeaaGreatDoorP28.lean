/-
  GmF.
-/
import Derived.Test.YtlbmijcpalfaeaaGreatDoorP27
set_option linter.unusedSimpArgs false
set_option linter.unusedVariables false
namespace Go.Proofs.YtlbmijcpalfaeaaGreatDoor.Gt
open Go.RowKit Go.Lib

theorem getD_set_here {l : List Se} {i : Nat} (hi : i < l.length) (s : Se) : (l.set i s).getD i se0 = s := by simp [hi]
theorem GrM.fresh {w : World} {p sg cap i : Nat} {G : Gs} (h : GrM w p G) (hsv : G.sv = .slice (some ⟨sg, 0, none⟩) G.ss.length cap) (hi : i < G.ss.length) (c : Int) :
    GrT w p G { G with ss := G.ss.set i ⟨true, true, c, 0, [], .slice none 0 0⟩ } (((((w.setCell ⟨sg, i * 5, none⟩ (.bool true)).setCell ⟨sg, i * 5 + 1, none⟩ (.bool true)).setCell ⟨sg, i * 5 + 2, none⟩ (.int .i64 c)).setCell ⟨sg, i * 5 + 3, none⟩ (.int .i64 0)).setCell ⟨sg, i * 5 + 4, none⟩ (.slice none 0 0)) := by
  obtain ⟨s, hs⟩ : ∃ s, G.ss.getD i se0 = s := ⟨_, rfl⟩
  have a1 := h.seat (k := 0) hsv hi (by omega) { s with kn := true } (.bool true) (by rw [hs]; rfl) (by rw [hs])
  have a2 := a1.gr.seat (i := i) (k := 1) (sg := sg) (cap := cap) (by simp [hsv]) (by simpa using hi) (by omega) { s with kn := true, lv := true } (.bool true) (by simp only; rw [getD_set_here hi]; rfl) (by simp only; rw [getD_set_here hi])
  have a3 := a2.gr.seat (i := i) (k := 2) (sg := sg) (cap := cap) (by simp [hsv]) (by simpa using hi) (by omega) { s with kn := true, lv := true, up := c } (.int .i64 c) (by simp only [List.set_set]; rw [getD_set_here hi]; rfl) (by simp only [List.set_set]; rw [getD_set_here hi])
  have a4 := a3.gr.seat (i := i) (k := 3) (sg := sg) (cap := cap) (by simp [hsv]) (by simpa using hi) (by omega) { s with kn := true, lv := true, up := c, wt := 0 } (.int .i64 0) (by simp only [List.set_set]; rw [getD_set_here hi]; rfl) (by simp only [List.set_set]; rw [getD_set_here hi])
  have a5 := a4.gr.drop (i := i) (sg := sg) (cap := cap) (by simp [hsv]) (by simpa using hi)
  have a6 := (((a1.trans a2).trans a3).trans a4).trans a5
  simp only [List.set_set] at a6
  rw [getD_set_here hi] at a6
  exact a6
theorem GrM.bump {w : World} {p sg cap i : Nat} {G : Gs} (h : GrM w p G) (hsv : G.sv = .slice (some ⟨sg, 0, none⟩) G.ss.length cap) (hi : i < G.ss.length) :
    GrT w p G { G with ss := G.ss.set i { (G.ss.getD i se0) with wt := (G.ss.getD i se0).wt + 1 } } (w.setCell ⟨sg, i * 5 + 3, none⟩ (.int .i64 ((G.ss.getD i se0).wt + 1))) :=
  h.seat hsv hi (by omega) _ _ rfl rfl
theorem pl_set (l : List Se) (i : Nat) (s : Se) : (l.set i s).map Se.pl = (l.map Se.pl).set i s.pl := List.map_set
theorem bump_pl (l : List Se) (i : Nat) : (l.set i { (l.getD i se0) with wt := (l.getD i se0).wt + 1 }).map Se.pl = bumpP (l.map Se.pl) i := by
  rw [pl_set]
  unfold bumpP
  rw [pl_getD]
  rfl
theorem use_pl (l : List Se) (id i : Nat) (v : Value) : (l.set i { (l.getD i se0) with wt := (l.getD i se0).wt + 1, us := (l.getD i se0).us ++ [(id : Int)], uv := v }).map Se.pl = useP (l.map Se.pl) id i := by
  rw [pl_set]
  unfold useP
  rw [pl_getD]
  rfl
/-- Between two kids: the first j have been taken. -/
structure KidI (w : World) (p : Nat) (G : Gs) (Q : Gs) (id N : Nat) (l : List Sp) (ks : List Int) (j : Nat) (H : Gs) (wr : World) : Prop where
  gr : GrT w p G H wr
  pl : H.ss.map Se.pl = usesP l id (ks.take j)
  len : H.ss.length = N
  sv : H.sv = Q.sv
  L : H.L = Q.L
  rs : H.rs = Q.rs
  cl : H.cl = Q.cl
  nd : H.nd = Q.nd
  wt : ∀ s ∈ H.ss, 0 ≤ s.wt ∧ s.wt ≤ 4611686018427387002 + j
  us : ∀ s ∈ H.ss, s.us.length ≤ 1000000000 + j
theorem GrM.seAt {w : World} {p sg n cap i : Nat} {G : Gs} (h : GrM w p G) (hsv : G.sv = .slice (some ⟨sg, 0, none⟩) n cap) (hi : i < G.ss.length) : SeAt w sg (i * 5) (G.ss.getD i se0) := by
  obtain ⟨ao, c2, e, _, _, h3⟩ := h.form
  obtain ⟨g, rfl, _, _, h4⟩ := h3 (by omega)
  rw [hsv] at e
  injection e with e _ _
  injection e with e
  injection e with e _ _
  subst e
  exact h4 i hi
theorem GrM.c2 {w : World} {p : Nat} {G : Gs} (h : GrM w p G) : w.cell? ⟨p, 2, none⟩ = some G.sv := h.cells.2.2.1
theorem ptR_form {L : List Nd} {x : Nd} (h : (ptR L x).2.1 = 0) : formB x = true := by
  unfold ptR at h
  rcases shE_cases L x with ⟨e, _⟩ | ⟨e, _⟩ | ⟨_, e, _⟩
  · rw [e] at h; simp at h
  · rw [e] at h; simp at h
  · exact e
theorem GrM.blkLt {w : World} {p : Nat} {G : Gs} (h : GrM w p G) : ∀ b, GrS p G b → b < w.heap.size := by
  rintro b (hb | hb | ⟨r, hr, hb⟩)
  · obtain ⟨h1, h2, _⟩ := @TbM.facts G.gr _ _ _ _ _ h.tb
    rcases hb with rfl | hb | hb
    · exact h.lt
    · exact (rw_block h1 hb).2.1
    · rcases h2 with ⟨e, _⟩ | ⟨B, e, _, h4⟩
      · rw [e] at hb; cases hb
      · rw [e] at hb; cases hb; exact h4.lt
  · exact (own_lt h.row hb).2
  · exact (own_lt (h.rows.own r hr) hb).2
theorem usesP_step (l : List Sp) (id : Nat) (ks : List Int) {j : Nat} (hj : j < ks.length) : usesP l id (ks.take (j + 1)) = useP (usesP l id (ks.take j)) id (ks.getD j 0).toNat := by
  unfold usesP
  rw [List.take_add_one, List.foldl_append, List.getElem?_eq_getElem hj, List.getD_eq_getElem?_getD, List.getElem?_eq_getElem hj]
  rfl
theorem KidI.step {w wr w' : World} {p id N j k : Nat} {G Q H H3 : Gs} {l : List Sp} {ks : List Int} {S : Se} {v : Value} (h : KidI w p G Q id N l ks j H wr) (hlt : j < ks.length) (hk : ks.getD j 0 = (k : Int)) (hkN : k < N) (hS : H.ss.getD k se0 = S)
    (h3 : H3.ss = H.ss.set k { S with wt := S.wt + 1, us := S.us ++ [(id : Int)], uv := v } ∧ H3.sv = H.sv ∧ H3.L = H.L ∧ H3.rs = H.rs ∧ H3.cl = H.cl ∧ H3.nd = H.nd) (hg : GrT w p G H3 w') : KidI w p G Q id N l ks (j + 1) H3 w' := by
  obtain ⟨h1, h2, h4, h5, h6, h7⟩ := h3
  have hm : S ∈ H.ss := by rw [← hS, List.getD_eq_getElem?_getD, List.getElem?_eq_getElem (by rw [h.len]; exact hkN)]; exact List.getElem_mem _
  refine ⟨hg, ?_, by rw [h1, List.length_set]; exact h.len, h2.trans h.sv, h4.trans h.L, h5.trans h.rs, h6.trans h.cl, h7.trans h.nd, fun s hs => ?_, fun s hs => ?_⟩
  · rw [usesP_step l id ks hlt, ← h.pl, hk, Int.toNat_natCast, h1, ← hS]
    exact use_pl H.ss id k v
  · rw [h1] at hs
    rcases List.mem_or_eq_of_mem_set hs with hs | rfl
    · have := h.wt s hs; omega
    · have := h.wt S hm; simp only; omega
  · rw [h1] at hs
    rcases List.mem_or_eq_of_mem_set hs with hs | rfl
    · have := h.us s hs; omega
    · have := h.us S hm; simp only [List.length_append, List.length_cons, List.length_nil]; omega
end Go.Proofs.YtlbmijcpalfaeaaGreatDoor.Gt
