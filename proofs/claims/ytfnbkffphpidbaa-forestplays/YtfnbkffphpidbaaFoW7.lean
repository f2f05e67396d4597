/-
  gather, walked.
-/
import Derived.Test.YtfnbkffphpidbaaFoW6
set_option linter.unusedSimpArgs false
set_option linter.unusedVariables false
namespace Go.Proofs.Ytfnbkffphpidbaa
open Go.RowKit Go.Lib Go.Sort

theorem FoI.szle {J : List (Nat × Nat)} {V : List Value} {m : List Mv} (h : FoI J V m) {x : Nat} (hx : x < m.length) : (mA m (mA m x).rt).sz ≤ m.length := by
  obtain ⟨l, h1, h2, h3, h4⟩ := h.ring x hx
  have := nodup_le _ _ h2 (fun y hy => ((h3 y).1 hy).1)
  rw [h4]; simpa using this
/-- A member's block of its own. -/
theorem MbAt.below {w w' : World} {g o : Nat} {x : Mv} (h : MbAt w g o x) (hb : Below w.heap.size w w') (hg : g < w.heap.size) : MbAt w' g o x :=
  ⟨(hb.cell (p := ⟨g, o, none⟩) hg).trans h.c0, (hb.cell (p := ⟨g, o + 1, none⟩) hg).trans h.c1, (hb.cell (p := ⟨g, o + 2, none⟩) hg).trans h.c2, (hb.cell (p := ⟨g, o + 3, none⟩) hg).trans h.c3, (hb.cell (p := ⟨g, o + 4, none⟩) hg).trans h.c4, (hb.cell (p := ⟨g, o + 5, none⟩) hg).trans h.c5, (hb.cell (p := ⟨g, o + 6, none⟩) hg).trans h.c6, (hb.cell (p := ⟨g, o + 7, none⟩) hg).trans h.c7⟩

/-- The members of a list have this root now. -/
def setRt (m : List Mv) (R : Nat) : List Nat → List Mv
  | [] => m
  | x :: l => setRt (m.set x { mA m x with rt := R }) R l
theorem setRt_len (R : Nat) : ∀ (l : List Nat) (m : List Mv), (setRt m R l).length = m.length
  | [], m => rfl
  | x :: l, m => by unfold setRt; rw [setRt_len R l]; simp
theorem setRt_at (R : Nat) : ∀ (l : List Nat) (m : List Mv), (∀ y ∈ l, y < m.length) → ∀ x, mA (setRt m R l) x = if x ∈ l then { mA m x with rt := R } else mA m x
  | [], m, _, x => by simp [setRt]
  | y :: l, m, h, x => by
    unfold setRt
    rw [setRt_at R l _ (fun z hz => by simpa using h z (by simp [hz])), mA_set _ _ _ (h y (by simp))]
    by_cases h1 : x = y
    · subst h1; by_cases h2 : x ∈ l <;> simp [h2]
    · by_cases h2 : x ∈ l
      · simp [h1, h2]
      · simp [h1, h2]
theorem setRt_snoc (R : Nat) : ∀ (l : List Nat) (m : List Mv) (y : Nat), setRt m R (l ++ [y]) = (setRt m R l).set y { mA (setRt m R l) y with rt := R }
  | [], m, y => rfl
  | x :: l, m, y => by simp only [List.cons_append, setRt]; rw [setRt_snoc R l]

/-- gather's steps, plainly. -/
def gaL1 (m1 : List Mv) (RA RB : Nat) : List Mv := m1.set RB { mA m1 RB with sz := (mA m1 RB).sz + (mA m1 RA).sz }
def gaL2 (m1 : List Mv) (RA RB : Nat) : List Mv := (gaL1 m1 RA RB).set RB { mA (gaL1 m1 RA RB) RB with ls := min (mA m1 RB).ls (mA m1 RA).ls }
def gaL4 (s3 : List Mv) (A B : Nat) : List Mv := (s3.set A { mA s3 A with nx := (mA s3 B).nx }).set B { mA (s3.set A { mA s3 A with nx := (mA s3 B).nx }) B with nx := (mA s3 A).nx }
theorem gath_ok {m m1 : List Mv} {A B : Nat} (hU : UpOnly m m1) {la : List Nat} (hA : A < m.length) (hB : B < m.length) (hne : (mA m A).rt ≠ (mA m B).rt) (hrA : (mA m A).rt < m.length) (hrB : (mA m B).rt < m.length) (hrr : (mA m (mA m B).rt).rt = (mA m B).rt)
    (h3 : ∀ y, y ∈ A :: la ↔ y < m.length ∧ (mA m y).rt = (mA m A).rt) : GathI m m1 (gaL4 (setRt (gaL2 m1 (mA m A).rt (mA m B).rt) (mA m B).rt (A :: la)) A B) A B := by
  have hAB : A ≠ B := fun e => hne (by rw [e])
  have l1 : m1.length = m.length := hU.len
  have e1 : ∀ x, mA (gaL1 m1 (mA m A).rt (mA m B).rt) x = if x = (mA m B).rt then { mA m1 (mA m B).rt with sz := (mA m1 (mA m B).rt).sz + (mA m1 (mA m A).rt).sz } else mA m1 x := fun x => by
    unfold gaL1; rw [mA_set _ _ _ (by omega)]
  have len1 : (gaL1 m1 (mA m A).rt (mA m B).rt).length = m.length := by simp [gaL1, l1]
  have e2 : ∀ x, mA (gaL2 m1 (mA m A).rt (mA m B).rt) x = if x = (mA m B).rt then { mA m1 (mA m B).rt with sz := (mA m1 (mA m B).rt).sz + (mA m1 (mA m A).rt).sz, ls := min (mA m1 (mA m B).rt).ls (mA m1 (mA m A).rt).ls } else mA m1 x := fun x => by
    unfold gaL2; rw [mA_set _ _ _ (by omega), e1 (mA m B).rt, if_pos rfl, e1 x]
    by_cases h : x = (mA m B).rt
    · rw [if_pos h, if_pos h]
    · rw [if_neg h, if_neg h, if_neg h]
  have len2 : (gaL2 m1 (mA m A).rt (mA m B).rt).length = m.length := by simp [gaL2, len1]
  have e3 : ∀ x, mA (setRt (gaL2 m1 (mA m A).rt (mA m B).rt) (mA m B).rt (A :: la)) x = if x ∈ A :: la then { mA (gaL2 m1 (mA m A).rt (mA m B).rt) x with rt := (mA m B).rt } else mA (gaL2 m1 (mA m A).rt (mA m B).rt) x := setRt_at _ _ _ (fun y hy => by rw [len2]; exact ((h3 y).1 hy).1)
  have len3 : (setRt (gaL2 m1 (mA m A).rt (mA m B).rt) (mA m B).rt (A :: la)).length = m.length := by rw [setRt_len, len2]
  generalize setRt (gaL2 m1 (mA m A).rt (mA m B).rt) (mA m B).rt (A :: la) = s3 at *
  have e4 : ∀ x, mA (gaL4 s3 A B) x = { mA s3 x with nx := if x = A then (mA s3 B).nx else if x = B then (mA s3 A).nx else (mA s3 x).nx } := fun x => by
    unfold gaL4
    rw [mA_set _ _ _ (by simp; omega), mA_set _ _ _ (by omega), mA_set _ _ _ (by omega)]
    by_cases hx : x = B
    · subst hx; rw [if_pos rfl, if_neg (Ne.symm hAB), if_neg (Ne.symm hAB), if_pos rfl]
    · rw [if_neg hx, if_neg hx]
      by_cases hy : x = A
      · subst hy; rw [if_pos rfl, if_pos rfl]
      · rw [if_neg hy, if_neg hy]
  have f3 : ∀ x, (mA s3 x).up = (mA m1 x).up ∧ (mA s3 x).nx = (mA m1 x).nx ∧ (mA s3 x).sz = (if x = (mA m B).rt then (mA m1 (mA m B).rt).sz + (mA m1 (mA m A).rt).sz else (mA m1 x).sz) ∧ (mA s3 x).ls = (if x = (mA m B).rt then min (mA m1 (mA m B).rt).ls (mA m1 (mA m A).rt).ls else (mA m1 x).ls) := fun x => by
    rw [e3, e2]
    by_cases c1 : x ∈ A :: la
    · rw [if_pos c1]
      by_cases c2 : x = (mA m B).rt
      · subst c2; simp
      · simp [c2]
    · rw [if_neg c1]
      by_cases c2 : x = (mA m B).rt
      · subst c2; simp
      · simp [c2]
  refine ⟨?_, fun x hx => ?_, fun x => ?_, fun x => ?_, fun x => ?_, fun x => ?_⟩
  · simp [gaL4, len3]
  · rw [e4, e3, e2]
    by_cases c1 : x ∈ A :: la
    · rw [if_pos c1, if_pos ((h3 x).1 c1).2]
    · rw [if_neg c1, if_neg (fun e => c1 ((h3 x).2 ⟨hx, e⟩))]
      by_cases c2 : x = (mA m B).rt
      · rw [if_pos c2, c2]; show (mA m1 _).rt = _; rw [hU.rt]
      · rw [if_neg c2]; show (mA m1 _).rt = _; rw [hU.rt]
  · rw [e4]; exact (f3 x).1
  · rw [e4]
    show (if x = A then (mA s3 B).nx else if x = B then (mA s3 A).nx else (mA s3 x).nx) = _
    rw [(f3 B).2.1, (f3 A).2.1, (f3 x).2.1, hU.nx, hU.nx, hU.nx]
  · rw [e4]; show (mA s3 x).sz = _; rw [(f3 x).2.2.1, hU.sz, hU.sz, hU.sz]
  · rw [e4]; show (mA s3 x).ls = _; rw [(f3 x).2.2.2, hU.ls, hU.ls, hU.ls]

theorem getElem_getD0 {l : List Nat} {k : Nat} (h : k < l.length) : l[k]? = some (l.getD k 0) := by
  rw [List.getD_eq_getElem?_getD, List.getElem?_eq_getElem h]; rfl
theorem getD_mem0 {l : List Nat} {k : Nat} (h : k < l.length) : l.getD k 0 ∈ l := List.mem_of_getElem? (getElem_getD0 h)
theorem take_snoc0 {l : List Nat} {k : Nat} (h : k < l.length) : l.take (k + 1) = l.take k ++ [l.getD k 0] := by
  rw [List.take_add_one, getElem_getD0 h]; rfl
theorem FoM.nlen {w : World} {p n cap : Nat} {ao : Option Addr} {m : List Mv} (h : FoM w p (.slice ao n cap) m) : n = m.length := by
  obtain ⟨ao', cap', e⟩ := h.form
  injection e
theorem FoM.frn {w : World} {p g n cap : Nat} {m : List Mv} (h : FoM w p (.slice (some ⟨g, 0, none⟩) n cap) m) (i : Nat) : w.frozen? ⟨g, i, none⟩ = false := by
  have := h.nlen; subst this; exact h.fr i
theorem FoM.atn {w : World} {p g n cap : Nat} {m : List Mv} (h : FoM w p (.slice (some ⟨g, 0, none⟩) n cap) m) {x : Nat} (hx : x < m.length) : MbAt w g (x * 8) (mA m x) := by
  have := h.nlen; subst this; exact h.at_ hx
theorem FoM.putn {w : World} {p g n cap : Nat} {m : List Mv} (h : FoM w p (.slice (some ⟨g, 0, none⟩) n cap) m) (hg : p + 1 ≤ g) {x k : Nat} (hx : x < m.length) (hk : k < 8) (u : Value) (y : Mv) (hy : mbC y = (mbC (mA m x)).set k u) (hi : IfV y.up.w) :
    FoM (w.setCell ⟨g, x * 8 + k, none⟩ u) p (.slice (some ⟨g, 0, none⟩) n cap) (m.set x y) := by
  have := h.nlen
  subst this
  have h2 := h.put hg hx hk u y hy hi
  rw [List.length_set] at h2
  exact h2

set_option maxRecDepth 20000 in
set_option maxHeartbeats 4000000 in
theorem fgather_any (w : World) (p : Nat) (v : Value) (m1 : List Mv) (A B RA RB : Nat) (la : List Nat) (h : FoM w p v m1) (hA : A < m1.length) (hB : B < m1.length) (hRA : (mA m1 A).rt = RA) (hRB : (mA m1 B).rt = RB) (hrA : RA < m1.length) (hrB : RB < m1.length) (hne : RA ≠ RB) (hrr : (mA m1 RB).rt = RB) (hszA : (mA m1 RA).sz ≤ 1048576) (hszB : (mA m1 RB).sz ≤ 1048576)
    (r1 : RingC (fun y => (mA m1 y).nx) A la A) (r2 : (A :: la).Nodup) (r3 : ∀ y, y ∈ A :: la ↔ y < m1.length ∧ (mA m1 y).rt = RA) (r4 : (mA m1 RA).sz = la.length + 1) :
    Calls Try.prog 39 #[.pointer (some ⟨p, 0, none⟩), .int .i64 A, .int .i64 B] w fun e w' => e = .returned (.tuple #[]) ∧ FoT w p v v (gaL4 (setRt (gaL2 m1 RA RB) RB (A :: la)) A B) w' := by
  obtain ⟨g, cap, rfl, hg, hgl, hc, hm⟩ := h.row hA
  unfold maxLen at hm
  have hlt := h.lt
  have hle := h.le
  have c0 := h.c0
  obtain ⟨a0, a1, a2, a3, a4, a5, a6, a7⟩ := h.at_ hrA
  have hIf := h.ifv RA
  have HM : Hid (FoM w p (.slice (some ⟨g, 0, none⟩) m1.length cap) m1) := h
  have cR : Hid (∀ W x, Below w.heap.size w W → x < m1.length → Calls Try.prog 30 #[.pointer (some ⟨p, 0, none⟩), .int .i64 (x : Int)] W fun e w' => e = .returned (.int .i64 (mA m1 x).rt) ∧ w' = W) := fun W x hW hx => froot_any W p _ m1 x (h.below hW) hx
  have HRA : Hid ((mA m1 A).rt = RA) := hRA
  have HRB : Hid ((mA m1 B).rt = RB) := hRB
  have hAI : (A : Int) < (m1.length : Int) := by omega
  have hBI : (B : Int) < (m1.length : Int) := by omega
  have hrAI : (RA : Int) < (m1.length : Int) := by omega
  have hrBI : (RB : Int) < (m1.length : Int) := by omega
  have HMA : Hid (mA m1 RA = mA m1 RA) := rfl
  obtain ⟨X, hX⟩ : ∃ X, mA m1 RA = X := ⟨_, rfl⟩
  have HX : Hid (mA m1 RA = X) := hX
  rw [hX] at a0 a1 a2 a3 a4 a5 a6 a7 hIf hszA r4
  obtain ⟨xr, ⟨xf, xt, xw, xb⟩, xn, xs, xl⟩ := X
  simp only at a0 a1 a2 a3 a4 a5 a6 a7 hIf hszA r4
  have hone := hIf.one
  have hcl := hIf.cells
  have hst : ∀ (P : Program) (w : World) (a : Addr) (md : Mode), (store a xw md).run P w = stored P w a xw md := fun P w a md => run_store P w a xw md hone
  have HCE : Hid (∀ W, Below w.heap.size w W → W.cell? ⟨p, 0, none⟩ = some (.slice (some ⟨g, 0, none⟩) m1.length cap) ∧ W.cell? ⟨g, RA * 8, none⟩ = some (.int .i64 xr) ∧ W.cell? ⟨g, RA * 8 + 1, none⟩ = some (.int .i64 xf) ∧ W.cell? ⟨g, RA * 8 + 2, none⟩ = some (.int .i64 xt) ∧ W.cell? ⟨g, RA * 8 + 3, none⟩ = some xw ∧ W.cell? ⟨g, RA * 8 + 4, none⟩ = some (.bool xb) ∧ W.cell? ⟨g, RA * 8 + 5, none⟩ = some (.int .i64 xn) ∧ W.cell? ⟨g, RA * 8 + 6, none⟩ = some (.int .i64 xs) ∧ W.cell? ⟨g, RA * 8 + 7, none⟩ = some (.int .i64 xl)) := fun W hW => ⟨(hW.cell (p := ⟨p, 0, none⟩) hlt).trans c0, (hW.cell (p := ⟨g, RA * 8, none⟩) hgl).trans a0, (hW.cell (p := ⟨g, RA * 8 + 1, none⟩) hgl).trans a1, (hW.cell (p := ⟨g, RA * 8 + 2, none⟩) hgl).trans a2, (hW.cell (p := ⟨g, RA * 8 + 3, none⟩) hgl).trans a3, (hW.cell (p := ⟨g, RA * 8 + 4, none⟩) hgl).trans a4, (hW.cell (p := ⟨g, RA * 8 + 5, none⟩) hgl).trans a5, (hW.cell (p := ⟨g, RA * 8 + 6, none⟩) hgl).trans a6, (hW.cell (p := ⟨g, RA * 8 + 7, none⟩) hgl).trans a7⟩
  have R1 : Hid (RingC (fun y => (mA m1 y).nx) A la A) := r1
  have R2 : Hid ((A :: la).Nodup) := r2
  have R3 : Hid (∀ y, y ∈ A :: la ↔ y < m1.length ∧ (mA m1 y).rt = RA) := r3
  have R4 : Hid (xs = la.length + 1) := r4
  have HRR : Hid ((mA m1 RB).rt = RB) := hrr
  have HBW : Hid (∀ o : Obj, Below w.heap.size w ((w.alloc o).drew)) := fun o => Below.drew ((Below.refl _ _).alloc (Nat.le_refl _) _)
  clear h hX r1 r2 r3 r4 hRA hRB hrr
  go_enter Try.func39, Try.ntmps39
  go_wp2_with fail
  go_region_held3 (fun W => W.cell? ⟨p, 0, none⟩ = some (.slice (some ⟨g, 0, none⟩) m1.length cap) ∧ W.cell? ⟨g, RA * 8, none⟩ = some (.int .i64 xr) ∧ W.cell? ⟨g, RA * 8 + 1, none⟩ = some (.int .i64 xf) ∧ W.cell? ⟨g, RA * 8 + 2, none⟩ = some (.int .i64 xt) ∧ W.cell? ⟨g, RA * 8 + 3, none⟩ = some xw ∧ W.cell? ⟨g, RA * 8 + 4, none⟩ = some (.bool xb) ∧ W.cell? ⟨g, RA * 8 + 5, none⟩ = some (.int .i64 xn) ∧ W.cell? ⟨g, RA * 8 + 6, none⟩ = some (.int .i64 xs) ∧ W.cell? ⟨g, RA * 8 + 7, none⟩ = some (.int .i64 xl)) (first | (exact HCE.out _ (by repeat (first | assumption | exact Below.refl _ _ | refine Below.drew ?_ | refine Below.alloc ?_ (by first | omega | (simp <;> omega)) _ | refine Below.setCell ?_ (by first | omega | (simp <;> omega)) _))) | (go_keep; done)) (first | (go_at_call 30; refine (cR.out _ _ (by repeat (first | assumption | exact Below.refl _ _ | refine Below.drew ?_ | refine Below.alloc ?_ (by first | omega | (simp <;> omega)) _ | refine Below.setCell ?_ (by first | omega | (simp <;> omega)) _)) (by assumption)).mono ?_; rintro e w3 ⟨rfl, rfl⟩; simp only [HRA.out, HRB.out]) | fail)
  all_goals
    have HB1 := HBW.out (.cells #[.int .i64 xr, .int .i64 xf, .int .i64 xt, xw, .bool xb, .int .i64 xn, .int .i64 xs, .int .i64 xl] 87)
    have HP1 : Hid (((w.alloc (.cells #[.int .i64 xr, .int .i64 xf, .int .i64 xt, xw, .bool xb, .int .i64 xn, .int .i64 xs, .int .i64 xl] 87)).drew).heap[w.heap.size]? = some (.cells #[.int .i64 xr, .int .i64 xf, .int .i64 xt, xw, .bool xb, .int .i64 xn, .int .i64 xs, .int .i64 xl] 87 (0, 0))) := Deep.blk_alloc_new _ _
    generalize (w.alloc (.cells #[.int .i64 xr, .int .i64 xf, .int .i64 xt, xw, .bool xb, .int .i64 xn, .int .i64 xs, .int .i64 xl] 87)).drew = W1 at *
    have HBE1 : Hid (Below w.heap.size w W1) := HB1
    have hM1 := HM.out.below HB1
    have hz1 := HB1.size
    have hpl1 := hM1.lt
    have hgl1 : g < W1.heap.size := by omega
    have hpb : w.heap.size < W1.heap.size := lt_of_block HP1.out
    have d0 := hM1.c0
    obtain ⟨b0, b1, b2, b3, b4, b5, b6, b7⟩ := hM1.at_ hrB
    have bfr := hM1.fr
    have e6 : W1.cell? ⟨w.heap.size, 6, none⟩ = some (.int .i64 xs) := by simp [World.cell?, HP1.out]
    have e7 : W1.cell? ⟨w.heap.size, 7, none⟩ = some (.int .i64 xl) := by simp [World.cell?, HP1.out]
    have HM1 : Hid (FoM W1 p (.slice (some ⟨g, 0, none⟩) m1.length cap) m1) := hM1
    have HFR : Hid (∀ i, W1.frozen? ⟨g, i, none⟩ = false) := bfr
    obtain ⟨sB, hsB⟩ : ∃ sB, (mA m1 RB).sz = sB := ⟨_, rfl⟩
    obtain ⟨lB, hlB⟩ : ∃ lB, (mA m1 RB).ls = lB := ⟨_, rfl⟩
    have HSB : Hid ((mA m1 RB).sz = sB) := hsB
    have HLB : Hid ((mA m1 RB).ls = lB) := hlB
    rw [hsB] at b6 hszB
    rw [hlB] at b7
    clear hM1 HB1 HCE cR a0 a1 a2 a3 a4 a5 a6 a7 b1 b2 b3 b4 b5 bfr hsB hlB HBW c0
    go_wp2_with fail
    have g0 := cell_regrown b6
    have g1 := cell_regrown e6
    refine wp_region_quiet_then 9 (by kernel_rfl) (by kernel_rfl) ?_
    simp only [List.take_succ_cons, List.take_zero]
    iterate 9 (go_big_quiet_step (fail))
    refine wpQuiet_nil ?_
    intro w' hw'
    obtain ⟨⟨dq, osq⟩, hw''⟩ := hw'
    subst hw''
    simp only [List.drop_succ_cons, List.drop_zero]
    have HB2 : Hid (Below W1.heap.size W1 (grow (redrawn W1 dq) osq)) := below_regrown W1 dq osq
    generalize grow (redrawn W1 dq) osq = W2 at *
    clear g0 g1
    have hz2 := HB2.out.size
    have s6 := (HB2.out.cell (p := ⟨g, RB * 8 + 6, none⟩) hgl1).trans b6
    have sf := (HB2.out.frozen (p := ⟨g, RB * 8 + 6, none⟩) hgl1).trans (HFR.out _)
    obtain ⟨W3, hW3⟩ : ∃ W3, W2.setCell ⟨g, RB * 8 + 6, none⟩ (.int .i64 ((sB : Int) + (xs : Int))) = W3 := ⟨_, rfl⟩
    have HM3 : Hid (FoM W3 p (.slice (some ⟨g, 0, none⟩) m1.length cap) (gaL1 m1 RA RB)) := by
      have := (HM1.out.below HB2.out).put hg hrB (k := 6) (by omega) (.int .i64 ((sB : Int) + (xs : Int))) { mA m1 RB with sz := (mA m1 RB).sz + (mA m1 RA).sz } (by rw [HX.out, HSB.out]; simp [mbC]) (HM1.out.ifv RB)
      rw [Hid, ← hW3]
      rw [List.length_set] at this
      exact this
    have HK3 : Hid (KoF p (.slice (some ⟨g, 0, none⟩) m1.length cap) w W3) := by rw [Hid, ← hW3]; exact ((KoF.below HBE1.out).trans1 (KoF.below HB2.out)).trans1 KoF.setRow
    have HE3 : Hid (Below p w W3) := by rw [Hid, ← hW3]; exact Below.setCell ((HBE1.out.mono (by omega)).trans (HB2.out.mono (by omega))) (by show p ≤ g; omega) _
    have HO3 : Hid (∀ c, c ≠ g → c < W1.heap.size → W3.heap[c]? = W1.heap[c]?) := fun c h1 h2 => by rw [← hW3, Deep.blk_setCell_other _ _ _ _ h1]; exact HB2.out.block c h2
    have hz3 : W3.heap.size = W2.heap.size := by rw [← hW3]; simp
    have e7' : W3.cell? ⟨w.heap.size, 7, none⟩ = some (.int .i64 xl) := (World.cell?_of_block (a := ⟨w.heap.size, 7, none⟩) (HO3.out w.heap.size (by omega) hpb)).trans e7
    have b7' : W3.cell? ⟨g, RB * 8 + 7, none⟩ = some (.int .i64 lB) := by
      have h3 : (mA (gaL1 m1 RA RB) RB).ls = lB := by unfold gaL1; rw [mA_set _ _ _ hrB, if_pos rfl]; exact HLB.out
      have h4 := HM3.out
      have hl : m1.length = (gaL1 m1 RA RB).length := by simp [gaL1]
      rw [hl] at h4
      have := (h4.at_ (x := RB) (by rw [← hl]; exact hrB)).c7
      rw [h3] at this; exact this
    clear b6 e6
    go_wp2_with fail
    have g0 := cell_regrown b7'
    have g1 := cell_regrown e7'
    refine wp_region_quiet_then 10 (by kernel_rfl) (by kernel_rfl) ?_
    simp only [List.take_succ_cons, List.take_zero]
    iterate 10 (go_big_quiet_step (fail))
    refine wpQuiet_nil ?_
    intro w' hw'
    obtain ⟨⟨dr, osr⟩, hw''⟩ := hw'
    subst hw''
    simp only [List.drop_succ_cons, List.drop_zero]
    have HB4 : Hid (Below W3.heap.size W3 (grow (redrawn W3 dr) osr)) := below_regrown W3 dr osr
    generalize grow (redrawn W3 dr) osr = W4 at *
    clear g0 g1
    have hz4 := HB4.out.size
    have hgl3 : g < W3.heap.size := by omega
    have s7 := (HB4.out.cell (p := ⟨g, RB * 8 + 7, none⟩) hgl3).trans b7'
    have sf7 : W4.frozen? ⟨g, RB * 8 + 7, none⟩ = false := (HB4.out.frozen (p := ⟨g, RB * 8 + 7, none⟩) hgl3).trans (HM3.out.frn _)
    obtain ⟨W5, hW5⟩ : ∃ W5, W4.setCell ⟨g, RB * 8 + 7, none⟩ (.int .i64 (min (lB : Int) (xl : Int))) = W5 := ⟨_, rfl⟩
    have HL1 : Hid ((gaL1 m1 RA RB).length = m1.length) := by rw [Hid]; simp [gaL1]
    have HM5 : Hid (FoM W5 p (.slice (some ⟨g, 0, none⟩) m1.length cap) (gaL2 m1 RA RB)) := by
      have h4 := HM3.out.below HB4.out
      rw [← HL1.out] at h4
      have hls : (mA (gaL1 m1 RA RB) RB).ls = lB := by unfold gaL1; rw [mA_set _ _ _ hrB, if_pos rfl]; exact HLB.out
      have := h4.put hg (x := RB) (by rw [HL1.out]; exact hrB) (k := 7) (by omega) (.int .i64 (min (lB : Int) (xl : Int))) { mA (gaL1 m1 RA RB) RB with ls := min (mA m1 RB).ls (mA m1 RA).ls } (by rw [HX.out, HLB.out]; simp [mbC]; omega) (h4.ifv RB)
      rw [Hid, ← hW5]
      rw [List.length_set, HL1.out] at this
      exact this
    have HK5 : Hid (KoF p (.slice (some ⟨g, 0, none⟩) m1.length cap) w W5) := by rw [Hid, ← hW5]; exact (HK3.out.trans1 (KoF.below HB4.out)).trans1 KoF.setRow
    have HE5 : Hid (Below p w W5) := by rw [Hid, ← hW5]; exact Below.setCell (HE3.out.trans (HB4.out.mono (by omega))) (by show p ≤ g; omega) _
    have HL2 : Hid ((gaL2 m1 RA RB).length = m1.length) := by rw [Hid]; simp [gaL2, gaL1]
    have HG2 : Hid (∀ x, (mA (gaL2 m1 RA RB) x).rt = (mA m1 x).rt ∧ (mA (gaL2 m1 RA RB) x).nx = (mA m1 x).nx ∧ (x ≠ RB → (mA (gaL2 m1 RA RB) x).sz = (mA m1 x).sz)) := fun x => by
      unfold gaL2
      rw [mA_set _ _ _ (by rw [HL1.out]; exact hrB)]
      unfold gaL1
      rw [mA_set _ _ _ hrB, mA_set _ _ _ hrB]
      by_cases hx : x = RB
      · subst hx; simp
      · simp [hx]
    have cA : Hid (Calls Try.prog 35 #[.pointer (some ⟨p, 0, none⟩), .int .i64 A] W5 fun e w' => ∃ v', e = .returned v' ∧ OwnZ w' W5.heap.size v' (A :: la) ∧ Below W5.heap.size W5 w') := by
      have h5 := HM5.out
      rw [← HL2.out] at h5
      refine faround_any W5 p _ (gaL2 m1 RA RB) A la h5 (by rw [HL2.out]; exact hA) ?_ ?_ R2.out (fun y hy => by rw [HL2.out]; exact ((R3.out y).1 hy).1) ?_
      · rw [(HG2.out A).1, HRA.out, HL2.out]; exact hrA
      · exact R1.out.congr (HG2.out A).2.1 (fun y _ => (HG2.out y).2.1)
      · rw [(HG2.out A).1, HRA.out, (HG2.out RA).2.2 hne, HX.out]; exact R4.out
    have hz5 : W5.heap.size = W4.heap.size := by rw [← hW5]; simp
    clear b7' e7' b0 e7 s6 sf d0 hW3
    go_wp2_with fail
    refine cA.out.mono ?_
    rintro e W6 ⟨v6, rfl, hO6, hB6⟩
    have HB6 : Hid (Below W5.heap.size W5 W6) := hB6
    have hz6 := hB6.size
    obtain ⟨gv, cv, hv6, hgv1, hgv2⟩ := rw_some hO6 (by simp)
    subst hv6
    have hm6 : cv ≤ 9223372036854775807 ∧ (A :: la).length ≤ cv := by
      rcases hO6.2 with ⟨h0, _⟩ | ⟨g', cap', cur, hv, _, _, hn, hm', _⟩
      · cases h0
      · cases hv; unfold maxLen at hm'; exact ⟨by omega, hn⟩
    have HO6 : Hid (OwnZ W6 W5.heap.size (.slice (some ⟨gv, 0, none⟩) (A :: la).length cv) (A :: la)) := hO6
    obtain ⟨N, hN⟩ : ∃ N, (A :: la).length = N := ⟨_, rfl⟩
    have HN : Hid ((A :: la).length = N) := hN
    rw [hN] at hm6 ⊢
    have hgg : gv ≠ g := by omega
    clear hO6 hB6 hN
    go_wp2_with fail
    go_loopw [50] (fun i wr => ∃ k : Nat, k ≤ N ∧ i = .int .i64 k ∧ FoM wr p (.slice (some ⟨g, 0, none⟩) m1.length cap) (setRt (gaL2 m1 RA RB) RB ((A :: la).take k)) ∧ KoF p (.slice (some ⟨g, 0, none⟩) m1.length cap) w wr ∧ Below p w wr ∧ wr.heap[gv]? = W6.heap[gv]? ∧ W6.heap.size ≤ wr.heap.size) (fun i _ => N - (RowKit.intOf i).toNat)
    case atStart => exact ⟨0, by omega, rfl, by simpa [setRt] using HM5.out.below HB6.out, HK5.out.trans1 (KoF.below HB6.out), HE5.out.trans (HB6.out.mono (by omega)), rfl, Nat.le_refl _⟩
    case round =>
      obtain ⟨k, hk, rfl, hFr, hKr, hBr, hgr, hsr⟩ := hrel
      have HFr : Hid (FoM wr p (.slice (some ⟨g, 0, none⟩) m1.length cap) (setRt (gaL2 m1 RA RB) RB ((A :: la).take k))) := hFr
      have HKr : Hid (KoF p (.slice (some ⟨g, 0, none⟩) m1.length cap) w wr) := hKr
      have HBr : Hid (Below p w wr) := hBr
      have HLk : Hid ((setRt (gaL2 m1 RA RB) RB ((A :: la).take k)).length = m1.length) := by rw [Hid, setRt_len]; exact HL2.out
      have HTk : Hid (∀ y ∈ (A :: la).take k, y < (gaL2 m1 RA RB).length) := fun y hy => by rw [HL2.out]; exact ((R3.out y).1 (List.mem_of_mem_take hy)).1
      have p0 := hFr.c0
      have hprr := hFr.lt
      have hglr : g < wr.heap.size := by omega
      by_cases hkN : k < N
      · have hkl : k < (A :: la).length := by rw [HN.out]; exact hkN
        have hxm : (A :: la).getD k 0 ∈ A :: la := getD_mem0 hkl
        have hxl : (A :: la).getD k 0 < m1.length := ((R3.out _).1 hxm).1
        have HT1 : Hid (setRt (gaL2 m1 RA RB) RB ((A :: la).take (k + 1)) = (setRt (gaL2 m1 RA RB) RB ((A :: la).take k)).set ((A :: la).getD k 0) { mA (setRt (gaL2 m1 RA RB) RB ((A :: la).take k)) ((A :: la).getD k 0) with rt := RB }) := by
          rw [Hid, ← setRt_snoc, take_snoc0 hkl]
        have hRBn : ¬ RB ∈ (A :: la).take k := fun hm => by
          have := ((R3.out RB).1 (List.mem_of_mem_take hm)).2
          rw [HRR.out] at this; exact hne this.symm
        have hRBrt : (mA (setRt (gaL2 m1 RA RB) RB ((A :: la).take k)) RB).rt = RB := by
          rw [setRt_at _ _ _ HTk.out, if_neg hRBn, (HG2.out RB).1]; exact HRR.out
        have cw := (hFr.atn (x := RB) (by rw [HLk.out]; exact hrB)).c0
        rw [hRBrt] at cw
        have cx := (hFr.atn (x := (A :: la).getD k 0) (by rw [HLk.out]; exact hxl)).c0
        have cl : wr.cell? ⟨gv, k, none⟩ = some (.int .i64 ((A :: la).getD k 0)) := by
          obtain ⟨u, h1, h2⟩ := rw_cell HO6.out (i := k) (by rw [Nat.mul_one]; exact hkl)
          rw [World.cell?_of_block (a := ⟨gv, k, none⟩) hgr, h1, ← h2, List.getElem?_map, getElem_getD0 hkl]
          rfl
        have hfrx := hFr.frn ((A :: la).getD k 0 * 8)
        generalize hxx : (A :: la).getD k 0 = x at *
        have hxI : (x : Int) < (m1.length : Int) := by omega
        have hkI : (k : Int) < (N : Int) := by omega
        obtain ⟨rx, hrx⟩ : ∃ rx, (mA (setRt (gaL2 m1 RA RB) RB ((A :: la).take k)) x).rt = rx := ⟨_, rfl⟩
        rw [hrx] at cx
        have HFRX : Hid (wr.frozen? ⟨g, x * 8, none⟩ = false) := hfrx
        clear hFr hKr hBr hrx hkl hxm hRBn hRBrt hxx hfrx
        go_wp2_with fail
        have g0 := cell_regrown p0
        have g1 := cell_regrown cw
        refine wp_region_quiet_then 11 (by kernel_rfl) (by kernel_rfl) ?_
        simp only [List.take_succ_cons, List.take_zero]
        iterate 11 (go_big_quiet_step (fail))
        refine wpQuiet_nil ?_
        intro w' hw'
        obtain ⟨⟨ds, oss⟩, hw''⟩ := hw'
        subst hw''
        simp only [List.drop_succ_cons, List.drop_zero]
        have HB7 : Hid (Below wr.heap.size wr (grow (redrawn wr ds) oss)) := below_regrown wr ds oss
        generalize grow (redrawn wr ds) oss = W7 at *
        clear g0 g1
        have hz7 := HB7.out.size
        have t0 := (HB7.out.cell (p := ⟨g, x * 8, none⟩) hglr).trans cx
        have t1 := (HB7.out.frozen (p := ⟨g, x * 8, none⟩) hglr).trans HFRX.out
        have HS : Hid (FoM (W7.setCell ⟨g, x * 8, none⟩ (.int .i64 RB)) p (.slice (some ⟨g, 0, none⟩) m1.length cap) (setRt (gaL2 m1 RA RB) RB ((A :: la).take (k + 1)))) := by
          have := (HFr.out.below HB7.out).putn hg (x := x) (k := 0) (by rw [HLk.out]; exact hxl) (by omega) (.int .i64 RB) { mA (setRt (gaL2 m1 RA RB) RB ((A :: la).take k)) x with rt := RB } (by simp [mbC]) (HFr.out.ifv x)
          rw [Hid, HT1.out]; exact this
        clear cl cw cx p0
        go_wp2_with fail
        refine ⟨⟨k + 1, by omega, by go_num, HS.out, (HKr.out.trans1 (KoF.below HB7.out)).trans1 KoF.setRow, Below.setCell (HBr.out.trans (HB7.out.mono (by omega))) (by show p ≤ g; omega) _, ?_, ?_⟩, by simp [RowKit.intOf]; omega⟩
        · rw [Deep.blk_setCell_other _ _ _ _ hgg, HB7.out.block gv (by omega)]; exact hgr
        · simp; omega
      · have hkN' : k = N := by omega
        subst hkN'
        have hAr := hFr.atn (x := A) (by rw [HLk.out]; exact hA)
        have hBrr := hFr.atn (x := B) (by rw [HLk.out]; exact hB)
        have n1 := hAr.c5
        have n2 := hBrr.c5
        have f1 := hFr.frn (A * 8 + 5)
        have f2 := hFr.frn (B * 8 + 5)
        have HTk2 : Hid ((A :: la).take k = A :: la) := by rw [Hid, List.take_of_length_le (by rw [HN.out]; omega)]
        rw [HTk2.out] at n1 n2
        have HF8 := HFr.out
        rw [HTk2.out] at HF8
        have HF9 : Hid (FoM wr p (.slice (some ⟨g, 0, none⟩) m1.length cap) (setRt (gaL2 m1 RA RB) RB (A :: la))) := HF8
        have HL9 : Hid ((setRt (gaL2 m1 RA RB) RB (A :: la)).length = m1.length) := by rw [Hid, setRt_len]; exact HL2.out
        obtain ⟨s3, hs3⟩ : ∃ s3, setRt (gaL2 m1 RA RB) RB (A :: la) = s3 := ⟨_, rfl⟩
        have HS3 : Hid (setRt (gaL2 m1 RA RB) RB (A :: la) = s3) := hs3
        rw [hs3] at n1 n2 HF9 HL9
        obtain ⟨xA, hxA⟩ : ∃ xA, (mA s3 A).nx = xA := ⟨_, rfl⟩
        obtain ⟨xB, hxB⟩ : ∃ xB, (mA s3 B).nx = xB := ⟨_, rfl⟩
        have HXA : Hid ((mA s3 A).nx = xA) := hxA
        have HXB : Hid ((mA s3 B).nx = xB) := hxB
        rw [hxA] at n1
        rw [hxB] at n2
        have hABn : A ≠ B := fun e => hne (by rw [← HRA.out, ← HRB.out, e])
        clear hFr hKr hBr hAr hBrr hxA hxB HF8
        go_wp2_with fail
        clear hs3
        have HS1 : Hid (FoM (wr.setCell ⟨g, A * 8 + 5, none⟩ (.int .i64 xB)) p (.slice (some ⟨g, 0, none⟩) m1.length cap) (s3.set A { mA s3 A with nx := (mA s3 B).nx })) := HF9.out.putn hg (x := A) (k := 5) (by rw [HL9.out]; exact hA) (by omega) (.int .i64 xB) { mA s3 A with nx := (mA s3 B).nx } (by rw [HXB.out]; simp [mbC]) (HF9.out.ifv A)
        have HS2 : Hid (FoM ((wr.setCell ⟨g, A * 8 + 5, none⟩ (.int .i64 xB)).setCell ⟨g, B * 8 + 5, none⟩ (.int .i64 xA)) p (.slice (some ⟨g, 0, none⟩) m1.length cap) (gaL4 s3 A B)) := HS1.out.putn hg (x := B) (k := 5) (by simp [HL9.out]; exact hB) (by omega) (.int .i64 xA) { mA (s3.set A { mA s3 A with nx := (mA s3 B).nx }) B with nx := (mA s3 A).nx } (by rw [HXA.out]; simp [mbC]) (HS1.out.ifv B)
        go_region
        go_end0
        refine ⟨rfl, by rw [HS3.out]; exact HS2.out.same rfl (fun b _ => rfl), ((HKr.out.trans1 KoF.setRow).trans1 KoF.setRow).trans1 (KoF.below (Below.drew (Below.refl _ _))), fun b e => .inl e, ?_⟩
        exact Below.drew (Below.setCell (Below.setCell HBr.out (by show p ≤ g; omega) _) (by show p ≤ g; omega) _)
end Go.Proofs.Ytfnbkffphpidbaa
