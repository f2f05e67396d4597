/-
  hang, walked.
-/
import Derived.Test.YtfnbkffphpidbaaFoW5
import Derived.Deep.RegionHeld3
set_option linter.unusedSimpArgs false
set_option linter.unusedVariables false
namespace Go.Proofs.Ytfnbkffphpidbaa
open Go.RowKit Go.Lib Go.Sort

/-- How far c is from r. -/
noncomputable def dst (J : List (Nat × Nat)) (c r : Nat) : Nat := by
  classical exact if h : ∃ q, Pa J c q r then h.choose.length else 0
theorem dst_eq {J : List (Nat × Nat)} (hf : Fst J) {c r : Nat} {q : List Ed} (h : Pa J c q r) : dst J c r = q.length := by
  unfold dst
  rw [dif_pos ⟨q, h⟩]
  rw [hf.uniq _ _ _ _ (Exists.choose_spec (⟨q, h⟩ : ∃ q, Pa J c q r)) h]

/-- The four cells of a way up set. -/
theorem FoM.putUp {w : World} {p g cap : Nat} {m : List Mv} (h : FoM w p (.slice (some ⟨g, 0, none⟩) m.length cap) m) (hg : p + 1 ≤ g) {x : Nat} (hx : x < m.length) (E : Eg) (hi : IfV E.w) :
    FoM ((((w.setCell ⟨g, x * 8 + 1, none⟩ (.int .i64 E.f)).setCell ⟨g, x * 8 + 2, none⟩ (.int .i64 E.t)).setCell ⟨g, x * 8 + 3, none⟩ E.w).setCell ⟨g, x * 8 + 4, none⟩ (.bool E.b)) p (.slice (some ⟨g, 0, none⟩) m.length cap) (setUp m x E) := by
  have s1 := h.put hg hx (k := 1) (by omega) (.int .i64 E.f) { mA m x with up := { (mA m x).up with f := E.f } } rfl (h.ifv x)
  have e1 : mA (m.set x { mA m x with up := { (mA m x).up with f := E.f } }) x = { mA m x with up := { (mA m x).up with f := E.f } } := by rw [mA_set _ _ _ hx, if_pos rfl]
  have s2 := s1.put hg (x := x) (by simpa using hx) (k := 2) (by omega) (.int .i64 E.t) { mA m x with up := { (mA m x).up with f := E.f, t := E.t } } (by rw [e1]; rfl) (h.ifv x)
  rw [List.set_set] at s2
  have e2 : mA (m.set x { mA m x with up := { (mA m x).up with f := E.f, t := E.t } }) x = { mA m x with up := { (mA m x).up with f := E.f, t := E.t } } := by rw [mA_set _ _ _ hx, if_pos rfl]
  have s3 := s2.put hg (x := x) (by simpa using hx) (k := 3) (by omega) E.w { mA m x with up := { (mA m x).up with f := E.f, t := E.t, w := E.w } } (by rw [e2]; rfl) hi
  rw [List.set_set] at s3
  have e3 : mA (m.set x { mA m x with up := { (mA m x).up with f := E.f, t := E.t, w := E.w } }) x = { mA m x with up := { (mA m x).up with f := E.f, t := E.t, w := E.w } } := by rw [mA_set _ _ _ hx, if_pos rfl]
  have s4 := s3.put hg (x := x) (by simpa using hx) (k := 4) (by omega) (.bool E.b) { mA m x with up := E } (by rw [e3]; rfl) hi
  rw [List.set_set] at s4
  rw [List.length_set] at s4
  exact s4
theorem KoF.putUp {p g x n c : Nat} {E : Eg} {w : World} : KoF p (.slice (some ⟨g, 0, none⟩) n c) w ((((w.setCell ⟨g, x * 8 + 1, none⟩ (.int .i64 E.f)).setCell ⟨g, x * 8 + 2, none⟩ (.int .i64 E.t)).setCell ⟨g, x * 8 + 3, none⟩ E.w).setCell ⟨g, x * 8 + 4, none⟩ (.bool E.b)) :=
  ((KoF.setRow.trans1 KoF.setRow).trans1 KoF.setRow).trans1 KoF.setRow

/-- A step in a block of its own. -/
structure EgB (w : World) (b : Nat) (E : Eg) : Prop where
  blk : w.heap[b]? = some (.cells #[.int .i64 E.f, .int .i64 E.t, E.w, .bool E.b] 44 (0, 0))
theorem EgB.c0 {w : World} {b : Nat} {E : Eg} (h : EgB w b E) : w.cell? ⟨b, 0, none⟩ = some (.int .i64 E.f) := by simp [World.cell?, h.blk]
theorem EgB.c1 {w : World} {b : Nat} {E : Eg} (h : EgB w b E) : w.cell? ⟨b, 1, none⟩ = some (.int .i64 E.t) := by simp [World.cell?, h.blk]
theorem EgB.c2 {w : World} {b : Nat} {E : Eg} (h : EgB w b E) : w.cell? ⟨b, 2, none⟩ = some E.w := by simp [World.cell?, h.blk]
theorem EgB.c3 {w : World} {b : Nat} {E : Eg} (h : EgB w b E) : w.cell? ⟨b, 3, none⟩ = some (.bool E.b) := by simp [World.cell?, h.blk]
theorem EgB.fr {w : World} {b : Nat} {E : Eg} (h : EgB w b E) (i : Nat) : w.frozen? ⟨b, i, none⟩ = false := by simp [World.frozen?, h.blk]
theorem EgB.same {w w' : World} {b : Nat} {E : Eg} (h : EgB w b E) (hs : w'.heap[b]? = w.heap[b]?) : EgB w' b E := ⟨hs.trans h.blk⟩
theorem EgB.lt {w : World} {b : Nat} {E : Eg} (h : EgB w b E) : b < w.heap.size := lt_of_block h.blk
theorem EgB.put {w : World} {b : Nat} {E : Eg} (h : EgB w b E) (F : Eg) : EgB ((((w.setCell ⟨b, 0, none⟩ (.int .i64 F.f)).setCell ⟨b, 1, none⟩ (.int .i64 F.t)).setCell ⟨b, 2, none⟩ F.w).setCell ⟨b, 3, none⟩ (.bool F.b)) b F := by
  have s1 := heap_setCell_same w b 0 _ 44 (.int .i64 F.f) h.blk
  have s2 := heap_setCell_same _ b 1 _ 44 (.int .i64 F.t) s1
  have s3 := heap_setCell_same _ b 2 _ 44 F.w s2
  have s4 := heap_setCell_same _ b 3 _ 44 (.bool F.b) s3
  exact ⟨by simpa using s4⟩
theorem set4_other {w : World} {b c : Nat} {u0 u1 u2 u3 : Value} {i0 i1 i2 i3 : Nat} (h : c ≠ b) : ((((w.setCell ⟨b, i0, none⟩ u0).setCell ⟨b, i1, none⟩ u1).setCell ⟨b, i2, none⟩ u2).setCell ⟨b, i3, none⟩ u3).heap[c]? = w.heap[c]? := by
  rw [Deep.blk_setCell_other _ _ _ _ h, Deep.blk_setCell_other _ _ _ _ h, Deep.blk_setCell_other _ _ _ _ h, Deep.blk_setCell_other _ _ _ _ h]

/-- hang, in mid-way, in memory; Bj: the block of 'joint'. -/
structure HangM (J : List (Nat × Nat)) (V : List Value) (m : List Mv) (a b : Nat) (wv : Value) (A B : Nat) (w : World) (p g cap Bj : Nat) (wr : World) (m1 : List Mv) (c : Nat) (ec : Ed) (q : List Ed) : Prop where
  hi : HangI J V m a b wv A B m1 c ec q
  fo : FoM wr p (.slice (some ⟨g, 0, none⟩) m.length cap) m1
  eg : EgB wr Bj (cz (J ++ [(a, b)]) (V ++ [wv]) ec)
  ko : KoF p (.slice (some ⟨g, 0, none⟩) m.length cap) w wr
  be : Below p w wr

def cNat (w : World) (a : Addr) : Nat := match w.cell? a with
  | some (.int _ n) => n.toNat
  | _ => 0
theorem cNat_eq {w : World} {a : Addr} {n : Nat} (h : w.cell? a = some (.int .i64 (n : Int))) : cNat w a = n := by unfold cNat; rw [h]; simp

set_option maxRecDepth 20000 in
set_option maxHeartbeats 4000000 in
theorem fhang_any (w : World) (p : Nat) (v : Value) (J : List (Nat × Nat)) (V : List Value) (m : List Mv) (a b A B : Nat) (e0 : Ed) (wv : Value) (h : FoM w p v m) (hI : FoI J V m) (hN : NewJ J m a b e0 A B) (hwv : ∀ e : Ed, IfV (cz (J ++ [(a, b)]) (V ++ [wv]) e).w) :
    Calls Try.prog 38 #[.pointer (some ⟨p, 0, none⟩), egV (cz (J ++ [(a, b)]) (V ++ [wv]) e0)] w fun e w' => e = .returned (.tuple #[]) ∧ ∃ m1, FoT w p v v m1 w' ∧ HungI J V m a b wv A B m1 := by
  obtain ⟨g, cap, rfl, hg, hgl, hc, hm⟩ := h.row hN.lA
  unfold maxLen at hm
  have hlt := h.lt
  have hle := h.le
  have HN : Hid (NewJ J m a b e0 A B) := hN
  have HI : Hid (FoI J V m) := hI
  have HV : Hid (∀ e : Ed, IfV (cz (J ++ [(a, b)]) (V ++ [wv]) e).w) := hwv
  obtain ⟨q0, hS⟩ := HangI.start hI hN wv
  have hrl : (mA m A).rt < m.length := (hI.rt A hN.lA).1
  have hA := hN.lA
  have hE0 : (cz (J ++ [(a, b)]) (V ++ [wv]) e0).f = A := hN.eA
  have HM1 : Hid (∀ o, FoM (w.alloc o) p (.slice (some ⟨g, 0, none⟩) m.length cap) m) := fun o => h.below ((Below.refl _ _).alloc (Nat.le_refl _) _)
  have HS : Hid (HangM J V m a b wv A B w p g cap w.heap.size (w.alloc (.cells #[.int .i64 (cz (J ++ [(a, b)]) (V ++ [wv]) e0).f, .int .i64 (cz (J ++ [(a, b)]) (V ++ [wv]) e0).t, (cz (J ++ [(a, b)]) (V ++ [wv]) e0).w, .bool (cz (J ++ [(a, b)]) (V ++ [wv]) e0).b] 44)) m A e0 q0) :=
    ⟨hS, HM1.out _, ⟨Deep.blk_alloc_new _ _⟩, KoF.below ((Below.refl _ _).alloc (Nat.le_refl _) _), ((Below.refl w.heap.size w).alloc (Nat.le_refl _) _).mono (by omega)⟩
  have cR : Hid (∀ o, Calls Try.prog 30 #[.pointer (some ⟨p, 0, none⟩), .int .i64 A] (w.alloc o) fun e w' => e = .returned (.int .i64 (mA m A).rt) ∧ w' = w.alloc o) := fun o => froot_any _ p _ m A (HM1.out o) hA
  have HD : Hid (∀ m1 ec q, HangI J V m a b wv A B m1 (mA m A).rt ec q → HungI J V m a b wv A B (setUp m1 (mA m A).rt (cz (J ++ [(a, b)]) (V ++ [wv]) ec))) := fun m1 ec q hh => hh.done hI hN
  have HX : Hid (∀ m1 c ec q, HangI J V m a b wv A B m1 c ec q → c ≠ (mA m A).rt → ∃ e q', q = e :: q' ∧ (mA m1 c).up = cz (J ++ [(a, b)]) (V ++ [wv]) e ∧ eB J e < m.length ∧ eB (J ++ [(a, b)]) e = eB J e ∧ HangI J V m a b wv A B (setUp m1 c (cz (J ++ [(a, b)]) (V ++ [wv]) ec)) (eB J e) (tn e) q') := fun m1 c ec q hh hne => hh.next hI hN hne
  have HQ : Hid (∀ m1 c ec q, HangI J V m a b wv A B m1 c ec q → dst J c (mA m A).rt = q.length) := fun m1 c ec q hh => dst_eq hI.fst hh.way
  have HF : Hid (∀ m1 c ec q, HangI J V m a b wv A B m1 c ec q → (cz (J ++ [(a, b)]) (V ++ [wv]) ec).f = c) := fun m1 c ec q hh => by obtain ⟨pp, hp⟩ := hh.here; exact hp.from_
  have hif := hwv e0
  generalize hR : (mA m A).rt = R at *
  clear h hI hN hwv hS HM1 hR
  unfold egV
  have HE0 : Hid ((cz (J ++ [(a, b)]) (V ++ [wv]) e0).f = A) := hE0
  generalize hcz : cz (J ++ [(a, b)]) (V ++ [wv]) e0 = E at *
  have HCZ : Hid (cz (J ++ [(a, b)]) (V ++ [wv]) e0 = E) := hcz
  clear hcz
  obtain ⟨ef, et, ew, eb⟩ := E
  simp only at hE0 hif HS ⊢
  subst hE0
  have hone := hif.one
  have hcl := hif.cells
  have hst : ∀ (P : Program) (w : World) (a : Addr) (md : Mode), (store a ew md).run P w = stored P w a ew md := fun P w a md => run_store P w a ew md hone
  go_enter Try.func38, Try.ntmps38
  go_wp2_with fail
  refine (cR.out _).mono ?_
  rintro e w' ⟨rfl, rfl⟩
  go_wp2_with fail
  go_loopw [5] (fun _ wr => ∃ m1 c ec q, HangM J V m a b wv ef B w p g cap w.heap.size wr m1 c ec q) (fun _ wr => dst J (cNat wr ⟨w.heap.size, 0, none⟩) R)
  case atStart => exact ⟨m, ef, e0, q0, HS.out⟩
  case round =>
    obtain ⟨m1, c, ec, q, hH⟩ := hrel
    have hcl := hH.hi.lt
    have hfo := hH.fo
    have hm1 : m1.length = m.length := hH.hi.up.len
    have hEf := HF.out _ _ _ _ hH.hi
    have hEi := HV.out ec
    have hwr := hH.ko.ko.size
    have q0 := hH.eg.c0
    have q1 := hH.eg.c1
    have q2 := hH.eg.c2
    have q3 := hH.eg.c3
    have p0 := hfo.c0
    have HH : Hid (HangM J V m a b wv ef B w p g cap w.heap.size wr m1 c ec q) := hH
    by_cases hcR : c = R
    · subst hcR
      have HDn : Hid (HungI J V m a b wv ef B (setUp m1 c (cz (J ++ [(a, b)]) (V ++ [wv]) ec))) := HD.out _ _ _ hH.hi
      have hfo' : FoM wr p (.slice (some ⟨g, 0, none⟩) m1.length cap) m1 := by rw [hm1]; exact hfo
      have hMb := hfo'.at_ (x := c) (by omega)
      have r1 := hMb.c1
      have r2 := hMb.c2
      have r3 := hMb.c3
      have r4 := hMb.c4
      have rf := hfo'.fr
      have HFO : Hid (∀ W, Below wr.heap.size wr W → FoM W p (.slice (some ⟨g, 0, none⟩) m1.length cap) m1) := fun W hW => hfo'.below hW
      generalize cz (J ++ [(a, b)]) (V ++ [wv]) ec = E at *
      obtain ⟨ff, ft, fw, fb⟩ := E
      simp only at q0 q1 q2 q3 hEf hEi
      subst hEf
      have hone2 := hEi.one
      have hcl2 := hEi.cells
      have hst2 : ∀ (P : Program) (w : World) (a : Addr) (md : Mode), (store a fw md).run P w = stored P w a fw md := fun P w a md => run_store P w a fw md hone2
      have hcI : (ff : Int) < (m.length : Int) := by omega
      have HRF : Hid (∀ i, wr.frozen? ⟨g, i, none⟩ = false) := rf
      have hgr : g < wr.heap.size := Nat.lt_of_lt_of_le hgl hwr
      clear hH hfo hMb rf HS HX HQ HF HV HD hfo'
      go_wp2_with fail
      have g0 := cell_regrown p0
      have g1 := cell_regrown q0
      have g2 := cell_regrown q1
      have g3 := cell_regrown q2
      have g4 := cell_regrown q3
      refine wp_region_quiet_then 8 (by kernel_rfl) (by kernel_rfl) ?_
      simp only [List.take_succ_cons, List.take_zero]
      iterate 8 (go_big_quiet_step (fail))
      refine wpQuiet_nil ?_
      intro w' hw'
      obtain ⟨⟨dq, osq⟩, hw''⟩ := hw'
      subst hw''
      simp only [List.drop_succ_cons, List.drop_zero]
      have hb2 := below_regrown wr dq osq
      have HB2 : Hid (Below wr.heap.size wr (grow (redrawn wr dq) osq)) := hb2
      have s1 := (hb2.cell (p := ⟨g, ff * 8 + 1, none⟩) hgr).trans r1
      have s2 := (hb2.cell (p := ⟨g, ff * 8 + 2, none⟩) hgr).trans r2
      have s3 := (hb2.cell (p := ⟨g, ff * 8 + 3, none⟩) hgr).trans r3
      have s4 := (hb2.cell (p := ⟨g, ff * 8 + 4, none⟩) hgr).trans r4
      have sf : ∀ i, (grow (redrawn wr dq) osq).frozen? ⟨g, i, none⟩ = false := fun i => (hb2.frozen (p := ⟨g, i, none⟩) hgr).trans (HRF.out i)
      have s5 := sf (ff * 8 + 1)
      have s6 := sf (ff * 8 + 2)
      have s7 := sf (ff * 8 + 3)
      have s8 := sf (ff * 8 + 4)
      generalize grow (redrawn wr dq) osq = w2 at *
      clear g0 g1 g2 g3 g4 hb2 sf
      go_wp2_with fail
      go_end0
      have hF := (HFO.out _ HB2.out).putUp hg (x := ff) (by omega) ⟨ff, ft, fw, fb⟩ hEi
      have hK : KoF p (.slice (some ⟨g, 0, none⟩) m.length cap) w2 _ := KoF.putUp (x := ff) (E := ⟨ff, ft, fw, fb⟩)
      refine ⟨rfl, _, ⟨?_, (HH.out.ko.trans1 (KoF.below HB2.out)).trans1 hK, fun b e => .inl e, ?_⟩, HDn.out⟩
      · rw [hm1] at hF; exact hF
      · refine Below.trans HH.out.be (Below.trans (HB2.out.mono (by omega)) ?_)
        repeat (first | exact Below.refl _ _ | refine Below.setCell ?_ (by simp <;> omega) _)
    · obtain ⟨e, q', rfl, hu, hzl, hzB, hNx⟩ := HX.out _ _ _ _ hH.hi hcR
      have hdq : dst J c R = q'.length + 1 := HQ.out _ _ _ _ hH.hi
      have hdn : dst J (eB J e) R = q'.length := HQ.out _ _ _ _ hNx
      have hfo' : FoM wr p (.slice (some ⟨g, 0, none⟩) m1.length cap) m1 := by rw [hm1]; exact hfo
      have hMb := hfo'.at_ (x := c) (by omega)
      obtain ⟨_, r1, r2, r3, r4, _, _, _⟩ := hMb
      rw [hu] at r1 r2 r3 r4
      have hUi := HV.out e
      have HTN : Hid ((cz (J ++ [(a, b)]) (V ++ [wv]) e).tn = cz (J ++ [(a, b)]) (V ++ [wv]) (tn e)) := cz_tn _ _ _
      have HTf : Hid ((cz (J ++ [(a, b)]) (V ++ [wv]) e).t = eB J e) := hzB
      have HNX : Hid (HangI J V m a b wv ef B (setUp m1 c (cz (J ++ [(a, b)]) (V ++ [wv]) ec)) (eB J e) (tn e) q') := hNx
      have HFO : Hid (∀ W, Below wr.heap.size wr W → FoM W p (.slice (some ⟨g, 0, none⟩) m1.length cap) m1) := fun W hW => hfo'.below hW
      have HEG : Hid (EgB wr w.heap.size (cz (J ++ [(a, b)]) (V ++ [wv]) ec)) := hH.eg
      have HRF : Hid (∀ i, wr.frozen? ⟨g, i, none⟩ = false) := hfo'.fr
      have HCNT : Hid (cNat wr ⟨w.heap.size, 0, none⟩ = c) := cNat_eq (by rw [q0, hEf])
      generalize hG : cz (J ++ [(a, b)]) (V ++ [wv]) ec = E at *
      have HG : Hid (cz (J ++ [(a, b)]) (V ++ [wv]) ec = E) := hG
      generalize hU : cz (J ++ [(a, b)]) (V ++ [wv]) e = U at *
      clear hG hU hu
      obtain ⟨ff, ft, fw, fb⟩ := E
      obtain ⟨uf, ut, uw, ub⟩ := U
      simp only at q0 q1 q2 q3 hEf hEi r1 r2 r3 r4 hUi
      subst hEf
      have hone2 := hEi.one
      have hcl2 := hEi.cells
      have hst2 : ∀ (P : Program) (w : World) (a : Addr) (md : Mode), (store a fw md).run P w = stored P w a fw md := fun P w a md => run_store P w a fw md hone2
      have hone3 := hUi.one
      have hcl3 := hUi.cells
      have hst3 : ∀ (P : Program) (w : World) (a : Addr) (md : Mode), (store a uw md).run P w = stored P w a uw md := fun P w a md => run_store P w a uw md hone3
      have cT : Hid (∀ d os, Calls Try.prog 34 #[.agg #[.int .i64 uf, .int .i64 ut, uw, .bool ub] ] (grow (redrawn wr d) os) fun e w'' => e = .returned (.agg #[.int .i64 ut, .int .i64 uf, uw, .bool (!ub)]) ∧ ∃ p : Regrown, w'' = grow (redrawn wr p.d) p.os) := fun d os => Calls.regrown_of (fturn_any _ ⟨uf, ut, uw, ub⟩ hUi)
      have hcI : (ff : Int) < (m.length : Int) := by omega
      have hneI : ((ff : Int) != (R : Int)) = true := by simp; omega
      have hgr : g < wr.heap.size := Nat.lt_of_lt_of_le hgl hwr
      have hpr : p < wr.heap.size := Nat.lt_of_lt_of_le hlt hwr
      have hbr : w.heap.size < wr.heap.size := HEG.out.lt
      clear hH hfo HS HX HQ HF HV HD hfo' hNx
      go_wp2_with fail
      have cT2 : Hid (∀ W : World, Calls Try.prog 34 #[.agg #[.int .i64 uf, .int .i64 ut, uw, .bool ub] ] W fun e w'' => e = .returned (.agg #[.int .i64 ut, .int .i64 uf, uw, .bool (!ub)]) ∧ Below W.heap.size W w'') := fun W => fturn_any _ ⟨uf, ut, uw, ub⟩ hUi
      have HCE : Hid (∀ W, Below wr.heap.size wr W → W.cell? ⟨p, 0, none⟩ = some (.slice (some ⟨g, 0, none⟩) m.length cap) ∧ W.cell? ⟨w.heap.size, 0, none⟩ = some (.int .i64 ff) ∧ W.cell? ⟨g, ff * 8 + 1, none⟩ = some (.int .i64 uf) ∧ W.cell? ⟨g, ff * 8 + 2, none⟩ = some (.int .i64 ut) ∧ W.cell? ⟨g, ff * 8 + 3, none⟩ = some uw ∧ W.cell? ⟨g, ff * 8 + 4, none⟩ = some (.bool ub)) := fun W hW => ⟨(hW.cell (p := ⟨p, 0, none⟩) hpr).trans p0, (hW.cell (p := ⟨w.heap.size, 0, none⟩) hbr).trans q0, (hW.cell (p := ⟨g, ff * 8 + 1, none⟩) hgr).trans r1, (hW.cell (p := ⟨g, ff * 8 + 2, none⟩) hgr).trans r2, (hW.cell (p := ⟨g, ff * 8 + 3, none⟩) hgr).trans r3, (hW.cell (p := ⟨g, ff * 8 + 4, none⟩) hgr).trans r4⟩
      go_region_held3 (fun W => W.cell? ⟨p, 0, none⟩ = some (.slice (some ⟨g, 0, none⟩) m.length cap) ∧ W.cell? ⟨w.heap.size, 0, none⟩ = some (.int .i64 ff) ∧ W.cell? ⟨g, ff * 8 + 1, none⟩ = some (.int .i64 uf) ∧ W.cell? ⟨g, ff * 8 + 2, none⟩ = some (.int .i64 ut) ∧ W.cell? ⟨g, ff * 8 + 3, none⟩ = some uw ∧ W.cell? ⟨g, ff * 8 + 4, none⟩ = some (.bool ub)) (first | (exact HCE.out _ (by repeat (first | assumption | exact Below.refl _ _ | refine Below.drew ?_ | refine Below.alloc ?_ (by first | omega | (simp <;> omega)) _ | refine Below.setCell ?_ (by first | omega | (simp <;> omega)) _))) | (go_keep; done)) (first | (go_at_call 34; refine (cT2.out _).mono ?_; rintro e w3 ⟨rfl, hb3⟩; have hbw3 : Below wr.heap.size wr w3 := (Below.trans (by repeat (first | exact Below.refl _ _ | refine Below.drew ?_ | refine Below.alloc ?_ (by first | omega | (simp <;> omega)) _)) (hb3.mono (by simp <;> omega))); have hs3 := hbw3.size; obtain ⟨k0, k1, k2, k3, k4, k5⟩ := HCE.out w3 hbw3; have n0 := fun hh => hb3.cell (p := ⟨wr.heap.size, 0, none⟩) hh; have f0 := fun hh => hb3.frozen (p := ⟨wr.heap.size, 0, none⟩) hh; try simp at n0; try simp at f0; have n1 := fun hh => hb3.cell (p := ⟨wr.heap.size, 1, none⟩) hh; have f1 := fun hh => hb3.frozen (p := ⟨wr.heap.size, 1, none⟩) hh; try simp at n1; try simp at f1; have n2 := fun hh => hb3.cell (p := ⟨wr.heap.size, 2, none⟩) hh; have f2 := fun hh => hb3.frozen (p := ⟨wr.heap.size, 2, none⟩) hh; try simp at n2; try simp at f2; have n3 := fun hh => hb3.cell (p := ⟨wr.heap.size, 3, none⟩) hh; have f3 := fun hh => hb3.frozen (p := ⟨wr.heap.size, 3, none⟩) hh; try simp at n3; try simp at f3) | fail)
      all_goals clear HCE cT2
      · have HB3 : Hid (Below wr.heap.size wr (w3.alloc (.cells #[.int .i64 ut, .int .i64 uf, uw, .bool (!ub)] 44))) := Below.alloc hbw3 hs3 _
        have HA3 : Hid (EgB (w3.alloc (.cells #[.int .i64 ut, .int .i64 uf, uw, .bool (!ub)] 44)) w3.heap.size (Eg.tn ⟨uf, ut, uw, ub⟩)) := ⟨Deep.blk_alloc_new _ _⟩
        have z3 : w3.heap.size < (w3.alloc (.cells #[.int .i64 ut, .int .i64 uf, uw, .bool (!ub)] 44)).heap.size := by simp
        have zb : wr.heap.size ≤ w3.heap.size := hs3
        clear n0 n1 n2 n3 f0 f1 f2 f3 k0 k1 k2 k3 k4 k5 hb3 hbw3 hs3
        generalize w3.alloc (.cells #[.int .i64 ut, .int .i64 uf, uw, .bool (!ub)] 44) = W3 at *
        generalize w3.heap.size = Ba at *
        have t0 := (HB3.out.cell (p := ⟨p, 0, none⟩) hpr).trans p0
        have t1 := (HB3.out.cell (p := ⟨w.heap.size, 0, none⟩) hbr).trans q0
        have t2 := (HB3.out.cell (p := ⟨w.heap.size, 1, none⟩) hbr).trans q1
        have t3 := (HB3.out.cell (p := ⟨w.heap.size, 2, none⟩) hbr).trans q2
        have t4 := (HB3.out.cell (p := ⟨w.heap.size, 3, none⟩) hbr).trans q3
        go_wp2_with fail
        have g0 := cell_regrown t0
        have g1 := cell_regrown t1
        have g2 := cell_regrown t2
        have g3 := cell_regrown t3
        have g4 := cell_regrown t4
        refine wp_region_quiet_then 9 (by kernel_rfl) (by kernel_rfl) ?_
        simp only [List.take_succ_cons, List.take_zero]
        iterate 9 (go_big_quiet_step (fail))
        refine wpQuiet_nil ?_
        intro w' hw'
        obtain ⟨⟨dr, osr⟩, hw''⟩ := hw'
        subst hw''
        simp only [List.drop_succ_cons, List.drop_zero]
        have HB34 : Hid (Below W3.heap.size W3 (grow (redrawn W3 dr) osr)) := below_regrown W3 dr osr
        generalize grow (redrawn W3 dr) osr = w4 at *
        clear g0 g1 g2 g3 g4
        have HB4 : Hid (Below wr.heap.size wr w4) := HB3.out.trans (HB34.out.mono (by omega))
        have HA4 : Hid (EgB w4 Ba (Eg.tn ⟨uf, ut, uw, ub⟩)) := HA3.out.same (HB34.out.block _ z3)
        have z4 := HB34.out.size
        have HJ4 : Hid (EgB w4 w.heap.size ⟨ff, ft, fw, fb⟩) := HEG.out.same (HB4.out.block _ hbr)
        have s1 := (HB4.out.cell (p := ⟨g, ff * 8 + 1, none⟩) hgr).trans r1
        have s2 := (HB4.out.cell (p := ⟨g, ff * 8 + 2, none⟩) hgr).trans r2
        have s3 := (HB4.out.cell (p := ⟨g, ff * 8 + 3, none⟩) hgr).trans r3
        have s4 := (HB4.out.cell (p := ⟨g, ff * 8 + 4, none⟩) hgr).trans r4
        have sf : ∀ i, w4.frozen? ⟨g, i, none⟩ = false := fun i => (HB4.out.frozen (p := ⟨g, i, none⟩) hgr).trans (HRF.out i)
        have s5 := sf (ff * 8 + 1)
        have s6 := sf (ff * 8 + 2)
        have s7 := sf (ff * 8 + 3)
        have s8 := sf (ff * 8 + 4)
        have HFO4 : Hid (FoM w4 p (.slice (some ⟨g, 0, none⟩) m1.length cap) m1) := HFO.out _ HB4.out
        obtain ⟨w5, hw5⟩ : ∃ w5, (((w4.setCell ⟨g, ff * 8 + 1, none⟩ (.int .i64 ff)).setCell ⟨g, ff * 8 + 2, none⟩ (.int .i64 ft)).setCell ⟨g, ff * 8 + 3, none⟩ fw).setCell ⟨g, ff * 8 + 4, none⟩ (.bool fb) = w5 := ⟨_, rfl⟩
        have HF5 : Hid (FoM w5 p (.slice (some ⟨g, 0, none⟩) m1.length cap) (setUp m1 ff ⟨ff, ft, fw, fb⟩)) := by rw [Hid, ← hw5]; exact HFO4.out.putUp hg (x := ff) (by omega) ⟨ff, ft, fw, fb⟩ hEi
        have HK5 : Hid (KoF p (.slice (some ⟨g, 0, none⟩) m.length cap) w4 w5) := by rw [Hid, ← hw5]; exact KoF.putUp (x := ff) (E := ⟨ff, ft, fw, fb⟩)
        have HO5 : Hid (∀ c, c ≠ g → w5.heap[c]? = w4.heap[c]?) := fun c hcg => by rw [← hw5]; exact set4_other hcg
        have HE5 : Hid (Below p w4 w5) := by
          rw [Hid, ← hw5]
          repeat (first | exact Below.refl _ _ | refine Below.setCell ?_ (by simp <;> omega) _)
        have hA5 : EgB w5 Ba (Eg.tn ⟨uf, ut, uw, ub⟩) := HA4.out.same (HO5.out _ (by omega))
        have hJ5 : EgB w5 w.heap.size ⟨ff, ft, fw, fb⟩ := HJ4.out.same (HO5.out _ (by omega))
        have a0 := hA5.c0
        have a1 := hA5.c1
        have a2 := hA5.c2
        have a3 := hA5.c3
        have b0 := hJ5.c0
        have b1 := hJ5.c1
        have b2 := hJ5.c2
        have b3 := hJ5.c3
        have bf := hJ5.fr
        have bf0 := bf 0
        have bf1 := bf 1
        have bf2 := bf 2
        have bf3 := bf 3
        have HJ5 : Hid (EgB w5 w.heap.size ⟨ff, ft, fw, fb⟩) := hJ5
        simp only [Eg.tn] at a0 a1 a2 a3
        clear sf t0 t1 t2 t3 t4 HB3 HA3 bf hA5 hJ5
        go_wp2_with fail
        have HGN : Hid (∀ b', (Value.slice (some ⟨g, 0, none⟩) m1.length cap).ownBlock = some b' → b' ≠ w.heap.size) := fun b' hb' => by
          have : g = b' := by simpa [Value.ownBlock] using hb'
          omega
        have hE6 := HJ5.out.put (Eg.tn ⟨uf, ut, uw, ub⟩)
        have hF6 : FoM _ p (.slice (some ⟨g, 0, none⟩) m1.length cap) (setUp m1 ff ⟨ff, ft, fw, fb⟩) := HF5.out.same (w' := (((w5.setCell ⟨w.heap.size, 0, none⟩ (.int .i64 ut)).setCell ⟨w.heap.size, 1, none⟩ (.int .i64 uf)).setCell ⟨w.heap.size, 2, none⟩ uw).setCell ⟨w.heap.size, 3, none⟩ (.bool (!ub))) (set4_other (by omega)) (fun b' hb' => set4_other (HGN.out b' hb'))
        have hbe : Below p w5 ((((w5.setCell ⟨w.heap.size, 0, none⟩ (.int .i64 ut)).setCell ⟨w.heap.size, 1, none⟩ (.int .i64 uf)).setCell ⟨w.heap.size, 2, none⟩ uw).setCell ⟨w.heap.size, 3, none⟩ (.bool (!ub))) := by
          repeat (first | exact Below.refl _ _ | refine Below.setCell ?_ (by simp <;> omega) _)
        have hko : KoF p (.slice (some ⟨g, 0, none⟩) m.length cap) w ((((w5.setCell ⟨w.heap.size, 0, none⟩ (.int .i64 ut)).setCell ⟨w.heap.size, 1, none⟩ (.int .i64 uf)).setCell ⟨w.heap.size, 2, none⟩ uw).setCell ⟨w.heap.size, 3, none⟩ (.bool (!ub))) := by
          have k5 := (HH.out.ko.trans1 (KoF.below HB4.out)).trans1 HK5.out
          refine ⟨(((k5.ko.trans (KeepsOthers.setCell _ _ _)).trans (KeepsOthers.setCell _ _ _)).trans (KeepsOthers.setCell _ _ _)).trans (KeepsOthers.setCell _ _ _), fun b' h1 h2 h3 => ?_⟩
          exact (set4_other (by omega)).trans (k5.same b' h1 h2 h3)
        refine ⟨⟨setUp m1 ff ⟨ff, ft, fw, fb⟩, eB J e, tn e, q', ?_⟩, ?_⟩
        · refine ⟨by rw [← HG.out]; rw [HG.out]; exact HNX.out, by rw [← hm1]; exact hF6, by rw [← HTN.out]; exact hE6, hko, HH.out.be.trans ((HB4.out.mono (by omega)).trans (HE5.out.trans hbe))⟩
        · have hcn := cNat_eq hE6.c0
          simp only [Eg.tn] at hcn
          rw [HCNT.out, hdq, hcn]
          have : ut = eB J e := HTf.out
          rw [this, hdn]; omega
      · have hz0 : EgB w3 wr.heap.size eg0 := ⟨(hb3.block wr.heap.size (by simp)).trans (by first | exact Deep.blk_alloc_new _ _ | simp [eg0, nilV])⟩
        obtain ⟨W3, hW3⟩ : ∃ W3, (((w3.setCell ⟨wr.heap.size, 0, none⟩ (.int .i64 ut)).setCell ⟨wr.heap.size, 1, none⟩ (.int .i64 uf)).setCell ⟨wr.heap.size, 2, none⟩ uw).setCell ⟨wr.heap.size, 3, none⟩ (.bool (!ub)) = W3 := ⟨_, rfl⟩
        rw [hW3]
        have HA3 : Hid (EgB W3 wr.heap.size (Eg.tn ⟨uf, ut, uw, ub⟩)) := by rw [Hid, ← hW3]; exact hz0.put (Eg.tn ⟨uf, ut, uw, ub⟩)
        have HB3 : Hid (Below wr.heap.size wr W3) := by
          rw [Hid, ← hW3]
          exact Below.setCell (Below.setCell (Below.setCell (Below.setCell hbw3 (Nat.le_refl _) _) (Nat.le_refl _) _) (Nat.le_refl _) _) (Nat.le_refl _) _
        have z3 : wr.heap.size < W3.heap.size := HA3.out.lt
        have zb : wr.heap.size ≤ wr.heap.size := Nat.le_refl _
        clear n0 n1 n2 n3 f0 f1 f2 f3 k0 k1 k2 k3 k4 k5 hb3 hbw3 hs3 hW3 hz0
        have t0 := (HB3.out.cell (p := ⟨p, 0, none⟩) hpr).trans p0
        have t1 := (HB3.out.cell (p := ⟨w.heap.size, 0, none⟩) hbr).trans q0
        have t2 := (HB3.out.cell (p := ⟨w.heap.size, 1, none⟩) hbr).trans q1
        have t3 := (HB3.out.cell (p := ⟨w.heap.size, 2, none⟩) hbr).trans q2
        have t4 := (HB3.out.cell (p := ⟨w.heap.size, 3, none⟩) hbr).trans q3
        go_wp2_with fail
        have g0 := cell_regrown t0
        have g1 := cell_regrown t1
        have g2 := cell_regrown t2
        have g3 := cell_regrown t3
        have g4 := cell_regrown t4
        refine wp_region_quiet_then 9 (by kernel_rfl) (by kernel_rfl) ?_
        simp only [List.take_succ_cons, List.take_zero]
        iterate 9 (go_big_quiet_step (fail))
        refine wpQuiet_nil ?_
        intro w' hw'
        obtain ⟨⟨dr, osr⟩, hw''⟩ := hw'
        subst hw''
        simp only [List.drop_succ_cons, List.drop_zero]
        have HB34 : Hid (Below W3.heap.size W3 (grow (redrawn W3 dr) osr)) := below_regrown W3 dr osr
        generalize grow (redrawn W3 dr) osr = w4 at *
        clear g0 g1 g2 g3 g4
        have HB4 : Hid (Below wr.heap.size wr w4) := HB3.out.trans (HB34.out.mono (by omega))
        have HA4 : Hid (EgB w4 wr.heap.size (Eg.tn ⟨uf, ut, uw, ub⟩)) := HA3.out.same (HB34.out.block _ z3)
        have z4 := HB34.out.size
        have HJ4 : Hid (EgB w4 w.heap.size ⟨ff, ft, fw, fb⟩) := HEG.out.same (HB4.out.block _ hbr)
        have s1 := (HB4.out.cell (p := ⟨g, ff * 8 + 1, none⟩) hgr).trans r1
        have s2 := (HB4.out.cell (p := ⟨g, ff * 8 + 2, none⟩) hgr).trans r2
        have s3 := (HB4.out.cell (p := ⟨g, ff * 8 + 3, none⟩) hgr).trans r3
        have s4 := (HB4.out.cell (p := ⟨g, ff * 8 + 4, none⟩) hgr).trans r4
        have sf : ∀ i, w4.frozen? ⟨g, i, none⟩ = false := fun i => (HB4.out.frozen (p := ⟨g, i, none⟩) hgr).trans (HRF.out i)
        have s5 := sf (ff * 8 + 1)
        have s6 := sf (ff * 8 + 2)
        have s7 := sf (ff * 8 + 3)
        have s8 := sf (ff * 8 + 4)
        have HFO4 : Hid (FoM w4 p (.slice (some ⟨g, 0, none⟩) m1.length cap) m1) := HFO.out _ HB4.out
        obtain ⟨w5, hw5⟩ : ∃ w5, (((w4.setCell ⟨g, ff * 8 + 1, none⟩ (.int .i64 ff)).setCell ⟨g, ff * 8 + 2, none⟩ (.int .i64 ft)).setCell ⟨g, ff * 8 + 3, none⟩ fw).setCell ⟨g, ff * 8 + 4, none⟩ (.bool fb) = w5 := ⟨_, rfl⟩
        have HF5 : Hid (FoM w5 p (.slice (some ⟨g, 0, none⟩) m1.length cap) (setUp m1 ff ⟨ff, ft, fw, fb⟩)) := by rw [Hid, ← hw5]; exact HFO4.out.putUp hg (x := ff) (by omega) ⟨ff, ft, fw, fb⟩ hEi
        have HK5 : Hid (KoF p (.slice (some ⟨g, 0, none⟩) m.length cap) w4 w5) := by rw [Hid, ← hw5]; exact KoF.putUp (x := ff) (E := ⟨ff, ft, fw, fb⟩)
        have HO5 : Hid (∀ c, c ≠ g → w5.heap[c]? = w4.heap[c]?) := fun c hcg => by rw [← hw5]; exact set4_other hcg
        have HE5 : Hid (Below p w4 w5) := by
          rw [Hid, ← hw5]
          repeat (first | exact Below.refl _ _ | refine Below.setCell ?_ (by simp <;> omega) _)
        have hA5 : EgB w5 wr.heap.size (Eg.tn ⟨uf, ut, uw, ub⟩) := HA4.out.same (HO5.out _ (by omega))
        have hJ5 : EgB w5 w.heap.size ⟨ff, ft, fw, fb⟩ := HJ4.out.same (HO5.out _ (by omega))
        have a0 := hA5.c0
        have a1 := hA5.c1
        have a2 := hA5.c2
        have a3 := hA5.c3
        have b0 := hJ5.c0
        have b1 := hJ5.c1
        have b2 := hJ5.c2
        have b3 := hJ5.c3
        have bf := hJ5.fr
        have bf0 := bf 0
        have bf1 := bf 1
        have bf2 := bf 2
        have bf3 := bf 3
        have HJ5 : Hid (EgB w5 w.heap.size ⟨ff, ft, fw, fb⟩) := hJ5
        simp only [Eg.tn] at a0 a1 a2 a3
        clear sf t0 t1 t2 t3 t4 HB3 HA3 bf hA5 hJ5
        go_wp2_with fail
        have HGN : Hid (∀ b', (Value.slice (some ⟨g, 0, none⟩) m1.length cap).ownBlock = some b' → b' ≠ w.heap.size) := fun b' hb' => by
          have : g = b' := by simpa [Value.ownBlock] using hb'
          omega
        have hE6 := HJ5.out.put (Eg.tn ⟨uf, ut, uw, ub⟩)
        have hF6 : FoM _ p (.slice (some ⟨g, 0, none⟩) m1.length cap) (setUp m1 ff ⟨ff, ft, fw, fb⟩) := HF5.out.same (w' := (((w5.setCell ⟨w.heap.size, 0, none⟩ (.int .i64 ut)).setCell ⟨w.heap.size, 1, none⟩ (.int .i64 uf)).setCell ⟨w.heap.size, 2, none⟩ uw).setCell ⟨w.heap.size, 3, none⟩ (.bool (!ub))) (set4_other (by omega)) (fun b' hb' => set4_other (HGN.out b' hb'))
        have hbe : Below p w5 ((((w5.setCell ⟨w.heap.size, 0, none⟩ (.int .i64 ut)).setCell ⟨w.heap.size, 1, none⟩ (.int .i64 uf)).setCell ⟨w.heap.size, 2, none⟩ uw).setCell ⟨w.heap.size, 3, none⟩ (.bool (!ub))) := by
          repeat (first | exact Below.refl _ _ | refine Below.setCell ?_ (by simp <;> omega) _)
        have hko : KoF p (.slice (some ⟨g, 0, none⟩) m.length cap) w ((((w5.setCell ⟨w.heap.size, 0, none⟩ (.int .i64 ut)).setCell ⟨w.heap.size, 1, none⟩ (.int .i64 uf)).setCell ⟨w.heap.size, 2, none⟩ uw).setCell ⟨w.heap.size, 3, none⟩ (.bool (!ub))) := by
          have k5 := (HH.out.ko.trans1 (KoF.below HB4.out)).trans1 HK5.out
          refine ⟨(((k5.ko.trans (KeepsOthers.setCell _ _ _)).trans (KeepsOthers.setCell _ _ _)).trans (KeepsOthers.setCell _ _ _)).trans (KeepsOthers.setCell _ _ _), fun b' h1 h2 h3 => ?_⟩
          exact (set4_other (by omega)).trans (k5.same b' h1 h2 h3)
        refine ⟨⟨setUp m1 ff ⟨ff, ft, fw, fb⟩, eB J e, tn e, q', ?_⟩, ?_⟩
        · refine ⟨by rw [← HG.out]; rw [HG.out]; exact HNX.out, by rw [← hm1]; exact hF6, by rw [← HTN.out]; exact hE6, hko, HH.out.be.trans ((HB4.out.mono (by omega)).trans (HE5.out.trans hbe))⟩
        · have hcn := cNat_eq hE6.c0
          simp only [Eg.tn] at hcn
          rw [HCNT.out, hdq, hcn]
          have : ut = eB J e := HTf.out
          rw [this, hdn]; omega
end Go.Proofs.Ytfnbkffphpidbaa
