/-
  RrNuW, RrNaW.
-/
import Derived.Test.YtaennaoakopgfaaDoorMGSg
import Derived.Test.YtaennaoakopgfaaDoorMGRef
import Derived.Test.YtaennaoakopgfaaDoorMGPk3
import Derived.Test.YtaennaoakopgfaaDoorMPsNam
set_option linter.unusedSimpArgs false
set_option linter.unusedVariables false
namespace Go.Proofs.YtaennaoakopgfaaDoor
open Go.RowKit Go.Lib Go.Sort

/-- May the number stand there? -/
def nuOk (v : Nat) (er : Int) (minus : Bool) : Prop := er = 0 ∧ v ≤ 9223372036854775808 ∧ (v = 9223372036854775808 → minus = true)
def nuV (v : Nat) (minus : Bool) : Int := if minus then -(v : Int) else v

set_option maxHeartbeats 4000000 in
theorem number_bad (w : World) (R : Nat) (s : ByteArray) (pat : Bool) (a o ft : Nat) (minus : Bool) (hM : RdM w R s pat a o ft 0) (hs : s.size ≤ 4096) (v b : Nat) (er : Int) (hN : numI s a = (v, b, er)) (hok : ¬ nuOk v er minus) :
    Calls Tryd.prog 138 #[.pointer (some ⟨R, 0, none⟩), .bool minus] w fun x w' => x = .returned (.slice none 0 0) ∧ RdM w' R s pat a o a 10 ∧ w.grownBy w' (some R) := by
  have hs0 : s.size ≤ maxLen := by unfold maxLen; omega
  have M0 : Hid (RdM w R s pat a o ft 0) := hM
  have B0 : Hid (Below w.heap.size w w) := Below.refl _ _
  obtain ⟨c0, c1, c2, c3, c4, c5⟩ := hM.cells
  have g0 := cell_regrown c0
  have g2 := cell_regrown c2
  have cN : Hid (∀ d os, Calls Tryd.prog 148 #[.string s, .int .i64 (a : Int)] (grow (redrawn w d) os) fun e w'' => e = .returned (.tuple #[.int .u64 (v : Int), .int .i64 (b : Int), .int .i64 er]) ∧ ∃ p : Regrown, w'' = grow (redrawn w p.d) p.os) := fun d os => Calls.regrown_of (by
    have := refNumber_any s (a : Int) (grow (redrawn w d) os) hs0
    rw [hN] at this
    exact this)
  clear hM hN
  have key : er ≠ 0 ∨ (er = 0 ∧ 9223372036854775808 < v) ∨ (er = 0 ∧ v = 9223372036854775808 ∧ minus = false) := by
    unfold nuOk at hok
    by_cases h1 : er = 0
    · by_cases h2 : 9223372036854775808 < v
      · exact .inr (.inl ⟨h1, h2⟩)
      · by_cases h3 : v = 9223372036854775808
        · cases hm : minus
          · exact .inr (.inr ⟨h1, h3, rfl⟩)
          · exact absurd ⟨h1, by omega, fun _ => hm⟩ hok
        · exact absurd ⟨h1, by omega, fun h => absurd h h3⟩ hok
    · exact .inl h1
  clear hok
  go_enter Tryd.func138, Tryd.ntmps138
  go_wp2_with fail
  refine wp_region_quiet_below (by kernel_rfl) (by kernel_rfl) ?_
  iterate 16 (go_big_quiet_step ((go_at_call 148; exact cN.out _ _)))
  refine wpQuiet_nil ?_
  intro _ hw'
  obtain ⟨⟨ds, oss⟩, hw''⟩ := hw'
  subst hw''
  have b' := below_regrown w ds oss
  have M1 : Hid (RdM (grow (redrawn w ds) oss) R s pat a o ft 0) := M0.out.below b'
  have B1 : Hid (Below w.heap.size w (grow (redrawn w ds) oss)) := B0.out.trans (b'.mono B0.out.size)
  generalize grow (redrawn w ds) oss = w1 at *
  clear b'
  obtain ⟨d0, d1, d2, d3, d4, d5⟩ := M1.out.cells
  clear c0 c1 c2 c3 c4 c5 g0 g2 cN
  have cF := rfail_any w1 R s pat a o ft 0 M1.out a 10
  have HB1 : Hid (w.grownBy w1 (some R)) := gr_of_below B1.out _
  rcases key with h | ⟨rfl, h⟩ | ⟨rfl, rfl, rfl⟩
  · have ge : (er != 0) = true := by simp [h]
    clear h
    go_wp2_with fail
    refine cF.mono ?_
    rintro x w2 ⟨rfl, hm, hg⟩
    have HM2 : Hid (RdM w2 R s pat a o a 10) := hm
    have HG2 : Hid (w.grownBy w2 (some R)) := HB1.out.trans hg
    clear hm hg
    go_wp2_with fail
    go_ret
    exact ⟨rfl, HM2.out, HG2.out⟩
  · have gv : (9223372036854775808 : Int) < (v : Int) := by omega
    go_wp2_with fail
    refine cF.mono ?_
    rintro x w2 ⟨rfl, hm, hg⟩
    have HM2 : Hid (RdM w2 R s pat a o a 10) := hm
    have HG2 : Hid (w.grownBy w2 (some R)) := HB1.out.trans hg
    clear hm hg
    go_wp2_with fail
    go_ret
    exact ⟨rfl, HM2.out, HG2.out⟩
  · go_wp2_with fail
    refine cF.mono ?_
    rintro x w2 ⟨rfl, hm, hg⟩
    have HM2 : Hid (RdM w2 R s pat a o a 10) := hm
    have HG2 : Hid (w.grownBy w2 (some R)) := HB1.out.trans hg
    clear hm hg
    go_wp2_with fail
    go_ret
    exact ⟨rfl, HM2.out, HG2.out⟩

/-- One node, new. -/
theorem own_one {W : World} {base : Nat} (hB : base ≤ W.heap.size) (op n : Int) (nm : ByteArray) : OwnN (W.alloc (.cells #[.int .i64 op, .int .i64 n, .string nm, .slice none 0 0] 61)) base (.slice (some ⟨W.heap.size, 0, none⟩) 1 1) [⟨op, n, nm, []⟩] := by
  refine ⟨[(⟨op, n, nm, []⟩, .slice none 0 0)], rfl, ?_, ?_⟩
  · exact World.ownsRow_lit (base := base) (e := 61) (size := 4) W #[.int .i64 op, .int .i64 n, .string nm, .slice none 0 0] 1 (by omega) (by unfold maxLen; omega) (by simp)
  · intro q hq
    have : q = (⟨op, n, nm, []⟩, .slice none 0 0) := by simpa using hq
    subst this
    exact OwnI_nil _ _
theorem neg_wrap (v : Nat) (h : v ≤ 9223372036854775808) : IntKind.i64.wrap (-(IntKind.i64.wrap (v : Int))) = -(v : Int) := by
  simp [IntKind.wrap, IntKind.bits, IntKind.signed]
  omega

set_option maxHeartbeats 4000000 in
theorem number_ok (w : World) (R : Nat) (s : ByteArray) (pat : Bool) (a o ft : Nat) (e : Int) (minus : Bool) (hM : RdM w R s pat a o ft e) (hs : s.size ≤ 4096) (v b : Nat) (er : Int) (hN : numI s a = (v, b, er)) (hok : nuOk v er minus) (hb : b ≤ s.size) :
    Calls Tryd.prog 138 #[.pointer (some ⟨R, 0, none⟩), .bool minus] w fun x w' => (∃ x', x = .returned x' ∧ OwnN w' w.heap.size x' [⟨1, nuV v minus, ⟨#[]⟩, []⟩]) ∧ RdM w' R s pat (skp s b) o ft e ∧ w.grownBy w' (some R) := by
  have hs0 : s.size ≤ maxLen := by unfold maxLen; omega
  have M0 : Hid (RdM w R s pat a o ft e) := hM
  have B0 : Hid (Below w.heap.size w w) := Below.refl _ _
  obtain ⟨c0, c1, c2, c3, c4, c5⟩ := hM.cells
  have g0 := cell_regrown c0
  have g2 := cell_regrown c2
  have cN : Hid (∀ d os, Calls Tryd.prog 148 #[.string s, .int .i64 (a : Int)] (grow (redrawn w d) os) fun e w'' => e = .returned (.tuple #[.int .u64 (v : Int), .int .i64 (b : Int), .int .i64 er]) ∧ ∃ p : Regrown, w'' = grow (redrawn w p.d) p.os) := fun d os => Calls.regrown_of (by
    have := refNumber_any s (a : Int) (grow (redrawn w d) os) hs0
    rw [hN] at this
    exact this)
  clear hM hN
  obtain ⟨rfl, hv, hmx⟩ := hok
  go_enter Tryd.func138, Tryd.ntmps138
  go_wp2_with fail
  refine wp_region_quiet_below (by kernel_rfl) (by kernel_rfl) ?_
  iterate 16 (go_big_quiet_step ((go_at_call 148; exact cN.out _ _)))
  refine wpQuiet_nil ?_
  intro _ hw'
  obtain ⟨⟨ds, oss⟩, hw''⟩ := hw'
  subst hw''
  have b' := below_regrown w ds oss
  have M1 : Hid (RdM (grow (redrawn w ds) oss) R s pat a o ft e) := M0.out.below b'
  have B1 : Hid (Below w.heap.size w (grow (redrawn w ds) oss)) := B0.out.trans (b'.mono B0.out.size)
  generalize grow (redrawn w ds) oss = w1 at *
  clear b'
  obtain ⟨d0, d1, d2, d3, d4, d5⟩ := M1.out.cells
  have df := M1.out.frozen 2
  have hl := M1.out.lt
  clear c0 c1 c2 c3 c4 c5 g0 g2 cN
  have M2 := M1.out.at_ b
  have G2 : Hid (w.grownBy (w1.setCell ⟨R, 2, none⟩ (.int .i64 (b : Int))) (some R)) := gr_setB (gr_of_below B1.out _)
  have cS := rskip_any _ R s pat b o ft e M2 hs hb
  clear M2
  have gv : ¬ (9223372036854775808 : Int) < (v : Int) := by omega
  have zw := B1.out.size
  cases minus with
  | false =>
    have hv2 : v ≤ 9223372036854775807 := by
      by_cases h : v = 9223372036854775808
      · cases hmx h
      · omega
    have gv2 : ((v : Int) == 9223372036854775808) = false := by rw [beq_eq_false_iff_ne]; omega
    have hw : IntKind.i64.wrap (v : Int) = (v : Int) := wrap_nat v hv2
    go_wp2_with fail
    refine cS.mono ?_
    rintro x w3 ⟨rfl, hm, hg⟩
    have HM3 : Hid (RdM w3 R s pat (skp s b) o ft e) := hm
    have HG3 : Hid (w.grownBy w3 (some R)) := G2.out.trans hg
    clear hm hg cS
    go_wp2_with fail
    go_ret
    exact ⟨⟨_, rfl, own_one HG3.out.size 1 (v : Int) ⟨#[]⟩⟩, HM3.out.below ((Below.refl _ _).alloc (Nat.le_refl _) _), HG3.out.trans (gr_of_below ((Below.refl _ _).alloc (Nat.le_refl _) _) _)⟩
  | true =>
    have hw := neg_wrap v hv
    by_cases h63 : v = 9223372036854775808
    · have gv2 : ((v : Int) == 9223372036854775808) = true := by rw [beq_iff_eq]; omega
      have hw64 : wrap64 (-wrap64 (v : Int)) = -(v : Int) := by first | exact hw | (unfold wrap64; omega)
      clear h63
      go_wp2_with fail
      refine cS.mono ?_
      rintro x w3 ⟨rfl, hm, hg⟩
      have HM3 : Hid (RdM w3 R s pat (skp s b) o ft e) := hm
      have HG3 : Hid (w.grownBy w3 (some R)) := G2.out.trans hg
      clear hm hg cS
      go_wp2_with fail
      go_ret
      rw [hw64]
      exact ⟨⟨_, rfl, own_one HG3.out.size 1 (-(v : Int)) ⟨#[]⟩⟩, HM3.out.below ((Below.refl _ _).alloc (Nat.le_refl _) _), HG3.out.trans (gr_of_below ((Below.refl _ _).alloc (Nat.le_refl _) _) _)⟩
    · have gv2 : ((v : Int) == 9223372036854775808) = false := by rw [beq_eq_false_iff_ne]; omega
      have hw1 : IntKind.i64.wrap (v : Int) = (v : Int) := wrap_nat v (by omega)
      rw [hw1] at hw
      clear h63
      go_wp2_with fail
      refine cS.mono ?_
      rintro x w3 ⟨rfl, hm, hg⟩
      have HM3 : Hid (RdM w3 R s pat (skp s b) o ft e) := hm
      have HG3 : Hid (w.grownBy w3 (some R)) := G2.out.trans hg
      clear hm hg cS
      go_wp2_with fail
      go_ret
      exact ⟨⟨_, rfl, own_one HG3.out.size 1 (-(v : Int)) ⟨#[]⟩⟩, HM3.out.below ((Below.refl _ _).alloc (Nat.le_refl _) _), HG3.out.trans (gr_of_below ((Below.refl _ _).alloc (Nat.le_refl _) _) _)⟩
end Go.Proofs.YtaennaoakopgfaaDoor

set_option linter.unusedSimpArgs false
set_option linter.unusedVariables false
namespace Go.Proofs.YtaennaoakopgfaaDoor
open Go.RowKit Go.Lib Go.Sort

set_option maxHeartbeats 4000000 in
/-- A name stands there. -/
theorem name_in (w : World) (R : Nat) (s : ByteArray) (pat : Bool) (a o ft : Nat) (op : Int) (hM : RdM w R s pat a o ft 0) (hs : s.size ≤ 4096) (b : Nat) (hN : spanI s a = ((b : Int), 0)) (hab : a ≤ b) (hb : b ≤ s.size) :
    Calls Tryd.prog 149 #[.pointer (some ⟨R, 0, none⟩), .int .i64 op] w fun x w' =>
      if nameB (s.extract a b) = true then (∃ x', x = .returned x' ∧ OwnN w' w.heap.size x' [⟨op, 0, s.extract a b, []⟩]) ∧ RdM w' R s pat (skp s b) o ft 0 ∧ w.grownBy w' (some R)
      else x = .returned (.slice none 0 0) ∧ RdM w' R s pat a o a 7 ∧ w.grownBy w' (some R) := by
  have hs0 : s.size ≤ maxLen := by unfold maxLen; omega
  obtain ⟨c0, c1, c2, c3, c4, c5⟩ := hM.cells
  have M0 : Hid (RdM w R s pat a o ft 0) := hM
  have cS := refSpan_any s (a : Int) w hs0
  rw [hN] at cS
  have hq0 : (s.extract a b).size ≤ maxLen := Nat.le_trans (ext_sz s a b) hs0
  clear hM hN
  have hai : (a : Int) ≤ (b : Int) := by omega
  have hbi : (b : Int) ≤ (s.size : Int) := by omega
  have hsi : (s.size : Int) ≤ 4096 := by omega
  cases hnm : nameB (s.extract a b) with
  | true =>
    have HP : ∀ (x : Ending) (w' : World), ((∃ x', x = .returned x' ∧ OwnN w' w.heap.size x' [⟨op, 0, s.extract a b, []⟩]) ∧ RdM w' R s pat (skp s b) o ft 0 ∧ w.grownBy w' (some R)) → (if true = true then (∃ x', x = .returned x' ∧ OwnN w' w.heap.size x' [⟨op, 0, s.extract a b, []⟩]) ∧ RdM w' R s pat (skp s b) o ft 0 ∧ w.grownBy w' (some R) else x = .returned (.slice none 0 0) ∧ RdM w' R s pat a o a 7 ∧ w.grownBy w' (some R)) := fun x w' h => by rw [if_pos rfl]; exact h
    refine Calls.mono ?_ HP
    clear HP
    have cM : Hid (∀ W, Calls Tryd.prog 61 #[.string (s.extract a b)] W fun e w' => e = .returned (.bool true) ∧ Below W.heap.size W w') := fun W => by
      have := refName_any (s.extract a b) W hq0
      rw [hnm] at this; exact this
    clear hnm
    go_enter Tryd.func149, Tryd.ntmps149
    go_wp2_with fail
    refine cS.mono ?_
    rintro x w1 ⟨rfl, hb1⟩
    have M1 : Hid (RdM w1 R s pat a o ft 0) := M0.out.below hb1
    obtain ⟨d0, d1, d2, d3, d4, d5⟩ := M1.out.cells
    clear c0 c1 c2 c3 c4 c5 cS
    go_wp2_with fail
    refine (cM.out _).mono ?_
    rintro x w2 ⟨rfl, hb2⟩
    have M2 : Hid (RdM w2 R s pat a o ft 0) := M1.out.below hb2
    have B2 : Hid (Below w.heap.size w w2) := hb1.trans (hb2.mono hb1.size)
    obtain ⟨f0, f1, f2, f3, f4, f5⟩ := M2.out.cells
    have fz := M2.out.frozen 2
    have hl := M2.out.lt
    have cK := rskip_any _ R s pat b o ft 0 (M2.out.at_ b) hs hb
    have G2 : Hid (w.grownBy (w2.setCell ⟨R, 2, none⟩ (.int .i64 (b : Int))) (some R)) := gr_setB (gr_of_below B2.out _)
    clear d0 d1 d2 d3 d4 d5 hb2 hb1
    go_wp2_with fail
    refine cK.mono ?_
    rintro x w3 ⟨rfl, hm, hg⟩
    have HM3 : Hid (RdM w3 R s pat (skp s b) o ft 0) := hm
    have HG3 : Hid (w.grownBy w3 (some R)) := G2.out.trans hg
    clear hm hg cK
    go_wp2_with fail
    go_ret
    exact ⟨⟨_, rfl, own_one HG3.out.size op 0 (s.extract a b)⟩, HM3.out.below ((Below.refl _ _).alloc (Nat.le_refl _) _), HG3.out.trans (gr_of_below ((Below.refl _ _).alloc (Nat.le_refl _) _) _)⟩
  | false =>
    have HP : ∀ (x : Ending) (w' : World), (x = .returned (.slice none 0 0) ∧ RdM w' R s pat a o a 7 ∧ w.grownBy w' (some R)) → (if false = true then (∃ x', x = .returned x' ∧ OwnN w' w.heap.size x' [⟨op, 0, s.extract a b, []⟩]) ∧ RdM w' R s pat (skp s b) o ft 0 ∧ w.grownBy w' (some R) else x = .returned (.slice none 0 0) ∧ RdM w' R s pat a o a 7 ∧ w.grownBy w' (some R)) := fun x w' h => by rw [if_neg (by decide)]; exact h
    refine Calls.mono ?_ HP
    clear HP
    have cM : Hid (∀ W, Calls Tryd.prog 61 #[.string (s.extract a b)] W fun e w' => e = .returned (.bool false) ∧ Below W.heap.size W w') := fun W => by
      have := refName_any (s.extract a b) W hq0
      rw [hnm] at this; exact this
    clear hnm
    go_enter Tryd.func149, Tryd.ntmps149
    go_wp2_with fail
    refine cS.mono ?_
    rintro x w1 ⟨rfl, hb1⟩
    have M1 : Hid (RdM w1 R s pat a o ft 0) := M0.out.below hb1
    obtain ⟨d0, d1, d2, d3, d4, d5⟩ := M1.out.cells
    clear c0 c1 c2 c3 c4 c5 cS
    go_wp2_with fail
    refine (cM.out _).mono ?_
    rintro x w2 ⟨rfl, hb2⟩
    have M2 : Hid (RdM w2 R s pat a o ft 0) := M1.out.below hb2
    have B2 : Hid (Below w.heap.size w w2) := hb1.trans (hb2.mono hb1.size)
    have cF := rfail_any w2 R s pat a o ft 0 M2.out a 7
    clear d0 d1 d2 d3 d4 d5 hb2 hb1
    go_wp2_with fail
    refine cF.mono ?_
    rintro x w3 ⟨rfl, hm, hg⟩
    have HM3 : Hid (RdM w3 R s pat a o a 7) := hm
    have HG3 : Hid (w.grownBy w3 (some R)) := (gr_of_below B2.out _).trans hg
    clear hm hg cF
    go_wp2_with fail
    go_ret
    exact ⟨rfl, HM3.out, HG3.out⟩

set_option maxHeartbeats 4000000 in
/-- No name stands there. -/
theorem name_no (w : World) (R : Nat) (s : ByteArray) (pat : Bool) (a o ft : Nat) (op : Int) (hM : RdM w R s pat a o ft 0) (hs : s.size ≤ 4096) (ha : a ≤ s.size) (b er : Int) (hN : spanI s a = (b, er)) (he : er ≠ 0) :
    Calls Tryd.prog 149 #[.pointer (some ⟨R, 0, none⟩), .int .i64 op] w fun x w' => x = .returned (.slice none 0 0) ∧ RdM w' R s pat a o a (if sgR s pat a = none then 5 else 6) ∧ w.grownBy w' (some R) := by
  have hs0 : s.size ≤ maxLen := by unfold maxLen; omega
  obtain ⟨c0, c1, c2, c3, c4, c5⟩ := hM.cells
  have M0 : Hid (RdM w R s pat a o ft 0) := hM
  have cS := refSpan_any s (a : Int) w hs0
  rw [hN] at cS
  have ge : (er != 0) = true := by simp [he]
  have cG : Hid (∀ W, RdM W R s pat a o ft 0 → Calls Tryd.prog 78 #[.pointer (some ⟨R, 0, none⟩)] W fun x w' => SgRes W R s pat a o ft 0 (sgR s pat a) x w') := fun W h => sign_any W R s pat a o ft 0 h hs ha
  clear hM hN he
  cases hX : sgR s pat a with
  | none =>
    rw [hX] at cG
    rw [if_pos rfl]
    clear hX
    go_enter Tryd.func149, Tryd.ntmps149
    go_wp2_with fail
    refine cS.mono ?_
    rintro x w1 ⟨rfl, hb1⟩
    have M1 : Hid (RdM w1 R s pat a o ft 0) := M0.out.below hb1
    have B1 : Hid (Below w.heap.size w w1) := hb1
    clear c0 c1 c2 c3 c4 c5 cS hb1
    go_wp2_with fail
    refine (cG.out w1 M1.out).mono ?_
    rintro x w2 ⟨rfl, hm2, hg2⟩
    have hm2' : RdM w2 R s pat a o a 5 := hm2
    have G2 : Hid (w.grownBy w2 (some R)) := (gr_of_below B1.out _).trans hg2
    have cF := rfail_any w2 R s pat a o a 5 hm2' a 6
    clear hm2 hm2' hg2
    go_wp2_with fail
    refine cF.mono ?_
    rintro x w3 ⟨rfl, hm, hg⟩
    have HM3 : Hid (RdM w3 R s pat a o a 5) := hm
    have HG3 : Hid (w.grownBy w3 (some R)) := G2.out.trans hg
    clear hm hg cF
    go_wp2_with fail
    go_ret
    exact ⟨rfl, HM3.out, HG3.out⟩
  | some r =>
    rw [hX] at cG
    rw [if_neg (by simp)]
    clear hX
    go_enter Tryd.func149, Tryd.ntmps149
    go_wp2_with fail
    refine cS.mono ?_
    rintro x w1 ⟨rfl, hb1⟩
    have M1 : Hid (RdM w1 R s pat a o ft 0) := M0.out.below hb1
    have B1 : Hid (Below w.heap.size w w1) := hb1
    clear c0 c1 c2 c3 c4 c5 cS hb1
    go_wp2_with fail
    refine (cG.out w1 M1.out).mono ?_
    rintro x w2 ⟨rfl, hb2⟩
    have M2 : Hid (RdM w2 R s pat a o ft 0) := M1.out.below hb2
    have G2 : Hid (w.grownBy w2 (some R)) := gr_of_below (B1.out.trans (hb2.mono B1.out.size)) _
    have cF := rfail_any w2 R s pat a o ft 0 M2.out a 6
    clear hb2
    go_wp2_with fail
    refine cF.mono ?_
    rintro x w3 ⟨rfl, hm, hg⟩
    have HM3 : Hid (RdM w3 R s pat a o a 6) := hm
    have HG3 : Hid (w.grownBy w3 (some R)) := G2.out.trans hg
    clear hm hg cF
    go_wp2_with fail
    go_ret
    exact ⟨rfl, HM3.out, HG3.out⟩
end Go.Proofs.YtaennaoakopgfaaDoor
