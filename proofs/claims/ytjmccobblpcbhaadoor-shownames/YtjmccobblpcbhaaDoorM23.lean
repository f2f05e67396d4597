/-
  PkCdW, PkUnW.
-/
import Derived.Shelf.Unicode.DecodeSlow
import Derived.Laws.RangeAny
import Derived.Shelf.Strings.Builder1
import Derived.Shelf.Small.Utf8
import Derived.Shelf.Small.Bits
import Derived.Shelf.Strings.BuilderF
import Derived.Shelf.Strings.BuilderK
import Derived.Shelf.Strings.BuilderRune
import Derived.Shelf.Utf8.AppendRune
import Derived.Shelf.Strconv.Itoa0
import Derived.Shelf.Strconv.Itoa1
import Derived.Shelf.LaysM
import Derived.Shelf.Strconv.Itoa2
import Derived.Shelf.Strconv.Itoa3
import Derived.Shelf.Strconv.Itoa4
import Derived.Shelf.Strings.Prefix
import Derived.Shelf.Unicode.DecodeAny
import Derived.Test.YtjmccobblpcbhaaDoorProg
import Derived.WalkKit
import Derived.Deep.DeepFit
import Derived.Lib.OthersKept
import Derived.Lib.RuneCountTail
import Derived.Laws.DeepStrings4
import Derived.Deep.AppendLies
import Derived.Deep.OwnRows
import Derived.Laws.AppendOwnNone
import Derived.Deep.QuietTactic
import Derived.BigQuiet
import Derived.Deep.RegionWith
import Derived.Lib.QuietBelow
import Derived.StillTail
import Derived.Below
import Derived.Lib.Small
import Derived.Lib.Strings
import Derived.Lib.MapLaws
import Derived.Deep.RegionHeld3
import Derived.Laws.ResultCell
import Derived.Deep.Heap
import Derived.Laws.Rows
import Derived.Deep.RegionLaw
import Derived.Laws.OwnMore
import Derived.Test.YtjmccobblpcbhaaDoorM01
import Derived.Test.YtjmccobblpcbhaaDoorM02
import Derived.Test.YtjmccobblpcbhaaDoorM03
import Derived.Test.YtjmccobblpcbhaaDoorM04
import Derived.Test.YtjmccobblpcbhaaDoorM05
import Derived.Test.YtjmccobblpcbhaaDoorM06
import Derived.Test.YtjmccobblpcbhaaDoorM07
import Derived.Test.YtjmccobblpcbhaaDoorM08
import Derived.Test.YtjmccobblpcbhaaDoorM09
import Derived.Test.YtjmccobblpcbhaaDoorM13
import Derived.Test.YtjmccobblpcbhaaDoorM15
import Derived.Test.YtjmccobblpcbhaaDoorM16
import Derived.Test.YtjmccobblpcbhaaDoorM17
import Derived.Test.YtjmccobblpcbhaaDoorM18
import Derived.Test.YtjmccobblpcbhaaDoorM19
import Derived.Test.YtjmccobblpcbhaaDoorM20
import Derived.Test.YtjmccobblpcbhaaDoorM21
import Derived.Test.YtjmccobblpcbhaaDoorM22
set_option linter.unusedSimpArgs false
set_option linter.unusedVariables false
namespace Go.Proofs.YtjmccobblpcbhaaDoor
open Go.RowKit Go.Lib Go.Sort

theorem tk_err {s : ByteArray} {st : Ps} (h : StN s st) (h1 : st.now.what ≠ 48) (h2 : st.now.what ≠ 97) : st.now.err = 0 := h.st.tk.sign h1 h2
theorem st_len {s : ByteArray} {st : Ps} (h : StN s st) (hs : s.size ≤ 4096) : st.nodes.length ≤ 100000 := by
  have := h.st.few
  have := h.st.tk.in_
  omega

set_option maxRecDepth 20000 in
set_option maxHeartbeats 8000000 in
theorem cond_step (s : ByteArray) (pat : Bool) (hs : s.size ≤ 4096) (f : Nat) (ih : RunC s pat f) (w0 w : World) (B : Nat) (st : Ps) (v : Value) (hR : RB w0 w B s pat st v) (hno : psRun s pat (f + 1) .cond st ≠ .out) :
    Calls Tryd.prog 92 #[.pointer (some ⟨B, 0, none⟩)] w fun e w' => AdP w B s pat (psRun s pat (f + 1) .cond st) e w' := by
  have c1 : psRun s pat f (.pair 1) st ≠ .out → Calls Tryd.prog 124 #[.pointer (some ⟨B, 0, none⟩), .int .i64 1] w fun e w' => AdP w B s pat (psRun s pat f (.pair 1) st) e w' := fun h => ih.pair w0 w B st v 1 (by omega) (by omega) hR h
  cases h1 : psRun s pat f (.pair 1) st with
  | out => exact absurd (by simp [psRun, h1, Pr.bind]) hno
  | bad p er =>
    have hRes : psRun s pat (f + 1) .cond st = .bad p er := by simp [psRun, h1, Pr.bind]
    rw [hRes]
    have c1' : Calls Tryd.prog 124 #[.pointer (some ⟨B, 0, none⟩), .int .i64 1] w fun e w' => AdBad w B p er e w' := by
      have := c1 (by rw [h1]; simp)
      rw [h1] at this; exact this
    clear c1 hRes h1 hno ih hR
    go_enter Tryd.func92, Tryd.ntmps92
    go_wp2_with (first | (go_at_call 124; refine c1'.mono ?_; rintro e w1 ⟨rfl, hb1⟩))
    exact ⟨rfl, rfl, hb1⟩
  | ok c =>
    have HO1 : Hid (StN s c.2) := run_n (q := .pair 1) hR.ok trivial ⟨by omega, by omega⟩ h1
    have c1' : Calls Tryd.prog 124 #[.pointer (some ⟨B, 0, none⟩), .int .i64 1] w fun e w' => AdOk w B s pat c e w' := by
      have := c1 (by rw [h1]; simp)
      rw [h1] at this; exact this
    clear c1
    by_cases hq : c.2.now.what = 63
    · have he := tk_err HO1.out (by omega) (by omega)
      have C2 : ∀ W v, RB w0 W B s pat c.2 v → Calls Tryd.prog 91 #[.pointer (some ⟨B, 0, none⟩)] W fun e w' => ExP W B s pat v (psNx s pat mx63 c.2) e w' := fun W v h => next_any w0 W B s pat c.2 v h.env h.mem hs (h.to he)
      have gq : (c.2.now.what != 63) = false := by simp [hq]
      cases h2 : psNx s pat mx63 c.2 with
      | out => exact absurd h2 (psNx_in _ _ _ _)
      | bad p er =>
        have hRes : psRun s pat (f + 1) .cond st = .bad p er := by simp [psRun, h1, Pr.bind, hq, h2]
        rw [hRes]
        rw [h2] at C2
        have D2 : Hid (∀ W v, RB w0 W B s pat c.2 v → Calls Tryd.prog 91 #[.pointer (some ⟨B, 0, none⟩)] W fun e w' => e = .panicked [{ v := fltV p er, recovered := false }] ∧ W.grownBy w' (some B)) := C2
        clear C2 hRes h1 h2 hno ih hq
        go_enter Tryd.func92, Tryd.ntmps92
        go_wp2_with (first | (go_at_call 91; refine (D2.out w1 v1 R1).mono ?_; rintro e w2 ⟨rfl, hg2⟩; have hb2 := below_of_gr hg2 (Nat.le_of_lt m1.lt)) | (go_at_call 124; refine c1'.mono ?_; rintro e w1 ⟨⟨rfl, v1, m1⟩, hb1⟩; have R1 := hR.next hb1 m1 HO1.out; have d2 : w1.cell? ⟨B, 2, none⟩ = some (.int .i32 c.2.now.what) := m1.cell 2))
        exact ⟨rfl, rfl, hb1.trans hb2⟩
      | ok st2 =>
        rw [h2] at C2
        have D2 : Hid (∀ W v, RB w0 W B s pat c.2 v → Calls Tryd.prog 91 #[.pointer (some ⟨B, 0, none⟩)] W fun e w' => (e = .returned (.tuple #[]) ∧ PsM w' B s pat st2 v) ∧ W.grownBy w' (some B)) := C2
        have HO2 : Hid (StN s st2) := nx_n HO1.out he (by omega) h2
        have C3 : psRun s pat f .cond st2 ≠ .out → ∀ W v, RB w0 W B s pat st2 v → Calls Tryd.prog 92 #[.pointer (some ⟨B, 0, none⟩)] W fun e w' => AdP W B s pat (psRun s pat f .cond st2) e w' := fun h W v hh => ih.cond w0 W B st2 v hh h
        clear C2
        cases h3 : psRun s pat f .cond st2 with
        | out => exact absurd (by simp [psRun, h1, Pr.bind, hq, h2, h3]) hno
        | bad p er =>
          have hRes : psRun s pat (f + 1) .cond st = .bad p er := by simp [psRun, h1, Pr.bind, hq, h2, h3]
          rw [hRes]
          have C3' := C3 (by rw [h3]; simp)
          rw [h3] at C3'
          have D3 : Hid (∀ W v, RB w0 W B s pat st2 v → Calls Tryd.prog 92 #[.pointer (some ⟨B, 0, none⟩)] W fun e w' => AdBad W B p er e w') := C3'
          clear C3 C3' hRes h1 h2 h3 hno ih hq
          go_enter Tryd.func92, Tryd.ntmps92
          go_wp2_with (first | (go_at_call 92; refine (D3.out w2 v1 R2).mono ?_; rintro e w3 ⟨rfl, hb3⟩) | (go_at_call 91; refine (D2.out w1 v1 R1).mono ?_; rintro e w2 ⟨⟨rfl, m2⟩, hg2⟩; have hb2 := below_of_gr hg2 (Nat.le_of_lt m1.lt); have R2 := R1.next hb2 m2 HO2.out) | (go_at_call 124; refine c1'.mono ?_; rintro e w1 ⟨⟨rfl, v1, m1⟩, hb1⟩; have R1 := hR.next hb1 m1 HO1.out; have d2 : w1.cell? ⟨B, 2, none⟩ = some (.int .i32 c.2.now.what) := m1.cell 2))
          exact ⟨rfl, rfl, (hb1.trans hb2).trans hb3⟩
        | ok a =>
          have C3' := C3 (by rw [h3]; simp)
          rw [h3] at C3'
          have D3 : Hid (∀ W v, RB w0 W B s pat st2 v → Calls Tryd.prog 92 #[.pointer (some ⟨B, 0, none⟩)] W fun e w' => AdOk W B s pat a e w') := C3'
          have HO3 : Hid (StN s a.2) := run_n (q := .cond) HO2.out trivial trivial h3
          have C4 : ∀ W v, RB w0 W B s pat a.2 v → Calls Tryd.prog 93 #[.pointer (some ⟨B, 0, none⟩), .int .i32 58] W fun e w' => ExP W B s pat v (psEx s pat 58 a.2) e w' := fun W v h => expect_any w0 W B s pat a.2 v 58 h.env h.mem hs h.to
          clear C3 C3'
          cases h4 : psEx s pat 58 a.2 with
          | out => exact absurd h4 (psEx_in _ _ _ _)
          | bad p er =>
            have hRes : psRun s pat (f + 1) .cond st = .bad p er := by simp [psRun, h1, Pr.bind, hq, h2, h3, h4]
            rw [hRes]
            rw [h4] at C4
            have D4 : Hid (∀ W v, RB w0 W B s pat a.2 v → Calls Tryd.prog 93 #[.pointer (some ⟨B, 0, none⟩), .int .i32 58] W fun e w' => e = .panicked [{ v := fltV p er, recovered := false }] ∧ W.grownBy w' (some B)) := C4
            clear C4 hRes h1 h2 h3 h4 hno ih hq
            go_enter Tryd.func92, Tryd.ntmps92
            go_wp2_with (first | (go_at_call 93; refine (D4.out w3 v3 R3).mono ?_; rintro e w4 ⟨rfl, hg4⟩; have hb4 := below_of_gr hg4 (Nat.le_of_lt m3.lt)) | (go_at_call 92; refine (D3.out w2 v1 R2).mono ?_; rintro e w3 ⟨⟨rfl, v3, m3⟩, hb3⟩; have R3 := R2.next hb3 m3 HO3.out) | (go_at_call 91; refine (D2.out w1 v1 R1).mono ?_; rintro e w2 ⟨⟨rfl, m2⟩, hg2⟩; have hb2 := below_of_gr hg2 (Nat.le_of_lt m1.lt); have R2 := R1.next hb2 m2 HO2.out) | (go_at_call 124; refine c1'.mono ?_; rintro e w1 ⟨⟨rfl, v1, m1⟩, hb1⟩; have R1 := hR.next hb1 m1 HO1.out; have d2 : w1.cell? ⟨B, 2, none⟩ = some (.int .i32 c.2.now.what) := m1.cell 2))
            exact ⟨rfl, rfl, ((hb1.trans hb2).trans hb3).trans hb4⟩
          | ok st4 =>
            rw [h4] at C4
            have D4 : Hid (∀ W v, RB w0 W B s pat a.2 v → Calls Tryd.prog 93 #[.pointer (some ⟨B, 0, none⟩), .int .i32 58] W fun e w' => (e = .returned (.tuple #[]) ∧ PsM w' B s pat st4 v) ∧ W.grownBy w' (some B)) := C4
            have HO4 : Hid (StN s st4) := ex_n HO3.out (by omega) h4
            have C5 : psRun s pat f .cond st4 ≠ .out → ∀ W v, RB w0 W B s pat st4 v → Calls Tryd.prog 92 #[.pointer (some ⟨B, 0, none⟩)] W fun e w' => AdP W B s pat (psRun s pat f .cond st4) e w' := fun h W v hh => ih.cond w0 W B st4 v hh h
            clear C4
            cases h5 : psRun s pat f .cond st4 with
            | out => exact absurd (by simp [psRun, h1, Pr.bind, hq, h2, h3, h4, h5]) hno
            | bad p er =>
              have hRes : psRun s pat (f + 1) .cond st = .bad p er := by simp [psRun, h1, Pr.bind, hq, h2, h3, h4, h5]
              rw [hRes]
              have C5' := C5 (by rw [h5]; simp)
              rw [h5] at C5'
              have D5 : Hid (∀ W v, RB w0 W B s pat st4 v → Calls Tryd.prog 92 #[.pointer (some ⟨B, 0, none⟩)] W fun e w' => AdBad W B p er e w') := C5'
              clear C5 C5' hRes h1 h2 h3 h4 h5 hno ih hq
              go_enter Tryd.func92, Tryd.ntmps92
              go_wp2_with (first | (go_at_call 92; refine (D5.out w4 v3 R4).mono ?_; rintro e w5 ⟨rfl, hb5⟩) | (go_at_call 93; refine (D4.out w3 v3 R3).mono ?_; rintro e w4 ⟨⟨rfl, m4⟩, hg4⟩; have hb4 := below_of_gr hg4 (Nat.le_of_lt m3.lt); have R4 := R3.next hb4 m4 HO4.out) | (go_at_call 92; refine (D3.out w2 v1 R2).mono ?_; rintro e w3 ⟨⟨rfl, v3, m3⟩, hb3⟩; have R3 := R2.next hb3 m3 HO3.out) | (go_at_call 91; refine (D2.out w1 v1 R1).mono ?_; rintro e w2 ⟨⟨rfl, m2⟩, hg2⟩; have hb2 := below_of_gr hg2 (Nat.le_of_lt m1.lt); have R2 := R1.next hb2 m2 HO2.out) | (go_at_call 124; refine c1'.mono ?_; rintro e w1 ⟨⟨rfl, v1, m1⟩, hb1⟩; have R1 := hR.next hb1 m1 HO1.out; have d2 : w1.cell? ⟨B, 2, none⟩ = some (.int .i32 c.2.now.what) := m1.cell 2))
              exact ⟨rfl, rfl, (((hb1.trans hb2).trans hb3).trans hb4).trans hb5⟩
            | ok b =>
              have hRes : psRun s pat (f + 1) .cond st = .ok (psJoin 17 [c.1, a.1, b.1] b.2) := by simp [psRun, h1, Pr.bind, hq, h2, h3, h4, h5]
              rw [hRes]
              have C5' := C5 (by rw [h5]; simp)
              rw [h5] at C5'
              have D5 : Hid (∀ W v, RB w0 W B s pat st4 v → Calls Tryd.prog 92 #[.pointer (some ⟨B, 0, none⟩)] W fun e w' => AdOk W B s pat b e w') := C5'
              have HO5 : Hid (StN s b.2) := run_n (q := .cond) HO4.out trivial trivial h5
              have D6 : Hid (∀ W v, PsM W B s pat b.2 v → Calls Tryd.prog 125 #[.pointer (some ⟨B, 0, none⟩), .int .i64 17, .slice (some ⟨W.heap.size, 0, none⟩) 3 3] (W.alloc (.cells #[.int .i64 (c.1 : Int), .int .i64 (a.1 : Int), .int .i64 (b.1 : Int)] 3)) fun e w' => AdOk W B s pat (psJoin 17 [c.1, a.1, b.1] b.2) e w') := fun W v h => join_new 17 [c.1, a.1, b.1] (by simp) h (st_len HO5.out hs)
              generalize psJoin 17 [c.1, a.1, b.1] b.2 = r at *
              clear C5 C5' hRes h1 h2 h3 h4 h5 hno ih hq
              go_enter Tryd.func92, Tryd.ntmps92
              go_wp2_with (first | (go_at_call 125; refine (D6.out w5 v5 m5).mono ?_; rintro e w6 ⟨⟨rfl, h6⟩, hb6⟩) | (go_at_call 92; refine (D5.out w4 v3 R4).mono ?_; rintro e w5 ⟨⟨rfl, v5, m5⟩, hb5⟩; have R5 := R4.next hb5 m5 HO5.out) | (go_at_call 93; refine (D4.out w3 v3 R3).mono ?_; rintro e w4 ⟨⟨rfl, m4⟩, hg4⟩; have hb4 := below_of_gr hg4 (Nat.le_of_lt m3.lt); have R4 := R3.next hb4 m4 HO4.out) | (go_at_call 92; refine (D3.out w2 v1 R2).mono ?_; rintro e w3 ⟨⟨rfl, v3, m3⟩, hb3⟩; have R3 := R2.next hb3 m3 HO3.out) | (go_at_call 91; refine (D2.out w1 v1 R1).mono ?_; rintro e w2 ⟨⟨rfl, m2⟩, hg2⟩; have hb2 := below_of_gr hg2 (Nat.le_of_lt m1.lt); have R2 := R1.next hb2 m2 HO2.out) | (go_at_call 124; refine c1'.mono ?_; rintro e w1 ⟨⟨rfl, v1, m1⟩, hb1⟩; have R1 := hR.next hb1 m1 HO1.out; have d2 : w1.cell? ⟨B, 2, none⟩ = some (.int .i32 c.2.now.what) := m1.cell 2))
              go_ret
              exact ⟨⟨rfl, h6⟩, ((((hb1.trans hb2).trans hb3).trans hb4).trans hb5).trans hb6⟩
    · have hRes : psRun s pat (f + 1) .cond st = .ok c := by simp [psRun, h1, Pr.bind, hq]
      rw [hRes]
      have gq : (c.2.now.what != 63) = true := by simp [hq]
      clear hRes h1 hno ih hq
      go_enter Tryd.func92, Tryd.ntmps92
      go_wp2_with (first | (go_at_call 124; refine c1'.mono ?_; rintro e w1 ⟨⟨rfl, v1, m1⟩, hb1⟩; have R1 := hR.next hb1 m1 HO1.out; have d2 : w1.cell? ⟨B, 2, none⟩ = some (.int .i32 c.2.now.what) := m1.cell 2))
      go_ret
      exact ⟨⟨rfl, v1, m1⟩, hb1⟩
end Go.Proofs.YtjmccobblpcbhaaDoor

set_option linter.unusedSimpArgs false
set_option linter.unusedVariables false
namespace Go.Proofs.YtjmccobblpcbhaaDoor
open Go.RowKit Go.Lib Go.Sort

theorem nextUp_nx (w0 w : World) (B : Nat) (s : ByteArray) (pat : Bool) (st : Ps) (v : Value) (most : Nat) (hE : PEnv w0 B w) (hM : PsM w B s pat st v) (hs : s.size ≤ 4096) (hto : st.now.to ≤ s.size) (hm : most ≤ 9223372036854775808) :
    Calls Tryd.prog 123 #[.pointer (some ⟨B, 0, none⟩), .int .u64 most] w fun e w' => ExP w B s pat v (psNx s pat most st) e w' := by
  refine (nextUp_any w0 w B s pat st v most hE hM hs hto hm).mono ?_
  rintro e w' ⟨h1, h2⟩
  exact ⟨Ends.map h1, h2⟩
theorem wrap_min (n : Nat) (h : n ≤ 9223372036854775808) : IntKind.i64.wrap (IntKind.u64.wrap (-(n : Int))) = -(n : Int) := by
  simp [IntKind.wrap, IntKind.bits, IntKind.signed]
  omega
theorem wrap_nat (n : Nat) (h : n ≤ 9223372036854775807) : IntKind.i64.wrap (n : Int) = (n : Int) := by
  simp [IntKind.wrap, IntKind.bits, IntKind.signed]
  omega

set_option maxRecDepth 20000 in
set_option maxHeartbeats 8000000 in
theorem un_step (s : ByteArray) (pat : Bool) (hs : s.size ≤ 4096) (f : Nat) (ih : RunC s pat f) (w0 w : World) (B : Nat) (st : Ps) (v : Value) (hR : RB w0 w B s pat st v) (hno : psRun s pat (f + 1) .un st ≠ .out) :
    Calls Tryd.prog 142 #[.pointer (some ⟨B, 0, none⟩)] w fun e w' => AdP w B s pat (psRun s pat (f + 1) .un st) e w' := by
  have d2 : w.cell? ⟨B, 2, none⟩ = some (.int .i32 st.now.what) := hR.mem.cell 2
  have hBl := hR.mem.lt
  by_cases h45 : st.now.what = 45
  · have he := tk_err hR.ok (by omega) (by omega)
    have g45 : (st.now.what == 45) = true := by simp [h45]
    have cT := touches_any w0 w B s pat st v hR.env hR.mem hs
    have HO1 : Hid (StN s st) := hR.ok
    by_cases hnum : (numI s st.now.to).2.2 = 11
    · have eT : decide ((numI s st.now.to).2.2 ≠ 11) = false := by simp [hnum]
      rw [eT] at cT
      have C2 : ∀ W v, RB w0 W B s pat st v → Calls Tryd.prog 91 #[.pointer (some ⟨B, 0, none⟩)] W fun e w' => ExP W B s pat v (psNx s pat mx63 st) e w' := fun W v h => next_any w0 W B s pat st v h.env h.mem hs (h.to he)
      cases h2 : psNx s pat mx63 st with
      | out => exact absurd h2 (psNx_in _ _ _ _)
      | bad p er =>
        have hRes : psRun s pat (f + 1) .un st = .bad p er := by simp [psRun, h45, hnum, h2, Pr.bind]
        rw [hRes]
        rw [h2] at C2
        have D2 : Hid (∀ W v, RB w0 W B s pat st v → Calls Tryd.prog 91 #[.pointer (some ⟨B, 0, none⟩)] W fun e w' => e = .panicked [{ v := fltV p er, recovered := false }] ∧ W.grownBy w' (some B)) := C2
        clear C2 hRes h2 hno ih he h45 hnum eT
        go_enter Tryd.func142, Tryd.ntmps142
        go_wp2_with (first | (go_at_call 91; refine (D2.out w1 v R1).mono ?_; rintro e w2 ⟨rfl, hg2⟩; have hb2 := below_of_gr hg2 (Nat.le_of_lt m1.lt)) | (go_at_call 155; refine cT.mono ?_; rintro e w1 ⟨rfl, hbt⟩; have hb1 : RowKit.Below B w w1 := hbt.mono (Nat.le_of_lt hBl); have m1 := hR.mem.below hbt; have d2' : w1.cell? ⟨B, 2, none⟩ = some (.int .i32 st.now.what) := m1.cell 2; have R1 := hR.next hb1 m1 HO1.out))
        exact ⟨rfl, rfl, hb1.trans hb2⟩
      | ok st2 =>
        rw [h2] at C2
        have D2 : Hid (∀ W v, RB w0 W B s pat st v → Calls Tryd.prog 91 #[.pointer (some ⟨B, 0, none⟩)] W fun e w' => (e = .returned (.tuple #[]) ∧ PsM w' B s pat st2 v) ∧ W.grownBy w' (some B)) := C2
        have HO2 : Hid (StN s st2) := nx_n hR.ok he (by omega) h2
        have C3 : psRun s pat f .un st2 ≠ .out → ∀ W v, RB w0 W B s pat st2 v → Calls Tryd.prog 142 #[.pointer (some ⟨B, 0, none⟩)] W fun e w' => AdP W B s pat (psRun s pat f .un st2) e w' := fun h W v hh => ih.un w0 W B st2 v hh h
        clear C2
        cases h3 : psRun s pat f .un st2 with
        | out => exact absurd (by simp [psRun, h45, hnum, h2, h3, Pr.bind]) hno
        | bad p er =>
          have hRes : psRun s pat (f + 1) .un st = .bad p er := by simp [psRun, h45, hnum, h2, h3, Pr.bind]
          rw [hRes]
          have C3' := C3 (by rw [h3]; simp)
          rw [h3] at C3'
          have D3 : Hid (∀ W v, RB w0 W B s pat st2 v → Calls Tryd.prog 142 #[.pointer (some ⟨B, 0, none⟩)] W fun e w' => AdBad W B p er e w') := C3'
          clear C3 C3' hRes h2 h3 hno ih he h45 hnum eT
          go_enter Tryd.func142, Tryd.ntmps142
          go_wp2_with (first | (go_at_call 142; refine (D3.out w2 v R2).mono ?_; rintro e w3 ⟨rfl, hb3⟩) | (go_at_call 91; refine (D2.out w1 v R1).mono ?_; rintro e w2 ⟨⟨rfl, m2⟩, hg2⟩; have hb2 := below_of_gr hg2 (Nat.le_of_lt m1.lt); have R2 := R1.next hb2 m2 HO2.out) | (go_at_call 155; refine cT.mono ?_; rintro e w1 ⟨rfl, hbt⟩; have hb1 : RowKit.Below B w w1 := hbt.mono (Nat.le_of_lt hBl); have m1 := hR.mem.below hbt; have d2' : w1.cell? ⟨B, 2, none⟩ = some (.int .i32 st.now.what) := m1.cell 2; have R1 := hR.next hb1 m1 HO1.out))
          exact ⟨rfl, rfl, (hb1.trans hb2).trans hb3⟩
        | ok x =>
          have hRes : psRun s pat (f + 1) .un st = .ok (psJoin 3 [x.1] x.2) := by simp [psRun, h45, hnum, h2, h3, Pr.bind]
          rw [hRes]
          have C3' := C3 (by rw [h3]; simp)
          rw [h3] at C3'
          have D3 : Hid (∀ W v, RB w0 W B s pat st2 v → Calls Tryd.prog 142 #[.pointer (some ⟨B, 0, none⟩)] W fun e w' => AdOk W B s pat x e w') := C3'
          have HO3 : Hid (StN s x.2) := run_n (q := .un) HO2.out trivial trivial h3
          have D4 : Hid (∀ W v, PsM W B s pat x.2 v → Calls Tryd.prog 125 #[.pointer (some ⟨B, 0, none⟩), .int .i64 3, .slice (some ⟨W.heap.size, 0, none⟩) 1 1] (W.alloc (.cells #[.int .i64 (x.1 : Int)] 3)) fun e w' => AdOk W B s pat (psJoin 3 [x.1] x.2) e w') := fun W v h => join_new 3 [x.1] (by simp) h (st_len HO3.out hs)
          generalize psJoin 3 [x.1] x.2 = r at *
          clear C3 C3' hRes h2 h3 hno ih he h45 hnum eT
          go_enter Tryd.func142, Tryd.ntmps142
          go_wp2_with (first | (go_at_call 125; refine (D4.out w3 v3 m3).mono ?_; rintro e w4 ⟨⟨rfl, h4⟩, hb4⟩) | (go_at_call 142; refine (D3.out w2 v R2).mono ?_; rintro e w3 ⟨⟨rfl, v3, m3⟩, hb3⟩; have R3 := R2.next hb3 m3 HO3.out) | (go_at_call 91; refine (D2.out w1 v R1).mono ?_; rintro e w2 ⟨⟨rfl, m2⟩, hg2⟩; have hb2 := below_of_gr hg2 (Nat.le_of_lt m1.lt); have R2 := R1.next hb2 m2 HO2.out) | (go_at_call 155; refine cT.mono ?_; rintro e w1 ⟨rfl, hbt⟩; have hb1 : RowKit.Below B w w1 := hbt.mono (Nat.le_of_lt hBl); have m1 := hR.mem.below hbt; have d2' : w1.cell? ⟨B, 2, none⟩ = some (.int .i32 st.now.what) := m1.cell 2; have R1 := hR.next hb1 m1 HO1.out))
          go_ret
          exact ⟨⟨rfl, h4⟩, ((hb1.trans hb2).trans hb3).trans hb4⟩
    · have eT : decide ((numI s st.now.to).2.2 ≠ 11) = true := by simp [hnum]
      rw [eT] at cT
      have C2 : ∀ W v, RB w0 W B s pat st v → Calls Tryd.prog 123 #[.pointer (some ⟨B, 0, none⟩), .int .u64 9223372036854775808] W fun e w' => ExP W B s pat v (psNx s pat (mx63 + 1) st) e w' := fun W v h => nextUp_nx w0 W B s pat st v (mx63 + 1) h.env h.mem hs (h.to he) (by unfold mx63; omega)
      cases h2 : psNx s pat (mx63 + 1) st with
      | out => exact absurd h2 (psNx_in _ _ _ _)
      | bad p er =>
        have hRes : psRun s pat (f + 1) .un st = .bad p er := by simp [psRun, h45, hnum, h2, Pr.bind]
        rw [hRes]
        rw [h2] at C2
        have D2 : Hid (∀ W v, RB w0 W B s pat st v → Calls Tryd.prog 123 #[.pointer (some ⟨B, 0, none⟩), .int .u64 9223372036854775808] W fun e w' => e = .panicked [{ v := fltV p er, recovered := false }] ∧ W.grownBy w' (some B)) := C2
        clear C2 hRes h2 hno ih h45 hnum eT he
        go_enter Tryd.func142, Tryd.ntmps142
        go_wp2_with (first | (go_at_call 123; refine (D2.out w1 v R1).mono ?_; rintro e w2 ⟨rfl, hg2⟩; have hb2 := below_of_gr hg2 (Nat.le_of_lt m1.lt)) | (go_at_call 155; refine cT.mono ?_; rintro e w1 ⟨rfl, hbt⟩; have hb1 : RowKit.Below B w w1 := hbt.mono (Nat.le_of_lt hBl); have m1 := hR.mem.below hbt; have d2' : w1.cell? ⟨B, 2, none⟩ = some (.int .i32 st.now.what) := m1.cell 2; have R1 := hR.next hb1 m1 HO1.out))
        exact ⟨rfl, rfl, hb1.trans hb2⟩
      | ok st1 =>
        rw [h2] at C2
        have D2 : Hid (∀ W v, RB w0 W B s pat st v → Calls Tryd.prog 123 #[.pointer (some ⟨B, 0, none⟩), .int .u64 9223372036854775808] W fun e w' => (e = .returned (.tuple #[]) ∧ PsM w' B s pat st1 v) ∧ W.grownBy w' (some B)) := C2
        have hO1 := (psNx_ok hR.ok.st he (by omega) h2).1
        have hN1 := psNx_nm h2
        have hRes : psRun s pat (f + 1) .un st = psLit s pat (-(st1.now.n : Int)) st1 := by simp [psRun, h45, hnum, h2, Pr.bind]
        rw [hRes]
        have C3 : ∀ W v, PEnv w0 B W → PsM W B s pat st1 v → Calls Tryd.prog 156 #[.pointer (some ⟨B, 0, none⟩), .int .u64 (IntKind.u64.wrap (-(st1.now.n : Int)))] W fun e w' => AdP W B s pat (psLit s pat (-(st1.now.n : Int)) st1) e w' := fun W v h1 h2 => plit_any w0 W B s pat st1 v _ _ h1 h2 hs (fun he => (hO1.tk.good he).2.1) (by have := hO1.few; have := hO1.tk.in_; omega) (fun a b => wrap_min _ (by have := hN1 a b; unfold mx63 at this; omega))
        have hL := psLit_in s pat (-(st1.now.n : Int)) st1
        clear C2 hRes h2 hno ih h45 hnum eT he hO1 hN1
        cases h3 : psLit s pat (-(st1.now.n : Int)) st1 with
        | out => exact absurd h3 hL
        | bad p er =>
          rw [h3] at C3
          have D3 : Hid (∀ W v, PEnv w0 B W → PsM W B s pat st1 v → Calls Tryd.prog 156 #[.pointer (some ⟨B, 0, none⟩), .int .u64 (IntKind.u64.wrap (-(st1.now.n : Int)))] W fun e w' => AdBad W B p er e w') := C3
          clear C3 h3 hL
          go_enter Tryd.func142, Tryd.ntmps142
          go_wp2_with (first | (go_at_call 156; refine (D3.out w2 v E2 m2).mono ?_; rintro e w3 ⟨rfl, hb3⟩) | (go_at_call 123; refine (D2.out w1 v R1).mono ?_; rintro e w2 ⟨⟨rfl, m2⟩, hg2⟩; have hb2 := below_of_gr hg2 (Nat.le_of_lt m1.lt); have E2 := R1.env.next hb2; have d5 : w2.cell? ⟨B, 5, none⟩ = some (.int .u64 (st1.now.n : Int)) := m2.cell 5) | (go_at_call 155; refine cT.mono ?_; rintro e w1 ⟨rfl, hbt⟩; have hb1 : RowKit.Below B w w1 := hbt.mono (Nat.le_of_lt hBl); have m1 := hR.mem.below hbt; have d2' : w1.cell? ⟨B, 2, none⟩ = some (.int .i32 st.now.what) := m1.cell 2; have R1 := hR.next hb1 m1 HO1.out))
          exact ⟨rfl, rfl, (hb1.trans hb2).trans hb3⟩
        | ok r =>
          rw [h3] at C3
          have D3 : Hid (∀ W v, PEnv w0 B W → PsM W B s pat st1 v → Calls Tryd.prog 156 #[.pointer (some ⟨B, 0, none⟩), .int .u64 (IntKind.u64.wrap (-(st1.now.n : Int)))] W fun e w' => AdOk W B s pat r e w') := C3
          clear C3 h3 hL
          go_enter Tryd.func142, Tryd.ntmps142
          go_wp2_with (first | (go_at_call 156; refine (D3.out w2 v E2 m2).mono ?_; rintro e w3 ⟨⟨rfl, h3⟩, hb3⟩) | (go_at_call 123; refine (D2.out w1 v R1).mono ?_; rintro e w2 ⟨⟨rfl, m2⟩, hg2⟩; have hb2 := below_of_gr hg2 (Nat.le_of_lt m1.lt); have E2 := R1.env.next hb2; have d5 : w2.cell? ⟨B, 5, none⟩ = some (.int .u64 (st1.now.n : Int)) := m2.cell 5) | (go_at_call 155; refine cT.mono ?_; rintro e w1 ⟨rfl, hbt⟩; have hb1 : RowKit.Below B w w1 := hbt.mono (Nat.le_of_lt hBl); have m1 := hR.mem.below hbt; have d2' : w1.cell? ⟨B, 2, none⟩ = some (.int .i32 st.now.what) := m1.cell 2; have R1 := hR.next hb1 m1 HO1.out))
          go_ret
          exact ⟨⟨rfl, h3⟩, (hb1.trans hb2).trans hb3⟩
  · have g45 : (st.now.what == 45) = false := by simp [h45]
    by_cases h126 : st.now.what = 126
    · have he := tk_err hR.ok (by omega) (by omega)
      have g126 : (st.now.what == 126) = true := by simp [h126]
      have HO1 : Hid (StN s st) := hR.ok
      have C2 : ∀ W v, RB w0 W B s pat st v → Calls Tryd.prog 91 #[.pointer (some ⟨B, 0, none⟩)] W fun e w' => ExP W B s pat v (psNx s pat mx63 st) e w' := fun W v h => next_any w0 W B s pat st v h.env h.mem hs (h.to he)
      cases h2 : psNx s pat mx63 st with
      | out => exact absurd h2 (psNx_in _ _ _ _)
      | bad p er =>
        have hRes : psRun s pat (f + 1) .un st = .bad p er := by simp [psRun, h45, h126, h2, Pr.bind]
        rw [hRes]
        rw [h2] at C2
        have D2 : Hid (∀ W v, RB w0 W B s pat st v → Calls Tryd.prog 91 #[.pointer (some ⟨B, 0, none⟩)] W fun e w' => e = .panicked [{ v := fltV p er, recovered := false }] ∧ W.grownBy w' (some B)) := C2
        clear C2 hRes h2 hno ih he h45 h126
        go_enter Tryd.func142, Tryd.ntmps142
        go_wp2_with (first | (go_at_call 91; refine (D2.out w v hR).mono ?_; rintro e w2 ⟨rfl, hg2⟩; have hb2 := below_of_gr hg2 (Nat.le_of_lt hR.mem.lt)))
        exact ⟨rfl, rfl, hb2⟩
      | ok st2 =>
        rw [h2] at C2
        have D2 : Hid (∀ W v, RB w0 W B s pat st v → Calls Tryd.prog 91 #[.pointer (some ⟨B, 0, none⟩)] W fun e w' => (e = .returned (.tuple #[]) ∧ PsM w' B s pat st2 v) ∧ W.grownBy w' (some B)) := C2
        have HO2 : Hid (StN s st2) := nx_n hR.ok he (by omega) h2
        have C3 : psRun s pat f .un st2 ≠ .out → ∀ W v, RB w0 W B s pat st2 v → Calls Tryd.prog 142 #[.pointer (some ⟨B, 0, none⟩)] W fun e w' => AdP W B s pat (psRun s pat f .un st2) e w' := fun h W v hh => ih.un w0 W B st2 v hh h
        clear C2
        cases h3 : psRun s pat f .un st2 with
        | out => exact absurd (by simp [psRun, h45, h126, h2, h3, Pr.bind]) hno
        | bad p er =>
          have hRes : psRun s pat (f + 1) .un st = .bad p er := by simp [psRun, h45, h126, h2, h3, Pr.bind]
          rw [hRes]
          have C3' := C3 (by rw [h3]; simp)
          rw [h3] at C3'
          have D3 : Hid (∀ W v, RB w0 W B s pat st2 v → Calls Tryd.prog 142 #[.pointer (some ⟨B, 0, none⟩)] W fun e w' => AdBad W B p er e w') := C3'
          clear C3 C3' hRes h2 h3 hno ih he h45 h126
          go_enter Tryd.func142, Tryd.ntmps142
          go_wp2_with (first | (go_at_call 142; refine (D3.out w2 v R2).mono ?_; rintro e w3 ⟨rfl, hb3⟩) | (go_at_call 91; refine (D2.out w v hR).mono ?_; rintro e w2 ⟨⟨rfl, m2⟩, hg2⟩; have hb2 := below_of_gr hg2 (Nat.le_of_lt hR.mem.lt); have R2 := hR.next hb2 m2 HO2.out))
          exact ⟨rfl, rfl, (hb2).trans hb3⟩
        | ok x =>
          have hRes : psRun s pat (f + 1) .un st = .ok (psJoin 4 [x.1] x.2) := by simp [psRun, h45, h126, h2, h3, Pr.bind]
          rw [hRes]
          have C3' := C3 (by rw [h3]; simp)
          rw [h3] at C3'
          have D3 : Hid (∀ W v, RB w0 W B s pat st2 v → Calls Tryd.prog 142 #[.pointer (some ⟨B, 0, none⟩)] W fun e w' => AdOk W B s pat x e w') := C3'
          have HO3 : Hid (StN s x.2) := run_n (q := .un) HO2.out trivial trivial h3
          have D4 : Hid (∀ W v, PsM W B s pat x.2 v → Calls Tryd.prog 125 #[.pointer (some ⟨B, 0, none⟩), .int .i64 4, .slice (some ⟨W.heap.size, 0, none⟩) 1 1] (W.alloc (.cells #[.int .i64 (x.1 : Int)] 3)) fun e w' => AdOk W B s pat (psJoin 4 [x.1] x.2) e w') := fun W v h => join_new 4 [x.1] (by simp) h (st_len HO3.out hs)
          generalize psJoin 4 [x.1] x.2 = r at *
          clear C3 C3' hRes h2 h3 hno ih he h45 h126
          go_enter Tryd.func142, Tryd.ntmps142
          go_wp2_with (first | (go_at_call 125; refine (D4.out w3 v3 m3).mono ?_; rintro e w4 ⟨⟨rfl, h4⟩, hb4⟩) | (go_at_call 142; refine (D3.out w2 v R2).mono ?_; rintro e w3 ⟨⟨rfl, v3, m3⟩, hb3⟩; have R3 := R2.next hb3 m3 HO3.out) | (go_at_call 91; refine (D2.out w v hR).mono ?_; rintro e w2 ⟨⟨rfl, m2⟩, hg2⟩; have hb2 := below_of_gr hg2 (Nat.le_of_lt hR.mem.lt); have R2 := hR.next hb2 m2 HO2.out))
          go_ret
          exact ⟨⟨rfl, h4⟩, ((hb2).trans hb3).trans hb4⟩
    · have g126 : (st.now.what == 126) = false := by simp [h126]
      have hRes : psRun s pat (f + 1) .un st = psRun s pat f .atom st := by simp [psRun, h45, h126]
      rw [hRes] at hno ⊢
      have C1 := ih.atom w0 w B st v hR hno
      clear hRes h45 h126 ih
      cases h1 : psRun s pat f .atom st with
      | out => exact absurd h1 hno
      | bad p er =>
        rw [h1] at C1
        have D1 : Calls Tryd.prog 157 #[.pointer (some ⟨B, 0, none⟩)] w fun e w' => AdBad w B p er e w' := C1
        clear C1 h1 hno
        go_enter Tryd.func142, Tryd.ntmps142
        go_wp2_with (first | (go_at_call 157; refine D1.mono ?_; rintro e w1 ⟨rfl, hb1⟩))
        exact ⟨rfl, rfl, hb1⟩
      | ok r =>
        rw [h1] at C1
        have D1 : Calls Tryd.prog 157 #[.pointer (some ⟨B, 0, none⟩)] w fun e w' => AdOk w B s pat r e w' := C1
        clear C1 h1 hno
        go_enter Tryd.func142, Tryd.ntmps142
        go_wp2_with (first | (go_at_call 157; refine D1.mono ?_; rintro e w1 ⟨⟨rfl, h1⟩, hb1⟩))
        go_ret
        exact ⟨⟨rfl, h1⟩, hb1⟩
end Go.Proofs.YtjmccobblpcbhaaDoor
