/-
  PkGrW, PkAmW.
-/
import Derived.Shelf.Unicode.DecodeSlow
import Derived.Laws.RangeAny
import Derived.Shelf.Strings.Builder1
import Derived.Shelf.Small.Utf8
import Derived.Shelf.Small.Bits
import Derived.Shelf.Strings.BuilderF
import Derived.Shelf.Strings.BuilderK
import Derived.Shelf.Strings.BuilderRune
import Derived.Shelf.Utf8.AppendRune
import Derived.Shelf.Strconv.Itoa0
import Derived.Shelf.Strconv.Itoa1
import Derived.Shelf.LaysM
import Derived.Shelf.Strconv.Itoa2
import Derived.Shelf.Strconv.Itoa3
import Derived.Shelf.Strconv.Itoa4
import Derived.Shelf.Strings.Prefix
import Derived.Shelf.Unicode.DecodeAny
import Derived.Test.YtjmccobblpcbhaaDoorProg
import Derived.WalkKit
import Derived.Deep.DeepFit
import Derived.Lib.OthersKept
import Derived.Lib.RuneCountTail
import Derived.Laws.DeepStrings4
import Derived.Deep.AppendLies
import Derived.Deep.OwnRows
import Derived.Laws.AppendOwnNone
import Derived.Deep.QuietTactic
import Derived.BigQuiet
import Derived.Deep.RegionWith
import Derived.Lib.QuietBelow
import Derived.StillTail
import Derived.Below
import Derived.Lib.Small
import Derived.Lib.Strings
import Derived.Lib.MapLaws
import Derived.Deep.RegionHeld3
import Derived.Laws.ResultCell
import Derived.Deep.Heap
import Derived.Laws.Rows
import Derived.Deep.RegionLaw
import Derived.Laws.OwnMore
import Derived.Test.YtjmccobblpcbhaaDoorM01
import Derived.Test.YtjmccobblpcbhaaDoorM02
import Derived.Test.YtjmccobblpcbhaaDoorM03
import Derived.Test.YtjmccobblpcbhaaDoorM04
import Derived.Test.YtjmccobblpcbhaaDoorM05
import Derived.Test.YtjmccobblpcbhaaDoorM06
import Derived.Test.YtjmccobblpcbhaaDoorM07
import Derived.Test.YtjmccobblpcbhaaDoorM08
import Derived.Test.YtjmccobblpcbhaaDoorM09
import Derived.Test.YtjmccobblpcbhaaDoorM13
import Derived.Test.YtjmccobblpcbhaaDoorM15
import Derived.Test.YtjmccobblpcbhaaDoorM16
import Derived.Test.YtjmccobblpcbhaaDoorM17
import Derived.Test.YtjmccobblpcbhaaDoorM18
import Derived.Test.YtjmccobblpcbhaaDoorM19
import Derived.Test.YtjmccobblpcbhaaDoorM20
import Derived.Test.YtjmccobblpcbhaaDoorM21
import Derived.Test.YtjmccobblpcbhaaDoorM22
import Derived.Test.YtjmccobblpcbhaaDoorM23
set_option linter.unusedSimpArgs false
set_option linter.unusedVariables false
namespace Go.Proofs.YtjmccobblpcbhaaDoor
open Go.RowKit Go.Lib Go.Sort

/-- What a group comes to. -/
def psGrp (s : ByteArray) (pat : Bool) (f : Nat) (st : Ps) : Pr (Nat × Ps) :=
  if st.brk = 100 then .bad st.now.from_ 10
  else (psNx s pat mx63 { st with brk := st.brk + 1 }).bind fun st1 => (psRun s pat f .cond st1).bind fun e => (psEx s pat 41 e.2).bind fun st3 => .ok (e.1, { st3 with brk := st3.brk - 1 })

set_option maxRecDepth 20000 in
set_option maxHeartbeats 8000000 in
theorem group_step (s : ByteArray) (pat : Bool) (hs : s.size ≤ 4096) (f : Nat) (ih : RunC s pat f) (w0 w : World) (B : Nat) (st : Ps) (v : Value) (hR : RB w0 w B s pat st v) (hw : st.now.what = 40) (hno : psGrp s pat f st ≠ .out) :
    Calls Tryd.prog 172 #[.pointer (some ⟨B, 0, none⟩)] w fun e w' => AdP w B s pat (psGrp s pat f st) e w' := by
  have hpn : ∀ (x : Value) (w : World), (Instr.panic (.iface 112 x)).run Tryd.prog w = .halt (.panic (.iface 112 x)) w := fun _ _ => rfl
  have d3 : w.cell? ⟨B, 3, none⟩ = some (.int .i64 (st.now.from_ : Int)) := hR.mem.cell 3
  have d8 : w.cell? ⟨B, 8, none⟩ = some (.int .i64 (st.brk : Int)) := hR.mem.cell 8
  have f8 : w.frozen? ⟨B, 8, none⟩ = false := hR.mem.frozen 8
  have hBl := hR.mem.lt
  have hbk := hR.ok.bk
  by_cases h100 : st.brk = 100
  · have hRes : psGrp s pat f st = .bad st.now.from_ 10 := by unfold psGrp; rw [if_pos h100]
    rw [hRes]
    have g100 : ((st.brk : Int) == 100) = true := by rw [beq_iff_eq]; omega
    generalize st.brk = bk at *
    generalize st.now.from_ = fr at *
    clear hRes hno h100 ih hR
    go_enter Tryd.func172, Tryd.ntmps172
    go_wp2_with fail
    exact ⟨rfl, rfl, Below.refl _ _⟩
  · have g100 : ((st.brk : Int) == 100) = false := by rw [beq_eq_false_iff_ne]; omega
    have he0 : st.now.err = 0 := tk_err hR.ok (by omega) (by omega)
    have he : ({ st with brk := st.brk + 1 } : Ps).now.err = 0 := he0
    have hO0 : StN s { st with brk := st.brk + 1 } := ⟨⟨hR.ok.st.tk, hR.ok.st.few⟩, hR.ok.nm, by show st.brk + 1 ≤ 100; omega⟩
    obtain ⟨W1, hW1⟩ : ∃ W1, w.setCell ⟨B, 8, none⟩ (.int .i64 ((st.brk : Int) + 1)) = W1 := ⟨_, rfl⟩
    have m1 : PsM W1 B s pat { st with brk := st.brk + 1 } v := by rw [← hW1]; exact hR.mem.brks (st.brk + 1)
    have hb1 : RowKit.Below B w W1 := by rw [← hW1]; exact (Below.refl _ _).setCell (p := ⟨B, 8, none⟩) (Nat.le_refl B) _
    have R1 : RB w0 W1 B s pat { st with brk := st.brk + 1 } v := hR.next hb1 m1 hO0
    have C2 := next_any w0 W1 B s pat { st with brk := st.brk + 1 } v R1.env R1.mem hs (R1.to he)
    have HW1 : Hid (w.setCell ⟨B, 8, none⟩ (.int .i64 ((st.brk : Int) + 1)) = W1) := hW1
    have hPs : psGrp s pat f st = (psNx s pat mx63 { st with brk := st.brk + 1 }).bind fun st1 => (psRun s pat f .cond st1).bind fun e => (psEx s pat 41 e.2).bind fun st3 => .ok (e.1, { st3 with brk := st3.brk - 1 }) := by unfold psGrp; rw [if_neg h100]
    rw [hPs] at hno ⊢
    clear hPs h100 hW1
    cases h2 : psNx s pat mx63 { st with brk := st.brk + 1 } with
    | out => exact absurd h2 (psNx_in _ _ _ _)
    | bad p er =>
      rw [h2] at C2
      have D2 : Calls Tryd.prog 91 #[.pointer (some ⟨B, 0, none⟩)] W1 fun e w' => e = .panicked [{ v := fltV p er, recovered := false }] ∧ W1.grownBy w' (some B) := C2
      show Calls _ _ _ _ fun e w' => AdP w B s pat (.bad p er) e w'
      generalize hbk' : st.brk = bk at *
      clear C2 h2 hno ih hw
      go_enter Tryd.func172, Tryd.ntmps172
      go_wp2_with fail
      rw [HW1.out]
      refine D2.mono ?_
      rintro e w2 ⟨rfl, hg2⟩
      exact ⟨rfl, rfl, hb1.trans (below_of_gr hg2 (Nat.le_of_lt m1.lt))⟩
    | ok st1 =>
      rw [h2] at C2 hno
      have D2 : Calls Tryd.prog 91 #[.pointer (some ⟨B, 0, none⟩)] W1 fun e w' => (e = .returned (.tuple #[]) ∧ PsM w' B s pat st1 v) ∧ W1.grownBy w' (some B) := C2
      have HO2 : Hid (StN s st1) := nx_n hO0 he (by show st.now.what ≠ 0; omega) h2
      have hk1 := (psNx_keeps h2).2
      have C3 : psRun s pat f .cond st1 ≠ .out → ∀ W v, RB w0 W B s pat st1 v → Calls Tryd.prog 92 #[.pointer (some ⟨B, 0, none⟩)] W fun e w' => AdP W B s pat (psRun s pat f .cond st1) e w' := fun h W v hh => ih.cond w0 W B st1 v hh h
      show Calls _ _ _ _ fun e w' => AdP w B s pat ((psRun s pat f .cond st1).bind fun e => (psEx s pat 41 e.2).bind fun st3 => .ok (e.1, { st3 with brk := st3.brk - 1 })) e w'
      cases h3 : psRun s pat f .cond st1 with
      | out => exact absurd (by simp [Pr.bind, h3]) hno
      | bad p er =>
        have C3' := C3 (by rw [h3]; simp)
        rw [h3] at C3'
        have D3 : Hid (∀ W v, RB w0 W B s pat st1 v → Calls Tryd.prog 92 #[.pointer (some ⟨B, 0, none⟩)] W fun e w' => AdBad W B p er e w') := C3'
        show Calls _ _ _ _ fun e w' => AdP w B s pat (.bad p er) e w'
        clear C2 C3 C3' h2 h3 hno ih hw hk1
        generalize hbk' : st.brk = bk at *
        go_enter Tryd.func172, Tryd.ntmps172
        go_wp2_with fail
        rw [HW1.out]
        refine D2.mono ?_
        rintro e w2 ⟨⟨rfl, m2⟩, hg2⟩
        have hb2 := below_of_gr hg2 (Nat.le_of_lt m1.lt)
        have R2 := R1.next hb2 m2 HO2.out
        go_wp2_with (go_at_call 92; refine (D3.out w2 v R2).mono ?_; rintro e w3 ⟨rfl, hb3⟩)
        exact ⟨rfl, rfl, (hb1.trans hb2).trans hb3⟩
      | ok x =>
        have C3' := C3 (by rw [h3]; simp)
        rw [h3] at C3'
        have D3 : Hid (∀ W v, RB w0 W B s pat st1 v → Calls Tryd.prog 92 #[.pointer (some ⟨B, 0, none⟩)] W fun e w' => AdOk W B s pat x e w') := C3'
        have HO3 : Hid (StN s x.2) := run_n (q := .cond) HO2.out trivial trivial h3
        have hk3 := (psRun_ok s pat f .cond st1 x HO2.out.st trivial (Rl.lv_pos (q := .cond) trivial) h3).gr.brk
        have C4 : ∀ W v, RB w0 W B s pat x.2 v → Calls Tryd.prog 93 #[.pointer (some ⟨B, 0, none⟩), .int .i32 41] W fun e w' => ExP W B s pat v (psEx s pat 41 x.2) e w' := fun W v h => expect_any w0 W B s pat x.2 v 41 h.env h.mem hs h.to
        show Calls _ _ _ _ fun e w' => AdP w B s pat ((psEx s pat 41 x.2).bind fun st3 => .ok (x.1, { st3 with brk := st3.brk - 1 })) e w'
        cases h4 : psEx s pat 41 x.2 with
        | out => exact absurd h4 (psEx_in _ _ _ _)
        | bad p er =>
          rw [h4] at C4
          have D4 : Hid (∀ W v, RB w0 W B s pat x.2 v → Calls Tryd.prog 93 #[.pointer (some ⟨B, 0, none⟩), .int .i32 41] W fun e w' => e = .panicked [{ v := fltV p er, recovered := false }] ∧ W.grownBy w' (some B)) := C4
          show Calls _ _ _ _ fun e w' => AdP w B s pat (.bad p er) e w'
          clear C2 C3 C3' C4 h2 h3 h4 hno ih hw hk1 hk3
          generalize hbk' : st.brk = bk at *
          go_enter Tryd.func172, Tryd.ntmps172
          go_wp2_with fail
          rw [HW1.out]
          refine D2.mono ?_
          rintro e w2 ⟨⟨rfl, m2⟩, hg2⟩
          have hb2 := below_of_gr hg2 (Nat.le_of_lt m1.lt)
          have R2 := R1.next hb2 m2 HO2.out
          go_wp2_with (first | (go_at_call 93; refine (D4.out w3 v3 R3).mono ?_; rintro e w4 ⟨rfl, hg4⟩; have hb4 := below_of_gr hg4 (Nat.le_of_lt m3.lt)) | (go_at_call 92; refine (D3.out w2 v R2).mono ?_; rintro e w3 ⟨⟨rfl, v3, m3⟩, hb3⟩; have R3 := R2.next hb3 m3 HO3.out))
          exact ⟨rfl, rfl, ((hb1.trans hb2).trans hb3).trans hb4⟩
        | ok st3 =>
          rw [h4] at C4
          have D4 : Hid (∀ W v, RB w0 W B s pat x.2 v → Calls Tryd.prog 93 #[.pointer (some ⟨B, 0, none⟩), .int .i32 41] W fun e w' => (e = .returned (.tuple #[]) ∧ PsM w' B s pat st3 v) ∧ W.grownBy w' (some B)) := C4
          have HO4 : Hid (StN s st3) := ex_n HO3.out (by omega) h4
          have hk4 := (psEx_keeps h4).2
          have hk5 : st3.brk = st.brk + 1 := by rw [hk4, hk3, hk1]
          show Calls _ _ _ _ fun e w' => AdP w B s pat (.ok (x.1, { st3 with brk := st3.brk - 1 })) e w'
          have e5 : st3.brk - 1 = st.brk := by omega
          rw [e5]
          have HK5 : Hid (st3.brk = st.brk + 1) := hk5
          clear C2 C3 C3' C4 h2 h3 h4 hno ih hw hk1 hk3 hk4 hk5 e5
          generalize hbk' : st.brk = bk at *
          go_enter Tryd.func172, Tryd.ntmps172
          go_wp2_with fail
          rw [HW1.out]
          refine D2.mono ?_
          rintro e w2 ⟨⟨rfl, m2⟩, hg2⟩
          have hb2 := below_of_gr hg2 (Nat.le_of_lt m1.lt)
          have R2 := R1.next hb2 m2 HO2.out
          go_wp2_with (first | (go_at_call 93; refine (D4.out w3 v3 R3).mono ?_; rintro e w4 ⟨⟨rfl, m4⟩, hg4⟩; have hb4 := below_of_gr hg4 (Nat.le_of_lt m3.lt); have R4 := R3.next hb4 m4 HO4.out; have q8 : w4.cell? ⟨B, 8, none⟩ = some (.int .i64 ((bk : Int) + 1)) := (by have := m4.cell 8; rw [HK5.out] at this; exact this); have qf8 : w4.frozen? ⟨B, 8, none⟩ = false := m4.frozen 8) | (go_at_call 92; refine (D3.out w2 v R2).mono ?_; rintro e w3 ⟨⟨rfl, v3, m3⟩, hb3⟩; have R3 := R2.next hb3 m3 HO3.out))
          go_ret
          refine ⟨⟨rfl, v3, ?_⟩, (((hb1.trans hb2).trans hb3).trans hb4).setCell (p := ⟨B, 8, none⟩) (Nat.le_refl B) _⟩
          have := m4.brks bk
          simpa using this

end Go.Proofs.YtjmccobblpcbhaaDoor

set_option linter.unusedSimpArgs false
set_option linter.unusedVariables false
namespace Go.Proofs.YtjmccobblpcbhaaDoor
open Go.RowKit Go.Lib Go.Sort

set_option maxRecDepth 20000 in
set_option maxHeartbeats 8000000 in
theorem atom_step (s : ByteArray) (pat : Bool) (hs : s.size ≤ 4096) (f : Nat) (ih : RunC s pat f) (w0 w : World) (B : Nat) (st : Ps) (v : Value) (hR : RB w0 w B s pat st v) (hno : psRun s pat (f + 1) .atom st ≠ .out) :
    Calls Tryd.prog 157 #[.pointer (some ⟨B, 0, none⟩)] w fun e w' => AdP w B s pat (psRun s pat (f + 1) .atom st) e w' := by
  have hpn : ∀ (x : Value) (w : World), (Instr.panic (.iface 112 x)).run Tryd.prog w = .halt (.panic (.iface 112 x)) w := fun _ _ => rfl
  have d2 : w.cell? ⟨B, 2, none⟩ = some (.int .i32 st.now.what) := hR.mem.cell 2
  have d3 : w.cell? ⟨B, 3, none⟩ = some (.int .i64 (st.now.from_ : Int)) := hR.mem.cell 3
  have d5 : w.cell? ⟨B, 5, none⟩ = some (.int .u64 (st.now.n : Int)) := hR.mem.cell 5
  have hBl := hR.mem.lt
  by_cases h48 : st.now.what = 48
  · have g48 : (st.now.what == 48) = true := by simp [h48]
    have hRes : psRun s pat (f + 1) .atom st = psLit s pat st.now.n st := by simp [psRun, h48]
    rw [hRes]
    have C1 := plit_any w0 w B s pat st v (st.now.n : Int) (st.now.n : Int) hR.env hR.mem hs hR.to (hR.len hs) (fun a b => wrap_nat _ (by have := hR.ok.nm a b; unfold mx63 at this; omega))
    have hL := psLit_in s pat (st.now.n : Int) st
    generalize psLit s pat (st.now.n : Int) st = X at *
    clear hRes hno ih h48
    cases X with
    | out => exact absurd rfl hL
    | bad p er =>
      have D1 : Calls Tryd.prog 156 #[.pointer (some ⟨B, 0, none⟩), .int .u64 (st.now.n : Int)] w fun e w' => AdBad w B p er e w' := C1
      clear C1 hL hR
      go_enter Tryd.func157, Tryd.ntmps157
      go_wp2_with (first | (go_at_call 156; refine D1.mono ?_; rintro e w1 ⟨rfl, hb1⟩))
      exact ⟨rfl, rfl, hb1⟩
    | ok r =>
      have D1 : Calls Tryd.prog 156 #[.pointer (some ⟨B, 0, none⟩), .int .u64 (st.now.n : Int)] w fun e w' => AdOk w B s pat r e w' := C1
      clear C1 hL hR
      go_enter Tryd.func157, Tryd.ntmps157
      go_wp2_with (first | (go_at_call 156; refine D1.mono ?_; rintro e w1 ⟨⟨rfl, h1⟩, hb1⟩))
      go_ret
      exact ⟨⟨rfl, h1⟩, hb1⟩
  · have g48 : (st.now.what == 48) = false := by simp [h48]
    by_cases h97 : st.now.what = 97
    · have g97 : (st.now.what == 97) = true := by simp [h97]
      have hRes : psRun s pat (f + 1) .atom st = psNamed s pat 2 st := by simp [psRun, h97]
      rw [hRes]
      have C1 := pnamed_any w0 w B s pat st v 2 hR.env hR.mem hs hR.to hR.ok.st.tk.name (hR.len hs)
      have hL := psNamed_in s pat 2 st
      generalize psNamed s pat 2 st = X at *
      clear hRes hno ih h48 h97
      cases X with
      | out => exact absurd rfl hL
      | bad p er =>
        have D1 : Calls Tryd.prog 171 #[.pointer (some ⟨B, 0, none⟩), .int .i64 2] w fun e w' => AdBad w B p er e w' := C1
        clear C1 hL hR
        go_enter Tryd.func157, Tryd.ntmps157
        go_wp2_with (first | (go_at_call 171; refine D1.mono ?_; rintro e w1 ⟨rfl, hb1⟩))
        exact ⟨rfl, rfl, hb1⟩
      | ok r =>
        have D1 : Calls Tryd.prog 171 #[.pointer (some ⟨B, 0, none⟩), .int .i64 2] w fun e w' => AdOk w B s pat r e w' := C1
        clear C1 hL hR
        go_enter Tryd.func157, Tryd.ntmps157
        go_wp2_with (first | (go_at_call 171; refine D1.mono ?_; rintro e w1 ⟨⟨rfl, h1⟩, hb1⟩))
        go_ret
        exact ⟨⟨rfl, h1⟩, hb1⟩
    · have g97 : (st.now.what == 97) = false := by simp [h97]
      by_cases h64 : st.now.what = 64
      · have g64 : (st.now.what == 64) = true := by simp [h64]
        have he := tk_err hR.ok h48 h97
        have C1 := next_any w0 w B s pat st v hR.env hR.mem hs (hR.to he)
        cases h1 : psNx s pat mx63 st with
        | out => exact absurd h1 (psNx_in _ _ _ _)
        | bad p er =>
          have hRes : psRun s pat (f + 1) .atom st = .bad p er := by simp [psRun, h64, h1, Pr.bind]
          rw [hRes]
          rw [h1] at C1
          have D1 : Calls Tryd.prog 91 #[.pointer (some ⟨B, 0, none⟩)] w fun e w' => e = .panicked [{ v := fltV p er, recovered := false }] ∧ w.grownBy w' (some B) := C1
          have hm := hR.mem
          clear C1 hRes h1 hno ih h48 h97 h64 he
          go_enter Tryd.func157, Tryd.ntmps157
          go_wp2_with (first | (go_at_call 91; refine D1.mono ?_; rintro e w1 ⟨rfl, hg1⟩; have hb1 := below_of_gr hg1 (Nat.le_of_lt hm.lt)))
          exact ⟨rfl, rfl, hb1⟩
        | ok st1 =>
          rw [h1] at C1
          have D1 : Calls Tryd.prog 91 #[.pointer (some ⟨B, 0, none⟩)] w fun e w' => (e = .returned (.tuple #[]) ∧ PsM w' B s pat st1 v) ∧ w.grownBy w' (some B) := C1
          have HO1 : Hid (StN s st1) := nx_n hR.ok he (by omega) h1
          have hRes : psRun s pat (f + 1) .atom st = psNamed s pat 18 st1 := by simp [psRun, h64, h1, Pr.bind]
          rw [hRes]
          have C2 : ∀ W v, RB w0 W B s pat st1 v → Calls Tryd.prog 171 #[.pointer (some ⟨B, 0, none⟩), .int .i64 18] W fun e w' => AdP W B s pat (psNamed s pat 18 st1) e w' := fun W v h => pnamed_any w0 W B s pat st1 v 18 h.env h.mem hs h.to h.ok.st.tk.name (h.len hs)
          have hL := psNamed_in s pat 18 st1
          generalize psNamed s pat 18 st1 = X at *
          have hm := hR.mem
          clear C1 hRes h1 hno ih h48 h97 h64 he
          cases X with
          | out => exact absurd rfl hL
          | bad p er =>
            have D2 : Hid (∀ W v, RB w0 W B s pat st1 v → Calls Tryd.prog 171 #[.pointer (some ⟨B, 0, none⟩), .int .i64 18] W fun e w' => AdBad W B p er e w') := C2
            clear C2 hL
            go_enter Tryd.func157, Tryd.ntmps157
            go_wp2_with (first | (go_at_call 171; refine (D2.out w1 v R1).mono ?_; rintro e w2 ⟨rfl, hb2⟩) | (go_at_call 91; refine D1.mono ?_; rintro e w1 ⟨⟨rfl, m1⟩, hg1⟩; have hb1 := below_of_gr hg1 (Nat.le_of_lt hm.lt); have R1 := hR.next hb1 m1 HO1.out))
            exact ⟨rfl, rfl, hb1.trans hb2⟩
          | ok r =>
            have D2 : Hid (∀ W v, RB w0 W B s pat st1 v → Calls Tryd.prog 171 #[.pointer (some ⟨B, 0, none⟩), .int .i64 18] W fun e w' => AdOk W B s pat r e w') := C2
            clear C2 hL
            go_enter Tryd.func157, Tryd.ntmps157
            go_wp2_with (first | (go_at_call 171; refine (D2.out w1 v R1).mono ?_; rintro e w2 ⟨⟨rfl, h2⟩, hb2⟩) | (go_at_call 91; refine D1.mono ?_; rintro e w1 ⟨⟨rfl, m1⟩, hg1⟩; have hb1 := below_of_gr hg1 (Nat.le_of_lt hm.lt); have R1 := hR.next hb1 m1 HO1.out))
            go_ret
            exact ⟨⟨rfl, h2⟩, hb1.trans hb2⟩
      · have g64 : (st.now.what == 64) = false := by simp [h64]
        by_cases h40 : st.now.what = 40
        · have g40 : (st.now.what == 40) = true := by simp [h40]
          have hRes : psRun s pat (f + 1) .atom st = psGrp s pat f st := by simp [psRun, h40, psGrp]
          rw [hRes] at hno ⊢
          have C1 := group_step s pat hs f ih w0 w B st v hR h40 hno
          generalize psGrp s pat f st = X at *
          clear hRes ih h48 h97 h64 h40
          cases X with
          | out => exact absurd rfl hno
          | bad p er =>
            have D1 : Calls Tryd.prog 172 #[.pointer (some ⟨B, 0, none⟩)] w fun e w' => AdBad w B p er e w' := C1
            clear C1 hno hR
            go_enter Tryd.func157, Tryd.ntmps157
            go_wp2_with (first | (go_at_call 172; refine D1.mono ?_; rintro e w1 ⟨rfl, hb1⟩))
            exact ⟨rfl, rfl, hb1⟩
          | ok r =>
            have D1 : Calls Tryd.prog 172 #[.pointer (some ⟨B, 0, none⟩)] w fun e w' => AdOk w B s pat r e w' := C1
            clear C1 hno hR
            go_enter Tryd.func157, Tryd.ntmps157
            go_wp2_with (first | (go_at_call 172; refine D1.mono ?_; rintro e w1 ⟨⟨rfl, h1⟩, hb1⟩))
            go_ret
            exact ⟨⟨rfl, h1⟩, hb1⟩
        · have g40 : (st.now.what == 40) = false := by simp [h40]
          have hRes : psRun s pat (f + 1) .atom st = .bad st.now.from_ 6 := by simp [psRun, h48, h97, h64, h40]
          rw [hRes]
          clear hRes hno ih h48 h97 h64 h40 hR
          go_enter Tryd.func157, Tryd.ntmps157
          go_wp2_with fail
          exact ⟨rfl, rfl, Below.refl _ _⟩
end Go.Proofs.YtjmccobblpcbhaaDoor
