/-
  PkPrW, PkRnW, NmPure.
-/
import Derived.Shelf.Unicode.DecodeSlow
import Derived.Laws.RangeAny
import Derived.Shelf.Strings.Builder1
import Derived.Shelf.Small.Utf8
import Derived.Shelf.Small.Bits
import Derived.Shelf.Strings.BuilderF
import Derived.Shelf.Strings.BuilderK
import Derived.Shelf.Strings.BuilderRune
import Derived.Shelf.Utf8.AppendRune
import Derived.Shelf.Strconv.Itoa0
import Derived.Shelf.Strconv.Itoa1
import Derived.Shelf.LaysM
import Derived.Shelf.Strconv.Itoa2
import Derived.Shelf.Strconv.Itoa3
import Derived.Shelf.Strconv.Itoa4
import Derived.Shelf.Strings.Prefix
import Derived.Shelf.Unicode.DecodeAny
import Derived.Test.YtjmccobblpcbhaaDoorProg
import Derived.WalkKit
import Derived.Deep.DeepFit
import Derived.Lib.OthersKept
import Derived.Lib.RuneCountTail
import Derived.Lib.Small
import Derived.Lib.Strings
import Derived.Lib.MapLaws
import Derived.Deep.AppendLies
import Derived.Deep.OwnRows
import Derived.Laws.AppendOwnNone
import Derived.Deep.QuietTactic
import Derived.BigQuiet
import Derived.Deep.RegionWith
import Derived.Laws.DeepStrings4
import Derived.Deep.RegionHeld3
import Derived.Laws.ResultCell
import Derived.Lib.QuietBelow
import Derived.Deep.Heap
import Derived.Laws.Rows
import Derived.Below
import Derived.StillTail
import Derived.Deep.RegionLaw
import Derived.Laws.OwnMore
import Derived.Sort.Walk0
import Derived.Test.YtjmccobblpcbhaaDoorP01
import Derived.Test.YtjmccobblpcbhaaDoorP02
import Derived.Test.YtjmccobblpcbhaaDoorP03
import Derived.Test.YtjmccobblpcbhaaDoorP04
import Derived.Test.YtjmccobblpcbhaaDoorP05
import Derived.Test.YtjmccobblpcbhaaDoorP06
import Derived.Test.YtjmccobblpcbhaaDoorP07
import Derived.Test.YtjmccobblpcbhaaDoorP08
import Derived.Test.YtjmccobblpcbhaaDoorP09
import Derived.Test.YtjmccobblpcbhaaDoorP10
import Derived.Test.YtjmccobblpcbhaaDoorP11
import Derived.Test.YtjmccobblpcbhaaDoorP12
import Derived.Test.YtjmccobblpcbhaaDoorP13
import Derived.Test.YtjmccobblpcbhaaDoorP14
import Derived.Test.YtjmccobblpcbhaaDoorP15
set_option linter.unusedSimpArgs false
set_option linter.unusedVariables false
namespace Go.Proofs.YtjmccobblpcbhaaDoor
open Go.RowKit Go.Lib Go.Sort

def frW (B : Nat) (w : World) : Nat := match w.cell? ⟨B, 3, none⟩ with
  | some (.int .i64 z) => z.toNat
  | _ => 0
theorem PsM.frW {w : World} {B : Nat} {s : ByteArray} {pat : Bool} {st : Ps} {v : Value} (h : PsM w B s pat st v) : frW B w = st.now.from_ := by
  have c : w.cell? ⟨B, 3, none⟩ = some (.int .i64 (st.now.from_ : Int)) := h.cell 3
  unfold Go.Proofs.YtjmccobblpcbhaaDoor.frW
  rw [c]; simp
theorem join_n {s : ByteArray} {st st1 : Ps} {b : Nat × Ps} (op : Int) (ks : List Nat) (hs1 : Stp st st1) (hst : StN s st) (hg : Gr st1 b.2) (hb : StN s b.2) : StN s (psJoin op ks b.2).2 :=
  ⟨(psJoin_ok ⟨op, 0, ⟨#[]⟩, ks.map Int.ofNat⟩ hs1 hg hb.st hst.st.few).1, hb.nm, hb.bk⟩

set_option maxRecDepth 20000 in
set_option maxHeartbeats 8000000 in
theorem pair_step (s : ByteArray) (pat : Bool) (hs : s.size ≤ 4096) (f : Nat) (ih : ∀ g, g ≤ f → RunC s pat g) (w0 w : World) (B : Nat) (st : Ps) (v : Value) (lv : Nat) (hl0 : 0 < lv) (hl9 : lv ≤ 9) (hR : RB w0 w B s pat st v) (hno : psRun s pat (f + 1) (.pair lv) st ≠ .out) :
    Calls Tryd.prog 124 #[.pointer (some ⟨B, 0, none⟩), .int .i64 lv] w fun e w' => AdP w B s pat (psRun s pat (f + 1) (.pair lv) st) e w' := by
  have hBl := hR.mem.lt
  by_cases h8 : 8 < lv
  · have hRes : psRun s pat (f + 1) (.pair lv) st = psRun s pat f .un st := by simp [psRun, h8]
    rw [hRes] at hno ⊢
    have C1 := (ih f (Nat.le_refl _)).un w0 w B st v hR hno
    have g8 : (8 : Int) < (lv : Int) := by omega
    clear hRes ih
    cases h1 : psRun s pat f .un st with
    | out => exact absurd h1 hno
    | bad p er =>
      rw [h1] at C1
      have D1 : Calls Tryd.prog 142 #[.pointer (some ⟨B, 0, none⟩)] w fun e w' => AdBad w B p er e w' := C1
      clear C1 h1 hno hR
      go_enter Tryd.func124, Tryd.ntmps124
      go_wp2_with (first | (go_at_call 142; refine D1.mono ?_; rintro e w1 ⟨rfl, hb1⟩))
      exact ⟨rfl, rfl, hb1⟩
    | ok r =>
      rw [h1] at C1
      have D1 : Calls Tryd.prog 142 #[.pointer (some ⟨B, 0, none⟩)] w fun e w' => AdOk w B s pat r e w' := C1
      clear C1 h1 hno hR
      go_enter Tryd.func124, Tryd.ntmps124
      go_wp2_with (first | (go_at_call 142; refine D1.mono ?_; rintro e w1 ⟨⟨rfl, h1⟩, hb1⟩))
      go_ret
      exact ⟨⟨rfl, h1⟩, hb1⟩
  · have g8 : ¬ (8 : Int) < (lv : Int) := by omega
    have e1 : ((lv + 1 : Nat) : Int) = (lv : Int) + 1 := by omega
    have CP : Hid (∀ g, g ≤ f → ∀ W st v, RB w0 W B s pat st v → psRun s pat g (.pair (lv + 1)) st ≠ .out → Calls Tryd.prog 124 #[.pointer (some ⟨B, 0, none⟩), .int .i64 ((lv : Int) + 1)] W fun e w' => AdP W B s pat (psRun s pat g (.pair (lv + 1)) st) e w') := fun g hg W st v h hn => by
      rw [← e1]; exact (ih g hg).pair w0 W B st v (lv + 1) (by omega) (by omega) h hn
    have hPs : psRun s pat (f + 1) (.pair lv) st = (psRun s pat f (.pair (lv + 1)) st).bind fun a => psRun s pat f (.loop lv a.1) a.2 := by simp [psRun, h8]
    rw [hPs] at hno ⊢
    clear hPs ih e1
    cases h1 : psRun s pat f (.pair (lv + 1)) st with
    | out => exact absurd (by simp [Pr.bind, h1]) hno
    | bad p er =>
      have C1 := CP.out f (Nat.le_refl _) w st v hR (by rw [h1]; simp)
      rw [h1] at C1
      have D1 : Calls Tryd.prog 124 #[.pointer (some ⟨B, 0, none⟩), .int .i64 ((lv : Int) + 1)] w fun e w' => AdBad w B p er e w' := C1
      show Calls _ _ _ _ fun e w' => AdP w B s pat (.bad p er) e w'
      clear C1 h1 hno hR CP
      go_enter Tryd.func124, Tryd.ntmps124
      go_wp2_with (first | (go_at_call 124; refine D1.mono ?_; rintro e w1 ⟨rfl, hb1⟩))
      exact ⟨rfl, rfl, hb1⟩
    | ok a0 =>
      have C1 := CP.out f (Nat.le_refl _) w st v hR (by rw [h1]; simp)
      rw [h1] at C1 hno
      have D1 : Calls Tryd.prog 124 #[.pointer (some ⟨B, 0, none⟩), .int .i64 ((lv : Int) + 1)] w fun e w' => AdOk w B s pat a0 e w' := C1
      have hrun := psRun_ok s pat f (.pair (lv + 1)) st a0 hR.ok.st trivial (Rl.lv_pos (q := .pair (lv + 1)) ⟨by omega, by omega⟩) h1
      have HO1 : Hid (StN s a0.2) := run_n (q := .pair (lv + 1)) hR.ok trivial ⟨by omega, by omega⟩ h1
      have HLT : Hid (a0.1 < a0.2.nodes.length) := hrun.lt
      obtain ⟨X, hX⟩ : ∃ X, psRun s pat f (.loop lv a0.1) a0.2 = X := ⟨_, rfl⟩
      have HX : Hid (psRun s pat f (.loop lv a0.1) a0.2 = X) := hX
      show Calls _ _ _ _ fun e w' => AdP w B s pat (psRun s pat f (.loop lv a0.1) a0.2) e w'
      have HNO : Hid (X ≠ .out) := by
        show X ≠ .out
        rw [← hX]
        exact hno
      rw [hX]
      clear C1 h1 hno hX hrun
      go_enter Tryd.func124, Tryd.ntmps124
      go_wp2_with (go_at_call 124; refine D1.mono ?_; rintro e w1 ⟨⟨rfl, v1, m1⟩, hb1⟩; have R1 := hR.next hb1 m1 HO1.out)
      go_loopw [5] (fun va wr => ∃ (g a : Nat) (st' : Ps) (v' : Value), va = .int .i64 a ∧ g ≤ f ∧ Hid (psRun s pat g (.loop lv a) st' = X) ∧ RB w0 wr B s pat st' v' ∧ a < st'.nodes.length ∧ RowKit.Below B w wr) (fun _ wr => s.size - frW B wr)
      case atStart => exact ⟨f, a0.1, a0.2, v1, rfl, Nat.le_refl _, HX.out, R1, HLT.out, hb1⟩
      case round =>
        obtain ⟨g, a, st', v', rfl, hg, hgx, hRr, hal, hbw⟩ := hrel
        obtain ⟨wa, hwa⟩ : ∃ wa, wa = wr := ⟨_, rfl⟩
        subst hwa
        have hfr := hRr.mem.frW
        have hin := hRr.ok.st.tk.in_
        have d2 : wa.cell? ⟨B, 2, none⟩ = some (.int .i32 st'.now.what) := hRr.mem.cell 2
        have hBa := hRr.mem.lt
        have hma := hRr.mem
        obtain ⟨g, rfl⟩ : ∃ k, g = k + 1 := by
          cases g with
          | zero => exact absurd hgx.out.symm HNO.out
          | succ k => exact ⟨k, rfl⟩
        have hgx' := hgx.out
        have cO := operator_any st'.now.what wa
        by_cases hop : (psOp st'.now.what).2 = lv
        · obtain ⟨w0', w1', w2'⟩ := op_sign hop hl0
          have he := tk_err hRr.ok w1' w2'
          have gop : (((psOp st'.now.what).2 : Int) != (lv : Int)) = false := by simp [hop]
          have C2 := next_any w0 wa B s pat st' v' hRr.env hRr.mem hs (hRr.to he)
          cases h2 : psNx s pat mx63 st' with
          | out => exact absurd h2 (psNx_in _ _ _ _)
          | bad p er =>
            have hXX : X = .bad p er := by rw [← hgx']; simp [psRun, hop, h2, Pr.bind]
            rw [h2] at C2
            have D2 : Calls Tryd.prog 91 #[.pointer (some ⟨B, 0, none⟩)] wa fun e w' => e = .panicked [{ v := fltV p er, recovered := false }] ∧ wa.grownBy w' (some B) := C2
            subst hXX
            clear C2 h2 hgx hgx' HX HNO
            generalize psOp st'.now.what = oc at *
            clear hop
            go_wp2_with (first | (go_at_call 91; refine D2.mono ?_; rintro e w2 ⟨rfl, hg2⟩; have hb2 := below_of_gr hg2 (Nat.le_of_lt hma.lt)) | (go_at_call 143; refine cO.mono ?_; rintro e wo ⟨rfl, rfl⟩))
            exact ⟨rfl, rfl, hbw.trans hb2⟩
          | ok st1 =>
            rw [h2] at C2
            have D2 : Calls Tryd.prog 91 #[.pointer (some ⟨B, 0, none⟩)] wa fun e w' => (e = .returned (.tuple #[]) ∧ PsM w' B s pat st1 v') ∧ wa.grownBy w' (some B) := C2
            have HO2 : Hid (StN s st1) := nx_n hRr.ok he w0' h2
            have hstp := (psNx_ok hRr.ok.st he w0' h2).2
            clear C2
            cases h3 : psRun s pat g (.pair (lv + 1)) st1 with
            | out => exact absurd (by rw [← hgx']; simp [psRun, hop, h2, h3, Pr.bind]) HNO.out
            | bad p er =>
              have hXX : X = .bad p er := by rw [← hgx']; simp [psRun, hop, h2, h3, Pr.bind]
              have D3 : Hid (∀ W v, RB w0 W B s pat st1 v → Calls Tryd.prog 124 #[.pointer (some ⟨B, 0, none⟩), .int .i64 ((lv : Int) + 1)] W fun e w' => AdBad W B p er e w') := fun W v h => by
                have := CP.out g (by omega) W st1 v h (by rw [h3]; simp)
                rw [h3] at this; exact this
              subst hXX
              clear h2 h3 hgx hgx' HX HNO CP hstp
              generalize psOp st'.now.what = oc at *
              clear hop
              go_wp2_with (first | (go_at_call 124; refine (D3.out w2 v' R2).mono ?_; rintro e w3 ⟨rfl, hb3⟩) | (go_at_call 91; refine D2.mono ?_; rintro e w2 ⟨⟨rfl, m2⟩, hg2⟩; have hb2 := below_of_gr hg2 (Nat.le_of_lt hma.lt); have R2 := hRr.next hb2 m2 HO2.out) | (go_at_call 143; refine cO.mono ?_; rintro e wo ⟨rfl, rfl⟩))
              exact ⟨rfl, rfl, (hbw.trans hb2).trans hb3⟩
            | ok b =>
              have D3 : Hid (∀ W v, RB w0 W B s pat st1 v → Calls Tryd.prog 124 #[.pointer (some ⟨B, 0, none⟩), .int .i64 ((lv : Int) + 1)] W fun e w' => AdOk W B s pat b e w') := fun W v h => by
                have := CP.out g (by omega) W st1 v h (by rw [h3]; simp)
                rw [h3] at this; exact this
              have hrun := psRun_ok s pat g (.pair (lv + 1)) st1 b HO2.out.st trivial (Rl.lv_pos (q := .pair (lv + 1)) ⟨by omega, by omega⟩) h3
              have HO3 : Hid (StN s b.2) := run_n (q := .pair (lv + 1)) HO2.out trivial ⟨by omega, by omega⟩ h3
              have HO4 : Hid (StN s (psJoin (psOp st'.now.what).1 [a, b.1] b.2).2) := join_n _ _ hstp hRr.ok hrun.gr HO3.out
              have HJL : Hid ((psJoin (psOp st'.now.what).1 [a, b.1] b.2).1 < (psJoin (psOp st'.now.what).1 [a, b.1] b.2).2.nodes.length) := by
                show b.2.nodes.length < (b.2.nodes ++ [_]).length
                simp
              have HJF : Hid (st'.now.from_ < (psJoin (psOp st'.now.what).1 [a, b.1] b.2).2.now.from_) := by
                show st'.now.from_ < b.2.now.from_
                have := hstp.lt
                have := hrun.gr.le
                omega
              have D4 : Hid (∀ W v, PsM W B s pat b.2 v → Calls Tryd.prog 125 #[.pointer (some ⟨B, 0, none⟩), .int .i64 (psOp st'.now.what).1, .slice (some ⟨W.heap.size, 0, none⟩) 2 2] (W.alloc (.cells #[.int .i64 (a : Int), .int .i64 (b.1 : Int)] 3)) fun e w' => AdOk W B s pat (psJoin (psOp st'.now.what).1 [a, b.1] b.2) e w') := fun W v h => join_new (psOp st'.now.what).1 [a, b.1] (by simp) h (st_len HO3.out hs)
              by_cases hc : (psOp st'.now.what).1 = 15 ∨ (psOp st'.now.what).1 = 16
              · have hXX : X = .ok (psJoin (psOp st'.now.what).1 [a, b.1] b.2) := by rw [← hgx']; simp [psRun, hop, h2, h3, Pr.bind, hc]
                clear h2 h3 hgx hgx' HX HNO CP hstp hrun
                generalize psJoin (psOp st'.now.what).1 [a, b.1] b.2 = r at *
                generalize psOp st'.now.what = oc at *
                clear hop
                subst hXX
                by_cases hc15 : oc.1 = 15
                · have gc : (oc.1 == 15) = true := by simp [hc15]
                  clear hc hc15
                  go_wp2_with (first | (go_at_call 125; refine (D4.out w3 v3 m3).mono ?_; rintro e w4 ⟨⟨rfl, h4⟩, hb4⟩) | (go_at_call 124; refine (D3.out w2 v' R2).mono ?_; rintro e w3 ⟨⟨rfl, v3, m3⟩, hb3⟩; have R3 := R2.next hb3 m3 HO3.out) | (go_at_call 91; refine D2.mono ?_; rintro e w2 ⟨⟨rfl, m2⟩, hg2⟩; have hb2 := below_of_gr hg2 (Nat.le_of_lt hma.lt); have R2 := hRr.next hb2 m2 HO2.out) | (go_at_call 143; refine cO.mono ?_; rintro e wo ⟨rfl, rfl⟩))
                  go_ret
                  exact ⟨⟨rfl, h4⟩, ((hbw.trans hb2).trans hb3).trans hb4⟩
                · have gc : (oc.1 == 15) = false := by simp [hc15]
                  have gc2 : (oc.1 == 16) = true := by simp; omega
                  clear hc hc15
                  go_wp2_with (first | (go_at_call 125; refine (D4.out w3 v3 m3).mono ?_; rintro e w4 ⟨⟨rfl, h4⟩, hb4⟩) | (go_at_call 124; refine (D3.out w2 v' R2).mono ?_; rintro e w3 ⟨⟨rfl, v3, m3⟩, hb3⟩; have R3 := R2.next hb3 m3 HO3.out) | (go_at_call 91; refine D2.mono ?_; rintro e w2 ⟨⟨rfl, m2⟩, hg2⟩; have hb2 := below_of_gr hg2 (Nat.le_of_lt hma.lt); have R2 := hRr.next hb2 m2 HO2.out) | (go_at_call 143; refine cO.mono ?_; rintro e wo ⟨rfl, rfl⟩))
                  go_ret
                  exact ⟨⟨rfl, h4⟩, ((hbw.trans hb2).trans hb3).trans hb4⟩
              · have HXN : Hid (psRun s pat g (.loop lv (psJoin (psOp st'.now.what).1 [a, b.1] b.2).1) (psJoin (psOp st'.now.what).1 [a, b.1] b.2).2 = X) := by
                  show _ = X
                  rw [← hgx']; simp [psRun, hop, h2, h3, Pr.bind, hc]
                clear h2 h3 hgx hgx' HX HNO CP hstp hrun
                generalize psJoin (psOp st'.now.what).1 [a, b.1] b.2 = r at *
                generalize psOp st'.now.what = oc at *
                have gc : (oc.1 == 15) = false := by simp; omega
                have gc2 : (oc.1 == 16) = false := by simp; omega
                clear hop hc
                go_wp2_with (first | (go_at_call 125; refine (D4.out w3 v3 m3).mono ?_; rintro e w4 ⟨⟨rfl, h4⟩, hb4⟩) | (go_at_call 124; refine (D3.out w2 v' R2).mono ?_; rintro e w3 ⟨⟨rfl, v3, m3⟩, hb3⟩; have R3 := R2.next hb3 m3 HO3.out) | (go_at_call 91; refine D2.mono ?_; rintro e w2 ⟨⟨rfl, m2⟩, hg2⟩; have hb2 := below_of_gr hg2 (Nat.le_of_lt hma.lt); have R2 := hRr.next hb2 m2 HO2.out) | (go_at_call 143; refine cO.mono ?_; rintro e wo ⟨rfl, rfl⟩))
                obtain ⟨v4, m4⟩ := h4
                have hin4 := HO4.out.st.tk.in_
                refine ⟨⟨g, r.1, r.2, v4, rfl, by omega, HXN.out, R3.next hb4 m4 HO4.out, HJL.out, ((hbw.trans hb2).trans hb3).trans hb4⟩, ?_⟩
                rw [m4.frW, hfr]
                have := HJF.out
                omega
        · have hXX : X = .ok (a, st') := by rw [← hgx']; simp [psRun, hop]
          subst hXX
          have gop : (((psOp st'.now.what).2 : Int) != (lv : Int)) = true := by simp; omega
          clear hgx hgx' HX HNO CP
          generalize psOp st'.now.what = oc at *
          clear hop
          go_wp2_with (go_at_call 143; refine cO.mono ?_; rintro e wo ⟨rfl, rfl⟩)
          go_ret
          exact ⟨⟨rfl, v', hma⟩, hbw⟩
end Go.Proofs.YtjmccobblpcbhaaDoor

set_option linter.unusedSimpArgs false
set_option linter.unusedVariables false
namespace Go.Proofs.YtjmccobblpcbhaaDoor
open Go.RowKit Go.Lib Go.Sort

theorem runs_any (s : ByteArray) (pat : Bool) (hs : s.size ≤ 4096) : ∀ f, RunC s pat f := by
  intro f
  induction f using Nat.strongRecOn with
  | ind f ih =>
    cases f with
    | zero => exact ⟨fun _ _ _ _ _ _ h => absurd rfl h, fun _ _ _ _ _ _ _ _ _ h => absurd rfl h, fun _ _ _ _ _ _ h => absurd rfl h, fun _ _ _ _ _ _ h => absurd rfl h⟩
    | succ f =>
      exact ⟨cond_step s pat hs f (ih f (by omega)), fun w0 w B st v lv h0 h9 => pair_step s pat hs f (fun g hg => ih g (by omega)) w0 w B st v lv h0 h9, un_step s pat hs f (ih f (by omega)), atom_step s pat hs f (ih f (by omega))⟩

/-- The whole rule, with fuel enough. -/
def psFuel (s : ByteArray) : Nat := 13 * s.size + 12
theorem cond_any (w0 w : World) (B : Nat) (s : ByteArray) (pat : Bool) (st : Ps) (v : Value) (hs : s.size ≤ 4096) (hR : RB w0 w B s pat st v) :
    psRun s pat (psFuel s) .cond st ≠ .out ∧ Calls Tryd.prog 92 #[.pointer (some ⟨B, 0, none⟩)] w fun e w' => AdP w B s pat (psRun s pat (psFuel s) .cond st) e w' := by
  have h : psRun s pat (psFuel s) .cond st ≠ .out := psRun_in s pat (psFuel s) .cond st hR.ok.st trivial trivial (by unfold psFuel; simp only [Rl.w]; have := hR.ok.st.tk.in_; omega)
  exact ⟨h, (runs_any s pat hs _).cond w0 w B st v hR h⟩
end Go.Proofs.YtjmccobblpcbhaaDoor

set_option linter.unusedSimpArgs false
set_option linter.unusedVariables false
namespace Go.Proofs.YtjmccobblpcbhaaDoor
open Go.Lib

/-! ### names -/
theorem nmF_chk (s : ByteArray) : ∀ (f pos n : Nat), nmF s f pos n = true → (chkF s f pos).2 = 0
  | 0, pos, n, h => rfl
  | f + 1, pos, n, h => by
    by_cases hp : pos < s.size
    · rw [nmF_step s f pos n hp] at h
      unfold nmS at h
      split at h
      · simp at h
      · rename_i hk
        have ho : onB (Utf8.decode s pos).1 = true := by
          cases hq : onB (Utf8.decode s pos).1 with
          | true => rfl
          | false => simp [hq] at hk
        rw [chkF_good s f pos hp (good_of_on s pos ho)]
        exact nmF_chk s f _ _ h
    · rw [chkF_end s _ pos hp]
theorem name_chk (s : ByteArray) (h : nameB s = true) : (chk s).2 = 0 := nmF_chk s _ _ _ h
theorem empty_chk (s : ByteArray) (h : s.toList.isEmpty = true) : (chk s).2 = 0 := by
  rw [toList_data] at h
  have hz : s.size = 0 := by
    have : s.data.toList = [] := by simpa using h
    show s.data.size = 0
    rw [← Array.length_toList, this]; rfl
  unfold chk
  rw [chkF_end s _ 0 (by omega)]

theorem nmF_size (s : ByteArray) : ∀ (f pos n : Nat), s.size ≤ pos + f → nmF s f pos n = true → s.size ≤ pos + 4 * (16 - n)
  | 0, pos, n, hf, h => by omega
  | f + 1, pos, n, hf, h => by
    by_cases hp : pos < s.size
    · have hw := width_pos s pos hp
      have hw4 : (Utf8.decode s pos).2 ≤ 4 := by
        rw [decode_at s pos]; exact (decodeN_width _ _ _ _ _).2
      have hn : n < 16 := by
        by_cases hn : 16 ≤ n
        · exfalso
          rw [nmF_step s f pos n hp] at h
          unfold nmS at h
          split at h
          · simp at h
          · rw [nmF_long s f _ (n + 1) (by omega)] at h; simp at h
        · omega
      rw [nmF_step s f pos n hp] at h
      unfold nmS at h
      split at h
      · simp at h
      · have := nmF_size s f _ _ (by omega) h
        omega
    · omega
theorem name_size (s : ByteArray) (h : nameB s = true) : s.size ≤ 64 := by
  have := nmF_size s s.size 0 0 (by omega) h
  omega

theorem form_name {x : Nd} (h : formB x = true) : (chk x.name).2 = 0 ∧ x.name.size ≤ 64 := by
  unfold formB fitB at h
  simp only [Bool.and_eq_true] at h
  obtain ⟨_, h⟩ := h
  split at h
  · exact ⟨name_chk _ h, name_size _ h⟩
  · refine ⟨empty_chk _ h, ?_⟩
    rw [toList_data] at h
    have : x.name.data.toList = [] := by simpa using h
    show x.name.data.size ≤ 64
    rw [← Array.length_toList, this]; simp
end Go.Proofs.YtjmccobblpcbhaaDoor
