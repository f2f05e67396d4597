/-
  PkPrW, PkRnW, PkHoW, PkOpW.
-/
import Derived.Shelf.Unicode.DecodeSlow
import Derived.Laws.RangeAny
import Derived.Shelf.Strings.Builder1
import Derived.Shelf.Small.Utf8
import Derived.Shelf.Small.Bits
import Derived.Shelf.Strings.BuilderF
import Derived.Shelf.Strings.BuilderK
import Derived.Shelf.Strings.BuilderRune
import Derived.Shelf.Utf8.AppendRune
import Derived.Shelf.Strconv.Itoa0
import Derived.Shelf.Strconv.Itoa1
import Derived.Shelf.LaysM
import Derived.Shelf.Strconv.Itoa2
import Derived.Shelf.Strconv.Itoa3
import Derived.Shelf.Strconv.Itoa4
import Derived.Shelf.Strings.Prefix
import Derived.Shelf.Unicode.DecodeAny
import Derived.Test.YtjmccobblpcbhaaDoorProg
import Derived.WalkKit
import Derived.Deep.DeepFit
import Derived.Lib.OthersKept
import Derived.Lib.RuneCountTail
import Derived.Lib.MapLaws
import Derived.Sort.Walk0
import Derived.Laws.DeepStrings4
import Derived.Lib.ItoaNum
import Derived.Deep.AppendLies
import Derived.Deep.OwnRows
import Derived.Laws.AppendOwnNone
import Derived.Deep.QuietTactic
import Derived.BigQuiet
import Derived.Deep.RegionWith
import Derived.Maps.OwnSet
import Derived.StringKeys
import Derived.Lib.QuietBelow
import Derived.StillTail
import Derived.Below
import Derived.Lib.Small
import Derived.Lib.Strings
import Derived.Deep.RegionHeld3
import Derived.Laws.ResultCell
import Derived.Deep.Heap
import Derived.Laws.Rows
import Derived.Deep.RegionLaw
import Derived.Laws.OwnMore
import Derived.Test.YtjmccobblpcbhaaDoorM01
import Derived.Test.YtjmccobblpcbhaaDoorM02
import Derived.Test.YtjmccobblpcbhaaDoorM03
import Derived.Test.YtjmccobblpcbhaaDoorM04
import Derived.Test.YtjmccobblpcbhaaDoorM05
import Derived.Test.YtjmccobblpcbhaaDoorM06
import Derived.Test.YtjmccobblpcbhaaDoorM07
import Derived.Test.YtjmccobblpcbhaaDoorM08
import Derived.Test.YtjmccobblpcbhaaDoorM09
import Derived.Test.YtjmccobblpcbhaaDoorM11
import Derived.Test.YtjmccobblpcbhaaDoorM12
import Derived.Test.YtjmccobblpcbhaaDoorM13
import Derived.Test.YtjmccobblpcbhaaDoorM15
import Derived.Test.YtjmccobblpcbhaaDoorM16
import Derived.Test.YtjmccobblpcbhaaDoorM17
import Derived.Test.YtjmccobblpcbhaaDoorM18
import Derived.Test.YtjmccobblpcbhaaDoorM19
import Derived.Test.YtjmccobblpcbhaaDoorM20
import Derived.Test.YtjmccobblpcbhaaDoorM21
import Derived.Test.YtjmccobblpcbhaaDoorM22
import Derived.Test.YtjmccobblpcbhaaDoorM23
import Derived.Test.YtjmccobblpcbhaaDoorM24
set_option linter.unusedSimpArgs false
set_option linter.unusedVariables false
namespace Go.Proofs.YtjmccobblpcbhaaDoor
open Go.RowKit Go.Lib Go.Sort

def frW (B : Nat) (w : World) : Nat := match w.cell? ⟨B, 3, none⟩ with
  | some (.int .i64 z) => z.toNat
  | _ => 0
theorem PsM.frW {w : World} {B : Nat} {s : ByteArray} {pat : Bool} {st : Ps} {v : Value} (h : PsM w B s pat st v) : frW B w = st.now.from_ := by
  have c : w.cell? ⟨B, 3, none⟩ = some (.int .i64 (st.now.from_ : Int)) := h.cell 3
  unfold Go.Proofs.YtjmccobblpcbhaaDoor.frW
  rw [c]; simp
theorem join_n {s : ByteArray} {st st1 : Ps} {b : Nat × Ps} (op : Int) (ks : List Nat) (hs1 : Stp st st1) (hst : StN s st) (hg : Gr st1 b.2) (hb : StN s b.2) : StN s (psJoin op ks b.2).2 :=
  ⟨(psJoin_ok ⟨op, 0, ⟨#[]⟩, ks.map Int.ofNat⟩ hs1 hg hb.st hst.st.few).1, hb.nm, hb.bk⟩

set_option maxRecDepth 20000 in
set_option maxHeartbeats 8000000 in
theorem pair_step (s : ByteArray) (pat : Bool) (hs : s.size ≤ 4096) (f : Nat) (ih : ∀ g, g ≤ f → RunC s pat g) (w0 w : World) (B : Nat) (st : Ps) (v : Value) (lv : Nat) (hl0 : 0 < lv) (hl9 : lv ≤ 9) (hR : RB w0 w B s pat st v) (hno : psRun s pat (f + 1) (.pair lv) st ≠ .out) :
    Calls Tryd.prog 124 #[.pointer (some ⟨B, 0, none⟩), .int .i64 lv] w fun e w' => AdP w B s pat (psRun s pat (f + 1) (.pair lv) st) e w' := by
  have hBl := hR.mem.lt
  by_cases h8 : 8 < lv
  · have hRes : psRun s pat (f + 1) (.pair lv) st = psRun s pat f .un st := by simp [psRun, h8]
    rw [hRes] at hno ⊢
    have C1 := (ih f (Nat.le_refl _)).un w0 w B st v hR hno
    have g8 : (8 : Int) < (lv : Int) := by omega
    clear hRes ih
    cases h1 : psRun s pat f .un st with
    | out => exact absurd h1 hno
    | bad p er =>
      rw [h1] at C1
      have D1 : Calls Tryd.prog 142 #[.pointer (some ⟨B, 0, none⟩)] w fun e w' => AdBad w B p er e w' := C1
      clear C1 h1 hno hR
      go_enter Tryd.func124, Tryd.ntmps124
      go_wp2_with (first | (go_at_call 142; refine D1.mono ?_; rintro e w1 ⟨rfl, hb1⟩))
      exact ⟨rfl, rfl, hb1⟩
    | ok r =>
      rw [h1] at C1
      have D1 : Calls Tryd.prog 142 #[.pointer (some ⟨B, 0, none⟩)] w fun e w' => AdOk w B s pat r e w' := C1
      clear C1 h1 hno hR
      go_enter Tryd.func124, Tryd.ntmps124
      go_wp2_with (first | (go_at_call 142; refine D1.mono ?_; rintro e w1 ⟨⟨rfl, h1⟩, hb1⟩))
      go_ret
      exact ⟨⟨rfl, h1⟩, hb1⟩
  · have g8 : ¬ (8 : Int) < (lv : Int) := by omega
    have e1 : ((lv + 1 : Nat) : Int) = (lv : Int) + 1 := by omega
    have CP : Hid (∀ g, g ≤ f → ∀ W st v, RB w0 W B s pat st v → psRun s pat g (.pair (lv + 1)) st ≠ .out → Calls Tryd.prog 124 #[.pointer (some ⟨B, 0, none⟩), .int .i64 ((lv : Int) + 1)] W fun e w' => AdP W B s pat (psRun s pat g (.pair (lv + 1)) st) e w') := fun g hg W st v h hn => by
      rw [← e1]; exact (ih g hg).pair w0 W B st v (lv + 1) (by omega) (by omega) h hn
    have hPs : psRun s pat (f + 1) (.pair lv) st = (psRun s pat f (.pair (lv + 1)) st).bind fun a => psRun s pat f (.loop lv a.1) a.2 := by simp [psRun, h8]
    rw [hPs] at hno ⊢
    clear hPs ih e1
    cases h1 : psRun s pat f (.pair (lv + 1)) st with
    | out => exact absurd (by simp [Pr.bind, h1]) hno
    | bad p er =>
      have C1 := CP.out f (Nat.le_refl _) w st v hR (by rw [h1]; simp)
      rw [h1] at C1
      have D1 : Calls Tryd.prog 124 #[.pointer (some ⟨B, 0, none⟩), .int .i64 ((lv : Int) + 1)] w fun e w' => AdBad w B p er e w' := C1
      show Calls _ _ _ _ fun e w' => AdP w B s pat (.bad p er) e w'
      clear C1 h1 hno hR CP
      go_enter Tryd.func124, Tryd.ntmps124
      go_wp2_with (first | (go_at_call 124; refine D1.mono ?_; rintro e w1 ⟨rfl, hb1⟩))
      exact ⟨rfl, rfl, hb1⟩
    | ok a0 =>
      have C1 := CP.out f (Nat.le_refl _) w st v hR (by rw [h1]; simp)
      rw [h1] at C1 hno
      have D1 : Calls Tryd.prog 124 #[.pointer (some ⟨B, 0, none⟩), .int .i64 ((lv : Int) + 1)] w fun e w' => AdOk w B s pat a0 e w' := C1
      have hrun := psRun_ok s pat f (.pair (lv + 1)) st a0 hR.ok.st trivial (Rl.lv_pos (q := .pair (lv + 1)) ⟨by omega, by omega⟩) h1
      have HO1 : Hid (StN s a0.2) := run_n (q := .pair (lv + 1)) hR.ok trivial ⟨by omega, by omega⟩ h1
      have HLT : Hid (a0.1 < a0.2.nodes.length) := hrun.lt
      obtain ⟨X, hX⟩ : ∃ X, psRun s pat f (.loop lv a0.1) a0.2 = X := ⟨_, rfl⟩
      have HX : Hid (psRun s pat f (.loop lv a0.1) a0.2 = X) := hX
      show Calls _ _ _ _ fun e w' => AdP w B s pat (psRun s pat f (.loop lv a0.1) a0.2) e w'
      have HNO : Hid (X ≠ .out) := by
        show X ≠ .out
        rw [← hX]
        exact hno
      rw [hX]
      clear C1 h1 hno hX hrun
      go_enter Tryd.func124, Tryd.ntmps124
      go_wp2_with (go_at_call 124; refine D1.mono ?_; rintro e w1 ⟨⟨rfl, v1, m1⟩, hb1⟩; have R1 := hR.next hb1 m1 HO1.out)
      go_loopw [5] (fun va wr => ∃ (g a : Nat) (st' : Ps) (v' : Value), va = .int .i64 a ∧ g ≤ f ∧ Hid (psRun s pat g (.loop lv a) st' = X) ∧ RB w0 wr B s pat st' v' ∧ a < st'.nodes.length ∧ RowKit.Below B w wr) (fun _ wr => s.size - frW B wr)
      case atStart => exact ⟨f, a0.1, a0.2, v1, rfl, Nat.le_refl _, HX.out, R1, HLT.out, hb1⟩
      case round =>
        obtain ⟨g, a, st', v', rfl, hg, hgx, hRr, hal, hbw⟩ := hrel
        obtain ⟨wa, hwa⟩ : ∃ wa, wa = wr := ⟨_, rfl⟩
        subst hwa
        have hfr := hRr.mem.frW
        have hin := hRr.ok.st.tk.in_
        have d2 : wa.cell? ⟨B, 2, none⟩ = some (.int .i32 st'.now.what) := hRr.mem.cell 2
        have hBa := hRr.mem.lt
        have hma := hRr.mem
        obtain ⟨g, rfl⟩ : ∃ k, g = k + 1 := by
          cases g with
          | zero => exact absurd hgx.out.symm HNO.out
          | succ k => exact ⟨k, rfl⟩
        have hgx' := hgx.out
        have cO := operator_any st'.now.what wa
        by_cases hop : (psOp st'.now.what).2 = lv
        · obtain ⟨w0', w1', w2'⟩ := op_sign hop hl0
          have he := tk_err hRr.ok w1' w2'
          have gop : (((psOp st'.now.what).2 : Int) != (lv : Int)) = false := by simp [hop]
          have C2 := next_any w0 wa B s pat st' v' hRr.env hRr.mem hs (hRr.to he)
          cases h2 : psNx s pat mx63 st' with
          | out => exact absurd h2 (psNx_in _ _ _ _)
          | bad p er =>
            have hXX : X = .bad p er := by rw [← hgx']; simp [psRun, hop, h2, Pr.bind]
            rw [h2] at C2
            have D2 : Calls Tryd.prog 91 #[.pointer (some ⟨B, 0, none⟩)] wa fun e w' => e = .panicked [{ v := fltV p er, recovered := false }] ∧ wa.grownBy w' (some B) := C2
            subst hXX
            clear C2 h2 hgx hgx' HX HNO
            generalize psOp st'.now.what = oc at *
            clear hop
            go_wp2_with (first | (go_at_call 91; refine D2.mono ?_; rintro e w2 ⟨rfl, hg2⟩; have hb2 := below_of_gr hg2 (Nat.le_of_lt hma.lt)) | (go_at_call 143; refine cO.mono ?_; rintro e wo ⟨rfl, rfl⟩))
            exact ⟨rfl, rfl, hbw.trans hb2⟩
          | ok st1 =>
            rw [h2] at C2
            have D2 : Calls Tryd.prog 91 #[.pointer (some ⟨B, 0, none⟩)] wa fun e w' => (e = .returned (.tuple #[]) ∧ PsM w' B s pat st1 v') ∧ wa.grownBy w' (some B) := C2
            have HO2 : Hid (StN s st1) := nx_n hRr.ok he w0' h2
            have hstp := (psNx_ok hRr.ok.st he w0' h2).2
            clear C2
            cases h3 : psRun s pat g (.pair (lv + 1)) st1 with
            | out => exact absurd (by rw [← hgx']; simp [psRun, hop, h2, h3, Pr.bind]) HNO.out
            | bad p er =>
              have hXX : X = .bad p er := by rw [← hgx']; simp [psRun, hop, h2, h3, Pr.bind]
              have D3 : Hid (∀ W v, RB w0 W B s pat st1 v → Calls Tryd.prog 124 #[.pointer (some ⟨B, 0, none⟩), .int .i64 ((lv : Int) + 1)] W fun e w' => AdBad W B p er e w') := fun W v h => by
                have := CP.out g (by omega) W st1 v h (by rw [h3]; simp)
                rw [h3] at this; exact this
              subst hXX
              clear h2 h3 hgx hgx' HX HNO CP hstp
              generalize psOp st'.now.what = oc at *
              clear hop
              go_wp2_with (first | (go_at_call 124; refine (D3.out w2 v' R2).mono ?_; rintro e w3 ⟨rfl, hb3⟩) | (go_at_call 91; refine D2.mono ?_; rintro e w2 ⟨⟨rfl, m2⟩, hg2⟩; have hb2 := below_of_gr hg2 (Nat.le_of_lt hma.lt); have R2 := hRr.next hb2 m2 HO2.out) | (go_at_call 143; refine cO.mono ?_; rintro e wo ⟨rfl, rfl⟩))
              exact ⟨rfl, rfl, (hbw.trans hb2).trans hb3⟩
            | ok b =>
              have D3 : Hid (∀ W v, RB w0 W B s pat st1 v → Calls Tryd.prog 124 #[.pointer (some ⟨B, 0, none⟩), .int .i64 ((lv : Int) + 1)] W fun e w' => AdOk W B s pat b e w') := fun W v h => by
                have := CP.out g (by omega) W st1 v h (by rw [h3]; simp)
                rw [h3] at this; exact this
              have hrun := psRun_ok s pat g (.pair (lv + 1)) st1 b HO2.out.st trivial (Rl.lv_pos (q := .pair (lv + 1)) ⟨by omega, by omega⟩) h3
              have HO3 : Hid (StN s b.2) := run_n (q := .pair (lv + 1)) HO2.out trivial ⟨by omega, by omega⟩ h3
              have HO4 : Hid (StN s (psJoin (psOp st'.now.what).1 [a, b.1] b.2).2) := join_n _ _ hstp hRr.ok hrun.gr HO3.out
              have HJL : Hid ((psJoin (psOp st'.now.what).1 [a, b.1] b.2).1 < (psJoin (psOp st'.now.what).1 [a, b.1] b.2).2.nodes.length) := by
                show b.2.nodes.length < (b.2.nodes ++ [_]).length
                simp
              have HJF : Hid (st'.now.from_ < (psJoin (psOp st'.now.what).1 [a, b.1] b.2).2.now.from_) := by
                show st'.now.from_ < b.2.now.from_
                have := hstp.lt
                have := hrun.gr.le
                omega
              have D4 : Hid (∀ W v, PsM W B s pat b.2 v → Calls Tryd.prog 125 #[.pointer (some ⟨B, 0, none⟩), .int .i64 (psOp st'.now.what).1, .slice (some ⟨W.heap.size, 0, none⟩) 2 2] (W.alloc (.cells #[.int .i64 (a : Int), .int .i64 (b.1 : Int)] 3)) fun e w' => AdOk W B s pat (psJoin (psOp st'.now.what).1 [a, b.1] b.2) e w') := fun W v h => join_new (psOp st'.now.what).1 [a, b.1] (by simp) h (st_len HO3.out hs)
              by_cases hc : (psOp st'.now.what).1 = 15 ∨ (psOp st'.now.what).1 = 16
              · have hXX : X = .ok (psJoin (psOp st'.now.what).1 [a, b.1] b.2) := by rw [← hgx']; simp [psRun, hop, h2, h3, Pr.bind, hc]
                clear h2 h3 hgx hgx' HX HNO CP hstp hrun
                generalize psJoin (psOp st'.now.what).1 [a, b.1] b.2 = r at *
                generalize psOp st'.now.what = oc at *
                clear hop
                subst hXX
                by_cases hc15 : oc.1 = 15
                · have gc : (oc.1 == 15) = true := by simp [hc15]
                  clear hc hc15
                  go_wp2_with (first | (go_at_call 125; refine (D4.out w3 v3 m3).mono ?_; rintro e w4 ⟨⟨rfl, h4⟩, hb4⟩) | (go_at_call 124; refine (D3.out w2 v' R2).mono ?_; rintro e w3 ⟨⟨rfl, v3, m3⟩, hb3⟩; have R3 := R2.next hb3 m3 HO3.out) | (go_at_call 91; refine D2.mono ?_; rintro e w2 ⟨⟨rfl, m2⟩, hg2⟩; have hb2 := below_of_gr hg2 (Nat.le_of_lt hma.lt); have R2 := hRr.next hb2 m2 HO2.out) | (go_at_call 143; refine cO.mono ?_; rintro e wo ⟨rfl, rfl⟩))
                  go_ret
                  exact ⟨⟨rfl, h4⟩, ((hbw.trans hb2).trans hb3).trans hb4⟩
                · have gc : (oc.1 == 15) = false := by simp [hc15]
                  have gc2 : (oc.1 == 16) = true := by simp; omega
                  clear hc hc15
                  go_wp2_with (first | (go_at_call 125; refine (D4.out w3 v3 m3).mono ?_; rintro e w4 ⟨⟨rfl, h4⟩, hb4⟩) | (go_at_call 124; refine (D3.out w2 v' R2).mono ?_; rintro e w3 ⟨⟨rfl, v3, m3⟩, hb3⟩; have R3 := R2.next hb3 m3 HO3.out) | (go_at_call 91; refine D2.mono ?_; rintro e w2 ⟨⟨rfl, m2⟩, hg2⟩; have hb2 := below_of_gr hg2 (Nat.le_of_lt hma.lt); have R2 := hRr.next hb2 m2 HO2.out) | (go_at_call 143; refine cO.mono ?_; rintro e wo ⟨rfl, rfl⟩))
                  go_ret
                  exact ⟨⟨rfl, h4⟩, ((hbw.trans hb2).trans hb3).trans hb4⟩
              · have HXN : Hid (psRun s pat g (.loop lv (psJoin (psOp st'.now.what).1 [a, b.1] b.2).1) (psJoin (psOp st'.now.what).1 [a, b.1] b.2).2 = X) := by
                  show _ = X
                  rw [← hgx']; simp [psRun, hop, h2, h3, Pr.bind, hc]
                clear h2 h3 hgx hgx' HX HNO CP hstp hrun
                generalize psJoin (psOp st'.now.what).1 [a, b.1] b.2 = r at *
                generalize psOp st'.now.what = oc at *
                have gc : (oc.1 == 15) = false := by simp; omega
                have gc2 : (oc.1 == 16) = false := by simp; omega
                clear hop hc
                go_wp2_with (first | (go_at_call 125; refine (D4.out w3 v3 m3).mono ?_; rintro e w4 ⟨⟨rfl, h4⟩, hb4⟩) | (go_at_call 124; refine (D3.out w2 v' R2).mono ?_; rintro e w3 ⟨⟨rfl, v3, m3⟩, hb3⟩; have R3 := R2.next hb3 m3 HO3.out) | (go_at_call 91; refine D2.mono ?_; rintro e w2 ⟨⟨rfl, m2⟩, hg2⟩; have hb2 := below_of_gr hg2 (Nat.le_of_lt hma.lt); have R2 := hRr.next hb2 m2 HO2.out) | (go_at_call 143; refine cO.mono ?_; rintro e wo ⟨rfl, rfl⟩))
                obtain ⟨v4, m4⟩ := h4
                have hin4 := HO4.out.st.tk.in_
                refine ⟨⟨g, r.1, r.2, v4, rfl, by omega, HXN.out, R3.next hb4 m4 HO4.out, HJL.out, ((hbw.trans hb2).trans hb3).trans hb4⟩, ?_⟩
                rw [m4.frW, hfr]
                have := HJF.out
                omega
        · have hXX : X = .ok (a, st') := by rw [← hgx']; simp [psRun, hop]
          subst hXX
          have gop : (((psOp st'.now.what).2 : Int) != (lv : Int)) = true := by simp; omega
          clear hgx hgx' HX HNO CP
          generalize psOp st'.now.what = oc at *
          clear hop
          go_wp2_with (go_at_call 143; refine cO.mono ?_; rintro e wo ⟨rfl, rfl⟩)
          go_ret
          exact ⟨⟨rfl, v', hma⟩, hbw⟩
end Go.Proofs.YtjmccobblpcbhaaDoor

set_option linter.unusedSimpArgs false
set_option linter.unusedVariables false
namespace Go.Proofs.YtjmccobblpcbhaaDoor
open Go.RowKit Go.Lib Go.Sort

theorem runs_any (s : ByteArray) (pat : Bool) (hs : s.size ≤ 4096) : ∀ f, RunC s pat f := by
  intro f
  induction f using Nat.strongRecOn with
  | ind f ih =>
    cases f with
    | zero => exact ⟨fun _ _ _ _ _ _ h => absurd rfl h, fun _ _ _ _ _ _ _ _ _ h => absurd rfl h, fun _ _ _ _ _ _ h => absurd rfl h, fun _ _ _ _ _ _ h => absurd rfl h⟩
    | succ f =>
      exact ⟨cond_step s pat hs f (ih f (by omega)), fun w0 w B st v lv h0 h9 => pair_step s pat hs f (fun g hg => ih g (by omega)) w0 w B st v lv h0 h9, un_step s pat hs f (ih f (by omega)), atom_step s pat hs f (ih f (by omega))⟩

/-- The whole rule, with fuel enough. -/
def psFuel (s : ByteArray) : Nat := 13 * s.size + 12
theorem cond_any (w0 w : World) (B : Nat) (s : ByteArray) (pat : Bool) (st : Ps) (v : Value) (hs : s.size ≤ 4096) (hR : RB w0 w B s pat st v) :
    psRun s pat (psFuel s) .cond st ≠ .out ∧ Calls Tryd.prog 92 #[.pointer (some ⟨B, 0, none⟩)] w fun e w' => AdP w B s pat (psRun s pat (psFuel s) .cond st) e w' := by
  have h : psRun s pat (psFuel s) .cond st ≠ .out := psRun_in s pat (psFuel s) .cond st hR.ok.st trivial trivial (by unfold psFuel; simp only [Rl.w]; have := hR.ok.st.tk.in_; omega)
  exact ⟨h, (runs_any s pat hs _).cond w0 w B st v hR h⟩
end Go.Proofs.YtjmccobblpcbhaaDoor

set_option linter.unusedSimpArgs false
set_option linter.unusedVariables false
namespace Go.Proofs.YtjmccobblpcbhaaDoor
open Go.RowKit Go.Lib Go.Sort Go.Maps

/-- Between two nodes: the holes ahead of k are counted. -/
structure HoMid (w : World) (l : List Nd) (M : Nat) (k : Nat) (wr : World) : Prop where
  map : ∃ n, n ≤ k ∧ CntM wr M n (hlsL (l.take k))
  below : RowKit.Below w.heap.size w wr
  le : w.heap.size ≤ M
theorem HoMid.skip {w : World} {l : List Nd} {M k : Nat} {wr : World} (h : HoMid w l M k wr) (hk : k < l.length) (hop : (l.getD k nd0).op ≠ 18) (o : Obj) : HoMid w l M (k + 1) (wr.alloc o) := by
  obtain ⟨⟨n, hn, hm⟩, hb, hle⟩ := h
  refine ⟨⟨n, by omega, ?_⟩, hb.alloc hb.size _, hle⟩
  have e : hlsL (l.take (k + 1)) = hlsL (l.take k) := by
    rw [List.take_succ_eq_append_getElem hk, hlsL_snoc]
    have e : l.getD k nd0 = l[k] := by simp [hk]
    rw [e] at hop
    simp [addNm, hop]
  rw [e]; exact hm.alloc _
theorem HoMid.fill {w : World} {l : List Nd} {M k : Nat} {wr w' : World} {o : Obj} {n : Nat} (h : HoMid w l M k wr) (hk : k < l.length) (hop : (l.getD k nd0).op = 18) (hn : n ≤ k)
    (hm : CntM w' M (n + 1) (if (hlsL (l.take k)).any (fun y => decide (y = (l.getD k nd0).name)) = true then hlsL (l.take k) else hlsL (l.take k) ++ [(l.getD k nd0).name])) (hg : (wr.alloc o).grownBy w' (some M)) : HoMid w l M (k + 1) w' := by
  obtain ⟨_, hb, hle⟩ := h
  have hs := hb.size
  have hbA : Below w.heap.size w (wr.alloc o) := hb.alloc hs _
  have e : l.getD k nd0 = l[k] := by simp [hk]
  refine ⟨⟨n + 1, by omega, ?_⟩, hbA.grown hg (by simp; omega) (fun k hk => by cases hk; exact hle), hle⟩
  have e2 : hlsL (l.take (k + 1)) = addNm (hlsL (l.take k)) (l.getD k nd0) := by rw [List.take_succ_eq_append_getElem hk, hlsL_snoc, e]
  have e3 : addNm (hlsL (l.take k)) (l.getD k nd0) = if (hlsL (l.take k)).any (fun y => decide (y = (l.getD k nd0).name)) = true then hlsL (l.take k) else hlsL (l.take k) ++ [(l.getD k nd0).name] := by unfold addNm; rw [if_pos hop]
  rw [e2, e3]
  exact hm

set_option maxRecDepth 20000 in
set_option maxHeartbeats 4000000 in
theorem holes_any (w : World) (B : Nat) (s : ByteArray) (pat : Bool) (st : Ps) (v : Value) (hM : PsM w B s pat st v) (hlen : st.nodes.length ≤ 1000) (hnm : ∀ x ∈ st.nodes, x.name.size ≤ maxLen) :
    Calls Tryd.prog 94 #[.pointer (some ⟨B, 0, none⟩)] w fun e w' => e = .returned (.int .i64 ((hlsL st.nodes).length : Nat)) ∧ RowKit.Below w.heap.size w w' := by
  have hBl := hM.lt
  have hBn : B ≠ w.heap.size := by omega
  obtain ⟨ao, cap, rfl, hN⟩ := Rd_of_own hM.own.n
  have c7 : ∀ o, (w.alloc o).cell? ⟨B, 7, none⟩ = some (.slice ao st.nodes.length cap) := fun o => (World.cell?_alloc_past _ _ _ hBl).trans (hM.cell 7)
  obtain ⟨hb1, hb2⟩ := hN.bound
  unfold maxLen at hb2
  generalize st.nodes = l at *
  have HN : Hid (Rd w ao cap l) := hN
  have HM : Hid (∀ x ∈ l, x.name.size ≤ maxLen) := hnm
  clear hM hN hnm
  have hmm := @run_makeMap Tryd.prog
  have HS0 : Hid (HoMid w l w.heap.size 0 (w.alloc (.map #[] 0))) := ⟨⟨0, by omega, by simpa [hlsL] using CntM.made w⟩, (Below.refl _ _).alloc (Nat.le_refl _) _, Nat.le_refl _⟩
  go_enter Tryd.func94, Tryd.ntmps94
  go_wp2_with fail
  go_loopw [12] (fun i wr => ∃ k : Nat, k ≤ l.length ∧ i = .int .i64 k ∧ HoMid w l w.heap.size k wr) (fun i _ => l.length - (RowKit.intOf i).toNat)
  case atStart => exact ⟨0, by omega, rfl, HS0.out⟩
  case round =>
    obtain ⟨k, hk, rfl, hM⟩ := hrel
    have hbw := hM.below
    have hsw := hbw.size
    by_cases hlt : k < l.length
    · obtain ⟨b, o, kv, rfl, hbk, hna⟩ := Rd.cell (HN.out.below hbw hsw) hlt
      have HNM : Hid ((l.getD k nd0).name.size ≤ maxLen) := HM.out _ (by simp [hlt])
      obtain ⟨c0, c1, c2, c3, hki⟩ := hna
      obtain ⟨ka, kc, rfl, _⟩ := hki
      generalize hkl : (l.getD k nd0).kids.length = kl at *
      by_cases hop : (l.getD k nd0).op = 18
      · obtain ⟨n, hn, hC⟩ := hM.map
        obtain ⟨c, w5, hcn, hlook, hput, hC5, hg5⟩ := (hC.alloc (.cells #[.int .i64 18, .int .i64 (l.getD k nd0).n, .string (l.getD k nd0).name, .slice ka kl kc] 60)).more (by omega) HNM.out
        have hMl := hC.lt
        have HFI : Hid (HoMid w l w.heap.size (k + 1) w5) := hM.fill hlt hop hn hC5 hg5
        rw [hop] at c0
        have hc64 : (c : Int) ≤ 1000 := by omega
        clear hM hC hC5 hg5
        generalize (l.getD k nd0).name = nm at *
        generalize (l.getD k nd0).n = nn at *
        clear hop hkl
        go_wp2_with fail
        exact ⟨⟨k + 1, by omega, by go_num, HFI.out⟩, by simp [RowKit.intOf]; omega⟩
      · have HSK : Hid (HoMid w l w.heap.size (k + 1) (wr.alloc (.cells #[.int .i64 (l.getD k nd0).op, .int .i64 (l.getD k nd0).n, .string (l.getD k nd0).name, .slice ka kl kc] 60))) := hM.skip hlt hop _
        have g18 : ((l.getD k nd0).op == 18) = false := by rw [beq_eq_false_iff_ne]; exact hop
        clear hM hop hkl HNM
        generalize (l.getD k nd0).name = nm at *
        generalize (l.getD k nd0).n = nn at *
        generalize (l.getD k nd0).op = oo at *
        go_wp2_with fail
        exact ⟨⟨k + 1, by omega, by go_num, HSK.out⟩, by simp [RowKit.intOf]; omega⟩
    · have hke : k = l.length := by omega
      subst hke
      obtain ⟨⟨n, hn, hC⟩, _, hle⟩ := hM
      have hlenM := hC.len
      rw [List.take_length] at hlenM
      clear hC
      obtain ⟨nh, hnh⟩ : ∃ nh, (hlsL l).length = nh := ⟨_, rfl⟩
      rw [hnh] at hlenM
      have HNH : Hid ((hlsL l).length = nh) := hnh
      clear hnh
      go_wp2_with fail
      go_ret
      exact ⟨by rw [HNH.out]; rfl, hbw⟩
end Go.Proofs.YtjmccobblpcbhaaDoor

set_option linter.unusedSimpArgs false
set_option linter.unusedVariables false
namespace Go.Proofs.YtjmccobblpcbhaaDoor
open Go.RowKit Go.Lib Go.Sort

/-- Seven cells. -/
def Tn7 (w : World) (R : Nat) (a : Array Value) : Prop := w.heap[R]? = some (.cells a 118 (0, 0))
def set7 (w : World) (R : Nat) (v0 v1 v2 v3 v4 v5 v6 : Value) : World := ((((((w.setCell ⟨R, 0, none⟩ v0).setCell ⟨R, 1, none⟩ v1).setCell ⟨R, 2, none⟩ v2).setCell ⟨R, 3, none⟩ v3).setCell ⟨R, 4, none⟩ v4).setCell ⟨R, 5, none⟩ v5).setCell ⟨R, 6, none⟩ v6
theorem below_set7 {w0 w : World} {R : Nat} (h : Below R w0 w) (v0 v1 v2 v3 v4 v5 v6 : Value) : Below R w0 (set7 w R v0 v1 v2 v3 v4 v5 v6) :=
  ((((((h.setCell (Nat.le_refl _) _).setCell (Nat.le_refl _) _).setCell (Nat.le_refl _) _).setCell (Nat.le_refl _) _).setCell (Nat.le_refl _) _).setCell (Nat.le_refl _) _).setCell (Nat.le_refl _) _
theorem seven_set {w : World} {R : Nat} {a b c d e f g : Value} (h : Tn7 w R #[a, b, c, d, e, f, g]) (v0 v1 v2 v3 v4 v5 v6 : Value) : Tn7 (set7 w R v0 v1 v2 v3 v4 v5 v6) R #[v0, v1, v2, v3, v4, v5, v6] := by
  have h0 : Tn7 (w.setCell ⟨R, 0, none⟩ v0) R #[v0, b, c, d, e, f, g] := by unfold Tn7; simpa using heap_setCell_same w R 0 _ _ v0 h
  have h1 : Tn7 ((w.setCell ⟨R, 0, none⟩ v0).setCell ⟨R, 1, none⟩ v1) R #[v0, v1, c, d, e, f, g] := by unfold Tn7; simpa using heap_setCell_same (w.setCell ⟨R, 0, none⟩ v0) R 1 _ _ v1 h0
  have h2 : Tn7 (((w.setCell ⟨R, 0, none⟩ v0).setCell ⟨R, 1, none⟩ v1).setCell ⟨R, 2, none⟩ v2) R #[v0, v1, v2, d, e, f, g] := by unfold Tn7; simpa using heap_setCell_same ((w.setCell ⟨R, 0, none⟩ v0).setCell ⟨R, 1, none⟩ v1) R 2 _ _ v2 h1
  have h3 : Tn7 ((((w.setCell ⟨R, 0, none⟩ v0).setCell ⟨R, 1, none⟩ v1).setCell ⟨R, 2, none⟩ v2).setCell ⟨R, 3, none⟩ v3) R #[v0, v1, v2, v3, e, f, g] := by unfold Tn7; simpa using heap_setCell_same (((w.setCell ⟨R, 0, none⟩ v0).setCell ⟨R, 1, none⟩ v1).setCell ⟨R, 2, none⟩ v2) R 3 _ _ v3 h2
  have h4 : Tn7 (((((w.setCell ⟨R, 0, none⟩ v0).setCell ⟨R, 1, none⟩ v1).setCell ⟨R, 2, none⟩ v2).setCell ⟨R, 3, none⟩ v3).setCell ⟨R, 4, none⟩ v4) R #[v0, v1, v2, v3, v4, f, g] := by unfold Tn7; simpa using heap_setCell_same ((((w.setCell ⟨R, 0, none⟩ v0).setCell ⟨R, 1, none⟩ v1).setCell ⟨R, 2, none⟩ v2).setCell ⟨R, 3, none⟩ v3) R 4 _ _ v4 h3
  have h5 : Tn7 ((((((w.setCell ⟨R, 0, none⟩ v0).setCell ⟨R, 1, none⟩ v1).setCell ⟨R, 2, none⟩ v2).setCell ⟨R, 3, none⟩ v3).setCell ⟨R, 4, none⟩ v4).setCell ⟨R, 5, none⟩ v5) R #[v0, v1, v2, v3, v4, v5, g] := by unfold Tn7; simpa using heap_setCell_same (((((w.setCell ⟨R, 0, none⟩ v0).setCell ⟨R, 1, none⟩ v1).setCell ⟨R, 2, none⟩ v2).setCell ⟨R, 3, none⟩ v3).setCell ⟨R, 4, none⟩ v4) R 5 _ _ v5 h4
  have h6 : Tn7 (((((((w.setCell ⟨R, 0, none⟩ v0).setCell ⟨R, 1, none⟩ v1).setCell ⟨R, 2, none⟩ v2).setCell ⟨R, 3, none⟩ v3).setCell ⟨R, 4, none⟩ v4).setCell ⟨R, 5, none⟩ v5).setCell ⟨R, 6, none⟩ v6) R #[v0, v1, v2, v3, v4, v5, v6] := by unfold Tn7; simpa using heap_setCell_same ((((((w.setCell ⟨R, 0, none⟩ v0).setCell ⟨R, 1, none⟩ v1).setCell ⟨R, 2, none⟩ v2).setCell ⟨R, 3, none⟩ v3).setCell ⟨R, 4, none⟩ v4).setCell ⟨R, 5, none⟩ v5) R 6 _ _ v6 h5
  unfold set7
  exact h6
theorem Tn7.cells {w : World} {R : Nat} {a b c d e f g : Value} (h : Tn7 w R #[a, b, c, d, e, f, g]) : w.cell? ⟨R, 0, none⟩ = some a ∧ w.cell? ⟨R, 1, none⟩ = some b ∧ w.cell? ⟨R, 2, none⟩ = some c ∧ w.cell? ⟨R, 3, none⟩ = some d ∧ w.cell? ⟨R, 4, none⟩ = some e ∧ w.cell? ⟨R, 5, none⟩ = some f ∧ w.cell? ⟨R, 6, none⟩ = some g := by
  unfold Tn7 at h
  simp [World.cell?, h]
theorem Tn7.frozen {w : World} {R : Nat} {a : Array Value} (h : Tn7 w R a) (i : Nat) : w.frozen? ⟨R, i, none⟩ = false := by
  unfold Tn7 at h
  simp [World.frozen?, h]
theorem open_ret {w : World} {R : Nat} {a b c d e f g : Value} (h : Tn7 w R #[a, b, c, d, e, f, g]) {tmps : Array Value} (ht : tmps[4]?.getD undef = .pointer (some ⟨R, 0, none⟩)) :
    (results Tryd.f90 tmps).run Tryd.prog w = .ok (.agg #[a, b, c, d, e, f, g]) w := by
  obtain ⟨h0, h1, h2, h3, h4, h5, h6⟩ := h.cells
  simp [results, Tryd.results90, ht, go_sem, h0, h1, h2, h3, h4, h5, h6]

/-- What open comes to. -/
def psOpen (s : ByteArray) : Pr Unit := if 4096 < s.size then .bad 0 3 else if (chk s).2 = 0 then .ok () else .bad (chk s).1 (chk s).2

set_option maxRecDepth 20000 in
set_option maxHeartbeats 4000000 in
theorem open_any (w : World) (s : ByteArray) (pat : Bool) (hz : s.size ≤ maxLen) (hT : Tabs w) :
    Calls Tryd.prog 90 #[.string s, .bool pat] w fun e w' => Ends (psOpen s) e (fun _ => e = .returned (.agg #[.string s, .bool pat, .int .i32 0, .int .i64 0, .int .i64 0, .int .u64 0, .int .i64 0])) ∧ Below w.heap.size w w' := by
  have hpn : ∀ (x : Value) (w : World), (Instr.panic (.iface 112 x)).run Tryd.prog w = .halt (.panic (.iface 112 x)) w := fun _ _ => rfl
  unfold maxLen at hz
  by_cases h4 : 4096 < s.size
  · have hRes : psOpen s = .bad 0 3 := by unfold psOpen; rw [if_pos h4]
    rw [hRes]
    have g4 : (4096 : Int) < (s.size : Int) := by omega
    clear hRes h4
    go_enter Tryd.func90, Tryd.ntmps90
    go_wp2_with fail
    exact ⟨rfl, rfl, (Below.refl _ _).alloc (Nat.le_refl _) _⟩
  · have g4 : ¬ (4096 : Int) < (s.size : Int) := by omega
    have C : Hid (∀ W, Below w.heap.size w W → Calls Tryd.prog 122 #[.string s] W fun e w' => e = .returned (.tuple #[.int .i64 (chk s).1, .int .i64 (chk s).2]) ∧ Below W.heap.size W w') := fun W h => utfCheck_any s W (hT.below h)
    have HB0 : Hid (∀ o, Below w.heap.size w (w.alloc o)) := fun o => (Below.refl _ _).alloc (Nat.le_refl _) o
    clear hT
    by_cases h0 : (chk s).2 = 0
    · have hRes : psOpen s = .ok () := by unfold psOpen; rw [if_neg h4, if_pos h0]
      rw [hRes]
      have g0 : ((chk s).2 != 0) = false := by simp [h0]
      clear hRes h0
      generalize chk s = ck at *
      obtain ⟨W0, hW0⟩ : ∃ W0, w.alloc (.cells #[.string ⟨#[]⟩, .bool false, .int .i32 0, .int .i64 0, .int .i64 0, .int .u64 0, .int .i64 0] 118) = W0 := ⟨_, rfl⟩
      have b0 : Below w.heap.size w W0 := by rw [← hW0]; exact HB0.out _
      have R0 : Tn7 W0 w.heap.size #[.string ⟨#[]⟩, .bool false, .int .i32 0, .int .i64 0, .int .i64 0, .int .u64 0, .int .i64 0] := by unfold Tn7; rw [← hW0, Deep.blk_alloc_new]
      have HW0 : Hid (w.alloc (.cells #[.string ⟨#[]⟩, .bool false, .int .i32 0, .int .i64 0, .int .i64 0, .int .u64 0, .int .i64 0] 118) = W0) := hW0
      have HC : Hid (Calls Tryd.prog 122 #[.string s] W0 fun e w' => e = .returned (.tuple #[.int .i64 ck.1, .int .i64 ck.2]) ∧ Below W0.heap.size W0 w') := C.out W0 b0
      have hz0 : w.heap.size < W0.heap.size := by rw [← hW0]; simp
      clear hW0 C HB0
      go_enter Tryd.func90, Tryd.ntmps90
      go_wp2_with fail
      rw [HW0.out]
      refine HC.out.mono ?_
      rintro e w1 ⟨rfl, b1⟩
      have R1 : Tn7 w1 w.heap.size #[.string ⟨#[]⟩, .bool false, .int .i32 0, .int .i64 0, .int .i64 0, .int .u64 0, .int .i64 0] := by unfold Tn7 at R0 ⊢; exact (b1.block _ hz0).trans R0
      have bb1 : Below w.heap.size w w1 := b0.trans (b1.mono b0.size)
      obtain ⟨q0, q1, q2, q3, q4, q5, q6⟩ := R1.cells
      have qf := R1.frozen
      have HE : Hid (Tn7 (set7 w1 w.heap.size (.string s) (.bool pat) (.int .i32 0) (.int .i64 0) (.int .i64 0) (.int .u64 0) (.int .i64 0)) w.heap.size #[.string s, .bool pat, .int .i32 0, .int .i64 0, .int .i64 0, .int .u64 0, .int .i64 0]) := seven_set R1 _ _ _ _ _ _ _
      have HB : Hid (Below w.heap.size w (set7 w1 w.heap.size (.string s) (.bool pat) (.int .i32 0) (.int .i64 0) (.int .i64 0) (.int .u64 0) (.int .i64 0))) := below_set7 bb1 _ _ _ _ _ _ _
      clear R0 b0 b1 R1 HC hz0
      go_wp2_with fail
      exact bodyPost_ret (open_ret HE.out (by rfl)) rfl ⟨rfl, HB.out⟩
    · have hRes : psOpen s = .bad (chk s).1 (chk s).2 := by unfold psOpen; rw [if_neg h4, if_neg h0]
      rw [hRes]
      have g0 : ((chk s).2 != 0) = true := by simp [h0]
      clear hRes h0
      generalize chk s = ck at *
      go_enter Tryd.func90, Tryd.ntmps90
      go_wp2_with (go_at_call 122; refine (C.out _ (HB0.out _)).mono ?_; rintro e w1 ⟨rfl, hb1⟩)
      exact ⟨rfl, rfl, (HB0.out _).trans (hb1.mono (by simp))⟩
end Go.Proofs.YtjmccobblpcbhaaDoor
