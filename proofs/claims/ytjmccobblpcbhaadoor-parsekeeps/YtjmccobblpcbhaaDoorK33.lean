/-
  DcW, DcPlW.
-/
import Derived.Test.YtjmccobblpcbhaaDoorChecked
import GoSem.PinnedTables
import GoSem.Claim
import GoSem.ClaimJoined
import GoSem.ClaimMapViews
import Derived.JoinedTies
import Derived.KernelRfl
import Derived.Shelf.Unicode.DecodeSlow
import Derived.Laws.RangeAny
import Derived.Shelf.Strings.Builder1
import Derived.Shelf.Small.Utf8
import Derived.Shelf.Small.Bits
import Derived.Shelf.Strings.BuilderF
import Derived.Shelf.Strings.BuilderK
import Derived.Shelf.Strings.BuilderRune
import Derived.Shelf.Utf8.AppendRune
import Derived.Shelf.Strconv.Itoa0
import Derived.Shelf.Strconv.Itoa1
import Derived.Shelf.LaysM
import Derived.Shelf.Strconv.Itoa2
import Derived.Shelf.Strconv.Itoa3
import Derived.Shelf.Strconv.Itoa4
import Derived.Shelf.Strings.Prefix
import Derived.Shelf.Unicode.DecodeAny
import Derived.Test.YtjmccobblpcbhaaDoorProg
import Derived.WalkKit
import Derived.Deep.DeepFit
import Derived.Lib.OthersKept
import Derived.Lib.RuneCountTail
import Derived.Lib.LaidU8
import Derived.MakeChecks
import Derived.ProofKit
import Derived.OpenShut
import Derived.Deep.DeepHandedRow
import Derived.Lib.Small
import Derived.Lib.Strings
import Derived.Lib.MapLaws
import Derived.Deep.AppendLies
import Derived.Deep.OwnRows
import Derived.Laws.AppendOwnNone
import Derived.Deep.QuietTactic
import Derived.BigQuiet
import Derived.Deep.RegionWith
import Derived.Laws.DeepStrings4
import Derived.Deep.RegionHeld3
import Derived.Laws.ResultCell
import Derived.Lib.QuietBelow
import Derived.Deep.Heap
import Derived.Laws.Rows
import Derived.Below
import Derived.StillTail
import Derived.Sort.Walk0
import Derived.Deep.RegionLaw
import Derived.Laws.OwnMore
import Derived.Lib.ItoaNum
import Derived.Maps.OwnSet
import Derived.StringKeys
import Derived.Test.YtjmccobblpcbhaaDoorRows
import Derived.Test.YtjmccobblpcbhaaDoorK01
import Derived.Test.YtjmccobblpcbhaaDoorK02
import Derived.Test.YtjmccobblpcbhaaDoorK03
import Derived.Test.YtjmccobblpcbhaaDoorK04
import Derived.Test.YtjmccobblpcbhaaDoorK05
import Derived.Test.YtjmccobblpcbhaaDoorK06
import Derived.Test.YtjmccobblpcbhaaDoorK07
import Derived.Test.YtjmccobblpcbhaaDoorK08
import Derived.Test.YtjmccobblpcbhaaDoorK09
import Derived.Test.YtjmccobblpcbhaaDoorK10
import Derived.Test.YtjmccobblpcbhaaDoorK11
import Derived.Test.YtjmccobblpcbhaaDoorK12
import Derived.Test.YtjmccobblpcbhaaDoorK13
import Derived.Test.YtjmccobblpcbhaaDoorK14
import Derived.Test.YtjmccobblpcbhaaDoorK15
import Derived.Test.YtjmccobblpcbhaaDoorK16
import Derived.Test.YtjmccobblpcbhaaDoorK17
import Derived.Test.YtjmccobblpcbhaaDoorK18
import Derived.Test.YtjmccobblpcbhaaDoorK19
import Derived.Test.YtjmccobblpcbhaaDoorK20
import Derived.Test.YtjmccobblpcbhaaDoorK21
import Derived.Test.YtjmccobblpcbhaaDoorK22
import Derived.Test.YtjmccobblpcbhaaDoorK23
import Derived.Test.YtjmccobblpcbhaaDoorK24
import Derived.Test.YtjmccobblpcbhaaDoorK25
import Derived.Test.YtjmccobblpcbhaaDoorK26
import Derived.Test.YtjmccobblpcbhaaDoorK27
import Derived.Test.YtjmccobblpcbhaaDoorK28
import Derived.Test.YtjmccobblpcbhaaDoorK29
import Derived.Test.YtjmccobblpcbhaaDoorK30
import Derived.Test.YtjmccobblpcbhaaDoorK31
import Derived.Test.YtjmccobblpcbhaaDoorK32
set_option linter.unusedSimpArgs false
set_option linter.unusedVariables false
namespace Go.Proofs.YtjmccobblpcbhaaDoor
open Go.RowKit Go.Lib Go.Sort

/-- What the document's read leaves. -/
def DocP (w : World) (x : Pr (List Nd)) (e : Ending) (w' : World) : Prop :=
  (match x with
   | .ok l => ∃ v, e = .returned (.tuple #[v, .int .i64 0, .int .i64 0]) ∧ OwnN w' w.heap.size v l
   | .bad p er => e = .returned (.tuple #[.slice none 0 0, .int .i64 (p : Int), .int .i64 er])
   | .out => False) ∧ Below w.heap.size w w'
theorem below_new {w w' : World} {R : Nat} (hg : w.grownBy w' (some R)) (hR : w.heap.size ≤ R) : Below w.heap.size w w' := ⟨hg.os, hg.tape, hg.output, hg.size, fun k hk => hg.block k hk (by intro e; injection e; omega)⟩

theorem below_drew {w w' : World} (h : Below w.heap.size w w') (m : Nat) : Below w.heap.size w (w'.drewN m) := ⟨h.os, h.tape, h.output, h.size, h.block⟩

set_option maxRecDepth 20000 in
set_option maxHeartbeats 16000000 in
theorem docRead_any (w : World) (s : ByteArray) (pat : Bool) (most : Nat) (hz : s.size ≤ maxLen) (hmo : (pat = false ∧ most = 64) ∨ (pat = true ∧ most = 16)) :
    Calls Tryd.prog 67 #[.string s, .bool pat] w fun e w' => DocP w (rdWhole s pat most) e w' := by
  have hz' := hz
  unfold maxLen at hz'
  obtain ⟨X, hX⟩ : ∃ X, rdWhole s pat most = X := ⟨_, rfl⟩
  rw [hX]
  have HX : Hid (X = rdWhole s pat most) := hX.symm
  clear hX
  by_cases h4 : 4096 < s.size
  · have HE : Hid (X = .bad 0 3) := by show X = _; rw [HX.out]; unfold rdWhole; rw [if_pos h4]
    clear HX
    go_enter Tryd.func67, Tryd.ntmps67
    go_wp2_with fail
    go_ret3
    rw [HE.out]
    exact ⟨rfl, Below.refl _ _⟩
  have hs : s.size ≤ 4096 := by omega
  have cCk : Hid (Calls Tryd.prog 96 #[.string s] w fun e w' => e = .returned (.tuple #[.int .i64 (chk s).1, .int .i64 (chk s).2]) ∧ Below w.heap.size w w') := refUtf_any s w hz
  by_cases hc : (chk s).2 = 0
  rotate_left
  · have HE : Hid (X = .bad (chk s).1 (chk s).2) := by show X = _; rw [HX.out]; unfold rdWhole; rw [if_neg h4, if_neg hc]
    have hc' : ((chk s).2 != 0) = true := by simpa using hc
    clear HX hc
    generalize chk s = q at *
    go_enter Tryd.func67, Tryd.ntmps67
    go_wp2_with (go_at_call 96; refine cCk.out.mono ?_; rintro x w1 ⟨rfl, hb1⟩)
    go_ret3
    rw [HE.out]
    exact ⟨rfl, hb1⟩
  have HXW : Hid (X = (rdX s pat (psFuel s) .cond (skp s 0) 0).bind fun r => (psFrom s pat mx63 r.2).bind fun _ =>
      if r.2 < s.size then .bad r.2 6 else if most < r.1.length then .bad s.size 10 else if pat = true ∧ 6 < (hlsL r.1).length then .bad s.size 10 else .ok r.1) := by
    show X = _
    rw [HX.out]; unfold rdWhole; rw [if_neg h4, if_pos hc]
  have HN : Hid (X ≠ .out) := by show X ≠ _; rw [HX.out, ← read_eq]; exact psRead_in s pat most
  rw [hc] at cCk
  have hsk := skp_in (s := s) (p := 0) (by omega)
  have hno : rdX s pat (psFuel s) .cond (skp s 0) 0 ≠ .out := fun e => HN.out (by rw [HXW.out, e]; rfl)
  have cCo : Hid (∀ W R, RdM W R s pat (skp s 0) 0 0 0 → Calls Tryd.prog 98 #[.pointer (some ⟨R, 0, none⟩)] W fun e w' => RRes W R s pat (skp s 0) 0 0 (rdX s pat (psFuel s) .cond (skp s 0) 0) e w') := fun W R h' => (rdc_any s pat hs (psFuel s)).cond W R _ 0 0 h' hsk.2 (by omega) hno
  have cSk : Hid (∀ W R, RdM W R s pat 0 0 0 0 → Calls Tryd.prog 97 #[.pointer (some ⟨R, 0, none⟩)] W fun x w' => x = .returned (.tuple #[]) ∧ RdM w' R s pat (skp s 0) 0 0 0 ∧ W.grownBy w' (some R)) := fun W R h' => rskip_any W R s pat 0 0 0 0 h' hs (by omega)
  have hlen : ∀ r, rdX s pat (psFuel s) .cond (skp s 0) 0 = .ok r → r.1.length + skp s 0 ≤ r.2 ∧ skp s 0 ≤ r.2 ∧ r.2 ≤ s.size ∧ KidsIn r.1 := fun r hr => rdX_len ⟨(fun _ e => by cases e), (fun _ _ e => by cases e)⟩ (fun _ _ e => by cases e) hsk.2 hr
  generalize (chk s).1 = q0 at *
  clear HX h4 hc hno
  go_enter Tryd.func67, Tryd.ntmps67
  go_wp2_with (go_at_call 96; refine cCk.out.mono ?_; rintro x w1 ⟨rfl, hb1⟩)
  have M2 : Hid (RdM (w1.alloc (.cells #[.string s, .bool pat, .int .i64 0, .int .i64 0, .int .i64 0, .int .i64 0] 134)) w1.heap.size s pat 0 0 0 0) := ⟨by
    show (w1.heap.push _)[w1.heap.size]? = _
    simp⟩
  have B2 : Hid (Below w1.heap.size w1 (w1.alloc (.cells #[.string s, .bool pat, .int .i64 0, .int .i64 0, .int .i64 0, .int .i64 0] 134))) := (Below.refl _ _).alloc (Nat.le_refl _) _
  refine (cSk.out _ _ M2.out).mono ?_
  rintro x w3 ⟨rfl, hm3, hg3⟩
  have M3 : Hid (RdM w3 w1.heap.size s pat (skp s 0) 0 0 0) := hm3
  have G3 : Hid (w1.grownBy w3 (some w1.heap.size)) := (gr_of_below B2.out _).trans hg3
  have h13 : w1.heap.size < w3.heap.size := hm3.lt
  clear hm3 hg3 M2 B2 cSk
  go_wp2_with fail
  go_at_call 98
  refine (cCo.out _ _ M3.out).mono ?_
  clear cCo M3
  intro x w4 hR4
  have hb1s := hb1.size
  cases h1 : rdX s pat (psFuel s) .cond (skp s 0) 0 with
  | out => rw [h1] at hR4; cases hR4
  | bad p er =>
    rw [h1] at hR4
    obtain ⟨v, l, a', o', rfl, hO4, hBL, hm4, her, hg4⟩ := hR4
    obtain ⟨vo, vn, vc, rfl⟩ := hO4.form
    obtain ⟨d0, d1, d2, d3, d4, d5⟩ := hm4.cells
    have hne : (er == 0) = false := by rw [beq_eq_false_iff_ne]; exact her
    have HE : Hid (X = .bad p er) := by show X = _; rw [HXW.out, h1]; rfl
    have HB : Hid (Below w.heap.size w w4) := hb1.trans ((below_new (G3.out.trans hg4) (Nat.le_refl _)).mono hb1s)
    clear hO4 hBL hm4 hg4 h1 HXW HN her
    go_wp2_with fail
    go_quiet (fail)
    go_wp2_with fail
    go_ret3
    rw [HE.out]
    exact ⟨rfl, below_drew HB.out _⟩
  | ok r =>
    rw [h1] at hR4
    obtain ⟨v, rfl, hO4, hm4, hg4⟩ := hR4
    obtain ⟨vo, vcap, rfl, hRd4⟩ := Rd_of_own hO4
    obtain ⟨d0, d1, d2, d3, d4, d5⟩ := hm4.cells
    obtain ⟨k1, k2, k3, k4⟩ := hlen r h1
    have M4 : Hid (RdM w4 w1.heap.size s pat r.2 0 0 0) := hm4
    have G4 : Hid (w1.grownBy w4 (some w1.heap.size)) := G3.out.trans hg4
    have R4 : Hid (Rd w4 vo vcap r.1) := hRd4
    have hk8 : ∀ x ∈ r.1, x.kids.length * 8 ≤ 140737488355328 := fun x hx => by have := k4.few x hx; omega
    have HK8 : Hid (∀ x ∈ r.1, x.kids.length * 8 ≤ 140737488355328) := hk8
    have hbnd := hRd4.bound
    unfold maxLen at hbnd
    have hrl : r.1.length ≤ 4096 := by omega
    clear hO4 hm4 hg4 hRd4 hlen k4 hk8
    cases h2 : psFrom s pat mx63 r.2 with
    | out => exact absurd h2 (psFrom_in _ _ _ _)
    | bad p er =>
      obtain ⟨rfl, rfl, hsg⟩ := sg_bad h2
      have HE : Hid (X = .bad r.2 5) := by show X = _; rw [HXW.out, h1]; simp only [Pr.bind, h2]
      have cS : Hid (Calls Tryd.prog 99 #[.pointer (some ⟨w1.heap.size, 0, none⟩)] w4 fun x w' => x = .returned (.tuple #[.string ⟨#[]⟩, .int .i64 0]) ∧ RdM w' w1.heap.size s pat r.2 0 r.2 5 ∧ w4.grownBy w' (some w1.heap.size)) := sign_no s pat hs w4 _ r.2 0 0 M4.out k3 hsg
      clear h1 h2 HXW HN hsg
      go_wp2_with fail
      go_at_call 99
      refine cS.out.mono ?_
      rintro x w5 ⟨rfl, hm5, hg5⟩
      obtain ⟨e0, e1, e2, e3, e4, e5⟩ := hm5.cells
      have HB : Hid (Below w.heap.size w w5) := hb1.trans ((below_new (G4.out.trans hg5) (Nat.le_refl _)).mono hb1s)
      clear hm5 hg5 d0 d1 d2 d3 d4 d5
      go_wp2_with fail
      go_quiet (fail)
      go_wp2_with fail
      go_ret3
      rw [HE.out]
      exact ⟨rfl, below_drew HB.out _⟩
    | ok t =>
      have cS : Hid (Calls Tryd.prog 99 #[.pointer (some ⟨w1.heap.size, 0, none⟩)] w4 fun x w' => x = .returned (.tuple #[.string (sgW t.what), .int .i64 ((if t.what = 0 ∨ t.what = 48 ∨ t.what = 97 then 0 else t.to - r.2 : Nat) : Int)]) ∧ Below w4.heap.size w4 w') := sign_ok s pat hs w4 _ r.2 0 0 M4.out k3 t h2
      have HX2 : Hid (X = if r.2 < s.size then .bad r.2 6 else if most < r.1.length then .bad s.size 10 else if pat = true ∧ 6 < (hlsL r.1).length then .bad s.size 10 else .ok r.1) := by show X = _; rw [HXW.out, h1]; simp only [Pr.bind, h2]
      generalize (if t.what = 0 ∨ t.what = 48 ∨ t.what = 97 then 0 else t.to - r.2 : Nat) = nn at *
      generalize sgW t.what = T at *
      clear h1 h2 HXW HN
      go_wp2_with fail
      go_at_call 99
      refine cS.out.mono ?_
      rintro x w5 ⟨rfl, hb5⟩
      have M5 : Hid (RdM w5 w1.heap.size s pat r.2 0 0 0) := M4.out.below hb5
      have G5 : Hid (w1.grownBy w5 (some w1.heap.size)) := G4.out.trans (gr_of_below hb5 _)
      have R5 : Hid (Rd w5 vo vcap r.1) := R4.out.below hb5 hb5.size
      obtain ⟨e0, e1, e2, e3, e4, e5⟩ := M5.out.cells
      have B5 : Hid (Below w.heap.size w w5) := hb1.trans ((below_new G5.out (Nat.le_refl _)).mono hb1s)
      clear hb5 cS M4 G4 R4 d0 d1 d2 d3 d4 d5
      by_cases hlt : r.2 < s.size
      · have HE : Hid (X = .bad r.2 6) := by show X = _; rw [HX2.out, if_pos hlt]
        have cF : Hid (Calls Tryd.prog 100 #[.pointer (some ⟨w1.heap.size, 0, none⟩), .int .i64 (r.2 : Int), .int .i64 6] w5 fun x w' => x = .returned (.slice none 0 0) ∧ RdM w' w1.heap.size s pat r.2 0 r.2 6 ∧ w5.grownBy w' (some w1.heap.size)) := rfail_any w5 _ s pat r.2 0 0 0 M5.out r.2 6
        clear HX2
        go_wp2_with fail
        go_at_call 100
        refine cF.out.mono ?_
        rintro x w6 ⟨rfl, hm6, hg6⟩
        obtain ⟨f0, f1, f2, f3, f4, f5⟩ := hm6.cells
        have HB : Hid (Below w.heap.size w w6) := hb1.trans ((below_new (G5.out.trans hg6) (Nat.le_refl _)).mono hb1s)
        clear hm6 hg6 e0 e1 e2 e3 e4 e5
        go_wp2_with fail
        go_quiet (fail)
        go_wp2_with fail
        go_ret3
        rw [HE.out]
        exact ⟨rfl, below_drew HB.out _⟩
      · have HX3 : Hid (X = if most < r.1.length then .bad s.size 10 else if pat = true ∧ 6 < (hlsL r.1).length then .bad s.size 10 else .ok r.1) := by show X = _; rw [HX2.out, if_neg hlt]
        clear HX2
        have cC : Hid (∀ W', Rd W' vo vcap r.1 → Calls Tryd.prog 10 #[.slice vo r.1.length vcap] W' fun e w' => ∃ v', e = .returned v' ∧ OwnN w' W'.heap.size v' r.1 ∧ Below W'.heap.size W' w') := fun W' h' => copy_any _ r.1 W' _ (Nat.le_refl _) h' (by omega) HK8.out
        have cH : Hid (∀ W', Rd W' vo vcap r.1 → Calls Tryd.prog 34 #[.slice vo r.1.length vcap] W' fun e w' => ∃ va vc, e = .returned (.slice va (hlsL r.1).length vc) ∧ Below W'.heap.size W' w') := fun W' h' => refHoles_any h' (by omega)
        have hhl := hlsL_len r.1
        generalize hlsL r.1 = H at *
        rcases hmo with ⟨rfl, rfl⟩ | ⟨rfl, rfl⟩
        · by_cases hm : 64 < r.1.length
          · have HE : Hid (X = .bad s.size 10) := by show X = _; rw [HX3.out, if_pos hm]
            clear HX3
            go_wp2_with fail
            go_ret3
            rw [HE.out]
            exact ⟨rfl, B5.out⟩
          · have HE : Hid (X = .ok r.1) := by show X = _; rw [HX3.out, if_neg hm]; simp
            clear HX3
            go_wp2_with fail
            go_at_call 10
            refine (cC.out _ R5.out).mono ?_
            rintro x w6 ⟨v', rfl, hO6, hb6⟩
            have HP : Hid (OwnN w6 w.heap.size v' r.1 ∧ Below w.heap.size w w6) := ⟨hO6.lower B5.out.size, B5.out.trans (hb6.mono B5.out.size)⟩
            clear hO6 hb6
            go_wp2_with fail
            go_ret3
            rw [HE.out]
            exact ⟨⟨_, rfl, HP.out.1⟩, HP.out.2⟩
        · by_cases hm : 16 < r.1.length
          · have HE : Hid (X = .bad s.size 10) := by show X = _; rw [HX3.out, if_pos hm]
            clear HX3
            go_wp2_with fail
            go_ret3
            rw [HE.out]
            exact ⟨rfl, B5.out⟩
          · by_cases h6 : 6 < H.length
            · have HE : Hid (X = .bad s.size 10) := by show X = _; rw [HX3.out, if_neg hm, if_pos ⟨rfl, h6⟩]
              clear HX3
              go_wp2_with fail
              go_at_call 34
              refine (cH.out _ R5.out).mono ?_
              rintro x w6 ⟨va, vc', rfl, hb6⟩
              have HB : Hid (Below w.heap.size w w6) := B5.out.trans (hb6.mono B5.out.size)
              clear hb6
              go_wp2_with fail
              go_ret3
              rw [HE.out]
              exact ⟨rfl, HB.out⟩
            · have HE : Hid (X = .ok r.1) := by show X = _; rw [HX3.out, if_neg hm, if_neg (by rintro ⟨_, h⟩; exact h6 h)]
              clear HX3
              go_wp2_with fail
              go_at_call 34
              refine (cH.out _ R5.out).mono ?_
              rintro x w6 ⟨va, vc', rfl, hb6⟩
              have R6 : Hid (Rd w6 vo vcap r.1) := R5.out.below hb6 hb6.size
              have B6 : Hid (Below w.heap.size w w6) := B5.out.trans (hb6.mono B5.out.size)
              clear hb6
              go_wp2_with fail
              go_at_call 10
              refine (cC.out _ R6.out).mono ?_
              rintro x w7 ⟨v', rfl, hO7, hb7⟩
              have HP : Hid (OwnN w7 w.heap.size v' r.1 ∧ Below w.heap.size w w7) := ⟨hO7.lower B6.out.size, B6.out.trans (hb7.mono B6.out.size)⟩
              clear hO7 hb7
              go_wp2_with fail
              go_ret3
              rw [HE.out]
              exact ⟨⟨_, rfl, HP.out.1⟩, HP.out.2⟩
end Go.Proofs.YtjmccobblpcbhaaDoor

set_option linter.unusedSimpArgs false
set_option linter.unusedVariables false
namespace Go.Proofs.YtjmccobblpcbhaaDoor
open Go.RowKit Go.Lib Go.Sort

/-- The three results. -/
def pl3 (x : Pr (List Nd)) : List Nd × Nat × Int := match x with
  | .ok l => (l, 0, 0)
  | .bad p er => ([], p, er)
  | .out => ([], 0, 0)
def Tri (w : World) (x : Pr (List Nd)) (e : Ending) (w' : World) : Prop := ∃ ao cap, e = .returned (.tuple #[.slice ao (pl3 x).1.length cap, .int .i64 ((pl3 x).2.1 : Int), .int .i64 (pl3 x).2.2]) ∧ Rd w' ao cap (pl3 x).1 ∧ Below w.heap.size w w'
theorem rd_nil (w : World) : Rd w none 0 [] := ⟨none, 0, rfl, by simp, by simp [maxLen], .inl rfl⟩
theorem ReadP.tri {w : World} {x : Pr (List Nd)} {e : Ending} {w' : World} (h : ReadP w x e w') : Tri w x e w' := by
  obtain ⟨h1, h2⟩ := h
  cases x with
  | ok l => obtain ⟨ao, cap, he, hr⟩ := h1; exact ⟨ao, cap, he, hr, h2⟩
  | bad p er => exact ⟨none, 0, h1, rd_nil _, h2⟩
  | out => cases h1
theorem DocP.tri {w : World} {x : Pr (List Nd)} {e : Ending} {w' : World} (h : DocP w x e w') : Tri w x e w' := by
  obtain ⟨h1, h2⟩ := h
  cases x with
  | ok l =>
    obtain ⟨v, he, hr⟩ := h1
    obtain ⟨ao, cap, rfl, hrd⟩ := Rd_of_own hr
    exact ⟨ao, cap, he, hrd, h2⟩
  | bad p er => exact ⟨none, 0, h1, rd_nil _, h2⟩
  | out => cases h1

theorem parseT (w : World) (s : ByteArray) (hz : s.size ≤ maxLen) (hT : Tabs w) : Calls Tryd.prog 26 #[.string s] w fun e w' => Tri w (psRead s false 64) e w' := (parse_any w s hz hT).mono fun _ _ h => h.tri
theorem docParseT (w : World) (s : ByteArray) (hz : s.size ≤ maxLen) : Calls Tryd.prog 29 #[.string s] w fun e w' => Tri w (psRead s false 64) e w' := by
  have cR : Hid (Calls Tryd.prog 67 #[.string s, .bool false] w fun e w' => Tri w (psRead s false 64) e w') := by
    show Calls _ _ _ _ _
    rw [read_eq]
    exact (docRead_any w s false 64 hz (.inl ⟨rfl, rfl⟩)).mono fun _ _ h => h.tri
  generalize psRead s false 64 = X at *
  go_enter Tryd.func29, Tryd.ntmps29
  go_wp2_with fail
  go_at_call 67
  refine cR.out.mono ?_
  rintro x w1 ⟨ao, cap, rfl, h2, h3⟩
  have HP : Hid (Rd w1 ao cap (pl3 X).1 ∧ Below w.heap.size w w1) := ⟨h2, h3⟩
  clear h2 h3
  go_wp2_with fail
  go_ret3
  exact ⟨ao, cap, rfl, HP.out⟩
theorem awk_read : (pl3 (psRead ⟨#[97, 43, 49]⟩ false 64)).1.length = 3 ∧ (pl3 (psRead ⟨#[97, 43, 49]⟩ false 64)).2 = (0, 0) := by decide +kernel

set_option maxRecDepth 20000 in
set_option maxHeartbeats 8000000 in
theorem pawake_any (w : World) (hT : Tabs w) :
    Calls Tryd.prog 22 #[] w fun e w' => e = .returned (.bool true) ∧ Below w.heap.size w w' := by
  have cP : Hid (Calls Tryd.prog 26 #[.string ⟨#[97, 43, 49]⟩] w fun e w' => ∃ ao cap, e = .returned (.tuple #[.slice ao 3 cap, .int .i64 0, .int .i64 0]) ∧ Below w.heap.size w w') := by
    refine (parseT w ⟨#[97, 43, 49]⟩ (by decide) hT).mono ?_
    rintro e w' ⟨ao, cap, he, _, hb⟩
    rw [awk_read.1, awk_read.2] at he
    exact ⟨ao, cap, he, hb⟩
  go_enter Tryd.func22, Tryd.ntmps22
  go_wp2_with fail
  go_at_call 26
  refine cP.out.mono ?_
  rintro x w1 ⟨ao, cap, rfl, hb⟩
  go_wp2_with fail
  go_ret
  exact ⟨rfl, hb⟩

end Go.Proofs.YtjmccobblpcbhaaDoor
