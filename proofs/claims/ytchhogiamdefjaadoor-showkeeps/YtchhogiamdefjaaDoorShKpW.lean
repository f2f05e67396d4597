/-
  ShowKeeps, walked.
-/
import Derived.Test.YtchhogiamdefjaaDoorShW
import Derived.Test.YtchhogiamdefjaaDoorRmKpW
import Derived.Test.YtchhogiamdefjaaDoorExOpen
set_option linter.unusedSimpArgs false
set_option linter.unusedVariables false
namespace Go.Proofs.YtchhogiamdefjaaDoor
open Go.RowKit Go.Lib

theorem FitX.fitR {l : List Nd} (h : FitX l) : FitR l := ⟨h.len, h.kids, h.name⟩
theorem FitX.fit5 {l : List Nd} (h : FitX l) : Fit5 l := ⟨h.name, fun x hx => bounds_i64 (h.num x hx)⟩

set_option maxRecDepth 20000 in
set_option maxHeartbeats 4000000 in
theorem showKeeps_any (w : World) (ao bo : Option Addr) (cap cb : Nat) (l m : List Nd) (hT : Tb5 w) (hN : Rd w ao cap l) (hN2 : Rd w bo cb m) (hF : FitX l) (hF2 : FitX m) :
    Calls Tryd.prog 6 #[.slice ao l.length cap, .slice bo m.length cb] w fun e w' => e = .returned (.bool true) ∧ Below w.heap.size w w' := by
  have HT : Hid (Tb5 w) := hT
  have HN : Hid (Rd w ao cap l) := hN
  have HN2 : Hid (Rd w bo cb m) := hN2
  have HF : Hid (FitX l) := hF
  have HF2 : Hid (FitX m) := hF2
  obtain ⟨S, hS⟩ : ∃ S, shS betT l = S := ⟨_, rfl⟩
  obtain ⟨L, hL⟩ : ∃ S, shS ahdT l = S := ⟨_, rfl⟩
  obtain ⟨E, hE⟩ : ∃ S, shE l = S := ⟨_, rfl⟩
  have cSh : Hid (∀ W ao cap, Tb5 W → Rd W ao cap l → Calls Tryd.prog 22 #[.slice ao l.length cap] W fun e w' => e = .returned (.tuple #[.string S, .int .i64 E]) ∧ Below W.heap.size W w') := fun W ao cap h1 h2 => by rw [← hS, ← hE]; exact show_any h1 h2 HF.out.fit5
  have cLi : Hid (∀ W ao cap, Tb5 W → Rd W ao cap l → Calls Tryd.prog 24 #[.slice ao l.length cap] W fun e w' => e = .returned (.tuple #[.string L, .int .i64 E]) ∧ Below W.heap.size W w') := fun W ao cap h1 h2 => by rw [← hL, ← hE]; exact lisp_any h1 h2 HF.out.fit5
  have cA := awake_any hT
  clear hT hN hN2 hF hF2 hS hL hE
  go_enter Tryd.func6, Tryd.ntmps6
  go_wp2_with (go_at_call 21; refine cA.mono ?_; rintro e w1 ⟨rfl, hb1⟩)
  have B1 : Hid (Below w.heap.size w w1) := hb1
  have cR := roomy_any ao cap l w1 (HN.out.below hb1 hb1.size) HF.out.fitR
  clear cA hb1
  go_wp2_with (go_at_call 28; refine cR.mono ?_; rintro e w2 ⟨R, vw, vf, vk, p, ks, rfl, hRO⟩)
  obtain ⟨wa, wc, fb, fc, ka, kc, hRm⟩ := hRO.rd
  have B2 : Hid (Below w.heap.size w w2) := B1.out.trans (hRO.below.mono B1.out.size)
  have R2 : Hid (RoomRd w2 R l wa wc fb fc ka kc) := hRm
  clear cR hRO hRm
  have c := roomExpr R2.out
  go_wp2_with (go_at_call 29; refine c.mono ?_; rintro e w3 ⟨rfl, hb⟩)
  have R3 : Hid (RoomRd w3 R l wa wc fb fc ka kc) := R2.out.below hb
  have B3 : Hid (Below w.heap.size w w3) := B2.out.trans (hb.mono B2.out.size)
  clear c hb
  have c := cSh.out w3 (some ⟨fb, 0, none⟩) fc (HT.out.below B3.out) (R3.out.full.prefix)
  go_wp2_with (go_at_call 22; refine c.mono ?_; rintro e w4 ⟨rfl, hb⟩)
  have R4 : Hid (RoomRd w4 R l wa wc fb fc ka kc) := R3.out.below hb
  have B4 : Hid (Below w.heap.size w w4) := B3.out.trans (hb.mono B3.out.size)
  clear c hb
  have c := roomExpr R4.out
  go_wp2_with (go_at_call 29; refine c.mono ?_; rintro e w5 ⟨rfl, hb⟩)
  have R5 : Hid (RoomRd w5 R l wa wc fb fc ka kc) := R4.out.below hb
  have B5 : Hid (Below w.heap.size w w5) := B4.out.trans (hb.mono B4.out.size)
  clear c hb
  have c := cLi.out w5 (some ⟨fb, 0, none⟩) fc (HT.out.below B5.out) (R5.out.full.prefix)
  go_wp2_with (go_at_call 24; refine c.mono ?_; rintro e w6 ⟨rfl, hb⟩)
  have R6 : Hid (RoomRd w6 R l wa wc fb fc ka kc) := R5.out.below hb
  have B6 : Hid (Below w.heap.size w w6) := B5.out.trans (hb.mono B5.out.size)
  clear c hb
  have c := copyR (HN2.out.below B6.out B6.out.size) HF2.out.fit
  go_wp2_with (go_at_call 9; refine c.mono ?_; rintro e w7 ⟨co7, cc7, rfl, hcr, hb⟩)
  have R7 : Hid (RoomRd w7 R l wa wc fb fc ka kc) := R6.out.below hb
  have B7 : Hid (Below w.heap.size w w7) := B6.out.trans (hb.mono B6.out.size)
  have C7 : Hid (Rd w7 co7 cc7 m) := hcr
  clear c hb hcr
  have c := show_any (HT.out.below B7.out) C7.out HF2.out.fit5
  go_wp2_with (go_at_call 22; refine c.mono ?_; rintro e w8 ⟨rfl, hb⟩)
  have R8 : Hid (RoomRd w8 R l wa wc fb fc ka kc) := R7.out.below hb
  have B8 : Hid (Below w.heap.size w w8) := B7.out.trans (hb.mono B7.out.size)
  clear c hb
  have c := copyR (HN2.out.below B8.out B8.out.size) HF2.out.fit
  go_wp2_with (go_at_call 9; refine c.mono ?_; rintro e w9 ⟨co9, cc9, rfl, hcr, hb⟩)
  have R9 : Hid (RoomRd w9 R l wa wc fb fc ka kc) := R8.out.below hb
  have B9 : Hid (Below w.heap.size w w9) := B8.out.trans (hb.mono B8.out.size)
  have C9 : Hid (Rd w9 co9 cc9 m) := hcr
  clear c hb hcr
  have c := lisp_any (HT.out.below B9.out) C9.out HF2.out.fit5
  go_wp2_with (go_at_call 24; refine c.mono ?_; rintro e w10 ⟨rfl, hb⟩)
  have R10 : Hid (RoomRd w10 R l wa wc fb fc ka kc) := R9.out.below hb
  have B10 : Hid (Below w.heap.size w w10) := B9.out.trans (hb.mono B9.out.size)
  clear c hb
  have c := roomExpr R10.out
  go_wp2_with (go_at_call 29; refine c.mono ?_; rintro e w11 ⟨rfl, hb⟩)
  have R11 : Hid (RoomRd w11 R l wa wc fb fc ka kc) := R10.out.below hb
  have B11 : Hid (Below w.heap.size w w11) := B10.out.trans (hb.mono B10.out.size)
  clear c hb
  have c := cSh.out w11 (some ⟨fb, 0, none⟩) fc (HT.out.below B11.out) (R11.out.full.prefix)
  go_wp2_with (go_at_call 22; refine c.mono ?_; rintro e w12 ⟨rfl, hb⟩)
  have R12 : Hid (RoomRd w12 R l wa wc fb fc ka kc) := R11.out.below hb
  have B12 : Hid (Below w.heap.size w w12) := B11.out.trans (hb.mono B11.out.size)
  clear c hb
  have c := roomExpr R12.out
  go_wp2_with (go_at_call 29; refine c.mono ?_; rintro e w13 ⟨rfl, hb⟩)
  have R13 : Hid (RoomRd w13 R l wa wc fb fc ka kc) := R12.out.below hb
  have B13 : Hid (Below w.heap.size w w13) := B12.out.trans (hb.mono B12.out.size)
  clear c hb
  have c := cLi.out w13 (some ⟨fb, 0, none⟩) fc (HT.out.below B13.out) (R13.out.full.prefix)
  go_wp2_with (go_at_call 24; refine c.mono ?_; rintro e w14 ⟨rfl, hb⟩)
  have R14 : Hid (RoomRd w14 R l wa wc fb fc ka kc) := R13.out.below hb
  have B14 : Hid (Below w.heap.size w w14) := B13.out.trans (hb.mono B13.out.size)
  clear c hb
  have c := kept_any R14.out HF.out.fitR
  go_wp2_with (go_at_call 30; refine c.mono ?_; rintro e wz ⟨rfl, hb⟩)
  go_ret
  exact ⟨rfl, B14.out.trans (hb.mono B14.out.size)⟩
end Go.Proofs.YtchhogiamdefjaaDoor
