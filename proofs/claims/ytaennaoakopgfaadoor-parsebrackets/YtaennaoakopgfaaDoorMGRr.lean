/-
  RrW, RrSkW, RrWrW, RrOpW.
-/
import Derived.Test.YtaennaoakopgfaaDoorMGPs
import Derived.Test.YtaennaoakopgfaaDoorMPkSt
import Derived.Test.YtaennaoakopgfaaDoorMGRs
import Derived.Test.YtaennaoakopgfaaDoorMQTail
import Derived.Test.YtaennaoakopgfaaDoorMBytePure
set_option linter.unusedSimpArgs false
set_option linter.unusedVariables false
namespace Go.Proofs.YtaennaoakopgfaaDoor
open Go.RowKit Go.Lib Go.Sort

/-- Block R is a reader at the place a, o brackets open, with the fault e at ft. -/
structure RdM (w : World) (R : Nat) (s : ByteArray) (pat : Bool) (a o ft : Nat) (e : Int) : Prop where
  blk : w.heap[R]? = some (.cells #[.string s, .bool pat, .int .i64 (a : Int), .int .i64 (o : Int), .int .i64 (ft : Int), .int .i64 e] 110 (0, 0))
theorem RdM.lt {w : World} {R : Nat} {s : ByteArray} {pat : Bool} {a o ft : Nat} {e : Int} (h : RdM w R s pat a o ft e) : R < w.heap.size := lt_of_block h.blk
theorem RdM.below {w w' : World} {R : Nat} {s : ByteArray} {pat : Bool} {a o ft : Nat} {e : Int} (h : RdM w R s pat a o ft e) (hb : Below w.heap.size w w') : RdM w' R s pat a o ft e := ⟨(hb.block _ h.lt).trans h.blk⟩
theorem RdM.cells {w : World} {R : Nat} {s : ByteArray} {pat : Bool} {a o ft : Nat} {e : Int} (h : RdM w R s pat a o ft e) : w.cell? ⟨R, 0, none⟩ = some (.string s) ∧ w.cell? ⟨R, 1, none⟩ = some (.bool pat) ∧ w.cell? ⟨R, 2, none⟩ = some (.int .i64 (a : Int)) ∧ w.cell? ⟨R, 3, none⟩ = some (.int .i64 (o : Int)) ∧ w.cell? ⟨R, 4, none⟩ = some (.int .i64 (ft : Int)) ∧ w.cell? ⟨R, 5, none⟩ = some (.int .i64 e) := by simp [World.cell?, h.blk]
theorem RdM.frozen {w : World} {R : Nat} {s : ByteArray} {pat : Bool} {a o ft : Nat} {e : Int} (h : RdM w R s pat a o ft e) (i : Nat) : w.frozen? ⟨R, i, none⟩ = false := by simp [World.frozen?, h.blk]
theorem RdM.at_ {w : World} {R : Nat} {s : ByteArray} {pat : Bool} {a o ft : Nat} {e : Int} (h : RdM w R s pat a o ft e) (b : Nat) : RdM (w.setCell ⟨R, 2, none⟩ (.int .i64 (b : Int))) R s pat b o ft e := ⟨by simpa using heap_setCell_same w R 2 _ _ (.int .i64 (b : Int)) h.blk⟩
theorem RdM.open_ {w : World} {R : Nat} {s : ByteArray} {pat : Bool} {a o ft : Nat} {e : Int} (h : RdM w R s pat a o ft e) (b : Nat) : RdM (w.setCell ⟨R, 3, none⟩ (.int .i64 (b : Int))) R s pat a b ft e := ⟨by simpa using heap_setCell_same w R 3 _ _ (.int .i64 (b : Int)) h.blk⟩
theorem RdM.err {w : World} {R : Nat} {s : ByteArray} {pat : Bool} {a o ft : Nat} {e : Int} (h : RdM w R s pat a o ft e) (p : Nat) (er : Int) : RdM ((w.setCell ⟨R, 4, none⟩ (.int .i64 (p : Int))).setCell ⟨R, 5, none⟩ (.int .i64 er)) R s pat a o p er := by
  have h1 : RdM (w.setCell ⟨R, 4, none⟩ (.int .i64 (p : Int))) R s pat a o p e := ⟨by simpa using heap_setCell_same w R 4 _ _ (.int .i64 (p : Int)) h.blk⟩
  exact ⟨by simpa using heap_setCell_same _ R 5 _ _ (.int .i64 er) h1.blk⟩

set_option maxHeartbeats 1000000 in
theorem rfail_any (w : World) (R : Nat) (s : ByteArray) (pat : Bool) (a o ft : Nat) (e : Int) (hM : RdM w R s pat a o ft e) (p : Nat) (er : Int) :
    Calls Tryd.prog 79 #[.pointer (some ⟨R, 0, none⟩), .int .i64 (p : Int), .int .i64 er] w fun x w' => x = .returned (.slice none 0 0) ∧ RdM w' R s pat a o (if e = 0 then p else ft) (if e = 0 then er else e) ∧ w.grownBy w' (some R) := by
  obtain ⟨c0, c1, c2, c3, c4, c5⟩ := hM.cells
  have fz := hM.frozen
  have hl := hM.lt
  have HE : Hid (RdM ((w.setCell ⟨R, 4, none⟩ (.int .i64 (p : Int))).setCell ⟨R, 5, none⟩ (.int .i64 er)) R s pat a o p er) := hM.err p er
  have HM : Hid (RdM w R s pat a o ft e) := hM
  have HG : Hid (w.grownBy ((w.setCell ⟨R, 4, none⟩ (.int .i64 (p : Int))).setCell ⟨R, 5, none⟩ (.int .i64 er)) (some R)) := gr_setB (gr_setB (World.grownBy.refl _ _))
  clear hM
  by_cases h0 : e = 0
  · rw [if_pos h0, if_pos h0]
    have g0 : (e == 0) = true := by simp [h0]
    clear h0
    go_enter Tryd.func79, Tryd.ntmps79
    go_wp2_with fail
    go_ret
    exact ⟨rfl, HE.out, HG.out⟩
  · rw [if_neg h0, if_neg h0]
    have g0 : (e == 0) = false := by simp [h0]
    clear h0
    go_enter Tryd.func79, Tryd.ntmps79
    go_wp2_with fail
    go_ret
    exact ⟨rfl, HM.out, World.grownBy.refl _ _⟩
end Go.Proofs.YtaennaoakopgfaaDoor

set_option linter.unusedSimpArgs false
set_option linter.unusedVariables false
namespace Go.Proofs.YtaennaoakopgfaaDoor
open Go.RowKit Go.Lib Go.Sort

def atW (R : Nat) (w : World) : Nat := match w.cell? ⟨R, 2, none⟩ with
  | some (.int .i64 z) => z.toNat
  | _ => 0
theorem RdM.atW {w : World} {R : Nat} {s : ByteArray} {pat : Bool} {a o ft : Nat} {e : Int} (h : RdM w R s pat a o ft e) : atW R w = a := by
  unfold Go.Proofs.YtaennaoakopgfaaDoor.atW
  rw [h.cells.2.2.1]; simp
theorem good_of_kd {s : ByteArray} {p : Nat} (h : kd (Utf8.decode s p).1 = 3) : wd s p = (Utf8.decode s p).2 := by
  unfold wd
  cases hb : bad s p
  · rfl
  · rw [bad_eq hb] at h
    exact absurd h (by decide)
theorem gr_trans_below {w w1 w2 : World} {R : Nat} (h : w.grownBy w1 (some R)) (hb : Below w1.heap.size w1 w2) : w.grownBy w2 (some R) := h.trans (gr_of_below hb _)

set_option maxHeartbeats 2000000 in
theorem rskip_any (w : World) (R : Nat) (s : ByteArray) (pat : Bool) (a o ft : Nat) (e : Int) (hM : RdM w R s pat a o ft e) (hs : s.size ≤ 4096) (ha : a ≤ s.size) :
    Calls Tryd.prog 76 #[.pointer (some ⟨R, 0, none⟩)] w fun x w' => x = .returned (.tuple #[]) ∧ RdM w' R s pat (skp s a) o ft e ∧ w.grownBy w' (some R) := by
  have hs0 : s.size ≤ maxLen := by unfold maxLen; omega
  obtain ⟨T, hT⟩ : ∃ T, skp s a = T := ⟨_, rfl⟩
  have HT : Hid (psSkip s s.size a = T) := hT
  rw [hT]
  have HM : Hid (RdM w R s pat a o ft e) := hM
  clear hT hM
  go_enter Tryd.func76, Tryd.ntmps76
  go_wp2_with fail
  go_loopw [] (fun wr => ∃ b f : Nat, RdM wr R s pat b o ft e ∧ Hid (psSkip s f b = T) ∧ s.size ≤ b + f ∧ b ≤ s.size ∧ w.grownBy wr (some R)) (fun wr => s.size - atW R wr)
  case atStart => exact ⟨a, s.size, HM.out, HT.out, by omega, ha, World.grownBy.refl _ _⟩
  case round =>
    obtain ⟨b, f, hr, HN, hf, hb, hg⟩ := hrel
    have hat := hr.atW
    obtain ⟨c0, c1, c2, c3, c4, c5⟩ := hr.cells
    have hl := hr.lt
    have g0 := cell_regrown c0
    have g2 := cell_regrown c2
    have HR : Hid (RdM wr R s pat b o ft e) := hr
    have HG : Hid (w.grownBy wr (some R)) := hg
    clear hr hg
    by_cases hp : b < s.size
    · obtain ⟨f, rfl⟩ : ∃ g, f = g + 1 := ⟨f - 1, by omega⟩
      have hw := width_pos s b hp
      have hw2 := dec_le s b hp
      have hR : Hid (∀ d os, Calls Tryd.prog 87 #[.string s, .int .i64 (b : Int)] (grow (redrawn wr d) os) fun e w'' => e = .returned (.int .i32 (rn s b)) ∧ ∃ p : Regrown, w'' = grow (redrawn wr p.d) p.os) := fun d os => Calls.regrown_of (refRune_any s b _ hs0 hb)
      have hK : Hid (∀ d os, Calls Tryd.prog 88 #[.int .i32 (rn s b)] (grow (redrawn wr d) os) fun e w'' => e = .returned (.int .i64 (kd (Utf8.decode s b).1)) ∧ ∃ p : Regrown, w'' = grow (redrawn wr p.d) p.os) := fun d os => Calls.regrown_of (by rw [← kd_rn s b hp]; exact refKind_kd _ _)
      have hst := psSkip_step s f b hp
      have gb : (b : Int) < (s.size : Int) := by omega
      by_cases hk : kd (Utf8.decode s b).1 = 3
      · have HX : Hid (psSkip s f (b + (Utf8.decode s b).2) = T) := by show _ = T; rw [← HN.out, hst, if_pos hk]
        have c7 : Hid (∀ W, Calls Tryd.prog 90 #[.string s, .int .i64 b] W fun e w' => e = .returned (.int .i64 ((Utf8.decode s b).2 : Nat)) ∧ Below W.heap.size W w') := fun W => by
          rw [← good_of_kd hk]; exact refWidth_in s b W hp hs0
        rw [hk] at hK
        generalize rn s b = rr at *
        generalize (Utf8.decode s b).2 = v at *
        clear hk hst HN
        have hv4 : (b : Int) + v ≤ 4096 := by omega
        go_wp2_with fail
        refine wp_region_quiet_below (by kernel_rfl) (by kernel_rfl) ?_
        iterate 23 (go_big_quiet_step ((first | (go_at_call 87; exact hR.out _ _) | (go_at_call 88; exact hK.out _ _))))
        refine wpQuiet_nil ?_
        intro _ hw'
        obtain ⟨⟨ds, oss⟩, hw''⟩ := hw'
        subst hw''
        have b4 := below_regrown wr ds oss
        have HR6 : RdM (grow (redrawn wr ds) oss) R s pat b o ft e := HR.out.below b4
        have G6 : Hid (w.grownBy (grow (redrawn wr ds) oss) (some R)) := gr_trans_below HG.out b4
        generalize grow (redrawn wr ds) oss = w6 at *
        obtain ⟨d0, d1, d2, d3, d4, d5⟩ := HR6.cells
        have hl6 := HR6.lt
        have H6 : Hid (RdM w6 R s pat b o ft e) := HR6
        clear HR6 b4 HR HG hR hK g0 g2 c0 c1 c2 c3 c4 c5
        have g0 := cell_regrown d0
        have g2 := cell_regrown d2
        have hW : Hid (∀ d os, Calls Tryd.prog 90 #[.string s, .int .i64 (b : Int)] (grow (redrawn w6 d) os) fun e w'' => e = .returned (.int .i64 (v : Int)) ∧ ∃ p : Regrown, w'' = grow (redrawn w6 p.d) p.os) := fun d os => Calls.regrown_of (c7.out _)
        go_wp2_with fail
        refine wp_region_quiet_then 15 (by kernel_rfl) (by kernel_rfl) ?_
        simp only [List.take_succ_cons, List.take_zero]
        iterate 15 (go_big_quiet_step ((go_at_call 90; exact hW.out _ _)))
        refine wpQuiet_nil ?_
        intro w' hw'
        obtain ⟨⟨dq, osq⟩, hw''⟩ := hw'
        subst hw''
        simp only [List.drop_succ_cons, List.drop_zero]
        have b5 := below_regrown w6 dq osq
        have HR7 : RdM (grow (redrawn w6 dq) osq) R s pat b o ft e := H6.out.below b5
        have G7 : Hid (w.grownBy (grow (redrawn w6 dq) osq) (some R)) := gr_trans_below G6.out b5
        generalize grow (redrawn w6 dq) osq = w7 at *
        have k2 := HR7.cells.2.2.1
        have kf := HR7.frozen 2
        have HR8 : Hid (RdM (w7.setCell ⟨R, 2, none⟩ (.int .i64 ((b + v : Nat) : Int))) R s pat (b + v) o ft e) := HR7.at_ (b + v)
        have G8 : Hid (w.grownBy (w7.setCell ⟨R, 2, none⟩ (.int .i64 ((b + v : Nat) : Int))) (some R)) := gr_setB G7.out
        have ebv : ((b + v : Nat) : Int) = (b : Int) + v := by omega
        rw [ebv] at HR8 G8
        clear HR7 b5 g0 g2 d0 d1 d2 d3 d4 d5 H6 G6 hW G7
        go_wp2_with fail
        refine ⟨⟨b + v, f, HR8.out, HX.out, by omega, by omega, G8.out⟩, ?_⟩
        rw [HR8.out.atW, hat]
        omega
      · have HX : Hid (b = T) := by show b = T; rw [← HN.out, hst, if_neg hk]
        have gk : (kd (Utf8.decode s b).1 == 3) = false := by simp [hk]
        generalize kd (Utf8.decode s b).1 = kk at *
        generalize rn s b = rr at *
        clear hk hst HN
        go_wp2_with fail
        refine wp_region_quiet_below (by kernel_rfl) (by kernel_rfl) ?_
        iterate 23 (go_big_quiet_step ((first | (go_at_call 87; exact hR.out _ _) | (go_at_call 88; exact hK.out _ _))))
        refine wpQuiet_nil ?_
        intro _ hw'
        obtain ⟨⟨ds, oss⟩, hw''⟩ := hw'
        subst hw''
        have b4 := below_regrown wr ds oss
        have HR6 : Hid (RdM (grow (redrawn wr ds) oss) R s pat b o ft e) := HR.out.below b4
        have G6 : Hid (w.grownBy (grow (redrawn wr ds) oss) (some R)) := gr_trans_below HG.out b4
        generalize grow (redrawn wr ds) oss = w6 at *
        clear b4 HR HG hR hK g0 g2 c0 c1 c2 c3 c4 c5
        go_wp2_with fail
        go_end0
        rw [← HX.out]
        exact ⟨rfl, HR6.out, G6.out⟩
    · have hbe : b = s.size := by omega
      have HX : Hid (b = T) := by show b = T; rw [← HN.out, psSkip_end s f b hp]
      have gb : ¬ (b : Int) < (s.size : Int) := by omega
      clear HN hbe
      go_wp2_with fail
      refine wp_region_quiet_below (by kernel_rfl) (by kernel_rfl) ?_
      iterate 23 (go_big_quiet_step (fail))
      refine wpQuiet_nil ?_
      intro _ hw'
      obtain ⟨⟨ds, oss⟩, hw''⟩ := hw'
      subst hw''
      have b4 := below_regrown wr ds oss
      have HR6 : Hid (RdM (grow (redrawn wr ds) oss) R s pat b o ft e) := HR.out.below b4
      have G6 : Hid (w.grownBy (grow (redrawn wr ds) oss) (some R)) := gr_trans_below HG.out b4
      generalize grow (redrawn wr ds) oss = w6 at *
      clear b4 HR HG g0 g2 c0 c1 c2 c3 c4 c5
      go_wp2_with fail
      go_end0
      rw [← HX.out]
      exact ⟨rfl, HR6.out, G6.out⟩
end Go.Proofs.YtaennaoakopgfaaDoor

set_option linter.unusedSimpArgs false
set_option linter.unusedVariables false
namespace Go.Proofs.YtaennaoakopgfaaDoor
open Go.RowKit Go.Lib Go.Sort

/-- The other characters, each ahead of what it stands for. -/
def oths : ByteArray := ⟨#[0xe2, 0x88, 0x92, 0x2d, 0xc3, 0x97, 0x2a, 0xc2, 0xb7, 0x2a, 0xc3, 0xb7, 0x2f, 0xc2, 0xac, 0x7e, 0xe2, 0x88, 0xa7, 0x26, 0xe2, 0x88, 0xa8, 0x7c, 0xe2, 0x8a, 0x95, 0x5e]⟩
def othL : List Int := [8722, 45, 215, 42, 183, 42, 247, 47, 172, 126, 8743, 38, 8744, 124, 8853, 94]
theorem runesFrom_oths : runesFrom oths 28 0 = othL := by decide +kernel
def wrF (c : Int) : List Int → Bool → Bool → Option Int
  | [], _, _ => none
  | x :: r, mine, odd => if mine then some x else wrF c r (!odd && x == c) (!odd)

def wrO (c : Int) (X : Option Int) : ByteArray := match X with
  | some x => Utf8.encode x
  | none => if c = 8810 then ⟨#[60, 60]⟩ else if c = 8811 then ⟨#[62, 62]⟩ else if c = 8801 then ⟨#[61, 61]⟩ else ⟨#[]⟩
/-- The sign that a character writes. -/
def wrT (c : Int) : ByteArray := wrO c (wrF c othL false false)
set_option maxHeartbeats 1000000 in
theorem written_any (c : Int) (w : World) :
    Calls Tryd.prog 110 #[.int .i32 c] w fun e w' => e = .returned (.string (wrT c)) ∧ Below w.heap.size w w' := by
  obtain ⟨X, hX⟩ : ∃ X, wrF c othL false false = X := ⟨_, rfl⟩
  obtain ⟨T, hT⟩ : ∃ T, wrT c = T := ⟨_, rfl⟩
  rw [hT]
  have HT : Hid (T = wrO c X) := by show T = _; rw [← hT, ← hX]; rfl
  clear hT
  go_enter Tryd.func110, Tryd.ntmps110
  go_wp2_with fail
  change Code.wp _ _ _ _ (w.iter oths 0)
  have hS := runesFrom_oths
  have HN : oths.size = 28 := rfl
  have H0 : Hid (wrF c (runesFrom oths 28 0) false false = X) := by show _ = X; rw [hS]; exact hX
  clear hX hS
  generalize oths = S at H0 HN ⊢
  go_loopw [4, 5] (fun vm vo w' => ∃ (pos f : Nat) (m od : Bool), vm = .bool m ∧ vo = .bool od ∧ w' = w.iter S pos ∧ Hid (wrF c (runesFrom S f pos) m od = X) ∧ S.size ≤ pos + f) (fun _ _ w' => S.size - w'.iterPos w.heap.size)
  case atStart => exact ⟨0, 28, false, false, rfl, rfl, rfl, H0.out, by omega⟩
  case round =>
    obtain ⟨pos, f, m, od, rfl, rfl, rfl, HA, hf⟩ := hrel
    by_cases hp : pos < S.size
    · have hnx : ∀ ty, (Instr.next (.pointer (some ⟨w.heap.size, 0, none⟩)) true ty).run Tryd.prog (w.iter S pos) = _ := fun ty => run_next_any w S pos ty hp
      obtain ⟨f, rfl⟩ : ∃ g, f = g + 1 := ⟨f - 1, by omega⟩
      have hw := width_pos S pos hp
      have HX : Hid (runesFrom S (f + 1) pos = ((Utf8.decode S pos).1 : Int) :: runesFrom S f (pos + (Utf8.decode S pos).2)) := runesFrom_cons S f pos hp
      cases m with
      | true =>
        have HY : Hid (X = some ((Utf8.decode S pos).1 : Int)) := by show X = _; rw [← HA.out, HX.out]; rfl
        go_wp2_with fail
        go_ret
        exact ⟨by rw [HT.out, HY.out]; rfl, (Below.refl _ _).alloc (Nat.le_refl _) _⟩
      | false =>
        cases od with
        | true =>
          have HY : Hid (wrF c (runesFrom S f (pos + (Utf8.decode S pos).2)) false false = X) := by show _ = X; rw [← HA.out, HX.out]; rfl
          go_wp2_with fail
          go_roundw
          case rel => exact ⟨_, f, false, false, rfl, rfl, rfl, HY.out, by omega⟩
          case measure => simp; omega
        | false =>
          cases hr : (((Utf8.decode S pos).1 : Int) == c)
          · have HY : Hid (wrF c (runesFrom S f (pos + (Utf8.decode S pos).2)) false true = X) := by show _ = X; rw [← HA.out, HX.out]; simp [wrF, hr]
            go_wp2_with fail
            go_roundw
            case rel => exact ⟨_, f, false, true, rfl, rfl, rfl, HY.out, by omega⟩
            case measure => simp; omega
          · have HY : Hid (wrF c (runesFrom S f (pos + (Utf8.decode S pos).2)) true true = X) := by show _ = X; rw [← HA.out, HX.out]; simp [wrF, hr]
            go_wp2_with fail
            go_roundw
            case rel => exact ⟨_, f, true, true, rfl, rfl, rfl, HY.out, by omega⟩
            case measure => simp; omega
    · have hnx : ∀ ty, (Instr.next (.pointer (some ⟨w.heap.size, 0, none⟩)) true ty).run Tryd.prog (w.iter S pos) = _ := fun ty => run_next_end w S pos ty hp
      have HY : Hid (X = none) := by show X = none; rw [← HA.out, runesFrom_end S f pos hp]; rfl
      have HE : Hid (T = if c = 8810 then ⟨#[60, 60]⟩ else if c = 8811 then ⟨#[62, 62]⟩ else if c = 8801 then ⟨#[61, 61]⟩ else ⟨#[]⟩) := by show T = _; rw [HT.out, HY.out]; rfl
      by_cases h1 : c = 8810
      · have g1 : (c == 8810) = true := by simp [h1]
        have HF : Hid (T = ⟨#[60, 60]⟩) := by show T = _; rw [HE.out, if_pos h1]
        clear h1 HE
        go_wp2_with fail
        go_ret
        exact ⟨by rw [HF.out]; rfl, (Below.refl _ _).alloc (Nat.le_refl _) _⟩
      · have g1 : (c == 8810) = false := by simp [h1]
        by_cases h2 : c = 8811
        · have g2 : (c == 8811) = true := by simp [h2]
          have HF : Hid (T = ⟨#[62, 62]⟩) := by show T = _; rw [HE.out, if_neg h1, if_pos h2]
          clear h1 h2 HE
          go_wp2_with fail
          go_ret
          exact ⟨by rw [HF.out]; rfl, (Below.refl _ _).alloc (Nat.le_refl _) _⟩
        · have g2 : (c == 8811) = false := by simp [h2]
          by_cases h3 : c = 8801
          · have g3 : (c == 8801) = true := by simp [h3]
            have HF : Hid (T = ⟨#[61, 61]⟩) := by show T = _; rw [HE.out, if_neg h1, if_neg h2, if_pos h3]
            clear h1 h2 h3 HE
            go_wp2_with fail
            go_ret
            exact ⟨by rw [HF.out]; rfl, (Below.refl _ _).alloc (Nat.le_refl _) _⟩
          · have g3 : (c == 8801) = false := by simp [h3]
            have HF : Hid (T = ⟨#[]⟩) := by show T = _; rw [HE.out, if_neg h1, if_neg h2, if_neg h3]
            clear h1 h2 h3 HE
            go_wp2_with fail
            go_ret
            exact ⟨by rw [HF.out]; rfl, (Below.refl _ _).alloc (Nat.le_refl _) _⟩
end Go.Proofs.YtaennaoakopgfaaDoor

set_option linter.unusedSimpArgs false
set_option linter.unusedVariables false
namespace Go.Proofs.YtaennaoakopgfaaDoor
open Go.RowKit Go.Lib Go.Sort

theorem beq_toL (a b : ByteArray) : (a.toList == b.toList) = decide (a = b) := by
  rw [toList_data, toList_data]
  by_cases h : a = b
  · subst h; simp
  · have : a.data.toList ≠ b.data.toList := fun e => h (ByteArray.ext (Array.toList_inj.1 e))
    rw [beq_eq_false_iff_ne.2 this]
    simp [h]
def bs (l : List UInt8) : ByteArray := ⟨l.toArray⟩
theorem pick_any (a b : ByteArray) (k : Int) (w : World) :
    Calls Tryd.prog 140 #[.string a, .string b, .int .i64 k] w fun e w' => e = .returned (.int .i64 (if a = b then k else 0)) ∧ w' = w := by
  have hq := beq_toL a b
  by_cases h : a = b
  · rw [if_pos h]
    rw [decide_eq_true h] at hq
    clear h
    go_enter Tryd.func140, Tryd.ntmps140
    go_wp2_with fail
    go_ret
    exact ⟨rfl, rfl⟩
  · rw [if_neg h]
    rw [decide_eq_false h] at hq
    clear h
    go_enter Tryd.func140, Tryd.ntmps140
    go_wp2_with fail
    go_ret
    exact ⟨rfl, rfl⟩

/-- What a sign stands for at a level. -/
def opR (lv : Int) (s : ByteArray) : Int :=
  if lv = 0 then (if s = bs [124] then 11 else 0) else if lv = 1 then (if s = bs [94] then 12 else 0) else if lv = 2 then (if s = bs [38] then 10 else 0) else if lv = 3 then (if s = bs [61, 61] then 15 else 0)
  else if lv = 4 then (if s = bs [60] then 16 else 0) else if lv = 5 then (if s = bs [60, 60] then 13 else 0) + (if s = bs [62, 62] then 14 else 0) else if lv = 6 then (if s = bs [43] then 5 else 0) + (if s = bs [45] then 6 else 0)
  else (if s = bs [42] then 7 else 0) + (if s = bs [47] then 8 else 0) + (if s = bs [37] then 9 else 0)
theorem op_bound (s b : ByteArray) (k : Int) (hk : 0 ≤ k ∧ k ≤ 16) : ∃ z : Int, (if s = b then k else 0) = z ∧ 0 ≤ z ∧ z ≤ 16 := by
  refine ⟨_, rfl, ?_⟩
  split <;> omega
set_option maxHeartbeats 4000000 in
theorem op_any (lv : Int) (s : ByteArray) (w : World) :
    Calls Tryd.prog 129 #[.int .i64 lv, .string s] w fun e w' => e = .returned (.int .i64 (opR lv s)) ∧ w' = w := by
  have c : Hid (∀ b k W, Calls Tryd.prog 140 #[.string s, .string b, .int .i64 k] W fun e w' => e = .returned (.int .i64 (if s = b then k else 0)) ∧ w' = W) := fun b k W => pick_any s b k W
  by_cases h0 : lv = 0
  · have g0 : (lv == 0) = true := by simp [h0]
    obtain ⟨z0, hz0, hl0, hu0⟩ := op_bound s ⟨#[124]⟩ 11 (by decide)
    have d0 := c.out ⟨#[124]⟩ 11
    rw [hz0] at d0
    have HR : Hid (opR lv s = (z0)) := by show _ = _; unfold opR; rw [if_pos h0]; unfold bs; rw [← hz0]
    clear c hz0 h0
    go_enter Tryd.func129, Tryd.ntmps129
    go_wp2_with fail
    refine (d0 _).mono ?_
    rintro e w0 ⟨rfl, rfl⟩
    go_wp2_with fail
    go_ret
    exact ⟨by rw [HR.out]; rfl, rfl⟩
  · have g0 : (lv == 0) = false := by simp [h0]
    by_cases h1 : lv = 1
    · have g1 : (lv == 1) = true := by simp [h1]
      obtain ⟨z0, hz0, hl0, hu0⟩ := op_bound s ⟨#[94]⟩ 12 (by decide)
      have d0 := c.out ⟨#[94]⟩ 12
      rw [hz0] at d0
      have HR : Hid (opR lv s = (z0)) := by show _ = _; unfold opR; rw [if_neg h0, if_pos h1]; unfold bs; rw [← hz0]
      clear c hz0 h0 h1
      go_enter Tryd.func129, Tryd.ntmps129
      go_wp2_with fail
      refine (d0 _).mono ?_
      rintro e w0 ⟨rfl, rfl⟩
      go_wp2_with fail
      go_ret
      exact ⟨by rw [HR.out]; rfl, rfl⟩
    · have g1 : (lv == 1) = false := by simp [h1]
      by_cases h2 : lv = 2
      · have g2 : (lv == 2) = true := by simp [h2]
        obtain ⟨z0, hz0, hl0, hu0⟩ := op_bound s ⟨#[38]⟩ 10 (by decide)
        have d0 := c.out ⟨#[38]⟩ 10
        rw [hz0] at d0
        have HR : Hid (opR lv s = (z0)) := by show _ = _; unfold opR; rw [if_neg h0, if_neg h1, if_pos h2]; unfold bs; rw [← hz0]
        clear c hz0 h0 h1 h2
        go_enter Tryd.func129, Tryd.ntmps129
        go_wp2_with fail
        refine (d0 _).mono ?_
        rintro e w0 ⟨rfl, rfl⟩
        go_wp2_with fail
        go_ret
        exact ⟨by rw [HR.out]; rfl, rfl⟩
      · have g2 : (lv == 2) = false := by simp [h2]
        by_cases h3 : lv = 3
        · have g3 : (lv == 3) = true := by simp [h3]
          obtain ⟨z0, hz0, hl0, hu0⟩ := op_bound s ⟨#[61, 61]⟩ 15 (by decide)
          have d0 := c.out ⟨#[61, 61]⟩ 15
          rw [hz0] at d0
          have HR : Hid (opR lv s = (z0)) := by show _ = _; unfold opR; rw [if_neg h0, if_neg h1, if_neg h2, if_pos h3]; unfold bs; rw [← hz0]
          clear c hz0 h0 h1 h2 h3
          go_enter Tryd.func129, Tryd.ntmps129
          go_wp2_with fail
          refine (d0 _).mono ?_
          rintro e w0 ⟨rfl, rfl⟩
          go_wp2_with fail
          go_ret
          exact ⟨by rw [HR.out]; rfl, rfl⟩
        · have g3 : (lv == 3) = false := by simp [h3]
          by_cases h4 : lv = 4
          · have g4 : (lv == 4) = true := by simp [h4]
            obtain ⟨z0, hz0, hl0, hu0⟩ := op_bound s ⟨#[60]⟩ 16 (by decide)
            have d0 := c.out ⟨#[60]⟩ 16
            rw [hz0] at d0
            have HR : Hid (opR lv s = (z0)) := by show _ = _; unfold opR; rw [if_neg h0, if_neg h1, if_neg h2, if_neg h3, if_pos h4]; unfold bs; rw [← hz0]
            clear c hz0 h0 h1 h2 h3 h4
            go_enter Tryd.func129, Tryd.ntmps129
            go_wp2_with fail
            refine (d0 _).mono ?_
            rintro e w0 ⟨rfl, rfl⟩
            go_wp2_with fail
            go_ret
            exact ⟨by rw [HR.out]; rfl, rfl⟩
          · have g4 : (lv == 4) = false := by simp [h4]
            by_cases h5 : lv = 5
            · have g5 : (lv == 5) = true := by simp [h5]
              obtain ⟨z0, hz0, hl0, hu0⟩ := op_bound s ⟨#[60, 60]⟩ 13 (by decide)
              have d0 := c.out ⟨#[60, 60]⟩ 13
              rw [hz0] at d0
              obtain ⟨z1, hz1, hl1, hu1⟩ := op_bound s ⟨#[62, 62]⟩ 14 (by decide)
              have d1 := c.out ⟨#[62, 62]⟩ 14
              rw [hz1] at d1
              have HR : Hid (opR lv s = (z0 + z1)) := by show _ = _; unfold opR; rw [if_neg h0, if_neg h1, if_neg h2, if_neg h3, if_neg h4, if_pos h5]; unfold bs; rw [← hz0, ← hz1]
              clear c hz0 hz1 h0 h1 h2 h3 h4 h5
              go_enter Tryd.func129, Tryd.ntmps129
              go_wp2_with fail
              refine (d0 _).mono ?_
              rintro e w0 ⟨rfl, rfl⟩
              go_wp2_with fail
              refine (d1 _).mono ?_
              rintro e w1 ⟨rfl, rfl⟩
              go_wp2_with fail
              go_ret
              exact ⟨by rw [HR.out]; rfl, rfl⟩
            · have g5 : (lv == 5) = false := by simp [h5]
              by_cases h6 : lv = 6
              · have g6 : (lv == 6) = true := by simp [h6]
                obtain ⟨z0, hz0, hl0, hu0⟩ := op_bound s ⟨#[43]⟩ 5 (by decide)
                have d0 := c.out ⟨#[43]⟩ 5
                rw [hz0] at d0
                obtain ⟨z1, hz1, hl1, hu1⟩ := op_bound s ⟨#[45]⟩ 6 (by decide)
                have d1 := c.out ⟨#[45]⟩ 6
                rw [hz1] at d1
                have HR : Hid (opR lv s = (z0 + z1)) := by show _ = _; unfold opR; rw [if_neg h0, if_neg h1, if_neg h2, if_neg h3, if_neg h4, if_neg h5, if_pos h6]; unfold bs; rw [← hz0, ← hz1]
                clear c hz0 hz1 h0 h1 h2 h3 h4 h5 h6
                go_enter Tryd.func129, Tryd.ntmps129
                go_wp2_with fail
                refine (d0 _).mono ?_
                rintro e w0 ⟨rfl, rfl⟩
                go_wp2_with fail
                refine (d1 _).mono ?_
                rintro e w1 ⟨rfl, rfl⟩
                go_wp2_with fail
                go_ret
                exact ⟨by rw [HR.out]; rfl, rfl⟩
              · have g6 : (lv == 6) = false := by simp [h6]
                obtain ⟨z0, hz0, hl0, hu0⟩ := op_bound s ⟨#[42]⟩ 7 (by decide)
                have d0 := c.out ⟨#[42]⟩ 7
                rw [hz0] at d0
                obtain ⟨z1, hz1, hl1, hu1⟩ := op_bound s ⟨#[47]⟩ 8 (by decide)
                have d1 := c.out ⟨#[47]⟩ 8
                rw [hz1] at d1
                obtain ⟨z2, hz2, hl2, hu2⟩ := op_bound s ⟨#[37]⟩ 9 (by decide)
                have d2 := c.out ⟨#[37]⟩ 9
                rw [hz2] at d2
                have HR : Hid (opR lv s = (z0 + z1 + z2)) := by show _ = _; unfold opR; rw [if_neg h0, if_neg h1, if_neg h2, if_neg h3, if_neg h4, if_neg h5, if_neg h6]; unfold bs; rw [← hz0, ← hz1, ← hz2]
                clear c hz0 hz1 hz2 h0 h1 h2 h3 h4 h5 h6
                go_enter Tryd.func129, Tryd.ntmps129
                go_wp2_with fail
                refine (d0 _).mono ?_
                rintro e w0 ⟨rfl, rfl⟩
                go_wp2_with fail
                refine (d1 _).mono ?_
                rintro e w1 ⟨rfl, rfl⟩
                go_wp2_with fail
                refine (d2 _).mono ?_
                rintro e w2 ⟨rfl, rfl⟩
                go_wp2_with fail
                go_ret
                exact ⟨by rw [HR.out]; rfl, rfl⟩
end Go.Proofs.YtaennaoakopgfaaDoor
