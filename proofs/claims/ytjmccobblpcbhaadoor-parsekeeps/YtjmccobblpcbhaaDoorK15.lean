/-
  RrSgW, RrTkW.
-/
import Derived.Shelf.Unicode.DecodeSlow
import Derived.Laws.RangeAny
import Derived.Shelf.Strings.Builder1
import Derived.Shelf.Small.Utf8
import Derived.Shelf.Small.Bits
import Derived.Shelf.Strings.BuilderF
import Derived.Shelf.Strings.BuilderK
import Derived.Shelf.Strings.BuilderRune
import Derived.Shelf.Utf8.AppendRune
import Derived.Shelf.Strconv.Itoa0
import Derived.Shelf.Strconv.Itoa1
import Derived.Shelf.LaysM
import Derived.Shelf.Strconv.Itoa2
import Derived.Shelf.Strconv.Itoa3
import Derived.Shelf.Strconv.Itoa4
import Derived.Shelf.Strings.Prefix
import Derived.Shelf.Unicode.DecodeAny
import Derived.Test.YtjmccobblpcbhaaDoorProg
import Derived.WalkKit
import Derived.Deep.DeepFit
import Derived.Lib.OthersKept
import Derived.Lib.RuneCountTail
import Derived.Lib.Small
import Derived.Lib.Strings
import Derived.Lib.MapLaws
import Derived.Deep.AppendLies
import Derived.Deep.OwnRows
import Derived.Laws.AppendOwnNone
import Derived.Deep.QuietTactic
import Derived.BigQuiet
import Derived.Deep.RegionWith
import Derived.Laws.DeepStrings4
import Derived.Deep.RegionHeld3
import Derived.Laws.ResultCell
import Derived.Lib.QuietBelow
import Derived.Deep.Heap
import Derived.Laws.Rows
import Derived.Below
import Derived.StillTail
import Derived.Sort.Walk0
import Derived.Test.YtjmccobblpcbhaaDoorK01
import Derived.Test.YtjmccobblpcbhaaDoorK02
import Derived.Test.YtjmccobblpcbhaaDoorK03
import Derived.Test.YtjmccobblpcbhaaDoorK04
import Derived.Test.YtjmccobblpcbhaaDoorK05
import Derived.Test.YtjmccobblpcbhaaDoorK06
import Derived.Test.YtjmccobblpcbhaaDoorK07
import Derived.Test.YtjmccobblpcbhaaDoorK08
import Derived.Test.YtjmccobblpcbhaaDoorK09
import Derived.Test.YtjmccobblpcbhaaDoorK10
import Derived.Test.YtjmccobblpcbhaaDoorK11
import Derived.Test.YtjmccobblpcbhaaDoorK12
import Derived.Test.YtjmccobblpcbhaaDoorK13
import Derived.Test.YtjmccobblpcbhaaDoorK14
set_option linter.unusedSimpArgs false
set_option linter.unusedVariables false
namespace Go.Proofs.YtjmccobblpcbhaaDoor
open Go.RowKit Go.Lib Go.Sort

def sgAll : ByteArray := ⟨#[40, 41, 43, 45, 42, 47, 37, 38, 124, 94, 126, 60, 63, 58]⟩
def sgLst : List Int := [40, 41, 43, 45, 42, 47, 37, 38, 124, 94, 126, 60, 63, 58]
theorem runesFrom_sg : runesFrom sgAll 14 0 = sgLst := by decide +kernel
def sg2 (r : ByteArray) : Bool := decide (1 < r.size) && ((r.extract 0 2).toList == [60, 60] || (r.extract 0 2).toList == [62, 62] || (r.extract 0 2).toList == [61, 61])
theorem isE (T : ByteArray) : T.toList.isEmpty = decide (T = ⟨#[]⟩) := by
  rw [toList_data]
  by_cases h : T = ⟨#[]⟩
  · subst h; rfl
  · rw [decide_eq_false h]
    cases hl : T.data.toList with
    | nil => exact absurd (ByteArray.ext (by simpa using hl)) h
    | cons x r => rfl
/-- The sign at a place: its text and its width; none: a fault. -/
def sgR (s : ByteArray) (pat : Bool) (a : Nat) : Option (ByteArray × Nat) :=
  if ¬ a < s.size ∨ kd (rn s a) = 1 ∨ kd (rn s a) = 2 then some (⟨#[]⟩, 0)
  else if wrT (rn s a) ≠ ⟨#[]⟩ then some (wrT (rn s a), wd s a)
  else if sg2 (s.extract a s.size) = true then some ((s.extract a s.size).extract 0 2, 2)
  else if sgLst.any (· == rn s a) = true then some (Utf8.encode (rn s a), 1)
  else if rn s a = 64 ∧ pat = true then some (⟨#[64]⟩, 1)
  else none
def SgRes (w : World) (R : Nat) (s : ByteArray) (pat : Bool) (a o ft : Nat) (e : Int) (X : Option (ByteArray × Nat)) (x : Ending) (w' : World) : Prop := match X with
  | some r => x = .returned (.tuple #[.string r.1, .int .i64 (r.2 : Int)]) ∧ Below w.heap.size w w'
  | none => x = .returned (.tuple #[.string ⟨#[]⟩, .int .i64 0]) ∧ RdM w' R s pat a o (if e = 0 then a else ft) (if e = 0 then 5 else e) ∧ w.grownBy w' (some R)

set_option maxRecDepth 20000 in
set_option maxHeartbeats 4000000 in
theorem sign_any (w : World) (R : Nat) (s : ByteArray) (pat : Bool) (a o ft : Nat) (e : Int) (hM : RdM w R s pat a o ft e) (hs : s.size ≤ 4096) (ha : a ≤ s.size) :
    Calls Tryd.prog 99 #[.pointer (some ⟨R, 0, none⟩)] w fun x w' => SgRes w R s pat a o ft e (sgR s pat a) x w' := by
  have hs0 : s.size ≤ maxLen := by unfold maxLen; omega
  have M0 : Hid (RdM w R s pat a o ft e) := hM
  have B0 : Hid (Below w.heap.size w w) := Below.refl _ _
  obtain ⟨X, hX⟩ : ∃ X, sgR s pat a = X := ⟨_, rfl⟩
  have HX : Hid (sgR s pat a = X) := hX
  rw [hX]
  clear hX hM
  obtain ⟨c0, c1, c2, c3, c4, c5⟩ := M0.out.cells
  have cg0 := cell_regrown c0
  have cg2 := cell_regrown c2
  obtain ⟨c, hc⟩ : ∃ c, rn s a = c := ⟨_, rfl⟩
  have HC : Hid (rn s a = c) := hc
  have cR : Hid (∀ d os, Calls Tryd.prog 58 #[.string s, .int .i64 (a : Int)] (grow (redrawn w d) os) fun e w'' => e = .returned (.int .i32 c) ∧ ∃ p : Regrown, w'' = grow (redrawn w p.d) p.os) := fun d os => Calls.regrown_of (by rw [← hc]; exact refRune_any s a _ hs0 ha)
  clear hc
  go_enter Tryd.func99, Tryd.ntmps99
  go_wp2_with fail
  refine wp_region_quiet_below (by kernel_rfl) (by kernel_rfl) ?_
  iterate 10 (go_big_quiet_step ((go_at_call 58; exact cR.out _ _)))
  refine wpQuiet_nil ?_
  intro _ hw'
  obtain ⟨⟨ds, oss⟩, hw''⟩ := hw'
  subst hw''
  have b' := below_regrown w ds oss
  have M1 : Hid (RdM (grow (redrawn w ds) oss) R s pat a o ft e) := M0.out.below b'
  have B1 : Hid (Below w.heap.size w (grow (redrawn w ds) oss)) := B0.out.trans (b'.mono B0.out.size)
  generalize grow (redrawn w ds) oss = w1 at *
  clear b'
  clear c0 c1 c2 c3 c4 c5 cg0 cg2
  have cK := refKind_kd c w1
  go_wp2_with fail
  refine cK.mono ?_
  rintro x w2 ⟨rfl, hb2⟩
  have M2 : Hid (RdM w2 R s pat a o ft e) := M1.out.below hb2
  have B2 : Hid (Below w.heap.size w w2) := B1.out.trans (hb2.mono B1.out.size)
  obtain ⟨d0, d1, d2, d3, d4, d5⟩ := M2.out.cells
  have dg0 := cell_regrown d0
  have dg2 := cell_regrown d2
  clear cK hb2 cR
  by_cases hE : ¬ a < s.size ∨ kd c = 1 ∨ kd c = 2
  · have HRES : Hid (X = some (⟨#[]⟩, 0)) := by show X = _; rw [← HX.out]; unfold sgR; rw [HC.out, if_pos hE]
    have hg : (decide ((s.size : Int) ≤ (a : Int)) || (kd c == 1) || (kd c == 2)) = true := by
      rcases hE with h | h | h
      · have : (s.size : Int) ≤ a := by omega
        simp [this]
      · simp [h]
      · simp [h]
    clear hE
    generalize kd c = kk at *
    by_cases h1 : (s.size : Int) ≤ (a : Int)
    · go_wp2_with fail
      refine wp_region_quiet_below (by kernel_rfl) (by kernel_rfl) ?_
      iterate 18 (go_big_quiet_step (fail))
      refine wpQuiet_nil ?_
      intro _ hw'
      obtain ⟨⟨ds, oss⟩, hw''⟩ := hw'
      subst hw''
      have b' := below_regrown w2 ds oss
      have M3 : Hid (RdM (grow (redrawn w2 ds) oss) R s pat a o ft e) := M2.out.below b'
      have B3 : Hid (Below w.heap.size w (grow (redrawn w2 ds) oss)) := B2.out.trans (b'.mono B2.out.size)
      generalize grow (redrawn w2 ds) oss = w3 at *
      clear b'
      go_wp2_with fail
      go_ret2
      exact (by rw [HRES.out]; exact ⟨rfl, B3.out⟩)
    · have h1a : (a : Int) < (s.size : Int) := by omega
      have h1b : a < s.size := by omega
      have h1c : decide (s.size ≤ a) = false := by rw [decide_eq_false_iff_not]; omega
      cases h2 : (kk == 1)
      · cases h3 : (kk == 2)
        · simp [h1, h2, h3] at hg
        · go_wp2_with fail
          refine wp_region_quiet_below (by kernel_rfl) (by kernel_rfl) ?_
          iterate 18 (go_big_quiet_step (fail))
          refine wpQuiet_nil ?_
          intro _ hw'
          obtain ⟨⟨ds, oss⟩, hw''⟩ := hw'
          subst hw''
          have b' := below_regrown w2 ds oss
          have M3 : Hid (RdM (grow (redrawn w2 ds) oss) R s pat a o ft e) := M2.out.below b'
          have B3 : Hid (Below w.heap.size w (grow (redrawn w2 ds) oss)) := B2.out.trans (b'.mono B2.out.size)
          generalize grow (redrawn w2 ds) oss = w3 at *
          clear b'
          go_wp2_with fail
          go_ret2
          exact (by rw [HRES.out]; exact ⟨rfl, B3.out⟩)
      · go_wp2_with fail
        refine wp_region_quiet_below (by kernel_rfl) (by kernel_rfl) ?_
        iterate 18 (go_big_quiet_step (fail))
        refine wpQuiet_nil ?_
        intro _ hw'
        obtain ⟨⟨ds, oss⟩, hw''⟩ := hw'
        subst hw''
        have b' := below_regrown w2 ds oss
        have M3 : Hid (RdM (grow (redrawn w2 ds) oss) R s pat a o ft e) := M2.out.below b'
        have B3 : Hid (Below w.heap.size w (grow (redrawn w2 ds) oss)) := B2.out.trans (b'.mono B2.out.size)
        generalize grow (redrawn w2 ds) oss = w3 at *
        clear b'
        go_wp2_with fail
        go_ret2
        exact (by rw [HRES.out]; exact ⟨rfl, B3.out⟩)
  · have hlt : a < s.size := by
      by_cases h : a < s.size
      · exact h
      · exact absurd (.inl h) hE
    have h1 : ¬ (s.size : Int) ≤ (a : Int) := by omega
    have h1a : (a : Int) < (s.size : Int) := by omega
    have h1c : decide (s.size ≤ a) = false := by rw [decide_eq_false_iff_not]; omega
    have h2 : (kd c == 1) = false := by rw [beq_eq_false_iff_ne]; exact fun h => hE (.inr (.inl h))
    have h3 : (kd c == 2) = false := by rw [beq_eq_false_iff_ne]; exact fun h => hE (.inr (.inr h))
    have HX2 : Hid (X = if wrT c ≠ ⟨#[]⟩ then some (wrT c, wd s a) else if sg2 (s.extract a s.size) = true then some ((s.extract a s.size).extract 0 2, 2) else if sgLst.any (· == c) = true then some (Utf8.encode c, 1) else if c = 64 ∧ pat = true then some (⟨#[64]⟩, 1) else none) := by show X = _; rw [← HX.out]; unfold sgR; rw [HC.out, if_neg hE]
    clear hE
    generalize kd c = kk at *
    go_wp2_with fail
    refine wp_region_quiet_below (by kernel_rfl) (by kernel_rfl) ?_
    iterate 18 (go_big_quiet_step (fail))
    refine wpQuiet_nil ?_
    intro _ hw'
    obtain ⟨⟨ds, oss⟩, hw''⟩ := hw'
    subst hw''
    have b' := below_regrown w2 ds oss
    have M3 : Hid (RdM (grow (redrawn w2 ds) oss) R s pat a o ft e) := M2.out.below b'
    have B3 : Hid (Below w.heap.size w (grow (redrawn w2 ds) oss)) := B2.out.trans (b'.mono B2.out.size)
    generalize grow (redrawn w2 ds) oss = w3 at *
    clear b'
    clear d0 d1 d2 d3 d4 d5 dg0 dg2
    have cW := written_any c w3
    go_wp2_with fail
    refine cW.mono ?_
    rintro x w4 ⟨rfl, hb4⟩
    have M4 : Hid (RdM w4 R s pat a o ft e) := M3.out.below hb4
    have B4 : Hid (Below w.heap.size w w4) := B3.out.trans (hb4.mono B3.out.size)
    obtain ⟨f0, f1, f2, f3, f4, f5⟩ := M4.out.cells
    have fg0 := cell_regrown f0
    have fg2 := cell_regrown f2
    clear cW hb4
    have hq := isE (wrT c)
    by_cases hw : wrT c = ⟨#[]⟩
    · rw [decide_eq_true hw] at hq
      have HX3 : Hid (X = if sg2 (s.extract a s.size) = true then some ((s.extract a s.size).extract 0 2, 2) else if sgLst.any (· == c) = true then some (Utf8.encode c, 1) else if c = 64 ∧ pat = true then some (⟨#[64]⟩, 1) else none) := by show X = _; rw [HX2.out, if_neg (by simpa using hw)]
      generalize wrT c = T at *
      clear hw HX2
      have ha64 : (a : Int) ≤ 9000000 := by omega
      have hs64 : (s.size : Int) ≤ 9000000 := by omega
      go_wp2_with fail
      refine wp_region_quiet_below (by kernel_rfl) (by kernel_rfl) ?_
      iterate 10 (go_big_quiet_step (fail))
      refine wpQuiet_nil ?_
      intro _ hw'
      obtain ⟨⟨ds, oss⟩, hw''⟩ := hw'
      subst hw''
      have b' := below_regrown w4 ds oss
      have M5 : Hid (RdM (grow (redrawn w4 ds) oss) R s pat a o ft e) := M4.out.below b'
      have B5 : Hid (Below w.heap.size w (grow (redrawn w4 ds) oss)) := B4.out.trans (b'.mono B4.out.size)
      generalize grow (redrawn w4 ds) oss = w5 at *
      clear b'
      clear f0 f1 f2 f3 f4 f5 fg0 fg2
      have hrz : (s.extract a s.size).size ≤ 4096 := Nat.le_trans (by simp [ByteArray.size_extract]) hs
      generalize s.extract a s.size = r at *
      by_cases hr1 : 1 < r.size
      · have gr1 : (1 : Int) < (r.size : Int) := by omega
        have gr2 : (2 : Int) ≤ (r.size : Int) := by omega
        cases h60 : ((r.extract 0 2).toList == [60, 60])
        · cases h62 : ((r.extract 0 2).toList == [62, 62])
          · cases h61 : ((r.extract 0 2).toList == [61, 61])
            · have HX4 : Hid (X = if sgLst.any (· == c) = true then some (Utf8.encode c, 1) else if c = 64 ∧ pat = true then some (⟨#[64]⟩, 1) else none) := by show X = _; rw [HX3.out, if_neg (by simp [sg2, h60, h62, h61])]
              clear HX3
              go_wp2_with fail
              change Code.wp _ _ _ _ (w5.iter sgAll 0)
              have hS := runesFrom_sg
              have HN : sgAll.size = 14 := rfl
              obtain ⟨A, hA⟩ : ∃ A, sgLst.any (· == c) = A := ⟨_, rfl⟩
              have HX5 : Hid (X = if A = true then some (Utf8.encode c, 1) else if c = 64 ∧ pat = true then some (⟨#[64]⟩, 1) else none) := by show X = _; rw [← hA]; exact HX4.out
              have H0 : Hid ((runesFrom sgAll 14 0).any (· == c) = A) := by show _ = A; rw [hS]; exact hA
              clear hA hS HX4
              generalize sgAll = S at H0 HN ⊢
              go_loopw [] (fun w' => ∃ (pos f : Nat), w' = w5.iter S pos ∧ Hid ((runesFrom S f pos).any (· == c) = A) ∧ S.size ≤ pos + f) (fun w' => S.size - w'.iterPos w5.heap.size)
              case atStart => exact ⟨0, 14, rfl, H0.out, by omega⟩
              case round =>
                obtain ⟨pos, f, rfl, HA, hf⟩ := hrel
                by_cases hp : pos < S.size
                · have hnx : ∀ ty, (Instr.next (.pointer (some ⟨w5.heap.size, 0, none⟩)) true ty).run Tryd.prog (w5.iter S pos) = _ := fun ty => run_next_any w5 S pos ty hp
                  obtain ⟨f, rfl⟩ : ∃ g, f = g + 1 := ⟨f - 1, by omega⟩
                  have hw := width_pos S pos hp
                  have HY : Hid (runesFrom S (f + 1) pos = ((Utf8.decode S pos).1 : Int) :: runesFrom S f (pos + (Utf8.decode S pos).2)) := runesFrom_cons S f pos hp
                  cases hr : (((Utf8.decode S pos).1 : Int) == c)
                  · have HZ : Hid ((runesFrom S f (pos + (Utf8.decode S pos).2)).any (· == c) = A) := by show _ = A; rw [← HA.out, HY.out, List.any_cons, hr, Bool.false_or]
                    go_wp2_with fail
                    go_roundw
                    case rel => exact ⟨_, f, rfl, HZ.out, by omega⟩
                    case measure => simp; omega
                  · have HRES : Hid (X = some (Utf8.encode c, 1)) := by
                      show X = _
                      rw [HX5.out, if_pos (by rw [← HA.out, HY.out, List.any_cons, hr, Bool.true_or])]
                    have HBB : Hid (Below w.heap.size w (w5.iter S (pos + (Utf8.decode S pos).2))) := B5.out.alloc B5.out.size _
                    go_wp2_with fail
                    go_ret2
                    exact (by rw [HRES.out]; exact ⟨rfl, HBB.out⟩)
                · have hnx : ∀ ty, (Instr.next (.pointer (some ⟨w5.heap.size, 0, none⟩)) true ty).run Tryd.prog (w5.iter S pos) = _ := fun ty => run_next_end w5 S pos ty hp
                  have HX6 : Hid (X = if c = 64 ∧ pat = true then some (⟨#[64]⟩, 1) else none) := by
                    show X = _
                    rw [HX5.out, if_neg (by rw [← HA.out, runesFrom_end S f pos hp]; simp)]
                  have HBB : Hid (Below w.heap.size w (w5.iter S pos)) := B5.out.alloc B5.out.size _
                  have M6 : Hid (RdM (w5.iter S pos) R s pat a o ft e) := M5.out.below ((Below.refl _ _).alloc (Nat.le_refl _) _)
                  obtain ⟨k0, k1, k2, k3, k4, k5⟩ := M6.out.cells
                  clear HA HX5 H0
                  cases h64 : (c == 64)
                  · have HRES : Hid (X = none) := by show X = none; rw [HX6.out, if_neg (by rintro ⟨h, _⟩; simp [h] at h64)]
                    have cF := rfail_any (w5.iter S pos) R s pat a o ft e M6.out a 5
                    go_wp2_with fail
                    refine cF.mono ?_
                    rintro x w7 ⟨rfl, hm7, hg7⟩
                    have HM7 : Hid (RdM w7 R s pat a o (if e = 0 then a else ft) (if e = 0 then 5 else e)) := hm7
                    have HG7 : Hid (w.grownBy w7 (some R)) := (gr_of_below HBB.out (some R)).trans hg7
                    clear hm7 hg7
                    go_wp2_with fail
                    go_ret2
                    exact (by rw [HRES.out]; exact ⟨rfl, HM7.out, HG7.out⟩)
                  · cases pat with
                    | true =>
                      have HRES : Hid (X = some (⟨#[64]⟩, 1)) := by show X = _; rw [HX6.out, if_pos ⟨by simpa using h64, rfl⟩]
                      go_wp2_with fail
                      go_ret2
                      exact (by rw [HRES.out]; exact ⟨rfl, HBB.out⟩)
                    | false =>
                      have HRES : Hid (X = none) := by show X = none; rw [HX6.out, if_neg (by rintro ⟨_, h⟩; cases h)]
                      have cF := rfail_any (w5.iter S pos) R s false a o ft e M6.out a 5
                      go_wp2_with fail
                      refine cF.mono ?_
                      rintro x w7 ⟨rfl, hm7, hg7⟩
                      have HM7 : Hid (RdM w7 R s false a o (if e = 0 then a else ft) (if e = 0 then 5 else e)) := hm7
                      have HG7 : Hid (w.grownBy w7 (some R)) := (gr_of_below HBB.out (some R)).trans hg7
                      clear hm7 hg7
                      go_wp2_with fail
                      go_ret2
                      exact (by rw [HRES.out]; exact ⟨rfl, HM7.out, HG7.out⟩)
            · have HRES : Hid (X = some (r.extract 0 2, 2)) := by show X = _; rw [HX3.out, if_pos (by simp [sg2, hr1, h61])]
              clear HX3
              go_wp2_with fail
              go_ret2
              exact (by rw [HRES.out]; exact ⟨rfl, B5.out⟩)
          · have HRES : Hid (X = some (r.extract 0 2, 2)) := by show X = _; rw [HX3.out, if_pos (by simp [sg2, hr1, h62])]
            clear HX3
            go_wp2_with fail
            go_ret2
            exact (by rw [HRES.out]; exact ⟨rfl, B5.out⟩)
        · have HRES : Hid (X = some (r.extract 0 2, 2)) := by show X = _; rw [HX3.out, if_pos (by simp [sg2, hr1, h60])]
          clear HX3
          go_wp2_with fail
          go_ret2
          exact (by rw [HRES.out]; exact ⟨rfl, B5.out⟩)
      · have gr1 : ¬ (1 : Int) < (r.size : Int) := by omega
        have HX4 : Hid (X = if sgLst.any (· == c) = true then some (Utf8.encode c, 1) else if c = 64 ∧ pat = true then some (⟨#[64]⟩, 1) else none) := by show X = _; rw [HX3.out, if_neg (by simp [sg2, hr1])]
        clear HX3
        go_wp2_with fail
        change Code.wp _ _ _ _ (w5.iter sgAll 0)
        have hS := runesFrom_sg
        have HN : sgAll.size = 14 := rfl
        obtain ⟨A, hA⟩ : ∃ A, sgLst.any (· == c) = A := ⟨_, rfl⟩
        have HX5 : Hid (X = if A = true then some (Utf8.encode c, 1) else if c = 64 ∧ pat = true then some (⟨#[64]⟩, 1) else none) := by show X = _; rw [← hA]; exact HX4.out
        have H0 : Hid ((runesFrom sgAll 14 0).any (· == c) = A) := by show _ = A; rw [hS]; exact hA
        clear hA hS HX4
        generalize sgAll = S at H0 HN ⊢
        go_loopw [] (fun w' => ∃ (pos f : Nat), w' = w5.iter S pos ∧ Hid ((runesFrom S f pos).any (· == c) = A) ∧ S.size ≤ pos + f) (fun w' => S.size - w'.iterPos w5.heap.size)
        case atStart => exact ⟨0, 14, rfl, H0.out, by omega⟩
        case round =>
          obtain ⟨pos, f, rfl, HA, hf⟩ := hrel
          by_cases hp : pos < S.size
          · have hnx : ∀ ty, (Instr.next (.pointer (some ⟨w5.heap.size, 0, none⟩)) true ty).run Tryd.prog (w5.iter S pos) = _ := fun ty => run_next_any w5 S pos ty hp
            obtain ⟨f, rfl⟩ : ∃ g, f = g + 1 := ⟨f - 1, by omega⟩
            have hw := width_pos S pos hp
            have HY : Hid (runesFrom S (f + 1) pos = ((Utf8.decode S pos).1 : Int) :: runesFrom S f (pos + (Utf8.decode S pos).2)) := runesFrom_cons S f pos hp
            cases hr : (((Utf8.decode S pos).1 : Int) == c)
            · have HZ : Hid ((runesFrom S f (pos + (Utf8.decode S pos).2)).any (· == c) = A) := by show _ = A; rw [← HA.out, HY.out, List.any_cons, hr, Bool.false_or]
              go_wp2_with fail
              go_roundw
              case rel => exact ⟨_, f, rfl, HZ.out, by omega⟩
              case measure => simp; omega
            · have HRES : Hid (X = some (Utf8.encode c, 1)) := by
                show X = _
                rw [HX5.out, if_pos (by rw [← HA.out, HY.out, List.any_cons, hr, Bool.true_or])]
              have HBB : Hid (Below w.heap.size w (w5.iter S (pos + (Utf8.decode S pos).2))) := B5.out.alloc B5.out.size _
              go_wp2_with fail
              go_ret2
              exact (by rw [HRES.out]; exact ⟨rfl, HBB.out⟩)
          · have hnx : ∀ ty, (Instr.next (.pointer (some ⟨w5.heap.size, 0, none⟩)) true ty).run Tryd.prog (w5.iter S pos) = _ := fun ty => run_next_end w5 S pos ty hp
            have HX6 : Hid (X = if c = 64 ∧ pat = true then some (⟨#[64]⟩, 1) else none) := by
              show X = _
              rw [HX5.out, if_neg (by rw [← HA.out, runesFrom_end S f pos hp]; simp)]
            have HBB : Hid (Below w.heap.size w (w5.iter S pos)) := B5.out.alloc B5.out.size _
            have M6 : Hid (RdM (w5.iter S pos) R s pat a o ft e) := M5.out.below ((Below.refl _ _).alloc (Nat.le_refl _) _)
            obtain ⟨k0, k1, k2, k3, k4, k5⟩ := M6.out.cells
            clear HA HX5 H0
            cases h64 : (c == 64)
            · have HRES : Hid (X = none) := by show X = none; rw [HX6.out, if_neg (by rintro ⟨h, _⟩; simp [h] at h64)]
              have cF := rfail_any (w5.iter S pos) R s pat a o ft e M6.out a 5
              go_wp2_with fail
              refine cF.mono ?_
              rintro x w7 ⟨rfl, hm7, hg7⟩
              have HM7 : Hid (RdM w7 R s pat a o (if e = 0 then a else ft) (if e = 0 then 5 else e)) := hm7
              have HG7 : Hid (w.grownBy w7 (some R)) := (gr_of_below HBB.out (some R)).trans hg7
              clear hm7 hg7
              go_wp2_with fail
              go_ret2
              exact (by rw [HRES.out]; exact ⟨rfl, HM7.out, HG7.out⟩)
            · cases pat with
              | true =>
                have HRES : Hid (X = some (⟨#[64]⟩, 1)) := by show X = _; rw [HX6.out, if_pos ⟨by simpa using h64, rfl⟩]
                go_wp2_with fail
                go_ret2
                exact (by rw [HRES.out]; exact ⟨rfl, HBB.out⟩)
              | false =>
                have HRES : Hid (X = none) := by show X = none; rw [HX6.out, if_neg (by rintro ⟨_, h⟩; cases h)]
                have cF := rfail_any (w5.iter S pos) R s false a o ft e M6.out a 5
                go_wp2_with fail
                refine cF.mono ?_
                rintro x w7 ⟨rfl, hm7, hg7⟩
                have HM7 : Hid (RdM w7 R s false a o (if e = 0 then a else ft) (if e = 0 then 5 else e)) := hm7
                have HG7 : Hid (w.grownBy w7 (some R)) := (gr_of_below HBB.out (some R)).trans hg7
                clear hm7 hg7
                go_wp2_with fail
                go_ret2
                exact (by rw [HRES.out]; exact ⟨rfl, HM7.out, HG7.out⟩)
    · rw [decide_eq_false hw] at hq
      have HRES : Hid (X = some (wrT c, wd s a)) := by show X = _; rw [HX2.out, if_pos hw]
      have cD : Hid (∀ d os, Calls Tryd.prog 54 #[.string s, .int .i64 (a : Int)] (grow (redrawn w4 d) os) fun e w'' => e = .returned (.int .i64 (wd s a : Int)) ∧ ∃ p : Regrown, w'' = grow (redrawn w4 p.d) p.os) := fun d os => Calls.regrown_of (refWidth_in s a _ hlt hs0)
      generalize wrT c = T at *
      generalize wd s a = wv at *
      clear hw HX2
      go_wp2_with fail
      refine wp_region_quiet_below (by kernel_rfl) (by kernel_rfl) ?_
      iterate 12 (go_big_quiet_step ((go_at_call 54; exact cD.out _ _)))
      refine wpQuiet_nil ?_
      intro _ hw'
      obtain ⟨⟨ds, oss⟩, hw''⟩ := hw'
      subst hw''
      have b' := below_regrown w4 ds oss
      have M5 : Hid (RdM (grow (redrawn w4 ds) oss) R s pat a o ft e) := M4.out.below b'
      have B5 : Hid (Below w.heap.size w (grow (redrawn w4 ds) oss)) := B4.out.trans (b'.mono B4.out.size)
      generalize grow (redrawn w4 ds) oss = w5 at *
      clear b'
      go_wp2_with fail
      go_ret2
      exact (by rw [HRES.out]; exact ⟨rfl, B5.out⟩)
end Go.Proofs.YtjmccobblpcbhaaDoor

set_option linter.unusedSimpArgs false
set_option linter.unusedVariables false
namespace Go.Proofs.YtjmccobblpcbhaaDoor
open Go.RowKit Go.Lib Go.Sort

/-- A sign stands there. -/
theorem is_some (w : World) (R : Nat) (s : ByteArray) (pat : Bool) (a o ft : Nat) (hM : RdM w R s pat a o ft 0) (hs : s.size ≤ 4096) (ha : a ≤ s.size) (q : ByteArray) (t : ByteArray) (n : Nat) (h : sgR s pat a = some (t, n)) :
    Calls Tryd.prog 127 #[.pointer (some ⟨R, 0, none⟩), .string q] w fun x w' => x = .returned (.bool (decide (t = q))) ∧ Below w.heap.size w w' := by
  have C := sign_any w R s pat a o ft 0 hM hs ha
  rw [h] at C
  have D : Calls Tryd.prog 99 #[.pointer (some ⟨R, 0, none⟩)] w fun x w' => x = .returned (.tuple #[.string t, .int .i64 (n : Int)]) ∧ Below w.heap.size w w' := C
  have HM : Hid (RdM w R s pat a o ft 0) := hM
  have HQ : Hid ((t.toList == q.toList) = decide (t = q)) := beq_toL t q
  clear C h hM
  go_enter Tryd.func127, Tryd.ntmps127
  go_wp2_with fail
  refine D.mono ?_
  rintro x w1 ⟨rfl, hb1⟩
  obtain ⟨c0, c1, c2, c3, c4, c5⟩ := (HM.out.below hb1).cells
  clear D
  go_wp2_with fail
  go_ret
  exact ⟨by rw [← HQ.out]; rfl, hb1⟩
/-- None stands there, and it is a fault. -/
theorem is_none (w : World) (R : Nat) (s : ByteArray) (pat : Bool) (a o ft : Nat) (hM : RdM w R s pat a o ft 0) (hs : s.size ≤ 4096) (ha : a ≤ s.size) (q : ByteArray) (h : sgR s pat a = none) :
    Calls Tryd.prog 127 #[.pointer (some ⟨R, 0, none⟩), .string q] w fun x w' => x = .returned (.bool false) ∧ RdM w' R s pat a o a 5 ∧ w.grownBy w' (some R) := by
  have C := sign_any w R s pat a o ft 0 hM hs ha
  rw [h] at C
  have D : Calls Tryd.prog 99 #[.pointer (some ⟨R, 0, none⟩)] w fun x w' => x = .returned (.tuple #[.string ⟨#[]⟩, .int .i64 0]) ∧ RdM w' R s pat a o a 5 ∧ w.grownBy w' (some R) := C
  clear C h hM
  go_enter Tryd.func127, Tryd.ntmps127
  go_wp2_with fail
  refine D.mono ?_
  rintro x w1 ⟨rfl, hm1, hg1⟩
  obtain ⟨c0, c1, c2, c3, c4, c5⟩ := hm1.cells
  have HM1 : Hid (RdM w1 R s pat a o a 5) := hm1
  clear D hm1
  go_wp2_with fail
  go_ret
  exact ⟨rfl, HM1.out, hg1⟩

theorem take_any (w : World) (R : Nat) (s : ByteArray) (pat : Bool) (a o ft : Nat) (e : Int) (hM : RdM w R s pat a o ft e) (hs : s.size ≤ 4096) (ha : a ≤ s.size) (t : ByteArray) (n : Nat) (h : sgR s pat a = some (t, n)) (hn : a + n ≤ s.size) :
    Calls Tryd.prog 128 #[.pointer (some ⟨R, 0, none⟩)] w fun x w' => x = .returned (.tuple #[]) ∧ RdM w' R s pat (skp s (a + n)) o ft e ∧ w.grownBy w' (some R) := by
  have C := sign_any w R s pat a o ft e hM hs ha
  rw [h] at C
  have D : Calls Tryd.prog 99 #[.pointer (some ⟨R, 0, none⟩)] w fun x w' => x = .returned (.tuple #[.string t, .int .i64 (n : Int)]) ∧ Below w.heap.size w w' := C
  have HM : Hid (RdM w R s pat a o ft e) := hM
  have han : (a : Int) + n ≤ 4096 := by omega
  have ean : ((a + n : Nat) : Int) = (a : Int) + n := by omega
  clear C h hM
  go_enter Tryd.func128, Tryd.ntmps128
  go_wp2_with fail
  refine D.mono ?_
  rintro x w1 ⟨rfl, hb1⟩
  have M1 : Hid (RdM w1 R s pat a o ft e) := HM.out.below hb1
  obtain ⟨c0, c1, c2, c3, c4, c5⟩ := M1.out.cells
  have cf := M1.out.frozen 2
  have hl := M1.out.lt
  obtain ⟨W2, hW2⟩ : ∃ W2, w1.setCell ⟨R, 2, none⟩ (.int .i64 ((a : Int) + n)) = W2 := ⟨_, rfl⟩
  have M2 : RdM W2 R s pat (a + n) o ft e := by rw [← hW2, ← ean]; exact M1.out.at_ (a + n)
  have G2 : Hid (w.grownBy W2 (some R)) := by show w.grownBy W2 (some R); rw [← hW2]; exact gr_setB (gr_of_below hb1 _)
  have cS := rskip_any W2 R s pat (a + n) o ft e M2 hs hn
  have HW2 : Hid (w1.setCell ⟨R, 2, none⟩ (.int .i64 ((a : Int) + n)) = W2) := hW2
  clear D hW2 M2
  go_wp2_with fail
  rw [HW2.out]
  refine cS.mono ?_
  rintro x w3 ⟨rfl, hm3, hg3⟩
  have HM3 : Hid (RdM w3 R s pat (skp s (a + n)) o ft e) := hm3
  have HG3 : Hid (w.grownBy w3 (some R)) := G2.out.trans hg3
  clear hm3 hg3
  go_wp2_with fail
  go_end0
  exact ⟨rfl, HM3.out, HG3.out⟩
end Go.Proofs.YtjmccobblpcbhaaDoor
