/-
  RrWrW, RrOpW.
-/
import Derived.Shelf.Unicode.DecodeSlow
import Derived.Laws.RangeAny
import Derived.Shelf.Strings.Builder1
import Derived.Shelf.Small.Utf8
import Derived.Shelf.Small.Bits
import Derived.Shelf.Strings.BuilderF
import Derived.Shelf.Strings.BuilderK
import Derived.Shelf.Strings.BuilderRune
import Derived.Shelf.Utf8.AppendRune
import Derived.Shelf.Strconv.Itoa0
import Derived.Shelf.Strconv.Itoa1
import Derived.Shelf.LaysM
import Derived.Shelf.Strconv.Itoa2
import Derived.Shelf.Strconv.Itoa3
import Derived.Shelf.Strconv.Itoa4
import Derived.Shelf.Strings.Prefix
import Derived.Shelf.Unicode.DecodeAny
import Derived.Test.YtjmccobblpcbhaaDoorProg
import Derived.WalkKit
import Derived.Deep.DeepFit
import Derived.Lib.OthersKept
import Derived.Lib.RuneCountTail
import Derived.Lib.Small
import Derived.Lib.Strings
import Derived.Lib.MapLaws
import Derived.Deep.AppendLies
import Derived.Deep.OwnRows
import Derived.Laws.AppendOwnNone
import Derived.Deep.QuietTactic
import Derived.BigQuiet
import Derived.Deep.RegionWith
import Derived.Laws.DeepStrings4
import Derived.Deep.RegionHeld3
import Derived.Laws.ResultCell
import Derived.Lib.QuietBelow
import Derived.Deep.Heap
import Derived.Laws.Rows
import Derived.Below
import Derived.Sort.Walk0
import Derived.Test.YtjmccobblpcbhaaDoorK01
import Derived.Test.YtjmccobblpcbhaaDoorK02
import Derived.Test.YtjmccobblpcbhaaDoorK03
import Derived.Test.YtjmccobblpcbhaaDoorK04
import Derived.Test.YtjmccobblpcbhaaDoorK05
import Derived.Test.YtjmccobblpcbhaaDoorK06
import Derived.Test.YtjmccobblpcbhaaDoorK07
import Derived.Test.YtjmccobblpcbhaaDoorK08
import Derived.Test.YtjmccobblpcbhaaDoorK09
import Derived.Test.YtjmccobblpcbhaaDoorK10
import Derived.Test.YtjmccobblpcbhaaDoorK11
import Derived.Test.YtjmccobblpcbhaaDoorK12
import Derived.Test.YtjmccobblpcbhaaDoorK13
set_option linter.unusedSimpArgs false
set_option linter.unusedVariables false
namespace Go.Proofs.YtjmccobblpcbhaaDoor
open Go.RowKit Go.Lib Go.Sort

/-- The other characters, each ahead of what it stands for. -/
def oths : ByteArray := ⟨#[0xe2, 0x88, 0x92, 0x2d, 0xc3, 0x97, 0x2a, 0xc2, 0xb7, 0x2a, 0xc3, 0xb7, 0x2f, 0xc2, 0xac, 0x7e, 0xe2, 0x88, 0xa7, 0x26, 0xe2, 0x88, 0xa8, 0x7c, 0xe2, 0x8a, 0x95, 0x5e]⟩
def othL : List Int := [8722, 45, 215, 42, 183, 42, 247, 47, 172, 126, 8743, 38, 8744, 124, 8853, 94]
theorem runesFrom_oths : runesFrom oths 28 0 = othL := by decide +kernel
def wrF (c : Int) : List Int → Bool → Bool → Option Int
  | [], _, _ => none
  | x :: r, mine, odd => if mine then some x else wrF c r (!odd && x == c) (!odd)

def wrO (c : Int) (X : Option Int) : ByteArray := match X with
  | some x => Utf8.encode x
  | none => if c = 8810 then ⟨#[60, 60]⟩ else if c = 8811 then ⟨#[62, 62]⟩ else if c = 8801 then ⟨#[61, 61]⟩ else ⟨#[]⟩
/-- The sign that a character writes. -/
def wrT (c : Int) : ByteArray := wrO c (wrF c othL false false)
set_option maxHeartbeats 1000000 in
theorem written_any (c : Int) (w : World) :
    Calls Tryd.prog 129 #[.int .i32 c] w fun e w' => e = .returned (.string (wrT c)) ∧ Below w.heap.size w w' := by
  obtain ⟨X, hX⟩ : ∃ X, wrF c othL false false = X := ⟨_, rfl⟩
  obtain ⟨T, hT⟩ : ∃ T, wrT c = T := ⟨_, rfl⟩
  rw [hT]
  have HT : Hid (T = wrO c X) := by show T = _; rw [← hT, ← hX]; rfl
  clear hT
  go_enter Tryd.func129, Tryd.ntmps129
  go_wp2_with fail
  change Code.wp _ _ _ _ (w.iter oths 0)
  have hS := runesFrom_oths
  have HN : oths.size = 28 := rfl
  have H0 : Hid (wrF c (runesFrom oths 28 0) false false = X) := by show _ = X; rw [hS]; exact hX
  clear hX hS
  generalize oths = S at H0 HN ⊢
  go_loopw [4, 5] (fun vm vo w' => ∃ (pos f : Nat) (m od : Bool), vm = .bool m ∧ vo = .bool od ∧ w' = w.iter S pos ∧ Hid (wrF c (runesFrom S f pos) m od = X) ∧ S.size ≤ pos + f) (fun _ _ w' => S.size - w'.iterPos w.heap.size)
  case atStart => exact ⟨0, 28, false, false, rfl, rfl, rfl, H0.out, by omega⟩
  case round =>
    obtain ⟨pos, f, m, od, rfl, rfl, rfl, HA, hf⟩ := hrel
    by_cases hp : pos < S.size
    · have hnx : ∀ ty, (Instr.next (.pointer (some ⟨w.heap.size, 0, none⟩)) true ty).run Tryd.prog (w.iter S pos) = _ := fun ty => run_next_any w S pos ty hp
      obtain ⟨f, rfl⟩ : ∃ g, f = g + 1 := ⟨f - 1, by omega⟩
      have hw := width_pos S pos hp
      have HX : Hid (runesFrom S (f + 1) pos = ((Utf8.decode S pos).1 : Int) :: runesFrom S f (pos + (Utf8.decode S pos).2)) := runesFrom_cons S f pos hp
      cases m with
      | true =>
        have HY : Hid (X = some ((Utf8.decode S pos).1 : Int)) := by show X = _; rw [← HA.out, HX.out]; rfl
        go_wp2_with fail
        go_ret
        exact ⟨by rw [HT.out, HY.out]; rfl, (Below.refl _ _).alloc (Nat.le_refl _) _⟩
      | false =>
        cases od with
        | true =>
          have HY : Hid (wrF c (runesFrom S f (pos + (Utf8.decode S pos).2)) false false = X) := by show _ = X; rw [← HA.out, HX.out]; rfl
          go_wp2_with fail
          go_roundw
          case rel => exact ⟨_, f, false, false, rfl, rfl, rfl, HY.out, by omega⟩
          case measure => simp; omega
        | false =>
          cases hr : (((Utf8.decode S pos).1 : Int) == c)
          · have HY : Hid (wrF c (runesFrom S f (pos + (Utf8.decode S pos).2)) false true = X) := by show _ = X; rw [← HA.out, HX.out]; simp [wrF, hr]
            go_wp2_with fail
            go_roundw
            case rel => exact ⟨_, f, false, true, rfl, rfl, rfl, HY.out, by omega⟩
            case measure => simp; omega
          · have HY : Hid (wrF c (runesFrom S f (pos + (Utf8.decode S pos).2)) true true = X) := by show _ = X; rw [← HA.out, HX.out]; simp [wrF, hr]
            go_wp2_with fail
            go_roundw
            case rel => exact ⟨_, f, true, true, rfl, rfl, rfl, HY.out, by omega⟩
            case measure => simp; omega
    · have hnx : ∀ ty, (Instr.next (.pointer (some ⟨w.heap.size, 0, none⟩)) true ty).run Tryd.prog (w.iter S pos) = _ := fun ty => run_next_end w S pos ty hp
      have HY : Hid (X = none) := by show X = none; rw [← HA.out, runesFrom_end S f pos hp]; rfl
      have HE : Hid (T = if c = 8810 then ⟨#[60, 60]⟩ else if c = 8811 then ⟨#[62, 62]⟩ else if c = 8801 then ⟨#[61, 61]⟩ else ⟨#[]⟩) := by show T = _; rw [HT.out, HY.out]; rfl
      by_cases h1 : c = 8810
      · have g1 : (c == 8810) = true := by simp [h1]
        have HF : Hid (T = ⟨#[60, 60]⟩) := by show T = _; rw [HE.out, if_pos h1]
        clear h1 HE
        go_wp2_with fail
        go_ret
        exact ⟨by rw [HF.out]; rfl, (Below.refl _ _).alloc (Nat.le_refl _) _⟩
      · have g1 : (c == 8810) = false := by simp [h1]
        by_cases h2 : c = 8811
        · have g2 : (c == 8811) = true := by simp [h2]
          have HF : Hid (T = ⟨#[62, 62]⟩) := by show T = _; rw [HE.out, if_neg h1, if_pos h2]
          clear h1 h2 HE
          go_wp2_with fail
          go_ret
          exact ⟨by rw [HF.out]; rfl, (Below.refl _ _).alloc (Nat.le_refl _) _⟩
        · have g2 : (c == 8811) = false := by simp [h2]
          by_cases h3 : c = 8801
          · have g3 : (c == 8801) = true := by simp [h3]
            have HF : Hid (T = ⟨#[61, 61]⟩) := by show T = _; rw [HE.out, if_neg h1, if_neg h2, if_pos h3]
            clear h1 h2 h3 HE
            go_wp2_with fail
            go_ret
            exact ⟨by rw [HF.out]; rfl, (Below.refl _ _).alloc (Nat.le_refl _) _⟩
          · have g3 : (c == 8801) = false := by simp [h3]
            have HF : Hid (T = ⟨#[]⟩) := by show T = _; rw [HE.out, if_neg h1, if_neg h2, if_neg h3]
            clear h1 h2 h3 HE
            go_wp2_with fail
            go_ret
            exact ⟨by rw [HF.out]; rfl, (Below.refl _ _).alloc (Nat.le_refl _) _⟩
end Go.Proofs.YtjmccobblpcbhaaDoor

set_option linter.unusedSimpArgs false
set_option linter.unusedVariables false
namespace Go.Proofs.YtjmccobblpcbhaaDoor
open Go.RowKit Go.Lib Go.Sort

theorem beq_toL (a b : ByteArray) : (a.toList == b.toList) = decide (a = b) := by
  rw [toList_data, toList_data]
  by_cases h : a = b
  · subst h; simp
  · have : a.data.toList ≠ b.data.toList := fun e => h (ByteArray.ext (Array.toList_inj.1 e))
    rw [beq_eq_false_iff_ne.2 this]
    simp [h]
def bs (l : List UInt8) : ByteArray := ⟨l.toArray⟩
theorem pick_any (a b : ByteArray) (k : Int) (w : World) :
    Calls Tryd.prog 160 #[.string a, .string b, .int .i64 k] w fun e w' => e = .returned (.int .i64 (if a = b then k else 0)) ∧ w' = w := by
  have hq := beq_toL a b
  by_cases h : a = b
  · rw [if_pos h]
    rw [decide_eq_true h] at hq
    clear h
    go_enter Tryd.func160, Tryd.ntmps160
    go_wp2_with fail
    go_ret
    exact ⟨rfl, rfl⟩
  · rw [if_neg h]
    rw [decide_eq_false h] at hq
    clear h
    go_enter Tryd.func160, Tryd.ntmps160
    go_wp2_with fail
    go_ret
    exact ⟨rfl, rfl⟩

/-- What a sign stands for at a level. -/
def opR (lv : Int) (s : ByteArray) : Int :=
  if lv = 0 then (if s = bs [124] then 11 else 0) else if lv = 1 then (if s = bs [94] then 12 else 0) else if lv = 2 then (if s = bs [38] then 10 else 0) else if lv = 3 then (if s = bs [61, 61] then 15 else 0)
  else if lv = 4 then (if s = bs [60] then 16 else 0) else if lv = 5 then (if s = bs [60, 60] then 13 else 0) + (if s = bs [62, 62] then 14 else 0) else if lv = 6 then (if s = bs [43] then 5 else 0) + (if s = bs [45] then 6 else 0)
  else (if s = bs [42] then 7 else 0) + (if s = bs [47] then 8 else 0) + (if s = bs [37] then 9 else 0)
theorem op_bound (s b : ByteArray) (k : Int) (hk : 0 ≤ k ∧ k ≤ 16) : ∃ z : Int, (if s = b then k else 0) = z ∧ 0 ≤ z ∧ z ≤ 16 := by
  refine ⟨_, rfl, ?_⟩
  split <;> omega
set_option maxHeartbeats 4000000 in
theorem op_any (lv : Int) (s : ByteArray) (w : World) :
    Calls Tryd.prog 146 #[.int .i64 lv, .string s] w fun e w' => e = .returned (.int .i64 (opR lv s)) ∧ w' = w := by
  have c : Hid (∀ b k W, Calls Tryd.prog 160 #[.string s, .string b, .int .i64 k] W fun e w' => e = .returned (.int .i64 (if s = b then k else 0)) ∧ w' = W) := fun b k W => pick_any s b k W
  by_cases h0 : lv = 0
  · have g0 : (lv == 0) = true := by simp [h0]
    obtain ⟨z0, hz0, hl0, hu0⟩ := op_bound s ⟨#[124]⟩ 11 (by decide)
    have d0 := c.out ⟨#[124]⟩ 11
    rw [hz0] at d0
    have HR : Hid (opR lv s = (z0)) := by show _ = _; unfold opR; rw [if_pos h0]; unfold bs; rw [← hz0]
    clear c hz0 h0
    go_enter Tryd.func146, Tryd.ntmps146
    go_wp2_with fail
    refine (d0 _).mono ?_
    rintro e w0 ⟨rfl, rfl⟩
    go_wp2_with fail
    go_ret
    exact ⟨by rw [HR.out]; rfl, rfl⟩
  · have g0 : (lv == 0) = false := by simp [h0]
    by_cases h1 : lv = 1
    · have g1 : (lv == 1) = true := by simp [h1]
      obtain ⟨z0, hz0, hl0, hu0⟩ := op_bound s ⟨#[94]⟩ 12 (by decide)
      have d0 := c.out ⟨#[94]⟩ 12
      rw [hz0] at d0
      have HR : Hid (opR lv s = (z0)) := by show _ = _; unfold opR; rw [if_neg h0, if_pos h1]; unfold bs; rw [← hz0]
      clear c hz0 h0 h1
      go_enter Tryd.func146, Tryd.ntmps146
      go_wp2_with fail
      refine (d0 _).mono ?_
      rintro e w0 ⟨rfl, rfl⟩
      go_wp2_with fail
      go_ret
      exact ⟨by rw [HR.out]; rfl, rfl⟩
    · have g1 : (lv == 1) = false := by simp [h1]
      by_cases h2 : lv = 2
      · have g2 : (lv == 2) = true := by simp [h2]
        obtain ⟨z0, hz0, hl0, hu0⟩ := op_bound s ⟨#[38]⟩ 10 (by decide)
        have d0 := c.out ⟨#[38]⟩ 10
        rw [hz0] at d0
        have HR : Hid (opR lv s = (z0)) := by show _ = _; unfold opR; rw [if_neg h0, if_neg h1, if_pos h2]; unfold bs; rw [← hz0]
        clear c hz0 h0 h1 h2
        go_enter Tryd.func146, Tryd.ntmps146
        go_wp2_with fail
        refine (d0 _).mono ?_
        rintro e w0 ⟨rfl, rfl⟩
        go_wp2_with fail
        go_ret
        exact ⟨by rw [HR.out]; rfl, rfl⟩
      · have g2 : (lv == 2) = false := by simp [h2]
        by_cases h3 : lv = 3
        · have g3 : (lv == 3) = true := by simp [h3]
          obtain ⟨z0, hz0, hl0, hu0⟩ := op_bound s ⟨#[61, 61]⟩ 15 (by decide)
          have d0 := c.out ⟨#[61, 61]⟩ 15
          rw [hz0] at d0
          have HR : Hid (opR lv s = (z0)) := by show _ = _; unfold opR; rw [if_neg h0, if_neg h1, if_neg h2, if_pos h3]; unfold bs; rw [← hz0]
          clear c hz0 h0 h1 h2 h3
          go_enter Tryd.func146, Tryd.ntmps146
          go_wp2_with fail
          refine (d0 _).mono ?_
          rintro e w0 ⟨rfl, rfl⟩
          go_wp2_with fail
          go_ret
          exact ⟨by rw [HR.out]; rfl, rfl⟩
        · have g3 : (lv == 3) = false := by simp [h3]
          by_cases h4 : lv = 4
          · have g4 : (lv == 4) = true := by simp [h4]
            obtain ⟨z0, hz0, hl0, hu0⟩ := op_bound s ⟨#[60]⟩ 16 (by decide)
            have d0 := c.out ⟨#[60]⟩ 16
            rw [hz0] at d0
            have HR : Hid (opR lv s = (z0)) := by show _ = _; unfold opR; rw [if_neg h0, if_neg h1, if_neg h2, if_neg h3, if_pos h4]; unfold bs; rw [← hz0]
            clear c hz0 h0 h1 h2 h3 h4
            go_enter Tryd.func146, Tryd.ntmps146
            go_wp2_with fail
            refine (d0 _).mono ?_
            rintro e w0 ⟨rfl, rfl⟩
            go_wp2_with fail
            go_ret
            exact ⟨by rw [HR.out]; rfl, rfl⟩
          · have g4 : (lv == 4) = false := by simp [h4]
            by_cases h5 : lv = 5
            · have g5 : (lv == 5) = true := by simp [h5]
              obtain ⟨z0, hz0, hl0, hu0⟩ := op_bound s ⟨#[60, 60]⟩ 13 (by decide)
              have d0 := c.out ⟨#[60, 60]⟩ 13
              rw [hz0] at d0
              obtain ⟨z1, hz1, hl1, hu1⟩ := op_bound s ⟨#[62, 62]⟩ 14 (by decide)
              have d1 := c.out ⟨#[62, 62]⟩ 14
              rw [hz1] at d1
              have HR : Hid (opR lv s = (z0 + z1)) := by show _ = _; unfold opR; rw [if_neg h0, if_neg h1, if_neg h2, if_neg h3, if_neg h4, if_pos h5]; unfold bs; rw [← hz0, ← hz1]
              clear c hz0 hz1 h0 h1 h2 h3 h4 h5
              go_enter Tryd.func146, Tryd.ntmps146
              go_wp2_with fail
              refine (d0 _).mono ?_
              rintro e w0 ⟨rfl, rfl⟩
              go_wp2_with fail
              refine (d1 _).mono ?_
              rintro e w1 ⟨rfl, rfl⟩
              go_wp2_with fail
              go_ret
              exact ⟨by rw [HR.out]; rfl, rfl⟩
            · have g5 : (lv == 5) = false := by simp [h5]
              by_cases h6 : lv = 6
              · have g6 : (lv == 6) = true := by simp [h6]
                obtain ⟨z0, hz0, hl0, hu0⟩ := op_bound s ⟨#[43]⟩ 5 (by decide)
                have d0 := c.out ⟨#[43]⟩ 5
                rw [hz0] at d0
                obtain ⟨z1, hz1, hl1, hu1⟩ := op_bound s ⟨#[45]⟩ 6 (by decide)
                have d1 := c.out ⟨#[45]⟩ 6
                rw [hz1] at d1
                have HR : Hid (opR lv s = (z0 + z1)) := by show _ = _; unfold opR; rw [if_neg h0, if_neg h1, if_neg h2, if_neg h3, if_neg h4, if_neg h5, if_pos h6]; unfold bs; rw [← hz0, ← hz1]
                clear c hz0 hz1 h0 h1 h2 h3 h4 h5 h6
                go_enter Tryd.func146, Tryd.ntmps146
                go_wp2_with fail
                refine (d0 _).mono ?_
                rintro e w0 ⟨rfl, rfl⟩
                go_wp2_with fail
                refine (d1 _).mono ?_
                rintro e w1 ⟨rfl, rfl⟩
                go_wp2_with fail
                go_ret
                exact ⟨by rw [HR.out]; rfl, rfl⟩
              · have g6 : (lv == 6) = false := by simp [h6]
                obtain ⟨z0, hz0, hl0, hu0⟩ := op_bound s ⟨#[42]⟩ 7 (by decide)
                have d0 := c.out ⟨#[42]⟩ 7
                rw [hz0] at d0
                obtain ⟨z1, hz1, hl1, hu1⟩ := op_bound s ⟨#[47]⟩ 8 (by decide)
                have d1 := c.out ⟨#[47]⟩ 8
                rw [hz1] at d1
                obtain ⟨z2, hz2, hl2, hu2⟩ := op_bound s ⟨#[37]⟩ 9 (by decide)
                have d2 := c.out ⟨#[37]⟩ 9
                rw [hz2] at d2
                have HR : Hid (opR lv s = (z0 + z1 + z2)) := by show _ = _; unfold opR; rw [if_neg h0, if_neg h1, if_neg h2, if_neg h3, if_neg h4, if_neg h5, if_neg h6]; unfold bs; rw [← hz0, ← hz1, ← hz2]
                clear c hz0 hz1 hz2 h0 h1 h2 h3 h4 h5 h6
                go_enter Tryd.func146, Tryd.ntmps146
                go_wp2_with fail
                refine (d0 _).mono ?_
                rintro e w0 ⟨rfl, rfl⟩
                go_wp2_with fail
                refine (d1 _).mono ?_
                rintro e w1 ⟨rfl, rfl⟩
                go_wp2_with fail
                refine (d2 _).mono ?_
                rintro e w2 ⟨rfl, rfl⟩
                go_wp2_with fail
                go_ret
                exact ⟨by rw [HR.out]; rfl, rfl⟩
end Go.Proofs.YtjmccobblpcbhaaDoor
