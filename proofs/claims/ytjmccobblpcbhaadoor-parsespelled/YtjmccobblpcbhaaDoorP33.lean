/-
  RfD.
-/
import Derived.Shelf.Unicode.DecodeSlow
import Derived.Laws.RangeAny
import Derived.Shelf.Strings.Builder1
import Derived.Shelf.Small.Utf8
import Derived.Shelf.Small.Bits
import Derived.Shelf.Strings.BuilderF
import Derived.Shelf.Strings.BuilderK
import Derived.Shelf.Strings.BuilderRune
import Derived.Shelf.Utf8.AppendRune
import Derived.Shelf.Strconv.Itoa0
import Derived.Shelf.Strconv.Itoa1
import Derived.Shelf.LaysM
import Derived.Shelf.Strconv.Itoa2
import Derived.Shelf.Strconv.Itoa3
import Derived.Shelf.Strconv.Itoa4
import Derived.Shelf.Strings.Prefix
import Derived.Shelf.Unicode.DecodeAny
import Derived.Test.YtjmccobblpcbhaaDoorProg
import Derived.WalkKit
import Derived.Deep.DeepFit
import Derived.Lib.OthersKept
import Derived.Lib.RuneCountTail
import Derived.Deep.AppendLies
import Derived.Deep.OwnRows
import Derived.Laws.AppendOwnNone
import Derived.Deep.QuietTactic
import Derived.BigQuiet
import Derived.Deep.RegionWith
import Derived.Laws.DeepStrings4
import Derived.Lib.QuietBelow
import Derived.StillTail
import Derived.Lib.MapLaws
import Derived.Sort.Walk0
import Derived.Lib.ItoaNum
import Derived.Maps.OwnSet
import Derived.StringKeys
import Derived.BigCall
import Derived.Lib.LaidTab
import Derived.Deep.Slices
import Derived.Laws.OwnMore
import Derived.Laws.IdiomStrings
import Derived.Test.YtjmccobblpcbhaaDoorP01
import Derived.Test.YtjmccobblpcbhaaDoorP02
import Derived.Test.YtjmccobblpcbhaaDoorP04
import Derived.Test.YtjmccobblpcbhaaDoorP05
import Derived.Test.YtjmccobblpcbhaaDoorP06
import Derived.Test.YtjmccobblpcbhaaDoorP07
import Derived.Test.YtjmccobblpcbhaaDoorP08
import Derived.Test.YtjmccobblpcbhaaDoorP11
import Derived.Test.YtjmccobblpcbhaaDoorP12
import Derived.Test.YtjmccobblpcbhaaDoorP16
import Derived.Test.YtjmccobblpcbhaaDoorP17
import Derived.Test.YtjmccobblpcbhaaDoorP25
import Derived.Test.YtjmccobblpcbhaaDoorP26
set_option linter.unusedSimpArgs false
set_option linter.unusedVariables false
namespace Go.Proofs.YtjmccobblpcbhaaDoor
open Go.RowKit Go.Lib

theorem nw_blk (w : World) (o : Obj) : (w.alloc o).heap[w.heap.size]? = some o := by
  show (w.heap.push _)[w.heap.size]? = _
  simp

theorem sgn_cells (k : Nat) (hk : k < 19) : (#[.string ⟨#[]⟩, .string ⟨#[]⟩, .string ⟨#[]⟩, .string ⟨#[45]⟩, .string ⟨#[126]⟩, .string ⟨#[43]⟩, .string ⟨#[45]⟩, .string ⟨#[42]⟩, .string ⟨#[47]⟩, .string ⟨#[37]⟩, .string ⟨#[38]⟩, .string ⟨#[124]⟩, .string ⟨#[94]⟩, .string ⟨#[60, 60]⟩, .string ⟨#[62, 62]⟩, .string ⟨#[61, 61]⟩, .string ⟨#[60]⟩, .string ⟨#[63]⟩, .string ⟨#[]⟩] : Array Value)[k]? = some (.string (sgT k)) := by
  match k, hk with
  | 0, _ | 1, _ | 2, _ | 3, _ | 4, _ | 5, _ | 6, _ | 7, _ | 8, _ | 9, _ | 10, _ | 11, _ | 12, _ | 13, _ | 14, _ | 15, _ | 16, _ | 17, _ | 18, _ => rfl
  | k + 19, h => exact absurd h (by omega)
theorem rnk_cells (k : Nat) (hk : k < 19) : (#[.int .i64 0, .int .i64 11, .int .i64 11, .int .i64 10, .int .i64 10, .int .i64 8, .int .i64 8, .int .i64 9, .int .i64 9, .int .i64 9, .int .i64 4, .int .i64 2, .int .i64 3, .int .i64 7, .int .i64 7, .int .i64 5, .int .i64 6, .int .i64 1, .int .i64 11] : Array Value)[k]? = some (.int .i64 (rkT k)) := by
  match k, hk with
  | 0, _ | 1, _ | 2, _ | 3, _ | 4, _ | 5, _ | 6, _ | 7, _ | 8, _ | 9, _ | 10, _ | 11, _ | 12, _ | 13, _ | 14, _ | 15, _ | 16, _ | 17, _ | 18, _ => rfl
  | k + 19, h => exact absurd h (by omega)

set_option maxRecDepth 20000 in
set_option maxHeartbeats 2000000 in
theorem refRank_any (k : Nat) (hk : k < 19) (w : World) :
    Calls Tryd.prog 120 #[.int .i64 k] w fun e w' => e = .returned (.int .i64 (rkT k)) ∧ Below w.heap.size w w' := by
  have hb : Below w.heap.size w (w.alloc (.cells #[.int .i64 0, .int .i64 11, .int .i64 11, .int .i64 10, .int .i64 10, .int .i64 8, .int .i64 8, .int .i64 9, .int .i64 9, .int .i64 9, .int .i64 4, .int .i64 2, .int .i64 3, .int .i64 7, .int .i64 7, .int .i64 5, .int .i64 6, .int .i64 1, .int .i64 11] 3)) := (Below.refl _ _).alloc (Nat.le_refl _) _
  have HB : Hid (_) := hb
  have hc : (w.alloc (.cells #[.int .i64 0, .int .i64 11, .int .i64 11, .int .i64 10, .int .i64 10, .int .i64 8, .int .i64 8, .int .i64 9, .int .i64 9, .int .i64 9, .int .i64 4, .int .i64 2, .int .i64 3, .int .i64 7, .int .i64 7, .int .i64 5, .int .i64 6, .int .i64 1, .int .i64 11] 3)).cell? ⟨w.heap.size, k, none⟩ = some (.int .i64 (rkT k)) := by
    rw [World.cell?_alloc_at _ _ _ _ rfl]; exact rnk_cells k hk
  clear hb
  go_enter Tryd.func120, Tryd.ntmps120
  go_wp2_with fail
  go_ret
  exact ⟨rfl, HB.out⟩

set_option maxRecDepth 20000 in
set_option maxHeartbeats 2000000 in
theorem refSign_any (k : Nat) (hk : k < 19) (w : World) :
    Calls Tryd.prog 84 #[.int .i64 k] w fun e w' => e = .returned (.string (sgT k)) ∧ Below w.heap.size w w' := by
  have hb : Below w.heap.size w (w.alloc (.cells #[.string ⟨#[]⟩, .string ⟨#[]⟩, .string ⟨#[]⟩, .string ⟨#[45]⟩, .string ⟨#[126]⟩, .string ⟨#[43]⟩, .string ⟨#[45]⟩, .string ⟨#[42]⟩, .string ⟨#[47]⟩, .string ⟨#[37]⟩, .string ⟨#[38]⟩, .string ⟨#[124]⟩, .string ⟨#[94]⟩, .string ⟨#[60, 60]⟩, .string ⟨#[62, 62]⟩, .string ⟨#[61, 61]⟩, .string ⟨#[60]⟩, .string ⟨#[63]⟩, .string ⟨#[]⟩] 9)) := (Below.refl _ _).alloc (Nat.le_refl _) _
  have HB : Hid (_) := hb
  have hc : (w.alloc (.cells #[.string ⟨#[]⟩, .string ⟨#[]⟩, .string ⟨#[]⟩, .string ⟨#[45]⟩, .string ⟨#[126]⟩, .string ⟨#[43]⟩, .string ⟨#[45]⟩, .string ⟨#[42]⟩, .string ⟨#[47]⟩, .string ⟨#[37]⟩, .string ⟨#[38]⟩, .string ⟨#[124]⟩, .string ⟨#[94]⟩, .string ⟨#[60, 60]⟩, .string ⟨#[62, 62]⟩, .string ⟨#[61, 61]⟩, .string ⟨#[60]⟩, .string ⟨#[63]⟩, .string ⟨#[]⟩] 9)).cell? ⟨w.heap.size, k, none⟩ = some (.string (sgT k)) := by
    rw [World.cell?_alloc_at _ _ _ _ rfl]; exact sgn_cells k hk
  clear hb
  go_enter Tryd.func84, Tryd.ntmps84
  go_wp2_with fail
  go_ret
  exact ⟨rfl, HB.out⟩

end Go.Proofs.YtjmccobblpcbhaaDoor

namespace Go.Proofs.YtjmccobblpcbhaaDoor
open Go.RowKit Go.Lib

set_option maxRecDepth 20000 in
set_option maxHeartbeats 4000000 in
theorem refClosed_any (op q : Nat) (n yn : Int) (nm ynm : ByteArray) (yks : List Int) (ka kka : Option Addr) (kn kc kkn kkc : Nat) (sec : Bool) (w : World) (ho : op < 19) (hq : q < 19) :
    Calls Tryd.prog 82 #[.agg #[.int .i64 op, .int .i64 n, .string nm, .slice ka kn kc], .agg #[.int .i64 q, .int .i64 yn, .string ynm, .slice kka kkn kkc], .bool sec] w fun e w' => e = .returned (.bool (clB op ⟨q, yn, ynm, yks⟩ sec)) ∧ Below w.heap.size w w' := by
  have cR : Hid (∀ (k : Nat), k < 19 → ∀ W, Calls Tryd.prog 120 #[.int .i64 k] W fun e w' => e = .returned (.int .i64 (rkT k)) ∧ Below W.heap.size W w') := fun k hk W => refRank_any k hk W
  obtain ⟨R, hR⟩ : ∃ R, clB op ⟨q, yn, ynm, yks⟩ sec = R := ⟨_, rfl⟩
  have HR : Hid (R = if (op : Int) = 17 then !sec && decide (rkT q = 1) else if (op : Int) = 15 ∨ (op : Int) = 16 then decide (rkT q ≤ rkT op) else if (op : Int) = 4 then decide (rkT q < 10) else if (op : Int) = 3 then decide (rkT q < 10) || (decide ((q : Int) = 1) && decide (0 ≤ yn)) else if sec = true then decide (rkT q ≤ rkT op) else decide (rkT q < rkT op)) := hR.symm
  rw [hR]
  clear hR
  generalize rkT = rkf at *
  have hz : ((w.alloc (.cells #[.int .i64 op, .int .i64 n, .string nm, .slice ka kn kc] 60)).alloc (.cells #[.int .i64 q, .int .i64 yn, .string ynm, .slice kka kkn kkc] 60)).heap.size = w.heap.size + 2 := by simp
  have HW : Hid (Below w.heap.size w ((w.alloc (.cells #[.int .i64 op, .int .i64 n, .string nm, .slice ka kn kc] 60)).alloc (.cells #[.int .i64 q, .int .i64 yn, .string ynm, .slice kka kkn kkc] 60))) := ((Below.refl _ _).alloc (Nat.le_refl _) _).alloc (by simp) _
  have P0 : Hid (((w.alloc (.cells #[.int .i64 op, .int .i64 n, .string nm, .slice ka kn kc] 60)).alloc (.cells #[.int .i64 q, .int .i64 yn, .string ynm, .slice kka kkn kkc] 60)).cell? ⟨w.heap.size, 0, none⟩ = some (.int .i64 (op : Int))) := by show _ = _; simp
  have Q0 : Hid (((w.alloc (.cells #[.int .i64 op, .int .i64 n, .string nm, .slice ka kn kc] 60)).alloc (.cells #[.int .i64 q, .int .i64 yn, .string ynm, .slice kka kkn kkc] 60)).cell? ⟨w.heap.size + 1, 0, none⟩ = some (.int .i64 (q : Int))) := by show _ = _; simp
  have Q1 : Hid (((w.alloc (.cells #[.int .i64 op, .int .i64 n, .string nm, .slice ka kn kc] 60)).alloc (.cells #[.int .i64 q, .int .i64 yn, .string ynm, .slice kka kkn kkc] 60)).cell? ⟨w.heap.size + 1, 1, none⟩ = some (.int .i64 yn)) := by show _ = _; simp
  by_cases h17 : (op : Int) = 17
  · have g17 : ((op : Int) == 17) = true := by rw [beq_iff_eq]; omega
    cases sec
    · have HR2 : Hid (R = decide (rkf q = 1)) := by show R = _; rw [HR.out]; simp [*]
      clear HR h17
      go_enter Tryd.func82, Tryd.ntmps82
      go_wp2_with (first | (go_at_call 120; refine (cR.out _ (by assumption) _).mono ?_; rintro e w3 ⟨rfl, hb3⟩; have p0' : w3.cell? ⟨w.heap.size, 0, none⟩ = some (.int .i64 op) := (hb3.cell (p := ⟨w.heap.size, 0, none⟩) (by show w.heap.size < _; omega)).trans p0; have q0' : w3.cell? ⟨w.heap.size + 1, 0, none⟩ = some (.int .i64 q) := (hb3.cell (p := ⟨w.heap.size + 1, 0, none⟩) (by show w.heap.size + 1 < _; omega)).trans q0; have q1' : w3.cell? ⟨w.heap.size + 1, 1, none⟩ = some (.int .i64 yn) := (hb3.cell (p := ⟨w.heap.size + 1, 1, none⟩) (by show w.heap.size + 1 < _; omega)).trans q1) | (go_at_call 120; refine (cR.out _ (by assumption) _).mono ?_; rintro e w2 ⟨rfl, hb2⟩; have hs2 : w.heap.size + 2 ≤ w2.heap.size := (by have := hb2.size; omega); have p0 : w2.cell? ⟨w.heap.size, 0, none⟩ = some (.int .i64 op) := (hb2.cell (p := ⟨w.heap.size, 0, none⟩) (by show w.heap.size < _; omega)).trans P0.out; have q0 : w2.cell? ⟨w.heap.size + 1, 0, none⟩ = some (.int .i64 q) := (hb2.cell (p := ⟨w.heap.size + 1, 0, none⟩) (by show w.heap.size + 1 < _; omega)).trans Q0.out; have q1 : w2.cell? ⟨w.heap.size + 1, 1, none⟩ = some (.int .i64 yn) := (hb2.cell (p := ⟨w.heap.size + 1, 1, none⟩) (by show w.heap.size + 1 < _; omega)).trans Q1.out))
      go_ret
      exact ⟨by rw [HR2.out] <;> rfl, (HW.out.trans (hb2.mono (by omega))).trans (hb3.mono (by omega))⟩
    · have HR2 : Hid (R = false) := by show R = _; rw [HR.out]; simp [*]
      clear HR h17
      go_enter Tryd.func82, Tryd.ntmps82
      go_wp2_with (first | (go_at_call 120; refine (cR.out _ (by assumption) _).mono ?_; rintro e w3 ⟨rfl, hb3⟩; have p0' : w3.cell? ⟨w.heap.size, 0, none⟩ = some (.int .i64 op) := (hb3.cell (p := ⟨w.heap.size, 0, none⟩) (by show w.heap.size < _; omega)).trans p0; have q0' : w3.cell? ⟨w.heap.size + 1, 0, none⟩ = some (.int .i64 q) := (hb3.cell (p := ⟨w.heap.size + 1, 0, none⟩) (by show w.heap.size + 1 < _; omega)).trans q0; have q1' : w3.cell? ⟨w.heap.size + 1, 1, none⟩ = some (.int .i64 yn) := (hb3.cell (p := ⟨w.heap.size + 1, 1, none⟩) (by show w.heap.size + 1 < _; omega)).trans q1) | (go_at_call 120; refine (cR.out _ (by assumption) _).mono ?_; rintro e w2 ⟨rfl, hb2⟩; have hs2 : w.heap.size + 2 ≤ w2.heap.size := (by have := hb2.size; omega); have p0 : w2.cell? ⟨w.heap.size, 0, none⟩ = some (.int .i64 op) := (hb2.cell (p := ⟨w.heap.size, 0, none⟩) (by show w.heap.size < _; omega)).trans P0.out; have q0 : w2.cell? ⟨w.heap.size + 1, 0, none⟩ = some (.int .i64 q) := (hb2.cell (p := ⟨w.heap.size + 1, 0, none⟩) (by show w.heap.size + 1 < _; omega)).trans Q0.out; have q1 : w2.cell? ⟨w.heap.size + 1, 1, none⟩ = some (.int .i64 yn) := (hb2.cell (p := ⟨w.heap.size + 1, 1, none⟩) (by show w.heap.size + 1 < _; omega)).trans Q1.out))
      go_ret
      exact ⟨by rw [HR2.out] <;> rfl, (HW.out.trans (hb2.mono (by omega))).trans (hb3.mono (by omega))⟩
  · have g17 : ((op : Int) == 17) = false := by rw [beq_eq_false_iff_ne]; omega
    by_cases h15 : (op : Int) = 15
    · have g15 : ((op : Int) == 15) = true := by rw [beq_iff_eq]; omega
      have HR2 : Hid (R = decide (rkf q ≤ rkf op)) := by show R = _; rw [HR.out]; simp [*]
      clear HR h17 h15
      go_enter Tryd.func82, Tryd.ntmps82
      go_wp2_with (first | (go_at_call 120; refine (cR.out _ (by assumption) _).mono ?_; rintro e w3 ⟨rfl, hb3⟩; have p0' : w3.cell? ⟨w.heap.size, 0, none⟩ = some (.int .i64 op) := (hb3.cell (p := ⟨w.heap.size, 0, none⟩) (by show w.heap.size < _; omega)).trans p0; have q0' : w3.cell? ⟨w.heap.size + 1, 0, none⟩ = some (.int .i64 q) := (hb3.cell (p := ⟨w.heap.size + 1, 0, none⟩) (by show w.heap.size + 1 < _; omega)).trans q0; have q1' : w3.cell? ⟨w.heap.size + 1, 1, none⟩ = some (.int .i64 yn) := (hb3.cell (p := ⟨w.heap.size + 1, 1, none⟩) (by show w.heap.size + 1 < _; omega)).trans q1) | (go_at_call 120; refine (cR.out _ (by assumption) _).mono ?_; rintro e w2 ⟨rfl, hb2⟩; have hs2 : w.heap.size + 2 ≤ w2.heap.size := (by have := hb2.size; omega); have p0 : w2.cell? ⟨w.heap.size, 0, none⟩ = some (.int .i64 op) := (hb2.cell (p := ⟨w.heap.size, 0, none⟩) (by show w.heap.size < _; omega)).trans P0.out; have q0 : w2.cell? ⟨w.heap.size + 1, 0, none⟩ = some (.int .i64 q) := (hb2.cell (p := ⟨w.heap.size + 1, 0, none⟩) (by show w.heap.size + 1 < _; omega)).trans Q0.out; have q1 : w2.cell? ⟨w.heap.size + 1, 1, none⟩ = some (.int .i64 yn) := (hb2.cell (p := ⟨w.heap.size + 1, 1, none⟩) (by show w.heap.size + 1 < _; omega)).trans Q1.out))
      go_ret
      exact ⟨by rw [HR2.out] <;> rfl, (HW.out.trans (hb2.mono (by omega))).trans (hb3.mono (by omega))⟩
    · have g15 : ((op : Int) == 15) = false := by rw [beq_eq_false_iff_ne]; omega
      by_cases h16 : (op : Int) = 16
      · have g16 : ((op : Int) == 16) = true := by rw [beq_iff_eq]; omega
        have HR2 : Hid (R = decide (rkf q ≤ rkf op)) := by show R = _; rw [HR.out]; simp [*]
        clear HR h17 h15 h16
        go_enter Tryd.func82, Tryd.ntmps82
        go_wp2_with (first | (go_at_call 120; refine (cR.out _ (by assumption) _).mono ?_; rintro e w3 ⟨rfl, hb3⟩; have p0' : w3.cell? ⟨w.heap.size, 0, none⟩ = some (.int .i64 op) := (hb3.cell (p := ⟨w.heap.size, 0, none⟩) (by show w.heap.size < _; omega)).trans p0; have q0' : w3.cell? ⟨w.heap.size + 1, 0, none⟩ = some (.int .i64 q) := (hb3.cell (p := ⟨w.heap.size + 1, 0, none⟩) (by show w.heap.size + 1 < _; omega)).trans q0; have q1' : w3.cell? ⟨w.heap.size + 1, 1, none⟩ = some (.int .i64 yn) := (hb3.cell (p := ⟨w.heap.size + 1, 1, none⟩) (by show w.heap.size + 1 < _; omega)).trans q1) | (go_at_call 120; refine (cR.out _ (by assumption) _).mono ?_; rintro e w2 ⟨rfl, hb2⟩; have hs2 : w.heap.size + 2 ≤ w2.heap.size := (by have := hb2.size; omega); have p0 : w2.cell? ⟨w.heap.size, 0, none⟩ = some (.int .i64 op) := (hb2.cell (p := ⟨w.heap.size, 0, none⟩) (by show w.heap.size < _; omega)).trans P0.out; have q0 : w2.cell? ⟨w.heap.size + 1, 0, none⟩ = some (.int .i64 q) := (hb2.cell (p := ⟨w.heap.size + 1, 0, none⟩) (by show w.heap.size + 1 < _; omega)).trans Q0.out; have q1 : w2.cell? ⟨w.heap.size + 1, 1, none⟩ = some (.int .i64 yn) := (hb2.cell (p := ⟨w.heap.size + 1, 1, none⟩) (by show w.heap.size + 1 < _; omega)).trans Q1.out))
        go_ret
        exact ⟨by rw [HR2.out] <;> rfl, (HW.out.trans (hb2.mono (by omega))).trans (hb3.mono (by omega))⟩
      · have g16 : ((op : Int) == 16) = false := by rw [beq_eq_false_iff_ne]; omega
        by_cases h4 : (op : Int) = 4
        · have g4 : ((op : Int) == 4) = true := by rw [beq_iff_eq]; omega
          have HR2 : Hid (R = decide (rkf q < 10)) := by show R = _; rw [HR.out]; simp [*]
          clear HR h17 h15 h16 h4
          go_enter Tryd.func82, Tryd.ntmps82
          go_wp2_with (first | (go_at_call 120; refine (cR.out _ (by assumption) _).mono ?_; rintro e w3 ⟨rfl, hb3⟩; have p0' : w3.cell? ⟨w.heap.size, 0, none⟩ = some (.int .i64 op) := (hb3.cell (p := ⟨w.heap.size, 0, none⟩) (by show w.heap.size < _; omega)).trans p0; have q0' : w3.cell? ⟨w.heap.size + 1, 0, none⟩ = some (.int .i64 q) := (hb3.cell (p := ⟨w.heap.size + 1, 0, none⟩) (by show w.heap.size + 1 < _; omega)).trans q0; have q1' : w3.cell? ⟨w.heap.size + 1, 1, none⟩ = some (.int .i64 yn) := (hb3.cell (p := ⟨w.heap.size + 1, 1, none⟩) (by show w.heap.size + 1 < _; omega)).trans q1) | (go_at_call 120; refine (cR.out _ (by assumption) _).mono ?_; rintro e w2 ⟨rfl, hb2⟩; have hs2 : w.heap.size + 2 ≤ w2.heap.size := (by have := hb2.size; omega); have p0 : w2.cell? ⟨w.heap.size, 0, none⟩ = some (.int .i64 op) := (hb2.cell (p := ⟨w.heap.size, 0, none⟩) (by show w.heap.size < _; omega)).trans P0.out; have q0 : w2.cell? ⟨w.heap.size + 1, 0, none⟩ = some (.int .i64 q) := (hb2.cell (p := ⟨w.heap.size + 1, 0, none⟩) (by show w.heap.size + 1 < _; omega)).trans Q0.out; have q1 : w2.cell? ⟨w.heap.size + 1, 1, none⟩ = some (.int .i64 yn) := (hb2.cell (p := ⟨w.heap.size + 1, 1, none⟩) (by show w.heap.size + 1 < _; omega)).trans Q1.out))
          go_ret
          exact ⟨by rw [HR2.out] <;> rfl, (HW.out.trans (hb2.mono (by omega))).trans (hb3.mono (by omega))⟩
        · have g4 : ((op : Int) == 4) = false := by rw [beq_eq_false_iff_ne]; omega
          by_cases h3 : (op : Int) = 3
          · have g3 : ((op : Int) == 3) = true := by rw [beq_iff_eq]; omega
            by_cases hb10 : rkf q < 10
            · have HR2 : Hid (R = true) := by show R = _; rw [HR.out, if_neg h17, if_neg (fun e => e.elim h15 h16), if_neg h4, if_pos h3, decide_eq_true hb10]; simp
              clear HR h17 h15 h16 h4 h3
              go_enter Tryd.func82, Tryd.ntmps82
              go_wp2_with (first | (go_at_call 120; refine (cR.out _ (by assumption) _).mono ?_; rintro e w3 ⟨rfl, hb3⟩; have p0' : w3.cell? ⟨w.heap.size, 0, none⟩ = some (.int .i64 op) := (hb3.cell (p := ⟨w.heap.size, 0, none⟩) (by show w.heap.size < _; omega)).trans p0; have q0' : w3.cell? ⟨w.heap.size + 1, 0, none⟩ = some (.int .i64 q) := (hb3.cell (p := ⟨w.heap.size + 1, 0, none⟩) (by show w.heap.size + 1 < _; omega)).trans q0; have q1' : w3.cell? ⟨w.heap.size + 1, 1, none⟩ = some (.int .i64 yn) := (hb3.cell (p := ⟨w.heap.size + 1, 1, none⟩) (by show w.heap.size + 1 < _; omega)).trans q1) | (go_at_call 120; refine (cR.out _ (by assumption) _).mono ?_; rintro e w2 ⟨rfl, hb2⟩; have hs2 : w.heap.size + 2 ≤ w2.heap.size := (by have := hb2.size; omega); have p0 : w2.cell? ⟨w.heap.size, 0, none⟩ = some (.int .i64 op) := (hb2.cell (p := ⟨w.heap.size, 0, none⟩) (by show w.heap.size < _; omega)).trans P0.out; have q0 : w2.cell? ⟨w.heap.size + 1, 0, none⟩ = some (.int .i64 q) := (hb2.cell (p := ⟨w.heap.size + 1, 0, none⟩) (by show w.heap.size + 1 < _; omega)).trans Q0.out; have q1 : w2.cell? ⟨w.heap.size + 1, 1, none⟩ = some (.int .i64 yn) := (hb2.cell (p := ⟨w.heap.size + 1, 1, none⟩) (by show w.heap.size + 1 < _; omega)).trans Q1.out))
              go_ret
              exact ⟨by rw [HR2.out] <;> rfl, (HW.out.trans (hb2.mono (by omega))).trans (hb3.mono (by omega))⟩
            · by_cases hq1 : (q : Int) = 1
              · have gq : ((q : Int) == 1) = true := by rw [beq_iff_eq]; exact hq1
                have HR2 : Hid (R = (decide (rkf q < 10) || decide (0 ≤ yn))) := by show R = _; rw [HR.out, if_neg h17, if_neg (fun e => e.elim h15 h16), if_neg h4, if_pos h3, decide_eq_true hq1]; simp
                clear HR h17 h15 h16 h4 h3 hq1
                go_enter Tryd.func82, Tryd.ntmps82
                go_wp2_with (first | (go_at_call 120; refine (cR.out _ (by assumption) _).mono ?_; rintro e w3 ⟨rfl, hb3⟩; have p0' : w3.cell? ⟨w.heap.size, 0, none⟩ = some (.int .i64 op) := (hb3.cell (p := ⟨w.heap.size, 0, none⟩) (by show w.heap.size < _; omega)).trans p0; have q0' : w3.cell? ⟨w.heap.size + 1, 0, none⟩ = some (.int .i64 q) := (hb3.cell (p := ⟨w.heap.size + 1, 0, none⟩) (by show w.heap.size + 1 < _; omega)).trans q0; have q1' : w3.cell? ⟨w.heap.size + 1, 1, none⟩ = some (.int .i64 yn) := (hb3.cell (p := ⟨w.heap.size + 1, 1, none⟩) (by show w.heap.size + 1 < _; omega)).trans q1) | (go_at_call 120; refine (cR.out _ (by assumption) _).mono ?_; rintro e w2 ⟨rfl, hb2⟩; have hs2 : w.heap.size + 2 ≤ w2.heap.size := (by have := hb2.size; omega); have p0 : w2.cell? ⟨w.heap.size, 0, none⟩ = some (.int .i64 op) := (hb2.cell (p := ⟨w.heap.size, 0, none⟩) (by show w.heap.size < _; omega)).trans P0.out; have q0 : w2.cell? ⟨w.heap.size + 1, 0, none⟩ = some (.int .i64 q) := (hb2.cell (p := ⟨w.heap.size + 1, 0, none⟩) (by show w.heap.size + 1 < _; omega)).trans Q0.out; have q1 : w2.cell? ⟨w.heap.size + 1, 1, none⟩ = some (.int .i64 yn) := (hb2.cell (p := ⟨w.heap.size + 1, 1, none⟩) (by show w.heap.size + 1 < _; omega)).trans Q1.out))
                go_ret
                exact ⟨by rw [HR2.out] <;> rfl, (HW.out.trans (hb2.mono (by omega))).trans (hb3.mono (by omega))⟩
              · have gq : ((q : Int) == 1) = false := by rw [beq_eq_false_iff_ne]; exact hq1
                have HR2 : Hid (R = decide (rkf q < 10)) := by show R = _; rw [HR.out, if_neg h17, if_neg (fun e => e.elim h15 h16), if_neg h4, if_pos h3, decide_eq_false hq1]; simp
                clear HR h17 h15 h16 h4 h3 hq1
                go_enter Tryd.func82, Tryd.ntmps82
                go_wp2_with (first | (go_at_call 120; refine (cR.out _ (by assumption) _).mono ?_; rintro e w3 ⟨rfl, hb3⟩; have p0' : w3.cell? ⟨w.heap.size, 0, none⟩ = some (.int .i64 op) := (hb3.cell (p := ⟨w.heap.size, 0, none⟩) (by show w.heap.size < _; omega)).trans p0; have q0' : w3.cell? ⟨w.heap.size + 1, 0, none⟩ = some (.int .i64 q) := (hb3.cell (p := ⟨w.heap.size + 1, 0, none⟩) (by show w.heap.size + 1 < _; omega)).trans q0; have q1' : w3.cell? ⟨w.heap.size + 1, 1, none⟩ = some (.int .i64 yn) := (hb3.cell (p := ⟨w.heap.size + 1, 1, none⟩) (by show w.heap.size + 1 < _; omega)).trans q1) | (go_at_call 120; refine (cR.out _ (by assumption) _).mono ?_; rintro e w2 ⟨rfl, hb2⟩; have hs2 : w.heap.size + 2 ≤ w2.heap.size := (by have := hb2.size; omega); have p0 : w2.cell? ⟨w.heap.size, 0, none⟩ = some (.int .i64 op) := (hb2.cell (p := ⟨w.heap.size, 0, none⟩) (by show w.heap.size < _; omega)).trans P0.out; have q0 : w2.cell? ⟨w.heap.size + 1, 0, none⟩ = some (.int .i64 q) := (hb2.cell (p := ⟨w.heap.size + 1, 0, none⟩) (by show w.heap.size + 1 < _; omega)).trans Q0.out; have q1 : w2.cell? ⟨w.heap.size + 1, 1, none⟩ = some (.int .i64 yn) := (hb2.cell (p := ⟨w.heap.size + 1, 1, none⟩) (by show w.heap.size + 1 < _; omega)).trans Q1.out))
                go_ret
                exact ⟨by rw [HR2.out] <;> rfl, (HW.out.trans (hb2.mono (by omega))).trans (hb3.mono (by omega))⟩
          · have g3 : ((op : Int) == 3) = false := by rw [beq_eq_false_iff_ne]; omega
            cases sec
            · have HR2 : Hid (R = decide (rkf q < rkf op)) := by show R = _; rw [HR.out]; simp [*]
              clear HR h17 h15 h16 h4 h3
              go_enter Tryd.func82, Tryd.ntmps82
              go_wp2_with (first | (go_at_call 120; refine (cR.out _ (by assumption) _).mono ?_; rintro e w3 ⟨rfl, hb3⟩; have p0' : w3.cell? ⟨w.heap.size, 0, none⟩ = some (.int .i64 op) := (hb3.cell (p := ⟨w.heap.size, 0, none⟩) (by show w.heap.size < _; omega)).trans p0; have q0' : w3.cell? ⟨w.heap.size + 1, 0, none⟩ = some (.int .i64 q) := (hb3.cell (p := ⟨w.heap.size + 1, 0, none⟩) (by show w.heap.size + 1 < _; omega)).trans q0; have q1' : w3.cell? ⟨w.heap.size + 1, 1, none⟩ = some (.int .i64 yn) := (hb3.cell (p := ⟨w.heap.size + 1, 1, none⟩) (by show w.heap.size + 1 < _; omega)).trans q1) | (go_at_call 120; refine (cR.out _ (by assumption) _).mono ?_; rintro e w2 ⟨rfl, hb2⟩; have hs2 : w.heap.size + 2 ≤ w2.heap.size := (by have := hb2.size; omega); have p0 : w2.cell? ⟨w.heap.size, 0, none⟩ = some (.int .i64 op) := (hb2.cell (p := ⟨w.heap.size, 0, none⟩) (by show w.heap.size < _; omega)).trans P0.out; have q0 : w2.cell? ⟨w.heap.size + 1, 0, none⟩ = some (.int .i64 q) := (hb2.cell (p := ⟨w.heap.size + 1, 0, none⟩) (by show w.heap.size + 1 < _; omega)).trans Q0.out; have q1 : w2.cell? ⟨w.heap.size + 1, 1, none⟩ = some (.int .i64 yn) := (hb2.cell (p := ⟨w.heap.size + 1, 1, none⟩) (by show w.heap.size + 1 < _; omega)).trans Q1.out))
              go_ret
              exact ⟨by rw [HR2.out] <;> rfl, (HW.out.trans (hb2.mono (by omega))).trans (hb3.mono (by omega))⟩
            · have HR2 : Hid (R = decide (rkf q ≤ rkf op)) := by show R = _; rw [HR.out]; simp [*]
              clear HR h17 h15 h16 h4 h3
              go_enter Tryd.func82, Tryd.ntmps82
              go_wp2_with (first | (go_at_call 120; refine (cR.out _ (by assumption) _).mono ?_; rintro e w3 ⟨rfl, hb3⟩; have p0' : w3.cell? ⟨w.heap.size, 0, none⟩ = some (.int .i64 op) := (hb3.cell (p := ⟨w.heap.size, 0, none⟩) (by show w.heap.size < _; omega)).trans p0; have q0' : w3.cell? ⟨w.heap.size + 1, 0, none⟩ = some (.int .i64 q) := (hb3.cell (p := ⟨w.heap.size + 1, 0, none⟩) (by show w.heap.size + 1 < _; omega)).trans q0; have q1' : w3.cell? ⟨w.heap.size + 1, 1, none⟩ = some (.int .i64 yn) := (hb3.cell (p := ⟨w.heap.size + 1, 1, none⟩) (by show w.heap.size + 1 < _; omega)).trans q1) | (go_at_call 120; refine (cR.out _ (by assumption) _).mono ?_; rintro e w2 ⟨rfl, hb2⟩; have hs2 : w.heap.size + 2 ≤ w2.heap.size := (by have := hb2.size; omega); have p0 : w2.cell? ⟨w.heap.size, 0, none⟩ = some (.int .i64 op) := (hb2.cell (p := ⟨w.heap.size, 0, none⟩) (by show w.heap.size < _; omega)).trans P0.out; have q0 : w2.cell? ⟨w.heap.size + 1, 0, none⟩ = some (.int .i64 q) := (hb2.cell (p := ⟨w.heap.size + 1, 0, none⟩) (by show w.heap.size + 1 < _; omega)).trans Q0.out; have q1 : w2.cell? ⟨w.heap.size + 1, 1, none⟩ = some (.int .i64 yn) := (hb2.cell (p := ⟨w.heap.size + 1, 1, none⟩) (by show w.heap.size + 1 < _; omega)).trans Q1.out))
              go_ret
              exact ⟨by rw [HR2.out] <;> rfl, (HW.out.trans (hb2.mono (by omega))).trans (hb3.mono (by omega))⟩
end Go.Proofs.YtjmccobblpcbhaaDoor

namespace Go.Proofs.YtjmccobblpcbhaaDoor
open Go.RowKit Go.Lib

def mS : Value → Nat
  | .string b => if b.size = 0 then 1 else 0
  | _ => 0
theorem mS_txt (s : List UInt8) : mS (.string (txt s)) = if s.length = 0 then 1 else 0 := by
  show (if (txt s).size = 0 then 1 else 0) = _
  rw [txt_size]
/-- Between two digits. -/
def DcInv (D : List UInt8) (u : Nat) (s : List UInt8) : Prop := (if 0 < u ∨ s = [] then decDigits u ++ s = D else s = D) ∧ s.length ≤ D.length
theorem dc_start (u : Nat) : DcInv (decDigits u) u [] := ⟨by rw [if_pos (.inr rfl), List.append_nil], Nat.zero_le _⟩
theorem dc_next {D : List UInt8} {u : Nat} {s : List UInt8} (h : DcInv D u s) (hc : 0 < u ∨ s = []) : DcInv D (u / 10) (UInt8.ofNat (48 + u % 10) :: s) := by
  have h1 := h.1
  rw [if_pos hc] at h1
  obtain ⟨a, b⟩ := dec_step u s D h1
  by_cases hu : u < 10
  · have e := a hu
    refine ⟨?_, by rw [← e]; exact Nat.le_refl _⟩
    rw [if_neg (by simp; omega)]; exact e
  · have e := b (by omega)
    refine ⟨?_, by rw [← e]; simp⟩
    rw [if_pos (.inl (by omega))]; exact e
theorem dc_end {D : List UInt8} {u : Nat} {s : List UInt8} (h : DcInv D u s) (hu : u = 0) (hs : s ≠ []) : s = D := by
  have h1 := h.1
  rw [if_neg (by simp [hu, hs])] at h1; exact h1

theorem dig_conv (d : Nat) (hd : d < 10) (w : World) :
    (convert 38 9 (.slice (some ⟨w.heap.size, 0, none⟩) 1 1)).run Tryd.prog (w.alloc (.cells #[.int .u8 (48 + (d : Int))] 5)) = .ok (.string (txt [UInt8.ofNat (48 + d)])) (w.alloc (.cells #[.int .u8 (48 + (d : Int))] 5)) := by
  have e : (UInt8.ofNat (48 + d)).toNat = 48 + d := by simp [UInt8.toNat_ofNat]; omega
  have h := run_convert_bytes_back (P := Tryd.prog) (w.alloc (.cells #[.int .u8 (48 + (d : Int))] 5)) 38 9 5 ⟨w.heap.size, 0, none⟩ 1 [UInt8.ofNat (48 + d)] Tryd.underlying38 Tryd.underlying5 Tryd.underlying9
  refine h ?_
  intro j hj
  have : j = 0 := by simp at hj; omega
  subst this
  have e2 : ((⟨w.heap.size, 0, none⟩ : Addr).add 0) = ⟨w.heap.size, 0, none⟩ := rfl
  rw [e2]
  have e3 : ([UInt8.ofNat (48 + d)] : List UInt8)[0] = UInt8.ofNat (48 + d) := rfl
  rw [e3, e, World.cell?_alloc_at _ _ _ _ rfl]
  simp
theorem empty_txt (s : List UInt8) : (txt s).toList.isEmpty = decide (s = []) := by
  rw [toList_data]; simp [txt]
  cases s <;> simp
theorem wrap_neg (u : Nat) (h1 : 0 < u) (h2 : u ≤ 9223372036854775808) : IntKind.u64.wrap (-IntKind.u64.wrap (-(u : Int))) = (u : Int) := by
  simp [IntKind.wrap, IntKind.bits, IntKind.signed]
  omega
theorem wrap_pos (u : Nat) (h2 : u ≤ 9223372036854775808) : IntKind.u64.wrap (u : Int) = (u : Int) := by
  simp [IntKind.wrap, IntKind.bits, IntKind.signed]
  omega

set_option maxRecDepth 20000 in
set_option maxHeartbeats 2000000 in
theorem refDec_neg (u : Nat) (hu1 : 0 < u) (hu2 : u ≤ 9223372036854775808) (w : World) :
    Calls Tryd.prog 121 #[.int .i64 (-(u : Int))] w fun e w' => e = .returned (.string (txt [45] ++ txt (decDigits u))) ∧ Below w.heap.size w w' := by
  have HS : Hid (DcInv (decDigits u) u []) := dc_start u
  have hD : (decDigits u).length ≤ 20 := by have := dec_len 19 u (by omega); omega
  have HWR : Hid (_) := wrap_neg u hu1 hu2
  generalize decDigits u = D at *
  go_enter Tryd.func121, Tryd.ntmps121
  go_wp2_with fail
  go_loopw [3, 4] (fun vs vu wr => ∃ (u : Nat) (s : List UInt8), vs = .string (txt s) ∧ vu = .int .u64 (u : Int) ∧ u ≤ 9223372036854775808 ∧ Hid (DcInv D u s) ∧ Below w.heap.size w wr) (fun vs vu _ => 2 * (RowKit.intOf vu).toNat + mS vs)
  case atStart =>
    refine ⟨u, [], rfl, ?_, by omega, HS.out, Below.refl _ _⟩
    first | rfl | (rw [HWR.out])
  case round =>
    obtain ⟨u0, hu0e⟩ : ∃ u0, u0 = u := ⟨_, rfl⟩
    subst hu0e
    obtain ⟨u, s, rfl, rfl, hu, hI, hbw⟩ := hrel
    have hsl := hI.out.2
    have hm := mS_txt s
    by_cases hc : 0 < u ∨ s = []
    · have HNX : Hid (DcInv D (u / 10) (UInt8.ofNat (48 + u % 10) :: s)) := dc_next hI.out hc
      have hAd : ∀ W : World, (Op.stringOp .add (txt [UInt8.ofNat (48 + u % 10)]) (txt s)).run Tryd.prog W = .ok (.string (txt (UInt8.ofNat (48 + u % 10) :: s))) W := fun W => by
        have e : txt (UInt8.ofNat (48 + u % 10) :: s) = txt [UInt8.ofNat (48 + u % 10)] ++ txt s := by rw [← txt_append]; rfl
        rw [e]; exact add_ok _ _ (by rw [txt_size, txt_size]; simp; omega) W
      have hm2 := mS_txt (UInt8.ofNat (48 + u % 10) :: s)
      have hcv : (convert 38 9 (.slice (some ⟨wr.heap.size, 0, none⟩) 1 1)).run Tryd.prog (wr.alloc (.cells #[.int .u8 (48 + (u : Int) % 10)] 5)) = .ok (.string (txt [UInt8.ofNat (48 + u % 10)])) (wr.alloc (.cells #[.int .u8 (48 + (u : Int) % 10)] 5)) := by
        have := dig_conv (u % 10) (by omega) wr
        rw [Int.natCast_emod] at this; exact this
      have HBW : Hid (Below w.heap.size w (wr.alloc (.cells #[.int .u8 (48 + (u : Int) % 10)] 5))) := hbw.alloc hbw.size _
      generalize UInt8.ofNat (48 + u % 10) = dg at *
      have hm3 : mS (.string (txt (dg :: s))) = 0 := by rw [hm2]; simp
      clear hI hbw hm2
      by_cases hu0 : 0 < u
      · have gu : (0 : Int) < (u : Int) := by omega
        have hms : 2 * (u / 10) + mS (.string (txt (dg :: s))) < 2 * u + mS (.string (txt s)) := by omega
        have HMS : Hid (2 * (u / 10) + mS (.string (txt (dg :: s))) < 2 * u + mS (.string (txt s))) := hms
        clear hc hms hm hm3
        go_wp2_with fail
        refine ⟨⟨u / 10, dg :: s, rfl, by go_num, by omega, HNX.out, HBW.out⟩, ?_⟩
        have e1 : (RowKit.intOf (Value.int IntKind.u64 ((u : Int) / 10))).toNat = u / 10 := by simp [RowKit.intOf]; omega
        have e2 : (RowKit.intOf (Value.int IntKind.u64 (u : Int))).toNat = u := by simp [RowKit.intOf]
        rw [e1, e2]; exact HMS.out
      · have gu : ¬ (0 : Int) < (u : Int) := by omega
        have hs0 : s = [] := by
          rcases hc with h | h
          · omega
          · exact h
        have ge : (txt s).toList.isEmpty = true := by rw [empty_txt]; simp [hs0]
        have hms : 2 * (u / 10) + mS (.string (txt (dg :: s))) < 2 * u + mS (.string (txt s)) := by rw [hm, hm3, hs0]; simp; omega
        have HMS : Hid (2 * (u / 10) + mS (.string (txt (dg :: s))) < 2 * u + mS (.string (txt s))) := hms
        clear hc hs0 hms hm hm3
        go_wp2_with fail
        refine ⟨⟨u / 10, dg :: s, rfl, by go_num, by omega, HNX.out, HBW.out⟩, ?_⟩
        have e1 : (RowKit.intOf (Value.int IntKind.u64 ((u : Int) / 10))).toNat = u / 10 := by simp [RowKit.intOf]; omega
        have e2 : (RowKit.intOf (Value.int IntKind.u64 (u : Int))).toNat = u := by simp [RowKit.intOf]
        rw [e1, e2]; exact HMS.out
    · have hu0 : u = 0 := by omega
      have hs0 : s ≠ [] := fun e => hc (.inr e)
      have HD : Hid (s = D) := dc_end hI.out hu0 hs0
      subst hu0
      have ge : (txt s).toList.isEmpty = false := by rw [empty_txt]; simp [hs0]
      have hA : ∀ W : World, (Op.stringOp .add ⟨#[45]⟩ (txt s)).run Tryd.prog W = .ok (.string (txt [45] ++ txt s)) W := add_ok (txt [45]) (txt s) (by rw [txt_size, txt_size]; simp; omega)
      clear hc hI hs0
      go_wp2_with fail
      go_ret
      exact ⟨by rw [← HD.out] <;> rfl, hbw⟩
set_option maxRecDepth 20000 in
set_option maxHeartbeats 2000000 in
theorem refDec_pos (u : Nat) (hu1 : 0 ≤ u) (hu2 : u ≤ 9223372036854775807) (w : World) :
    Calls Tryd.prog 121 #[.int .i64 ((u : Int))] w fun e w' => e = .returned (.string (txt (decDigits u))) ∧ Below w.heap.size w w' := by
  have HS : Hid (DcInv (decDigits u) u []) := dc_start u
  have hD : (decDigits u).length ≤ 20 := by have := dec_len 19 u (by omega); omega
  have HWR : Hid (_) := wrap_pos u (by omega)
  generalize decDigits u = D at *
  go_enter Tryd.func121, Tryd.ntmps121
  go_wp2_with fail
  go_loopw [3, 4] (fun vs vu wr => ∃ (u : Nat) (s : List UInt8), vs = .string (txt s) ∧ vu = .int .u64 (u : Int) ∧ u ≤ 9223372036854775808 ∧ Hid (DcInv D u s) ∧ Below w.heap.size w wr) (fun vs vu _ => 2 * (RowKit.intOf vu).toNat + mS vs)
  case atStart =>
    refine ⟨u, [], rfl, ?_, by omega, HS.out, Below.refl _ _⟩
    first | rfl | (rw [HWR.out])
  case round =>
    obtain ⟨u0, hu0e⟩ : ∃ u0, u0 = u := ⟨_, rfl⟩
    subst hu0e
    obtain ⟨u, s, rfl, rfl, hu, hI, hbw⟩ := hrel
    have hsl := hI.out.2
    have hm := mS_txt s
    by_cases hc : 0 < u ∨ s = []
    · have HNX : Hid (DcInv D (u / 10) (UInt8.ofNat (48 + u % 10) :: s)) := dc_next hI.out hc
      have hAd : ∀ W : World, (Op.stringOp .add (txt [UInt8.ofNat (48 + u % 10)]) (txt s)).run Tryd.prog W = .ok (.string (txt (UInt8.ofNat (48 + u % 10) :: s))) W := fun W => by
        have e : txt (UInt8.ofNat (48 + u % 10) :: s) = txt [UInt8.ofNat (48 + u % 10)] ++ txt s := by rw [← txt_append]; rfl
        rw [e]; exact add_ok _ _ (by rw [txt_size, txt_size]; simp; omega) W
      have hm2 := mS_txt (UInt8.ofNat (48 + u % 10) :: s)
      have hcv : (convert 38 9 (.slice (some ⟨wr.heap.size, 0, none⟩) 1 1)).run Tryd.prog (wr.alloc (.cells #[.int .u8 (48 + (u : Int) % 10)] 5)) = .ok (.string (txt [UInt8.ofNat (48 + u % 10)])) (wr.alloc (.cells #[.int .u8 (48 + (u : Int) % 10)] 5)) := by
        have := dig_conv (u % 10) (by omega) wr
        rw [Int.natCast_emod] at this; exact this
      have HBW : Hid (Below w.heap.size w (wr.alloc (.cells #[.int .u8 (48 + (u : Int) % 10)] 5))) := hbw.alloc hbw.size _
      generalize UInt8.ofNat (48 + u % 10) = dg at *
      have hm3 : mS (.string (txt (dg :: s))) = 0 := by rw [hm2]; simp
      clear hI hbw hm2
      by_cases hu0 : 0 < u
      · have gu : (0 : Int) < (u : Int) := by omega
        have hms : 2 * (u / 10) + mS (.string (txt (dg :: s))) < 2 * u + mS (.string (txt s)) := by omega
        have HMS : Hid (2 * (u / 10) + mS (.string (txt (dg :: s))) < 2 * u + mS (.string (txt s))) := hms
        clear hc hms hm hm3
        go_wp2_with fail
        refine ⟨⟨u / 10, dg :: s, rfl, by go_num, by omega, HNX.out, HBW.out⟩, ?_⟩
        have e1 : (RowKit.intOf (Value.int IntKind.u64 ((u : Int) / 10))).toNat = u / 10 := by simp [RowKit.intOf]; omega
        have e2 : (RowKit.intOf (Value.int IntKind.u64 (u : Int))).toNat = u := by simp [RowKit.intOf]
        rw [e1, e2]; exact HMS.out
      · have gu : ¬ (0 : Int) < (u : Int) := by omega
        have hs0 : s = [] := by
          rcases hc with h | h
          · omega
          · exact h
        have ge : (txt s).toList.isEmpty = true := by rw [empty_txt]; simp [hs0]
        have hms : 2 * (u / 10) + mS (.string (txt (dg :: s))) < 2 * u + mS (.string (txt s)) := by rw [hm, hm3, hs0]; simp; omega
        have HMS : Hid (2 * (u / 10) + mS (.string (txt (dg :: s))) < 2 * u + mS (.string (txt s))) := hms
        clear hc hs0 hms hm hm3
        go_wp2_with fail
        refine ⟨⟨u / 10, dg :: s, rfl, by go_num, by omega, HNX.out, HBW.out⟩, ?_⟩
        have e1 : (RowKit.intOf (Value.int IntKind.u64 ((u : Int) / 10))).toNat = u / 10 := by simp [RowKit.intOf]; omega
        have e2 : (RowKit.intOf (Value.int IntKind.u64 (u : Int))).toNat = u := by simp [RowKit.intOf]
        rw [e1, e2]; exact HMS.out
    · have hu0 : u = 0 := by omega
      have hs0 : s ≠ [] := fun e => hc (.inr e)
      have HD : Hid (s = D) := dc_end hI.out hu0 hs0
      subst hu0
      have ge : (txt s).toList.isEmpty = false := by rw [empty_txt]; simp [hs0]
      have hA : ∀ W : World, (Op.stringOp .add ⟨#[45]⟩ (txt s)).run Tryd.prog W = .ok (.string (txt [45] ++ txt s)) W := add_ok (txt [45]) (txt s) (by rw [txt_size, txt_size]; simp; omega)
      clear hc hI hs0
      go_wp2_with fail
      go_ret
      exact ⟨by rw [← HD.out] <;> rfl, hbw⟩
theorem refDec_any (n : Int) (hn : num64 n) (w : World) :
    Calls Tryd.prog 121 #[.int .i64 n] w fun e w' => e = .returned (.string (txt (itoa n))) ∧ Below w.heap.size w w' := by
  obtain ⟨h0, h1⟩ := hn
  by_cases hneg : n < 0
  · obtain ⟨u, rfl⟩ : ∃ u : Nat, n = -(u : Int) := ⟨n.natAbs, by omega⟩
    have e : txt (itoa (-(u : Int))) = txt [45] ++ txt (decDigits u) := by
      unfold itoa
      have : (-(u : Int)).natAbs = u := by omega
      rw [if_pos hneg, ← txt_append, this]; rfl
    rw [e]
    exact refDec_neg u (by omega) (by omega) w
  · obtain ⟨u, rfl⟩ : ∃ u : Nat, n = (u : Int) := ⟨n.toNat, by omega⟩
    have e : txt (itoa (u : Int)) = txt (decDigits u) := by
      unfold itoa
      rw [if_neg hneg, Int.toNat_natCast]
    rw [e]
    exact refDec_pos u (by omega) (by omega) w

set_option maxRecDepth 20000 in
set_option maxHeartbeats 1000000 in
theorem refLeaf_any (x : Nd) (ka : Option Addr) (kn kc : Nat) (w : World) (hn : num64 x.n) (hs : x.name.size ≤ 64) :
    Calls Tryd.prog 83 #[.agg #[.int .i64 x.op, .int .i64 x.n, .string x.name, .slice ka kn kc] ] w fun e w' => e = .returned (.string (leafT x)) ∧ Below w.heap.size w w' := by
  obtain ⟨op, n, nm, ks⟩ := x
  simp only at hn hs
  have HW : Hid (Below w.heap.size w (w.alloc (.cells #[.int .i64 op, .int .i64 n, .string nm, .slice ka kn kc] 60))) := (Below.refl _ _).alloc (Nat.le_refl _) _
  by_cases h1 : op = 1
  · have HR : Hid (leafT ⟨op, n, nm, ks⟩ = txt (itoa n)) := by show _ = _; unfold leafT; rw [if_pos h1]
    have g1 : (op == 1) = true := by rw [beq_iff_eq]; exact h1
    have cD : Hid (∀ W, Calls Tryd.prog 121 #[.int .i64 n] W fun e w' => e = .returned (.string (txt (itoa n))) ∧ Below W.heap.size W w') := fun W => refDec_any n hn W
    generalize leafT ⟨op, n, nm, ks⟩ = R at *
    generalize txt (itoa n) = D at *
    clear h1 hn
    go_enter Tryd.func83, Tryd.ntmps83
    go_wp2_with (go_at_call 121; refine (cD.out _).mono ?_; rintro e w2 ⟨rfl, hb2⟩)
    go_ret
    exact ⟨by rw [HR.out] <;> rfl, HW.out.trans (hb2.mono HW.out.size)⟩
  · have g1 : (op == 1) = false := by rw [beq_eq_false_iff_ne]; exact h1
    by_cases h18 : op = 18
    · have HR : Hid (leafT ⟨op, n, nm, ks⟩ = txt [64] ++ nm) := by show _ = _; unfold leafT; rw [if_neg h1, if_pos h18]
      have g18 : (op == 18) = true := by rw [beq_iff_eq]; exact h18
      have hA : ∀ W : World, (Op.stringOp .add ⟨#[64]⟩ nm).run Tryd.prog W = .ok (.string (txt [64] ++ nm)) W := add_ok (txt [64]) nm (by rw [txt_size]; simp; omega)
      generalize leafT ⟨op, n, nm, ks⟩ = R at *
      clear h1 hn h18
      go_enter Tryd.func83, Tryd.ntmps83
      go_wp2_with fail
      go_ret
      exact ⟨by rw [HR.out] <;> rfl, HW.out⟩
    · have HR : Hid (leafT ⟨op, n, nm, ks⟩ = nm) := by show _ = _; unfold leafT; rw [if_neg h1, if_neg h18]
      have g18 : (op == 18) = false := by rw [beq_eq_false_iff_ne]; exact h18
      generalize leafT ⟨op, n, nm, ks⟩ = R at *
      clear h1 hn h18
      go_enter Tryd.func83, Tryd.ntmps83
      go_wp2_with fail
      go_ret
      exact ⟨by rw [HR.out] <;> rfl, HW.out⟩
end Go.Proofs.YtjmccobblpcbhaaDoor
