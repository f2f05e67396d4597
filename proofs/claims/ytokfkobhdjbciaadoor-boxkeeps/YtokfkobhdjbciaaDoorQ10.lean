/-
  BxSplW, BxAskW, BxAlkW, ExAddP, ExMakW, ExDecPure.
-/
import Derived.Shelf.Unicode.DecodeSlow
import Derived.Laws.RangeAny
import Derived.Shelf.Small.Bits
import Derived.Shelf.Strconv.Itoa0
import Derived.Shelf.Unicode.Decode
import Derived.Shelf.Unicode.DecodeAny
import Derived.Shelf.Slices.CompactS
import Derived.Shelf.Slices.Cells
import Derived.Ground.SlsfProg
import Derived.Shelf.SlSortCmp.Insertion
import Derived.Shelf.SlSortCmp.SiftDown1
import Derived.Shelf.SlSortCmp.HeapSort1
import Derived.Shelf.SlSortCmp.Insertion1
import Derived.Shelf.SlSortCmp.Median1
import Derived.Shelf.SlSortCmp.Pivot1
import Derived.Shelf.SlSortCmp.ReverseRange1
import Derived.Shelf.SlSortCmp.PartialInsertion1
import Derived.Shelf.SlSortCmp.PartitionEqual1
import Derived.Shelf.SlSortCmp.Partition1
import Derived.Shelf.SlSortCmp.Pdq1
import Derived.Shelf.SlSortCmp.Whole1
import Derived.Test.YtokfkobhdjbciaaDoorProg
import Derived.WalkKit
import Derived.Deep.DeepFit
import Derived.Lib.OthersKept
import Derived.Lib.RuneCountTail
import Derived.Deep.AppendLies
import Derived.Deep.OwnRows
import Derived.Laws.AppendOwnNone
import Derived.Deep.QuietTactic
import Derived.BigQuiet
import Derived.Deep.RegionWith
import Derived.Laws.DeepStrings4
import Derived.Test.YtokfkobhdjbciaaDoorChecked
import Derived.Below
import Derived.Defers
import Derived.Test.YtokfkobhdjbciaaDoorQ01
import Derived.Test.YtokfkobhdjbciaaDoorQ02
import Derived.Test.YtokfkobhdjbciaaDoorQ03
import Derived.Test.YtokfkobhdjbciaaDoorQ04
import Derived.Test.YtokfkobhdjbciaaDoorQ05
import Derived.Test.YtokfkobhdjbciaaDoorQ06
import Derived.Test.YtokfkobhdjbciaaDoorQ07
import Derived.Test.YtokfkobhdjbciaaDoorQ09
set_option linter.unusedSimpArgs false
set_option linter.unusedVariables false
namespace Go.Proofs.YtokfkobhdjbciaaDoor
open Go.RowKit

def opT : Tm → Int
  | .lit _ => 1
  | .var _ => 2
  | .un op _ => op
  | .bin op _ _ => op
  | .ifs _ _ _ => 17
  | _ => 0
def nT : Tm → Int
  | .lit n => n
  | _ => 0
def nameT : Tm → ByteArray
  | .var s => s
  | _ => ⟨#[]⟩
def partsT : Tm → List Tm
  | .un _ a => [a]
  | .bin _ a b => [a, b]
  | .ifs c a b => [c, a, b]
  | _ => []
/-- Of another type than api's five, if it is no kind. -/
def Oth : Tm → Prop
  | .other u _ => u ≠ 54 ∧ u ≠ 83 ∧ u ≠ 88 ∧ u ≠ 90 ∧ u ≠ 92
  | _ => True
def pvT (g : Nat) (t : Tm) : Value := if (partsT t).length = 0 then .slice none 0 0 else .slice (some ⟨g, 0, none⟩) (partsT t).length (partsT t).length
def PartsAt (w : World) (g : Nat) (t : Tm) : Prop := partsT t = [] ∨ w.heap[g]? = some (.cells ((partsT t).map tv).toArray 45 (0, 0))

theorem tv_one (t : Tm) : (tv t).oneCell' = true := by cases t <;> rfl
theorem tv_cells (t : Tm) : (tv t).cells = #[tv t] := by cases t <;> rfl
theorem st_one {v : Value} (h : v.oneCell' = true) : ∀ (P : Program) (w : World) (a : Addr) (m : Mode), (store a v m).run P w = stored P w a v m := fun P w a m => run_store P w a v m h
theorem heap_alloc_at (w : World) (o : Obj) (k : Nat) (h : k = w.heap.size) : (w.alloc o).heap[k]? = some o := by
  subst h
  show (w.heap.push o)[w.heap.size]? = some o
  simp
theorem tv_form (t : Tm) : tv t = .nilIface ∨ ∃ u x, tv t = .iface u x := by
  cases t <;> simp [tv]

def Ifc (v : Value) : Prop := v = .nilIface ∨ ∃ u x, v = .iface u x
theorem bs1 {a : Value} (ha : Ifc a) (w : World) : (Instr.buildSlice 39 1 #[(0, a)]).run Tryd.prog w = .ok (.slice (some ⟨w.heap.size, 0, none⟩) 1 1) (w.alloc (.cells #[a] 45)) := by
  rcases ha with rfl | ⟨u, x, rfl⟩ <;> kernel_rfl
theorem bs2 {a b : Value} (ha : Ifc a) (hb : Ifc b) (w : World) : (Instr.buildSlice 39 2 #[(0, a), (1, b)]).run Tryd.prog w = .ok (.slice (some ⟨w.heap.size, 0, none⟩) 2 2) (w.alloc (.cells #[a, b] 45)) := by
  rcases ha with rfl | ⟨u, x, rfl⟩ <;> rcases hb with rfl | ⟨u', x', rfl⟩ <;> kernel_rfl
theorem bs3 {a b c : Value} (ha : Ifc a) (hb : Ifc b) (hc : Ifc c) (w : World) : (Instr.buildSlice 39 3 #[(0, a), (1, b), (2, c)]).run Tryd.prog w = .ok (.slice (some ⟨w.heap.size, 0, none⟩) 3 3) (w.alloc (.cells #[a, b, c] 45)) := by
  rcases ha with rfl | ⟨u, x, rfl⟩ <;> rcases hb with rfl | ⟨u', x', rfl⟩ <;> rcases hc with rfl | ⟨u'', x'', rfl⟩ <;> kernel_rfl

theorem PartsAt.below {w w' : World} {g : Nat} {t : Tm} (h : PartsAt w g t) (hb : Below w.heap.size w w') : PartsAt w' g t := by
  rcases h with h | h
  · exact .inl h
  · exact .inr ((hb.block _ (lt_of_block h)).trans h)

def SplPost (w : World) (t : Tm) (e : Ending) (w' : World) : Prop :=
  ∃ g, e = .returned (.tuple #[.agg #[.int .i64 (opT t), .int .i64 (nT t), .string (nameT t), .slice none 0 0], pvT g t]) ∧ w.heap.size ≤ g ∧ PartsAt w' g t ∧ Below w.heap.size w w'

set_option maxRecDepth 20000 in
set_option maxHeartbeats 1000000 in
theorem split_lit (n : Int) (w : World) : Calls Tryd.prog 52 #[tv (.lit n)] w fun e w' => SplPost w (.lit n) e w' := by
  unfold tv
  have h0 := taLit
  go_enter Tryd.func52, Tryd.ntmps52
  go_wp2
  refine bodyPost_ret (v := .tuple #[.agg #[.int .i64 1, .int .i64 n, .string ⟨#[]⟩, .slice none 0 0], .slice none 0 0]) (by simp [results, Tryd.results52, go_sem]) rfl ⟨w.heap.size, rfl, by omega, ?_, ?_⟩
  · exact .inl rfl
  · repeat (first | exact Below.refl _ _ | refine Below.alloc ?_ (by simp <;> omega) _ | refine Below.drew ?_ | refine Below.setCell ?_ (by simp <;> omega) _)

set_option maxRecDepth 20000 in
set_option maxHeartbeats 1000000 in
theorem split_var (s : ByteArray) (w : World) : Calls Tryd.prog 52 #[tv (.var s)] w fun e w' => SplPost w (.var s) e w' := by
  unfold tv
  have h0 := taLit
  have h1 := taVar
  go_enter Tryd.func52, Tryd.ntmps52
  go_wp2
  refine bodyPost_ret (v := .tuple #[.agg #[.int .i64 2, .int .i64 0, .string s, .slice none 0 0], .slice none 0 0]) (by simp [results, Tryd.results52, go_sem]) rfl ⟨w.heap.size, rfl, by omega, ?_, ?_⟩
  · exact .inl rfl
  · repeat (first | exact Below.refl _ _ | refine Below.alloc ?_ (by simp <;> omega) _ | refine Below.drew ?_ | refine Below.setCell ?_ (by simp <;> omega) _)

set_option maxRecDepth 20000 in
set_option maxHeartbeats 1000000 in
theorem split_un (op : Int) (a : Tm) (w : World) : Calls Tryd.prog 52 #[tv (.un op a)] w fun e w' => SplPost w (.un op a) e w' := by
  unfold tv
  have h0 := taLit
  have h1 := taVar
  have h2 := taUn
  have hbs := bs1 (tv_form a)
  have sa := st_one (tv_one a)
  have ca := tv_cells a
  unfold Value.cells at ca
  generalize hva : tv a = va at *
  have HVa : Hid (tv a = va) := hva
  clear hva
  go_enter Tryd.func52, Tryd.ntmps52
  go_wp2
  go_region
  all_goals go_wp2
  all_goals
    refine bodyPost_ret (v := .tuple #[.agg #[.int .i64 op, .int .i64 0, .string ⟨#[]⟩, .slice none 0 0], .slice (some ⟨w.heap.size + 1 + 1, 0, none⟩) 1 1]) (by simp [results, Tryd.results52, go_sem]) rfl ⟨w.heap.size + 1 + 1, rfl, by omega, ?_, ?_⟩
    · exact .inr ((heap_alloc_at _ _ _ (by simp)).trans (by simp [partsT, HVa.out]))
    · repeat (first | exact Below.refl _ _ | refine Below.alloc ?_ (by simp <;> omega) _ | refine Below.drew ?_ | refine Below.setCell ?_ (by simp <;> omega) _)

set_option maxRecDepth 20000 in
set_option maxHeartbeats 1000000 in
theorem split_bin (op : Int) (a b : Tm) (w : World) : Calls Tryd.prog 52 #[tv (.bin op a b)] w fun e w' => SplPost w (.bin op a b) e w' := by
  unfold tv
  have h0 := taLit
  have h1 := taVar
  have h2 := taUn
  have h3 := taBin
  have hbs := bs2 (tv_form a) (tv_form b)
  have sa := st_one (tv_one a)
  have ca := tv_cells a
  unfold Value.cells at ca
  generalize hva : tv a = va at *
  have HVa : Hid (tv a = va) := hva
  clear hva
  have sb := st_one (tv_one b)
  have cb := tv_cells b
  unfold Value.cells at cb
  generalize hvb : tv b = vb at *
  have HVb : Hid (tv b = vb) := hvb
  clear hvb
  go_enter Tryd.func52, Tryd.ntmps52
  go_wp2
  go_region
  all_goals go_wp2
  all_goals
    refine bodyPost_ret (v := .tuple #[.agg #[.int .i64 op, .int .i64 0, .string ⟨#[]⟩, .slice none 0 0], .slice (some ⟨w.heap.size + 1 + 1, 0, none⟩) 2 2]) (by simp [results, Tryd.results52, go_sem]) rfl ⟨w.heap.size + 1 + 1, rfl, by omega, ?_, ?_⟩
    · exact .inr ((heap_alloc_at _ _ _ (by simp)).trans (by simp [partsT, HVa.out, HVb.out]))
    · repeat (first | exact Below.refl _ _ | refine Below.alloc ?_ (by simp <;> omega) _ | refine Below.drew ?_ | refine Below.setCell ?_ (by simp <;> omega) _)

set_option maxRecDepth 20000 in
set_option maxHeartbeats 1000000 in
theorem split_ifs (c a b : Tm) (w : World) : Calls Tryd.prog 52 #[tv (.ifs c a b)] w fun e w' => SplPost w (.ifs c a b) e w' := by
  unfold tv
  have h0 := taLit
  have h1 := taVar
  have h2 := taUn
  have h3 := taBin
  have h4 := taIf
  have hbs := bs3 (tv_form c) (tv_form a) (tv_form b)
  have sc := st_one (tv_one c)
  have cc := tv_cells c
  unfold Value.cells at cc
  generalize hvc : tv c = vc at *
  have HVc : Hid (tv c = vc) := hvc
  clear hvc
  have sa := st_one (tv_one a)
  have ca := tv_cells a
  unfold Value.cells at ca
  generalize hva : tv a = va at *
  have HVa : Hid (tv a = va) := hva
  clear hva
  have sb := st_one (tv_one b)
  have cb := tv_cells b
  unfold Value.cells at cb
  generalize hvb : tv b = vb at *
  have HVb : Hid (tv b = vb) := hvb
  clear hvb
  go_enter Tryd.func52, Tryd.ntmps52
  go_wp2
  go_region
  all_goals go_wp2
  all_goals
    refine bodyPost_ret (v := .tuple #[.agg #[.int .i64 17, .int .i64 0, .string ⟨#[]⟩, .slice none 0 0], .slice (some ⟨w.heap.size + 1 + 1, 0, none⟩) 3 3]) (by simp [results, Tryd.results52, go_sem]) rfl ⟨w.heap.size + 1 + 1, rfl, by omega, ?_, ?_⟩
    · exact .inr ((heap_alloc_at _ _ _ (by simp)).trans (by simp [partsT, HVc.out, HVa.out, HVb.out]))
    · repeat (first | exact Below.refl _ _ | refine Below.alloc ?_ (by simp <;> omega) _ | refine Below.drew ?_ | refine Below.setCell ?_ (by simp <;> omega) _)

set_option maxRecDepth 20000 in
set_option maxHeartbeats 1000000 in
theorem split_nil (w : World) : Calls Tryd.prog 52 #[tv (.nil)] w fun e w' => SplPost w (.nil) e w' := by
  unfold tv
  have h0 := tnLit
  have h1 := tnVar
  have h2 := tnUn
  have h3 := tnBin
  have h4 := tnIf
  go_enter Tryd.func52, Tryd.ntmps52
  go_wp2
  refine bodyPost_ret (v := .tuple #[.agg #[.int .i64 0, .int .i64 0, .string ⟨#[]⟩, .slice none 0 0], .slice none 0 0]) (by simp [results, Tryd.results52, go_sem]) rfl ⟨w.heap.size, rfl, by omega, ?_, ?_⟩
  · exact .inl rfl
  · repeat (first | exact Below.refl _ _ | refine Below.alloc ?_ (by simp <;> omega) _ | refine Below.drew ?_ | refine Below.setCell ?_ (by simp <;> omega) _)

set_option maxRecDepth 20000 in
set_option maxHeartbeats 1000000 in
theorem split_other (u : TypeId) (x : Value) (hO : Oth (.other u x)) (w : World) : Calls Tryd.prog 52 #[tv (.other u x)] w fun e w' => SplPost w (.other u x) e w' := by
  unfold tv
  obtain ⟨o0, o1, o2, o3, o4⟩ := hO
  have h0 := taLit
  have h1 := taVar
  have h2 := taUn
  have h3 := taBin
  have h4 := taIf
  go_enter Tryd.func52, Tryd.ntmps52
  go_wp2
  refine bodyPost_ret (v := .tuple #[.agg #[.int .i64 0, .int .i64 0, .string ⟨#[]⟩, .slice none 0 0], .slice none 0 0]) (by simp [results, Tryd.results52, go_sem]) rfl ⟨w.heap.size, rfl, by omega, ?_, ?_⟩
  · exact .inl rfl
  · repeat (first | exact Below.refl _ _ | refine Below.alloc ?_ (by simp <;> omega) _ | refine Below.drew ?_ | refine Below.setCell ?_ (by simp <;> omega) _)

theorem split_any (t : Tm) (hO : Oth t) (w : World) : Calls Tryd.prog 52 #[tv t] w fun e w' => SplPost w t e w' := by
  cases t with
  | nil => exact split_nil w
  | lit n => exact split_lit n w
  | var s => exact split_var s w
  | un op a => exact split_un op a w
  | bin op a b => exact split_bin op a b w
  | ifs c a b => exact split_ifs c a b w
  | other u x => exact split_other u x hO w
end Go.Proofs.YtokfkobhdjbciaaDoor

set_option linter.unusedSimpArgs false
set_option linter.unusedVariables false
namespace Go.Proofs.YtokfkobhdjbciaaDoor
open Go.RowKit

def isLit : Tm → Bool
  | .lit _ => true
  | _ => false

theorem tv_iface (t : Tm) : tv t = .nilIface ∧ nT t = 0 ∧ isLit t = false ∨ (∃ n, t = .lit n) ∨ ∃ u x, tv t = .iface u x ∧ nT t = 0 ∧ isLit t = false ∧ (Oth t → u ≠ 54) := by
  cases t with
  | nil => exact .inl ⟨rfl, rfl, rfl⟩
  | lit n => exact .inr (.inl ⟨n, rfl⟩)
  | other u x => exact .inr (.inr ⟨u, x, rfl, rfl, rfl, fun h => h.1⟩)
  | var s => exact .inr (.inr ⟨_, _, rfl, rfl, rfl, fun _ => by decide⟩)
  | un op a => exact .inr (.inr ⟨_, _, rfl, rfl, rfl, fun _ => by decide⟩)
  | bin op a b => exact .inr (.inr ⟨_, _, rfl, rfl, rfl, fun _ => by decide⟩)
  | ifs c a b => exact .inr (.inr ⟨_, _, rfl, rfl, rfl, fun _ => by decide⟩)

set_option maxRecDepth 20000 in
set_option maxHeartbeats 400000 in
theorem asLit_any (t : Tm) (hO : Oth t) (w : World) : Calls Tryd.prog 70 #[tv t] w fun e w' => e = .returned (.tuple #[.agg #[.int .i64 (nT t)], .bool (isLit t)]) ∧ Below w.heap.size w w' := by
  rcases tv_iface t with ⟨h, h2, h3⟩ | ⟨n, rfl⟩ | ⟨u, x, h, h2, h3, h4⟩
  · rw [h, h2, h3]
    clear h h2 h3
    have h1 := tnLit
    go_enter Tryd.func70, Tryd.ntmps70
    go_wp2
    refine bodyPost_ret (v := .tuple #[.agg #[.int .i64 0], .bool false]) (by simp [results, Tryd.results70, go_sem]) rfl ⟨rfl, ?_⟩
    repeat (first | exact Below.refl _ _ | refine Below.alloc ?_ (by simp <;> omega) _ | refine Below.drew ?_ | refine Below.setCell ?_ (by simp <;> omega) _)
  · unfold tv nT isLit
    have h1 := taLit
    go_enter Tryd.func70, Tryd.ntmps70
    go_wp2
    refine bodyPost_ret (v := .tuple #[.agg #[.int .i64 n], .bool true]) (by simp [results, Tryd.results70, go_sem]) rfl ⟨rfl, ?_⟩
    repeat (first | exact Below.refl _ _ | refine Below.alloc ?_ (by simp <;> omega) _ | refine Below.drew ?_ | refine Below.setCell ?_ (by simp <;> omega) _)
  · have h5 := h4 hO
    rw [h, h2, h3]
    clear h h2 h3 h4 hO
    have h1 := taLit
    go_enter Tryd.func70, Tryd.ntmps70
    go_wp2
    refine bodyPost_ret (v := .tuple #[.agg #[.int .i64 0], .bool false]) (by simp [results, Tryd.results70, go_sem]) rfl ⟨rfl, ?_⟩
    repeat (first | exact Below.refl _ _ | refine Below.alloc ?_ (by simp <;> omega) _ | refine Below.drew ?_ | refine Below.setCell ?_ (by simp <;> omega) _)

set_option maxRecDepth 20000 in
set_option maxHeartbeats 400000 in
theorem lit_any (t : Tm) (hO : Oth t) (w : World) : Calls Tryd.prog 45 #[tv t] w fun e w' => e = .returned (.tuple #[.int .i64 (nT t), .bool (isLit t)]) ∧ Below w.heap.size w w' := by
  have cA := asLit_any t hO
  have HA : Hid (∀ w, Calls Tryd.prog 70 #[tv t] w fun e w' => e = .returned (.tuple #[.agg #[.int .i64 (nT t)], .bool (isLit t)]) ∧ Below w.heap.size w w') := cA
  clear cA
  generalize tv t = v at *
  generalize nT t = n at *
  generalize isLit t = b at *
  go_enter Tryd.func45, Tryd.ntmps45
  go_wp2_with fail
  refine (HA.out _).mono ?_
  rintro e w2 ⟨rfl, hb2⟩
  go_wp2_with fail
  go_ret2
  exact ⟨rfl, hb2.alloc hb2.size _⟩

set_option maxRecDepth 20000 in
set_option maxHeartbeats 400000 in
theorem bxop_any (t : Tm) (hO : Oth t) (w : World) : Calls Tryd.prog 46 #[tv t] w fun e w' => e = .returned (.int .i64 (opT t)) ∧ Below w.heap.size w w' := by
  have HS : Hid (∀ w, Calls Tryd.prog 52 #[tv t] w fun e w' => ∃ ao n c, e = .returned (.tuple #[.agg #[.int .i64 (opT t), .int .i64 (nT t), .string (nameT t), .slice none 0 0], .slice ao n c]) ∧ Below w.heap.size w w') := fun w => by
    refine (split_any t hO w).mono ?_
    rintro e w' ⟨g, rfl, h1, h2, h3⟩
    unfold pvT
    split
    · exact ⟨_, _, _, rfl, h3⟩
    · exact ⟨_, _, _, rfl, h3⟩
  generalize tv t = v at *
  generalize nT t = n at *
  generalize opT t = op at *
  generalize nameT t = nm at *
  go_enter Tryd.func46, Tryd.ntmps46
  go_wp2_with fail
  refine (HS.out _).mono ?_
  rintro e w2 ⟨ao, k, c, rfl, hb2⟩
  go_wp2_with fail
  go_ret
  exact ⟨rfl, hb2.alloc hb2.size _⟩

set_option maxRecDepth 20000 in
set_option maxHeartbeats 400000 in
theorem awk3_any (w : World) : Calls Tryd.prog 20 #[] w fun e w' => e = .returned (.bool true) ∧ Below w.heap.size w w' := by
  have cL : Hid (∀ w, Calls Tryd.prog 45 #[.iface 54 (.agg #[.int .i64 5])] w fun e w' => e = .returned (.tuple #[.int .i64 5, .bool true]) ∧ Below w.heap.size w w') := fun w => lit_any (.lit 5) trivial w
  have cO : Hid (∀ w, Calls Tryd.prog 46 #[.iface 83 (.agg #[.string ⟨#[97]⟩])] w fun e w' => e = .returned (.int .i64 2) ∧ Below w.heap.size w w') := fun w => bxop_any (.var ⟨#[97]⟩) trivial w
  go_enter Tryd.func20, Tryd.ntmps20
  go_wp2_with fail
  refine (cL.out _).mono ?_
  rintro e w2 ⟨rfl, hb2⟩
  go_wp2_with fail
  refine (cO.out _).mono ?_
  rintro e w3 ⟨rfl, hb3⟩
  go_wp2_with fail
  go_ret
  exact ⟨rfl, hb2.trans (hb3.mono hb2.size)⟩
end Go.Proofs.YtokfkobhdjbciaaDoor

set_option linter.unusedSimpArgs false
set_option linter.unusedVariables false
namespace Go.Proofs.YtokfkobhdjbciaaDoor
open Go.RowKit

/-- No part is nil or of another type. -/
def Five : Tm → Prop
  | .lit _ => True
  | .var _ => True
  | .un _ a => Five a
  | .bin _ a b => Five a ∧ Five b
  | .ifs c a b => Five c ∧ Five a ∧ Five b
  | _ => False

end Go.Proofs.YtokfkobhdjbciaaDoor

set_option linter.unusedSimpArgs false
set_option linter.unusedVariables false
namespace Go.Proofs.YtokfkobhdjbciaaDoor
open Go.RowKit Go.Lib

/-- In the middle of it. -/
structure AddMid (w : World) (base : Nat) (v : Value) (p : List (Nd × Value)) (ms : List Nd) (x : Value) (wr : World) : Prop where
  ex : ∃ p', OwnP wr base x (p ++ p') ∧ p'.map (·.1) = ms ∧ (∀ q ∈ p', OwnI wr w.heap.size q.2 q.1.kids) ∧ w.grownBy wr v.ownBlock ∧ (x.ownBlock = v.ownBlock ∨ ∀ g, x.ownBlock = some g → w.heap.size ≤ g) ∧ Below base w wr

theorem AddMid.start {w : World} {base : Nat} {v : Value} {p : List (Nd × Value)} (h : OwnP w base v p) : AddMid w base v p [] v w :=
  ⟨⟨[], by simpa using h, rfl, by simp, World.grownBy.refl _ _, .inl rfl, Below.refl _ _⟩⟩

/-- One node more: its kids are owned (new since wr), the append has gone through. -/
theorem AddMid.snoc {w : World} {base : Nat} {v x : Value} {p p' : List (Nd × Value)} {ms : List Nd} {wr W w1 : World} {y : Nd} {kv : Value} {g n cap : Nat} (hP : OwnP wr base x (p ++ p')) (hm : p'.map (·.1) = ms) (hkid : ∀ q ∈ p', OwnI wr w.heap.size q.2 q.1.kids) (hgr : w.grownBy wr v.ownBlock) (hx : x.ownBlock = v.ownBlock ∨ ∀ g, x.ownBlock = some g → w.heap.size ≤ g) (hB : Below base w wr)
    (hbase : base ≤ w.heap.size) (hBW : Below wr.heap.size wr W) (hk : OwnI W wr.heap.size kv y.kids) (hn : n = (p ++ p').length)
    (hown : w1.ownsRow base 67 4 (.slice (some ⟨g, 0, none⟩) (n + 1) cap) (n + 1) (ndCells (p ++ p') ++ [.int .i64 y.op, .int .i64 y.n, .string y.name, kv])) (hg : W.grownBy w1 x.ownBlock) (hat : x.ownBlock = some g ∨ g = W.heap.size) :
    AddMid w base v p (ms ++ [y]) (.slice (some ⟨g, 0, none⟩) (n + 1) cap) w1 := by
  have hsz : w.heap.size ≤ wr.heap.size := hgr.size
  have hPW := hP.below hBW
  have hkb : OwnI W base kv y.kids := ownsRow_mono hk (by omega)
  refine ⟨⟨p' ++ [(y, kv)], ?_, by simp [hm], fun q hq => ?_, ?_, ?_, ?_⟩⟩
  · rw [← List.append_assoc]
    subst hn
    exact hPW.snoc hkb hown hg
  · rcases List.mem_append.1 hq with hq | hq
    · have h1 := (hkid q hq).below hBW
      exact World.ownsRow.kept h1 hg (ownBlock_ne h1 hPW.row (by decide))
    · simp at hq; subst hq
      exact ownsRow_mono (World.ownsRow.kept hk hg (ownBlock_ne hk hPW.row (by decide))) hsz
  · refine ⟨hg.os.trans (hBW.os.trans hgr.os), hg.tape.trans (hBW.tape.trans hgr.tape), hg.output.trans (hBW.output.trans hgr.output), Nat.le_trans hsz (Nat.le_trans hBW.size hg.size), fun k hk1 hk2 => ?_⟩
    rw [hg.block k (by have := hBW.size; omega) (fun he => by
      rcases hx with hx | hx
      · rw [hx] at he; exact hk2 he
      · have := hx k he.symm; omega), hBW.block k (by omega), hgr.block k hk1 hk2]
  · rcases hat with hat | hat
    · rcases hx with hx | hx
      · left; show some g = v.ownBlock; rw [← hx, hat]
      · right; intro g' hg'; have e : g = g' := Option.some.inj hg'; have := hx g hat; omega
    · right; intro g' hg'; have e : g = g' := Option.some.inj hg'; have := hBW.size; omega
  · exact (hB.trans (hBW.mono (by omega))).grown hg (by have := hBW.size; omega) (fun k hk => (hPW.row.lt k hk).1)

end Go.Proofs.YtokfkobhdjbciaaDoor

namespace Go.Proofs.YtokfkobhdjbciaaDoor
open Go.RowKit Go.Lib

/-- The slice v reads as the lists ps, in blocks below B. -/
def Lst (w : World) (B : Nat) (v : Value) (ps : List (List Nd)) : Prop :=
  ∃ ao cap, v = .slice ao ps.length cap ∧ ps.length ≤ cap ∧ cap ≤ maxLen ∧ (ps = [] ∨ ∃ b o, ao = some ⟨b, o, none⟩ ∧ b < B ∧ ∀ i, i < ps.length → ∃ pv, w.cell? ⟨b, o + i, none⟩ = some pv ∧ Nodes w B pv (ps.getD i []))

theorem Lst.below {w w' : World} {B B' : Nat} {v : Value} {ps : List (List Nd)} (h : Lst w B v ps) (hb : Below B w w') (hB : B ≤ B') : Lst w' B' v ps := by
  obtain ⟨ao, cap, rfl, h1, h2, h3⟩ := h
  refine ⟨ao, cap, rfl, h1, h2, ?_⟩
  rcases h3 with h3 | ⟨b, o, rfl, hlt, hc⟩
  · exact .inl h3
  · exact .inr ⟨b, o, rfl, by omega, fun i hi => let ⟨pv, h4, h5⟩ := hc i hi; ⟨pv, (hb.cell (p := ⟨b, o + i, none⟩) hlt).trans h4, h5.below hb hB⟩⟩

theorem OwnP.kept {w w' : World} {base base' : Nat} {v v2 : Value} {p : List (Nd × Value)} {e : TypeId} {s n : Nat} {xs : List Value} (h : OwnP w base v p) (hg : w.grownBy w' v2.ownBlock) (hr : w.ownsRow base' e s v2 n xs) (h1 : 67 ≠ e) (h2 : 3 ≠ e) : OwnP w' base v p :=
  ⟨World.ownsRow.kept h.row hg (ownBlock_ne h.row hr h1), fun q hq => World.ownsRow.kept (h.kids q hq) hg (ownBlock_ne (h.kids q hq) hr h2)⟩
theorem OwnN.kept {w w' : World} {base base' : Nat} {v v2 : Value} {l : List Nd} {e : TypeId} {s n : Nat} {xs : List Value} (h : OwnN w base v l) (hg : w.grownBy w' v2.ownBlock) (hr : w.ownsRow base' e s v2 n xs) (h1 : 67 ≠ e) (h2 : 3 ≠ e) : OwnN w' base v l :=
  let ⟨p, h3, h4⟩ := h; ⟨p, h3, h4.kept hg hr h1 h2⟩

/-- Lists of lists of the call's own; pvs: the slices. -/
structure OwnLs (w : World) (base : Nat) (v : Value) (ps : List (List Nd)) (pvs : List Value) : Prop where
  len : pvs.length = ps.length
  row : w.ownsRow base 22 1 v ps.length pvs
  each : ∀ i, i < ps.length → OwnN w base (pvs.getD i (.slice none 0 0)) (ps.getD i [])

theorem OwnLs.snoc {w w1 : World} {base : Nat} {v v' : Value} {ps : List (List Nd)} {pvs : List Value} {l : List Nd} {pv : Value} (h : OwnLs w base v ps pvs) (hl : OwnN w base pv l)
    (hown : w1.ownsRow base 22 1 v' (ps.length + 1) (pvs ++ [pv])) (hg : w.grownBy w1 v.ownBlock) : OwnLs w1 base v' (ps ++ [l]) (pvs ++ [pv]) := by
  have hlen := h.len
  refine ⟨by simp [hlen], by simpa using hown, fun i hi => ?_⟩
  by_cases hlt : i < ps.length
  · have e1 : (pvs ++ [pv]).getD i (.slice none 0 0) = pvs.getD i (.slice none 0 0) := by simp only [List.getD_eq_getElem?_getD]; rw [List.getElem?_append_left (by omega)]
    have e2 : (ps ++ [l]).getD i [] = ps.getD i [] := by simp only [List.getD_eq_getElem?_getD]; rw [List.getElem?_append_left (by omega)]
    rw [e1, e2]
    exact (h.each i hlt).kept hg h.row (by decide) (by decide)
  · have he : i = ps.length := by simp at hi; omega
    have e1 : (pvs ++ [pv]).getD i (.slice none 0 0) = pv := by rw [he, ← hlen]; simp
    have e2 : (ps ++ [l]).getD i [] = l := by rw [he]; simp
    rw [e1, e2]
    exact hl.kept hg h.row (by decide) (by decide)

theorem OwnLs.below {w w' : World} {base : Nat} {v : Value} {ps : List (List Nd)} {pvs : List Value} (h : OwnLs w base v ps pvs) (hb : Below w.heap.size w w') : OwnLs w' base v ps pvs :=
  ⟨h.len, ownsRow_below h.row hb, fun i hi => (h.each i hi).below hb⟩

end Go.Proofs.YtokfkobhdjbciaaDoor

set_option linter.unusedSimpArgs false
set_option linter.unusedVariables false
namespace Go.Proofs.YtokfkobhdjbciaaDoor
open Go.RowKit Go.Lib

/-- Parts behind one another, and the places of their own nodes. -/
def accS (ps : List (List Nd)) : List Nd × List Int := ps.foldl (fun s p => (s.1 ++ p.map (mvN 0 s.1.length), s.2 ++ [((s.1.length + p.length : Nat) : Int) - 1])) ([], [])
theorem accS_snoc (ps : List (List Nd)) (p : List Nd) : accS (ps ++ [p]) = ((accS ps).1 ++ p.map (mvN 0 (accS ps).1.length), (accS ps).2 ++ [(((accS ps).1.length + p.length : Nat) : Int) - 1]) := by
  unfold accS; rw [List.foldl_append]; rfl
theorem accS_nil : accS [] = ([], []) := rfl
theorem accS_len2 (ps : List (List Nd)) : (accS ps).2.length = ps.length := by
  have key : ∀ (qs rs : List (List Nd)), (accS rs).2.length = rs.length → (accS (rs ++ qs)).2.length = (rs ++ qs).length := by
    intro qs
    induction qs with
    | nil => intro rs h; simpa using h
    | cons q qs ih =>
      intro rs h
      have e : rs ++ q :: qs = (rs ++ [q]) ++ qs := by simp
      rw [e]
      exact ih (rs ++ [q]) (by rw [accS_snoc]; simp [h])
  simpa using key ps [] rfl

def joinL (op n : Int) (nm : ByteArray) (ps : List (List Nd)) : List Nd := (accS ps).1 ++ [⟨op, n, nm, (accS ps).2⟩]

theorem OwnP_nil (w : World) (base : Nat) : OwnP w base (.slice none 0 0) [] := ⟨World.ownsRow_nil _ _ _ _, by simp⟩

theorem OwnP.form {w : World} {base : Nat} {v : Value} {p : List (Nd × Value)} (h : OwnP w base v p) : ∃ ao cap, v = .slice ao p.length cap := by
  obtain ⟨_, h2⟩ := h.row
  rcases h2 with ⟨rfl, h0⟩ | ⟨g, cap, cur, rfl, _⟩
  · exact ⟨none, 0, by rw [h0]⟩
  · exact ⟨_, cap, rfl⟩
end Go.Proofs.YtokfkobhdjbciaaDoor

set_option linter.unusedSimpArgs false
set_option linter.unusedVariables false
namespace Go.Proofs.YtokfkobhdjbciaaDoor

/-- The part whose own node stands at a kid's place. -/
def kidPart (l : List Nd) (fr : List Nat) (k : Int) : List Nd := partL l (fr.getD k.toNat 0) k.toNat


theorem cut_split (l : List Nd) (a b c : Nat) (hab : a ≤ b) (hbc : b ≤ c) : (l.drop a).take (c - a) = (l.drop a).take (b - a) ++ (l.drop b).take (c - b) := by
  have e : c - a = (b - a) + (c - b) := by omega
  rw [e, List.take_add, List.drop_drop]
  have e2 : a + (b - a) = b := by omega
  rw [e2]

theorem acc_parts {l : List Nd} {fr : List Nat} (h : BegOk l fr) : ∀ (r : List Int) (c c0 : Nat), c ≤ l.length → chainL fr r c = some c0 →
    accS ((r.reverse).map (kidPart l fr)) = (((l.drop c0).take (c - c0)).map (mvN 0 (-(c0 : Int))), r.reverse.map (· - (c0 : Int))) := by
  intro r
  induction r with
  | nil =>
    intro c c0 _ hc
    simp only [chainL, Option.some.injEq] at hc
    subst hc
    simp [accS]
  | cons k r ih =>
    intro c c0 hcl hc
    simp only [chainL] at hc
    split at hc
    · cases hc
    · rename_i hn
      have hlo := h.low (c - 1)
      have hle := chainL_le h.low _ _ _ hc
      have hi := ih _ c0 (by omega) hc
      have hk : k = ((c - 1 : Nat) : Int) := by omega
      have hkt : k.toNat = c - 1 := by omega
      rw [List.reverse_cons, List.map_append, List.map_cons, List.map_nil, accS_snoc, hi]
      have hins := kids_inside h (c - 1) (by omega)
      have hplen := partL_len l (fr.getD (c - 1) 0) (c - 1) (by omega) hlo
      have hkp : kidPart l fr k = partL l (fr.getD (c - 1) 0) (c - 1) := by unfold kidPart; rw [hkt]
      rw [hkp]
      generalize hb : fr.getD (c - 1) 0 = b at *
      have hAl : ((((l.drop c0).take (b - c0)).map (mvN 0 (-(c0 : Int)))).length) = b - c0 := by simp; omega
      have hpart : (partL l b (c - 1)).map (mvN 0 ((b - c0 : Nat) : Int)) = ((l.drop b).take (c - b)).map (mvN 0 (-(c0 : Int))) := by
        unfold partL
        have e : c - 1 + 1 - b = c - b := by omega
        rw [e, List.map_map]
        apply List.map_congr_left
        intro x hx
        obtain ⟨j, hj, rfl⟩ := List.getElem_of_mem hx
        have hj' : j < c - b := by simp at hj; omega
        have hgx : ((l.drop b).take (c - b))[j] = l.getD (b + j) nd0 := by
          have hlt : b + j < l.length := by omega
          simp [hlt]
        rw [hgx]
        have hin := hins (b + j) (by omega) (by omega)
        show mvN 0 ((b - c0 : Nat) : Int) (mvN 0 (-(b : Int)) (l.getD (b + j) nd0)) = mvN 0 (-(c0 : Int)) (l.getD (b + j) nd0)
        unfold mvN
        simp only [List.map_map, Nd.mk.injEq, true_and]
        apply List.map_congr_left
        intro q hq
        have := hin q hq
        show mvK 0 ((b - c0 : Nat) : Int) (mvK 0 (-(b : Int)) q) = mvK 0 (-(c0 : Int)) q
        have e1 : mvK 0 (-(b : Int)) q = q - b := by unfold mvK; rw [if_pos (by omega)]; omega
        rw [e1]
        unfold mvK
        rw [if_pos (by omega), if_pos (by omega)]
        omega
      rw [hAl, hpart]
      refine Prod.ext ?_ ?_
      · show _ ++ _ = _
        rw [cut_split l c0 b c (by omega) (by omega), List.map_append]
      · show _ ++ _ = (r.reverse ++ [k]).map _
        rw [List.map_append, hplen, hk]
        simp
        omega

/-- The expression at a place is its operator with its parts. -/
theorem part_join {l : List Nd} {fr : List Nat} (h : BegOk l fr) (i : Nat) (hi : i < l.length) :
    partL l (fr.getD i 0) i = joinL (l.getD i nd0).op (l.getD i nd0).n (l.getD i nd0).name ((l.getD i nd0).kids.map (kidPart l fr)) := by
  have hc := (h.at_ i hi).2
  have hlo := h.low i
  have hacc := acc_parts h _ i _ (by omega) hc
  rw [List.reverse_reverse] at hacc
  unfold joinL
  rw [hacc]
  have hk0 := ok_kids h i hi
  generalize fr.getD i 0 = a at *
  unfold partL
  have e : i + 1 - a = (i - a) + 1 := by omega
  have hlt : i - a < (l.drop a).length := by simp; omega
  rw [e, List.take_succ_eq_append_getElem hlt, List.map_append]
  congr 1
  have hg : (l.drop a)[i - a] = l.getD i nd0 := by
    have e2 : a + (i - a) = i := by omega
    simp [e2, hi]
  rw [hg]
  simp only [List.map_cons, List.map_nil, List.cons.injEq, and_true]
  unfold mvN
  simp only [Nd.mk.injEq, true_and]
  apply List.map_congr_left
  intro k hk
  have := hk0 k hk
  unfold mvK
  rw [if_pos this]; omega

end Go.Proofs.YtokfkobhdjbciaaDoor
