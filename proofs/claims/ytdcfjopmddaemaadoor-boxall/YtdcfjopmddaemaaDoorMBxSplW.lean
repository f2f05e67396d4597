/-
  What split, asLit, Lit, Op and Parts answer.
-/
import Derived.Test.YtdcfjopmddaemaaDoorMBxTm
set_option linter.unusedSimpArgs false
set_option linter.unusedVariables false
namespace Go.Proofs.YtdcfjopmddaemaaDoor
open Go.RowKit

def opT : Tm → Int
  | .lit _ => 1
  | .var _ => 2
  | .un op _ => op
  | .bin op _ _ => op
  | .ifs _ _ _ => 17
  | _ => 0
def nT : Tm → Int
  | .lit n => n
  | _ => 0
def nameT : Tm → ByteArray
  | .var s => s
  | _ => ⟨#[]⟩
def partsT : Tm → List Tm
  | .un _ a => [a]
  | .bin _ a b => [a, b]
  | .ifs c a b => [c, a, b]
  | _ => []
/-- Of another type than api's five, if it is no kind. -/
def Oth : Tm → Prop
  | .other u _ => u ≠ 77 ∧ u ≠ 80 ∧ u ≠ 85 ∧ u ≠ 87 ∧ u ≠ 89
  | _ => True
def pvT (g : Nat) (t : Tm) : Value := if (partsT t).length = 0 then .slice none 0 0 else .slice (some ⟨g, 0, none⟩) (partsT t).length (partsT t).length
def PartsAt (w : World) (g : Nat) (t : Tm) : Prop := partsT t = [] ∨ w.heap[g]? = some (.cells ((partsT t).map tv).toArray 45 (0, 0))

theorem tv_one (t : Tm) : (tv t).oneCell' = true := by cases t <;> rfl
theorem tv_cells (t : Tm) : (tv t).cells = #[tv t] := by cases t <;> rfl
theorem st_one {v : Value} (h : v.oneCell' = true) : ∀ (P : Program) (w : World) (a : Addr) (m : Mode), (store a v m).run P w = stored P w a v m := fun P w a m => run_store P w a v m h
theorem heap_alloc_at (w : World) (o : Obj) (k : Nat) (h : k = w.heap.size) : (w.alloc o).heap[k]? = some o := by
  subst h
  show (w.heap.push o)[w.heap.size]? = some o
  simp
theorem tv_form (t : Tm) : tv t = .nilIface ∨ ∃ u x, tv t = .iface u x := by
  cases t <;> simp [tv]

def Ifc (v : Value) : Prop := v = .nilIface ∨ ∃ u x, v = .iface u x
theorem bs1 {a : Value} (ha : Ifc a) (w : World) : (Instr.buildSlice 39 1 #[(0, a)]).run Tryd.prog w = .ok (.slice (some ⟨w.heap.size, 0, none⟩) 1 1) (w.alloc (.cells #[a] 45)) := by
  rcases ha with rfl | ⟨u, x, rfl⟩ <;> kernel_rfl
theorem bs2 {a b : Value} (ha : Ifc a) (hb : Ifc b) (w : World) : (Instr.buildSlice 39 2 #[(0, a), (1, b)]).run Tryd.prog w = .ok (.slice (some ⟨w.heap.size, 0, none⟩) 2 2) (w.alloc (.cells #[a, b] 45)) := by
  rcases ha with rfl | ⟨u, x, rfl⟩ <;> rcases hb with rfl | ⟨u', x', rfl⟩ <;> kernel_rfl
theorem bs3 {a b c : Value} (ha : Ifc a) (hb : Ifc b) (hc : Ifc c) (w : World) : (Instr.buildSlice 39 3 #[(0, a), (1, b), (2, c)]).run Tryd.prog w = .ok (.slice (some ⟨w.heap.size, 0, none⟩) 3 3) (w.alloc (.cells #[a, b, c] 45)) := by
  rcases ha with rfl | ⟨u, x, rfl⟩ <;> rcases hb with rfl | ⟨u', x', rfl⟩ <;> rcases hc with rfl | ⟨u'', x'', rfl⟩ <;> kernel_rfl

theorem PartsAt.below {w w' : World} {g : Nat} {t : Tm} (h : PartsAt w g t) (hb : Below w.heap.size w w') : PartsAt w' g t := by
  rcases h with h | h
  · exact .inl h
  · exact .inr ((hb.block _ (lt_of_block h)).trans h)

def SplPost (w : World) (t : Tm) (e : Ending) (w' : World) : Prop :=
  ∃ g, e = .returned (.tuple #[.agg #[.int .i64 (opT t), .int .i64 (nT t), .string (nameT t), .slice none 0 0], pvT g t]) ∧ w.heap.size ≤ g ∧ PartsAt w' g t ∧ Below w.heap.size w w'

set_option maxRecDepth 20000 in
set_option maxHeartbeats 1000000 in
theorem split_lit (n : Int) (w : World) : Calls Tryd.prog 68 #[tv (.lit n)] w fun e w' => SplPost w (.lit n) e w' := by
  unfold tv
  have h0 := taLit
  go_enter Tryd.func68, Tryd.ntmps68
  go_wp2
  refine bodyPost_ret (v := .tuple #[.agg #[.int .i64 1, .int .i64 n, .string ⟨#[]⟩, .slice none 0 0], .slice none 0 0]) (by simp [results, Tryd.results68, go_sem]) rfl ⟨w.heap.size, rfl, by omega, ?_, ?_⟩
  · exact .inl rfl
  · repeat (first | exact Below.refl _ _ | refine Below.alloc ?_ (by simp <;> omega) _ | refine Below.drew ?_ | refine Below.setCell ?_ (by simp <;> omega) _)

set_option maxRecDepth 20000 in
set_option maxHeartbeats 1000000 in
theorem split_var (s : ByteArray) (w : World) : Calls Tryd.prog 68 #[tv (.var s)] w fun e w' => SplPost w (.var s) e w' := by
  unfold tv
  have h0 := taLit
  have h1 := taVar
  go_enter Tryd.func68, Tryd.ntmps68
  go_wp2
  refine bodyPost_ret (v := .tuple #[.agg #[.int .i64 2, .int .i64 0, .string s, .slice none 0 0], .slice none 0 0]) (by simp [results, Tryd.results68, go_sem]) rfl ⟨w.heap.size, rfl, by omega, ?_, ?_⟩
  · exact .inl rfl
  · repeat (first | exact Below.refl _ _ | refine Below.alloc ?_ (by simp <;> omega) _ | refine Below.drew ?_ | refine Below.setCell ?_ (by simp <;> omega) _)

set_option maxRecDepth 20000 in
set_option maxHeartbeats 1000000 in
theorem split_un (op : Int) (a : Tm) (w : World) : Calls Tryd.prog 68 #[tv (.un op a)] w fun e w' => SplPost w (.un op a) e w' := by
  unfold tv
  have h0 := taLit
  have h1 := taVar
  have h2 := taUn
  have hbs := bs1 (tv_form a)
  have sa := st_one (tv_one a)
  have ca := tv_cells a
  unfold Value.cells at ca
  generalize hva : tv a = va at *
  have HVa : Hid (tv a = va) := hva
  clear hva
  go_enter Tryd.func68, Tryd.ntmps68
  go_wp2
  go_region
  all_goals go_wp2
  all_goals
    refine bodyPost_ret (v := .tuple #[.agg #[.int .i64 op, .int .i64 0, .string ⟨#[]⟩, .slice none 0 0], .slice (some ⟨w.heap.size + 1 + 1, 0, none⟩) 1 1]) (by simp [results, Tryd.results68, go_sem]) rfl ⟨w.heap.size + 1 + 1, rfl, by omega, ?_, ?_⟩
    · exact .inr ((heap_alloc_at _ _ _ (by simp)).trans (by simp [partsT, HVa.out]))
    · repeat (first | exact Below.refl _ _ | refine Below.alloc ?_ (by simp <;> omega) _ | refine Below.drew ?_ | refine Below.setCell ?_ (by simp <;> omega) _)

set_option maxRecDepth 20000 in
set_option maxHeartbeats 1000000 in
theorem split_bin (op : Int) (a b : Tm) (w : World) : Calls Tryd.prog 68 #[tv (.bin op a b)] w fun e w' => SplPost w (.bin op a b) e w' := by
  unfold tv
  have h0 := taLit
  have h1 := taVar
  have h2 := taUn
  have h3 := taBin
  have hbs := bs2 (tv_form a) (tv_form b)
  have sa := st_one (tv_one a)
  have ca := tv_cells a
  unfold Value.cells at ca
  generalize hva : tv a = va at *
  have HVa : Hid (tv a = va) := hva
  clear hva
  have sb := st_one (tv_one b)
  have cb := tv_cells b
  unfold Value.cells at cb
  generalize hvb : tv b = vb at *
  have HVb : Hid (tv b = vb) := hvb
  clear hvb
  go_enter Tryd.func68, Tryd.ntmps68
  go_wp2
  go_region
  all_goals go_wp2
  all_goals
    refine bodyPost_ret (v := .tuple #[.agg #[.int .i64 op, .int .i64 0, .string ⟨#[]⟩, .slice none 0 0], .slice (some ⟨w.heap.size + 1 + 1, 0, none⟩) 2 2]) (by simp [results, Tryd.results68, go_sem]) rfl ⟨w.heap.size + 1 + 1, rfl, by omega, ?_, ?_⟩
    · exact .inr ((heap_alloc_at _ _ _ (by simp)).trans (by simp [partsT, HVa.out, HVb.out]))
    · repeat (first | exact Below.refl _ _ | refine Below.alloc ?_ (by simp <;> omega) _ | refine Below.drew ?_ | refine Below.setCell ?_ (by simp <;> omega) _)

set_option maxRecDepth 20000 in
set_option maxHeartbeats 1000000 in
theorem split_ifs (c a b : Tm) (w : World) : Calls Tryd.prog 68 #[tv (.ifs c a b)] w fun e w' => SplPost w (.ifs c a b) e w' := by
  unfold tv
  have h0 := taLit
  have h1 := taVar
  have h2 := taUn
  have h3 := taBin
  have h4 := taIf
  have hbs := bs3 (tv_form c) (tv_form a) (tv_form b)
  have sc := st_one (tv_one c)
  have cc := tv_cells c
  unfold Value.cells at cc
  generalize hvc : tv c = vc at *
  have HVc : Hid (tv c = vc) := hvc
  clear hvc
  have sa := st_one (tv_one a)
  have ca := tv_cells a
  unfold Value.cells at ca
  generalize hva : tv a = va at *
  have HVa : Hid (tv a = va) := hva
  clear hva
  have sb := st_one (tv_one b)
  have cb := tv_cells b
  unfold Value.cells at cb
  generalize hvb : tv b = vb at *
  have HVb : Hid (tv b = vb) := hvb
  clear hvb
  go_enter Tryd.func68, Tryd.ntmps68
  go_wp2
  go_region
  all_goals go_wp2
  all_goals
    refine bodyPost_ret (v := .tuple #[.agg #[.int .i64 17, .int .i64 0, .string ⟨#[]⟩, .slice none 0 0], .slice (some ⟨w.heap.size + 1 + 1, 0, none⟩) 3 3]) (by simp [results, Tryd.results68, go_sem]) rfl ⟨w.heap.size + 1 + 1, rfl, by omega, ?_, ?_⟩
    · exact .inr ((heap_alloc_at _ _ _ (by simp)).trans (by simp [partsT, HVc.out, HVa.out, HVb.out]))
    · repeat (first | exact Below.refl _ _ | refine Below.alloc ?_ (by simp <;> omega) _ | refine Below.drew ?_ | refine Below.setCell ?_ (by simp <;> omega) _)

set_option maxRecDepth 20000 in
set_option maxHeartbeats 1000000 in
theorem split_nil (w : World) : Calls Tryd.prog 68 #[tv (.nil)] w fun e w' => SplPost w (.nil) e w' := by
  unfold tv
  have h0 := tnLit
  have h1 := tnVar
  have h2 := tnUn
  have h3 := tnBin
  have h4 := tnIf
  go_enter Tryd.func68, Tryd.ntmps68
  go_wp2
  refine bodyPost_ret (v := .tuple #[.agg #[.int .i64 0, .int .i64 0, .string ⟨#[]⟩, .slice none 0 0], .slice none 0 0]) (by simp [results, Tryd.results68, go_sem]) rfl ⟨w.heap.size, rfl, by omega, ?_, ?_⟩
  · exact .inl rfl
  · repeat (first | exact Below.refl _ _ | refine Below.alloc ?_ (by simp <;> omega) _ | refine Below.drew ?_ | refine Below.setCell ?_ (by simp <;> omega) _)

set_option maxRecDepth 20000 in
set_option maxHeartbeats 1000000 in
theorem split_other (u : TypeId) (x : Value) (hO : Oth (.other u x)) (w : World) : Calls Tryd.prog 68 #[tv (.other u x)] w fun e w' => SplPost w (.other u x) e w' := by
  unfold tv
  obtain ⟨o0, o1, o2, o3, o4⟩ := hO
  have h0 := taLit
  have h1 := taVar
  have h2 := taUn
  have h3 := taBin
  have h4 := taIf
  go_enter Tryd.func68, Tryd.ntmps68
  go_wp2
  refine bodyPost_ret (v := .tuple #[.agg #[.int .i64 0, .int .i64 0, .string ⟨#[]⟩, .slice none 0 0], .slice none 0 0]) (by simp [results, Tryd.results68, go_sem]) rfl ⟨w.heap.size, rfl, by omega, ?_, ?_⟩
  · exact .inl rfl
  · repeat (first | exact Below.refl _ _ | refine Below.alloc ?_ (by simp <;> omega) _ | refine Below.drew ?_ | refine Below.setCell ?_ (by simp <;> omega) _)

theorem split_any (t : Tm) (hO : Oth t) (w : World) : Calls Tryd.prog 68 #[tv t] w fun e w' => SplPost w t e w' := by
  cases t with
  | nil => exact split_nil w
  | lit n => exact split_lit n w
  | var s => exact split_var s w
  | un op a => exact split_un op a w
  | bin op a b => exact split_bin op a b w
  | ifs c a b => exact split_ifs c a b w
  | other u x => exact split_other u x hO w
end Go.Proofs.YtdcfjopmddaemaaDoor
