/-
  BxTm, BxSplW, BxAlkW, ExMakW, ExDecPure.
-/
import Derived.Shelf.Unicode.DecodeSlow
import Derived.Laws.RangeAny
import Derived.Shelf.Strings.Builder1
import Derived.Shelf.Small.Utf8
import Derived.Shelf.Strings.BuilderF
import Derived.Shelf.Strings.BuilderK
import Derived.Shelf.Strings.BuilderRune
import Derived.Shelf.Utf8.AppendRune
import Derived.Shelf.Strconv.Itoa0
import Derived.Shelf.Strconv.Itoa1
import Derived.Shelf.LaysM
import Derived.Shelf.Strconv.Itoa2
import Derived.Shelf.Strconv.Itoa3
import Derived.Shelf.Strconv.Itoa4
import Derived.Shelf.Strings.Prefix
import Derived.Shelf.Unicode.DecodeAny
import Derived.Test.YtljigfiokekpoaaGreatDoorProg
import Derived.WalkKit
import Derived.Deep.DeepFit
import Derived.Lib.OthersKept
import Derived.Lib.RuneCountTail
import Derived.Deep.AppendLies
import Derived.Deep.OwnRows
import Derived.Laws.AppendOwnNone
import Derived.Deep.QuietTactic
import Derived.BigQuiet
import Derived.Deep.RegionWith
import Derived.Laws.DeepStrings4
import Derived.Test.YtljigfiokekpoaaGreatDoorChecked
import Derived.Below
import Derived.Defers
import Derived.Test.YtljigfiokekpoaaGreatDoorZ01
import Derived.Test.YtljigfiokekpoaaGreatDoorZ02
import Derived.Test.YtljigfiokekpoaaGreatDoorZ03
import Derived.Test.YtljigfiokekpoaaGreatDoorZ04
import Derived.Test.YtljigfiokekpoaaGreatDoorZ05
import Derived.Test.YtljigfiokekpoaaGreatDoorZ06
import Derived.Test.YtljigfiokekpoaaGreatDoorZ07
import Derived.Test.YtljigfiokekpoaaGreatDoorZ09
set_option linter.unusedSimpArgs false
set_option linter.unusedVariables false
namespace Go.Proofs.YtljigfiokekpoaaGreatDoor
open Go.RowKit

inductive Tm where
  | nil
  | lit (n : Int)
  | var (s : ByteArray)
  | un (op : Int) (a : Tm)
  | bin (op : Int) (a b : Tm)
  | ifs (c a b : Tm)
  | other (u : TypeId) (x : Value)

def tv : Tm → Value
  | .nil => .nilIface
  | .lit n => .iface 72 (.agg #[.int .i64 n])
  | .var s => .iface 74 (.agg #[.string s])
  | .un op a => .iface 77 (.agg #[.int .i64 op, tv a])
  | .bin op a b => .iface 79 (.agg #[.int .i64 op, tv a, tv b])
  | .ifs c a b => .iface 81 (.agg #[tv c, tv a, tv b])
  | .other u x => .iface u x

theorem taLit (u : TypeId) (x : Value) (w : World) : (Instr.typeAssert (.iface u x) 30 72 true).run Tryz.prog w = .ok (.tuple #[if u = 72 then x else .agg #[.int .i64 0], .bool (decide (u = 72))]) w := by
  by_cases h : u = 72
  · subst h; rw [if_pos rfl]; kernel_rfl
  · have hz : (zeroValue 72).run Tryz.prog w = .ok (.agg #[.int .i64 0]) w := by kernel_rfl
    rw [if_neg h, show decide (u = 72) = false from decide_eq_false h]
    simp [Instr.typeAssert, go_sem, h, hz]
theorem tnLit (w : World) : (Instr.typeAssert .nilIface 30 72 true).run Tryz.prog w = .ok (.tuple #[.agg #[.int .i64 0], .bool false]) w := by kernel_rfl
theorem taVar (u : TypeId) (x : Value) (w : World) : (Instr.typeAssert (.iface u x) 30 74 true).run Tryz.prog w = .ok (.tuple #[if u = 74 then x else .agg #[.string ⟨#[]⟩], .bool (decide (u = 74))]) w := by
  by_cases h : u = 74
  · subst h; rw [if_pos rfl]; kernel_rfl
  · have hz : (zeroValue 74).run Tryz.prog w = .ok (.agg #[.string ⟨#[]⟩]) w := by kernel_rfl
    rw [if_neg h, show decide (u = 74) = false from decide_eq_false h]
    simp [Instr.typeAssert, go_sem, h, hz]
theorem tnVar (w : World) : (Instr.typeAssert .nilIface 30 74 true).run Tryz.prog w = .ok (.tuple #[.agg #[.string ⟨#[]⟩], .bool false]) w := by kernel_rfl
theorem taUn (u : TypeId) (x : Value) (w : World) : (Instr.typeAssert (.iface u x) 30 77 true).run Tryz.prog w = .ok (.tuple #[if u = 77 then x else .agg #[.int .i64 0, .nilIface], .bool (decide (u = 77))]) w := by
  by_cases h : u = 77
  · subst h; rw [if_pos rfl]; kernel_rfl
  · have hz : (zeroValue 77).run Tryz.prog w = .ok (.agg #[.int .i64 0, .nilIface]) w := by kernel_rfl
    rw [if_neg h, show decide (u = 77) = false from decide_eq_false h]
    simp [Instr.typeAssert, go_sem, h, hz]
theorem tnUn (w : World) : (Instr.typeAssert .nilIface 30 77 true).run Tryz.prog w = .ok (.tuple #[.agg #[.int .i64 0, .nilIface], .bool false]) w := by kernel_rfl
theorem taBin (u : TypeId) (x : Value) (w : World) : (Instr.typeAssert (.iface u x) 30 79 true).run Tryz.prog w = .ok (.tuple #[if u = 79 then x else .agg #[.int .i64 0, .nilIface, .nilIface], .bool (decide (u = 79))]) w := by
  by_cases h : u = 79
  · subst h; rw [if_pos rfl]; kernel_rfl
  · have hz : (zeroValue 79).run Tryz.prog w = .ok (.agg #[.int .i64 0, .nilIface, .nilIface]) w := by kernel_rfl
    rw [if_neg h, show decide (u = 79) = false from decide_eq_false h]
    simp [Instr.typeAssert, go_sem, h, hz]
theorem tnBin (w : World) : (Instr.typeAssert .nilIface 30 79 true).run Tryz.prog w = .ok (.tuple #[.agg #[.int .i64 0, .nilIface, .nilIface], .bool false]) w := by kernel_rfl
theorem taIf (u : TypeId) (x : Value) (w : World) : (Instr.typeAssert (.iface u x) 30 81 true).run Tryz.prog w = .ok (.tuple #[if u = 81 then x else .agg #[.nilIface, .nilIface, .nilIface], .bool (decide (u = 81))]) w := by
  by_cases h : u = 81
  · subst h; rw [if_pos rfl]; kernel_rfl
  · have hz : (zeroValue 81).run Tryz.prog w = .ok (.agg #[.nilIface, .nilIface, .nilIface]) w := by kernel_rfl
    rw [if_neg h, show decide (u = 81) = false from decide_eq_false h]
    simp [Instr.typeAssert, go_sem, h, hz]
theorem tnIf (w : World) : (Instr.typeAssert .nilIface 30 81 true).run Tryz.prog w = .ok (.tuple #[.agg #[.nilIface, .nilIface, .nilIface], .bool false]) w := by kernel_rfl
end Go.Proofs.YtljigfiokekpoaaGreatDoor

namespace Go.Proofs.YtljigfiokekpoaaGreatDoor
open Go.RowKit
theorem Tryz.infoTerm : (Tryz.prog.info? 30).map (fun i => (i.zero, i.size, i.bytes)) = some (some .nilIface, 1, 16) := by kernel_rfl
end Go.Proofs.YtljigfiokekpoaaGreatDoor

set_option linter.unusedSimpArgs false
set_option linter.unusedVariables false
namespace Go.Proofs.YtljigfiokekpoaaGreatDoor
open Go.RowKit

def opT : Tm → Int
  | .lit _ => 1
  | .var _ => 2
  | .un op _ => op
  | .bin op _ _ => op
  | .ifs _ _ _ => 17
  | _ => 0
def nT : Tm → Int
  | .lit n => n
  | _ => 0
def nameT : Tm → ByteArray
  | .var s => s
  | _ => ⟨#[]⟩
def partsT : Tm → List Tm
  | .un _ a => [a]
  | .bin _ a b => [a, b]
  | .ifs c a b => [c, a, b]
  | _ => []
/-- Of another type than api's five, if it is no kind. -/
def Oth : Tm → Prop
  | .other u _ => u ≠ 72 ∧ u ≠ 74 ∧ u ≠ 77 ∧ u ≠ 79 ∧ u ≠ 81
  | _ => True
def pvT (g : Nat) (t : Tm) : Value := if (partsT t).length = 0 then .slice none 0 0 else .slice (some ⟨g, 0, none⟩) (partsT t).length (partsT t).length
def PartsAt (w : World) (g : Nat) (t : Tm) : Prop := partsT t = [] ∨ w.heap[g]? = some (.cells ((partsT t).map tv).toArray 30 (0, 0))

theorem tv_one (t : Tm) : (tv t).oneCell' = true := by cases t <;> rfl
theorem tv_cells (t : Tm) : (tv t).cells = #[tv t] := by cases t <;> rfl
theorem st_one {v : Value} (h : v.oneCell' = true) : ∀ (P : Program) (w : World) (a : Addr) (m : Mode), (store a v m).run P w = stored P w a v m := fun P w a m => run_store P w a v m h
theorem heap_alloc_at (w : World) (o : Obj) (k : Nat) (h : k = w.heap.size) : (w.alloc o).heap[k]? = some o := by
  subst h
  show (w.heap.push o)[w.heap.size]? = some o
  simp
theorem tv_form (t : Tm) : tv t = .nilIface ∨ ∃ u x, tv t = .iface u x := by
  cases t <;> simp [tv]

def Ifc (v : Value) : Prop := v = .nilIface ∨ ∃ u x, v = .iface u x
theorem bs1 {a : Value} (ha : Ifc a) (w : World) : (Instr.buildSlice 54 1 #[(0, a)]).run Tryz.prog w = .ok (.slice (some ⟨w.heap.size, 0, none⟩) 1 1) (w.alloc (.cells #[a] 30)) := by
  rcases ha with rfl | ⟨u, x, rfl⟩ <;> kernel_rfl
theorem bs2 {a b : Value} (ha : Ifc a) (hb : Ifc b) (w : World) : (Instr.buildSlice 54 2 #[(0, a), (1, b)]).run Tryz.prog w = .ok (.slice (some ⟨w.heap.size, 0, none⟩) 2 2) (w.alloc (.cells #[a, b] 30)) := by
  rcases ha with rfl | ⟨u, x, rfl⟩ <;> rcases hb with rfl | ⟨u', x', rfl⟩ <;> kernel_rfl
theorem bs3 {a b c : Value} (ha : Ifc a) (hb : Ifc b) (hc : Ifc c) (w : World) : (Instr.buildSlice 54 3 #[(0, a), (1, b), (2, c)]).run Tryz.prog w = .ok (.slice (some ⟨w.heap.size, 0, none⟩) 3 3) (w.alloc (.cells #[a, b, c] 30)) := by
  rcases ha with rfl | ⟨u, x, rfl⟩ <;> rcases hb with rfl | ⟨u', x', rfl⟩ <;> rcases hc with rfl | ⟨u'', x'', rfl⟩ <;> kernel_rfl

theorem PartsAt.below {w w' : World} {g : Nat} {t : Tm} (h : PartsAt w g t) (hb : Below w.heap.size w w') : PartsAt w' g t := by
  rcases h with h | h
  · exact .inl h
  · exact .inr ((hb.block _ (lt_of_block h)).trans h)

def SplPost (w : World) (t : Tm) (e : Ending) (w' : World) : Prop :=
  ∃ g, e = .returned (.tuple #[.agg #[.int .i64 (opT t), .int .i64 (nT t), .string (nameT t), .slice none 0 0], pvT g t]) ∧ w.heap.size ≤ g ∧ PartsAt w' g t ∧ Below w.heap.size w w'

set_option maxRecDepth 20000 in
set_option maxHeartbeats 1000000 in
theorem split_lit (n : Int) (w : World) : Calls Tryz.prog 52 #[tv (.lit n)] w fun e w' => SplPost w (.lit n) e w' := by
  unfold tv
  have h0 := taLit
  go_enter Tryz.func52, Tryz.ntmps52
  go_wp2
  refine bodyPost_ret (v := .tuple #[.agg #[.int .i64 1, .int .i64 n, .string ⟨#[]⟩, .slice none 0 0], .slice none 0 0]) (by simp [results, Tryz.results52, go_sem]) rfl ⟨w.heap.size, rfl, by omega, ?_, ?_⟩
  · exact .inl rfl
  · repeat (first | exact Below.refl _ _ | refine Below.alloc ?_ (by simp <;> omega) _ | refine Below.drew ?_ | refine Below.setCell ?_ (by simp <;> omega) _)

set_option maxRecDepth 20000 in
set_option maxHeartbeats 1000000 in
theorem split_var (s : ByteArray) (w : World) : Calls Tryz.prog 52 #[tv (.var s)] w fun e w' => SplPost w (.var s) e w' := by
  unfold tv
  have h0 := taLit
  have h1 := taVar
  go_enter Tryz.func52, Tryz.ntmps52
  go_wp2
  refine bodyPost_ret (v := .tuple #[.agg #[.int .i64 2, .int .i64 0, .string s, .slice none 0 0], .slice none 0 0]) (by simp [results, Tryz.results52, go_sem]) rfl ⟨w.heap.size, rfl, by omega, ?_, ?_⟩
  · exact .inl rfl
  · repeat (first | exact Below.refl _ _ | refine Below.alloc ?_ (by simp <;> omega) _ | refine Below.drew ?_ | refine Below.setCell ?_ (by simp <;> omega) _)

set_option maxRecDepth 20000 in
set_option maxHeartbeats 1000000 in
theorem split_un (op : Int) (a : Tm) (w : World) : Calls Tryz.prog 52 #[tv (.un op a)] w fun e w' => SplPost w (.un op a) e w' := by
  unfold tv
  have h0 := taLit
  have h1 := taVar
  have h2 := taUn
  have hbs := bs1 (tv_form a)
  have sa := st_one (tv_one a)
  have ca := tv_cells a
  unfold Value.cells at ca
  generalize hva : tv a = va at *
  have HVa : Hid (tv a = va) := hva
  clear hva
  go_enter Tryz.func52, Tryz.ntmps52
  go_wp2
  go_region
  all_goals go_wp2
  all_goals
    refine bodyPost_ret (v := .tuple #[.agg #[.int .i64 op, .int .i64 0, .string ⟨#[]⟩, .slice none 0 0], .slice (some ⟨w.heap.size + 1 + 1, 0, none⟩) 1 1]) (by simp [results, Tryz.results52, go_sem]) rfl ⟨w.heap.size + 1 + 1, rfl, by omega, ?_, ?_⟩
    · exact .inr ((heap_alloc_at _ _ _ (by simp)).trans (by simp [partsT, HVa.out]))
    · repeat (first | exact Below.refl _ _ | refine Below.alloc ?_ (by simp <;> omega) _ | refine Below.drew ?_ | refine Below.setCell ?_ (by simp <;> omega) _)

set_option maxRecDepth 20000 in
set_option maxHeartbeats 1000000 in
theorem split_bin (op : Int) (a b : Tm) (w : World) : Calls Tryz.prog 52 #[tv (.bin op a b)] w fun e w' => SplPost w (.bin op a b) e w' := by
  unfold tv
  have h0 := taLit
  have h1 := taVar
  have h2 := taUn
  have h3 := taBin
  have hbs := bs2 (tv_form a) (tv_form b)
  have sa := st_one (tv_one a)
  have ca := tv_cells a
  unfold Value.cells at ca
  generalize hva : tv a = va at *
  have HVa : Hid (tv a = va) := hva
  clear hva
  have sb := st_one (tv_one b)
  have cb := tv_cells b
  unfold Value.cells at cb
  generalize hvb : tv b = vb at *
  have HVb : Hid (tv b = vb) := hvb
  clear hvb
  go_enter Tryz.func52, Tryz.ntmps52
  go_wp2
  go_region
  all_goals go_wp2
  all_goals
    refine bodyPost_ret (v := .tuple #[.agg #[.int .i64 op, .int .i64 0, .string ⟨#[]⟩, .slice none 0 0], .slice (some ⟨w.heap.size + 1 + 1, 0, none⟩) 2 2]) (by simp [results, Tryz.results52, go_sem]) rfl ⟨w.heap.size + 1 + 1, rfl, by omega, ?_, ?_⟩
    · exact .inr ((heap_alloc_at _ _ _ (by simp)).trans (by simp [partsT, HVa.out, HVb.out]))
    · repeat (first | exact Below.refl _ _ | refine Below.alloc ?_ (by simp <;> omega) _ | refine Below.drew ?_ | refine Below.setCell ?_ (by simp <;> omega) _)

set_option maxRecDepth 20000 in
set_option maxHeartbeats 1000000 in
theorem split_ifs (c a b : Tm) (w : World) : Calls Tryz.prog 52 #[tv (.ifs c a b)] w fun e w' => SplPost w (.ifs c a b) e w' := by
  unfold tv
  have h0 := taLit
  have h1 := taVar
  have h2 := taUn
  have h3 := taBin
  have h4 := taIf
  have hbs := bs3 (tv_form c) (tv_form a) (tv_form b)
  have sc := st_one (tv_one c)
  have cc := tv_cells c
  unfold Value.cells at cc
  generalize hvc : tv c = vc at *
  have HVc : Hid (tv c = vc) := hvc
  clear hvc
  have sa := st_one (tv_one a)
  have ca := tv_cells a
  unfold Value.cells at ca
  generalize hva : tv a = va at *
  have HVa : Hid (tv a = va) := hva
  clear hva
  have sb := st_one (tv_one b)
  have cb := tv_cells b
  unfold Value.cells at cb
  generalize hvb : tv b = vb at *
  have HVb : Hid (tv b = vb) := hvb
  clear hvb
  go_enter Tryz.func52, Tryz.ntmps52
  go_wp2
  go_region
  all_goals go_wp2
  all_goals
    refine bodyPost_ret (v := .tuple #[.agg #[.int .i64 17, .int .i64 0, .string ⟨#[]⟩, .slice none 0 0], .slice (some ⟨w.heap.size + 1 + 1, 0, none⟩) 3 3]) (by simp [results, Tryz.results52, go_sem]) rfl ⟨w.heap.size + 1 + 1, rfl, by omega, ?_, ?_⟩
    · exact .inr ((heap_alloc_at _ _ _ (by simp)).trans (by simp [partsT, HVc.out, HVa.out, HVb.out]))
    · repeat (first | exact Below.refl _ _ | refine Below.alloc ?_ (by simp <;> omega) _ | refine Below.drew ?_ | refine Below.setCell ?_ (by simp <;> omega) _)

set_option maxRecDepth 20000 in
set_option maxHeartbeats 1000000 in
theorem split_nil (w : World) : Calls Tryz.prog 52 #[tv (.nil)] w fun e w' => SplPost w (.nil) e w' := by
  unfold tv
  have h0 := tnLit
  have h1 := tnVar
  have h2 := tnUn
  have h3 := tnBin
  have h4 := tnIf
  go_enter Tryz.func52, Tryz.ntmps52
  go_wp2
  refine bodyPost_ret (v := .tuple #[.agg #[.int .i64 0, .int .i64 0, .string ⟨#[]⟩, .slice none 0 0], .slice none 0 0]) (by simp [results, Tryz.results52, go_sem]) rfl ⟨w.heap.size, rfl, by omega, ?_, ?_⟩
  · exact .inl rfl
  · repeat (first | exact Below.refl _ _ | refine Below.alloc ?_ (by simp <;> omega) _ | refine Below.drew ?_ | refine Below.setCell ?_ (by simp <;> omega) _)

set_option maxRecDepth 20000 in
set_option maxHeartbeats 1000000 in
theorem split_other (u : TypeId) (x : Value) (hO : Oth (.other u x)) (w : World) : Calls Tryz.prog 52 #[tv (.other u x)] w fun e w' => SplPost w (.other u x) e w' := by
  unfold tv
  obtain ⟨o0, o1, o2, o3, o4⟩ := hO
  have h0 := taLit
  have h1 := taVar
  have h2 := taUn
  have h3 := taBin
  have h4 := taIf
  go_enter Tryz.func52, Tryz.ntmps52
  go_wp2
  refine bodyPost_ret (v := .tuple #[.agg #[.int .i64 0, .int .i64 0, .string ⟨#[]⟩, .slice none 0 0], .slice none 0 0]) (by simp [results, Tryz.results52, go_sem]) rfl ⟨w.heap.size, rfl, by omega, ?_, ?_⟩
  · exact .inl rfl
  · repeat (first | exact Below.refl _ _ | refine Below.alloc ?_ (by simp <;> omega) _ | refine Below.drew ?_ | refine Below.setCell ?_ (by simp <;> omega) _)

theorem split_any (t : Tm) (hO : Oth t) (w : World) : Calls Tryz.prog 52 #[tv t] w fun e w' => SplPost w t e w' := by
  cases t with
  | nil => exact split_nil w
  | lit n => exact split_lit n w
  | var s => exact split_var s w
  | un op a => exact split_un op a w
  | bin op a b => exact split_bin op a b w
  | ifs c a b => exact split_ifs c a b w
  | other u x => exact split_other u x hO w
end Go.Proofs.YtljigfiokekpoaaGreatDoor

set_option linter.unusedSimpArgs false
set_option linter.unusedVariables false
namespace Go.Proofs.YtljigfiokekpoaaGreatDoor
open Go.RowKit

/-- No part is nil or of another type. -/
def Five : Tm → Prop
  | .lit _ => True
  | .var _ => True
  | .un _ a => Five a
  | .bin _ a b => Five a ∧ Five b
  | .ifs c a b => Five c ∧ Five a ∧ Five b
  | _ => False

end Go.Proofs.YtljigfiokekpoaaGreatDoor

set_option linter.unusedSimpArgs false
set_option linter.unusedVariables false
namespace Go.Proofs.YtljigfiokekpoaaGreatDoor
open Go.RowKit Go.Lib

/-- Parts behind one another, and the places of their own nodes. -/
def accS (ps : List (List Nd)) : List Nd × List Int := ps.foldl (fun s p => (s.1 ++ p.map (mvN 0 s.1.length), s.2 ++ [((s.1.length + p.length : Nat) : Int) - 1])) ([], [])
theorem accS_snoc (ps : List (List Nd)) (p : List Nd) : accS (ps ++ [p]) = ((accS ps).1 ++ p.map (mvN 0 (accS ps).1.length), (accS ps).2 ++ [(((accS ps).1.length + p.length : Nat) : Int) - 1]) := by
  unfold accS; rw [List.foldl_append]; rfl
theorem accS_nil : accS [] = ([], []) := rfl
theorem accS_len2 (ps : List (List Nd)) : (accS ps).2.length = ps.length := by
  have key : ∀ (qs rs : List (List Nd)), (accS rs).2.length = rs.length → (accS (rs ++ qs)).2.length = (rs ++ qs).length := by
    intro qs
    induction qs with
    | nil => intro rs h; simpa using h
    | cons q qs ih =>
      intro rs h
      have e : rs ++ q :: qs = (rs ++ [q]) ++ qs := by simp
      rw [e]
      exact ih (rs ++ [q]) (by rw [accS_snoc]; simp [h])
  simpa using key ps [] rfl

def joinL (op n : Int) (nm : ByteArray) (ps : List (List Nd)) : List Nd := (accS ps).1 ++ [⟨op, n, nm, (accS ps).2⟩]

theorem OwnP_nil (w : World) (base : Nat) : OwnP w base (.slice none 0 0) [] := ⟨World.ownsRow_nil _ _ _ _, by simp⟩

theorem OwnP.form {w : World} {base : Nat} {v : Value} {p : List (Nd × Value)} (h : OwnP w base v p) : ∃ ao cap, v = .slice ao p.length cap := by
  obtain ⟨_, h2⟩ := h.row
  rcases h2 with ⟨rfl, h0⟩ | ⟨g, cap, cur, rfl, _⟩
  · exact ⟨none, 0, by rw [h0]⟩
  · exact ⟨_, cap, rfl⟩
end Go.Proofs.YtljigfiokekpoaaGreatDoor

set_option linter.unusedSimpArgs false
set_option linter.unusedVariables false
namespace Go.Proofs.YtljigfiokekpoaaGreatDoor

/-- The part whose own node stands at a kid's place. -/
def kidPart (l : List Nd) (fr : List Nat) (k : Int) : List Nd := partL l (fr.getD k.toNat 0) k.toNat


theorem cut_split (l : List Nd) (a b c : Nat) (hab : a ≤ b) (hbc : b ≤ c) : (l.drop a).take (c - a) = (l.drop a).take (b - a) ++ (l.drop b).take (c - b) := by
  have e : c - a = (b - a) + (c - b) := by omega
  rw [e, List.take_add, List.drop_drop]
  have e2 : a + (b - a) = b := by omega
  rw [e2]

theorem acc_parts {l : List Nd} {fr : List Nat} (h : BegOk l fr) : ∀ (r : List Int) (c c0 : Nat), c ≤ l.length → chainL fr r c = some c0 →
    accS ((r.reverse).map (kidPart l fr)) = (((l.drop c0).take (c - c0)).map (mvN 0 (-(c0 : Int))), r.reverse.map (· - (c0 : Int))) := by
  intro r
  induction r with
  | nil =>
    intro c c0 _ hc
    simp only [chainL, Option.some.injEq] at hc
    subst hc
    simp [accS]
  | cons k r ih =>
    intro c c0 hcl hc
    simp only [chainL] at hc
    split at hc
    · cases hc
    · rename_i hn
      have hlo := h.low (c - 1)
      have hle := chainL_le h.low _ _ _ hc
      have hi := ih _ c0 (by omega) hc
      have hk : k = ((c - 1 : Nat) : Int) := by omega
      have hkt : k.toNat = c - 1 := by omega
      rw [List.reverse_cons, List.map_append, List.map_cons, List.map_nil, accS_snoc, hi]
      have hins := kids_inside h (c - 1) (by omega)
      have hplen := partL_len l (fr.getD (c - 1) 0) (c - 1) (by omega) hlo
      have hkp : kidPart l fr k = partL l (fr.getD (c - 1) 0) (c - 1) := by unfold kidPart; rw [hkt]
      rw [hkp]
      generalize hb : fr.getD (c - 1) 0 = b at *
      have hAl : ((((l.drop c0).take (b - c0)).map (mvN 0 (-(c0 : Int)))).length) = b - c0 := by simp; omega
      have hpart : (partL l b (c - 1)).map (mvN 0 ((b - c0 : Nat) : Int)) = ((l.drop b).take (c - b)).map (mvN 0 (-(c0 : Int))) := by
        unfold partL
        have e : c - 1 + 1 - b = c - b := by omega
        rw [e, List.map_map]
        apply List.map_congr_left
        intro x hx
        obtain ⟨j, hj, rfl⟩ := List.getElem_of_mem hx
        have hj' : j < c - b := by simp at hj; omega
        have hgx : ((l.drop b).take (c - b))[j] = l.getD (b + j) nd0 := by
          have hlt : b + j < l.length := by omega
          simp [hlt]
        rw [hgx]
        have hin := hins (b + j) (by omega) (by omega)
        show mvN 0 ((b - c0 : Nat) : Int) (mvN 0 (-(b : Int)) (l.getD (b + j) nd0)) = mvN 0 (-(c0 : Int)) (l.getD (b + j) nd0)
        unfold mvN
        simp only [List.map_map, Nd.mk.injEq, true_and]
        apply List.map_congr_left
        intro q hq
        have := hin q hq
        show mvK 0 ((b - c0 : Nat) : Int) (mvK 0 (-(b : Int)) q) = mvK 0 (-(c0 : Int)) q
        have e1 : mvK 0 (-(b : Int)) q = q - b := by unfold mvK; rw [if_pos (by omega)]; omega
        rw [e1]
        unfold mvK
        rw [if_pos (by omega), if_pos (by omega)]
        omega
      rw [hAl, hpart]
      refine Prod.ext ?_ ?_
      · show _ ++ _ = _
        rw [cut_split l c0 b c (by omega) (by omega), List.map_append]
      · show _ ++ _ = (r.reverse ++ [k]).map _
        rw [List.map_append, hplen, hk]
        simp
        omega

/-- The expression at a place is its operator with its parts. -/
theorem part_join {l : List Nd} {fr : List Nat} (h : BegOk l fr) (i : Nat) (hi : i < l.length) :
    partL l (fr.getD i 0) i = joinL (l.getD i nd0).op (l.getD i nd0).n (l.getD i nd0).name ((l.getD i nd0).kids.map (kidPart l fr)) := by
  have hc := (h.at_ i hi).2
  have hlo := h.low i
  have hacc := acc_parts h _ i _ (by omega) hc
  rw [List.reverse_reverse] at hacc
  unfold joinL
  rw [hacc]
  have hk0 := ok_kids h i hi
  generalize fr.getD i 0 = a at *
  unfold partL
  have e : i + 1 - a = (i - a) + 1 := by omega
  have hlt : i - a < (l.drop a).length := by simp; omega
  rw [e, List.take_succ_eq_append_getElem hlt, List.map_append]
  congr 1
  have hg : (l.drop a)[i - a] = l.getD i nd0 := by
    have e2 : a + (i - a) = i := by omega
    simp [e2, hi]
  rw [hg]
  simp only [List.map_cons, List.map_nil, List.cons.injEq, and_true]
  unfold mvN
  simp only [Nd.mk.injEq, true_and]
  apply List.map_congr_left
  intro k hk
  have := hk0 k hk
  unfold mvK
  rw [if_pos this]; omega

end Go.Proofs.YtljigfiokekpoaaGreatDoor
