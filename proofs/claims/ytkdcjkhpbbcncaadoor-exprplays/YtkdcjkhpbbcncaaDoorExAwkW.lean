/-
  What Make answers without parts; awake.
-/
import Derived.Test.YtkdcjkhpbbcncaaDoorExMovW
set_option linter.unusedSimpArgs false
set_option linter.unusedVariables false
namespace Go.Proofs.YtkdcjkhpbbcncaaDoor
open Go.RowKit Go.Lib

theorem fit17 : fitB 1 7 ⟨#[]⟩ 0 = true := by decide +kernel

theorem nil_own {k : Nat} (h : (Value.slice none 0 0).ownBlock = some k) : False := by cases h

def Mk17 (w : World) (e : Ending) (w' : World) : Prop := ∃ g cap, e = .returned (.tuple #[.slice (some ⟨g, 0, none⟩) 1 cap, .int .i64 0]) ∧ w'.cell? ⟨g, 1, none⟩ = some (.int .i64 7) ∧ Below w.heap.size w w'

set_option maxHeartbeats 1000000 in
theorem make17 (w : World) (hT : SpanCells w) :
    Calls Tryd.prog 25 #[.int .i64 1, .int .i64 7, .string ⟨#[]⟩, .slice none 0 0] w fun e w' => Mk17 w e w' := by
  obtain ⟨i0, hi, hz0, hz1, hz2⟩ := info_parts Tryd.infoNode
  have cF : Hid (Calls Tryd.prog 56 #[.int .i64 1, .int .i64 7, .string ⟨#[]⟩, .int .i64 0] w fun e w' => e = .returned (.bool true) ∧ Below w.heap.size w w') := by
    have := fits_any 1 7 ⟨#[]⟩ 0 w hT
    rw [fit17] at this; exact this
  go_enter Tryd.func25, Tryd.ntmps25
  go_wp2_with fail
  go_loop [21] (fun i => i = .int .i64 0) (fun _ => 0)
  case atStart => rfl
  case round =>
    subst hrel
    go_wp2_with fail
    refine cF.out.mono ?_
    rintro e w2 ⟨rfl, hb2⟩
    go_wp2_with fail
    go_loop [12, 38] (fun s i => s = .int .i64 1 ∧ i = .int .i64 0) (fun _ _ => 0)
    case atStart => exact ⟨rfl, rfl⟩
    case round =>
      obtain ⟨rfl, rfl⟩ := hrel
      go_wp2_with fail
      go_loop [15, 16, 51] (fun s t i => s = .slice none 0 0 ∧ t = .slice none 0 0 ∧ i = .int .i64 0) (fun _ _ _ => 0)
      case atStart => exact ⟨rfl, rfl, rfl⟩
      case round =>
        obtain ⟨rfl, rfl, rfl⟩ := hrel
        have hown := World.ownsRow_nil w2 w.heap.size 63 4
        have hsz := hb2.size
        go_wp2_with (at_builtin; refine wpList_append_lies _ rfl (.tmp 67) (.tmp 73) 22 rfl w.heap.size 63 i0 (.agg #[.int .i64 0, .int .i64 0, .string ⟨#[]⟩, .slice none 0 0]) 4 56 Tryd.underlying22 hi hz0 hz1 hz2 rfl (by decide) _ _ _ rfl (hown.alloc _) ⟨w2.heap.size, 0, none⟩ 1 1 [.int .i64 1, .int .i64 7, .string ⟨#[]⟩, .slice none 0 0] rfl rfl (cell_news4 _ _ _ _ _ _ _ (by simp)) (by simp [Value.oneCell']) (by omega) (by decide) (by decide) (by simp; omega) _ rfl ?_; intro g cap w1 hown1 hg1 hat hl1)
        go_ret2
        have hc := hown1.cellAt 1 (by decide)
        exact ⟨g, cap, rfl, by rw [hc]; rfl, (hb2.alloc hsz _).grown hg1 (by simp; omega) (fun k hk => (nil_own hk).elim)⟩

set_option maxHeartbeats 1000000 in
theorem awk_any (w : World) (hT : SpanCells w) :
    Calls Tryd.prog 9 #[] w fun e w' => e = .returned (.bool true) ∧ Below w.heap.size w w' := by
  go_enter Tryd.func9, Tryd.ntmps9
  go_wp2_with (go_at_call 25; refine (make17 _ hT).mono ?_; rintro e w2 ⟨g, cap, rfl, hc, hb2⟩)
  go_ret
  exact ⟨rfl, hb2⟩
end Go.Proofs.YtkdcjkhpbbcncaaDoor
