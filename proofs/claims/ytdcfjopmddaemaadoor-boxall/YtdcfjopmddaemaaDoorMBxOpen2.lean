/-
  An argument that is a list of cells, opened, beside lists of nodes.
-/
import Derived.Test.YtdcfjopmddaemaaDoorMExOpen
import Derived.Test.YtdcfjopmddaemaaDoorMBxPure
set_option linter.unusedSimpArgs false
set_option linter.unusedVariables false
namespace Go.Proofs.YtdcfjopmddaemaaDoor
open Go.RowKit Go.Lib Go.ChangeShapes Go.WideShapes Go.Deep

theorem Tryd.cellsCell : Tryd.prog.cellsOf 83 = 7 := by kernel_rfl
theorem Tryd.bytesCell : Tryd.prog.bytesOf 83 = 64 := by kernel_rfl
theorem len7 {α : Type} (l : List α) (h : l.length = 7) : ∃ a b c d e f g, l = [a, b, c, d, e, f, g] := by
  match l, h with
  | [a, b, c, d, e, f, g], _ => exact ⟨a, b, c, d, e, f, g, rfl⟩
section
variable {H : Type} {enc : TypeId × Value → H} {w : World}

/-- One cell. -/
theorem open_cell {fuel : Nat} {cs : List Value} {x : DataW H × List MemPlace} (h : DataW.trod enc Tryd.prog w 0 (fun _ => true) true fuel 83 cs = some x) :
    ∃ y : Cl, cs = [.int .i64 y.kind, .int .i64 y.op, .int .i64 y.n, .string y.name, .int .i64 y.a, .int .i64 y.b, .int .i64 y.c] ∧ y.name.size ≤ maxLen := by
  obtain ⟨xs, n, _, rfl, hl, hxl, hall⟩ := DataW.trod_struct Tryd.underlying83 h
  rw [Tryd.cellsCell] at hl
  obtain ⟨v0, v1, v2, v3, v4, v5, v6, rfl⟩ := len7 cs hl
  obtain ⟨x0, x1, x2, x3, x4, x5, x6, rfl⟩ := len7 xs hxl
  have g0 : DataW.trod enc Tryd.prog w 0 (fun _ => true) true n 3 (([v0, v1, v2, v3, v4, v5, v6].drop 0).take (Tryd.prog.cellsOf 3)) = some x0 := hall 0 _ rfl
  have g1 : DataW.trod enc Tryd.prog w 0 (fun _ => true) true n 3 (([v0, v1, v2, v3, v4, v5, v6].drop 1).take (Tryd.prog.cellsOf 3)) = some x1 := hall 1 _ rfl
  have g2 : DataW.trod enc Tryd.prog w 0 (fun _ => true) true n 2 (([v0, v1, v2, v3, v4, v5, v6].drop 2).take (Tryd.prog.cellsOf 2)) = some x2 := hall 2 _ rfl
  have g3 : DataW.trod enc Tryd.prog w 0 (fun _ => true) true n 9 (([v0, v1, v2, v3, v4, v5, v6].drop 3).take (Tryd.prog.cellsOf 9)) = some x3 := hall 3 _ rfl
  have g4 : DataW.trod enc Tryd.prog w 0 (fun _ => true) true n 3 (([v0, v1, v2, v3, v4, v5, v6].drop 4).take (Tryd.prog.cellsOf 3)) = some x4 := hall 4 _ rfl
  have g5 : DataW.trod enc Tryd.prog w 0 (fun _ => true) true n 3 (([v0, v1, v2, v3, v4, v5, v6].drop 5).take (Tryd.prog.cellsOf 3)) = some x5 := hall 5 _ rfl
  have g6 : DataW.trod enc Tryd.prog w 0 (fun _ => true) true n 3 (([v0, v1, v2, v3, v4, v5, v6].drop 6).take (Tryd.prog.cellsOf 3)) = some x6 := hall 6 _ rfl
  rw [Tryd.cells3] at g0 g1 g4 g5 g6
  rw [Tryd.cells2] at g2
  rw [Tryd.cellsStr] at g3
  obtain ⟨z0, k0, _, _⟩ := DataW.trod_int Tryd.underlying3 g0
  obtain ⟨z1, k1, _, _⟩ := DataW.trod_int Tryd.underlying3 g1
  obtain ⟨z2, k2, _, _⟩ := DataW.trod_int Tryd.underlying2 g2
  obtain ⟨s, k3, _, hs⟩ := DataW.trod_string Tryd.underlying9 g3
  obtain ⟨z4, k4, _, _⟩ := DataW.trod_int Tryd.underlying3 g4
  obtain ⟨z5, k5, _, _⟩ := DataW.trod_int Tryd.underlying3 g5
  obtain ⟨z6, k6, _, _⟩ := DataW.trod_int Tryd.underlying3 g6
  simp at k0 k1 k2 k3 k4 k5 k6
  subst k0; subst k1; subst k2; subst k3; subst k4; subst k5; subst k6
  exact ⟨⟨z0, z1, z2, s, z4, z5, z6⟩, rfl, hs⟩

/-- The whole argument. -/
theorem open_cells {fuel : Nat} {v : Value} {x : DataW H × List MemPlace} (h : DataW.trod enc Tryd.prog w 0 (fun _ => true) true fuel 38 [v] = some x) :
    ∃ (ao : Option Addr) (cap : Nat) (l : List Cl), v = .slice ao l.length cap ∧ Cls w ao cap l ∧ (∀ x ∈ l, x.name.size ≤ maxLen) ∧ ((∀ n ∈ x.1.weights Tryd.prog 38, n ≤ reachBytes) → l.length * 64 ≤ 140737488351232) := by
  rcases open_slice Tryd.underlying38 h with ⟨hcs, rfl⟩ | ⟨a, len, cap, m, n, D, Pl, hcs, _, hl, hm, hmm, rfl, hx⟩
  · simp only [List.cons.injEq, and_true] at hcs
    subst hcs
    exact ⟨none, 0, [], rfl, ⟨by simp, by simp, .inl rfl⟩, by simp, fun _ => by simp⟩
  · simp only [List.cons.injEq, and_true] at hcs
    subst hcs
    simp only [if_true] at hmm
    subst hmm
    have each : ∀ i, i < m → ∃ y : Cl, ∃ cs', w.cells? 0 (a.add (i * 7)) 7 = some cs' ∧ cs' = [.int .i64 y.kind, .int .i64 y.op, .int .i64 y.n, .string y.name, .int .i64 y.a, .int .i64 y.b, .int .i64 y.c] ∧ y.name.size ≤ maxLen := by
      intro i hi
      obtain ⟨cs', h1, h2⟩ := hx i hi
      rw [Tryd.cellsCell] at h1
      obtain ⟨y, e, h3⟩ := open_cell h2
      exact ⟨y, cs', h1, e, h3⟩
    have : Inhabited Cl := ⟨cl0⟩
    obtain ⟨q, hq⟩ := choose_lt each
    have hlen : ((List.range len).map fun i => q i).length = len := by simp
    have hget : ∀ i, i < len → ((List.range len).map fun i => q i).getD i cl0 = q i := fun i hi => by simp [hi]
    refine ⟨some a, m, (List.range len).map fun i => q i, by rw [hlen], ⟨by rw [hlen]; exact hl, hm, ?_⟩, fun x hx => ?_, fun hw => ?_⟩
    · by_cases h0 : len = 0
      · left; subst h0; rfl
      · right
        have hc0 : w.cell? a = some (.int .i64 (q 0).kind) := by
          obtain ⟨cs', h1, rfl, _⟩ := hq 0 (by omega)
          have := (World.cells?_some h1).2.2 0 (by omega)
          rw [Nat.zero_mul] at this
          exact this
        obtain ⟨b, o, sp⟩ := a
        have hsp : sp = none := spot_none hc0
        subst hsp
        refine ⟨b, o, rfl, World.block_lt_of_cell? _ _ hc0, fun i hi => ?_⟩
        rw [hlen] at hi
        rw [hget i hi]
        obtain ⟨cs', h1, rfl, h3⟩ := hq i (by omega)
        have hcell := (World.cells?_some h1).2.2
        rw [add_plain] at hcell
        refine ⟨?_, ?_, ?_, ?_, ?_, ?_, ?_⟩
        · have := hcell 0 (by omega); rw [add_plain] at this; exact this
        · have := hcell 1 (by omega); rw [add_plain] at this; exact this
        · have := hcell 2 (by omega); rw [add_plain] at this; exact this
        · have := hcell 3 (by omega); rw [add_plain] at this; exact this
        · have := hcell 4 (by omega); rw [add_plain] at this; exact this
        · have := hcell 5 (by omega); rw [add_plain] at this; exact this
        · have := hcell 6 (by omega); rw [add_plain] at this; exact this
    · obtain ⟨i, hi, rfl⟩ := List.mem_map.1 hx
      obtain ⟨cs', _, _, h3⟩ := hq i (by have := List.mem_range.1 hi; omega)
      exact h3
    · have := hw ((((List.range len).map D).length + ((List.range (m - len)).map fun j => D (len + j)).length) * Tryd.prog.bytesOf 83) (by simp only [DataW.weights, Tryd.underlying38 ]; exact List.mem_cons_self ..)
      rw [Tryd.bytesCell] at this
      simp only [List.length_map, List.length_range, reachBytes] at this
      rw [hlen]; omega
end
end Go.Proofs.YtdcfjopmddaemaaDoor
