/-
  An argument that is a struct with lists of lists of nodes, opened: what it reads as.
-/
import Derived.Test.YtbapjhlichjhoaaDoorExOpen
import Derived.Test.YtbapjhlichjhoaaDoorExMksW
set_option linter.unusedSimpArgs false
set_option linter.unusedVariables false
namespace Go.Proofs.YtbapjhlichjhoaaDoor
open Go.RowKit Go.Lib Go.ChangeShapes Go.WideShapes Go.Deep

theorem Tryd.cellsNodes : Tryd.prog.cellsOf 22 = 1 := by kernel_rfl
theorem Tryd.cellsLists : Tryd.prog.cellsOf 38 = 1 := by kernel_rfl
theorem Tryd.cellsMade : Tryd.prog.cellsOf 40 = 4 := by kernel_rfl
theorem Tryd.bytesNodes : Tryd.prog.bytesOf 22 = 24 := by kernel_rfl

section
variable {H : Type} {enc : TypeId × Value → H} {w : World}

theorem open_lists {fuel : Nat} {v : Value} {x : DataW H × List MemPlace} (h : DataW.trod enc Tryd.prog w 0 (fun _ => true) true fuel 38 [v] = some x) :
    ∃ (ao : Option Addr) (cap : Nat) (ps : List (List Nd)), v = .slice ao ps.length cap ∧ RdL w ao cap ps ∧ ((∀ n ∈ x.1.weights Tryd.prog 38, n ≤ reachBytes) → ps.length * 24 ≤ 140737488355328 ∧ ∀ l ∈ ps, Fit l) := by
  rcases open_slice1 Tryd.underlying38 Tryd.cellsNodes h with ⟨hcs, rfl⟩ | ⟨a, len, cap, m, n, V, D, Pl, hcs, _, hl, hm, hmm, rfl, hx⟩
  · simp only [List.cons.injEq, and_true] at hcs
    subst hcs
    exact ⟨none, 0, [], rfl, ⟨none, 0, rfl, by simp, by simp, .inl rfl⟩, fun _ => ⟨by simp, by simp⟩⟩
  · simp only [List.cons.injEq, and_true] at hcs
    subst hcs
    simp only [if_true] at hmm
    subst hmm
    have each : ∀ i, i < m → ∃ y : List Nd, w.cell? (a.add i) = some (V i) ∧ Nodes w w.heap.size (V i) y ∧ ((∀ n ∈ (D i).weights Tryd.prog 22, n ≤ reachBytes) → Fit y) := by
      intro i hi
      obtain ⟨h1, h2⟩ := hx i hi
      obtain ⟨ao, cap', l, hv, hR, hF⟩ := open_nodes h2
      refine ⟨l, h1, ?_, hF⟩
      rw [hv]; exact hR
    obtain ⟨q, hq⟩ := choose_lt each
    have hlen : ((List.range len).map q).length = len := by simp
    have hget : ∀ i, i < len → ((List.range len).map q).getD i [] = q i := fun i hi => by simp [hi]
    refine ⟨some a, m, (List.range len).map q, by rw [hlen], ⟨some a, m, rfl, by rw [hlen]; exact hl, hm, ?_⟩, fun hw => ⟨?_, ?_⟩⟩
    · by_cases h0 : len = 0
      · left; subst h0; rfl
      · right
        have hc0 : w.cell? a = some (V 0) := (hq 0 (by omega)).1
        obtain ⟨b, o, sp⟩ := a
        have hsp : sp = none := spot_none hc0
        subst hsp
        refine ⟨b, o, rfl, World.block_lt_of_cell? _ _ hc0, fun i hi => ?_⟩
        rw [hlen] at hi
        rw [hget i hi]
        have h1 := (hq i (by omega)).1
        rw [add_plain] at h1
        exact ⟨V i, h1, (hq i (by omega)).2.1⟩
    · have := hw ((((List.range len).map D).length + ((List.range (m - len)).map fun j => D (len + j)).length) * Tryd.prog.bytesOf 22) (by simp only [DataW.weights, Tryd.underlying38 ]; exact List.mem_cons_self ..)
      rw [Tryd.bytesNodes] at this
      simp only [List.length_map, List.length_range, reachBytes] at this
      rw [hlen]; omega
    · intro y hy
      obtain ⟨i, hi, rfl⟩ := List.mem_map.1 hy
      rw [List.mem_range] at hi
      exact (hq i (by omega)).2.2 fun n hn => hw n (by
        simp only [DataW.weights, Tryd.underlying38, List.mem_cons, List.mem_append]
        exact .inr (.inl (mem_weightsAll (List.mem_map.2 ⟨i, List.mem_range.2 hi, rfl⟩) hn)))

theorem open_made {fuel : Nat} {cs : List Value} {x : DataW H × List MemPlace} (h : DataW.trod enc Tryd.prog w 0 (fun _ => true) true fuel 40 cs = some x) :
    ∃ (op n : Int) (nm : ByteArray) (ao : Option Addr) (cap : Nat) (ps : List (List Nd)), cs = [.int .i64 op, .int .i64 n, .string nm, .slice ao ps.length cap] ∧ RdL w ao cap ps ∧ nm.size ≤ maxLen ∧ ((∀ n ∈ x.1.weights Tryd.prog 40, n ≤ reachBytes) → ps.length * 24 ≤ 140737488355328 ∧ ∀ l ∈ ps, Fit l) := by
  obtain ⟨xs, n, _, rfl, hl, hxl, hall⟩ := DataW.trod_struct Tryd.underlying40 h
  rw [Tryd.cellsMade] at hl
  obtain ⟨v0, v1, v2, v3, rfl⟩ := len4 cs hl
  obtain ⟨x0, x1, x2, x3, rfl⟩ := len4 xs hxl
  have g0 : DataW.trod enc Tryd.prog w 0 (fun _ => true) true n 3 (([v0, v1, v2, v3].drop 0).take (Tryd.prog.cellsOf 3)) = some x0 := hall 0 _ rfl
  have g1 : DataW.trod enc Tryd.prog w 0 (fun _ => true) true n 2 (([v0, v1, v2, v3].drop 1).take (Tryd.prog.cellsOf 2)) = some x1 := hall 1 _ rfl
  have g2 : DataW.trod enc Tryd.prog w 0 (fun _ => true) true n 9 (([v0, v1, v2, v3].drop 2).take (Tryd.prog.cellsOf 9)) = some x2 := hall 2 _ rfl
  have g3 : DataW.trod enc Tryd.prog w 0 (fun _ => true) true n 38 (([v0, v1, v2, v3].drop 3).take (Tryd.prog.cellsOf 38)) = some x3 := hall 3 _ rfl
  rw [Tryd.cells3] at g0
  rw [Tryd.cells2] at g1
  rw [Tryd.cellsStr] at g2
  rw [Tryd.cellsLists] at g3
  obtain ⟨z0, k0, _, _⟩ := DataW.trod_int Tryd.underlying3 g0
  obtain ⟨z1, k1, _, _⟩ := DataW.trod_int Tryd.underlying2 g1
  obtain ⟨s, k2, _, hs⟩ := DataW.trod_string Tryd.underlying9 g2
  simp at k0 k1 k2
  subst k0; subst k1; subst k2
  obtain ⟨ao, cap, ps, rfl, hR, hw⟩ := open_lists (v := v3) g3
  refine ⟨z0, z1, s, ao, cap, ps, rfl, hR, hs, fun hh => hw fun q hq => hh q ?_⟩
  simp only [DataW.weights, Tryd.underlying40 ]
  exact DataW.weights_mem_each (j := 3) (t := 38) (d := x3.1) rfl rfl q hq
end
end Go.Proofs.YtbapjhlichjhoaaDoor
