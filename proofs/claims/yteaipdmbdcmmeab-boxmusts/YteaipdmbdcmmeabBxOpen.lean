/-
  An argument that is a list of cells, opened: what it reads as.
-/
import Derived.Test.YteaipdmbdcmmeabBxPure
import Derived.Test.YteaipdmbdcmmeabRows
import Derived.WalkKit
import Derived.ProofKit
import Derived.OpenShut
import Derived.Deep.DeepHandedRow
import Derived.Deep.Slices
import Derived.SizedLaws
import Derived.WideKeyArgs
set_option linter.unusedSimpArgs false
set_option linter.unusedVariables false
namespace Go.Proofs.Yteaipdmbdcmmeab
open Go.RowKit Go.ChangeShapes Go.WideShapes Go.Deep Go.ChangeAt

theorem Try.laidOut : laidOutB Try.prog = true := by kernel_rfl
theorem Try.cells3 : Try.prog.cellsOf 3 = 1 := by kernel_rfl
theorem Try.cells2 : Try.prog.cellsOf 2 = 1 := by kernel_rfl
theorem Try.cellsStr : Try.prog.cellsOf 9 = 1 := by kernel_rfl
theorem Try.cellsCell : Try.prog.cellsOf 30 = 7 := by kernel_rfl
theorem Try.bytesCell : Try.prog.bytesOf 30 = 64 := by kernel_rfl
theorem own : ownKnob Try.prog.godebug = none := by kernel_rfl

theorem len7 {α : Type} (l : List α) (h : l.length = 7) : ∃ a b c d e f g, l = [a, b, c, d, e, f, g] := by
  match l, h with
  | [a, b, c, d, e, f, g], _ => exact ⟨a, b, c, d, e, f, g, rfl⟩
theorem spot_none {w : World} {a : Addr} {v : Value} (h : w.cell? a = some v) : a.spot = none := by
  unfold World.cell? at h
  split at h
  · split at h
    · cases h
    · rename_i hs; simpa using hs
  · cases h

section
variable {H : Type} {enc : TypeId × Value → H} {w : World}

/-- One cell. -/
theorem open_cell {fuel : Nat} {cs : List Value} {x : DataW H × List MemPlace} (h : DataW.trod enc Try.prog w 0 (fun _ => true) true fuel 30 cs = some x) :
    ∃ y : Cl, cs = [.int .i64 y.kind, .int .i64 y.op, .int .i64 y.n, .string y.name, .int .i64 y.a, .int .i64 y.b, .int .i64 y.c] ∧ y.name.size ≤ maxLen := by
  obtain ⟨xs, n, _, rfl, hl, hxl, hall⟩ := DataW.trod_struct Try.underlying30 h
  rw [Try.cellsCell] at hl
  obtain ⟨v0, v1, v2, v3, v4, v5, v6, rfl⟩ := len7 cs hl
  obtain ⟨x0, x1, x2, x3, x4, x5, x6, rfl⟩ := len7 xs hxl
  have g0 : DataW.trod enc Try.prog w 0 (fun _ => true) true n 3 (([v0, v1, v2, v3, v4, v5, v6].drop 0).take (Try.prog.cellsOf 3)) = some x0 := hall 0 _ rfl
  have g1 : DataW.trod enc Try.prog w 0 (fun _ => true) true n 3 (([v0, v1, v2, v3, v4, v5, v6].drop 1).take (Try.prog.cellsOf 3)) = some x1 := hall 1 _ rfl
  have g2 : DataW.trod enc Try.prog w 0 (fun _ => true) true n 2 (([v0, v1, v2, v3, v4, v5, v6].drop 2).take (Try.prog.cellsOf 2)) = some x2 := hall 2 _ rfl
  have g3 : DataW.trod enc Try.prog w 0 (fun _ => true) true n 9 (([v0, v1, v2, v3, v4, v5, v6].drop 3).take (Try.prog.cellsOf 9)) = some x3 := hall 3 _ rfl
  have g4 : DataW.trod enc Try.prog w 0 (fun _ => true) true n 3 (([v0, v1, v2, v3, v4, v5, v6].drop 4).take (Try.prog.cellsOf 3)) = some x4 := hall 4 _ rfl
  have g5 : DataW.trod enc Try.prog w 0 (fun _ => true) true n 3 (([v0, v1, v2, v3, v4, v5, v6].drop 5).take (Try.prog.cellsOf 3)) = some x5 := hall 5 _ rfl
  have g6 : DataW.trod enc Try.prog w 0 (fun _ => true) true n 3 (([v0, v1, v2, v3, v4, v5, v6].drop 6).take (Try.prog.cellsOf 3)) = some x6 := hall 6 _ rfl
  rw [Try.cells3] at g0 g1 g4 g5 g6
  rw [Try.cells2] at g2
  rw [Try.cellsStr] at g3
  obtain ⟨z0, k0, _, _⟩ := DataW.trod_int Try.underlying3 g0
  obtain ⟨z1, k1, _, _⟩ := DataW.trod_int Try.underlying3 g1
  obtain ⟨z2, k2, _, _⟩ := DataW.trod_int Try.underlying2 g2
  obtain ⟨s, k3, _, hs⟩ := DataW.trod_string Try.underlying9 g3
  obtain ⟨z4, k4, _, _⟩ := DataW.trod_int Try.underlying3 g4
  obtain ⟨z5, k5, _, _⟩ := DataW.trod_int Try.underlying3 g5
  obtain ⟨z6, k6, _, _⟩ := DataW.trod_int Try.underlying3 g6
  simp at k0 k1 k2 k3 k4 k5 k6
  subst k0; subst k1; subst k2; subst k3; subst k4; subst k5; subst k6
  exact ⟨⟨z0, z1, z2, s, z4, z5, z6⟩, rfl, hs⟩

/-- The whole argument. -/
theorem open_cells {fuel : Nat} {v : Value} {x : DataW H × List MemPlace} (h : DataW.trod enc Try.prog w 0 (fun _ => true) true fuel 22 [v] = some x) :
    ∃ (ao : Option Addr) (cap : Nat) (l : List Cl), v = .slice ao l.length cap ∧ Cls w ao cap l ∧ ((∀ n ∈ x.1.weights Try.prog 22, n ≤ reachBytes) → l.length * 64 ≤ 140737488351232) := by
  rcases open_slice Try.underlying22 h with ⟨hcs, rfl⟩ | ⟨a, len, cap, m, n, D, Pl, hcs, _, hl, hm, hmm, rfl, hx⟩
  · simp only [List.cons.injEq, and_true] at hcs
    subst hcs
    exact ⟨none, 0, [], rfl, ⟨by simp, by simp, .inl rfl⟩, fun _ => by simp⟩
  · simp only [List.cons.injEq, and_true] at hcs
    subst hcs
    simp only [if_true] at hmm
    subst hmm
    have each : ∀ i, i < m → ∃ y : Cl, ∃ cs', w.cells? 0 (a.add (i * 7)) 7 = some cs' ∧ cs' = [.int .i64 y.kind, .int .i64 y.op, .int .i64 y.n, .string y.name, .int .i64 y.a, .int .i64 y.b, .int .i64 y.c] ∧ y.name.size ≤ maxLen := by
      intro i hi
      obtain ⟨cs', h1, h2⟩ := hx i hi
      rw [Try.cellsCell] at h1
      obtain ⟨y, e, h3⟩ := open_cell h2
      exact ⟨y, cs', h1, e, h3⟩
    have : Inhabited Cl := ⟨cl0⟩
    obtain ⟨q, hq⟩ := choose_lt each
    have hlen : ((List.range len).map fun i => q i).length = len := by simp
    have hget : ∀ i, i < len → ((List.range len).map fun i => q i).getD i cl0 = q i := fun i hi => by simp [hi]
    refine ⟨some a, m, (List.range len).map fun i => q i, by rw [hlen], ⟨by rw [hlen]; exact hl, hm, ?_⟩, fun hw => ?_⟩
    · by_cases h0 : len = 0
      · left; subst h0; rfl
      · right
        have hc0 : w.cell? a = some (.int .i64 (q 0).kind) := by
          obtain ⟨cs', h1, rfl, _⟩ := hq 0 (by omega)
          have := (World.cells?_some h1).2.2 0 (by omega)
          rw [Nat.zero_mul] at this
          exact this
        obtain ⟨b, o, sp⟩ := a
        have hsp : sp = none := spot_none hc0
        subst hsp
        refine ⟨b, o, rfl, World.block_lt_of_cell? _ _ hc0, fun i hi => ?_⟩
        rw [hlen] at hi
        rw [hget i hi]
        obtain ⟨cs', h1, rfl, h3⟩ := hq i (by omega)
        have hcell := (World.cells?_some h1).2.2
        rw [add_plain] at hcell
        refine ⟨?_, ?_, ?_, ?_, ?_, ?_, ?_⟩
        · have := hcell 0 (by omega); rw [add_plain] at this; exact this
        · have := hcell 1 (by omega); rw [add_plain] at this; exact this
        · have := hcell 2 (by omega); rw [add_plain] at this; exact this
        · have := hcell 3 (by omega); rw [add_plain] at this; exact this
        · have := hcell 4 (by omega); rw [add_plain] at this; exact this
        · have := hcell 5 (by omega); rw [add_plain] at this; exact this
        · have := hcell 6 (by omega); rw [add_plain] at this; exact this
    · have := hw ((((List.range len).map D).length + ((List.range (m - len)).map fun j => D (len + j)).length) * Try.prog.bytesOf 30) (by simp only [DataW.weights, Try.underlying22 ]; exact List.mem_cons_self ..)
      rw [Try.bytesCell] at this
      simp only [List.length_map, List.length_range, reachBytes] at this
      rw [hlen]; omega
end

/-- THE END OF A CALL THAT ONLY ADDS MEMORY: its bool, and the arguments as they were. -/
theorem post_below {H : Type} {enc : TypeId × Value → H} {P : Program} {f : Func} {s : ChangeSpec} {W W' : World} {args : Array Value} {v : Value} {ds gs : List (DataW H)} {before pa pv : List MemPlace}
    (hW : DataW.Whole enc P f.params.toList s.vars false W args.toList ds gs before)
    (hres : ∀ (b : Nat) (sp : Nat → Bool) (hd : Bool), DataW.TrodAll enc P W' b sp hd f.resultTypes.toList (v.resultList f.resultTypes.size) (s.fn H (ds ++ gs)).results [])
    (hargs : ∀ sp : Nat → Bool, (∀ p ∈ before, sp p.block = true) → DataW.TrodAll enc P W' 0 sp true f.params.toList args.toList (s.fn H (ds ++ gs)).args pa)
    (hvars : ∀ sp : Nat → Bool, (∀ p ∈ before, sp p.block = true) → DataW.TrodVars enc P W' sp s.vars (s.fn H (ds ++ gs)).vars pv)
    (hps : before = pa ++ pv) (hk : W.keptBut W' (· ∈ before)) : s.post enc P f false true false false W args v W' := by
  have hold : ∀ p ∈ before, (fun b => decide (b < W.heap.size)) p.block = true := fun p hp => by simpa using hW.lt p hp
  refine ⟨ds, gs, before, [], pa, pv, hW, hres _ _ _, hargs _ hold, hvars _ hold, World.keptBut_mono (fun p hp => ⟨hp, ?_⟩) hk, fun h => by cases h⟩
  rw [hps, List.mem_append] at hp
  exact Or.inr hp
end Go.Proofs.Yteaipdmbdcmmeab
