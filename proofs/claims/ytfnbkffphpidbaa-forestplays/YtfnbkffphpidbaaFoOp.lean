/-
  An argument that is a script, opened: what it reads as; the end of a plain row.
-/
import Derived.Test.YtfnbkffphpidbaaFoL1
import Derived.Test.YtfnbkffphpidbaaRows
import Derived.WalkKit
import Derived.ProofKit
import Derived.OpenShut
import Derived.Deep.DeepHandedRow
import Derived.Deep.Slices
import Derived.SizedLaws
import Derived.WideKeyArgs
set_option linter.unusedSimpArgs false
set_option linter.unusedVariables false
namespace Go.Proofs.Ytfnbkffphpidbaa
open Go.RowKit Go.ChangeShapes Go.WideShapes Go.Deep Go.ChangeAt

/-- A call of a script. -/
structure Cl9 where
  kind : Int
  a : Int
  b : Int
  why : Int
def cl90 : Cl9 := ⟨0, 0, 0, 0⟩
structure ClAt (w : World) (b o : Nat) (x : Cl9) : Prop where
  c0 : w.cell? ⟨b, o, none⟩ = some (.int .i64 x.kind)
  c1 : w.cell? ⟨b, o + 1, none⟩ = some (.int .i64 x.a)
  c2 : w.cell? ⟨b, o + 2, none⟩ = some (.int .i64 x.b)
  c3 : w.cell? ⟨b, o + 3, none⟩ = some (.int .i64 x.why)
/-- A slice that reads as a script. -/
def Scr (w : World) (ao : Option Addr) (cap : Nat) (l : List Cl9) : Prop :=
  (l.length ≤ cap ∧ cap ≤ maxLen) ∧ (l = [] ∨ ∃ b o, ao = some ⟨b, o, none⟩ ∧ b < w.heap.size ∧ ∀ i, i < l.length → ClAt w b (o + i * 4) (l.getD i cl90))
theorem Scr.below {w w' : World} {ao : Option Addr} {cap : Nat} {l : List Cl9} (h : Scr w ao cap l) (hb : Below w.heap.size w w') : Scr w' ao cap l := by
  refine ⟨h.1, h.2.imp id fun ⟨b, o, e, hl, hc⟩ => ⟨b, o, e, Nat.lt_of_lt_of_le hl hb.size, fun i hi => ?_⟩⟩
  have := hc i hi
  exact ⟨(hb.cell (p := ⟨b, o + i * 4, none⟩) hl).trans this.c0, (hb.cell (p := ⟨b, o + i * 4 + 1, none⟩) hl).trans this.c1, (hb.cell (p := ⟨b, o + i * 4 + 2, none⟩) hl).trans this.c2, (hb.cell (p := ⟨b, o + i * 4 + 3, none⟩) hl).trans this.c3⟩

theorem Try.laidOut : laidOutB Try.prog = true := by kernel_rfl
theorem Try.cells3 : Try.prog.cellsOf 3 = 1 := by kernel_rfl
theorem Try.cellsOp : Try.prog.cellsOf 32 = 4 := by kernel_rfl
theorem Try.bytesOp : Try.prog.bytesOf 32 = 32 := by kernel_rfl
theorem own : ownKnob Try.prog.godebug = none := by kernel_rfl

theorem len4 {α : Type} (l : List α) (h : l.length = 4) : ∃ a b c d, l = [a, b, c, d] := by
  match l, h with
  | [a, b, c, d], _ => exact ⟨a, b, c, d, rfl⟩
theorem spot_none {w : World} {a : Addr} {v : Value} (h : w.cell? a = some v) : a.spot = none := by
  unfold World.cell? at h
  split at h
  · split at h
    · cases h
    · rename_i hs; simpa using hs
  · cases h

section
variable {H : Type} {enc : TypeId × Value → H} {w : World}

/-- One call. -/
theorem open_op {fuel : Nat} {cs : List Value} {x : DataW H × List MemPlace} (h : DataW.trod enc Try.prog w 0 (fun _ => true) true fuel 32 cs = some x) :
    ∃ y : Cl9, cs = [.int .i64 y.kind, .int .i64 y.a, .int .i64 y.b, .int .i64 y.why] := by
  obtain ⟨xs, n, _, rfl, hl, hxl, hall⟩ := DataW.trod_struct Try.underlying32 h
  rw [Try.cellsOp] at hl
  obtain ⟨v0, v1, v2, v3, rfl⟩ := len4 cs hl
  obtain ⟨x0, x1, x2, x3, rfl⟩ := len4 xs hxl
  have g0 : DataW.trod enc Try.prog w 0 (fun _ => true) true n 3 (([v0, v1, v2, v3].drop 0).take (Try.prog.cellsOf 3)) = some x0 := hall 0 _ rfl
  have g1 : DataW.trod enc Try.prog w 0 (fun _ => true) true n 3 (([v0, v1, v2, v3].drop 1).take (Try.prog.cellsOf 3)) = some x1 := hall 1 _ rfl
  have g2 : DataW.trod enc Try.prog w 0 (fun _ => true) true n 3 (([v0, v1, v2, v3].drop 2).take (Try.prog.cellsOf 3)) = some x2 := hall 2 _ rfl
  have g3 : DataW.trod enc Try.prog w 0 (fun _ => true) true n 3 (([v0, v1, v2, v3].drop 3).take (Try.prog.cellsOf 3)) = some x3 := hall 3 _ rfl
  rw [Try.cells3] at g0 g1 g2 g3
  obtain ⟨z0, k0, _, _⟩ := DataW.trod_int Try.underlying3 g0
  obtain ⟨z1, k1, _, _⟩ := DataW.trod_int Try.underlying3 g1
  obtain ⟨z2, k2, _, _⟩ := DataW.trod_int Try.underlying3 g2
  obtain ⟨z3, k3, _, _⟩ := DataW.trod_int Try.underlying3 g3
  simp at k0 k1 k2 k3
  subst k0; subst k1; subst k2; subst k3
  exact ⟨⟨z0, z1, z2, z3⟩, rfl⟩

/-- The whole argument. -/
theorem open_ops {fuel : Nat} {v : Value} {x : DataW H × List MemPlace} (h : DataW.trod enc Try.prog w 0 (fun _ => true) true fuel 22 [v] = some x) :
    ∃ (ao : Option Addr) (cap : Nat) (l : List Cl9), v = .slice ao l.length cap ∧ Scr w ao cap l ∧ ((∀ n ∈ x.1.weights Try.prog 22, n ≤ reachBytes) → l.length * 32 ≤ 140737488351232) := by
  rcases open_slice Try.underlying22 h with ⟨hcs, rfl⟩ | ⟨a, len, cap, m, n, D, Pl, hcs, _, hl, hm, hmm, rfl, hx⟩
  · simp only [List.cons.injEq, and_true] at hcs
    subst hcs
    exact ⟨none, 0, [], rfl, ⟨⟨by simp, by simp⟩, .inl rfl⟩, fun _ => by simp⟩
  · simp only [List.cons.injEq, and_true] at hcs
    subst hcs
    simp only [if_true] at hmm
    subst hmm
    have each : ∀ i, i < m → ∃ y : Cl9, ∃ cs', w.cells? 0 (a.add (i * 4)) 4 = some cs' ∧ cs' = [.int .i64 y.kind, .int .i64 y.a, .int .i64 y.b, .int .i64 y.why] := by
      intro i hi
      obtain ⟨cs', h1, h2⟩ := hx i hi
      rw [Try.cellsOp] at h1
      obtain ⟨y, e⟩ := open_op h2
      exact ⟨y, cs', h1, e⟩
    have : Inhabited Cl9 := ⟨cl90⟩
    obtain ⟨q, hq⟩ := choose_lt each
    have hlen : ((List.range len).map fun i => q i).length = len := by simp
    have hget : ∀ i, i < len → ((List.range len).map fun i => q i).getD i cl90 = q i := fun i hi => by simp [hi]
    refine ⟨some a, m, (List.range len).map fun i => q i, by rw [hlen], ⟨⟨by rw [hlen]; exact hl, hm⟩, ?_⟩, fun hw => ?_⟩
    · by_cases h0 : len = 0
      · left; subst h0; rfl
      · right
        have hc0 : w.cell? a = some (.int .i64 (q 0).kind) := by
          obtain ⟨cs', h1, rfl⟩ := hq 0 (by omega)
          have := (World.cells?_some h1).2.2 0 (by omega)
          rw [Nat.zero_mul] at this
          exact this
        obtain ⟨b, o, sp⟩ := a
        have hsp : sp = none := spot_none hc0
        subst hsp
        refine ⟨b, o, rfl, World.block_lt_of_cell? _ _ hc0, fun i hi => ?_⟩
        rw [hlen] at hi
        rw [hget i hi]
        obtain ⟨cs', h1, rfl⟩ := hq i (by omega)
        have hcell := (World.cells?_some h1).2.2
        rw [add_plain] at hcell
        refine ⟨?_, ?_, ?_, ?_⟩
        · have := hcell 0 (by omega); rw [add_plain] at this; exact this
        · have := hcell 1 (by omega); rw [add_plain] at this; exact this
        · have := hcell 2 (by omega); rw [add_plain] at this; exact this
        · have := hcell 3 (by omega); rw [add_plain] at this; exact this
    · have := hw ((((List.range len).map D).length + ((List.range (m - len)).map fun j => D (len + j)).length) * Try.prog.bytesOf 32) (by simp only [DataW.weights, Try.underlying22 ]; exact List.mem_cons_self ..)
      rw [Try.bytesOp] at this
      simp only [List.length_map, List.length_range, reachBytes] at this
      rw [hlen]; omega
end

/-- THE END OF A CALL THAT ONLY ADDS MEMORY: its bool, and the arguments as they were. -/
theorem post_below {H : Type} {enc : TypeId × Value → H} {P : Program} {f : Func} {s : ChangeSpec} {W W' : World} {args : Array Value} {v : Value} {ds gs : List (DataW H)} {before pa pv : List MemPlace}
    (hW : DataW.Whole enc P f.params.toList s.vars false W args.toList ds gs before)
    (hres : ∀ (b : Nat) (sp : Nat → Bool) (hd : Bool), DataW.TrodAll enc P W' b sp hd f.resultTypes.toList (v.resultList f.resultTypes.size) (s.fn H (ds ++ gs)).results [])
    (hargs : ∀ sp : Nat → Bool, (∀ p ∈ before, sp p.block = true) → DataW.TrodAll enc P W' 0 sp true f.params.toList args.toList (s.fn H (ds ++ gs)).args pa)
    (hvars : ∀ sp : Nat → Bool, (∀ p ∈ before, sp p.block = true) → DataW.TrodVars enc P W' sp s.vars (s.fn H (ds ++ gs)).vars pv)
    (hps : before = pa ++ pv) (hk : W.keptBut W' (· ∈ before)) : s.post enc P f false true false false W args v W' := by
  have hold : ∀ p ∈ before, (fun b => decide (b < W.heap.size)) p.block = true := fun p hp => by simpa using hW.lt p hp
  refine ⟨ds, gs, before, [], pa, pv, hW, hres _ _ _, hargs _ hold, hvars _ hold, World.keptBut_mono (fun p hp => ⟨hp, ?_⟩) hk, fun h => by cases h⟩
  rw [hps, List.mem_append] at hp
  exact Or.inr hp
end Go.Proofs.Ytfnbkffphpidbaa
