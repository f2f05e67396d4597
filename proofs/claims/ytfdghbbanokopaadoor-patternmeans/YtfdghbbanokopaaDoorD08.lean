/-
  EwOpen, EwP, NmPure, ShPure.
-/
import Derived.Test.YtfdghbbanokopaaDoorChecked
import GoSem.PinnedTables
import GoSem.Claim
import GoSem.ClaimJoined
import GoSem.ClaimMapViews
import Derived.JoinedTies
import Derived.KernelRfl
import Derived.Shelf.Unicode.DecodeSlow
import Derived.Laws.RangeAny
import Derived.Shelf.Strconv.Itoa0
import Derived.Shelf.Unicode.DecodeAny
import Derived.Test.YtfdghbbanokopaaDoorProg
import Derived.WalkKit
import Derived.Deep.DeepFit
import Derived.Lib.OthersKept
import Derived.Lib.RuneCountTail
import Derived.Lib.LaidU8
import Derived.MakeChecks
import Derived.ProofKit
import Derived.OpenShut
import Derived.Deep.DeepHandedRow
import Derived.Deep.AppendLies
import Derived.Deep.OwnRows
import Derived.Laws.AppendOwnNone
import Derived.Deep.QuietTactic
import Derived.BigQuiet
import Derived.Deep.RegionWith
import Derived.Laws.DeepStrings4
import Derived.Deep.Slices
import Derived.SizedLaws
import Derived.RowKit
import Derived.Laws.Entries
import Derived.Below
import Derived.Lib.LaidTab
import Derived.Lib.MapLaws
import Derived.Sort.Walk0
import Derived.Lib.ItoaNum
import Derived.Test.YtfdghbbanokopaaDoorRows
import Derived.Test.YtfdghbbanokopaaDoorD01
import Derived.Test.YtfdghbbanokopaaDoorD02
import Derived.Test.YtfdghbbanokopaaDoorD03
import Derived.Test.YtfdghbbanokopaaDoorD04
import Derived.Test.YtfdghbbanokopaaDoorD05
import Derived.Test.YtfdghbbanokopaaDoorD06
import Derived.Test.YtfdghbbanokopaaDoorD07
set_option linter.unusedSimpArgs false
set_option linter.unusedVariables false
namespace Go.Proofs.YtfdghbbanokopaaDoor
open Go.RowKit Go.Lib Go.ChangeShapes Go.WideShapes Go.Deep

theorem Tryd.cellsBind : Tryd.prog.cellsOf 52 = 2 := by kernel_rfl
theorem Tryd.bytesBind : Tryd.prog.bytesOf 52 = 24 := by kernel_rfl
theorem spot_noneB {w : World} {a : Addr} {v : Value} (h : w.cell? a = some v) : a.spot = none := by
  unfold World.cell? at h
  split at h
  · split at h
    · cases h
    · rename_i hs; simpa using hs
  · cases h
theorem len2E {α : Type} (l : List α) (h : l.length = 2) : ∃ a b, l = [a, b] := by
  match l, h with
  | [a, b], _ => exact ⟨a, b, rfl⟩
section
variable {H : Type} {enc : TypeId × Value → H} {w : World}
theorem open_bind {fuel : Nat} {cs : List Value} {x : DataW H × List MemPlace} (h : DataW.trod enc Tryd.prog w 0 (fun _ => true) true fuel 52 cs = some x) :
    ∃ y : Bd, cs = [.string y.1, .int .i64 y.2] ∧ i6 y.2 ∧ y.1.size ≤ maxLen := by
  obtain ⟨xs, n, _, rfl, hl, hxl, hall⟩ := DataW.trod_struct Tryd.underlying52 h
  rw [Tryd.cellsBind] at hl
  obtain ⟨v0, v1, rfl⟩ := len2E cs hl
  obtain ⟨x0, x1, rfl⟩ := len2E xs hxl
  have g0 : DataW.trod enc Tryd.prog w 0 (fun _ => true) true n 9 (([v0, v1].drop 0).take (Tryd.prog.cellsOf 9)) = some x0 := hall 0 _ rfl
  have g1 : DataW.trod enc Tryd.prog w 0 (fun _ => true) true n 2 (([v0, v1].drop 1).take (Tryd.prog.cellsOf 2)) = some x1 := hall 1 _ rfl
  rw [Tryd.cellsStr] at g0
  rw [Tryd.cells2] at g1
  obtain ⟨s, k0, _, hs⟩ := DataW.trod_string Tryd.underlying9 g0
  obtain ⟨z1, k1, _, hw⟩ := DataW.trod_int Tryd.underlying2 g1
  simp at k0 k1
  subst k0; subst k1
  exact ⟨(s, z1), rfl, bounds_i64 hw, hs⟩
theorem open_binds {fuel : Nat} {v : Value} {x : DataW H × List MemPlace} (h : DataW.trod enc Tryd.prog w 0 (fun _ => true) true fuel 38 [v] = some x) :
    ∃ (ao : Option Addr) (cap : Nat) (l : List Bd), v = .slice ao l.length cap ∧ Bds w ao cap l ∧ BdOk l ∧ ((∀ n ∈ x.1.weights Tryd.prog 38, n ≤ reachBytes) → cap * 24 ≤ 140737488351232) := by
  rcases open_slice Tryd.underlying38 h with ⟨hcs, rfl⟩ | ⟨a, len, cap, m, n, D, Pl, hcs, _, hl, hm, hmm, rfl, hx⟩
  · simp only [List.cons.injEq, and_true] at hcs
    subst hcs
    exact ⟨none, 0, [], rfl, ⟨⟨by simp, by simp, fun _ => rfl⟩, .inl rfl⟩, fun _ h => by simp at h, fun _ => by simp⟩
  · simp only [List.cons.injEq, and_true] at hcs
    subst hcs
    simp only [if_true] at hmm
    subst hmm
    have each : ∀ i, i < m → ∃ y : Bd, ∃ cs', w.cells? 0 (a.add (i * 2)) 2 = some cs' ∧ cs' = [.string y.1, .int .i64 y.2] ∧ i6 y.2 ∧ y.1.size ≤ maxLen := by
      intro i hi
      obtain ⟨cs', h1, h2⟩ := hx i hi
      rw [Tryd.cellsBind] at h1
      obtain ⟨y, e, h3⟩ := open_bind h2
      exact ⟨y, cs', h1, e, h3⟩
    have : Inhabited Bd := ⟨bd0⟩
    obtain ⟨q, hq⟩ := choose_lt each
    have hlen : ((List.range len).map fun i => q i).length = len := by simp
    have hget : ∀ i, i < len → ((List.range len).map fun i => q i).getD i bd0 = q i := fun i hi => by simp [hi]
    refine ⟨some a, m, (List.range len).map fun i => q i, by rw [hlen], ⟨⟨by rw [hlen]; exact hl, hm, by simp⟩, ?_⟩, fun x hx => ?_, fun hw => ?_⟩
    · by_cases h0 : len = 0
      · left; subst h0; rfl
      · right
        have hc0 : w.cell? a = some (.string (q 0).1) := by
          obtain ⟨cs', h1, rfl, _⟩ := hq 0 (by omega)
          have := (World.cells?_some h1).2.2 0 (by omega)
          rw [Nat.zero_mul] at this
          exact this
        obtain ⟨b, o, sp⟩ := a
        have hsp : sp = none := spot_noneB hc0
        subst hsp
        refine ⟨b, o, rfl, World.block_lt_of_cell? _ _ hc0, fun i hi => ?_⟩
        rw [hlen] at hi
        rw [hget i hi]
        obtain ⟨cs', h1, rfl, h3⟩ := hq i (by omega)
        have hcell := (World.cells?_some h1).2.2
        rw [Go.WideShapes.add_plain] at hcell
        refine ⟨?_, ?_⟩
        · have := hcell 0 (by omega); rw [Go.WideShapes.add_plain] at this; exact this
        · have := hcell 1 (by omega); rw [Go.WideShapes.add_plain] at this; exact this
    · obtain ⟨i, hi, rfl⟩ := List.mem_map.1 hx
      obtain ⟨cs', _, _, h3⟩ := hq i (by have := List.mem_range.1 hi; omega)
      exact h3
    · have := hw ((((List.range len).map D).length + ((List.range (m - len)).map fun j => D (len + j)).length) * Tryd.prog.bytesOf 52) (by simp only [DataW.weights, Tryd.underlying38 ]; exact List.mem_cons_self ..)
      rw [Tryd.bytesBind] at this
      simp only [List.length_map, List.length_range, reachBytes] at this
      omega
end

theorem gGrpW : Tryd.prog.globalNamed "sorrel/arith.groups" = some 2 := by kernel_rfl
theorem gGrpTypeW : (Tryd.prog.globals[ 2 ]?).map (·.type) = some 191 := by kernel_rfl
theorem c_grpsW : Tryd.prog.cellsOf 191 = 18 := by kernel_rfl
theorem c_grpW : Tryd.prog.cellsOf 190 = 1 := by kernel_rfl
theorem u_grpW : Tryd.prog.underlying 190 = some (.int .i64) := by kernel_rfl
theorem grpData_eqW : Rows.laid_sorrel_arith_groups = (tabData .i64 grps : DataW Unit) := by kernel_rfl
theorem grps_of_readsW {w : World} (h : VarReads Tryd.prog w "sorrel/arith.groups" (tabData .i64 grps)) : GrpCells w := by
  obtain ⟨g, t, cs, fuel, p, hg, hty, hvar, hd⟩ := h
  obtain rfl := Option.some.inj (gGrpW.symm.trans hg)
  obtain rfl := Option.some.inj (gGrpTypeW.symm.trans hty)
  have e := cells_of_tab Tryd.underlying191 u_grpW c_grpW c_grpsW hd
  intro k hk
  rw [World.var?_cell hg hvar k, ← Array.getElem?_toList, e, List.getElem?_map]
  have hl : k < grps.length := hk
  rw [List.getElem?_eq_getElem hl, Option.map_some, List.getD_eq_getElem?_getD, List.getElem?_eq_getElem hl]
  rfl
def deValsW (d : DataW Unit) : Array Value := match d with
  | .agg l => (l.map fun x => match x with | .lit (.int k z) => Value.int k z | _ => Value.int .u8 0).toArray
  | _ => #[]
/-- What the rows over eval lay. -/
theorem tabW2_of_laid {W : World} (h : laidMetH Tryd.prog [("sorrel/runes.spans", Rows.laid_sorrel_runes_spans), ("sorrel/arith.groups", Rows.laid_sorrel_arith_groups)] W) : SpanCells W ∧ GrpCells W := by
  rw [MakeChecks.laidMetH_plain _ _ _ (by kernel_rfl)] at h
  have r2 := laidMet.reads h (n := "sorrel/arith.groups") (d := Rows.laid_sorrel_arith_groups) (by simp)
  have r4 := laidMet.reads h (n := "sorrel/runes.spans") (d := Rows.laid_sorrel_runes_spans) (by simp)
  rw [grpData_eqW] at r2
  rw [spansData_eq] at r4
  exact ⟨spans_of_reads r4, grps_of_readsW r2⟩
def laidWorldW (P : Program) (os : Os) : World :=
  { World.holding P os ⟨#[], #[], []⟩ with heap := setVals (setVals (setVals (setVals (World.holding P os ⟨#[], #[], []⟩).heap 3 spanVals) 0 firstVals) 1 acceptVals) 2 (deValsW Rows.laid_sorrel_arith_groups) }
end Go.Proofs.YtfdghbbanokopaaDoor

set_option linter.unusedSimpArgs false
set_option linter.unusedVariables false
namespace Go.Proofs.YtfdghbbanokopaaDoor

/-- The values at these places; none: one of them traps. -/
def argsO (os : List (Option Int)) : List Int → Option (List Int)
  | [] => some []
  | k :: ks => (os.getD k.toNat none).bind fun v => (argsO os ks).map (v :: ·)
/-- What an operator makes of numbers; none: it traps. -/
def apO (op : Int) (a : List Int) : Option Int := if (apR op a).2 = 0 then some (apR op a).1 else none
/-- A node, from the values of those ahead of it. -/
def vlN (bs : List Bd) (os : List (Option Int)) (x : Nd) : Option Int :=
  if x.op = 1 then some x.n else if x.op = 2 then some (getB bs x.name) else (argsO os x.kids).bind (apO x.op)
def vtR (bs : List Bd) (os : List (Option Int)) : List Nd → List (Option Int)
  | [] => os
  | x :: l => vtR bs (os ++ [vlN bs os x]) l
/-- The values of all places. -/
def vt (bs : List Bd) (l : List Nd) : List (Option Int) := vtR bs [] l
/-- The value at a place. -/
def vA (bs : List Bd) (l : List Nd) (i : Nat) : Option Int := (vt bs l).getD i none

theorem argsO_congr {os os' : List (Option Int)} : ∀ (ks : List Int), (∀ k ∈ ks, os'.getD k.toNat none = os.getD k.toNat none) → argsO os' ks = argsO os ks := by
  intro ks
  induction ks with
  | nil => intro _; rfl
  | cons k ks ih =>
    intro h
    simp only [argsO]
    rw [h k (by simp), ih (fun k hk => h k (by simp [hk]))]

theorem getD_snocV (os : List (Option Int)) (a : Option Int) (j : Nat) : (os ++ [a]).getD j none = if j < os.length then os.getD j none else if j = os.length then a else none := by
  simp only [List.getD_eq_getElem?_getD, List.getElem?_append]
  split
  · rfl
  · split
    · subst_vars; simp
    · rw [List.getElem?_eq_none (by simp; omega)]; rfl

theorem vtR_spec (bs : List Bd) : ∀ (l : List Nd) (os : List (Option Int)), (vtR bs os l).length = os.length + l.length ∧ (∀ j, j < os.length → (vtR bs os l).getD j none = os.getD j none) ∧
    ∀ i, i < l.length → (∀ k ∈ (l.getD i nd0).kids, 0 ≤ k ∧ k < (os.length + i : Nat)) → (vtR bs os l).getD (os.length + i) none = vlN bs (vtR bs os l) (l.getD i nd0) := by
  intro l
  induction l with
  | nil => intro os; exact ⟨by simp [vtR], fun j _ => rfl, fun i hi => by simp at hi⟩
  | cons x l ih =>
    intro os
    obtain ⟨h1, h2, h3⟩ := ih (os ++ [vlN bs os x])
    simp only [List.length_append, List.length_cons, List.length_nil] at h1 h2 h3
    have hj : ∀ j, j < os.length → (vtR bs os (x :: l)).getD j none = os.getD j none := fun j hj => by
      show (vtR bs (os ++ [vlN bs os x]) l).getD j none = _
      rw [h2 j (by omega), getD_snocV, if_pos hj]
    refine ⟨by show (vtR bs (os ++ [vlN bs os x]) l).length = _; rw [h1]; simp; omega, hj, fun i hi hk => ?_⟩
    cases i with
    | zero =>
      have e : (vtR bs os (x :: l)).getD (os.length + 0) none = vlN bs os x := by
        show (vtR bs (os ++ [vlN bs os x]) l).getD _ none = _
        rw [h2 _ (by omega), getD_snocV, if_neg (by omega), if_pos (by omega)]
      rw [e]
      show vlN bs os x = vlN bs _ x
      unfold vlN
      rw [argsO_congr x.kids (fun k hkk => hj _ (by have := hk k (by simpa using hkk); omega))]
    | succ i =>
      have := h3 i (by simp at hi; omega) (fun k hkk => by have := hk k (by simpa using hkk); omega)
      rw [show os.length + (i + 1) = os.length + 1 + i by omega]
      exact this

/-- All parts stand ahead. -/
def KidsUpE (l : List Nd) : Prop := ∀ i, i < l.length → ∀ k ∈ (l.getD i nd0).kids, 0 ≤ k ∧ k < (i : Int)

theorem vA_at {bs : List Bd} {l : List Nd} (h : KidsUpE l) {i : Nat} (hi : i < l.length) : vA bs l i = vlN bs (vt bs l) (l.getD i nd0) := by
  have := (vtR_spec bs l []).2.2 i hi (fun k hk => by have := h i hi k hk; simp; omega)
  simpa [vA, vt] using this

theorem chain_kids {fr : List Nat} (hl : Low fr) : ∀ (ks : List Int) (c a : Nat), chainL fr ks c = some a → ∀ k ∈ ks, 0 ≤ k ∧ k < (c : Int) := by
  intro ks
  induction ks with
  | nil => intro c a _ k hk; simp at hk
  | cons k ks ih =>
    intro c a h j hj
    simp only [chainL] at h
    split at h
    · cases h
    · rename_i hc
      rcases List.mem_cons.1 hj with rfl | hj
      · omega
      · have := ih _ _ h j hj
        have := hl (c - 1)
        omega
theorem BegOk.kidsUp {l : List Nd} {fr : List Nat} (h : BegOk l fr) : KidsUpE l := by
  intro i hi k hk
  exact chain_kids h.low _ _ _ (h.at_ i hi).2 k (by simpa using hk)

/-- Where a part traps, the whole does. -/
theorem chain_in {fr : List Nat} (hl : Low fr) : ∀ (ks : List Int) (c a : Nat), chainL fr ks c = some a → ∀ j, a ≤ j → j < c → ∃ k ∈ ks, 0 ≤ k ∧ fr.getD k.toNat 0 ≤ j ∧ j ≤ k.toNat := by
  intro ks
  induction ks with
  | nil => intro c a h j h1 h2; simp [chainL] at h; omega
  | cons k ks ih =>
    intro c a h j h1 h2
    simp only [chainL] at h
    split at h
    · cases h
    · rename_i hc
      have e : k.toNat = c - 1 := by omega
      by_cases hj : fr.getD (c - 1) 0 ≤ j
      · exact ⟨k, by simp, by omega, by rw [e]; exact hj, by omega⟩
      · obtain ⟨k', hk, h3⟩ := ih _ _ h j h1 (by omega)
        exact ⟨k', by simp [hk], h3⟩
theorem argsO_none {os : List (Option Int)} : ∀ (ks : List Int) (k : Int), k ∈ ks → os.getD k.toNat none = none → argsO os ks = none := by
  intro ks
  induction ks with
  | nil => intro k h; simp at h
  | cons a ks ih =>
    intro k h hn
    simp only [argsO]
    rcases List.mem_cons.1 h with rfl | h
    · rw [hn]; rfl
    · rw [ih k h hn]; cases os.getD a.toNat none <;> rfl
theorem kid_form {x : Nd} (h : formB x = true) {k : Int} (hk : k ∈ x.kids) : x.op ≠ 1 ∧ x.op ≠ 2 := by
  unfold formB fitB at h
  simp only [Bool.and_eq_true, decide_eq_true_eq] at h
  have hn : 0 < x.kids.length := List.length_pos_of_mem hk
  have h2 := h.1.1.2
  constructor <;> (intro e; rw [e] at h2; simp [aritI] at h2; rw [h2] at hk; simp at hk)
theorem trap_up {bs : List Bd} {l : List Nd} {fr : List Nat} (h : BegOk l fr) : ∀ i, i < l.length → ∀ j, fr.getD i 0 ≤ j → j ≤ i → vA bs l j = none → vA bs l i = none := by
  intro i
  induction i using Nat.strongRecOn with
  | _ i ih =>
    intro hi j h1 h2 hn
    by_cases e : j = i
    · subst e; exact hn
    obtain ⟨hf, hc⟩ := h.at_ i hi
    obtain ⟨k, hk, k0, k1, k2⟩ := chain_in h.low _ _ _ hc j h1 (by omega)
    have hk' : k ∈ (l.getD i nd0).kids := by simpa using hk
    have hlt := h.kidsUp i hi k hk'
    have := ih k.toNat (by omega) (by omega) j k1 k2 hn
    rw [vA_at h.kidsUp hi]
    obtain ⟨o1, o2⟩ := kid_form hf hk'
    unfold vlN
    rw [if_neg o1, if_neg o2, argsO_none _ k hk' this]; rfl

/-- The places that are whole and no part of another, ahead of c. -/
def rts (fr : List Nat) : Nat → Nat → List Nat
  | 0, _ => []
  | f + 1, c => if c = 0 then [] else rts fr f (fr.getD (c - 1) 0) ++ [c - 1]
theorem rts_fuel {fr : List Nat} (hl : Low fr) : ∀ (f g c : Nat), c ≤ f → c ≤ g → rts fr f c = rts fr g c := by
  intro f
  induction f with
  | zero => intro g c hf _; obtain rfl : c = 0 := by omega
            cases g <;> simp [rts]
  | succ f ih =>
    intro g c hf hg
    cases g with
    | zero => obtain rfl : c = 0 := by omega
              simp [rts]
    | succ g =>
      simp only [rts]
      split
      · rfl
      · have := hl (c - 1)
        rw [ih g _ (by omega) (by omega)]
def rt (fr : List Nat) (c : Nat) : List Nat := rts fr c c
theorem rt_zero (fr : List Nat) : rt fr 0 = [] := rfl
theorem rt_pos {fr : List Nat} (hl : Low fr) {c : Nat} (hc : 0 < c) : rt fr c = rt fr (fr.getD (c - 1) 0) ++ [c - 1] := by
  obtain ⟨d, rfl⟩ : ∃ d, c = d + 1 := ⟨c - 1, by omega⟩
  have := hl d
  unfold rt
  simp only [rts, Nat.add_sub_cancel]
  rw [if_neg (by omega), rts_fuel hl d (fr.getD d 0) _ this (Nat.le_refl _)]
theorem rt_chain {fr : List Nat} (hl : Low fr) : ∀ (ks : List Int) (c a : Nat), chainL fr ks c = some a → rt fr c = rt fr a ++ ks.reverse.map Int.toNat := by
  intro ks
  induction ks with
  | nil => intro c a h; simp [chainL] at h; subst h; simp
  | cons k ks ih =>
    intro c a h
    simp only [chainL] at h
    split at h
    · cases h
    · rename_i hc
      rw [rt_pos hl (by omega), ih _ _ h]
      have e : k.toNat = c - 1 := by omega
      simp [e]

/-- A node put onto the numbers of those ahead of it; none: it traps. -/
def evN (bs : List Bd) (st : List Int) (x : Nd) : Option (List Int) :=
  if x.op = 1 then some (st ++ [x.n]) else if x.op = 2 then some (st ++ [getB bs x.name])
  else (apO x.op (st.drop (st.length - x.kids.length))).map fun v => st.take (st.length - x.kids.length) ++ [v]
/-- The numbers behind the first i nodes; none: one of them traps. -/
def evS (bs : List Bd) (l : List Nd) : Nat → Option (List Int)
  | 0 => some []
  | i + 1 => (evS bs l i).bind fun st => evN bs st (l.getD i nd0)

theorem argsO_all {os : List (Option Int)} : ∀ (ks : List Int), (∀ k ∈ ks, os.getD k.toNat none ≠ none) → argsO os ks = some (ks.map fun k => (os.getD k.toNat none).getD 0) := by
  intro ks
  induction ks with
  | nil => intro _; rfl
  | cons k ks ih =>
    intro h
    simp only [argsO, List.map_cons]
    rw [ih (fun k hk => h k (by simp [hk]))]
    have := h k (by simp)
    cases hc : os.getD k.toNat none with
    | none => exact absurd hc this
    | some v => rfl

/-- The numbers are the values of the places that are no part of another yet, as long as none has trapped. -/
theorem evS_rt {bs : List Bd} {l : List Nd} {fr : List Nat} (h : BegOk l fr) : ∀ i, i ≤ l.length →
    ((∀ j, j < i → vA bs l j ≠ none) → evS bs l i = some ((rt fr i).map fun p => (vA bs l p).getD 0)) := by
  intro i
  induction i with
  | zero => intro _ _; rfl
  | succ i ih =>
    intro hi hall
    have hi' : i < l.length := by omega
    have e0 := ih (by omega) (fun j hj => hall j (by omega))
    show (evS bs l i).bind _ = _
    rw [e0, Option.bind_some]
    obtain ⟨hf, hc⟩ := h.at_ i hi'
    have hv := vA_at (bs := bs) h.kidsUp hi'
    have hne := hall i (by omega)
    have hr := rt_pos h.low (c := i + 1) (by omega)
    rw [Nat.add_sub_cancel] at hr
    have hch := rt_chain h.low _ _ _ hc
    rw [List.reverse_reverse] at hch
    have hku := h.kidsUp i hi'
    generalize hx : l.getD i nd0 = x at *
    rw [hr, List.map_append, List.map_cons, List.map_nil]
    unfold evN
    unfold vlN at hv
    have hno : x.kids = [] → rt fr i = rt fr (fr.getD i 0) := fun e => by rw [hch, e]; simp
    have harity := hf
    unfold formB fitB at harity
    simp only [Bool.and_eq_true, decide_eq_true_eq] at harity
    have ha := harity.1.1.2
    by_cases o1 : x.op = 1
    · rw [if_pos o1] at hv ⊢
      have e : x.kids = [] := by rw [o1] at ha; simp [aritI] at ha; exact ha
      rw [hv, hno e]; rfl
    rw [if_neg o1] at hv ⊢
    by_cases o2 : x.op = 2
    · rw [if_pos o2] at hv ⊢
      have e : x.kids = [] := by rw [o2] at ha; simp [aritI] at ha; exact ha
      rw [hv, hno e]; rfl
    rw [if_neg o2] at hv ⊢
    have hal : ∀ k ∈ x.kids, (vt bs l).getD k.toNat none ≠ none := fun k hk => hall k.toNat (by have := hku k hk; omega)
    rw [argsO_all _ hal, Option.bind_some] at hv
    have hlen : ((rt fr i).map fun p => (vA bs l p).getD 0).length - x.kids.length = ((rt fr (fr.getD i 0)).map fun p => (vA bs l p).getD 0).length := by
      rw [hch]; simp
    rw [hlen, hch, List.map_append, List.drop_left, List.take_left]
    have em : (x.kids.map Int.toNat).map (fun p => (vA bs l p).getD 0) = x.kids.map fun k => ((vt bs l).getD k.toNat none).getD 0 := by
      rw [List.map_map]; rfl
    rw [em, ← hv]
    cases hc2 : vA bs l i with
    | none => exact absurd hc2 hne
    | some v => rfl

/-- The first place that traps does so on the way too. -/
theorem evS_none {bs : List Bd} {l : List Nd} {fr : List Nat} (h : BegOk l fr) (i : Nat) (hi : i < l.length) (hall : ∀ j, j < i → vA bs l j ≠ none) (hn : vA bs l i = none) (st : List Int) (hst : evS bs l i = some st) :
    evN bs st (l.getD i nd0) = none := by
  have e0 := evS_rt (bs := bs) h i (by omega) hall
  rw [hst] at e0
  have e1 := Option.some.inj e0
  obtain ⟨hf, hc⟩ := h.at_ i hi
  have hv := vA_at (bs := bs) h.kidsUp hi
  have hch := rt_chain h.low _ _ _ hc
  rw [List.reverse_reverse] at hch
  have hku := h.kidsUp i hi
  generalize hx : l.getD i nd0 = x at *
  unfold evN
  unfold vlN at hv
  by_cases o1 : x.op = 1
  · rw [if_pos o1, hn] at hv; cases hv
  rw [if_neg o1] at hv ⊢
  by_cases o2 : x.op = 2
  · rw [if_pos o2, hn] at hv; cases hv
  rw [if_neg o2] at hv ⊢
  have hal : ∀ k ∈ x.kids, (vt bs l).getD k.toNat none ≠ none := fun k hk => hall k.toNat (by have := hku k hk; omega)
  rw [argsO_all _ hal, Option.bind_some] at hv
  subst e1
  have hlen : ((rt fr i).map fun p => (vA bs l p).getD 0).length - x.kids.length = ((rt fr (fr.getD i 0)).map fun p => (vA bs l p).getD 0).length := by
    rw [hch]; simp
  rw [hlen, hch, List.map_append, List.drop_left, List.take_left]
  have em : (x.kids.map Int.toNat).map (fun p => (vA bs l p).getD 0) = x.kids.map fun k => ((vt bs l).getD k.toNat none).getD 0 := by
    rw [List.map_map]; rfl
  rw [em, ← hv, hn]; rfl

/-- How many places come to a number, from the first one on. -/
def okN (bs : List Bd) (l : List Nd) : Nat → Nat
  | 0 => 0
  | i + 1 => if okN bs l i = i ∧ vA bs l i ≠ none then i + 1 else okN bs l i
theorem okN_le (bs : List Bd) (l : List Nd) : ∀ i, okN bs l i ≤ i
  | 0 => Nat.le_refl _
  | i + 1 => by have := okN_le bs l i; unfold okN; split <;> omega
theorem okN_all (bs : List Bd) (l : List Nd) : ∀ i, ∀ j, j < okN bs l i → vA bs l j ≠ none := by
  intro i
  induction i with
  | zero => intro j hj; simp [okN] at hj
  | succ i ih =>
    intro j hj
    unfold okN at hj
    split at hj
    · rename_i h
      by_cases e : j = i
      · subst e; exact h.2
      · exact ih j (by omega)
    · exact ih j hj
theorem okN_not (bs : List Bd) (l : List Nd) : ∀ i, okN bs l i < i → vA bs l (okN bs l i) = none := by
  intro i
  induction i with
  | zero => intro h; omega
  | succ i ih =>
    intro h
    have hl := okN_le bs l i
    unfold okN at h ⊢
    split at h
    · omega
    · rename_i hc
      rw [if_neg hc]
      by_cases e : okN bs l i = i
      · rw [e]
        by_cases hv : vA bs l i = none
        · exact hv
        · exact absurd ⟨e, hv⟩ hc
      · exact ih (by omega)

/-- What Eval answers. -/
def evA (bs : List Bd) (l : List Nd) : Int × Int := if sndB l = true then (match vA bs l (l.length - 1) with | some v => (v, 0) | none => (0, 12)) else (0, 1)
/-- Of a sound list: all places come to a number just if the last does; then one number is left. -/
theorem snd_end {bs : List Bd} {l : List Nd} {fr : List Nat} (h : begL l = some fr) : (okN bs l l.length = l.length ↔ vA bs l (l.length - 1) ≠ none) ∧ (okN bs l l.length = l.length → evS bs l l.length = some [(vA bs l (l.length - 1)).getD 0]) := by
  obtain ⟨h0, h1, h2, h3⟩ := begL_some h
  have hb := begOk_of h2
  have a1 := okN_all bs l l.length
  have a2 := okN_not bs l l.length
  have a3 := okN_le bs l l.length
  refine ⟨⟨fun e => a1 _ (by omega), fun hne => ?_⟩, fun e => ?_⟩
  · by_cases e : okN bs l l.length = l.length
    · exact e
    · exact absurd (trap_up hb (l.length - 1) (by omega) (okN bs l l.length) (by omega) (by omega) (a2 (by omega))) hne
  · rw [evS_rt hb l.length (Nat.le_refl _) (fun j hj => a1 j (by omega)), rt_pos hb.low h0, h3, rt_zero]; rfl

theorem evN_len {bs : List Bd} {st st' : List Int} {x : Nd} (h : evN bs st x = some st') : st'.length ≤ st.length + 1 := by
  unfold evN at h
  split at h
  · cases h; simp
  · split at h
    · cases h; simp
    · rw [Option.map_eq_some_iff] at h
      obtain ⟨v, _, rfl⟩ := h
      simp
theorem evS_len {bs : List Bd} {l : List Nd} : ∀ (i : Nat) (st : List Int), evS bs l i = some st → st.length ≤ i
  | 0, st, h => by cases h; simp
  | i + 1, st, h => by
    rw [evS, Option.bind_eq_some_iff] at h
    obtain ⟨s1, h1, h2⟩ := h
    have := evS_len i s1 h1
    have := evN_len h2
    omega
/-- Where the way has come to place i, none ahead of it has trapped. -/
theorem evS_all {bs : List Bd} {l : List Nd} {fr : List Nat} (h : BegOk l fr) : ∀ (i : Nat) (st : List Int), i ≤ l.length → evS bs l i = some st → ∀ j, j < i → vA bs l j ≠ none := by
  intro i
  induction i with
  | zero => intro st _ _ j hj; omega
  | succ i ih =>
    intro st hi hs j hj
    rw [evS, Option.bind_eq_some_iff] at hs
    obtain ⟨s1, h1, h2⟩ := hs
    have ha := ih s1 (by omega) h1
    by_cases e : j = i
    · subst e
      intro hn
      rw [evS_none h j (by omega) ha hn s1 h1] at h2
      cases h2
    · exact ha j (by omega)
/-- The numbers of a node's parts are there. -/
theorem evS_kids {bs : List Bd} {l : List Nd} {fr : List Nat} (h : BegOk l fr) (i : Nat) (hi : i < l.length) (st : List Int) (hs : evS bs l i = some st) : (l.getD i nd0).kids.length ≤ st.length := by
  have e := evS_rt (bs := bs) h i (by omega) (evS_all h i st (by omega) hs)
  rw [hs] at e
  have e1 := Option.some.inj e
  have hch := rt_chain h.low _ _ _ (h.at_ i hi).2
  rw [e1, hch]
  simp
/-- Where the way ends. -/
theorem okN_end {bs : List Bd} {l : List Nd} {fr : List Nat} (h : BegOk l fr) (k : Nat) (st : List Int) (hk : k ≤ l.length) (hs : evS bs l k = some st) (he : k = l.length ∨ (k < l.length ∧ evN bs st (l.getD k nd0) = none)) : k = okN bs l l.length := by
  have ha := evS_all h k st hk hs
  have hle := okN_le bs l l.length
  have hnot := okN_not bs l l.length
  have hall := okN_all bs l l.length
  have h1 : k ≤ okN bs l l.length := by
    rcases Nat.lt_or_ge (okN bs l l.length) k with hlt | hge
    · exact absurd (hnot (by omega)) (ha _ hlt)
    · exact hge
  rcases he with he | ⟨he, hn⟩
  · omega
  · rcases Nat.lt_or_ge k (okN bs l l.length) with hlt | hge
    · have e := evS_rt (bs := bs) h (k + 1) (by omega) (fun j hj => hall j (by omega))
      rw [evS, hs, Option.bind_some, hn] at e
      cases e
    · omega
end Go.Proofs.YtfdghbbanokopaaDoor

set_option linter.unusedSimpArgs false
set_option linter.unusedVariables false
namespace Go.Proofs.YtfdghbbanokopaaDoor
open Go.Lib

/-! ### names -/
theorem nmF_chk (s : ByteArray) : ∀ (f pos n : Nat), nmF s f pos n = true → (chkF s f pos).2 = 0
  | 0, pos, n, h => rfl
  | f + 1, pos, n, h => by
    by_cases hp : pos < s.size
    · rw [nmF_step s f pos n hp] at h
      unfold nmS at h
      split at h
      · simp at h
      · rename_i hk
        have ho : onB (Utf8.decode s pos).1 = true := by
          cases hq : onB (Utf8.decode s pos).1 with
          | true => rfl
          | false => simp [hq] at hk
        rw [chkF_good s f pos hp (good_of_on s pos ho)]
        exact nmF_chk s f _ _ h
    · rw [chkF_end s _ pos hp]
theorem name_chk (s : ByteArray) (h : nameB s = true) : (chk s).2 = 0 := nmF_chk s _ _ _ h
theorem empty_chk (s : ByteArray) (h : s.toList.isEmpty = true) : (chk s).2 = 0 := by
  rw [toList_data] at h
  have hz : s.size = 0 := by
    have : s.data.toList = [] := by simpa using h
    show s.data.size = 0
    rw [← Array.length_toList, this]; rfl
  unfold chk
  rw [chkF_end s _ 0 (by omega)]

theorem nmF_size (s : ByteArray) : ∀ (f pos n : Nat), s.size ≤ pos + f → nmF s f pos n = true → s.size ≤ pos + 4 * (16 - n)
  | 0, pos, n, hf, h => by omega
  | f + 1, pos, n, hf, h => by
    by_cases hp : pos < s.size
    · have hw := width_pos s pos hp
      have hw4 : (Utf8.decode s pos).2 ≤ 4 := by
        rw [decode_at s pos]; exact (decodeN_width _ _ _ _ _).2
      have hn : n < 16 := by
        by_cases hn : 16 ≤ n
        · exfalso
          rw [nmF_step s f pos n hp] at h
          unfold nmS at h
          split at h
          · simp at h
          · rw [nmF_long s f _ (n + 1) (by omega)] at h; simp at h
        · omega
      rw [nmF_step s f pos n hp] at h
      unfold nmS at h
      split at h
      · simp at h
      · have := nmF_size s f _ _ (by omega) h
        omega
    · omega
theorem name_size (s : ByteArray) (h : nameB s = true) : s.size ≤ 64 := by
  have := nmF_size s s.size 0 0 (by omega) h
  omega

theorem form_name {x : Nd} (h : formB x = true) : (chk x.name).2 = 0 ∧ x.name.size ≤ 64 := by
  unfold formB fitB at h
  simp only [Bool.and_eq_true] at h
  obtain ⟨_, h⟩ := h
  split at h
  · exact ⟨name_chk _ h, name_size _ h⟩
  · refine ⟨empty_chk _ h, ?_⟩
    rw [toList_data] at h
    have : x.name.data.toList = [] := by simpa using h
    show x.name.data.size ≤ 64
    rw [← Array.length_toList, this]; simp
end Go.Proofs.YtfdghbbanokopaaDoor

set_option linter.unusedSimpArgs false
set_option linter.unusedVariables false
namespace Go.Proofs.YtfdghbbanokopaaDoor
open Go.Lib

/-! ### soundness -/
def fillN (x : Nd) : Nd := if x.op = 18 then { x with op := 2 } else x
def addNm (acc : List ByteArray) (x : Nd) : List ByteArray := if x.op = 18 then (if acc.any (fun y => decide (y = x.name)) = true then acc else acc ++ [x.name]) else acc
def hlsL (l : List Nd) : List ByteArray := l.foldl addNm []
theorem hlsL_snoc (l : List Nd) (x : Nd) : hlsL (l ++ [x]) = addNm (hlsL l) x := by simp [hlsL]
theorem addNm_len (acc : List ByteArray) (x : Nd) : (addNm acc x).length ≤ acc.length + 1 := by
  unfold addNm; split
  · split <;> simp
  · omega
theorem foldl_addNm_len : ∀ (l : List Nd) (acc : List ByteArray), (l.foldl addNm acc).length ≤ acc.length + l.length
  | [], acc => by simp
  | x :: l, acc => by
    have := foldl_addNm_len l (addNm acc x)
    have := addNm_len acc x
    simp; omega
theorem hlsL_len (l : List Nd) : (hlsL l).length ≤ l.length := by have := foldl_addNm_len l []; simpa [hlsL] using this
/-! ### texts -/
/-! ### the whole -/
def pt0 : Nd × ByteArray := (nd0, ⟨#[]⟩)
/-! ### sizes -/
/-- How much of the list a node's text may take. -/
def wgt (fr : List Nat) (k : Nat) : Nat := k + 1 - fr.getD k 0
def TlOk (fr : List Nat) (told : List (Nd × ByteArray)) : Prop := ∀ i, i < told.length → (told.getD i pt0).2.size ≤ 100 * wgt fr i
theorem TlOk.snoc {fr : List Nat} {told : List (Nd × ByteArray)} {x : Nd} {s : ByteArray} (hT : TlOk fr told) (hs : s.size ≤ 100 * wgt fr told.length) : TlOk fr (told ++ [(x, s)]) := by
  intro i hi
  simp only [List.length_append, List.length_cons, List.length_nil] at hi
  by_cases h : i < told.length
  · have := hT i h
    simpa [List.getElem?_append_left h] using this
  · have : i = told.length := by omega
    subst this
    simpa using hs
end Go.Proofs.YtfdghbbanokopaaDoor
