/-
  Frame, ExPure, ExArW, ExMem.
-/
import Derived.Test.YtjkcbigmebbkkaaDoorChecked
import GoSem.PinnedTables
import GoSem.Claim
import GoSem.ClaimJoined
import GoSem.ClaimMapViews
import Derived.JoinedTies
import Derived.KernelRfl
import Derived.Shelf.Unicode.DecodeSlow
import Derived.Laws.RangeAny
import Derived.Shelf.Strconv.Itoa0
import Derived.Shelf.Unicode.DecodeAny
import Derived.Test.YtjkcbigmebbkkaaDoorProg
import Derived.WalkKit
import Derived.Deep.DeepFit
import Derived.Lib.OthersKept
import Derived.Lib.RuneCountTail
import Derived.Lib.LaidU8
import Derived.MakeChecks
import Derived.ProofKit
import Derived.OpenShut
import Derived.Deep.DeepHandedRow
import Derived.Deep.AppendLies
import Derived.Deep.OwnRows
import Derived.Laws.AppendOwnNone
import Derived.Test.YtjkcbigmebbkkaaDoorRows
import Derived.Test.YtjkcbigmebbkkaaDoorZ01
set_option linter.unusedSimpArgs false
namespace Go.Proofs.YtjkcbigmebbkkaaDoor
open Go.RowKit Go.Lib

theorem c_first : Tryd.prog.cellsOf 21 = 1 := by kernel_rfl
theorem c_kind : Tryd.prog.cellsOf 3 = 1 := by kernel_rfl
theorem c_span : Tryd.prog.cellsOf 159 = 3 := by kernel_rfl
theorem gSpans : Tryd.prog.globalNamed "sorrel/runes.spans" = some 0 := by kernel_rfl
theorem gSpansType : (Tryd.prog.globals[ 0 ]?).map (·.type) = some 178 := by kernel_rfl

def spansData : DataW Unit := .agg (spanTab.map fun p => .agg [.lit (.int .i32 p.1), .lit (.int .i32 p.2.1), .lit (.int .i64 p.2.2)])
theorem spansData_eq : Rows.laid_sorrel_runes_spans = spansData := rfl

theorem spans_of_reads {w : World} (h : VarReads Tryd.prog w "sorrel/runes.spans" spansData) : SpanCells w := by
  intro k hk
  obtain ⟨g, t, cs, fuel, p, hg, hty, hvar, hd⟩ := h
  obtain rfl := Option.some.inj (gSpans.symm.trans hg)
  obtain rfl := Option.some.inj (gSpansType.symm.trans hty)
  obtain ⟨fuel', d, q, hdi, he⟩ := array_elem Tryd.underlying178 hd k hk
  have hkl : k < spanTab.length := by rw [spanTab_length]; exact hk
  have e : spanTab.getD k (0, 0, 0) = spanTab[k] := by simp [hkl]
  rw [List.getElem?_map, List.getElem?_eq_getElem hkl, Option.map_some, Option.some.injEq] at hdi
  rw [← e] at hdi
  generalize spanTab.getD k (0, 0, 0) = P at *
  obtain ⟨a, b, c⟩ := P
  simp only at hdi ⊢
  subst hdi
  rw [c_span] at he
  obtain ⟨xs, n, _, hx, hl, hxl, hall⟩ := DataW.trod_struct Tryd.underlying159 he
  have hxs : xs.map (·.1) = [.lit (.int .i32 a), .lit (.int .i32 b), .lit (.int .i64 c)] := by
    have := congrArg Prod.fst hx
    simpa using this.symm
  have g0 : DataW.trod (fun _ => ()) Tryd.prog w 0 (fun _ => true) false n 21 ((((cs.toList.drop (k * 3)).take 3).drop 0).take (Tryd.prog.cellsOf 21)) = xs[0]? := hall 0 _ rfl
  have g1 : DataW.trod (fun _ => ()) Tryd.prog w 0 (fun _ => true) false n 21 ((((cs.toList.drop (k * 3)).take 3).drop 1).take (Tryd.prog.cellsOf 21)) = xs[1]? := hall 1 _ rfl
  have g2 : DataW.trod (fun _ => ()) Tryd.prog w 0 (fun _ => true) false n 3 ((((cs.toList.drop (k * 3)).take 3).drop 2).take (Tryd.prog.cellsOf 3)) = xs[2]? := hall 2 _ rfl
  rw [c_first] at g0 g1
  rw [c_kind] at g2
  match xs, hxs with
  | [x0, x1, x2], hxs =>
    simp only [List.map_cons, List.map_nil, List.cons.injEq, and_true] at hxs
    obtain ⟨x0e, x1e, x2e⟩ := hxs
    simp only [List.getElem?_cons_zero, List.getElem?_cons_succ] at g0 g1 g2
    obtain ⟨z0, k0, d0, _⟩ := DataW.trod_int Tryd.underlying21 g0
    obtain ⟨z1, k1, d1, _⟩ := DataW.trod_int Tryd.underlying21 g1
    obtain ⟨z2, k2, d2, _⟩ := DataW.trod_int Tryd.underlying3 g2
    rw [d0] at x0e
    rw [d1] at x1e
    rw [d2] at x2e
    simp only [DataW.lit.injEq, Lit.int.injEq, true_and] at x0e x1e x2e
    subst x0e; subst x1e; subst x2e
    have f0 := congrArg (·[0]?) k0
    have f1 := congrArg (·[0]?) k1
    have f2 := congrArg (·[0]?) k2
    simp only [List.getElem?_take, List.getElem?_drop] at f0 f1 f2
    refine ⟨?_, ?_, ?_⟩
    · rw [World.var?_cell hg hvar (k * 3), ← Array.getElem?_toList]; simpa using f0
    · rw [World.var?_cell hg hvar (k * 3 + 1), ← Array.getElem?_toList]; simpa using f1
    · rw [World.var?_cell hg hvar (k * 3 + 2), ← Array.getElem?_toList]; simpa using f2

end Go.Proofs.YtjkcbigmebbkkaaDoor

namespace Go.Proofs.YtjkcbigmebbkkaaDoor
open Go.ChangeShapes Go.WideShapes Go.ChangeAt Go.RowKit Go.Lib

theorem own : ownKnob Tryd.prog.godebug = none := by kernel_rfl

def spanVals : Array Value := (spanTab.flatMap fun p => [Value.int .i32 p.1, Value.int .i32 p.2.1, Value.int .i64 p.2.2]).toArray
def firstVals : Array Value := (firstTab.map fun z => Value.int .u8 z).toArray
def acceptVals : Array Value := ((List.range 16).flatMap fun i => [Value.int .u8 (accLo i), Value.int .u8 (accHi i)]).toArray

def setVals (h : Array Obj) (g : Nat) (vs : Array Value) : Array Obj := h.modify g fun
  | .cells _ t frozen => .cells vs t frozen
  | o => o
def laidWorldOf (P : Program) (os : Os) : World :=
  { World.holding P os ⟨#[], #[], []⟩ with heap := setVals (setVals (setVals (World.holding P os ⟨#[], #[], []⟩).heap 0 spanVals) 1 firstVals) 2 acceptVals }

/-- THE END OF A CALL THAT ONLY ADDS MEMORY: its bool, and the arguments as they were. -/
theorem post_below {H : Type} {enc : TypeId × Value → H} {P : Program} {f : Func} {s : ChangeSpec} {W W' : World} {args : Array Value} {v : Value} {ds gs : List (DataW H)} {before pa pv : List MemPlace}
    (hW : DataW.Whole enc P f.params.toList s.vars false W args.toList ds gs before)
    (hres : ∀ (b : Nat) (sp : Nat → Bool) (hd : Bool), DataW.TrodAll enc P W' b sp hd f.resultTypes.toList (v.resultList f.resultTypes.size) (s.fn H (ds ++ gs)).results [])
    (hargs : ∀ sp : Nat → Bool, (∀ p ∈ before, sp p.block = true) → DataW.TrodAll enc P W' 0 sp true f.params.toList args.toList (s.fn H (ds ++ gs)).args pa)
    (hvars : ∀ sp : Nat → Bool, (∀ p ∈ before, sp p.block = true) → DataW.TrodVars enc P W' sp s.vars (s.fn H (ds ++ gs)).vars pv)
    (hps : before = pa ++ pv) (hk : W.keptBut W' (· ∈ before)) : s.post enc P f false true false false W args v W' := by
  have hold : ∀ p ∈ before, (fun b => decide (b < W.heap.size)) p.block = true := fun p hp => by simpa using hW.lt p hp
  refine ⟨ds, gs, before, [], pa, pv, hW, hres _ _ _, hargs _ hold, hvars _ hold, World.keptBut_mono (fun p hp => ⟨hp, ?_⟩) hk, fun h => by cases h⟩
  rw [hps, List.mem_append] at hp
  exact Or.inr hp
end Go.Proofs.YtjkcbigmebbkkaaDoor

set_option linter.unusedSimpArgs false
set_option linter.unusedVariables false
namespace Go.Proofs.YtjkcbigmebbkkaaDoor

structure Nd where
  op : Int
  n : Int
  name : ByteArray
  kids : List Int
  deriving DecidableEq

def nd0 : Nd := ⟨0, 0, ⟨#[]⟩, []⟩

def aritI (op : Int) : Int := if op = 1 ∨ op = 2 then 0 else if op = 3 ∨ op = 4 then 1 else if 5 ≤ op ∧ op ≤ 16 then 2 else if op = 17 then 3 else -1

theorem aritI_le (op : Int) : aritI op ≤ 3 := by
  unfold aritI; split <;> (try split) <;> (try split) <;> (try split) <;> omega
theorem aritI_ge (op : Int) : -1 ≤ aritI op := by
  unfold aritI; split <;> (try split) <;> (try split) <;> (try split) <;> omega

/-- May a node have all these together? -/
def fitB (op n : Int) (name : ByteArray) (parts : Int) : Bool :=
  decide (0 ≤ aritI op) && decide (parts = aritI op) && (decide (n = 0) || decide (op = 1)) && (if op = 2 then nameB name else name.toList.isEmpty)

def formB (x : Nd) : Bool := fitB x.op x.n x.name x.kids.length

theorem formB_kids {x : Nd} (h : formB x = true) : x.kids.length ≤ 3 := by
  unfold formB fitB at h
  simp only [Bool.and_eq_true, decide_eq_true_eq] at h
  have := aritI_le x.op
  omega

/-- From a cursor down through the kids, the last first. -/
def chainL (fr : List Nat) : List Int → Nat → Option Nat
  | [], c => some c
  | k :: ks, c => if c = 0 ∨ k ≠ (c : Int) - 1 then none else chainL fr ks (fr.getD (c - 1) 0)

def stp (fr : List Nat) (x : Nd) : Option (List Nat) := if formB x = true then (chainL fr x.kids.reverse fr.length).map (fun a => fr ++ [a]) else none

def begR (fr : List Nat) : List Nd → Option (List Nat)
  | [] => some fr
  | x :: l => (stp fr x).bind fun fr' => begR fr' l

def begL (l : List Nd) : Option (List Nat) :=
  if l.length = 0 ∨ 64 < l.length then none else (begR [] l).bind fun fr => if fr.getD (l.length - 1) 0 = 0 then some fr else none

def sndB (l : List Nd) : Bool := (begL l).isSome

/-- No entry is above its place. -/
def Low (fr : List Nat) : Prop := ∀ j, fr.getD j 0 ≤ j

theorem chainL_le {fr : List Nat} (h : Low fr) : ∀ (ks : List Int) (c a : Nat), chainL fr ks c = some a → a ≤ c := by
  intro ks
  induction ks with
  | nil => intro c a h; simp [chainL] at h; omega
  | cons k ks ih =>
    intro c a hh
    simp only [chainL] at hh
    split at hh
    · cases hh
    · have := ih _ _ hh
      have := h (c - 1)
      omega

theorem stp_some {fr fr' : List Nat} {x : Nd} (h : stp fr x = some fr') : formB x = true ∧ ∃ a, chainL fr x.kids.reverse fr.length = some a ∧ fr' = fr ++ [a] := by
  unfold stp at h
  split at h
  · rename_i hf
    cases hc : chainL fr x.kids.reverse fr.length with
    | none => rw [hc] at h; cases h
    | some a => rw [hc] at h; simp at h; exact ⟨hf, a, rfl, h.symm⟩
  · cases h

theorem getD_snoc (fr : List Nat) (a j : Nat) : (fr ++ [a]).getD j 0 = if j < fr.length then fr.getD j 0 else if j = fr.length then a else 0 := by
  simp only [List.getD_eq_getElem?_getD, List.getElem?_append]
  split
  · rfl
  · split
    · subst_vars; simp
    · rw [List.getElem?_eq_none (by simp; omega)]; rfl

theorem Low.snoc {fr : List Nat} (h : Low fr) {a : Nat} (ha : a ≤ fr.length) : Low (fr ++ [a]) := by
  intro j
  rw [getD_snoc]
  split
  · exact h j
  · split <;> omega

theorem begR_append (fr : List Nat) (l m : List Nd) : begR fr (l ++ m) = (begR fr l).bind fun fr' => begR fr' m := by
  induction l generalizing fr with
  | nil => simp [begR]
  | cons x l ih =>
    simp only [List.cons_append, begR]
    cases stp fr x with
    | none => rfl
    | some fr' => simp [ih]

theorem begR_snoc (fr : List Nat) (l : List Nd) (x : Nd) : begR fr (l ++ [x]) = (begR fr l).bind fun fr' => stp fr' x := by
  rw [begR_append]
  congr
  funext fr'
  simp [begR]

theorem begR_some {l : List Nd} : ∀ {fr fr' : List Nat}, begR fr l = some fr' → Low fr → fr'.length = fr.length + l.length ∧ Low fr' ∧ (∀ j, j < fr.length → fr'.getD j 0 = fr.getD j 0) ∧ ∀ x ∈ l, formB x = true := by
  induction l with
  | nil => intro fr fr' h hl; simp [begR] at h; subst h; simp [hl]
  | cons x l ih =>
    intro fr fr' h hl
    simp only [begR] at h
    cases hs : stp fr x with
    | none => rw [hs] at h; cases h
    | some f2 =>
      rw [hs] at h
      simp only [Option.bind_some] at h
      obtain ⟨hf, a, hc, rfl⟩ := stp_some hs
      obtain ⟨h1, h2, h3, h4⟩ := ih h (hl.snoc (chainL_le hl _ _ _ hc))
      refine ⟨by simp at h1 ⊢; omega, h2, fun j hj => ?_, ?_⟩
      · rw [h3 j (by simp; omega), getD_snoc, if_pos hj]
      · intro y hy
        rcases List.mem_cons.1 hy with rfl | hy
        · exact hf
        · exact h4 y hy

theorem low_nil : Low [] := by intro j; simp

theorem begR_take_none {l : List Nd} {i : Nat} (h : begR [] (l.take i) = none) : begR [] l = none := by
  rw [← List.take_append_drop i l, begR_append, h]; rfl

theorem begL_some {l : List Nd} {fr : List Nat} (h : begL l = some fr) : 0 < l.length ∧ l.length ≤ 64 ∧ begR [] l = some fr ∧ fr.getD (l.length - 1) 0 = 0 := by
  unfold begL at h
  split at h
  · cases h
  · rename_i hl
    cases hr : begR [] l with
    | none => rw [hr] at h; cases h
    | some f =>
      rw [hr] at h
      simp only [Option.bind_some] at h
      split at h
      · cases h; exact ⟨by omega, by omega, rfl, by assumption⟩
      · cases h

theorem begL_mk {l : List Nd} {fr : List Nat} (h0 : 0 < l.length) (h1 : l.length ≤ 64) (hr : begR [] l = some fr) (h2 : fr.getD (l.length - 1) 0 = 0) : begL l = some fr := by
  unfold begL
  rw [if_neg (by omega), hr, Option.bind_some, if_pos h2]

theorem begR_len {l : List Nd} {fr : List Nat} (h : begR [] l = some fr) : fr.length = l.length := by
  have := (begR_some h low_nil).1
  simpa using this
end Go.Proofs.YtjkcbigmebbkkaaDoor

set_option linter.unusedSimpArgs false
set_option linter.unusedVariables false
namespace Go.Proofs.YtjkcbigmebbkkaaDoor
open Go.RowKit Go.Lib

theorem ret2' {k l : IntKind} {a b c d : Int} (h : a = c) (h' : b = d) : Ending.returned (.tuple #[.int k a, .int l b]) = .returned (.tuple #[.int k c, .int l d]) := by rw [h, h']

def arK (op : Int) : Int := max (aritI op) 0
def arE (op : Int) : Int := if aritI op < 0 then 2 else 0
theorem ar_of {op a : Int} (h : aritI op = a) (h0 : 0 ≤ a) : arK op = a ∧ arE op = 0 := by
  unfold arK arE; rw [h, if_neg (by omega)]; exact ⟨by omega, rfl⟩
theorem ar_none {op : Int} (h : aritI op = -1) : arK op = 0 ∧ arE op = 2 := by
  unfold arK arE; rw [h]; exact ⟨by decide, by decide⟩

theorem ar_spec (op : Int) : (arK op = 0 ∧ arE op = 0 ∧ (op = 1 ∨ op = 2)) ∨ (arK op = 1 ∧ arE op = 0 ∧ (op = 3 ∨ op = 4)) ∨ (arK op = 2 ∧ arE op = 0 ∧ 5 ≤ op ∧ op ≤ 16) ∨ (arK op = 3 ∧ arE op = 0 ∧ op = 17) ∨ (arK op = 0 ∧ arE op = 2 ∧ (op < 1 ∨ 17 < op)) := by
  by_cases h1 : op = 1 ∨ op = 2
  · have := ar_of (op := op) (a := 0) (by simp [aritI, h1]) (by omega); omega
  by_cases h2 : op = 3 ∨ op = 4
  · have := ar_of (op := op) (a := 1) (by simp [aritI, h1, h2]) (by omega); omega
  by_cases h3 : 5 ≤ op ∧ op ≤ 16
  · have := ar_of (op := op) (a := 2) (by simp [aritI, h1, h2, h3]) (by omega); omega
  by_cases h4 : op = 17
  · have := ar_of (op := op) (a := 3) (by simp [aritI, h4]) (by omega); omega
  · have := ar_none (op := op) (by simp [aritI, h1, h2, h3, h4]); omega

set_option maxHeartbeats 400000 in
theorem arity_any (op : Int) (w : World) :
    Calls Tryd.prog 73 #[.int .i64 op] w fun e w' => e = .returned (.tuple #[.int .i64 (arK op), .int .i64 (arE op)]) ∧ w' = w := by
  go_enter Tryd.func73, Tryd.ntmps73
  go_wp2
  all_goals
    go_ret2
    have hs := ar_spec op
    simp only [beq_iff_eq, beq_eq_false_iff_ne, ne_eq] at *
    exact ⟨ret2' (by omega) (by omega), trivial⟩

set_option maxHeartbeats 400000 in
theorem fits_any (op n : Int) (name : ByteArray) (parts : Int) (w : World) (hT : SpanCells w) :
    Calls Tryd.prog 50 #[.int .i64 op, .int .i64 n, .string name, .int .i64 parts] w fun e w' => e = .returned (.bool (fitB op n name parts)) ∧ Below w.heap.size w w' := by
  have HF : Hid (fitB op n name parts = (!(arE op != 0) && !(parts != arK op) && !(n != 0 && op != 1) && (if op = 2 then nameB name else name.toList.isEmpty))) := by
    show _ = _
    by_cases h : 0 ≤ aritI op
    · rw [(ar_of rfl h).1, (ar_of rfl h).2]
      unfold fitB
      rw [Bool.eq_iff_iff]
      simp [h]
    · have h1 : aritI op = -1 := by have := aritI_ge op; omega
      rw [(ar_none h1).1, (ar_none h1).2]
      unfold fitB
      simp [h1]
  have ca : Hid (∀ W, Calls Tryd.prog 73 #[.int .i64 op] W fun e w' => e = .returned (.tuple #[.int .i64 (arK op), .int .i64 (arE op)]) ∧ w' = W) := arity_any op
  generalize arK op = k at *
  generalize arE op = x at *
  go_enter Tryd.func50, Tryd.ntmps50
  go_wp2_with (first | (go_at_call 73; refine (ca.out _).mono ?_; rintro e w' ⟨rfl, rfl⟩) | (go_at_call 52; refine (name_spans _ _ hT).mono ?_; rintro e w' ⟨rfl, hb⟩))
  all_goals
    go_ret
    first
    | exact ⟨ret_bool (by rw [HF.out]; simp_all), hb⟩
    | exact ⟨ret_bool (by rw [HF.out]; simp_all), Below.refl _ _⟩
end Go.Proofs.YtjkcbigmebbkkaaDoor

set_option linter.unusedSimpArgs false
set_option linter.unusedVariables false
namespace Go.Proofs.YtjkcbigmebbkkaaDoor
open Go.RowKit Go.Lib

/-- The slice v reads as the numbers ks, in blocks below B. -/
def Ints (w : World) (B : Nat) (v : Value) (ks : List Int) : Prop :=
  ∃ ao cap, v = .slice ao ks.length cap ∧ ks.length ≤ cap ∧ (cap ≤ maxLen ∧ (ao = none → cap = 0)) ∧ (ks = [] ∨ ∃ b o, ao = some ⟨b, o, none⟩ ∧ b < B ∧ ∀ j, j < ks.length → w.cell? ⟨b, o + j, none⟩ = some (.int .i64 (ks.getD j 0)))

/-- The four cells of a node at b, o. -/
structure NodeAt (w : World) (B b o : Nat) (x : Nd) (kv : Value) : Prop where
  c0 : w.cell? ⟨b, o, none⟩ = some (.int .i64 x.op)
  c1 : w.cell? ⟨b, o + 1, none⟩ = some (.int .i64 x.n)
  c2 : w.cell? ⟨b, o + 2, none⟩ = some (.string x.name)
  c3 : w.cell? ⟨b, o + 3, none⟩ = some kv
  kids : Ints w B kv x.kids

/-- The slice v reads as the nodes l, in blocks below B. -/
def Nodes (w : World) (B : Nat) (v : Value) (l : List Nd) : Prop :=
  ∃ ao cap, v = .slice ao l.length cap ∧ l.length ≤ cap ∧ cap ≤ maxLen ∧ (l = [] ∨ ∃ b o, ao = some ⟨b, o, none⟩ ∧ b < B ∧ ∀ i, i < l.length → ∃ kv, NodeAt w B b (o + i * 4) (l.getD i nd0) kv)

theorem Ints.below {w w' : World} {B B' : Nat} {v : Value} {ks : List Int} (h : Ints w B v ks) (hb : Below B w w') (hB : B ≤ B') : Ints w' B' v ks := by
  obtain ⟨ao, cap, rfl, h1, h2, h3⟩ := h
  refine ⟨ao, cap, rfl, h1, h2, ?_⟩
  rcases h3 with h3 | ⟨b, o, rfl, hlt, hc⟩
  · exact .inl h3
  · exact .inr ⟨b, o, rfl, by omega, fun j hj => (hb.cell (p := ⟨b, o + j, none⟩) hlt).trans (hc j hj)⟩

theorem NodeAt.below {w w' : World} {B B' b o : Nat} {x : Nd} {kv : Value} (h : NodeAt w B b o x kv) (hb : Below B w w') (hB : B ≤ B') (hlt : b < B) : NodeAt w' B' b o x kv :=
  ⟨(hb.cell (p := ⟨b, o, none⟩) hlt).trans h.c0, (hb.cell (p := ⟨b, o + 1, none⟩) hlt).trans h.c1, (hb.cell (p := ⟨b, o + 2, none⟩) hlt).trans h.c2, (hb.cell (p := ⟨b, o + 3, none⟩) hlt).trans h.c3, h.kids.below hb hB⟩

theorem Nodes.below {w w' : World} {B B' : Nat} {v : Value} {l : List Nd} (h : Nodes w B v l) (hb : Below B w w') (hB : B ≤ B') : Nodes w' B' v l := by
  obtain ⟨ao, cap, rfl, h1, h2, h3⟩ := h
  refine ⟨ao, cap, rfl, h1, h2, ?_⟩
  rcases h3 with h3 | ⟨b, o, rfl, hlt, hc⟩
  · exact .inl h3
  · exact .inr ⟨b, o, rfl, by omega, fun i hi => let ⟨kv, hk⟩ := hc i hi; ⟨kv, hk.below hb hB hlt⟩⟩

theorem Ints.mono {w : World} {B B' : Nat} {v : Value} {ks : List Int} (h : Ints w B v ks) (hB : B ≤ B') : Ints w B' v ks := h.below (Below.refl _ _) hB
theorem Nodes.mono {w : World} {B B' : Nat} {v : Value} {l : List Nd} (h : Nodes w B v l) (hB : B ≤ B') : Nodes w B' v l := h.below (Below.refl _ _) hB

/-- Numbers of the call's own. -/
def OwnI (w : World) (base : Nat) (v : Value) (ks : List Int) : Prop := w.ownsRow base 3 1 v ks.length (ks.map (Value.int .i64))

def ndCells : List (Nd × Value) → List Value
  | [] => []
  | (x, kv) :: r => .int .i64 x.op :: .int .i64 x.n :: .string x.name :: kv :: ndCells r

theorem ndCells_length (l : List (Nd × Value)) : (ndCells l).length = l.length * 4 := by
  induction l with
  | nil => rfl
  | cons a r ih => obtain ⟨x, kv⟩ := a; simp [ndCells, ih]; omega
theorem ndCells_append (l m : List (Nd × Value)) : ndCells (l ++ m) = ndCells l ++ ndCells m := by
  induction l with
  | nil => rfl
  | cons a r ih => obtain ⟨x, kv⟩ := a; simp [ndCells, ih]
theorem ndCells_at (l : List (Nd × Value)) (i : Nat) (x : Nd) (kv : Value) (h : l[i]? = some (x, kv)) :
    (ndCells l)[i * 4]? = some (.int .i64 x.op) ∧ (ndCells l)[i * 4 + 1]? = some (.int .i64 x.n) ∧ (ndCells l)[i * 4 + 2]? = some (.string x.name) ∧ (ndCells l)[i * 4 + 3]? = some kv := by
  induction l generalizing i with
  | nil => simp at h
  | cons a r ih =>
    obtain ⟨y, kw⟩ := a
    cases i with
    | zero => simp at h; obtain ⟨rfl, rfl⟩ := h; simp [ndCells]
    | succ i =>
      have := ih i (by simpa using h)
      have e : (i + 1) * 4 = i * 4 + 4 := by omega
      rw [e]
      simpa [ndCells] using this

/-- Nodes of the call's own; 'p' tells the kids' slices. -/
structure OwnP (w : World) (base : Nat) (v : Value) (p : List (Nd × Value)) : Prop where
  row : w.ownsRow base 71 4 v p.length (ndCells p)
  kids : ∀ q ∈ p, OwnI w base q.2 q.1.kids

def OwnN (w : World) (base : Nat) (v : Value) (l : List Nd) : Prop := ∃ p : List (Nd × Value), p.map (·.1) = l ∧ OwnP w base v p

theorem OwnN_nil (w : World) (base : Nat) : OwnN w base (.slice none 0 0) [] := ⟨[], rfl, World.ownsRow_nil _ _ _ _, by simp⟩
theorem OwnI_nil (w : World) (base : Nat) : OwnI w base (.slice none 0 0) [] := World.ownsRow_nil _ _ _ _

theorem ownsRow_mono {w : World} {base base' : Nat} {e : TypeId} {size : Nat} {v : Value} {n : Nat} {xs : List Value} (h : w.ownsRow base e size v n xs) (hb : base' ≤ base) : w.ownsRow base' e size v n xs := by
  obtain ⟨h1, h2⟩ := h
  refine ⟨h1, ?_⟩
  rcases h2 with h2 | ⟨g, cap, cur, hv, hg, r⟩
  · exact .inl h2
  · exact .inr ⟨g, cap, cur, hv, by omega, r⟩

/-- A row is another's block only if the elements' types are one. -/
theorem ownBlock_ne {w : World} {base base' : Nat} {e e' : TypeId} {s s' n n' : Nat} {v v' : Value} {xs xs' : List Value} (h : w.ownsRow base e s v n xs) (h' : w.ownsRow base' e' s' v' n' xs') (hne : e ≠ e') : v.ownBlock = none ∨ v.ownBlock ≠ v'.ownBlock := by
  rcases h.2 with ⟨rfl, _⟩ | ⟨g, cap, cur, rfl, _, hg, _⟩
  · exact .inl rfl
  · right
    rcases h'.2 with ⟨rfl, _⟩ | ⟨g', cap', cur', rfl, _, hg', _⟩
    · simp [Value.ownBlock]
    · intro hh
      simp [Value.ownBlock] at hh
      subst hh
      rw [hg] at hg'
      simp at hg'
      exact hne hg'.2

theorem OwnI.below {w w' : World} {base : Nat} {v : Value} {ks : List Int} (h : OwnI w base v ks) (hb : Below w.heap.size w w') : OwnI w' base v ks :=
  World.ownsRow.kept (row := none) h ⟨hb.os, hb.tape, hb.output, hb.size, fun k hk _ => hb.block k hk⟩ (by
    cases hv : v.ownBlock
    · exact .inl rfl
    · exact .inr (by simp))
theorem ownsRow_below {w w' : World} {base : Nat} {e : TypeId} {size : Nat} {v : Value} {n : Nat} {xs : List Value} (h : w.ownsRow base e size v n xs) (hb : Below w.heap.size w w') : w'.ownsRow base e size v n xs :=
  World.ownsRow.kept (row := none) h ⟨hb.os, hb.tape, hb.output, hb.size, fun k hk _ => hb.block k hk⟩ (by
    cases hv : v.ownBlock
    · exact .inl rfl
    · exact .inr (by simp))
theorem OwnP.below {w w' : World} {base : Nat} {v : Value} {p : List (Nd × Value)} (h : OwnP w base v p) (hb : Below w.heap.size w w') : OwnP w' base v p :=
  ⟨ownsRow_below h.row hb, fun q hq => (h.kids q hq).below hb⟩
theorem OwnN.below {w w' : World} {base : Nat} {v : Value} {l : List Nd} (h : OwnN w base v l) (hb : Below w.heap.size w w') : OwnN w' base v l := let ⟨p, h1, h2⟩ := h; ⟨p, h1, h2.below hb⟩

/-- Behind an append of one node (its kids owned) onto owned nodes. -/
theorem OwnP.snoc {w w1 : World} {base : Nat} {v v' : Value} {p : List (Nd × Value)} {x : Nd} {kv : Value} (h : OwnP w base v p) (hk : OwnI w base kv x.kids)
    (hown : w1.ownsRow base 71 4 v' (p.length + 1) (ndCells p ++ [.int .i64 x.op, .int .i64 x.n, .string x.name, kv])) (hg : w.grownBy w1 v.ownBlock) : OwnP w1 base v' (p ++ [(x, kv)]) := by
  refine ⟨?_, fun q hq => ?_⟩
  · rw [ndCells_append]; simpa [ndCells] using hown
  · rcases List.mem_append.1 hq with hq | hq
    · exact World.ownsRow.kept (h.kids q hq) hg (ownBlock_ne (h.kids q hq) h.row (by decide))
    · simp at hq; subst hq
      exact World.ownsRow.kept hk hg (ownBlock_ne hk h.row (by decide))

theorem Ints_of_own {w : World} {base B : Nat} {v : Value} {ks : List Int} (h : OwnI w base v ks) (hB : w.heap.size ≤ B) : Ints w B v ks := by
  obtain ⟨h1, h2⟩ := h
  rcases h2 with ⟨rfl, h0⟩ | ⟨g, cap, cur, rfl, hb, hg, hn, hm, hs, ht⟩
  · have : ks = [] := List.length_eq_zero_iff.1 h0
    subst this
    exact ⟨none, 0, rfl, by simp, by simp, .inl rfl⟩
  · refine ⟨_, cap, rfl, hn, ⟨hm, by simp⟩, .inr ⟨g, 0, rfl, ?_, fun j hj => ?_⟩⟩
    · have := lt_of_block hg; omega
    · have hc : w.cell? ⟨g, 0 + j, none⟩ = cur[j]? := by simp [World.cell?, hg]
      rw [hc]
      have : cur.toList[j]? = (cur.toList.take (ks.length * 1))[j]? := by rw [List.getElem?_take, if_pos (by omega)]
      rw [← Array.getElem?_toList, this, ht]
      simp [hj]

theorem Nodes_of_ownP {w : World} {base B : Nat} {v : Value} {p : List (Nd × Value)} (h : OwnP w base v p) (hB : w.heap.size ≤ B) : Nodes w B v (p.map (·.1)) := by
  obtain ⟨h1, h2⟩ := h.row
  rcases h2 with ⟨rfl, h0⟩ | ⟨g, cap, cur, rfl, hb, hg, hn, hm, hs, ht⟩
  · have : p = [] := List.length_eq_zero_iff.1 h0
    subst this
    exact ⟨none, 0, rfl, by simp, by simp, .inl rfl⟩
  · refine ⟨_, cap, by simp, by simpa using hn, hm, .inr ⟨g, 0, rfl, ?_, fun i hi => ?_⟩⟩
    · have := lt_of_block hg; omega
    · simp at hi
      have hp : p[i]? = some (p[i].1, p[i].2) := by simp [hi]
      have hx : (p.map (·.1)).getD i nd0 = p[i].1 := by simp [hi]
      obtain ⟨a0, a1, a2, a3⟩ := ndCells_at p i _ _ hp
      have hc : ∀ j, j < p.length * 4 → w.cell? ⟨g, j, none⟩ = (ndCells p)[j]? := by
        intro j hj
        have : w.cell? ⟨g, j, none⟩ = cur[j]? := by simp [World.cell?, hg]
        rw [this, ← Array.getElem?_toList, ← ht, List.getElem?_take, if_pos (by omega)]
      rw [hx]
      refine ⟨p[i].2, ?_, ?_, ?_, ?_, ?_⟩
      · rw [Nat.zero_add, hc _ (by omega), a0]
      · rw [Nat.zero_add, hc _ (by omega), a1]
      · rw [Nat.zero_add, hc _ (by omega), a2]
      · rw [Nat.zero_add, hc _ (by omega), a3]
      · exact Ints_of_own (h.kids p[i] (by simp)) hB

theorem Nodes_of_own {w : World} {base B : Nat} {v : Value} {l : List Nd} (h : OwnN w base v l) (hB : w.heap.size ≤ B) : Nodes w B v l := by
  obtain ⟨p, rfl, h⟩ := h
  exact Nodes_of_ownP h hB

theorem Tryd.info3 : (Tryd.prog.info? 3).map (fun i => (i.zero, i.size, i.bytes)) = some (some (.int .i64 0), 1, 8) := by kernel_rfl
theorem Tryd.infoNode : (Tryd.prog.info? 71).map (fun i => (i.zero, i.size, i.bytes)) = some (some (.agg #[.int .i64 0, .int .i64 0, .string ⟨#[]⟩, .slice none 0 0]), 4, 56) := by kernel_rfl
end Go.Proofs.YtjkcbigmebbkkaaDoor
