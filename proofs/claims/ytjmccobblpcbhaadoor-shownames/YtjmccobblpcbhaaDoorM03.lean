/-
  Frame, ExPure, OrdPure, RefStr.
-/
import Derived.Test.YtjmccobblpcbhaaDoorChecked
import GoSem.PinnedTables
import GoSem.Claim
import GoSem.ClaimJoined
import GoSem.ClaimMapViews
import Derived.JoinedTies
import Derived.KernelRfl
import Derived.Shelf.Unicode.DecodeSlow
import Derived.Laws.RangeAny
import Derived.Shelf.Strings.Builder1
import Derived.Shelf.Small.Utf8
import Derived.Shelf.Small.Bits
import Derived.Shelf.Strings.BuilderF
import Derived.Shelf.Strings.BuilderK
import Derived.Shelf.Strings.BuilderRune
import Derived.Shelf.Utf8.AppendRune
import Derived.Shelf.Strconv.Itoa0
import Derived.Shelf.Strconv.Itoa1
import Derived.Shelf.LaysM
import Derived.Shelf.Strconv.Itoa2
import Derived.Shelf.Strconv.Itoa3
import Derived.Shelf.Strconv.Itoa4
import Derived.Shelf.Strings.Prefix
import Derived.Shelf.Unicode.DecodeAny
import Derived.Test.YtjmccobblpcbhaaDoorProg
import Derived.WalkKit
import Derived.Deep.DeepFit
import Derived.Lib.OthersKept
import Derived.Lib.RuneCountTail
import Derived.Lib.LaidU8
import Derived.MakeChecks
import Derived.ProofKit
import Derived.OpenShut
import Derived.Deep.DeepHandedRow
import Derived.Lib.MapLaws
import Derived.Sort.Walk0
import Derived.Laws.DeepStrings4
import Derived.Test.YtjmccobblpcbhaaDoorRows
import Derived.Test.YtjmccobblpcbhaaDoorM01
import Derived.Test.YtjmccobblpcbhaaDoorM02
set_option linter.unusedSimpArgs false
namespace Go.Proofs.YtjmccobblpcbhaaDoor
open Go.RowKit Go.Lib

theorem c_first : Tryd.prog.cellsOf 21 = 1 := by kernel_rfl
theorem c_kind : Tryd.prog.cellsOf 3 = 1 := by kernel_rfl
theorem c_span : Tryd.prog.cellsOf 179 = 3 := by kernel_rfl
theorem gSpans : Tryd.prog.globalNamed "sorrel/runes.spans" = some 1 := by kernel_rfl
theorem gSpansType : (Tryd.prog.globals[ 1 ]?).map (·.type) = some 194 := by kernel_rfl

def spansData : DataW Unit := .agg (spanTab.map fun p => .agg [.lit (.int .i32 p.1), .lit (.int .i32 p.2.1), .lit (.int .i64 p.2.2)])
theorem spansData_eq : Rows.laid_sorrel_runes_spans = spansData := rfl

theorem spans_of_reads {w : World} (h : VarReads Tryd.prog w "sorrel/runes.spans" spansData) : SpanCells w := by
  intro k hk
  obtain ⟨g, t, cs, fuel, p, hg, hty, hvar, hd⟩ := h
  obtain rfl := Option.some.inj (gSpans.symm.trans hg)
  obtain rfl := Option.some.inj (gSpansType.symm.trans hty)
  obtain ⟨fuel', d, q, hdi, he⟩ := array_elem Tryd.underlying194 hd k hk
  have hkl : k < spanTab.length := by rw [spanTab_length]; exact hk
  have e : spanTab.getD k (0, 0, 0) = spanTab[k] := by simp [hkl]
  rw [List.getElem?_map, List.getElem?_eq_getElem hkl, Option.map_some, Option.some.injEq] at hdi
  rw [← e] at hdi
  generalize spanTab.getD k (0, 0, 0) = P at *
  obtain ⟨a, b, c⟩ := P
  simp only at hdi ⊢
  subst hdi
  rw [c_span] at he
  obtain ⟨xs, n, _, hx, hl, hxl, hall⟩ := DataW.trod_struct Tryd.underlying179 he
  have hxs : xs.map (·.1) = [.lit (.int .i32 a), .lit (.int .i32 b), .lit (.int .i64 c)] := by
    have := congrArg Prod.fst hx
    simpa using this.symm
  have g0 : DataW.trod (fun _ => ()) Tryd.prog w 0 (fun _ => true) false n 21 ((((cs.toList.drop (k * 3)).take 3).drop 0).take (Tryd.prog.cellsOf 21)) = xs[0]? := hall 0 _ rfl
  have g1 : DataW.trod (fun _ => ()) Tryd.prog w 0 (fun _ => true) false n 21 ((((cs.toList.drop (k * 3)).take 3).drop 1).take (Tryd.prog.cellsOf 21)) = xs[1]? := hall 1 _ rfl
  have g2 : DataW.trod (fun _ => ()) Tryd.prog w 0 (fun _ => true) false n 3 ((((cs.toList.drop (k * 3)).take 3).drop 2).take (Tryd.prog.cellsOf 3)) = xs[2]? := hall 2 _ rfl
  rw [c_first] at g0 g1
  rw [c_kind] at g2
  match xs, hxs with
  | [x0, x1, x2], hxs =>
    simp only [List.map_cons, List.map_nil, List.cons.injEq, and_true] at hxs
    obtain ⟨x0e, x1e, x2e⟩ := hxs
    simp only [List.getElem?_cons_zero, List.getElem?_cons_succ] at g0 g1 g2
    obtain ⟨z0, k0, d0, _⟩ := DataW.trod_int Tryd.underlying21 g0
    obtain ⟨z1, k1, d1, _⟩ := DataW.trod_int Tryd.underlying21 g1
    obtain ⟨z2, k2, d2, _⟩ := DataW.trod_int Tryd.underlying3 g2
    rw [d0] at x0e
    rw [d1] at x1e
    rw [d2] at x2e
    simp only [DataW.lit.injEq, Lit.int.injEq, true_and] at x0e x1e x2e
    subst x0e; subst x1e; subst x2e
    have f0 := congrArg (·[0]?) k0
    have f1 := congrArg (·[0]?) k1
    have f2 := congrArg (·[0]?) k2
    simp only [List.getElem?_take, List.getElem?_drop] at f0 f1 f2
    refine ⟨?_, ?_, ?_⟩
    · rw [World.var?_cell hg hvar (k * 3), ← Array.getElem?_toList]; simpa using f0
    · rw [World.var?_cell hg hvar (k * 3 + 1), ← Array.getElem?_toList]; simpa using f1
    · rw [World.var?_cell hg hvar (k * 3 + 2), ← Array.getElem?_toList]; simpa using f2

theorem u8Extra : U8Extra Tryd.prog Tryd.lays260_ren := ⟨by kernel_rfl, by kernel_rfl, by kernel_rfl, by kernel_rfl, by kernel_rfl, by kernel_rfl, by kernel_rfl⟩
theorem first_eq : Rows.laid_unicode_utf8_first = firstData := by kernel_rfl
theorem accept_eq : Rows.laid_unicode_utf8_acceptRanges = acceptData := by kernel_rfl

end Go.Proofs.YtjmccobblpcbhaaDoor

namespace Go.Proofs.YtjmccobblpcbhaaDoor
open Go.ChangeShapes Go.WideShapes Go.ChangeAt Go.RowKit Go.Lib

theorem own : ownKnob Tryd.prog.godebug = none := by kernel_rfl

def spanVals : Array Value := (spanTab.flatMap fun p => [Value.int .i32 p.1, Value.int .i32 p.2.1, Value.int .i64 p.2.2]).toArray
def firstVals : Array Value := (firstTab.map fun z => Value.int .u8 z).toArray
def acceptVals : Array Value := ((List.range 16).flatMap fun i => [Value.int .u8 (accLo i), Value.int .u8 (accHi i)]).toArray

def setVals (h : Array Obj) (g : Nat) (vs : Array Value) : Array Obj := h.modify g fun
  | .cells _ t frozen => .cells vs t frozen
  | o => o
/-- THE END OF A CALL THAT ONLY ADDS MEMORY: its bool, and the arguments as they were. -/
theorem post_below {H : Type} {enc : TypeId × Value → H} {P : Program} {f : Func} {s : ChangeSpec} {W W' : World} {args : Array Value} {v : Value} {ds gs : List (DataW H)} {before pa pv : List MemPlace}
    (hW : DataW.Whole enc P f.params.toList s.vars false W args.toList ds gs before)
    (hres : ∀ (b : Nat) (sp : Nat → Bool) (hd : Bool), DataW.TrodAll enc P W' b sp hd f.resultTypes.toList (v.resultList f.resultTypes.size) (s.fn H (ds ++ gs)).results [])
    (hargs : ∀ sp : Nat → Bool, (∀ p ∈ before, sp p.block = true) → DataW.TrodAll enc P W' 0 sp true f.params.toList args.toList (s.fn H (ds ++ gs)).args pa)
    (hvars : ∀ sp : Nat → Bool, (∀ p ∈ before, sp p.block = true) → DataW.TrodVars enc P W' sp s.vars (s.fn H (ds ++ gs)).vars pv)
    (hps : before = pa ++ pv) (hk : W.keptBut W' (· ∈ before)) : s.post enc P f false true false false W args v W' := by
  have hold : ∀ p ∈ before, (fun b => decide (b < W.heap.size)) p.block = true := fun p hp => by simpa using hW.lt p hp
  refine ⟨ds, gs, before, [], pa, pv, hW, hres _ _ _, hargs _ hold, hvars _ hold, World.keptBut_mono (fun p hp => ⟨hp, ?_⟩) hk, fun h => by cases h⟩
  rw [hps, List.mem_append] at hp
  exact Or.inr hp
end Go.Proofs.YtjmccobblpcbhaaDoor

set_option linter.unusedSimpArgs false
set_option linter.unusedVariables false
namespace Go.Proofs.YtjmccobblpcbhaaDoor

structure Nd where
  op : Int
  n : Int
  name : ByteArray
  kids : List Int
  deriving DecidableEq

def nd0 : Nd := ⟨0, 0, ⟨#[]⟩, []⟩

def aritI (op : Int) : Int := if op = 1 ∨ op = 2 then 0 else if op = 3 ∨ op = 4 then 1 else if 5 ≤ op ∧ op ≤ 16 then 2 else if op = 17 then 3 else -1

theorem aritI_le (op : Int) : aritI op ≤ 3 := by
  unfold aritI; split <;> (try split) <;> (try split) <;> (try split) <;> omega
theorem aritI_ge (op : Int) : -1 ≤ aritI op := by
  unfold aritI; split <;> (try split) <;> (try split) <;> (try split) <;> omega

/-- May a node have all these together? -/
def fitB (op n : Int) (name : ByteArray) (parts : Int) : Bool :=
  decide (0 ≤ aritI op) && decide (parts = aritI op) && (decide (n = 0) || decide (op = 1)) && (if op = 2 then nameB name else name.toList.isEmpty)

def formB (x : Nd) : Bool := fitB x.op x.n x.name x.kids.length

theorem formB_kids {x : Nd} (h : formB x = true) : x.kids.length ≤ 3 := by
  unfold formB fitB at h
  simp only [Bool.and_eq_true, decide_eq_true_eq] at h
  have := aritI_le x.op
  omega

/-- From a cursor down through the kids, the last first. -/
def chainL (fr : List Nat) : List Int → Nat → Option Nat
  | [], c => some c
  | k :: ks, c => if c = 0 ∨ k ≠ (c : Int) - 1 then none else chainL fr ks (fr.getD (c - 1) 0)

def stp (fr : List Nat) (x : Nd) : Option (List Nat) := if formB x = true then (chainL fr x.kids.reverse fr.length).map (fun a => fr ++ [a]) else none

def begR (fr : List Nat) : List Nd → Option (List Nat)
  | [] => some fr
  | x :: l => (stp fr x).bind fun fr' => begR fr' l

def begL (l : List Nd) : Option (List Nat) :=
  if l.length = 0 ∨ 64 < l.length then none else (begR [] l).bind fun fr => if fr.getD (l.length - 1) 0 = 0 then some fr else none

def sndB (l : List Nd) : Bool := (begL l).isSome

/-- No entry is above its place. -/
def Low (fr : List Nat) : Prop := ∀ j, fr.getD j 0 ≤ j

theorem chainL_le {fr : List Nat} (h : Low fr) : ∀ (ks : List Int) (c a : Nat), chainL fr ks c = some a → a ≤ c := by
  intro ks
  induction ks with
  | nil => intro c a h; simp [chainL] at h; omega
  | cons k ks ih =>
    intro c a hh
    simp only [chainL] at hh
    split at hh
    · cases hh
    · have := ih _ _ hh
      have := h (c - 1)
      omega

theorem stp_some {fr fr' : List Nat} {x : Nd} (h : stp fr x = some fr') : formB x = true ∧ ∃ a, chainL fr x.kids.reverse fr.length = some a ∧ fr' = fr ++ [a] := by
  unfold stp at h
  split at h
  · rename_i hf
    cases hc : chainL fr x.kids.reverse fr.length with
    | none => rw [hc] at h; cases h
    | some a => rw [hc] at h; simp at h; exact ⟨hf, a, rfl, h.symm⟩
  · cases h

theorem getD_snoc (fr : List Nat) (a j : Nat) : (fr ++ [a]).getD j 0 = if j < fr.length then fr.getD j 0 else if j = fr.length then a else 0 := by
  simp only [List.getD_eq_getElem?_getD, List.getElem?_append]
  split
  · rfl
  · split
    · subst_vars; simp
    · rw [List.getElem?_eq_none (by simp; omega)]; rfl

theorem Low.snoc {fr : List Nat} (h : Low fr) {a : Nat} (ha : a ≤ fr.length) : Low (fr ++ [a]) := by
  intro j
  rw [getD_snoc]
  split
  · exact h j
  · split <;> omega

theorem begR_append (fr : List Nat) (l m : List Nd) : begR fr (l ++ m) = (begR fr l).bind fun fr' => begR fr' m := by
  induction l generalizing fr with
  | nil => simp [begR]
  | cons x l ih =>
    simp only [List.cons_append, begR]
    cases stp fr x with
    | none => rfl
    | some fr' => simp [ih]

theorem begR_snoc (fr : List Nat) (l : List Nd) (x : Nd) : begR fr (l ++ [x]) = (begR fr l).bind fun fr' => stp fr' x := by
  rw [begR_append]
  congr
  funext fr'
  simp [begR]

theorem begR_some {l : List Nd} : ∀ {fr fr' : List Nat}, begR fr l = some fr' → Low fr → fr'.length = fr.length + l.length ∧ Low fr' ∧ (∀ j, j < fr.length → fr'.getD j 0 = fr.getD j 0) ∧ ∀ x ∈ l, formB x = true := by
  induction l with
  | nil => intro fr fr' h hl; simp [begR] at h; subst h; simp [hl]
  | cons x l ih =>
    intro fr fr' h hl
    simp only [begR] at h
    cases hs : stp fr x with
    | none => rw [hs] at h; cases h
    | some f2 =>
      rw [hs] at h
      simp only [Option.bind_some] at h
      obtain ⟨hf, a, hc, rfl⟩ := stp_some hs
      obtain ⟨h1, h2, h3, h4⟩ := ih h (hl.snoc (chainL_le hl _ _ _ hc))
      refine ⟨by simp at h1 ⊢; omega, h2, fun j hj => ?_, ?_⟩
      · rw [h3 j (by simp; omega), getD_snoc, if_pos hj]
      · intro y hy
        rcases List.mem_cons.1 hy with rfl | hy
        · exact hf
        · exact h4 y hy

theorem low_nil : Low [] := by intro j; simp

theorem begR_take_none {l : List Nd} {i : Nat} (h : begR [] (l.take i) = none) : begR [] l = none := by
  rw [← List.take_append_drop i l, begR_append, h]; rfl

theorem begL_some {l : List Nd} {fr : List Nat} (h : begL l = some fr) : 0 < l.length ∧ l.length ≤ 64 ∧ begR [] l = some fr ∧ fr.getD (l.length - 1) 0 = 0 := by
  unfold begL at h
  split at h
  · cases h
  · rename_i hl
    cases hr : begR [] l with
    | none => rw [hr] at h; cases h
    | some f =>
      rw [hr] at h
      simp only [Option.bind_some] at h
      split at h
      · cases h; exact ⟨by omega, by omega, rfl, by assumption⟩
      · cases h

theorem begL_mk {l : List Nd} {fr : List Nat} (h0 : 0 < l.length) (h1 : l.length ≤ 64) (hr : begR [] l = some fr) (h2 : fr.getD (l.length - 1) 0 = 0) : begL l = some fr := by
  unfold begL
  rw [if_neg (by omega), hr, Option.bind_some, if_pos h2]

theorem begR_len {l : List Nd} {fr : List Nat} (h : begR [] l = some fr) : fr.length = l.length := by
  have := (begR_some h low_nil).1
  simpa using this
end Go.Proofs.YtjmccobblpcbhaaDoor

set_option linter.unusedSimpArgs false
set_option linter.unusedVariables false
namespace Go.Proofs.YtjmccobblpcbhaaDoor
open Go.Lib

/-! ### an order -/
/-! ### texts that are joined -/
theorem bad_false_iff (s : ByteArray) (pos : Nat) : bad s pos = false ↔ ¬ Utf8.decode s pos = (65533, 1) := by
  constructor
  · intro h e; simp [bad, e] at h
  · intro h
    cases hb : bad s pos
    · rfl
    · exact absurd (bad_eq hb) h
/-- Every place that is come to is good. -/
def Good (a : ByteArray) (pos : Nat) : Prop := ∃ f, a.size ≤ pos + f ∧ (chkF a f pos).2 = 0
theorem good_start (a : ByteArray) (h : (chk a).2 = 0) : Good a 0 := ⟨a.size, by omega, h⟩
theorem good_step (a : ByteArray) (pos : Nat) (hp : pos < a.size) (h : Good a pos) : bad a pos = false ∧ Good a (pos + (Utf8.decode a pos).2) := by
  obtain ⟨f, hf, hc⟩ := h
  obtain ⟨f, rfl⟩ : ∃ g, f = g + 1 := ⟨f - 1, by omega⟩
  have hv := width_pos a pos hp
  cases hb : bad a pos
  · rw [chkF_good a f pos hp hb] at hc
    exact ⟨rfl, f, by omega, hc⟩
  · rw [chkF_bad a f pos hp hb] at hc
    simp at hc
end Go.Proofs.YtjmccobblpcbhaaDoor

set_option linter.unusedSimpArgs false
set_option linter.unusedVariables false
namespace Go.Proofs.YtjmccobblpcbhaaDoor
open Go.RowKit

set_option maxHeartbeats 400000 in
theorem within_any (r a b : Int) (w : World) :
    Calls Tryd.prog 87 #[.int .i32 r, .int .i32 a, .int .i32 b] w fun e w' => e = .returned (.bool (hasB a b r)) ∧ w' = w := by
  by_cases h1 : a ≤ r
  · by_cases h2 : r ≤ b
    · have hb : hasB a b r = true := by simp [hasB, h1, h2]
      rw [hb]; clear hb
      go_enter Tryd.func87, Tryd.ntmps87
      go_wp2
      go_ret
      exact ⟨by simp [h1, h2], rfl⟩
    · have hb : hasB a b r = false := by simp [hasB, h1, h2]
      rw [hb]; clear hb
      go_enter Tryd.func87, Tryd.ntmps87
      go_wp2
      go_ret
      exact ⟨by simp [h1, h2], rfl⟩
  · have hb : hasB a b r = false := by simp [hasB, h1]
    rw [hb]; clear hb
    go_enter Tryd.func87, Tryd.ntmps87
    go_wp2
    go_ret
    exact ⟨by simp, rfl⟩

set_option maxHeartbeats 1000000 in
theorem letter_any (r : Int) (w : World) :
    Calls Tryd.prog 86 #[.int .i32 r] w fun e w' => e = .returned (.bool (letB r)) ∧ w' = w := by
  go_enter Tryd.func86, Tryd.ntmps86
  go_wp2_with (go_at_call 87; refine (within_any _ _ _ _).mono ?_; rintro e w' ⟨rfl, rfl⟩)
  all_goals go_ret
  all_goals exact ⟨ret_bool (by simp_all [letB]), rfl⟩

set_option maxHeartbeats 1000000 in
theorem digit_any (r : Int) (w : World) :
    Calls Tryd.prog 85 #[.int .i32 r] w fun e w' => e = .returned (.tuple #[.int .i64 (digV r), .int .i32 (digZ r)]) ∧ w' = w := by
  cases h1 : hasB 48 57 r
  · cases h2 : hasB 1632 1641 r
    · cases h3 : hasB 65296 65305 r
      · go_enter Tryd.func85, Tryd.ntmps85
        go_wp2_with (go_at_call 87; refine (within_any _ _ _ _).mono ?_; rintro e w' ⟨rfl, rfl⟩)
        go_ret2
        exact ⟨by simp [digV, digZ, h1, h2, h3], rfl⟩
      · have hb : 65296 ≤ r ∧ r ≤ 65305 := by simpa [hasB] using h3
        obtain ⟨b1, b2⟩ := hb
        go_enter Tryd.func85, Tryd.ntmps85
        go_wp2_with (go_at_call 87; refine (within_any _ _ _ _).mono ?_; rintro e w' ⟨rfl, rfl⟩)
        go_ret2
        exact ⟨by simp [digV, digZ, h1, h2, h3], rfl⟩
    · have hb : 1632 ≤ r ∧ r ≤ 1641 := by simpa [hasB] using h2
      obtain ⟨b1, b2⟩ := hb
      go_enter Tryd.func85, Tryd.ntmps85
      go_wp2_with (go_at_call 87; refine (within_any _ _ _ _).mono ?_; rintro e w' ⟨rfl, rfl⟩)
      go_ret2
      exact ⟨by simp [digV, digZ, h1, h2], rfl⟩
  · have hb : 48 ≤ r ∧ r ≤ 57 := by simpa [hasB] using h1
    obtain ⟨b1, b2⟩ := hb
    go_enter Tryd.func85, Tryd.ntmps85
    go_wp2_with (go_at_call 87; refine (within_any _ _ _ _).mono ?_; rintro e w' ⟨rfl, rfl⟩)
    go_ret2
    exact ⟨by simp [digV, digZ, h1], rfl⟩

set_option maxHeartbeats 1000000 in
theorem refKind_sign (r : Int) (w : World) (h1 : letB r = false) (h2 : digV r < 0) (h3 : blkB r = false) (h4 : hasB 8320 8329 r = false) :
    Calls Tryd.prog 57 #[.int .i32 r] w fun e w' => e = .returned (.int .i64 (sgnK (isSign r))) ∧ Below w.heap.size w w' := by
  obtain ⟨⟨⟨⟨⟨b1, b2⟩, b3⟩, b4⟩, b5⟩, b6⟩ : (((((r == 32) = false ∧ (r == 9) = false) ∧ (r == 10) = false) ∧ (r == 13) = false) ∧ (r == 160) = false) ∧ (r == 12288) = false := by
    simpa [blkB] using h3
  have h2' : decide (0 ≤ digV r) = false := by simp; exact h2
  go_enter Tryd.func57, Tryd.ntmps57
  go_wp2_with (first | (go_at_call 85; refine (digit_any _ _).mono ?_; rintro e w2 ⟨rfl, hw⟩; obtain rfl := hw.symm) | (go_at_call 86; refine (letter_any _ _).mono ?_; rintro e w2 ⟨rfl, hw⟩; obtain rfl := hw.symm) | (go_at_call 87; refine (within_any _ _ _ _).mono ?_; rintro e w2 ⟨rfl, hw⟩; obtain rfl := hw.symm))
  change Code.wp _ _ _ _ (w.iter signs 0)
  have hS := runesFrom_signs
  have HN : signs.size = 48 := rfl
  generalize signs = S at hS HN ⊢
  go_loopw [7] (fun _ w' => ∃ (pos f : Nat), w' = w.iter S pos ∧ (runesFrom S f pos).any (· == r) = isSign r ∧ S.size ≤ pos + f) (fun _ w' => S.size - w'.iterPos w.heap.size)
  case atStart => exact ⟨0, 48, rfl, by rw [hS]; rfl, by omega⟩
  case round =>
    obtain ⟨pos, f, rfl, hA, hf⟩ := hrel
    have HA : Hid ((runesFrom S f pos).any (· == r) = isSign r) := hA
    clear hA hS
    by_cases hp : pos < S.size
    · have hnx : ∀ ty, (Instr.next (.pointer (some ⟨w.heap.size, 0, none⟩)) true ty).run Tryd.prog (w.iter S pos) = _ := fun ty => run_next_any w S pos ty hp
      obtain ⟨f, rfl⟩ : ∃ g, f = g + 1 := ⟨f - 1, by omega⟩
      have hw := width_pos S pos hp
      have HC := runesFrom_cons S f pos hp
      have HC' := Hid.out (p := _) (show Hid _ from HC)
      clear HC
      have HX : Hid (runesFrom S (f + 1) pos = ((Utf8.decode S pos).1 : Int) :: runesFrom S f (pos + (Utf8.decode S pos).2)) := HC'
      clear HC'
      cases hr : (((Utf8.decode S pos).1 : Int) == r)
      · go_wp2
        go_roundw
        case rel => exact ⟨_, f, rfl, by rw [← HA.out, HX.out, List.any_cons, hr, Bool.false_or], by omega⟩
        case measure => simp; omega
      · go_wp2
        go_ret
        exact ⟨ret_int (by rw [← HA.out, HX.out, List.any_cons, hr, Bool.true_or]; rfl), (Below.refl _ _).alloc (Nat.le_refl _) _⟩
    · have hnx : ∀ ty, (Instr.next (.pointer (some ⟨w.heap.size, 0, none⟩)) true ty).run Tryd.prog (w.iter S pos) = _ := fun ty => run_next_end w S pos ty hp
      go_wp2
      go_ret
      exact ⟨ret_int (by rw [← HA.out, runesFrom_end S f pos hp]; rfl), (Below.refl _ _).alloc (Nat.le_refl _) _⟩

set_option maxHeartbeats 1000000 in
theorem refKind_rest (r : Int) (w : World) (h : letB r = true ∨ 0 ≤ digV r ∨ blkB r = true ∨ hasB 8320 8329 r = true) :
    Calls Tryd.prog 57 #[.int .i32 r] w fun e w' => e = .returned (.int .i64 (kindR r)) ∧ Below w.heap.size w w' := by
  cases h1 : letB r
  · by_cases h2 : 0 ≤ digV r
    · have h2' : decide (0 ≤ digV r) = true := by simp; exact h2
      have hv : kindR r = 2 := by simp [kindR, h1, h2]
      rw [hv]; clear hv h
      go_enter Tryd.func57, Tryd.ntmps57
      go_wp2_with (first | (go_at_call 85; refine (digit_any _ _).mono ?_; rintro e w2 ⟨rfl, hw⟩; obtain rfl := hw.symm) | (go_at_call 86; refine (letter_any _ _).mono ?_; rintro e w2 ⟨rfl, hw⟩; obtain rfl := hw.symm))
      go_ret
      exact ⟨rfl, Below.refl _ _⟩
    · have h2' : decide (0 ≤ digV r) = false := by simpa using h2
      cases h3 : blkB r
      · have h4 : hasB 8320 8329 r = true := by simpa [h1, h2, h3] using h
        obtain ⟨⟨⟨⟨⟨b1, b2⟩, b3⟩, b4⟩, b5⟩, b6⟩ : (((((r == 32) = false ∧ (r == 9) = false) ∧ (r == 10) = false) ∧ (r == 13) = false) ∧ (r == 160) = false) ∧ (r == 12288) = false := by
          simpa [blkB] using h3
        have hv : kindR r = 5 := by simp [kindR, h1, h2, h3, h4]
        rw [hv]; clear hv h h2
        go_enter Tryd.func57, Tryd.ntmps57
        go_wp2_with (first | (go_at_call 85; refine (digit_any _ _).mono ?_; rintro e w2 ⟨rfl, hw⟩; obtain rfl := hw.symm) | (go_at_call 86; refine (letter_any _ _).mono ?_; rintro e w2 ⟨rfl, hw⟩; obtain rfl := hw.symm) | (go_at_call 87; refine (within_any _ _ _ _).mono ?_; rintro e w2 ⟨rfl, hw⟩; obtain rfl := hw.symm))
        go_ret
        exact ⟨rfl, Below.refl _ _⟩
      · have hv : kindR r = 3 := by simp [kindR, h1, h2, h3]
        have h3' : (r == 32) = true ∨ (r == 9) = true ∨ (r == 10) = true ∨ (r == 13) = true ∨ (r == 160) = true ∨ (r == 12288) = true := by
          simpa [blkB, or_assoc] using h3
        rw [hv]; clear hv h h2 h3
        have B : ∀ x : Int, (r == x) = true → r = x := fun x hx => by simpa using hx
        rcases h3' with e | e | e | e | e | e
        all_goals
          have e' := B _ e
          clear B e
          subst e'
          go_enter Tryd.func57, Tryd.ntmps57
          go_wp2_with (first | (go_at_call 85; refine (digit_any _ _).mono ?_; rintro e w2 ⟨rfl, hw⟩; obtain rfl := hw.symm) | (go_at_call 86; refine (letter_any _ _).mono ?_; rintro e w2 ⟨rfl, hw⟩; obtain rfl := hw.symm))
          go_ret
          exact ⟨rfl, Below.refl _ _⟩
  · have hv : kindR r = 1 := by simp [kindR, h1]
    rw [hv]; clear hv h
    go_enter Tryd.func57, Tryd.ntmps57
    go_wp2_with (first | (go_at_call 85; refine (digit_any _ _).mono ?_; rintro e w2 ⟨rfl, hw⟩; obtain rfl := hw.symm) | (go_at_call 86; refine (letter_any _ _).mono ?_; rintro e w2 ⟨rfl, hw⟩; obtain rfl := hw.symm))
    go_ret
    exact ⟨rfl, Below.refl _ _⟩

theorem refKind_any (r : Int) (w : World) :
    Calls Tryd.prog 57 #[.int .i32 r] w fun e w' => e = .returned (.int .i64 (kindR r)) ∧ Below w.heap.size w w' := by
  by_cases h : letB r = true ∨ 0 ≤ digV r ∨ blkB r = true ∨ hasB 8320 8329 r = true
  · exact refKind_rest r w h
  · simp only [not_or, Bool.not_eq_true] at h
    obtain ⟨h1, h2, h3, h4⟩ := h
    have hv : kindR r = sgnK (isSign r) := by simp [kindR, h1, h2, h3, h4]
    rw [hv]
    exact refKind_sign r w h1 (by omega) h3 h4
end Go.Proofs.YtjmccobblpcbhaaDoor

namespace Go.Proofs.YtjmccobblpcbhaaDoor
open Go.RowKit Go.Lib

set_option maxHeartbeats 1000000 in
theorem refWidth_end (s : ByteArray) (pos : Int) (w : World) (h : pos < 0 ∨ (s.size : Int) ≤ pos) :
    Calls Tryd.prog 54 #[.string s, .int .i64 pos] w fun e w' => e = .returned (.int .i64 0) ∧ Below w.heap.size w w' := by
  rcases h with h | h
  · go_enter Tryd.func54, Tryd.ntmps54
    go_wp2
    go_ret
    exact ⟨rfl, Below.refl _ _⟩
  · by_cases h0 : pos < 0
    · go_enter Tryd.func54, Tryd.ntmps54
      go_wp2
      go_ret
      exact ⟨rfl, Below.refl _ _⟩
    · go_enter Tryd.func54, Tryd.ntmps54
      go_wp2
      go_ret
      exact ⟨rfl, Below.refl _ _⟩

set_option maxHeartbeats 1000000 in
theorem refWidth_in (s : ByteArray) (pos : Nat) (w : World) (h : pos < s.size) (hs : s.size ≤ maxLen) :
    Calls Tryd.prog 54 #[.string s, .int .i64 pos] w fun e w' => e = .returned (.int .i64 (wd s pos)) ∧ Below w.heap.size w w' := by
  unfold maxLen at hs
  have hpz : (pos : Int) < (s.size : Int) := by omega
  have hd0 : decide ((pos : Int) < 0) = false := by simp
  have hd1 : decide (s.size ≤ pos) = false := by simp; omega
  go_enter Tryd.func54, Tryd.ntmps54
  go_wp2
  have hSz := tail_size s pos
  have hD := dec_tail s pos 0
  rw [Nat.add_zero] at hD
  have hBI := bad_iff s pos
  have hv1 := width_pos s pos h
  have hv2 := dec_le s pos h
  have HW : Hid (wd s pos = if bad s pos then 0 else (Utf8.decode s pos).2) := rfl
  have HB : Hid (bad s pos = ((Utf8.decode s pos).1 == 65533 && (Utf8.decode s pos).2 == 1)) := rfl
  generalize s.extract pos s.size = S at *
  go_loopw [5] (fun _ w' => ∃ q : Nat, It w S q w' ∧ (q = 0 ∨ (q = (Utf8.decode s pos).2 ∧ bad s pos = false))) (fun _ w' => S.size - w'.iterPos w.heap.size)
  case atStart => exact ⟨0, It.start w S, .inl rfl⟩
  case round =>
    obtain ⟨q, hI, hq⟩ := hrel
    have hm := hI.pos
    rcases hq with rfl | ⟨hq, hbad⟩
    · have hnx : ∀ ty, (Instr.next (.pointer (some ⟨w.heap.size, 0, none⟩)) true ty).run Tryd.prog wr = _ := fun ty => run_next_any_at wr w.heap.size S 0 ty hI.at_ (by omega)
      rw [hD] at hnx
      have hI1 := hI.next (Utf8.decode s pos).2
      cases hr : (((Utf8.decode s pos).1 : Int) == 65533)
      · have hnb : bad s pos = false := by rw [HB.out]; have : ¬ (Utf8.decode s pos).1 = 65533 := by simp at hr; omega
                                           simp [this]
        generalize (Utf8.decode s pos).2 = v at *
        generalize ((Utf8.decode s pos).1 : Int) = r at *
        clear hD hBI
        go_wp2
        exact ⟨⟨v, hI1, .inr ⟨rfl, hnb⟩⟩, by rw [hI1.pos, hm]; omega⟩
      · have hr' : (Utf8.decode s pos).1 = 65533 := by simp at hr; omega
        have hbi := hBI hr'
        clear hBI hD
        generalize (Utf8.decode s pos).2 = v at *
        generalize ((Utf8.decode s pos).1 : Int) = r at *
        by_cases hl : (s.size : Int) - (pos : Int) < 3
        · have hb : bad s pos = true := by
            have : ¬ bad s pos = false := fun e => by have := (hbi.1 e).1; omega
            simpa using this
          go_wp2
          go_ret
          exact ⟨ret_int (by rw [HW.out, hb]; rfl), hI1.below⟩
        · have hl3 : (pos : Int) + 3 ≤ (s.size : Int) := by omega
          cases hx : ((s.extract pos (pos + 3)).toList == [239, 191, 189])
          · have hb : bad s pos = true := by
              have : ¬ bad s pos = false := fun e => by
                have e2 := (hbi.1 e).2
                rw [Lib.toList_data, e2] at hx
                exact absurd hx (by decide)
              simpa using this
            go_wp2
            go_ret
            exact ⟨ret_int (by rw [HW.out, hb]; rfl), hI1.below⟩
          · have hb : bad s pos = false := by
              refine hbi.2 ⟨by omega, ?_⟩
              rw [← Lib.toList_data]
              exact beq_iff_eq.1 hx
            go_wp2
            exact ⟨⟨v, hI1, .inr ⟨rfl, hb⟩⟩, by rw [hI1.pos, hm]; omega⟩
    · have hWd : Hid (wd s pos = q) := by show wd s pos = q; rw [HW.out, hbad, hq]; rfl
      clear hBI hD HW HB
      generalize (Utf8.decode s pos).2 = v at *
      subst hq
      by_cases hlt : q < S.size
      · have hnx : ∀ ty, (Instr.next (.pointer (some ⟨w.heap.size, 0, none⟩)) true ty).run Tryd.prog wr = _ := fun ty => run_next_any_at wr w.heap.size S q ty hI.at_ hlt
        have hI1 := hI.next (q + (Utf8.decode S q).2)
        go_wp2
        go_ret
        exact ⟨ret_int (by rw [hWd.out]), hI1.below⟩
      · have hnx : ∀ ty, (Instr.next (.pointer (some ⟨w.heap.size, 0, none⟩)) true ty).run Tryd.prog wr = _ := fun ty => run_next_end_at wr w.heap.size S q ty hI.at_ hlt
        go_wp2
        go_ret
        exact ⟨ret_int (by rw [hWd.out]; omega), hI.below⟩

theorem refWidth_any (s : ByteArray) (pos : Nat) (w : World) (hs : s.size ≤ maxLen) :
    Calls Tryd.prog 54 #[.string s, .int .i64 pos] w fun e w' => e = .returned (.int .i64 (wdE s pos)) ∧ Below w.heap.size w w' := by
  by_cases h : pos < s.size
  · have : wdE s pos = wd s pos := by simp [wdE, h]
    rw [this]
    exact refWidth_in s pos w h hs
  · have : ((wdE s pos : Nat) : Int) = 0 := by simp [wdE, h]
    rw [this]
    exact refWidth_end s pos w (.inr (by omega))

set_option maxHeartbeats 1000000 in
theorem refRune_any (s : ByteArray) (pos : Nat) (w : World) (hs : s.size ≤ maxLen) (hp : pos ≤ s.size) :
    Calls Tryd.prog 58 #[.string s, .int .i64 pos] w fun e w' => e = .returned (.int .i32 (rn s pos)) ∧ Below w.heap.size w w' := by
  have c1 : Hid (∀ W, Calls Tryd.prog 54 #[.string s, .int .i64 pos] W fun e w' => e = .returned (.int .i64 (wdE s pos)) ∧ Below W.heap.size W w') := fun W => refWidth_any s pos W hs
  by_cases h0 : wdE s pos = 0
  · have hv : rn s pos = -1 := by
      by_cases h : pos < s.size
      · have hw := width_pos s pos h
        have : bad s pos = true := by
          simp only [wdE, h, if_true, wd] at h0
          split at h0
          · assumption
          · omega
        simp [rn, this]
      · simp [rn, h]
    rw [hv]
    rw [h0] at c1
    go_enter Tryd.func58, Tryd.ntmps58
    go_wp2_with (go_at_call 54; refine (c1.out _).mono ?_; rintro e w1 ⟨rfl, hb1⟩)
    go_ret
    exact ⟨rfl, hb1⟩
  · have hlt : pos < s.size := by
      by_cases h : pos < s.size
      · exact h
      · simp [wdE, h] at h0
    have hv : rn s pos = ((Utf8.decode s pos).1 : Int) := by
      have hb : bad s pos = false := by
        cases hb : bad s pos
        · rfl
        · simp [wdE, hlt, wd, hb] at h0
      simp [rn, hlt, hb]
    rw [hv]
    unfold maxLen at hs
    generalize wdE s pos = n at *
    have hn : ((n : Int) == 0) = false := by simp; omega
    have hSz := tail_size s pos
    have hD := dec_tail s pos 0
    rw [Nat.add_zero] at hD
    have hpz : (pos : Int) ≤ (s.size : Int) := by omega
    go_enter Tryd.func58, Tryd.ntmps58
    go_wp2_with (go_at_call 54; refine (c1.out _).mono ?_; rintro e w1 ⟨rfl, hb1⟩)
    have HS : Hid (s.extract pos s.size = s.extract pos s.size) := rfl
    generalize s.extract pos s.size = S at *
    go_loopw [6] (fun _ w' => It w1 S 0 w') (fun _ w' => 0)
    case atStart => exact It.start w1 S
    case round =>
      have hI := hrel
      have hnx : ∀ ty, (Instr.next (.pointer (some ⟨w1.heap.size, 0, none⟩)) true ty).run Tryd.prog wr = _ := fun ty => run_next_any_at wr w1.heap.size S 0 ty hI.at_ (by omega)
      rw [hD] at hnx
      have hI1 := hI.next (Utf8.decode s pos).2
      go_wp2
      go_ret
      have z := hb1.size
      exact ⟨rfl, hb1.trans (hI1.below.mono z)⟩
end Go.Proofs.YtjmccobblpcbhaaDoor
