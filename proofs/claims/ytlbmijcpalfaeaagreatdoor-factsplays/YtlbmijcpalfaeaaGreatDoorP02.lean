/-
  DecPure, FirstW, Frame, ExPure, ExArW.
-/
import Derived.Test.YtlbmijcpalfaeaaGreatDoorChecked
import Derived.Test.YtlbmijcpalfaeaaGreatDoorRows
import Derived.Test.YtlbmijcpalfaeaaGreatDoorP01
import GoSem.PinnedTables
import GoSem.Claim
import GoSem.ClaimJoined
import GoSem.ClaimMapViews
import Derived.JoinedTies
import Derived.KernelRfl
import Derived.Lib.RuneCountTail
import Derived.Lib.LaidU8
import Derived.MakeChecks
import Derived.ProofKit
import Derived.OpenShut
import Derived.Deep.DeepHandedRow
set_option linter.unusedSimpArgs false
set_option linter.unusedVariables false
namespace Go.Proofs.YtlbmijcpalfaeaaGreatDoor
open Go.Lib

theorem tail_size (s : ByteArray) (k : Nat) : (s.extract k s.size).size = s.size - k := by simp [ByteArray.size_extract]
theorem dec_tail (s : ByteArray) (k i : Nat) : Utf8.decode (s.extract k s.size) i = Utf8.decode s (k + i) := by
  rw [decode_at, decode_at, tail_size, tail_get!, tail_get!, tail_get!, tail_get!]
  have : s.size - k - i = s.size - (k + i) := by omega
  rw [this]
  simp [Nat.add_assoc]
theorem decodeN_le (n b0 b1 b2 b3 : Nat) (h : 0 < n) : (decodeN n b0 b1 b2 b3).2 ≤ n := by
  unfold decodeN
  repeat' split
  all_goals first | omega | (simp only; omega)
theorem dec_le (s : ByteArray) (pos : Nat) (h : pos < s.size) : pos + (Utf8.decode s pos).2 ≤ s.size := by
  have := decodeN_le (s.size - pos) (s.get! pos).toNat (s.get! (pos + 1)).toNat (s.get! (pos + 2)).toNat (s.get! (pos + 3)).toNat (by omega)
  rw [decode_at]; omega
theorem decGo (s : ByteArray) (h : s.size ≠ 0) : decodeGo s = Utf8.decode s 0 := by simp [decodeGo, h]
theorem runesFrom_fuel (s : ByteArray) : ∀ (f g pos : Nat), s.size ≤ pos + f → s.size ≤ pos + g → runesFrom s f pos = runesFrom s g pos
  | 0, g, pos, h, _ => by rw [runesFrom_end s 0 pos (by omega), runesFrom_end s g pos (by omega)]
  | f + 1, 0, pos, _, h => by rw [runesFrom_end s 0 pos (by omega), runesFrom_end s _ pos (by omega)]
  | f + 1, g + 1, pos, hf, hg => by
    by_cases hp : pos < s.size
    · have hw := width_pos s pos hp
      rw [runesFrom_cons s f pos hp, runesFrom_cons s g pos hp, runesFrom_fuel s f g _ (by omega) (by omega)]
    · rw [runesFrom_end s _ pos hp, runesFrom_end s _ pos hp]

theorem empty_yes (s : ByteArray) (h : s.size = 0) : s.toList.isEmpty = true := by
  rw [Lib.toList_data]
  have : s.data.toList = [] := List.eq_nil_of_length_eq_zero (by rw [← Lib.size_eq]; exact h)
  rw [this]; rfl
theorem empty_no (s : ByteArray) (h : ¬ s.size = 0) : s.toList.isEmpty = false := by
  rw [Lib.toList_data]
  cases h' : s.data.toList with
  | nil => exact absurd (by rw [Lib.size_eq, h']; rfl) h
  | cons _ _ => rfl

/-- The runes of a text. -/
def rl (s : ByteArray) : List Int := runesFrom s s.size 0
theorem runesFrom_tail (s : ByteArray) (k : Nat) : ∀ (f pos : Nat), runesFrom (s.extract k s.size) f pos = runesFrom s f (k + pos)
  | 0, _ => rfl
  | f + 1, pos => by
    by_cases hp : k + pos < s.size
    · rw [runesFrom_cons s f _ hp, runesFrom_cons _ f pos (by rw [tail_size]; omega), dec_tail, runesFrom_tail s k f, Nat.add_assoc]
    · rw [runesFrom_end s _ _ hp, runesFrom_end _ _ _ (by rw [tail_size]; omega)]
theorem rl_tail (s : ByteArray) (k : Nat) : rl (s.extract k s.size) = runesFrom s s.size k := by
  unfold rl
  rw [runesFrom_tail, tail_size]
  by_cases h : k ≤ s.size
  · exact runesFrom_fuel s _ _ _ (by omega) (by omega)
  · rw [runesFrom_end s _ _ (by omega), runesFrom_end s _ _ (by omega)]
theorem rl_nil (s : ByteArray) (h : s.size = 0) : rl s = [] := runesFrom_end s _ 0 (by omega)
theorem rl_cons (s : ByteArray) (h : s.size ≠ 0) : rl s = ((decodeGo s).1 : Int) :: rl (s.extract (decodeGo s).2 s.size) := by
  have hp : 0 < s.size := by omega
  have hw := width_pos s 0 hp
  rw [rl_tail, decGo s h]
  unfold rl
  obtain ⟨f, hf⟩ : ∃ f, s.size = f + 1 := ⟨s.size - 1, by omega⟩
  rw [hf, runesFrom_cons s f 0 hp, runesFrom_fuel s f (f + 1) (0 + _) (by omega) (by omega), Nat.zero_add]

/-! ### The order of two texts -/
def cmp3 (a b : Int) : Int := if a < b then -1 else if b < a then 1 else 0
def cmpL : List Int → List Int → Int
  | [], [] => 0
  | [], _ :: _ => -1
  | _ :: _, [] => 1
  | a :: l, b :: m => if cmp3 a b = 0 then cmpL l m else cmp3 a b
def ordI (s t : ByteArray) : Int := cmpL (rl s) (rl t)
end Go.Proofs.YtlbmijcpalfaeaaGreatDoor

namespace Go.Proofs.YtlbmijcpalfaeaaGreatDoor
open Go.Lib

/-- A byte that belongs to no character. -/
def bad (s : ByteArray) (pos : Nat) : Bool := (Utf8.decode s pos).1 == 65533 && (Utf8.decode s pos).2 == 1
/-- U+FFFD, written out. -/
def fffd : List UInt8 := [239, 191, 189]

theorem decodeN_fffd (n b0 b1 b2 b3 : Nat) (h0 : b0 < 256) (h1 : b1 < 256) (h2 : b2 < 256) (h3 : b3 < 256) (h : (decodeN n b0 b1 b2 b3).1 = 65533) (hw : (decodeN n b0 b1 b2 b3).2 ≠ 1) : 2 < n ∧ b0 = 239 ∧ b1 = 191 ∧ b2 = 189 := by
  revert h hw
  unfold decodeN
  repeat' split
  all_goals simp
  all_goals omega
theorem decodeN_written (n b3 : Nat) (h : 2 < n) : decodeN n 239 191 189 b3 = (65533, 3) := by
  have h1 : 1 < n := by omega
  simp [decodeN, h, h1]
theorem decodeN_width (n b0 b1 b2 b3 : Nat) : 1 ≤ (decodeN n b0 b1 b2 b3).2 ∧ (decodeN n b0 b1 b2 b3).2 ≤ 4 := by
  unfold decodeN
  repeat' split
  all_goals simp

theorem bytes3 (s : ByteArray) (pos : Nat) (h : pos + 3 ≤ s.size) : (s.extract pos (pos + 3)).data.toList = [s.get! pos, s.get! (pos + 1), s.get! (pos + 2)] := by
  rw [extract_data]
  have e : pos + 3 - pos = 3 := by omega
  rw [e]
  have hl : s.data.toList.length = s.size := (size_eq s).symm
  rw [List.drop_eq_getElem_cons (by omega), List.drop_eq_getElem_cons (by omega), List.drop_eq_getElem_cons (by omega)]
  simp only [List.take_succ_cons, List.take_zero, List.cons.injEq, and_true]
  have g : ∀ (k : Nat) (hk : k < s.size), s.data.toList[k]'(by omega) = s.get! k := by
    intro k hk
    rw [Utf8W.get!_of_lt s k hk]; rfl
  exact ⟨g pos (by omega), g (pos + 1) (by omega), g (pos + 2) (by omega)⟩

theorem bad_iff (s : ByteArray) (pos : Nat) (hr : (Utf8.decode s pos).1 = 65533) : bad s pos = false ↔ (pos + 3 ≤ s.size ∧ (s.extract pos (pos + 3)).data.toList = fffd) := by
  have hb : ∀ k, (s.get! k).toNat < 256 := fun k => (s.get! k).toNat_lt
  have u8 : ∀ (a : UInt8) (n : Nat) (hn : n < 256), a.toNat = n → a = UInt8.ofNat n := by
    intro a n hn h; subst h; simp
  constructor
  · intro h
    have hw : (Utf8.decode s pos).2 ≠ 1 := by
      simp [bad, hr] at h; exact h
    rw [decode_at] at hr hw
    obtain ⟨hn, e0, e1, e2⟩ := decodeN_fffd _ _ _ _ _ (hb _) (hb _) (hb _) (hb _) hr hw
    have h3 : pos + 3 ≤ s.size := by omega
    refine ⟨h3, ?_⟩
    rw [bytes3 s pos h3, u8 _ 239 (by omega) e0, u8 _ 191 (by omega) e1, u8 _ 189 (by omega) e2]
    rfl
  · rintro ⟨h3, he⟩
    rw [bytes3 s pos h3] at he
    simp only [fffd, List.cons.injEq, and_true] at he
    obtain ⟨e0, e1, e2⟩ := he
    have hd : Utf8.decode s pos = (65533, 3) := by
      rw [decode_at, e0, e1, e2]
      exact decodeN_written _ _ (by omega)
    simp [bad, hd]

/-- The width of the character at pos: 0 for a bad byte. -/
def wd (s : ByteArray) (pos : Nat) : Nat := if bad s pos then 0 else (Utf8.decode s pos).2
def wdE (s : ByteArray) (pos : Nat) : Nat := if pos < s.size then wd s pos else 0
/-- The character at pos: -1 for a bad byte and at the end. -/
def rn (s : ByteArray) (pos : Nat) : Int := if pos < s.size then (if bad s pos then -1 else (Utf8.decode s pos).1) else -1
theorem bad_eq {s : ByteArray} {pos : Nat} (h : bad s pos = true) : Utf8.decode s pos = (65533, 1) := by
  simp [bad] at h; exact Prod.ext h.1 h.2
theorem kd_rn (s : ByteArray) (pos : Nat) (h : pos < s.size) : kd (rn s pos) = kd (Utf8.decode s pos).1 := by
  unfold rn
  rw [if_pos h]
  cases hb : bad s pos
  · rfl
  · rw [bad_eq hb]; decide
theorem onB_rn (s : ByteArray) (pos : Nat) (h : pos < s.size) : onB (rn s pos) = onB (Utf8.decode s pos).1 := by
  unfold onB; rw [kd_rn s pos h]
end Go.Proofs.YtlbmijcpalfaeaaGreatDoor

namespace Go.Proofs.YtlbmijcpalfaeaaGreatDoor
open Go.Lib

/-! ### Check -/
def chkF (s : ByteArray) : Nat → Nat → Nat × Int
  | 0, _ => (0, 0)
  | f + 1, pos => if pos < s.size then (if bad s pos then (pos, 4) else chkF s f (pos + (Utf8.decode s pos).2)) else (0, 0)
def chk (s : ByteArray) : Nat × Int := chkF s s.size 0
theorem chkF_bad (s : ByteArray) (f pos : Nat) (h : pos < s.size) (hb : bad s pos = true) : chkF s (f + 1) pos = (pos, 4) := by simp [chkF, h, hb]
theorem chkF_good (s : ByteArray) (f pos : Nat) (h : pos < s.size) (hb : bad s pos = false) : chkF s (f + 1) pos = chkF s f (pos + (Utf8.decode s pos).2) := by simp [chkF, h, hb]
theorem chkF_end (s : ByteArray) (f pos : Nat) (h : ¬ pos < s.size) : chkF s f pos = (0, 0) := by cases f <;> simp [chkF, h]

/-! ### Span -/
/-! ### Number -/
/-! ### Column -/
end Go.Proofs.YtlbmijcpalfaeaaGreatDoor

set_option linter.unusedSimpArgs false
namespace Go.Proofs.YtlbmijcpalfaeaaGreatDoor
open Go.RowKit Go.Lib

theorem first_any (s : ByteArray) (w : World) (hT : Tabs w) :
    Calls Tryz.prog 111 #[.string s] w fun e w' => e = .returned (.int .i32 (decodeGo s).1) ∧ Below w.heap.size w w' := by
  go_enter Tryz.func111, Tryz.ntmps111
  go_wp2_with (go_at_call 117; refine (Tryz.utf8_DecodeRuneInString _ _ hT.utf).mono ?_; rintro e w2 ⟨rfl, hb2⟩)
  go_ret
  exact ⟨rfl, hb2⟩
theorem width_any (s : ByteArray) (w : World) (hT : Tabs w) :
    Calls Tryz.prog 112 #[.string s] w fun e w' => e = .returned (.int .i64 (decodeGo s).2) ∧ Below w.heap.size w w' := by
  go_enter Tryz.func112, Tryz.ntmps112
  go_wp2_with (go_at_call 117; refine (Tryz.utf8_DecodeRuneInString _ _ hT.utf).mono ?_; rintro e w2 ⟨rfl, hb2⟩)
  go_ret
  exact ⟨rfl, hb2⟩
end Go.Proofs.YtlbmijcpalfaeaaGreatDoor

set_option linter.unusedSimpArgs false
namespace Go.Proofs.YtlbmijcpalfaeaaGreatDoor
open Go.RowKit Go.Lib

theorem c_first : Tryz.prog.cellsOf 21 = 1 := by kernel_rfl
theorem c_kind : Tryz.prog.cellsOf 3 = 1 := by kernel_rfl
theorem c_span : Tryz.prog.cellsOf 149 = 3 := by kernel_rfl
theorem gSpans : Tryz.prog.globalNamed "sorrel/runes.spans" = some 1 := by kernel_rfl
theorem gSpansType : (Tryz.prog.globals[ 1 ]?).map (·.type) = some 160 := by kernel_rfl

def spansData : DataW Unit := .agg (spanTab.map fun p => .agg [.lit (.int .i32 p.1), .lit (.int .i32 p.2.1), .lit (.int .i64 p.2.2)])
theorem spansData_eq : Rows.laid_sorrel_runes_spans = spansData := rfl

theorem spans_of_reads {w : World} (h : VarReads Tryz.prog w "sorrel/runes.spans" spansData) : SpanCells w := by
  intro k hk
  obtain ⟨g, t, cs, fuel, p, hg, hty, hvar, hd⟩ := h
  obtain rfl := Option.some.inj (gSpans.symm.trans hg)
  obtain rfl := Option.some.inj (gSpansType.symm.trans hty)
  obtain ⟨fuel', d, q, hdi, he⟩ := array_elem Tryz.underlying160 hd k hk
  have hkl : k < spanTab.length := by rw [spanTab_length]; exact hk
  have e : spanTab.getD k (0, 0, 0) = spanTab[k] := by simp [hkl]
  rw [List.getElem?_map, List.getElem?_eq_getElem hkl, Option.map_some, Option.some.injEq] at hdi
  rw [← e] at hdi
  generalize spanTab.getD k (0, 0, 0) = P at *
  obtain ⟨a, b, c⟩ := P
  simp only at hdi ⊢
  subst hdi
  rw [c_span] at he
  obtain ⟨xs, n, _, hx, hl, hxl, hall⟩ := DataW.trod_struct Tryz.underlying149 he
  have hxs : xs.map (·.1) = [.lit (.int .i32 a), .lit (.int .i32 b), .lit (.int .i64 c)] := by
    have := congrArg Prod.fst hx
    simpa using this.symm
  have g0 : DataW.trod (fun _ => ()) Tryz.prog w 0 (fun _ => true) false n 21 ((((cs.toList.drop (k * 3)).take 3).drop 0).take (Tryz.prog.cellsOf 21)) = xs[0]? := hall 0 _ rfl
  have g1 : DataW.trod (fun _ => ()) Tryz.prog w 0 (fun _ => true) false n 21 ((((cs.toList.drop (k * 3)).take 3).drop 1).take (Tryz.prog.cellsOf 21)) = xs[1]? := hall 1 _ rfl
  have g2 : DataW.trod (fun _ => ()) Tryz.prog w 0 (fun _ => true) false n 3 ((((cs.toList.drop (k * 3)).take 3).drop 2).take (Tryz.prog.cellsOf 3)) = xs[2]? := hall 2 _ rfl
  rw [c_first] at g0 g1
  rw [c_kind] at g2
  match xs, hxs with
  | [x0, x1, x2], hxs =>
    simp only [List.map_cons, List.map_nil, List.cons.injEq, and_true] at hxs
    obtain ⟨x0e, x1e, x2e⟩ := hxs
    simp only [List.getElem?_cons_zero, List.getElem?_cons_succ] at g0 g1 g2
    obtain ⟨z0, k0, d0, _⟩ := DataW.trod_int Tryz.underlying21 g0
    obtain ⟨z1, k1, d1, _⟩ := DataW.trod_int Tryz.underlying21 g1
    obtain ⟨z2, k2, d2, _⟩ := DataW.trod_int Tryz.underlying3 g2
    rw [d0] at x0e
    rw [d1] at x1e
    rw [d2] at x2e
    simp only [DataW.lit.injEq, Lit.int.injEq, true_and] at x0e x1e x2e
    subst x0e; subst x1e; subst x2e
    have f0 := congrArg (·[0]?) k0
    have f1 := congrArg (·[0]?) k1
    have f2 := congrArg (·[0]?) k2
    simp only [List.getElem?_take, List.getElem?_drop] at f0 f1 f2
    refine ⟨?_, ?_, ?_⟩
    · rw [World.var?_cell hg hvar (k * 3), ← Array.getElem?_toList]; simpa using f0
    · rw [World.var?_cell hg hvar (k * 3 + 1), ← Array.getElem?_toList]; simpa using f1
    · rw [World.var?_cell hg hvar (k * 3 + 2), ← Array.getElem?_toList]; simpa using f2

theorem u8Extra : U8Extra Tryz.prog Tryz.lays260_ren := ⟨by kernel_rfl, by kernel_rfl, by kernel_rfl, by kernel_rfl, by kernel_rfl, by kernel_rfl, by kernel_rfl⟩
theorem first_eq : Rows.laid_unicode_utf8_first = firstData := by kernel_rfl
theorem accept_eq : Rows.laid_unicode_utf8_acceptRanges = acceptData := by kernel_rfl

end Go.Proofs.YtlbmijcpalfaeaaGreatDoor

namespace Go.Proofs.YtlbmijcpalfaeaaGreatDoor
open Go.ChangeShapes Go.WideShapes Go.ChangeAt Go.RowKit Go.Lib

theorem own : ownKnob Tryz.prog.godebug = none := by kernel_rfl

def spanVals : Array Value := (spanTab.flatMap fun p => [Value.int .i32 p.1, Value.int .i32 p.2.1, Value.int .i64 p.2.2]).toArray
def firstVals : Array Value := (firstTab.map fun z => Value.int .u8 z).toArray
def acceptVals : Array Value := ((List.range 16).flatMap fun i => [Value.int .u8 (accLo i), Value.int .u8 (accHi i)]).toArray

def setVals (h : Array Obj) (g : Nat) (vs : Array Value) : Array Obj := h.modify g fun
  | .cells _ t frozen => .cells vs t frozen
  | o => o
/-- THE END OF A CALL THAT ONLY ADDS MEMORY: its bool, and the arguments as they were. -/
theorem post_below {H : Type} {enc : TypeId × Value → H} {P : Program} {f : Func} {s : ChangeSpec} {W W' : World} {args : Array Value} {v : Value} {ds gs : List (DataW H)} {before pa pv : List MemPlace}
    (hW : DataW.Whole enc P f.params.toList s.vars false W args.toList ds gs before)
    (hres : ∀ (b : Nat) (sp : Nat → Bool) (hd : Bool), DataW.TrodAll enc P W' b sp hd f.resultTypes.toList (v.resultList f.resultTypes.size) (s.fn H (ds ++ gs)).results [])
    (hargs : ∀ sp : Nat → Bool, (∀ p ∈ before, sp p.block = true) → DataW.TrodAll enc P W' 0 sp true f.params.toList args.toList (s.fn H (ds ++ gs)).args pa)
    (hvars : ∀ sp : Nat → Bool, (∀ p ∈ before, sp p.block = true) → DataW.TrodVars enc P W' sp s.vars (s.fn H (ds ++ gs)).vars pv)
    (hps : before = pa ++ pv) (hk : W.keptBut W' (· ∈ before)) : s.post enc P f false true false false W args v W' := by
  have hold : ∀ p ∈ before, (fun b => decide (b < W.heap.size)) p.block = true := fun p hp => by simpa using hW.lt p hp
  refine ⟨ds, gs, before, [], pa, pv, hW, hres _ _ _, hargs _ hold, hvars _ hold, World.keptBut_mono (fun p hp => ⟨hp, ?_⟩) hk, fun h => by cases h⟩
  rw [hps, List.mem_append] at hp
  exact Or.inr hp
end Go.Proofs.YtlbmijcpalfaeaaGreatDoor

set_option linter.unusedSimpArgs false
set_option linter.unusedVariables false
namespace Go.Proofs.YtlbmijcpalfaeaaGreatDoor

structure Nd where
  op : Int
  n : Int
  name : ByteArray
  kids : List Int
  deriving DecidableEq

def nd0 : Nd := ⟨0, 0, ⟨#[]⟩, []⟩

def aritI (op : Int) : Int := if op = 1 ∨ op = 2 then 0 else if op = 3 ∨ op = 4 then 1 else if 5 ≤ op ∧ op ≤ 16 then 2 else if op = 17 then 3 else -1

theorem aritI_le (op : Int) : aritI op ≤ 3 := by
  unfold aritI; split <;> (try split) <;> (try split) <;> (try split) <;> omega
theorem aritI_ge (op : Int) : -1 ≤ aritI op := by
  unfold aritI; split <;> (try split) <;> (try split) <;> (try split) <;> omega

/-- May a node have all these together? -/
def fitB (op n : Int) (name : ByteArray) (parts : Int) : Bool :=
  decide (0 ≤ aritI op) && decide (parts = aritI op) && (decide (n = 0) || decide (op = 1)) && (if op = 2 then nameB name else name.toList.isEmpty)

def formB (x : Nd) : Bool := fitB x.op x.n x.name x.kids.length

theorem formB_kids {x : Nd} (h : formB x = true) : x.kids.length ≤ 3 := by
  unfold formB fitB at h
  simp only [Bool.and_eq_true, decide_eq_true_eq] at h
  have := aritI_le x.op
  omega

/-- From a cursor down through the kids, the last first. -/
def chainL (fr : List Nat) : List Int → Nat → Option Nat
  | [], c => some c
  | k :: ks, c => if c = 0 ∨ k ≠ (c : Int) - 1 then none else chainL fr ks (fr.getD (c - 1) 0)

def stp (fr : List Nat) (x : Nd) : Option (List Nat) := if formB x = true then (chainL fr x.kids.reverse fr.length).map (fun a => fr ++ [a]) else none

def begR (fr : List Nat) : List Nd → Option (List Nat)
  | [] => some fr
  | x :: l => (stp fr x).bind fun fr' => begR fr' l

def begL (l : List Nd) : Option (List Nat) :=
  if l.length = 0 ∨ 64 < l.length then none else (begR [] l).bind fun fr => if fr.getD (l.length - 1) 0 = 0 then some fr else none

def sndB (l : List Nd) : Bool := (begL l).isSome

/-- No entry is above its place. -/
def Low (fr : List Nat) : Prop := ∀ j, fr.getD j 0 ≤ j

theorem chainL_le {fr : List Nat} (h : Low fr) : ∀ (ks : List Int) (c a : Nat), chainL fr ks c = some a → a ≤ c := by
  intro ks
  induction ks with
  | nil => intro c a h; simp [chainL] at h; omega
  | cons k ks ih =>
    intro c a hh
    simp only [chainL] at hh
    split at hh
    · cases hh
    · have := ih _ _ hh
      have := h (c - 1)
      omega

theorem stp_some {fr fr' : List Nat} {x : Nd} (h : stp fr x = some fr') : formB x = true ∧ ∃ a, chainL fr x.kids.reverse fr.length = some a ∧ fr' = fr ++ [a] := by
  unfold stp at h
  split at h
  · rename_i hf
    cases hc : chainL fr x.kids.reverse fr.length with
    | none => rw [hc] at h; cases h
    | some a => rw [hc] at h; simp at h; exact ⟨hf, a, rfl, h.symm⟩
  · cases h

theorem getD_snoc (fr : List Nat) (a j : Nat) : (fr ++ [a]).getD j 0 = if j < fr.length then fr.getD j 0 else if j = fr.length then a else 0 := by
  simp only [List.getD_eq_getElem?_getD, List.getElem?_append]
  split
  · rfl
  · split
    · subst_vars; simp
    · rw [List.getElem?_eq_none (by simp; omega)]; rfl

theorem Low.snoc {fr : List Nat} (h : Low fr) {a : Nat} (ha : a ≤ fr.length) : Low (fr ++ [a]) := by
  intro j
  rw [getD_snoc]
  split
  · exact h j
  · split <;> omega

theorem begR_append (fr : List Nat) (l m : List Nd) : begR fr (l ++ m) = (begR fr l).bind fun fr' => begR fr' m := by
  induction l generalizing fr with
  | nil => simp [begR]
  | cons x l ih =>
    simp only [List.cons_append, begR]
    cases stp fr x with
    | none => rfl
    | some fr' => simp [ih]

theorem begR_snoc (fr : List Nat) (l : List Nd) (x : Nd) : begR fr (l ++ [x]) = (begR fr l).bind fun fr' => stp fr' x := by
  rw [begR_append]
  congr
  funext fr'
  simp [begR]

theorem begR_some {l : List Nd} : ∀ {fr fr' : List Nat}, begR fr l = some fr' → Low fr → fr'.length = fr.length + l.length ∧ Low fr' ∧ (∀ j, j < fr.length → fr'.getD j 0 = fr.getD j 0) ∧ ∀ x ∈ l, formB x = true := by
  induction l with
  | nil => intro fr fr' h hl; simp [begR] at h; subst h; simp [hl]
  | cons x l ih =>
    intro fr fr' h hl
    simp only [begR] at h
    cases hs : stp fr x with
    | none => rw [hs] at h; cases h
    | some f2 =>
      rw [hs] at h
      simp only [Option.bind_some] at h
      obtain ⟨hf, a, hc, rfl⟩ := stp_some hs
      obtain ⟨h1, h2, h3, h4⟩ := ih h (hl.snoc (chainL_le hl _ _ _ hc))
      refine ⟨by simp at h1 ⊢; omega, h2, fun j hj => ?_, ?_⟩
      · rw [h3 j (by simp; omega), getD_snoc, if_pos hj]
      · intro y hy
        rcases List.mem_cons.1 hy with rfl | hy
        · exact hf
        · exact h4 y hy

theorem low_nil : Low [] := by intro j; simp

theorem begR_take_none {l : List Nd} {i : Nat} (h : begR [] (l.take i) = none) : begR [] l = none := by
  rw [← List.take_append_drop i l, begR_append, h]; rfl

theorem begL_some {l : List Nd} {fr : List Nat} (h : begL l = some fr) : 0 < l.length ∧ l.length ≤ 64 ∧ begR [] l = some fr ∧ fr.getD (l.length - 1) 0 = 0 := by
  unfold begL at h
  split at h
  · cases h
  · rename_i hl
    cases hr : begR [] l with
    | none => rw [hr] at h; cases h
    | some f =>
      rw [hr] at h
      simp only [Option.bind_some] at h
      split at h
      · cases h; exact ⟨by omega, by omega, rfl, by assumption⟩
      · cases h

theorem begL_mk {l : List Nd} {fr : List Nat} (h0 : 0 < l.length) (h1 : l.length ≤ 64) (hr : begR [] l = some fr) (h2 : fr.getD (l.length - 1) 0 = 0) : begL l = some fr := by
  unfold begL
  rw [if_neg (by omega), hr, Option.bind_some, if_pos h2]

theorem begR_len {l : List Nd} {fr : List Nat} (h : begR [] l = some fr) : fr.length = l.length := by
  have := (begR_some h low_nil).1
  simpa using this
end Go.Proofs.YtlbmijcpalfaeaaGreatDoor

set_option linter.unusedSimpArgs false
set_option linter.unusedVariables false
namespace Go.Proofs.YtlbmijcpalfaeaaGreatDoor
open Go.RowKit Go.Lib

theorem ret2' {k l : IntKind} {a b c d : Int} (h : a = c) (h' : b = d) : Ending.returned (.tuple #[.int k a, .int l b]) = .returned (.tuple #[.int k c, .int l d]) := by rw [h, h']

def arK (op : Int) : Int := max (aritI op) 0
def arE (op : Int) : Int := if aritI op < 0 then 2 else 0
theorem ar_of {op a : Int} (h : aritI op = a) (h0 : 0 ≤ a) : arK op = a ∧ arE op = 0 := by
  unfold arK arE; rw [h, if_neg (by omega)]; exact ⟨by omega, rfl⟩
theorem ar_none {op : Int} (h : aritI op = -1) : arK op = 0 ∧ arE op = 2 := by
  unfold arK arE; rw [h]; exact ⟨by decide, by decide⟩

theorem ar_spec (op : Int) : (arK op = 0 ∧ arE op = 0 ∧ (op = 1 ∨ op = 2)) ∨ (arK op = 1 ∧ arE op = 0 ∧ (op = 3 ∨ op = 4)) ∨ (arK op = 2 ∧ arE op = 0 ∧ 5 ≤ op ∧ op ≤ 16) ∨ (arK op = 3 ∧ arE op = 0 ∧ op = 17) ∨ (arK op = 0 ∧ arE op = 2 ∧ (op < 1 ∨ 17 < op)) := by
  by_cases h1 : op = 1 ∨ op = 2
  · have := ar_of (op := op) (a := 0) (by simp [aritI, h1]) (by omega); omega
  by_cases h2 : op = 3 ∨ op = 4
  · have := ar_of (op := op) (a := 1) (by simp [aritI, h1, h2]) (by omega); omega
  by_cases h3 : 5 ≤ op ∧ op ≤ 16
  · have := ar_of (op := op) (a := 2) (by simp [aritI, h1, h2, h3]) (by omega); omega
  by_cases h4 : op = 17
  · have := ar_of (op := op) (a := 3) (by simp [aritI, h4]) (by omega); omega
  · have := ar_none (op := op) (by simp [aritI, h1, h2, h3, h4]); omega

set_option maxHeartbeats 400000 in
theorem arity_any (op : Int) (w : World) :
    Calls Tryz.prog 51 #[.int .i64 op] w fun e w' => e = .returned (.tuple #[.int .i64 (arK op), .int .i64 (arE op)]) ∧ w' = w := by
  go_enter Tryz.func51, Tryz.ntmps51
  go_wp2
  all_goals
    go_ret2
    have hs := ar_spec op
    simp only [beq_iff_eq, beq_eq_false_iff_ne, ne_eq] at *
    exact ⟨ret2' (by omega) (by omega), trivial⟩

set_option maxHeartbeats 400000 in
theorem fits_any (op n : Int) (name : ByteArray) (parts : Int) (w : World) (hT : SpanCells w) :
    Calls Tryz.prog 34 #[.int .i64 op, .int .i64 n, .string name, .int .i64 parts] w fun e w' => e = .returned (.bool (fitB op n name parts)) ∧ Below w.heap.size w w' := by
  have HF : Hid (fitB op n name parts = (!(arE op != 0) && !(parts != arK op) && !(n != 0 && op != 1) && (if op = 2 then nameB name else name.toList.isEmpty))) := by
    show _ = _
    by_cases h : 0 ≤ aritI op
    · rw [(ar_of rfl h).1, (ar_of rfl h).2]
      unfold fitB
      rw [Bool.eq_iff_iff]
      simp [h]
    · have h1 : aritI op = -1 := by have := aritI_ge op; omega
      rw [(ar_none h1).1, (ar_none h1).2]
      unfold fitB
      simp [h1]
  have ca : Hid (∀ W, Calls Tryz.prog 51 #[.int .i64 op] W fun e w' => e = .returned (.tuple #[.int .i64 (arK op), .int .i64 (arE op)]) ∧ w' = W) := arity_any op
  generalize arK op = k at *
  generalize arE op = x at *
  go_enter Tryz.func34, Tryz.ntmps34
  go_wp2_with (first | (go_at_call 51; refine (ca.out _).mono ?_; rintro e w' ⟨rfl, rfl⟩) | (go_at_call 52; refine (name_spans _ _ hT).mono ?_; rintro e w' ⟨rfl, hb⟩))
  all_goals
    go_ret
    first
    | exact ⟨ret_bool (by rw [HF.out]; simp_all), hb⟩
    | exact ⟨ret_bool (by rw [HF.out]; simp_all), Below.refl _ _⟩
end Go.Proofs.YtlbmijcpalfaeaaGreatDoor
