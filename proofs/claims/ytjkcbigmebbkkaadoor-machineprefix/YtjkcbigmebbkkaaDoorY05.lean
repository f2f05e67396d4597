/-
  MaP, ExAddP.
-/
import Derived.Shelf.Unicode.DecodeSlow
import Derived.Laws.RangeAny
import Derived.Shelf.Strconv.Itoa0
import Derived.Shelf.Unicode.DecodeAny
import Derived.Test.YtjkcbigmebbkkaaDoorProg
import Derived.WalkKit
import Derived.Deep.DeepFit
import Derived.Lib.OthersKept
import Derived.Lib.RuneCountTail
import Derived.Deep.AppendLies
import Derived.Deep.OwnRows
import Derived.Laws.AppendOwnNone
import Derived.Deep.QuietTactic
import Derived.BigQuiet
import Derived.Deep.RegionWith
import Derived.Laws.DeepStrings4
import Derived.Test.YtjkcbigmebbkkaaDoorY01
import Derived.Test.YtjkcbigmebbkkaaDoorY02
import Derived.Test.YtjkcbigmebbkkaaDoorY03
import Derived.Test.YtjkcbigmebbkkaaDoorY04
set_option linter.unusedSimpArgs false
set_option linter.unusedVariables false
namespace Go.Proofs.YtjkcbigmebbkkaaDoor

/-- A command. -/
structure Cm where
  kind : Int
  r : Int
  to : Int
  op : Int
  n : Int
  name : ByteArray
def cm0 : Cm := ⟨0, 0, 0, 0, 0, ⟨#[]⟩⟩
def bareB (c : Cm) : Bool := decide (c.op = 0) && decide (c.n = 0) && c.name.toList.isEmpty
def fitC (c : Cm) : Bool := fitB c.op c.n c.name (arK c.op)

/-- What the program has read so far. -/
structure Rg where
  slots : List Int
  looks : List (Int × Nd)
  holes : List Int
def chg (a b : Int) (l : List Int) : List Int := l.map fun z => if z = a then b else z
def chgL (a b : Int) (q : Int × Nd) : Int × Nd := (if q.1 = a then b else q.1, { q.2 with kids := chg a b q.2.kids })
def joinG (g : Rg) (x y : Int) : Rg := ⟨chg (max x y) (min x y) g.slots, g.looks.map (chgL (max x y) (min x y)), chg (max x y) (min x y) g.holes⟩
/-- The numbers from n on. -/
def upL (n k : Nat) : List Int := (List.range k).map fun j => ((n + j : Nat) : Int)
def lookG (g : Rg) (c : Cm) (k : Nat) : Rg := ⟨g.slots ++ upL g.slots.length k, g.looks ++ [(g.slots.getD c.r.toNat 0, ⟨c.op, c.n, c.name, upL g.slots.length k⟩)], g.holes⟩
def takeG (g : Rg) (c : Cm) : Rg := ⟨g.slots, g.looks, g.holes.set c.to.toNat (g.slots.getD c.r.toNat 0)⟩
def cmdG (g : Rg) (c : Cm) : Option Rg :=
  if c.kind = 1 then (if fitC c = true ∧ c.to = (g.slots.length : Nat) then some (lookG g c (arK c.op).toNat) else none)
  else if c.kind = 2 then (if bareB c = true ∧ 0 ≤ c.to ∧ c.to < (g.slots.length : Nat) then some (joinG g (g.slots.getD c.r.toNat 0) (g.slots.getD c.to.toNat 0)) else none)
  else if c.kind = 3 then (if bareB c = true ∧ 0 ≤ c.to ∧ c.to < (g.holes.length : Nat) ∧ g.holes.getD c.to.toNat 0 = -1 then some (takeG g c) else none)
  else none
def hasG (g : Rg) (z : Int) : Bool := decide (0 ≤ z) && decide (z < (g.slots.length : Nat))
def rgS (g : Rg) (c : Cm) : Option Rg := if hasG g c.r = true then cmdG g c else none
def rgL : Rg → List Cm → Option Rg
  | g, [] => some g
  | g, c :: l => match rgS g c with
    | none => none
    | some g' => rgL g' l
def rg0 (h : Nat) : Rg := ⟨[0], [], List.replicate h (-1)⟩
/-- What is read of a program. -/
def rgA (l : List Cm) (h : Int) : Option Rg :=
  if 0 ≤ h ∧ h ≤ 6 ∧ l.length ≤ 64 then (match rgL (rg0 h.toNat) l with
    | none => none
    | some g => if g.holes.any (fun z => decide (z = -1)) = true then none else some g) else none

/-- The document's. -/
def ckS (s : Nat × List Bool) (c : Cm) : Option (Nat × List Bool) :=
  if 0 ≤ c.r ∧ c.r < (s.1 : Nat) then
    (if c.kind = 1 then (if fitC c = true ∧ c.to = (s.1 : Nat) then some (s.1 + (arK c.op).toNat, s.2) else none)
    else if c.kind = 2 then (if bareB c = true ∧ 0 ≤ c.to ∧ c.to < (s.1 : Nat) then some s else none)
    else if c.kind = 3 then (if bareB c = true ∧ 0 ≤ c.to ∧ c.to < (s.2.length : Nat) ∧ s.2.getD c.to.toNat true = false then some (s.1, s.2.set c.to.toNat true) else none)
    else none)
  else none
def ckL : Nat × List Bool → List Cm → Option (Nat × List Bool)
  | s, [] => some s
  | s, c :: l => match ckS s c with
    | none => none
    | some s' => ckL s' l
def ckA (l : List Cm) (h : Int) : Bool :=
  decide (0 ≤ h ∧ h ≤ 6 ∧ l.length ≤ 64) && (match ckL (1, List.replicate h.toNat false) l with
    | none => false
    | some s => s.2.all fun b => b)

theorem ckL_app (s : Nat × List Bool) (a b : List Cm) : ckL s (a ++ b) = (ckL s a).bind fun s' => ckL s' b := by
  induction a generalizing s with
  | nil => rfl
  | cons c a ih =>
    simp only [List.cons_append, ckL]
    cases ckS s c with
    | none => rfl
    | some s' => exact ih s'
theorem rgL_app (g : Rg) (a b : List Cm) : rgL g (a ++ b) = (rgL g a).bind fun g' => rgL g' b := by
  induction a generalizing g with
  | nil => rfl
  | cons c a ih =>
    simp only [List.cons_append, rgL]
    cases rgS g c with
    | none => rfl
    | some g' => exact ih g'
theorem ckL_one (s : Nat × List Bool) (c : Cm) : ckL s [c] = ckS s c := by
  simp only [ckL]; cases ckS s c <;> rfl
theorem rgL_one (g : Rg) (c : Cm) : rgL g [c] = rgS g c := by
  simp only [rgL]; cases rgS g c <;> rfl
theorem rgL_take {g : Rg} {l : List Cm} {k : Nat} (hk : k < l.length) : rgL g (l.take (k + 1)) = (rgL g (l.take k)).bind fun g' => rgS g' (l.getD k cm0) := by
  have e : l.take (k + 1) = l.take k ++ [l.getD k cm0] := by rw [List.take_succ_eq_append_getElem hk]; simp [hk]
  rw [e, rgL_app]
  simp only [rgL_one]
theorem ckL_take {s : Nat × List Bool} {l : List Cm} {k : Nat} (hk : k < l.length) : ckL s (l.take (k + 1)) = (ckL s (l.take k)).bind fun g' => ckS g' (l.getD k cm0) := by
  have e : l.take (k + 1) = l.take k ++ [l.getD k cm0] := by rw [List.take_succ_eq_append_getElem hk]; simp [hk]
  rw [e, ckL_app]
  simp only [ckL_one]
theorem rgL_stop {g : Rg} {l : List Cm} {k : Nat} (h : rgL g (l.take k) = none) : rgL g l = none := by
  have := rgL_app g (l.take k) (l.drop k)
  rw [List.take_append_drop, h] at this
  exact this
theorem ckL_stop {s : Nat × List Bool} {l : List Cm} {k : Nat} (h : ckL s (l.take k) = none) : ckL s l = none := by
  have := ckL_app s (l.take k) (l.drop k)
  rw [List.take_append_drop, h] at this
  exact this

/-- Slots are numbers of registers; a hole's slot is one, or none. -/
structure RgI (g : Rg) : Prop where
  pos : 0 < g.slots.length
  slots : ∀ z ∈ g.slots, 0 ≤ z ∧ z < (g.slots.length : Nat)
  holes : ∀ z ∈ g.holes, -1 ≤ z
def tkB (l : List Int) : List Bool := l.map fun z => !decide (z = -1)
def rgC (g : Rg) : Nat × List Bool := (g.slots.length, tkB g.holes)
theorem chg_len (a b : Int) (l : List Int) : (chg a b l).length = l.length := by simp [chg]
theorem upL_len (n k : Nat) : (upL n k).length = k := by simp [upL]
theorem RgI.slot {g : Rg} (h : RgI g) {z : Int} (h0 : 0 ≤ z) (h1 : z < (g.slots.length : Nat)) : 0 ≤ g.slots.getD z.toNat 0 ∧ g.slots.getD z.toNat 0 < (g.slots.length : Nat) := by
  have hk : z.toNat < g.slots.length := by omega
  have e : g.slots.getD z.toNat 0 = g.slots[z.toNat] := by simp [hk]
  rw [e]; exact h.slots _ (List.getElem_mem hk)
theorem RgI.start (h : Nat) : RgI (rg0 h) := ⟨by simp [rg0], by simp [rg0], by
  intro z hz; simp [rg0] at hz; omega⟩
theorem tk_set (l : List Int) (k : Nat) (z : Int) (hz : 0 ≤ z) : tkB (l.set k z) = (tkB l).set k true := by
  unfold tkB
  rw [List.map_set]
  have : (!decide (z = -1)) = true := by simp; omega
  rw [this]
theorem tk_chg (l : List Int) (a b : Int) (ha : 0 ≤ a) (hb : 0 ≤ b) : tkB (chg a b l) = tkB l := by
  unfold tkB chg
  rw [List.map_map]
  apply List.map_congr_left
  intro z _
  simp only [Function.comp]
  split
  · rename_i e; subst e
    rw [decide_eq_false (by omega), decide_eq_false (by omega)]
  · rfl
theorem tk_at (l : List Int) (k : Nat) (hk : k < l.length) : (tkB l).getD k true = false ↔ l.getD k 0 = -1 := by
  simp [tkB, hk]
theorem rg_step {g : Rg} (h : RgI g) (c : Cm) : (rgS g c).map rgC = ckS (rgC g) c ∧ ∀ g', rgS g c = some g' → RgI g' := by
  unfold rgS ckS hasG rgC
  by_cases hr : 0 ≤ c.r ∧ c.r < (g.slots.length : Nat)
  · rw [if_pos (by simp [hr.1, hr.2]), if_pos hr]
    obtain ⟨s0, s1⟩ := h.slot hr.1 hr.2
    unfold cmdG
    by_cases k1 : c.kind = 1
    · rw [if_pos k1, if_pos k1]
      by_cases hc : fitC c = true ∧ c.to = (g.slots.length : Nat)
      · rw [if_pos hc, if_pos hc]
        refine ⟨by simp [lookG, upL_len], ?_⟩
        rintro g' ⟨⟩
        refine ⟨by simp [lookG]; have := h.pos; omega, fun z hz => ?_, h.holes⟩
        simp only [lookG, List.mem_append, List.length_append, upL_len] at hz ⊢
        rcases hz with hz | hz
        · have := h.slots z hz; omega
        · simp only [upL, List.mem_map, List.mem_range] at hz
          obtain ⟨j, hj, rfl⟩ := hz
          omega
      · rw [if_neg hc, if_neg hc]
        exact ⟨rfl, by rintro g' ⟨⟩⟩
    rw [if_neg k1, if_neg k1]
    by_cases k2 : c.kind = 2
    · rw [if_pos k2, if_pos k2]
      by_cases hc : bareB c = true ∧ 0 ≤ c.to ∧ c.to < (g.slots.length : Nat)
      · rw [if_pos hc, if_pos hc]
        obtain ⟨t0, t1⟩ := h.slot hc.2.1 hc.2.2
        generalize g.slots.getD c.r.toNat 0 = x at *
        generalize g.slots.getD c.to.toNat 0 = y at *
        refine ⟨by simp [joinG, chg_len, tk_chg _ (max x y) (min x y) (by omega) (by omega)], ?_⟩
        rintro g' ⟨⟩
        refine ⟨by simp [joinG, chg_len]; exact h.pos, fun z hz => ?_, fun z hz => ?_⟩
        · simp only [joinG, chg_len] at hz ⊢
          obtain ⟨u, hu, rfl⟩ := List.mem_map.1 hz
          have := h.slots u hu
          split <;> omega
        · simp only [joinG] at hz
          obtain ⟨u, hu, rfl⟩ := List.mem_map.1 hz
          have := h.holes u hu
          split <;> omega
      · rw [if_neg hc, if_neg hc]
        exact ⟨rfl, by rintro g' ⟨⟩⟩
    rw [if_neg k2, if_neg k2]
    by_cases k3 : c.kind = 3
    · rw [if_pos k3, if_pos k3]
      by_cases hc : bareB c = true ∧ 0 ≤ c.to ∧ c.to < (g.holes.length : Nat) ∧ g.holes.getD c.to.toNat 0 = -1
      · have hk : c.to.toNat < g.holes.length := by omega
        rw [if_pos hc, if_pos ⟨hc.1, hc.2.1, by simpa [tkB] using hc.2.2.1, (tk_at _ _ hk).2 hc.2.2.2⟩]
        refine ⟨by show some (g.slots.length, tkB (g.holes.set _ _)) = _; rw [tk_set _ _ _ s0], ?_⟩
        rintro g' ⟨⟩
        refine ⟨h.pos, h.slots, fun z hz => ?_⟩
        rcases List.mem_or_eq_of_mem_set hz with hz | rfl
        · exact h.holes z hz
        · omega
      · rw [if_neg hc, if_neg (fun h2 => hc ⟨h2.1, h2.2.1, by simpa [tkB] using h2.2.2.1, (tk_at _ _ (by have := h2.2.2.1; simp [tkB] at this; omega)).1 h2.2.2.2⟩)]
        exact ⟨rfl, by rintro g' ⟨⟩⟩
    rw [if_neg k3, if_neg k3]
    exact ⟨rfl, by rintro g' ⟨⟩⟩
  · rw [if_neg (by simpa using hr), if_neg hr]
    exact ⟨rfl, by rintro g' ⟨⟩⟩
theorem rg_run {l : List Cm} : ∀ {g : Rg}, RgI g → (rgL g l).map rgC = ckL (rgC g) l ∧ ∀ g', rgL g l = some g' → RgI g' := by
  induction l with
  | nil => intro g h; exact ⟨rfl, by rintro g' ⟨⟩; exact h⟩
  | cons c l ih =>
    intro g h
    obtain ⟨h1, h2⟩ := rg_step h c
    simp only [rgL, ckL]
    rw [← h1]
    cases hs : rgS g c with
    | none => exact ⟨rfl, by rintro g' ⟨⟩⟩
    | some g1 => exact ih (h2 g1 hs)
theorem rgC_start (h : Nat) : rgC (rg0 h) = (1, List.replicate h false) := by simp [rgC, rg0, tkB]
/-- The program's check is the document's. -/
theorem rg_ck (l : List Cm) (h : Int) : (rgA l h).isSome = ckA l h := by
  unfold rgA ckA
  by_cases hh : 0 ≤ h ∧ h ≤ 6 ∧ l.length ≤ 64
  · rw [if_pos hh, decide_eq_true hh, Bool.true_and, ← rgC_start, ← (rg_run (RgI.start _)).1]
    cases rgL (rg0 h.toNat) l with
    | none => rfl
    | some g =>
      simp only [Option.map_some, rgC]
      by_cases ha : g.holes.any (fun z => decide (z = -1)) = true
      · rw [if_pos ha]
        obtain ⟨z, hz, he⟩ := List.any_eq_true.1 ha
        have : (tkB g.holes).all (fun b => b) = false := by
          rw [Bool.eq_false_iff]
          intro hall
          have := List.all_eq_true.1 hall (!decide (z = -1)) (List.mem_map.2 ⟨z, hz, rfl⟩)
          rw [he] at this; cases this
        rw [this]; rfl
      · rw [if_neg ha]
        symm
        rw [Option.isSome_some, List.all_eq_true]
        intro b hb
        obtain ⟨z, hz, rfl⟩ := List.mem_map.1 hb
        cases hd : decide (z = -1) with
        | false => rfl
        | true => exact absurd (List.any_eq_true.2 ⟨z, hz, hd⟩) ha
  · rw [if_neg hh, decide_eq_false hh]; rfl
/-- What Check answers. -/
def ckE (l : List Cm) (h : Int) : Int := if ckA l h = true then 0 else 1
end Go.Proofs.YtjkcbigmebbkkaaDoor

set_option linter.unusedSimpArgs false
set_option linter.unusedVariables false
namespace Go.Proofs.YtjkcbigmebbkkaaDoor
open Go.RowKit Go.Lib

/-- What was appended to a list of the call's own. -/
structure AddPost (w : World) (base : Nat) (v : Value) (p : List (Nd × Value)) (ms : List Nd) (e : Ending) (w' : World) : Prop where
  ex : ∃ v' p', e = .returned v' ∧ OwnP w' base v' (p ++ p') ∧ p'.map (·.1) = ms ∧ (∀ q ∈ p', OwnI w' w.heap.size q.2 q.1.kids) ∧ w.grownBy w' v.ownBlock ∧ (v'.ownBlock = v.ownBlock ∨ ∀ g, v'.ownBlock = some g → w.heap.size ≤ g) ∧ Below base w w'

/-- In the middle of it. -/
structure AddMid (w : World) (base : Nat) (v : Value) (p : List (Nd × Value)) (ms : List Nd) (x : Value) (wr : World) : Prop where
  ex : ∃ p', OwnP wr base x (p ++ p') ∧ p'.map (·.1) = ms ∧ (∀ q ∈ p', OwnI wr w.heap.size q.2 q.1.kids) ∧ w.grownBy wr v.ownBlock ∧ (x.ownBlock = v.ownBlock ∨ ∀ g, x.ownBlock = some g → w.heap.size ≤ g) ∧ Below base w wr

theorem AddMid.start {w : World} {base : Nat} {v : Value} {p : List (Nd × Value)} (h : OwnP w base v p) : AddMid w base v p [] v w :=
  ⟨⟨[], by simpa using h, rfl, by simp, World.grownBy.refl _ _, .inl rfl, Below.refl _ _⟩⟩

/-- One node more: its kids are owned (new since wr), the append has gone through. -/
theorem AddMid.snoc {w : World} {base : Nat} {v x : Value} {p p' : List (Nd × Value)} {ms : List Nd} {wr W w1 : World} {y : Nd} {kv : Value} {g n cap : Nat} (hP : OwnP wr base x (p ++ p')) (hm : p'.map (·.1) = ms) (hkid : ∀ q ∈ p', OwnI wr w.heap.size q.2 q.1.kids) (hgr : w.grownBy wr v.ownBlock) (hx : x.ownBlock = v.ownBlock ∨ ∀ g, x.ownBlock = some g → w.heap.size ≤ g) (hB : Below base w wr)
    (hbase : base ≤ w.heap.size) (hBW : Below wr.heap.size wr W) (hk : OwnI W wr.heap.size kv y.kids) (hn : n = (p ++ p').length)
    (hown : w1.ownsRow base 71 4 (.slice (some ⟨g, 0, none⟩) (n + 1) cap) (n + 1) (ndCells (p ++ p') ++ [.int .i64 y.op, .int .i64 y.n, .string y.name, kv])) (hg : W.grownBy w1 x.ownBlock) (hat : x.ownBlock = some g ∨ g = W.heap.size) :
    AddMid w base v p (ms ++ [y]) (.slice (some ⟨g, 0, none⟩) (n + 1) cap) w1 := by
  have hsz : w.heap.size ≤ wr.heap.size := hgr.size
  have hPW := hP.below hBW
  have hkb : OwnI W base kv y.kids := ownsRow_mono hk (by omega)
  refine ⟨⟨p' ++ [(y, kv)], ?_, by simp [hm], fun q hq => ?_, ?_, ?_, ?_⟩⟩
  · rw [← List.append_assoc]
    subst hn
    exact hPW.snoc hkb hown hg
  · rcases List.mem_append.1 hq with hq | hq
    · have h1 := (hkid q hq).below hBW
      exact World.ownsRow.kept h1 hg (ownBlock_ne h1 hPW.row (by decide))
    · simp at hq; subst hq
      exact ownsRow_mono (World.ownsRow.kept hk hg (ownBlock_ne hk hPW.row (by decide))) hsz
  · refine ⟨hg.os.trans (hBW.os.trans hgr.os), hg.tape.trans (hBW.tape.trans hgr.tape), hg.output.trans (hBW.output.trans hgr.output), Nat.le_trans hsz (Nat.le_trans hBW.size hg.size), fun k hk1 hk2 => ?_⟩
    rw [hg.block k (by have := hBW.size; omega) (fun he => by
      rcases hx with hx | hx
      · rw [hx] at he; exact hk2 he
      · have := hx k he.symm; omega), hBW.block k (by omega), hgr.block k hk1 hk2]
  · rcases hat with hat | hat
    · rcases hx with hx | hx
      · left; show some g = v.ownBlock; rw [← hx, hat]
      · right; intro g' hg'; have e : g = g' := Option.some.inj hg'; have := hx g hat; omega
    · right; intro g' hg'; have e : g = g' := Option.some.inj hg'; have := hBW.size; omega
  · exact (hB.trans (hBW.mono (by omega))).grown hg (by have := hBW.size; omega) (fun k hk => (hPW.row.lt k hk).1)

set_option maxHeartbeats 1000000 in
theorem add_p (v vs : Value) (p : List (Nd × Value)) (ns : List Nd) (fr by_ : Int) (w : World) (base : Nat) (hbase : base ≤ w.heap.size) (hO : OwnP w base v p) (hN : Nodes w base vs ns) (hlen : (p.length + ns.length) * 56 ≤ 140737488355328)
    (hks : ∀ x ∈ ns, x.kids.length * 8 ≤ 140737488351232 ∧ ∀ k ∈ x.kids, -9000 ≤ k ∧ k ≤ 9000) (hb0 : -9000 ≤ by_) (hb1 : by_ ≤ 9000) :
    Calls Tryd.prog 41 #[v, vs, .int .i64 fr, .int .i64 by_] w fun e w' => AddPost w base v p (ns.map (mvN fr by_)) e w' := by
  obtain ⟨ao, cap0, rfl, hl, hm, hc⟩ := hN
  obtain ⟨i0, hi, hz0, hz1, hz2⟩ := info_parts Tryd.infoNode
  unfold maxLen at hm
  have HC : Hid (ns = [] ∨ ∃ b o, ao = some ⟨b, o, none⟩ ∧ b < base ∧ ∀ i, i < ns.length → ∃ kv, NodeAt w base b (o + i * 4) (ns.getD i nd0) kv) := hc
  clear hc
  go_enter Tryd.func41, Tryd.ntmps41
  go_wp2
  go_loopw [0, 13] (fun x i wr => ∃ k : Nat, k ≤ ns.length ∧ i = .int .i64 k ∧ AddMid w base v p ((ns.take k).map (mvN fr by_)) x wr) (fun _ i _ => ns.length - (RowKit.intOf i).toNat)
  case atStart => exact ⟨0, by omega, rfl, AddMid.start hO⟩
  case round =>
    obtain ⟨k, hk, rfl, hmid⟩ := hrel
    by_cases hlt : k < ns.length
    · obtain ⟨p', hP, hpm, hkid, hgr, hx, hB⟩ := hmid.ex
      have hsz := hB.size
      obtain ⟨b, o, rfl, hbl, hc⟩ : ∃ b o, ao = some ⟨b, o, none⟩ ∧ b < base ∧ ∀ i, i < ns.length → ∃ kv, NodeAt w base b (o + i * 4) (ns.getD i nd0) kv := by
        rcases HC.out with h | h
        · subst h; simp at hlt
        · exact h
      obtain ⟨kv, hNA⟩ := hc k hlt
      clear hc HC
      have hNA := hNA.below hB (Nat.le_refl _) hbl
      have hzr := hks (ns.getD k nd0) (by simp [hlt])
      have HS := take_map_snoc (mvN fr by_) nd0 ns k hlt
      have hMl : ((ns.take k).map (mvN fr by_)).length = k := by simp; omega
      have hpl : (p ++ p').length = p.length + k := by
        rw [List.length_append]
        have := congrArg List.length hpm
        simp only [List.length_map] at this hMl
        omega
      have HPL : Hid ((p ++ p').length = p.length + k) := hpl
      have HPM : Hid (p'.map (·.1) = (ns.take k).map (mvN fr by_)) := hpm
      have HKID : Hid (∀ q ∈ p', OwnI wr w.heap.size q.2 q.1.kids) := hkid
      have HGR : Hid (w.grownBy wr v.ownBlock) := hgr
      generalize hQ : p ++ p' = Q at hP HPL
      have HQ : Hid (p ++ p' = Q) := hQ
      have HP : Hid (OwnP wr base _ Q) := hP
      have HX : Hid (_ ∨ _) := hx
      clear hpl hQ hpm hkid hgr hx hmid
      generalize ns.getD k nd0 = x at *
      have HS' : Hid ((ns.take (k + 1)).map (mvN fr by_) = (ns.take k).map (mvN fr by_) ++ [mvN fr by_ x]) := HS
      clear HS hks
      obtain ⟨op, n, nm, kids⟩ := x
      obtain ⟨c0, c1, c2, c3, hki⟩ := hNA
      simp only at c0 c1 c2 c3 hki hzr
      obtain ⟨ka, kc, rfl, hki'⟩ := id hki
      have hb9 : b < wr.heap.size := by omega
      have hb8 : b ≠ wr.heap.size := by omega
      go_wp2_with fail
      refine (moved_any _ kids _ _ _ ?h1 hzr.1 hzr.2 hb0 hb1).mono ?_
      case h1 => exact hki.below ((Below.refl _ _).alloc (by omega) _) (by simp; omega)
      rintro e w2 ⟨v2, rfl, hO2, hB2⟩
      obtain ⟨ao2, cap2, rfl⟩ := hO2.form
      generalize hm2 : kids.map (mvK fr by_) = kids2 at *
      have HM2 : Hid (mvN fr by_ ⟨op, n, nm, kids⟩ = ⟨op, n, nm, kids2⟩) := by show mvN fr by_ ⟨op, n, nm, kids⟩ = ⟨op, n, nm, kids2⟩; rw [← hm2]; rfl
      clear hm2
      have d0 : w2.cell? ⟨wr.heap.size, 0, none⟩ = some (.int .i64 op) := by rw [hB2.cell (p := ⟨wr.heap.size, 0, none⟩) (by simp)]; simp
      have d1 : w2.cell? ⟨wr.heap.size, 1, none⟩ = some (.int .i64 n) := by rw [hB2.cell (p := ⟨wr.heap.size, 1, none⟩) (by simp)]; simp
      have d2 : w2.cell? ⟨wr.heap.size, 2, none⟩ = some (.string nm) := by rw [hB2.cell (p := ⟨wr.heap.size, 2, none⟩) (by simp)]; simp
      have d3 : w2.cell? ⟨wr.heap.size, 3, none⟩ = some (.slice ka kids.length kc) := by rw [hB2.cell (p := ⟨wr.heap.size, 3, none⟩) (by simp)]; simp
      have f3 : w2.frozen? ⟨wr.heap.size, 3, none⟩ = false := by rw [hB2.frozen (p := ⟨wr.heap.size, 3, none⟩) (by simp)]; simp
      have z2 : wr.heap.size + 1 ≤ w2.heap.size := by have := hB2.size; simpa using this
      have hBw2 : Below wr.heap.size wr w2 := ((Below.refl _ _).alloc (Nat.le_refl _) _).trans (hB2.mono (by simp))
      have hBw3 : Below wr.heap.size wr (w2.setCell ⟨wr.heap.size, 3, none⟩ (.slice ao2 kids2.length cap2)) := hBw2.setCell (Nat.le_refl _) _
      have hP3 := hP.below hBw3
      have hO3 : OwnI (w2.setCell ⟨wr.heap.size, 3, none⟩ (.slice ao2 kids2.length cap2)) wr.heap.size (.slice ao2 kids2.length cap2) kids2 := ownsRow_mono (ownsRow_setCell_below hO2 (by simp) _) (by simp)
      clear c0 c1 c2 c3 hki hki' hO2 hB2 hBw2 hO hP
      go_wp2_with (at_builtin; refine wpList_append_lies _ rfl (.tmp 23) (.tmp 25) 22 rfl base 71 i0 (.agg #[.int .i64 0, .int .i64 0, .string ⟨#[]⟩, .slice none 0 0]) 4 56 Tryd.underlying22 hi hz0 hz1 hz2 rfl (by decide) _ _ _ rfl (hP3.row.alloc _) ⟨w2.heap.size, 0, none⟩ 1 1 [.int .i64 op, .int .i64 n, .string nm, .slice ao2 kids2.length cap2] rfl rfl (cell_news4 _ _ _ _ _ _ _ (by simp)) (by simp [Value.oneCell']) (by omega) (by have := HPL.out; unfold maxLen; omega) (by have := HPL.out; omega) (by simp; omega) _ rfl ?_; intro g cap w1 hown1 hg1 hat hl1)
      refine ⟨⟨k + 1, by omega, by go_num, ?_⟩, by simp [RowKit.intOf]; omega⟩
      rw [HS'.out, HM2.out]
      have hPQ := HP.out
      rw [← HQ.out] at hPQ
      refine AddMid.snoc (p' := p') (y := ⟨op, n, nm, kids2⟩) (kv := .slice ao2 kids2.length cap2) hPQ HPM.out HKID.out HGR.out HX.out hB hbase (hBw3.alloc (by simp; omega) (.cells #[.int .i64 op, .int .i64 n, .string nm, .slice ao2 kids2.length cap2] 71)) (hO3.below ((Below.refl _ _).alloc (Nat.le_refl _) _)) (by rw [HQ.out]) (by rw [HQ.out]; exact hown1) hg1 hat
    · have hke : k = ns.length := by omega
      subst hke
      go_wp2
      go_ret
      rw [List.take_length] at hmid
      obtain ⟨p', h1, h2, h3, h4, h5, h6⟩ := hmid.ex
      exact ⟨⟨_, p', rfl, h1, h2, h3, h4, h5, h6⟩⟩
end Go.Proofs.YtjkcbigmebbkkaaDoor

namespace Go.Proofs.YtjkcbigmebbkkaaDoor
open Go.RowKit Go.Lib

/-- The slice v reads as the lists ps, in blocks below B. -/
def Lst (w : World) (B : Nat) (v : Value) (ps : List (List Nd)) : Prop :=
  ∃ ao cap, v = .slice ao ps.length cap ∧ ps.length ≤ cap ∧ cap ≤ maxLen ∧ (ps = [] ∨ ∃ b o, ao = some ⟨b, o, none⟩ ∧ b < B ∧ ∀ i, i < ps.length → ∃ pv, w.cell? ⟨b, o + i, none⟩ = some pv ∧ Nodes w B pv (ps.getD i []))

theorem Lst.below {w w' : World} {B B' : Nat} {v : Value} {ps : List (List Nd)} (h : Lst w B v ps) (hb : Below B w w') (hB : B ≤ B') : Lst w' B' v ps := by
  obtain ⟨ao, cap, rfl, h1, h2, h3⟩ := h
  refine ⟨ao, cap, rfl, h1, h2, ?_⟩
  rcases h3 with h3 | ⟨b, o, rfl, hlt, hc⟩
  · exact .inl h3
  · exact .inr ⟨b, o, rfl, by omega, fun i hi => let ⟨pv, h4, h5⟩ := hc i hi; ⟨pv, (hb.cell (p := ⟨b, o + i, none⟩) hlt).trans h4, h5.below hb hB⟩⟩

theorem OwnP.kept {w w' : World} {base base' : Nat} {v v2 : Value} {p : List (Nd × Value)} {e : TypeId} {s n : Nat} {xs : List Value} (h : OwnP w base v p) (hg : w.grownBy w' v2.ownBlock) (hr : w.ownsRow base' e s v2 n xs) (h1 : 71 ≠ e) (h2 : 3 ≠ e) : OwnP w' base v p :=
  ⟨World.ownsRow.kept h.row hg (ownBlock_ne h.row hr h1), fun q hq => World.ownsRow.kept (h.kids q hq) hg (ownBlock_ne (h.kids q hq) hr h2)⟩
theorem OwnN.kept {w w' : World} {base base' : Nat} {v v2 : Value} {l : List Nd} {e : TypeId} {s n : Nat} {xs : List Value} (h : OwnN w base v l) (hg : w.grownBy w' v2.ownBlock) (hr : w.ownsRow base' e s v2 n xs) (h1 : 71 ≠ e) (h2 : 3 ≠ e) : OwnN w' base v l :=
  let ⟨p, h3, h4⟩ := h; ⟨p, h3, h4.kept hg hr h1 h2⟩

/-- Lists of lists of the call's own; pvs: the slices. -/
structure OwnLs (w : World) (base : Nat) (v : Value) (ps : List (List Nd)) (pvs : List Value) : Prop where
  len : pvs.length = ps.length
  row : w.ownsRow base 22 1 v ps.length pvs
  each : ∀ i, i < ps.length → OwnN w base (pvs.getD i (.slice none 0 0)) (ps.getD i [])

theorem OwnLs.snoc {w w1 : World} {base : Nat} {v v' : Value} {ps : List (List Nd)} {pvs : List Value} {l : List Nd} {pv : Value} (h : OwnLs w base v ps pvs) (hl : OwnN w base pv l)
    (hown : w1.ownsRow base 22 1 v' (ps.length + 1) (pvs ++ [pv])) (hg : w.grownBy w1 v.ownBlock) : OwnLs w1 base v' (ps ++ [l]) (pvs ++ [pv]) := by
  have hlen := h.len
  refine ⟨by simp [hlen], by simpa using hown, fun i hi => ?_⟩
  by_cases hlt : i < ps.length
  · have e1 : (pvs ++ [pv]).getD i (.slice none 0 0) = pvs.getD i (.slice none 0 0) := by simp only [List.getD_eq_getElem?_getD]; rw [List.getElem?_append_left (by omega)]
    have e2 : (ps ++ [l]).getD i [] = ps.getD i [] := by simp only [List.getD_eq_getElem?_getD]; rw [List.getElem?_append_left (by omega)]
    rw [e1, e2]
    exact (h.each i hlt).kept hg h.row (by decide) (by decide)
  · have he : i = ps.length := by simp at hi; omega
    have e1 : (pvs ++ [pv]).getD i (.slice none 0 0) = pv := by rw [he, ← hlen]; simp
    have e2 : (ps ++ [l]).getD i [] = l := by rw [he]; simp
    rw [e1, e2]
    exact hl.kept hg h.row (by decide) (by decide)

theorem OwnLs.below {w w' : World} {base : Nat} {v : Value} {ps : List (List Nd)} {pvs : List Value} (h : OwnLs w base v ps pvs) (hb : Below w.heap.size w w') : OwnLs w' base v ps pvs :=
  ⟨h.len, ownsRow_below h.row hb, fun i hi => (h.each i hi).below hb⟩

theorem Tryd.infoNodes : (Tryd.prog.info? 22).map (fun i => (i.zero, i.size, i.bytes)) = some (some (.slice none 0 0), 1, 24) := by kernel_rfl
end Go.Proofs.YtjkcbigmebbkkaaDoor
