/-
  Cells that tell values, and the values that they tell.
-/
import Derived.Test.YtdcfjopmddaemaaDoorMBxSplW
import Derived.Test.YtdcfjopmddaemaaDoorMBxAskW
set_option linter.unusedSimpArgs false
set_option linter.unusedVariables false
namespace Go.Proofs.YtdcfjopmddaemaaDoor
open Go.RowKit

structure Cl where
  kind : Int
  op : Int
  n : Int
  name : ByteArray
  a : Int
  b : Int
  c : Int
def cl0 : Cl := ⟨0, 0, 0, ⟨#[]⟩, 0, 0, 0⟩

def PTR : TypeId := 90
def FRN : TypeId := 91

/-- The earlier value of that number, or nil. -/
def getT (ts : List Tm) (k : Int) : Tm := if 0 ≤ k ∧ k < ts.length then ts.getD k.toNat .nil else .nil
/-- The value of one cell, those of the earlier ones being ts; p: where a literal is laid. -/
def mkT (x : Cl) (ts : List Tm) (p : Addr) : Tm :=
  if x.kind = 1 then .lit x.n else if x.kind = 2 then .var x.name else if x.kind = 3 then .un x.op (getT ts x.a)
  else if x.kind = 4 then .bin x.op (getT ts x.a) (getT ts x.b) else if x.kind = 5 then .ifs (getT ts x.c) (getT ts x.a) (getT ts x.b)
  else if x.kind = 6 then .other PTR (.pointer (some p)) else if x.kind = 7 then .other FRN (.agg #[.int .i64 x.n]) else .nil

inductive Vals (cs : List Cl) : List Tm → Prop
  | nil : Vals cs []
  | snoc (ts : List Tm) (p : Addr) (h : Vals cs ts) (hl : ts.length < cs.length) : Vals cs (ts ++ [mkT (cs.getD ts.length cl0) ts p])

theorem Vals.at_ {cs : List Cl} {ts : List Tm} (h : Vals cs ts) : ∀ i, i < ts.length → ∃ p, ts.getD i .nil = mkT (cs.getD i cl0) (ts.take i) p := by
  induction h with
  | nil => intro i hi; simp at hi
  | snoc ts p h hl ih =>
    intro i hi
    simp at hi
    by_cases hlt : i < ts.length
    · obtain ⟨q, hq⟩ := ih i hlt
      refine ⟨q, ?_⟩
      have e1 : (ts ++ [mkT (cs.getD ts.length cl0) ts p]).getD i .nil = ts.getD i .nil := by
        simp only [List.getD_eq_getElem?_getD]; rw [List.getElem?_append_left hlt]
      have e2 : (ts ++ [mkT (cs.getD ts.length cl0) ts p]).take i = ts.take i := List.take_append_of_le_length (by omega)
      rw [e1, e2, hq]
    · have he : i = ts.length := by omega
      subst he
      exact ⟨p, by simp⟩

/-- Of the kinds that occur. -/
def Kn : Tm → Prop
  | .other u x => (u = PTR ∧ ∃ p, x = .pointer (some p)) ∨ (u = FRN ∧ ∃ n, x = .agg #[.int .i64 n])
  | _ => True
theorem Kn.oth {t : Tm} (h : Kn t) : Oth t := by
  cases t with
  | other u x =>
    rcases h with ⟨rfl, _⟩ | ⟨rfl, _⟩
    · exact ⟨by decide, by decide, by decide, by decide, by decide⟩
    · exact ⟨by decide, by decide, by decide, by decide, by decide⟩
  | _ => trivial
theorem mkT_kn (x : Cl) (ts : List Tm) (p : Addr) : Kn (mkT x ts p) := by
  unfold mkT
  repeat' split
  all_goals first | trivial | exact .inl ⟨rfl, _, rfl⟩ | exact .inr ⟨rfl, _, rfl⟩
theorem Vals.kn {cs : List Cl} {ts : List Tm} (h : Vals cs ts) (i : Nat) (hi : i < ts.length) : Kn (ts.getD i .nil) := by
  obtain ⟨p, e⟩ := h.at_ i hi
  rw [e]; exact mkT_kn _ _ _

structure ClAt (w : World) (b o : Nat) (x : Cl) : Prop where
  c0 : w.cell? ⟨b, o, none⟩ = some (.int .i64 x.kind)
  c1 : w.cell? ⟨b, o + 1, none⟩ = some (.int .i64 x.op)
  c2 : w.cell? ⟨b, o + 2, none⟩ = some (.int .i64 x.n)
  c3 : w.cell? ⟨b, o + 3, none⟩ = some (.string x.name)
  c4 : w.cell? ⟨b, o + 4, none⟩ = some (.int .i64 x.a)
  c5 : w.cell? ⟨b, o + 5, none⟩ = some (.int .i64 x.b)
  c6 : w.cell? ⟨b, o + 6, none⟩ = some (.int .i64 x.c)
theorem ClAt.below {w w' : World} {B b o : Nat} {x : Cl} (h : ClAt w b o x) (hb : Below B w w') (hlt : b < B) : ClAt w' b o x :=
  ⟨(hb.cell (p := ⟨b, o, none⟩) hlt).trans h.c0, (hb.cell (p := ⟨b, o + 1, none⟩) hlt).trans h.c1, (hb.cell (p := ⟨b, o + 2, none⟩) hlt).trans h.c2, (hb.cell (p := ⟨b, o + 3, none⟩) hlt).trans h.c3, (hb.cell (p := ⟨b, o + 4, none⟩) hlt).trans h.c4, (hb.cell (p := ⟨b, o + 5, none⟩) hlt).trans h.c5, (hb.cell (p := ⟨b, o + 6, none⟩) hlt).trans h.c6⟩

/-- The slice reads as the cells l. -/
def Cls (w : World) (ao : Option Addr) (cap : Nat) (l : List Cl) : Prop :=
  l.length ≤ cap ∧ cap ≤ maxLen ∧ (l = [] ∨ ∃ b o, ao = some ⟨b, o, none⟩ ∧ b < w.heap.size ∧ ∀ i, i < l.length → ClAt w b (o + i * 7) (l.getD i cl0))
theorem Cls.below {w w' : World} {ao : Option Addr} {cap : Nat} {l : List Cl} (h : Cls w ao cap l) (hb : Below w.heap.size w w') : Cls w' ao cap l := by
  obtain ⟨h1, h2, h3⟩ := h
  refine ⟨h1, h2, ?_⟩
  rcases h3 with h3 | ⟨b, o, e, hlt, hc⟩
  · exact .inl h3
  · exact .inr ⟨b, o, e, Nat.lt_of_lt_of_le hlt hb.size, fun i hi => (hc i hi).below hb hlt⟩
theorem Cls.at_ {w : World} {ao : Option Addr} {cap : Nat} {l : List Cl} (h : Cls w ao cap l) {i : Nat} (hi : i < l.length) : ∃ b o, ao = some ⟨b, o, none⟩ ∧ b < w.heap.size ∧ ∀ i, i < l.length → ClAt w b (o + i * 7) (l.getD i cl0) := by
  rcases h.2.2 with h | h
  · subst h; simp at hi
  · exact h
end Go.Proofs.YtdcfjopmddaemaaDoor

namespace Go.Proofs.YtdcfjopmddaemaaDoor
open Go.RowKit

def hopC (x : Cl) : Int := if x.kind = 1 then 1 else if x.kind = 2 then 2 else if x.kind = 3 then x.op else if x.kind = 4 then x.op else if x.kind = 5 then 17 else 0
def hkidsC (x : Cl) : List Int := if x.kind = 1 then [] else if x.kind = 2 then [] else if x.kind = 3 then [x.a] else if x.kind = 4 then [x.a, x.b] else if x.kind = 5 then [x.c, x.a, x.b] else []

theorem mkT_op (x : Cl) (ts : List Tm) (p : Addr) : opT (mkT x ts p) = hopC x := by
  unfold mkT hopC
  repeat' split
  all_goals first | rfl | omega
theorem mkT_parts (x : Cl) (ts : List Tm) (p : Addr) : partsT (mkT x ts p) = (hkidsC x).map (getT ts) := by
  unfold mkT hkidsC
  repeat' split
  all_goals first | rfl | omega
theorem mkT_lit (x : Cl) (ts : List Tm) (p : Addr) : isLit (mkT x ts p) = decide (x.kind = 1) ∧ (nT (mkT x ts p) = if x.kind = 1 then x.n else 0) := by
  unfold mkT
  repeat' split
  all_goals (constructor <;> simp [isLit, nT, *])

/-- What head hands back: the numbers in a list of its own. -/
def HeadPost (w : World) (x : Cl) (e : Ending) (w' : World) : Prop :=
  ∃ ao n c, e = .returned (.tuple #[.int .i64 (hopC x), .slice ao n c]) ∧ n = (hkidsC x).length ∧ n ≤ 3 ∧ n ≤ c ∧ c ≤ 3 ∧ (n = 0 ∨ ∃ g, ao = some ⟨g, 0, none⟩ ∧ ∀ j, j < n → w'.cell? ⟨g, j, none⟩ = some (.int .i64 ((hkidsC x).getD j 0))) ∧ Below w.heap.size w w'

set_option maxRecDepth 20000 in
set_option maxHeartbeats 1000000 in
theorem head_any (x : Cl) (w : World) : Calls Tryd.prog 49 #[.agg #[.int .i64 x.kind, .int .i64 x.op, .int .i64 x.n, .string x.name, .int .i64 x.a, .int .i64 x.b, .int .i64 x.c]] w fun e w' => HeadPost w x e w' := by
  obtain ⟨kd, op, n, nm, a, b, c⟩ := x
  simp only
  by_cases h1 : kd = 1
  · subst h1
    go_enter Tryd.func49, Tryd.ntmps49
    go_wp2
    go_ret2
    refine ⟨_, _, _, rfl, rfl, by omega, by omega, by omega, .inl rfl, ?_⟩
    repeat (first | exact Below.refl _ _ | refine Below.alloc ?_ (by simp <;> omega) _ | refine Below.drew ?_)
  by_cases h2 : kd = 2
  · subst h2
    go_enter Tryd.func49, Tryd.ntmps49
    go_wp2
    go_ret2
    refine ⟨_, _, _, rfl, rfl, by omega, by omega, by omega, .inl rfl, ?_⟩
    repeat (first | exact Below.refl _ _ | refine Below.alloc ?_ (by simp <;> omega) _ | refine Below.drew ?_)
  by_cases h3 : kd = 3
  · subst h3
    go_enter Tryd.func49, Tryd.ntmps49
    go_wp2
    go_region
    all_goals go_wp2
    all_goals
      go_ret2
      refine ⟨_, _, _, rfl, rfl, by omega, by omega, by omega, .inr ⟨w.heap.size + 1, rfl, fun j hj => ?_⟩, ?_⟩
      · rcases (show j = 0 by omega) with rfl <;> simp [hkidsC]
      · repeat (first | exact Below.refl _ _ | refine Below.alloc ?_ (by simp <;> omega) _ | refine Below.drew ?_)
  by_cases h4 : kd = 4
  · subst h4
    go_enter Tryd.func49, Tryd.ntmps49
    go_wp2
    go_region
    all_goals go_wp2
    all_goals
      go_ret2
      refine ⟨_, _, _, rfl, rfl, by omega, by omega, by omega, .inr ⟨w.heap.size + 1, rfl, fun j hj => ?_⟩, ?_⟩
      · rcases (show j = 0 ∨ j = 1 by omega) with rfl | rfl <;> simp [hkidsC]
      · repeat (first | exact Below.refl _ _ | refine Below.alloc ?_ (by simp <;> omega) _ | refine Below.drew ?_)
  by_cases h5 : kd = 5
  · subst h5
    go_enter Tryd.func49, Tryd.ntmps49
    go_wp2
    go_region
    all_goals go_wp2
    all_goals
      go_ret2
      refine ⟨_, _, _, rfl, rfl, by omega, by omega, by omega, .inr ⟨w.heap.size + 1, rfl, fun j hj => ?_⟩, ?_⟩
      · rcases (show j = 0 ∨ j = 1 ∨ j = 2 by omega) with rfl | rfl | rfl <;> simp [hkidsC]
      · repeat (first | exact Below.refl _ _ | refine Below.alloc ?_ (by simp <;> omega) _ | refine Below.drew ?_)
  have HKD : Hid (¬ kd = 1 ∧ ¬ kd = 2 ∧ ¬ kd = 3 ∧ ¬ kd = 4 ∧ ¬ kd = 5) := ⟨h1, h2, h3, h4, h5⟩
  have n1 : (kd == 1) = false := by simpa using h1
  have n2 : (kd == 2) = false := by simpa using h2
  have n3 : (kd == 3) = false := by simpa using h3
  have n4 : (kd == 4) = false := by simpa using h4
  have n5 : (kd == 5) = false := by simpa using h5
  go_enter Tryd.func49, Tryd.ntmps49
  go_wp2
  go_ret2
  obtain ⟨k1, k2, k3, k4, k5⟩ := HKD.out
  refine ⟨none, 0, 0, ?_, ?_, by omega, by omega, by omega, .inl rfl, (Below.refl _ _).alloc (Nat.le_refl _) _⟩
  · unfold hopC; simp only [if_neg k1, if_neg k2, if_neg k3, if_neg k4, if_neg k5]; rfl
  · unfold hkidsC; simp only [if_neg k1, if_neg k2, if_neg k3, if_neg k4, if_neg k5]; rfl

end Go.Proofs.YtdcfjopmddaemaaDoor
