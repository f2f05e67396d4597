/-
  The parser, plainly: tokens, the grammar's rules, what is read.
-/
import Derived.Test.YtpdohdmpjaklgaaDoorMExPure
import Derived.Test.YtpdohdmpjaklgaaDoorMDecPure
import Derived.Lib.Small
import Derived.Lib.Strings
set_option linter.unusedSimpArgs false
set_option linter.unusedVariables false
namespace Go.Proofs.YtpdohdmpjaklgaaDoor
open Go.Lib

/-! ### what may come out -/
/-- An answer; a fault at a place; or the fuel was too small. -/
inductive Pr (α : Type) where
  | ok (a : α)
  | bad (at_ : Nat) (err : Int)
  | out
def Pr.bind {α β : Type} : Pr α → (α → Pr β) → Pr β
  | .ok a, f => f a
  | .bad p e, _ => .bad p e
  | .out, _ => .out
theorem Pr.bind_ok {α β : Type} {x : Pr α} {f : α → Pr β} {b : β} (h : x.bind f = .ok b) : ∃ a, x = .ok a ∧ f a = .ok b := by
  cases x with
  | ok a => exact ⟨a, rfl, h⟩
  | bad p e => cases h
  | out => cases h
theorem Pr.bind_assoc {α β γ : Type} (x : Pr α) (f : α → Pr β) (g : β → Pr γ) : (x.bind f).bind g = x.bind fun a => (f a).bind g := by
  cases x <;> rfl

/-! ### tokens -/
structure Tk where
  what : Int
  from_ : Nat
  to : Nat
  n : Nat
  err : Int

def psPlain (r : Int) : Int :=
  if r = 8722 then 45 else if r = 215 ∨ r = 183 then 42 else if r = 247 then 47 else if r = 172 then 126 else if r = 8743 then 38 else if r = 8744 then 124 else if r = 8853 then 94 else r
/-- Two bytes c stand there. -/
def psTwo (s : ByteArray) (p : Nat) (c : UInt8) : Bool := hasPrefix (s.extract p s.size).data.toList [c, c]
def psSign (s : ByteArray) (pat : Bool) (p : Nat) (r : Int) : Int × Int :=
  if psTwo s p 61 then (8801, 2) else if psTwo s p 60 then (8810, 2) else if psTwo s p 62 then (8811, 2)
  else if r = 61 ∨ r = 62 ∨ r = 59 ∨ r = 44 then (0, 0) else if r = 64 ∧ pat = false then (0, 0) else (psPlain r, runeLen r)
def psAt (s : ByteArray) (pat : Bool) (most p : Nat) (r : Int) : Pr Tk :=
  if kd r = 1 then .ok ⟨97, p, (spanI s p).1.toNat, 0, if nameB (s.extract p (spanI s p).1.toNat) then 0 else 7⟩
  else if kd r = 2 then .ok ⟨48, p, (numI s p).2.1, (numI s p).1, if most < (numI s p).1 then 10 else (numI s p).2.2⟩
  else if kd r = 4 ∧ 0 < (psSign s pat p r).2 then .ok ⟨(psSign s pat p r).1, p, p + (psSign s pat p r).2.toNat, 0, 0⟩
  else .bad p 5
/-- The first place from p on at which no blank stands. -/
def psSkip (s : ByteArray) : Nat → Nat → Nat
  | 0, p => p
  | f + 1, p => if p < s.size then (if kd (Utf8.decode s p).1 = 3 then psSkip s f (p + (Utf8.decode s p).2) else p) else p
def psEnd (s : ByteArray) : Tk := ⟨0, s.size, s.size, 0, 0⟩
def psFrom (s : ByteArray) (pat : Bool) (most p : Nat) : Pr Tk := if p < s.size then psAt s pat most p (Utf8.decode s p).1 else .ok (psEnd s)
/-- The token behind a place. -/
def psNext (s : ByteArray) (pat : Bool) (most p : Nat) : Pr Tk := psFrom s pat most (psSkip s s.size p)

/-! ### the grammar -/
structure Ps where
  now : Tk
  nodes : List Nd
  brk : Nat

def mx63 : Nat := 9223372036854775807
def psNx (s : ByteArray) (pat : Bool) (most : Nat) (st : Ps) : Pr Ps := (psNext s pat most st.now.to).bind fun t => .ok { st with now := t }
def psEx (s : ByteArray) (pat : Bool) (what : Int) (st : Ps) : Pr Ps :=
  if st.now.what = what then (if st.now.err = 0 then psNx s pat mx63 st else .bad st.now.from_ st.now.err) else .bad st.now.from_ 6
def psAdd (x : Nd) (st : Ps) : Nat × Ps := (st.nodes.length, { st with nodes := st.nodes ++ [x] })
def psJoin (op : Int) (ks : List Nat) (st : Ps) : Nat × Ps := psAdd ⟨op, 0, ⟨#[]⟩, ks.map Int.ofNat⟩ st
def psLit (s : ByteArray) (pat : Bool) (v : Int) (st : Ps) : Pr (Nat × Ps) := (psEx s pat 48 st).bind fun st1 => .ok (psAdd ⟨1, v, ⟨#[]⟩, []⟩ st1)
def psNamed (s : ByteArray) (pat : Bool) (op : Int) (st : Ps) : Pr (Nat × Ps) := (psEx s pat 97 st).bind fun st1 => .ok (psAdd ⟨op, 0, s.extract st.now.from_ st.now.to, []⟩ st1)
/-- What a sign stands for between two parts, and its level. -/
def psOp (c : Int) : Int × Nat :=
  if c = 124 then (11, 1) else if c = 94 then (12, 2) else if c = 38 then (10, 3) else if c = 8801 then (15, 4) else if c = 60 then (16, 5) else if c = 8810 then (13, 6) else if c = 8811 then (14, 6)
  else if c = 43 then (5, 7) else if c = 45 then (6, 7) else if c = 42 then (7, 8) else if c = 47 then (8, 8) else if c = 37 then (9, 8) else (0, 0)

inductive Rl where
  | cond
  | pair (lv : Nat)
  | loop (lv a : Nat)
  | un
  | atom

def psRun (s : ByteArray) (pat : Bool) : Nat → Rl → Ps → Pr (Nat × Ps)
  | 0, _, _ => .out
  | f + 1, .cond, st => (psRun s pat f (.pair 1) st).bind fun c =>
      if c.2.now.what = 63 then
        (psNx s pat mx63 c.2).bind fun st2 => (psRun s pat f .cond st2).bind fun a => (psEx s pat 58 a.2).bind fun st4 => (psRun s pat f .cond st4).bind fun b => .ok (psJoin 17 [c.1, a.1, b.1] b.2)
      else .ok c
  | f + 1, .pair lv, st => if 8 < lv then psRun s pat f .un st else (psRun s pat f (.pair (lv + 1)) st).bind fun a => psRun s pat f (.loop lv a.1) a.2
  | f + 1, .loop lv a, st =>
      if (psOp st.now.what).2 = lv then
        (psNx s pat mx63 st).bind fun st1 => (psRun s pat f (.pair (lv + 1)) st1).bind fun b =>
          if (psOp st.now.what).1 = 15 ∨ (psOp st.now.what).1 = 16 then .ok (psJoin (psOp st.now.what).1 [a, b.1] b.2)
          else psRun s pat f (.loop lv (psJoin (psOp st.now.what).1 [a, b.1] b.2).1) (psJoin (psOp st.now.what).1 [a, b.1] b.2).2
      else .ok (a, st)
  | f + 1, .un, st =>
      if st.now.what = 45 then
        (if (numI s st.now.to).2.2 = 11 then (psNx s pat mx63 st).bind fun st1 => (psRun s pat f .un st1).bind fun x => .ok (psJoin 3 [x.1] x.2)
         else (psNx s pat (mx63 + 1) st).bind fun st1 => psLit s pat (-(st1.now.n : Int)) st1)
      else if st.now.what = 126 then (psNx s pat mx63 st).bind fun st1 => (psRun s pat f .un st1).bind fun x => .ok (psJoin 4 [x.1] x.2)
      else psRun s pat f .atom st
  | f + 1, .atom, st =>
      if st.now.what = 48 then psLit s pat st.now.n st
      else if st.now.what = 97 then psNamed s pat 2 st
      else if st.now.what = 64 then (psNx s pat mx63 st).bind fun st1 => psNamed s pat 18 st1
      else if st.now.what = 40 then
        (if st.brk = 100 then .bad st.now.from_ 10
         else (psNx s pat mx63 { st with brk := st.brk + 1 }).bind fun st1 => (psRun s pat f .cond st1).bind fun e => (psEx s pat 41 e.2).bind fun st3 => .ok (e.1, { st3 with brk := st3.brk - 1 }))
      else .bad st.now.from_ 6

/-! ### where tokens lie -/
/-- A token within the text. -/
structure TkOk (s : ByteArray) (p : Nat) (t : Tk) : Prop where
  low : p ≤ t.from_
  in_ : t.from_ ≤ t.to ∧ t.to ≤ s.size
  pos : t.what ≠ 0 → t.from_ < t.to
end Go.Proofs.YtpdohdmpjaklgaaDoor
