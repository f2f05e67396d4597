/-
  PoB, PsPure, PsTok, PsGrow.
-/
import Derived.Shelf.Unicode.DecodeSlow
import Derived.Laws.RangeAny
import Derived.Shelf.Strings.Builder1
import Derived.Shelf.Small.Utf8
import Derived.Shelf.Small.Bits
import Derived.Shelf.Strings.BuilderF
import Derived.Shelf.Strings.BuilderK
import Derived.Shelf.Strings.BuilderRune
import Derived.Shelf.Utf8.AppendRune
import Derived.Shelf.Strconv.Itoa0
import Derived.Shelf.Strconv.Itoa1
import Derived.Shelf.LaysM
import Derived.Shelf.Strconv.Itoa2
import Derived.Shelf.Strconv.Itoa3
import Derived.Shelf.Strconv.Itoa4
import Derived.Shelf.Strings.Prefix
import Derived.Shelf.Unicode.DecodeAny
import Derived.Test.YtjmccobblpcbhaaDoorProg
import Derived.WalkKit
import Derived.Deep.DeepFit
import Derived.Lib.OthersKept
import Derived.Lib.RuneCountTail
import Derived.Deep.AppendLies
import Derived.Deep.OwnRows
import Derived.Laws.AppendOwnNone
import Derived.Below
import Derived.Lib.Small
import Derived.Lib.Strings
import Derived.Lib.MapLaws
import Derived.Test.YtjmccobblpcbhaaDoorM01
import Derived.Test.YtjmccobblpcbhaaDoorM02
import Derived.Test.YtjmccobblpcbhaaDoorM03
import Derived.Test.YtjmccobblpcbhaaDoorM04
import Derived.Test.YtjmccobblpcbhaaDoorM05
import Derived.Test.YtjmccobblpcbhaaDoorM06
import Derived.Test.YtjmccobblpcbhaaDoorM07
import Derived.Test.YtjmccobblpcbhaaDoorM15
set_option linter.unusedSimpArgs false
set_option linter.unusedVariables false
namespace Go.Proofs.YtjmccobblpcbhaaDoor
open Go.RowKit Go.Lib

/-- Kids lead to earlier places. -/
def KidsLo (e : List Nd) : Prop := ∀ j, j < e.length → ∀ k ∈ (e.getD j nd0).kids, 0 ≤ k ∧ k < (j : Int)
/-- No two rows of kids are one. -/
def KdAp (q : List (Nd × Value)) : Prop := q.Pairwise fun a b => ∀ g, a.2.ownBlock = some g → b.2.ownBlock ≠ some g
/-- An expression that is answered: all of its memory is young, no two rows of kids are one. -/
structure ExO (w : World) (v : Value) (l : List Nd) (w' : World) : Prop where
  ex : ∃ q : List (Nd × Value), q.map (·.1) = l ∧ OwnP w' w.heap.size v q ∧ KdAp q
  below : Below w.heap.size w w'
theorem ExO.own {w w' : World} {v : Value} {l : List Nd} (h : ExO w v l w') : OwnN w' w.heap.size v l := let ⟨q, h1, h2, _⟩ := h.ex; ⟨q, h1, h2⟩
end Go.Proofs.YtjmccobblpcbhaaDoor

set_option linter.unusedSimpArgs false
set_option linter.unusedVariables false
namespace Go.Proofs.YtjmccobblpcbhaaDoor
open Go.Lib

/-! ### what may come out -/
/-- An answer; a fault at a place; or the fuel was too small. -/
inductive Pr (α : Type) where
  | ok (a : α)
  | bad (at_ : Nat) (err : Int)
  | out
def Pr.bind {α β : Type} : Pr α → (α → Pr β) → Pr β
  | .ok a, f => f a
  | .bad p e, _ => .bad p e
  | .out, _ => .out
theorem Pr.bind_ok {α β : Type} {x : Pr α} {f : α → Pr β} {b : β} (h : x.bind f = .ok b) : ∃ a, x = .ok a ∧ f a = .ok b := by
  cases x with
  | ok a => exact ⟨a, rfl, h⟩
  | bad p e => cases h
  | out => cases h
theorem Pr.bind_assoc {α β γ : Type} (x : Pr α) (f : α → Pr β) (g : β → Pr γ) : (x.bind f).bind g = x.bind fun a => (f a).bind g := by
  cases x <;> rfl

/-! ### tokens -/
structure Tk where
  what : Int
  from_ : Nat
  to : Nat
  n : Nat
  err : Int

def psPlain (r : Int) : Int :=
  if r = 8722 then 45 else if r = 215 ∨ r = 183 then 42 else if r = 247 then 47 else if r = 172 then 126 else if r = 8743 then 38 else if r = 8744 then 124 else if r = 8853 then 94 else r
/-- Two bytes c stand there. -/
def psTwo (s : ByteArray) (p : Nat) (c : UInt8) : Bool := hasPrefix (s.extract p s.size).data.toList [c, c]
def psSign (s : ByteArray) (pat : Bool) (p : Nat) (r : Int) : Int × Int :=
  if psTwo s p 61 then (8801, 2) else if psTwo s p 60 then (8810, 2) else if psTwo s p 62 then (8811, 2)
  else if r = 61 ∨ r = 62 ∨ r = 59 ∨ r = 44 then (0, 0) else if r = 64 ∧ pat = false then (0, 0) else (psPlain r, runeLen r)
def psAt (s : ByteArray) (pat : Bool) (most p : Nat) (r : Int) : Pr Tk :=
  if kd r = 1 then .ok ⟨97, p, (spanI s p).1.toNat, 0, if nameB (s.extract p (spanI s p).1.toNat) then 0 else 7⟩
  else if kd r = 2 then .ok ⟨48, p, (numI s p).2.1, (numI s p).1, if most < (numI s p).1 then 10 else (numI s p).2.2⟩
  else if kd r = 4 ∧ 0 < (psSign s pat p r).2 then .ok ⟨(psSign s pat p r).1, p, p + (psSign s pat p r).2.toNat, 0, 0⟩
  else .bad p 5
/-- The first place from p on at which no blank stands. -/
def psSkip (s : ByteArray) : Nat → Nat → Nat
  | 0, p => p
  | f + 1, p => if p < s.size then (if kd (Utf8.decode s p).1 = 3 then psSkip s f (p + (Utf8.decode s p).2) else p) else p
def psEnd (s : ByteArray) : Tk := ⟨0, s.size, s.size, 0, 0⟩
def psFrom (s : ByteArray) (pat : Bool) (most p : Nat) : Pr Tk := if p < s.size then psAt s pat most p (Utf8.decode s p).1 else .ok (psEnd s)
/-- The token behind a place. -/
def psNext (s : ByteArray) (pat : Bool) (most p : Nat) : Pr Tk := psFrom s pat most (psSkip s s.size p)

/-! ### the grammar -/
structure Ps where
  now : Tk
  nodes : List Nd
  brk : Nat

def mx63 : Nat := 9223372036854775807
def psNx (s : ByteArray) (pat : Bool) (most : Nat) (st : Ps) : Pr Ps := (psNext s pat most st.now.to).bind fun t => .ok { st with now := t }
def psEx (s : ByteArray) (pat : Bool) (what : Int) (st : Ps) : Pr Ps :=
  if st.now.what = what then (if st.now.err = 0 then psNx s pat mx63 st else .bad st.now.from_ st.now.err) else .bad st.now.from_ 6
def psAdd (x : Nd) (st : Ps) : Nat × Ps := (st.nodes.length, { st with nodes := st.nodes ++ [x] })
def psJoin (op : Int) (ks : List Nat) (st : Ps) : Nat × Ps := psAdd ⟨op, 0, ⟨#[]⟩, ks.map Int.ofNat⟩ st
def psLit (s : ByteArray) (pat : Bool) (v : Int) (st : Ps) : Pr (Nat × Ps) := (psEx s pat 48 st).bind fun st1 => .ok (psAdd ⟨1, v, ⟨#[]⟩, []⟩ st1)
def psNamed (s : ByteArray) (pat : Bool) (op : Int) (st : Ps) : Pr (Nat × Ps) := (psEx s pat 97 st).bind fun st1 => .ok (psAdd ⟨op, 0, s.extract st.now.from_ st.now.to, []⟩ st1)
/-- What a sign stands for between two parts, and its level. -/
def psOp (c : Int) : Int × Nat :=
  if c = 124 then (11, 1) else if c = 94 then (12, 2) else if c = 38 then (10, 3) else if c = 8801 then (15, 4) else if c = 60 then (16, 5) else if c = 8810 then (13, 6) else if c = 8811 then (14, 6)
  else if c = 43 then (5, 7) else if c = 45 then (6, 7) else if c = 42 then (7, 8) else if c = 47 then (8, 8) else if c = 37 then (9, 8) else (0, 0)

inductive Rl where
  | cond
  | pair (lv : Nat)
  | loop (lv a : Nat)
  | un
  | atom

def psRun (s : ByteArray) (pat : Bool) : Nat → Rl → Ps → Pr (Nat × Ps)
  | 0, _, _ => .out
  | f + 1, .cond, st => (psRun s pat f (.pair 1) st).bind fun c =>
      if c.2.now.what = 63 then
        (psNx s pat mx63 c.2).bind fun st2 => (psRun s pat f .cond st2).bind fun a => (psEx s pat 58 a.2).bind fun st4 => (psRun s pat f .cond st4).bind fun b => .ok (psJoin 17 [c.1, a.1, b.1] b.2)
      else .ok c
  | f + 1, .pair lv, st => if 8 < lv then psRun s pat f .un st else (psRun s pat f (.pair (lv + 1)) st).bind fun a => psRun s pat f (.loop lv a.1) a.2
  | f + 1, .loop lv a, st =>
      if (psOp st.now.what).2 = lv then
        (psNx s pat mx63 st).bind fun st1 => (psRun s pat f (.pair (lv + 1)) st1).bind fun b =>
          if (psOp st.now.what).1 = 15 ∨ (psOp st.now.what).1 = 16 then .ok (psJoin (psOp st.now.what).1 [a, b.1] b.2)
          else psRun s pat f (.loop lv (psJoin (psOp st.now.what).1 [a, b.1] b.2).1) (psJoin (psOp st.now.what).1 [a, b.1] b.2).2
      else .ok (a, st)
  | f + 1, .un, st =>
      if st.now.what = 45 then
        (if (numI s st.now.to).2.2 = 11 then (psNx s pat mx63 st).bind fun st1 => (psRun s pat f .un st1).bind fun x => .ok (psJoin 3 [x.1] x.2)
         else (psNx s pat (mx63 + 1) st).bind fun st1 => psLit s pat (-(st1.now.n : Int)) st1)
      else if st.now.what = 126 then (psNx s pat mx63 st).bind fun st1 => (psRun s pat f .un st1).bind fun x => .ok (psJoin 4 [x.1] x.2)
      else psRun s pat f .atom st
  | f + 1, .atom, st =>
      if st.now.what = 48 then psLit s pat st.now.n st
      else if st.now.what = 97 then psNamed s pat 2 st
      else if st.now.what = 64 then (psNx s pat mx63 st).bind fun st1 => psNamed s pat 18 st1
      else if st.now.what = 40 then
        (if st.brk = 100 then .bad st.now.from_ 10
         else (psNx s pat mx63 { st with brk := st.brk + 1 }).bind fun st1 => (psRun s pat f .cond st1).bind fun e => (psEx s pat 41 e.2).bind fun st3 => .ok (e.1, { st3 with brk := st3.brk - 1 }))
      else .bad st.now.from_ 6

/-! ### where tokens lie -/
end Go.Proofs.YtjmccobblpcbhaaDoor

set_option linter.unusedSimpArgs false
set_option linter.unusedVariables false
namespace Go.Proofs.YtjmccobblpcbhaaDoor
open Go.Lib

theorem psSkip_le (s : ByteArray) : ∀ (f p : Nat), p ≤ s.size → p ≤ psSkip s f p ∧ psSkip s f p ≤ s.size
  | 0, p, h => ⟨Nat.le_refl _, h⟩
  | f + 1, p, h => by
    unfold psSkip
    split
    · rename_i hp
      split
      · have hw := width_pos s p hp
        have hl := dec_le s p hp
        have := psSkip_le s f (p + (Utf8.decode s p).2) (by omega)
        omega
      · omega
    · omega
theorem nuF_le (s : ByteArray) (z : Int) : ∀ (f p n : Nat), p ≤ s.size → (nuF s z f p n).2.2 = 0 → p ≤ (nuF s z f p n).2.1 ∧ (nuF s z f p n).2.1 ≤ s.size
  | 0, p, n, h, _ => ⟨Nat.le_refl _, h⟩
  | f + 1, p, n, h, h0 => by
    unfold nuF at h0 ⊢
    split
    · rename_i hp
      rw [if_pos hp] at h0
      split
      · rename_i hz
        rw [if_pos hz] at h0
        split
        · rename_i hl
          rw [if_pos hl] at h0; simp at h0
        · rename_i hl
          rw [if_neg hl] at h0
          have hw := width_pos s p hp
          have hle := dec_le s p hp
          have := nuF_le s z f _ _ (by omega) h0
          omega
      · exact ⟨Nat.le_refl _, h⟩
    · exact ⟨Nat.le_refl _, h⟩
theorem num_in (s : ByteArray) (p : Nat) (hp : p < s.size) (hk : kd (Utf8.decode s p).1 = 2) (h0 : (numI s p).2.2 = 0) : p < (numI s p).2.1 ∧ (numI s p).2.1 ≤ s.size := by
  have hz := (kd_two _).1 hk
  unfold numI at h0 ⊢
  rw [if_neg (by omega), Int.toNat_natCast] at h0 ⊢
  unfold numP at h0 ⊢
  rw [digZ_rn s p hp, if_neg hz] at h0 ⊢
  obtain ⟨f, hf⟩ : ∃ f, s.size = f + 1 := ⟨s.size - 1, by omega⟩
  rw [hf] at h0 ⊢
  have hw := width_pos s p hp
  have hle := dec_le s p hp
  unfold nuF at h0 ⊢
  rw [if_pos hp, if_pos rfl] at h0 ⊢
  split
  · rename_i hl; rw [if_pos hl] at h0; simp at h0
  · rename_i hl
    rw [if_neg hl] at h0
    have := nuF_le s _ f _ _ (by omega) h0
    omega
theorem span_in' (s : ByteArray) (p : Nat) (hp : p < s.size) (hk : kd (Utf8.decode s p).1 = 1) : spanI s p = (((spF s s.size p : Nat) : Int), 0) ∧ p < spF s s.size p ∧ spF s s.size p ≤ s.size := by
  refine ⟨?_, ?_, (spF_le s _ p (by omega)).2⟩
  · unfold spanI spanP
    rw [if_neg (by omega), Int.toNat_natCast, kd_rn s p hp, if_pos hk]
  · obtain ⟨f, hf⟩ : ∃ f, s.size = f + 1 := ⟨s.size - 1, by omega⟩
    have hw := width_pos s p hp
    have hle := dec_le s p hp
    rw [hf, spF_on s f p hp (on_of_letter _ hk)]
    have := (spF_le s f (p + (Utf8.decode s p).2) (by omega)).1
    omega

theorem two_in (s : ByteArray) (p : Nat) (c : UInt8) (hp : p < s.size) (h : psTwo s p c = true) : p + 2 ≤ s.size := by
  unfold psTwo hasPrefix at h
  have hl := (List.isPrefixOf_iff_prefix.1 h).length_le
  have e : (s.extract p s.size).data.toList.length = s.size - p := by
    rw [Array.length_toList]; exact tail_size s p
  rw [e] at hl
  simp at hl
  omega
set_option maxRecDepth 100000 in
theorem kd_bad : kd 65533 ≠ 4 := by decide +kernel
theorem len_dec (s : ByteArray) (p : Nat) (hp : p < s.size) (h : kd (Utf8.decode s p).1 = 4) : runeLen (Utf8.decode s p).1 = (Utf8.decode s p).2 := by
  rw [decode_at] at h ⊢
  rcases decodeN_shape (s.size - p) (s.get! p).toNat (s.get! (p + 1)).toNat (s.get! (p + 2)).toNat (s.get! (p + 3)).toNat with ⟨c, e⟩ | ⟨k1, k2, k3, cv, e⟩ | ⟨k1, k2, k3, k4, cv, cs, e⟩ | ⟨k1, k2, k3, k4, k5, cv, cw, e⟩ | e
  all_goals rw [e] at h ⊢
  · unfold runeLen; simp only; rw [if_neg (by omega), if_pos (by omega)]; rfl
  · unfold runeLen; simp only; rw [if_neg (by omega), if_neg (by omega), if_pos (by omega)]; rfl
  · unfold runeLen; simp only; rw [if_neg (by omega), if_neg (by omega), if_neg (by omega), if_neg (by omega), if_pos (by omega)]; rfl
  · unfold runeLen; simp only; rw [if_neg (by omega), if_neg (by omega), if_neg (by omega), if_neg (by omega), if_neg (by omega), if_pos (by omega)]; rfl
  · exact absurd h kd_bad
theorem sign_in (s : ByteArray) (pat : Bool) (p : Nat) (hp : p < s.size) (h : kd (Utf8.decode s p).1 = 4) : (psSign s pat p (Utf8.decode s p).1).2 ≤ (s.size : Int) - p := by
  have hle := dec_le s p hp
  unfold psSign
  split
  · rename_i h2; have := two_in s p _ hp h2; simp only; omega
  · split
    · rename_i h2; have := two_in s p _ hp h2; simp only; omega
    · split
      · rename_i h2; have := two_in s p _ hp h2; simp only; omega
      · split
        · simp only; omega
        · split
          · simp only; omega
          · simp only; rw [len_dec s p hp h]; omega

/-- A token behind the place p. -/
structure TkAt (s : ByteArray) (p : Nat) (t : Tk) : Prop where
  low : p ≤ t.from_
  in_ : t.from_ ≤ s.size
  good : t.err = 0 → t.from_ ≤ t.to ∧ t.to ≤ s.size ∧ (t.what ≠ 0 → t.from_ < t.to)
  sign : t.what ≠ 48 → t.what ≠ 97 → t.err = 0
  name : t.what = 97 → t.from_ < t.to ∧ t.to ≤ s.size

theorem psNext_at {s : ByteArray} {pat : Bool} {most p : Nat} {t : Tk} (hp : p ≤ s.size) (h : psNext s pat most p = .ok t) : TkAt s p t := by
  have hk := psSkip_le s s.size p hp
  unfold psNext psFrom at h
  generalize psSkip s s.size p = q at *
  split at h
  · rename_i hq
    unfold psAt at h
    split at h
    · rename_i k1
      obtain ⟨e1, e2, e3⟩ := span_in' s q hq k1
      rw [e1] at h
      simp only [Int.toNat_natCast] at h
      cases h
      exact ⟨hk.1, by simp only; omega, fun _ => ⟨by simp only; omega, e3, fun _ => e2⟩, fun _ h => absurd rfl h, fun _ => ⟨e2, e3⟩⟩
    · split at h
      · rename_i k2
        cases h
        refine ⟨hk.1, by simp only; omega, fun h0 => ?_, fun h => absurd rfl h, fun h => by cases h⟩
        simp only at h0 ⊢
        split at h0
        · cases h0
        · have := num_in s q hq k2 h0
          omega
      · split at h
        · rename_i k4
          have := sign_in s pat q hq k4.1
          have k5 := k4.2
          cases h
          refine ⟨hk.1, by simp only; omega, fun _ => ⟨by simp only; omega, by simp only; omega, fun _ => by simp only; omega⟩, fun _ _ => rfl, fun _ => ⟨by simp only; omega, by simp only; omega⟩⟩
        · cases h
  · cases h
    exact ⟨by unfold psEnd; simp only; omega, Nat.le_refl _, fun _ => ⟨Nat.le_refl _, Nat.le_refl _, fun h => absurd rfl h⟩, fun _ _ => rfl, fun h => by cases h⟩
end Go.Proofs.YtjmccobblpcbhaaDoor

set_option linter.unusedSimpArgs false
set_option linter.unusedVariables false
namespace Go.Proofs.YtjmccobblpcbhaaDoor
open Go.Lib

structure StOk (s : ByteArray) (st : Ps) : Prop where
  tk : TkAt s 0 st.now
  few : st.nodes.length ≤ st.now.from_

/-- From st on to st'. -/
structure Gr (st st' : Ps) : Prop where
  le : st.now.from_ ≤ st'.now.from_
  grow : st'.nodes.length + st.now.from_ ≤ st.nodes.length + st'.now.from_
  pre : ∃ t, st'.nodes = st.nodes ++ t
  brk : st'.brk = st.brk

theorem Gr.len {st st' : Ps} (h : Gr st st') : st.nodes.length ≤ st'.nodes.length := by
  obtain ⟨t, e⟩ := h.pre; rw [e]; simp
theorem Gr.trans {a b c : Ps} (h : Gr a b) (k : Gr b c) : Gr a c := by
  obtain ⟨t, e⟩ := h.pre
  obtain ⟨u, e'⟩ := k.pre
  have := h.le
  have := k.le
  have := h.grow
  have := k.grow
  exact ⟨by omega, by omega, ⟨t ++ u, by rw [e', e, List.append_assoc]⟩, k.brk.trans h.brk⟩
theorem Gr.refl (a : Ps) : Gr a a := ⟨Nat.le_refl _, Nat.le_refl _, ⟨[], by simp⟩, rfl⟩

/-- One token further. -/
structure Stp (st st' : Ps) : Prop where
  nodes : st'.nodes = st.nodes
  brk : st'.brk = st.brk
  lt : st.now.from_ < st'.now.from_

theorem psNx_ok {s : ByteArray} {pat : Bool} {most : Nat} {st st' : Ps} (h : StOk s st) (he : st.now.err = 0) (hw : st.now.what ≠ 0) (hn : psNx s pat most st = .ok st') : StOk s st' ∧ Stp st st' := by
  obtain ⟨t, h1, h2⟩ := Pr.bind_ok hn
  cases h2
  have hg := h.tk.good he
  have ht := psNext_at hg.2.1 h1
  have hlt := hg.2.2 hw
  have := ht.low
  have := h.few
  exact ⟨⟨⟨Nat.zero_le _, ht.in_, ht.good, ht.sign, ht.name⟩, by show st.nodes.length ≤ t.from_; omega⟩, ⟨rfl, rfl, by show st.now.from_ < t.from_; omega⟩⟩
theorem psEx_ok {s : ByteArray} {pat : Bool} {c : Int} {st st' : Ps} (h : StOk s st) (hw : c ≠ 0) (hn : psEx s pat c st = .ok st') : StOk s st' ∧ Stp st st' ∧ st.now.what = c ∧ st.now.err = 0 := by
  unfold psEx at hn
  split at hn
  · rename_i h1
    split at hn
    · rename_i h2
      obtain ⟨k1, k2⟩ := psNx_ok h h2 (by rw [h1]; exact hw) hn
      exact ⟨k1, k2, h1, h2⟩
    · cases hn
  · cases hn
theorem psAdd_ok {s : ByteArray} {st st1 : Ps} (x : Nd) (h : StOk s st1) (hs : Stp st st1) (hf : st.nodes.length ≤ st.now.from_) : StOk s (psAdd x st1).2 ∧ Gr st (psAdd x st1).2 ∧ (psAdd x st1).1 < (psAdd x st1).2.nodes.length := by
  have := hs.lt
  have e : st1.nodes.length = st.nodes.length := by rw [hs.nodes]
  refine ⟨⟨h.tk, ?_⟩, ⟨?_, ?_, ⟨[x], by show st1.nodes ++ [x] = _; rw [hs.nodes]⟩, hs.brk⟩, ?_⟩
  · show (st1.nodes ++ [x]).length ≤ st1.now.from_; simp; omega
  · show st.now.from_ ≤ st1.now.from_; omega
  · show (st1.nodes ++ [x]).length + _ ≤ _ + st1.now.from_; simp; omega
  · show st1.nodes.length < (st1.nodes ++ [x]).length; simp
/-- A node behind what was made since st, of which one token made none. -/
theorem psJoin_ok {s : ByteArray} {st st1 st2 : Ps} (x : Nd) (hs : Stp st st1) (hg : Gr st1 st2) (h : StOk s st2) (hf : st.nodes.length ≤ st.now.from_) : StOk s (psAdd x st2).2 ∧ Gr st (psAdd x st2).2 ∧ (psAdd x st2).1 < (psAdd x st2).2.nodes.length := by
  have := hs.lt
  have e : st1.nodes.length = st.nodes.length := by rw [hs.nodes]
  have := hg.le
  have := hg.grow
  have := h.few
  obtain ⟨t, ht⟩ := hg.pre
  refine ⟨⟨h.tk, ?_⟩, ⟨?_, ?_, ⟨t ++ [x], by show st2.nodes ++ [x] = _; rw [ht, hs.nodes, List.append_assoc]⟩, hg.brk.trans hs.brk⟩, ?_⟩
  · show (st2.nodes ++ [x]).length ≤ st2.now.from_; simp; omega
  · show st.now.from_ ≤ st2.now.from_; omega
  · show (st2.nodes ++ [x]).length + _ ≤ _ + st2.now.from_; simp; omega
  · show st2.nodes.length < (st2.nodes ++ [x]).length; simp

def Rl.ok (st : Ps) : Rl → Prop
  | .loop _ a => a < st.nodes.length
  | _ => True
def Rl.more : Rl → Nat
  | .loop _ _ => 0
  | _ => 1

/-- What a rule leaves. -/
structure RunOk (s : ByteArray) (st : Ps) (m : Nat) (r : Nat × Ps) : Prop where
  ok : StOk s r.2
  gr : Gr st r.2
  lt : r.1 < r.2.nodes.length
  more : st.now.from_ + m ≤ r.2.now.from_

theorem Stp.gr {a b : Ps} (h : Stp a b) : Gr a b := ⟨Nat.le_of_lt h.lt, by have := h.lt; rw [h.nodes]; omega, ⟨[], by rw [h.nodes]; simp⟩, h.brk⟩
theorem op_sign {c : Int} {lv : Nat} (h : (psOp c).2 = lv) (hl : 0 < lv) : c ≠ 0 ∧ c ≠ 48 ∧ c ≠ 97 := by
  refine ⟨?_, ?_, ?_⟩ <;> (intro e; subst e; simp [psOp] at h; omega)

theorem lit_ok {s : ByteArray} {pat : Bool} {v : Int} {st : Ps} {r : Nat × Ps} (h : StOk s st) (hr : psLit s pat v st = .ok r) : RunOk s st 1 r := by
  obtain ⟨st1, h1, h2⟩ := Pr.bind_ok hr
  cases h2
  obtain ⟨k1, k2, _⟩ := psEx_ok h (by decide) h1
  obtain ⟨a, b, c⟩ := psAdd_ok ⟨1, v, ⟨#[]⟩, []⟩ k1 k2 h.few
  exact ⟨a, b, c, k2.lt⟩
theorem named_ok {s : ByteArray} {pat : Bool} {op : Int} {st : Ps} {r : Nat × Ps} (h : StOk s st) (hr : psNamed s pat op st = .ok r) : RunOk s st 1 r := by
  obtain ⟨st1, h1, h2⟩ := Pr.bind_ok hr
  cases h2
  obtain ⟨k1, k2, _⟩ := psEx_ok h (by decide) h1
  obtain ⟨a, b, c⟩ := psAdd_ok ⟨op, 0, s.extract st.now.from_ st.now.to, []⟩ k1 k2 h.few
  exact ⟨a, b, c, k2.lt⟩
theorem RunOk.behind {s : ByteArray} {st st1 : Ps} {m : Nat} {r : Nat × Ps} (h : RunOk s st1 m r) (hs : Stp st st1) : RunOk s st 1 r :=
  ⟨h.ok, hs.gr.trans h.gr, h.lt, by have := hs.lt; have := h.more; omega⟩

theorem psRun_ok (s : ByteArray) (pat : Bool) : ∀ (f : Nat) (q : Rl) (st : Ps) (r : Nat × Ps), StOk s st → q.ok st → (∀ lv, (q = .pair lv ∨ ∃ a, q = .loop lv a) → 0 < lv) → psRun s pat f q st = .ok r → RunOk s st q.more r := by
  intro f
  induction f with
  | zero => intro q st r _ _ _ h; cases h
  | succ f ih =>
    intro q st r hst hq hlv h
    cases q with
    | cond =>
      obtain ⟨c, h1, h2⟩ := Pr.bind_ok h
      have k1 := ih (.pair 1) _ _ hst trivial (by rintro lv (e | ⟨a, e⟩) <;> cases e; omega) h1
      split at h2
      · rename_i hw
        obtain ⟨st2, h3, h2⟩ := Pr.bind_ok h2
        obtain ⟨a, h4, h2⟩ := Pr.bind_ok h2
        obtain ⟨st4, h5, h2⟩ := Pr.bind_ok h2
        obtain ⟨b, h6, h2⟩ := Pr.bind_ok h2
        cases h2
        obtain ⟨o2, s2⟩ := psNx_ok k1.ok (k1.ok.tk.sign (by rw [hw]; decide) (by rw [hw]; decide)) (by rw [hw]; decide) h3
        have k4 := ih .cond _ _ o2 trivial (by rintro lv (e | ⟨a, e⟩) <;> cases e) h4
        obtain ⟨o4, s4, _⟩ := psEx_ok k4.ok (by decide) h5
        have k6 := ih .cond _ _ o4 trivial (by rintro lv (e | ⟨a, e⟩) <;> cases e) h6
        obtain ⟨x1, x2, x3⟩ := psJoin_ok ⟨17, 0, ⟨#[]⟩, [c.1, a.1, b.1].map Int.ofNat⟩ s2 (k4.gr.trans (s4.gr.trans k6.gr)) k6.ok k1.ok.few
        have := x2.le
        have := k1.more
        exact ⟨x1, k1.gr.trans x2, x3, by simp only [Rl.more] at this ⊢; unfold psJoin; omega⟩
      · cases h2; exact k1
    | pair lv =>
      simp only [psRun] at h
      split at h
      · exact ih .un _ _ hst trivial (by rintro lv (e | ⟨a, e⟩) <;> cases e) h
      · obtain ⟨a, h1, h2⟩ := Pr.bind_ok h
        have k1 := ih (.pair (lv + 1)) _ _ hst trivial (by rintro l2 (e | ⟨a, e⟩) <;> cases e; omega) h1
        have k2 := ih (.loop lv a.1) _ _ k1.ok k1.lt (by rintro l2 (e | ⟨b, e⟩) <;> cases e; exact hlv lv (.inl rfl)) h2
        have := k1.more
        have := k2.gr.le
        exact ⟨k2.ok, k1.gr.trans k2.gr, k2.lt, by simp only [Rl.more] at *; omega⟩
    | loop lv a =>
      have hl := hlv lv (.inr ⟨a, rfl⟩)
      simp only [psRun] at h
      split at h
      · rename_i hop
        obtain ⟨w0, w1, w2⟩ := op_sign hop hl
        obtain ⟨st1, h1, h⟩ := Pr.bind_ok h
        obtain ⟨b, h2, h⟩ := Pr.bind_ok h
        obtain ⟨o1, s1⟩ := psNx_ok hst (hst.tk.sign w1 w2) w0 h1
        have k2 := ih (.pair (lv + 1)) _ _ o1 trivial (by rintro l2 (e | ⟨a, e⟩) <;> cases e; omega) h2
        obtain ⟨x1, x2, x3⟩ := psJoin_ok ⟨(psOp st.now.what).1, 0, ⟨#[]⟩, [a, b.1].map Int.ofNat⟩ s1 k2.gr k2.ok hst.few
        split at h
        · cases h
          exact ⟨x1, x2, x3, x2.le⟩
        · have k3 := ih (.loop lv _) _ _ x1 x3 (by rintro l2 (e | ⟨b, e⟩) <;> cases e; exact hl) h
          exact ⟨k3.ok, x2.trans k3.gr, k3.lt, (x2.trans k3.gr).le⟩
      · cases h
        exact ⟨hst, Gr.refl _, hq, by simp [Rl.more]⟩
    | un =>
      simp only [psRun] at h
      split at h
      · rename_i hw
        have he := hst.tk.sign (by rw [hw]; decide) (by rw [hw]; decide)
        split at h
        · obtain ⟨st1, h1, h⟩ := Pr.bind_ok h
          obtain ⟨x, h2, h⟩ := Pr.bind_ok h
          cases h
          obtain ⟨o1, s1⟩ := psNx_ok hst he (by rw [hw]; decide) h1
          have k2 := ih .un _ _ o1 trivial (by rintro lv (e | ⟨a, e⟩) <;> cases e) h2
          obtain ⟨x1, x2, x3⟩ := psJoin_ok ⟨3, 0, ⟨#[]⟩, [x.1].map Int.ofNat⟩ s1 k2.gr k2.ok hst.few
          exact ⟨x1, x2, x3, by have := s1.lt; have := k2.gr.le; simp only [Rl.more]; unfold psJoin psAdd; simp only; omega⟩
        · obtain ⟨st1, h1, h⟩ := Pr.bind_ok h
          obtain ⟨o1, s1⟩ := psNx_ok hst he (by rw [hw]; decide) h1
          exact (lit_ok o1 h).behind s1
      · split at h
        · rename_i hw
          have he := hst.tk.sign (by rw [hw]; decide) (by rw [hw]; decide)
          obtain ⟨st1, h1, h⟩ := Pr.bind_ok h
          obtain ⟨x, h2, h⟩ := Pr.bind_ok h
          cases h
          obtain ⟨o1, s1⟩ := psNx_ok hst he (by rw [hw]; decide) h1
          have k2 := ih .un _ _ o1 trivial (by rintro lv (e | ⟨a, e⟩) <;> cases e) h2
          obtain ⟨x1, x2, x3⟩ := psJoin_ok ⟨4, 0, ⟨#[]⟩, [x.1].map Int.ofNat⟩ s1 k2.gr k2.ok hst.few
          exact ⟨x1, x2, x3, by have := s1.lt; have := k2.gr.le; simp only [Rl.more]; unfold psJoin psAdd; simp only; omega⟩
        · exact ih .atom _ _ hst trivial (by rintro lv (e | ⟨a, e⟩) <;> cases e) h
    | atom =>
      simp only [psRun] at h
      split at h
      · exact lit_ok hst h
      · split at h
        · exact named_ok hst h
        · split at h
          · rename_i hw
            obtain ⟨st1, h1, h⟩ := Pr.bind_ok h
            obtain ⟨o1, s1⟩ := psNx_ok hst (hst.tk.sign (by rw [hw]; decide) (by rw [hw]; decide)) (by rw [hw]; decide) h1
            exact (named_ok o1 h).behind s1
          · split at h
            · rename_i hw
              split at h
              · cases h
              · obtain ⟨st1, h1, h⟩ := Pr.bind_ok h
                obtain ⟨e, h2, h⟩ := Pr.bind_ok h
                obtain ⟨st3, h3, h⟩ := Pr.bind_ok h
                cases h
                have hst' : StOk s { st with brk := st.brk + 1 } := ⟨hst.tk, hst.few⟩
                obtain ⟨o1, s1⟩ := psNx_ok hst' (hst.tk.sign (by rw [hw]; decide) (by rw [hw]; decide)) (by show st.now.what ≠ 0; rw [hw]; decide) h1
                have k2 := ih .cond _ _ o1 trivial (by rintro lv (e | ⟨a, e⟩) <;> cases e) h2
                obtain ⟨o3, s3, _⟩ := psEx_ok k2.ok (by decide) h3
                have g := s1.gr.trans (k2.gr.trans s3.gr)
                have hb := g.brk
                have hl := s1.lt
                have hm := k2.gr.le
                have ht := s3.lt
                refine ⟨⟨o3.tk, o3.few⟩, ⟨g.le, g.grow, g.pre, ?_⟩, ?_, ?_⟩
                · show st3.brk - 1 = st.brk
                  have : st3.brk = st.brk + 1 := hb
                  omega
                · show e.1 < st3.nodes.length
                  rw [s3.nodes]; exact k2.lt
                · show st.now.from_ + 1 ≤ st3.now.from_
                  have : st.now.from_ < st1.now.from_ := hl
                  omega
            · cases h
end Go.Proofs.YtjmccobblpcbhaaDoor
