/-
  RdLen, RrOpW, SgRel, SgWh, ExJoiW, RrCt, RdEnd.
-/
import Derived.Shelf.Unicode.DecodeSlow
import Derived.Laws.RangeAny
import Derived.Shelf.Strings.Builder1
import Derived.Shelf.Small.Utf8
import Derived.Shelf.Strings.BuilderF
import Derived.Shelf.Strings.BuilderK
import Derived.Shelf.Strings.BuilderRune
import Derived.Shelf.Utf8.AppendRune
import Derived.Shelf.Strconv.Itoa0
import Derived.Shelf.Strconv.Itoa1
import Derived.Shelf.LaysM
import Derived.Shelf.Strconv.Itoa2
import Derived.Shelf.Strconv.Itoa3
import Derived.Shelf.Strconv.Itoa4
import Derived.Shelf.Strings.Prefix
import Derived.Shelf.Unicode.DecodeAny
import Derived.Test.YtljigfiokekpoaaGreatDoorProg
import Derived.WalkKit
import Derived.Deep.DeepFit
import Derived.Lib.OthersKept
import Derived.Lib.RuneCountTail
import Derived.Deep.AppendLies
import Derived.Deep.OwnRows
import Derived.Laws.AppendOwnNone
import Derived.Deep.QuietTactic
import Derived.BigQuiet
import Derived.Deep.RegionWith
import Derived.Laws.DeepStrings4
import Derived.Lib.MapLaws
import Derived.Sort.Walk0
import Derived.Lib.ItoaNum
import Derived.Maps.OwnSet
import Derived.StringKeys
import Derived.Lib.QuietBelow
import Derived.StillTail
import Derived.Lib.Small
import Derived.Lib.Strings
import Derived.Deep.RegionHeld3
import Derived.Laws.ResultCell
import Derived.Deep.Heap
import Derived.Laws.Rows
import Derived.Deep.RegionLaw
import Derived.Laws.OwnMore
import Derived.Test.YtljigfiokekpoaaGreatDoorZ01
import Derived.Test.YtljigfiokekpoaaGreatDoorZ02
import Derived.Test.YtljigfiokekpoaaGreatDoorZ03
import Derived.Test.YtljigfiokekpoaaGreatDoorZ04
import Derived.Test.YtljigfiokekpoaaGreatDoorZ05
import Derived.Test.YtljigfiokekpoaaGreatDoorZ06
import Derived.Test.YtljigfiokekpoaaGreatDoorZ07
import Derived.Test.YtljigfiokekpoaaGreatDoorZ08
import Derived.Test.YtljigfiokekpoaaGreatDoorZ09
import Derived.Test.YtljigfiokekpoaaGreatDoorZ12
import Derived.Test.YtljigfiokekpoaaGreatDoorZ13
import Derived.Test.YtljigfiokekpoaaGreatDoorZ14
import Derived.Test.YtljigfiokekpoaaGreatDoorZ16
import Derived.Test.YtljigfiokekpoaaGreatDoorZ27
import Derived.Test.YtljigfiokekpoaaGreatDoorZ28
import Derived.Test.YtljigfiokekpoaaGreatDoorZ29
import Derived.Test.YtljigfiokekpoaaGreatDoorZ30
import Derived.Test.YtljigfiokekpoaaGreatDoorZ31
import Derived.Test.YtljigfiokekpoaaGreatDoorZ32
import Derived.Test.YtljigfiokekpoaaGreatDoorZ33
import Derived.Test.YtljigfiokekpoaaGreatDoorZ34
import Derived.Test.YtljigfiokekpoaaGreatDoorZ35
import Derived.Test.YtljigfiokekpoaaGreatDoorZ36
import Derived.Test.YtljigfiokekpoaaGreatDoorZ37
import Derived.Test.YtljigfiokekpoaaGreatDoorZ38
import Derived.Test.YtljigfiokekpoaaGreatDoorZ39
set_option linter.unusedSimpArgs false
set_option linter.unusedVariables false
namespace Go.Proofs.YtljigfiokekpoaaGreatDoor
open Go.Lib

/-- A token that stands at a. -/
structure TkA (s : ByteArray) (a : Nat) (t : Tk) : Prop where
  at_ : t.from_ = a
  in_ : a ≤ s.size
  good : t.err = 0 → a ≤ t.to ∧ t.to ≤ s.size ∧ (t.what ≠ 0 → a < t.to)
  sign : t.what ≠ 48 → t.what ≠ 97 → t.err = 0
  name : t.what = 97 → a < t.to ∧ t.to ≤ s.size

theorem from_at {s : ByteArray} {pat : Bool} {m a : Nat} {t : Tk} (ha : a ≤ s.size) (h : psFrom s pat m a = .ok t) : TkA s a t := by
  unfold psFrom at h
  split at h
  · rename_i hq
    unfold psAt at h
    split at h
    · rename_i k1
      obtain ⟨e1, e2, e3⟩ := span_in' s a hq k1
      rw [e1] at h
      simp only [Int.toNat_natCast] at h
      cases h
      exact ⟨rfl, ha, fun _ => ⟨by simp only; omega, e3, fun _ => e2⟩, fun _ h => absurd rfl h, fun _ => ⟨e2, e3⟩⟩
    · split at h
      · rename_i k2
        cases h
        refine ⟨rfl, ha, fun h0 => ?_, fun h => absurd rfl h, fun h => by cases h⟩
        simp only at h0 ⊢
        split at h0
        · cases h0
        · have := num_in s a hq k2 h0
          omega
      · split at h
        · rename_i k4
          have := sign_in s pat a hq k4.1
          have k5 := k4.2
          cases h
          refine ⟨rfl, ha, fun _ => ⟨by simp only; omega, by simp only; omega, fun _ => by simp only; omega⟩, fun _ _ => rfl, fun _ => ⟨by simp only; omega, by simp only; omega⟩⟩
        · cases h
  · cases h
    have : a = s.size := by omega
    subst this
    exact ⟨rfl, ha, fun _ => ⟨Nat.le_refl _, Nat.le_refl _, fun h => absurd rfl h⟩, fun _ _ => rfl, fun h => by cases h⟩
theorem skp_in {s : ByteArray} {p : Nat} (h : p ≤ s.size) : p ≤ skp s p ∧ skp s p ≤ s.size := psSkip_le s s.size p h

theorem rdLit_len {s : ByteArray} {a : Nat} {v : Int} {t : Tk} {r : List Nd × Nat} (ht : TkA s a t) (h : rdLit s v t = .ok r) : r.1.length = 1 ∧ a < r.2 ∧ r.2 ≤ s.size := by
  unfold rdLit at h
  split at h
  · split at h
    · rename_i h1 h2
      cases h
      obtain ⟨g1, g2, g3⟩ := ht.good h2
      have g4 := g3 (by rw [h1]; decide)
      have := skp_in g2
      exact ⟨rfl, by simp only; omega, this.2⟩
    · cases h
  · cases h
theorem rdNamed_len {s : ByteArray} {a : Nat} {v : Int} {t : Tk} {r : List Nd × Nat} (ht : TkA s a t) (h : rdNamed s v t = .ok r) : r.1.length = 1 ∧ a < r.2 ∧ r.2 ≤ s.size := by
  unfold rdNamed at h
  split at h
  · split at h
    · rename_i h1 h2
      cases h
      obtain ⟨g1, g2, g3⟩ := ht.good h2
      have g4 := g3 (by rw [h1]; decide)
      have := skp_in g2
      exact ⟨rfl, by simp only; omega, this.2⟩
    · cases h
  · cases h
theorem jn1_len (op : Int) (a : List Nd) : (jn1 op a).length = a.length + 1 := by simp [jn1]
theorem jn2_len (op : Int) (a b : List Nd) : (jn2 op a b).length = a.length + b.length + 1 := by simp [jn2]; omega
theorem jn3_len (op : Int) (a b c : List Nd) : (jn3 op a b c).length = a.length + b.length + c.length + 1 := by simp [jn3]; omega
theorem op_sgn {c : Int} {lv : Nat} (h : (psOp c).2 = lv) (hl : 1 ≤ lv) : c ≠ 0 ∧ c ≠ 48 ∧ c ≠ 97 := by
  refine ⟨?_, ?_, ?_⟩ <;> (rintro rfl; simp [psOp] at h; omega)

def RdQ.lvl (q : RdQ) : Prop := (∀ lv, q = .level lv → 1 ≤ lv) ∧ ∀ lv la, q = .loop lv la → 1 ≤ lv

theorem rd_len (s : ByteArray) (pat : Bool) : ∀ (f : Nat) (q : RdQ) (a : Nat) (t : Tk) (o : Nat) (r : List Nd × Nat), q.lvl → TkA s a t → rdRun s pat f q t o = .ok r → r.1.length + a ≤ r.2 + q.left.length ∧ a ≤ r.2 ∧ r.2 ≤ s.size := by
  intro f
  induction f with
  | zero => intro q a t o r _ _ h; cases h
  | succ f ih =>
    have hc : RdQ.cond.lvl := ⟨(fun _ e => by cases e), (fun _ _ e => by cases e)⟩
    have hu : RdQ.un.lvl := ⟨(fun _ e => by cases e), (fun _ _ e => by cases e)⟩
    have hat : RdQ.atom.lvl := ⟨(fun _ e => by cases e), (fun _ _ e => by cases e)⟩
    have hlv : ∀ lv, 1 ≤ lv → (RdQ.level lv).lvl := fun lv h => ⟨(fun _ e => by cases e; exact h), (fun _ _ e => by cases e)⟩
    have hlo : ∀ lv la, 1 ≤ lv → (RdQ.loop lv la).lvl := fun lv la h => ⟨(fun _ e => by cases e), (fun _ _ e => by cases e; exact h)⟩
    intro q a t o r hq ht h
    cases q with
    | cond =>
      simp only [rdRun] at h
      obtain ⟨c, h1, h⟩ := Pr.bind_ok h
      obtain ⟨i1, i2, i3⟩ := ih _ a t o c (hlv 1 (by omega)) ht h1
      simp only [RdQ.left, List.length_nil, Nat.add_zero] at i1 ⊢
      obtain ⟨t1, h2, h⟩ := Pr.bind_ok h
      have ht1 := from_at i3 h2
      split at h
      · rename_i hw
        obtain ⟨g1, g2, g3⟩ := ht1.good (ht1.sign (by rw [hw]; decide) (by rw [hw]; decide))
        have g4 := g3 (by rw [hw]; decide)
        have s1 := skp_in g2
        obtain ⟨t2, h3, h⟩ := Pr.bind_ok h
        have ht2 := from_at s1.2 h3
        obtain ⟨b, h4, h⟩ := Pr.bind_ok h
        obtain ⟨j1, j2, j3⟩ := ih _ _ t2 o b hc ht2 h4
        simp only [RdQ.left, List.length_nil, Nat.add_zero] at j1
        obtain ⟨t3, h5, h⟩ := Pr.bind_ok h
        have ht3 := from_at j3 h5
        split at h
        · rename_i hw3
          split at h
          · obtain ⟨k1, k2, k3⟩ := ht3.good (ht3.sign (by rw [hw3]; decide) (by rw [hw3]; decide))
            have k4 := k3 (by rw [hw3]; decide)
            have s2 := skp_in k2
            obtain ⟨t4, h6, h⟩ := Pr.bind_ok h
            have ht4 := from_at s2.2 h6
            obtain ⟨d, h7, h⟩ := Pr.bind_ok h
            obtain ⟨l1, l2, l3⟩ := ih _ _ t4 o d hc ht4 h7
            simp only [RdQ.left, List.length_nil, Nat.add_zero] at l1
            cases h
            simp only [jn3_len]
            omega
          · cases h
        · cases h
      · cases h; exact ⟨i1, i2, i3⟩
    | level lv =>
      simp only [rdRun] at h
      have hl1 := hq.1 lv rfl
      simp only [RdQ.left, List.length_nil, Nat.add_zero]
      split at h
      · have := ih _ a t o r hu ht h
        simpa [RdQ.left] using this
      · obtain ⟨c, h1, h⟩ := Pr.bind_ok h
        obtain ⟨i1, i2, i3⟩ := ih _ a t o c (hlv (lv + 1) (by omega)) ht h1
        simp only [RdQ.left, List.length_nil, Nat.add_zero] at i1
        obtain ⟨t1, h2, h⟩ := Pr.bind_ok h
        have ht1 := from_at i3 h2
        obtain ⟨j1, j2, j3⟩ := ih _ _ t1 o r (hlo lv c.1 hl1) ht1 h
        simp only [RdQ.left] at j1
        omega
    | loop lv la =>
      simp only [rdRun] at h
      have hl1 := hq.2 lv la rfl
      simp only [RdQ.left]
      split at h
      · rename_i hw
        obtain ⟨w0, w1, w2⟩ := op_sgn hw hl1
        obtain ⟨g1, g2, g3⟩ := ht.good (ht.sign w1 w2)
        have g4 := g3 w0
        have s1 := skp_in g2
        obtain ⟨t1, h2, h⟩ := Pr.bind_ok h
        have ht1 := from_at s1.2 h2
        obtain ⟨b, h3, h⟩ := Pr.bind_ok h
        obtain ⟨i1, i2, i3⟩ := ih _ _ t1 o b (hlv (lv + 1) (by omega)) ht1 h3
        simp only [RdQ.left, List.length_nil, Nat.add_zero] at i1
        split at h
        · cases h
          simp only [jn2_len]
          omega
        · obtain ⟨t2, h4, h⟩ := Pr.bind_ok h
          have ht2 := from_at i3 h4
          obtain ⟨j1, j2, j3⟩ := ih _ _ t2 o r (hlo lv _ hl1) ht2 h
          simp only [RdQ.left, jn2_len] at j1
          omega
      · cases h
        rw [ht.at_]
        have := ht.in_
        simp only
        omega
    | un =>
      simp only [rdRun] at h
      simp only [RdQ.left, List.length_nil, Nat.add_zero]
      split at h
      · rename_i hw
        obtain ⟨g1, g2, g3⟩ := ht.good (ht.sign (by rw [hw]; decide) (by rw [hw]; decide))
        have g4 := g3 (by rw [hw]; decide)
        have s1 := skp_in g2
        split at h
        · obtain ⟨t1, h2, h⟩ := Pr.bind_ok h
          have ht1 := from_at s1.2 h2
          obtain ⟨b, h3, h⟩ := Pr.bind_ok h
          obtain ⟨i1, i2, i3⟩ := ih _ _ t1 o b hu ht1 h3
          simp only [RdQ.left, List.length_nil, Nat.add_zero] at i1
          cases h
          simp only [jn1_len]
          omega
        · obtain ⟨t1, h2, h⟩ := Pr.bind_ok h
          have ht1 := from_at s1.2 h2
          have := rdLit_len ht1 h
          omega
      · split at h
        · rename_i hw
          obtain ⟨g1, g2, g3⟩ := ht.good (ht.sign (by rw [hw]; decide) (by rw [hw]; decide))
          have g4 := g3 (by rw [hw]; decide)
          have s1 := skp_in g2
          obtain ⟨t1, h2, h⟩ := Pr.bind_ok h
          have ht1 := from_at s1.2 h2
          obtain ⟨b, h3, h⟩ := Pr.bind_ok h
          obtain ⟨i1, i2, i3⟩ := ih _ _ t1 o b hu ht1 h3
          simp only [RdQ.left, List.length_nil, Nat.add_zero] at i1
          cases h
          simp only [jn1_len]
          omega
        · have := ih _ a t o r hat ht h
          simpa [RdQ.left] using this
    | atom =>
      simp only [rdRun] at h
      simp only [RdQ.left, List.length_nil, Nat.add_zero]
      split at h
      · have := rdLit_len ht h; omega
      · split at h
        · have := rdNamed_len ht h; omega
        · split at h
          · rename_i hw
            obtain ⟨g1, g2, g3⟩ := ht.good (ht.sign (by rw [hw]; decide) (by rw [hw]; decide))
            have g4 := g3 (by rw [hw]; decide)
            have s1 := skp_in g2
            obtain ⟨t1, h2, h⟩ := Pr.bind_ok h
            have ht1 := from_at s1.2 h2
            have := rdNamed_len ht1 h
            omega
          · split at h
            · rename_i hw
              obtain ⟨g1, g2, g3⟩ := ht.good (ht.sign (by rw [hw]; decide) (by rw [hw]; decide))
              have g4 := g3 (by rw [hw]; decide)
              have s1 := skp_in g2
              split at h
              · cases h
              · obtain ⟨t1, h2, h⟩ := Pr.bind_ok h
                have ht1 := from_at s1.2 h2
                obtain ⟨e, h3, h⟩ := Pr.bind_ok h
                obtain ⟨i1, i2, i3⟩ := ih _ _ t1 (o + 1) e hc ht1 h3
                simp only [RdQ.left, List.length_nil, Nat.add_zero] at i1
                obtain ⟨t2, h4, h⟩ := Pr.bind_ok h
                have ht2 := from_at i3 h4
                split at h
                · rename_i hw2
                  split at h
                  · rename_i he
                    obtain ⟨k1, k2, k3⟩ := ht2.good he
                    have s2 := skp_in k2
                    cases h
                    simp only
                    omega
                  · cases h
                · cases h
            · cases h
end Go.Proofs.YtljigfiokekpoaaGreatDoor

set_option linter.unusedSimpArgs false
set_option linter.unusedVariables false
namespace Go.Proofs.YtljigfiokekpoaaGreatDoor
open Go.RowKit Go.Lib Go.Sort

def bs (l : List UInt8) : ByteArray := ⟨l.toArray⟩
end Go.Proofs.YtljigfiokekpoaaGreatDoor

set_option linter.unusedSimpArgs false
set_option linter.unusedVariables false
namespace Go.Proofs.YtljigfiokekpoaaGreatDoor
open Go.RowKit Go.Lib

theorem kd4 {c : Int} (h : kd c = 4) : c ∈ signList := by
  rw [kd_eq] at h
  unfold kindR at h
  split at h
  · omega
  · split at h
    · omega
    · split at h
      · omega
      · split at h
        · omega
        · unfold sgnK at h
          split at h
          · rename_i hs
            unfold isSign at hs
            simpa using hs
          · omega
end Go.Proofs.YtljigfiokekpoaaGreatDoor

set_option linter.unusedSimpArgs false
set_option linter.unusedVariables false
namespace Go.Proofs.YtljigfiokekpoaaGreatDoor
open Go.RowKit Go.Lib

def whats : List Int := [0, 48, 97, 40, 41, 43, 45, 42, 47, 37, 38, 124, 94, 126, 60, 63, 58, 64, 8801, 8810, 8811]
end Go.Proofs.YtljigfiokekpoaaGreatDoor

set_option linter.unusedSimpArgs false
set_option linter.unusedVariables false
namespace Go.Proofs.YtljigfiokekpoaaGreatDoor
open Go.RowKit Go.Lib

/-- In the inner loop of behind: the new row, and the node's own block. -/
structure BhMid (wr : World) (op n by_ : Int) (nm : ByteArray) (ka : Option Addr) (kc : Nat) (kids : List Int) (k : Nat) (wq : World) : Prop where
  row : wq.rowIs (wr.heap.size + 1) 3 kids.length (fun j => .int .i64 (if j < k then kids.getD j 0 + by_ else 0))
  node : wq.heap[wr.heap.size]? = some (.cells #[.int .i64 op, .int .i64 n, .string nm, .slice ka kids.length kc] 53 (0, 0))
  below : Below wr.heap.size wr wq

theorem BhMid.set {wr : World} {op n by_ : Int} {nm : ByteArray} {ka : Option Addr} {kc : Nat} {kids : List Int} {k : Nat} {wq : World} (h : BhMid wr op n by_ nm ka kc kids k wq) (hk : k < kids.length) : BhMid wr op n by_ nm ka kc kids (k + 1) (wq.setCell ⟨wr.heap.size + 1, k, none⟩ (.int .i64 (kids.getD k 0 + by_))) := by
  refine ⟨(h.row.set k _).congr (fun j hj => ?_), (Deep.blk_setCell_other _ _ _ _ (by simp)).trans h.node, h.below.setCell (by simp) _⟩
  by_cases e : j = k
  · subst e
    rw [if_pos rfl, if_pos (by omega)]
  · rw [if_neg e]
    by_cases e2 : j < k
    · rw [if_pos e2, if_pos (by omega)]
    · rw [if_neg e2, if_neg (by omega)]

end Go.Proofs.YtljigfiokekpoaaGreatDoor

set_option linter.unusedSimpArgs false
set_option linter.unusedVariables false
namespace Go.Proofs.YtljigfiokekpoaaGreatDoor
open Go.RowKit Go.Lib Go.Sort

theorem own_gr {w w' : World} {base R : Nat} {e : TypeId} {sz n : Nat} {v : Value} {xs : List Value} (h : w.ownsRow base e sz v n xs) (hg : w.grownBy w' (some R)) (hR : R < base) : w'.ownsRow base e sz v n xs :=
  h.kept hg (by
    cases hk : v.ownBlock with
    | none => exact .inl rfl
    | some k =>
      right
      intro hh
      have h1 := (h.lt k hk).1
      injection hh with hh
      omega)
theorem OwnN.gr {w w' : World} {base R : Nat} {v : Value} {l : List Nd} (h : OwnN w base v l) (hg : w.grownBy w' (some R)) (hR : R < base) : OwnN w' base v l := by
  obtain ⟨p, h1, h2⟩ := h
  exact ⟨p, h1, ⟨own_gr h2.row hg hR, fun q hq => own_gr (h2.kids q hq) hg hR⟩⟩
/-- A list that is left where a fault was come to. -/
structure BadL (s : ByteArray) (a : Nat) (l : List Nd) : Prop where
  len : l.length + a ≤ s.size
  kids : ∀ x ∈ l, x.kids.length ≤ 3 ∧ ∀ k ∈ x.kids, 0 ≤ k ∧ k < (l.length : Int)
theorem BadL.nil {s : ByteArray} {a : Nat} (h : a ≤ s.size) : BadL s a [] := ⟨by simpa using h, by simp⟩
theorem BadL.from_ {s : ByteArray} {a b : Nat} {l : List Nd} (h : BadL s b l) (hab : a ≤ b) : BadL s a l := ⟨by have := h.len; omega, h.kids⟩
theorem BadL.of {s : ByteArray} {a : Nat} {l : List Nd} (h : KidsIn l) (hl : l.length + a ≤ s.size) : BadL s a l := ⟨hl, fun x hx => ⟨h.few x hx, h.kin x hx⟩⟩

def rdX (s : ByteArray) (pat : Bool) (f : Nat) (q : RdQ) (a o : Nat) : Pr (List Nd × Nat) := (psFrom s pat mx63 a).bind fun t => rdRun s pat f q t o

/-! ### Joined of lists that were just read -/
end Go.Proofs.YtljigfiokekpoaaGreatDoor

set_option linter.unusedSimpArgs false
set_option linter.unusedVariables false
namespace Go.Proofs.YtljigfiokekpoaaGreatDoor
open Go.Lib

theorem plain_nz : ∀ c ∈ signList, psPlain c ≠ 0 ∧ (psPlain c = 64 → c = 64) := by decide +kernel
theorem what_end {s : ByteArray} {pat : Bool} {m p : Nat} {t : Tk} (hp : p ≤ s.size) (h : psFrom s pat m p = .ok t) : t.what = 0 ↔ ¬ p < s.size := by
  unfold psFrom at h
  split at h
  · rename_i hlt
    refine ⟨fun h0 => ?_, fun c => absurd hlt c⟩
    unfold psAt at h
    split at h
    · cases h; exact absurd h0 (by simp)
    · split at h
      · cases h; exact absurd h0 (by simp)
      · split at h
        · rename_i k4
          cases h
          exfalso
          have k5 := k4.2
          simp only at h0
          unfold psSign at h0 k5
          revert h0 k5
          (repeat' split) <;> first | (intro a b; exact (plain_nz _ (kd4 k4.1)).1 a) | (intro a b; revert a; decide) | (intro a b; revert b; decide)
        · cases h
  · rename_i hlt
    cases h
    exact ⟨fun _ => hlt, fun _ => rfl⟩
theorem what_hole {s : ByteArray} {m p : Nat} {t : Tk} (h : psFrom s false m p = .ok t) : t.what ≠ 64 := by
  unfold psFrom at h
  split at h
  · rename_i hlt
    unfold psAt at h
    split at h
    · cases h; simp
    · split at h
      · cases h; simp
      · split at h
        · rename_i k4
          cases h
          simp only
          have k5 := k4.2
          unfold psSign at k5 ⊢
          revert k5
          (repeat' split) <;> first | (intro a b; simp at b; done) | (intro a; simp at a; done) | skip
          rename_i h1 h2 h3 h4 h5
          intro _ e
          exact h5 ⟨(plain_nz _ (kd4 k4.1)).2 e, rfl⟩
        · cases h
  · cases h; simp [psEnd]

/-- No holes. -/
def noH (l : List Nd) : Prop := ∀ x ∈ l, x.op ≠ 18
theorem noH_sh {l : List Nd} (h : noH l) (d : Nat) : noH (l.map (shN d)) := by
  intro x hx
  obtain ⟨y, hy, rfl⟩ := List.mem_map.1 hx
  exact h y hy
theorem noH_app {l m : List Nd} (h : noH l) (h2 : noH m) : noH (l ++ m) := by
  intro x hx
  rcases List.mem_append.1 hx with hx | hx
  · exact h x hx
  · exact h2 x hx
theorem noH_one {op n : Int} {nm : ByteArray} {ks : List Int} (h : op ≠ 18) : noH [⟨op, n, nm, ks⟩] := by
  intro x hx
  rw [List.mem_singleton.1 hx]; exact h
theorem psOp_18 (c : Int) : (psOp c).1 ≠ 18 := by
  by_cases h : c ∈ whats
  · have : ∀ c ∈ whats, (psOp c).1 ≠ 18 := by decide +kernel
    exact this c h
  · simp [whats] at h
    unfold psOp
    simp [h]
theorem rdLit_noH {s : ByteArray} {v : Int} {t : Tk} {r : List Nd × Nat} (h : rdLit s v t = .ok r) : noH r.1 := by
  unfold rdLit at h
  split at h
  · split at h
    · cases h; exact noH_one (by decide)
    · cases h
  · cases h
theorem rdNamed_noH {s : ByteArray} {t : Tk} {r : List Nd × Nat} (h : rdNamed s 2 t = .ok r) : noH r.1 := by
  unfold rdNamed at h
  split at h
  · split at h
    · cases h; exact noH_one (by decide)
    · cases h
  · cases h
def RdQ.noH (q : RdQ) : Prop := ∀ lv la, q = .loop lv la → Go.Proofs.YtljigfiokekpoaaGreatDoor.noH la
theorem rd_noH (s : ByteArray) : ∀ (f : Nat) (q : RdQ) (t : Tk) (o : Nat) (r : List Nd × Nat), q.noH → t.what ≠ 64 → rdRun s false f q t o = .ok r → noH r.1 := by
  intro f
  induction f with
  | zero => intro q t o r _ _ h; cases h
  | succ f ih =>
    intro q t o r hq ht h
    have hc : RdQ.cond.noH := fun _ _ e => by cases e
    have hu : RdQ.un.noH := fun _ _ e => by cases e
    have hat : RdQ.atom.noH := fun _ _ e => by cases e
    have hl : ∀ lv, (RdQ.level lv).noH := fun lv _ _ e => by cases e
    cases q with
    | cond =>
      simp only [rdRun] at h
      obtain ⟨c, h1, h⟩ := Pr.bind_ok h
      have n1 := ih _ _ _ _ (hl 1) ht h1
      obtain ⟨t1, h2, h⟩ := Pr.bind_ok h
      split at h
      · obtain ⟨t2, h3, h⟩ := Pr.bind_ok h
        obtain ⟨a, h4, h⟩ := Pr.bind_ok h
        have n2 := ih _ _ _ _ hc (what_hole h3) h4
        obtain ⟨t3, h5, h⟩ := Pr.bind_ok h
        split at h
        · split at h
          · obtain ⟨t4, h6, h⟩ := Pr.bind_ok h
            obtain ⟨b, h7, h⟩ := Pr.bind_ok h
            have n3 := ih _ _ _ _ hc (what_hole h6) h7
            cases h
            exact noH_app (noH_app (noH_app n1 (noH_sh n2 _)) (noH_sh n3 _)) (noH_one (by decide))
          · cases h
        · cases h
      · cases h; exact n1
    | level lv =>
      simp only [rdRun] at h
      split at h
      · exact ih _ _ _ _ hu ht h
      · obtain ⟨a, h1, h⟩ := Pr.bind_ok h
        have n1 := ih _ _ _ _ (hl (lv + 1)) ht h1
        obtain ⟨t1, h2, h⟩ := Pr.bind_ok h
        exact ih _ _ _ _ (fun _ _ e => by cases e; exact n1) (what_hole h2) h
    | loop lv la =>
      simp only [rdRun] at h
      have n0 := hq lv la rfl
      split at h
      · obtain ⟨t1, h2, h⟩ := Pr.bind_ok h
        obtain ⟨b, h3, h⟩ := Pr.bind_ok h
        have n1 := ih _ _ _ _ (hl (lv + 1)) (what_hole h2) h3
        have nj : noH (jn2 (psOp t.what).1 la b.1) := noH_app (noH_app n0 (noH_sh n1 _)) (noH_one (psOp_18 _))
        split at h
        · cases h; exact nj
        · obtain ⟨t2, h4, h⟩ := Pr.bind_ok h
          exact ih _ _ _ _ (fun _ _ e => by cases e; exact nj) (what_hole h4) h
      · cases h; exact n0
    | un =>
      simp only [rdRun] at h
      split at h
      · split at h
        · obtain ⟨t1, h2, h⟩ := Pr.bind_ok h
          obtain ⟨b, h3, h⟩ := Pr.bind_ok h
          have n1 := ih _ _ _ _ hu (what_hole h2) h3
          cases h
          exact noH_app n1 (noH_one (by decide))
        · obtain ⟨t1, h2, h⟩ := Pr.bind_ok h
          exact rdLit_noH h
      · split at h
        · obtain ⟨t1, h2, h⟩ := Pr.bind_ok h
          obtain ⟨b, h3, h⟩ := Pr.bind_ok h
          have n1 := ih _ _ _ _ hu (what_hole h2) h3
          cases h
          exact noH_app n1 (noH_one (by decide))
        · exact ih _ _ _ _ hat ht h
    | atom =>
      simp only [rdRun] at h
      split at h
      · exact rdLit_noH h
      · split at h
        · exact rdNamed_noH h
        · split at h
          · split at h
            · cases h
            · obtain ⟨t1, h2, h⟩ := Pr.bind_ok h
              obtain ⟨e, h3, h⟩ := Pr.bind_ok h
              have n1 := ih _ _ _ _ hc (what_hole h2) h3
              obtain ⟨t2, h4, h⟩ := Pr.bind_ok h
              split at h
              · split at h
                · cases h; exact n1
                · cases h
              · cases h
          · cases h
theorem noH_hls {l : List Nd} (h : noH l) : hlsL l = [] := by
  unfold hlsL
  suffices ∀ acc : List ByteArray, l.foldl addNm acc = acc from this []
  induction l with
  | nil => intro acc; rfl
  | cons x l ih =>
    intro acc
    rw [List.foldl_cons]
    have : addNm acc x = acc := by unfold addNm; rw [if_neg (h x (by simp))]
    rw [this]
    exact ih (fun y hy => h y (by simp [hy])) acc

/-- What the document's read comes to. -/
def rdWhole (s : ByteArray) (pat : Bool) (most : Nat) : Pr (List Nd) :=
  if 4096 < s.size then .bad 0 3 else if (chk s).2 = 0 then
    ((rdX s pat (psFuel s) .cond (skp s 0) 0).bind fun r => (psFrom s pat mx63 r.2).bind fun _ =>
      if r.2 < s.size then .bad r.2 6 else if most < r.1.length then .bad s.size 10 else if pat = true ∧ 6 < (hlsL r.1).length then .bad s.size 10 else .ok r.1)
  else .bad (chk s).1 (chk s).2

theorem read_eq (s : ByteArray) (pat : Bool) (most : Nat) : psRead s pat most = rdWhole s pat most := by
  unfold psRead rdWhole psOpen
  by_cases h4 : 4096 < s.size
  · rw [if_pos h4, if_pos h4]; rfl
  rw [if_neg h4, if_neg h4]
  rcases Decidable.em ((chk s).2 = 0) with hc | hc
  rotate_left
  · rw [if_neg hc, if_neg hc]; rfl
  rw [if_pos hc, if_pos hc]
  show ((psNx s pat mx63 st00).bind fun st1 => _) = _
  rw [psNx_eq]
  unfold rdX
  have e0 : skp s st00.now.to = skp s 0 := rfl
  rw [e0, Pr.bind_assoc, Pr.bind_assoc]
  cases h0 : psFrom s pat mx63 (skp s 0) with
  | out => rfl
  | bad p er => rfl
  | ok t =>
    simp only [Pr.bind]
    have hsk := skp_in (s := s) (p := 0) (by omega)
    have ht := from_at hsk.2 h0
    have hR := ps_rd s pat (psFuel s) .cond t 0 [] (by rw [ht.at_]; exact h0) (noq (fun _ _ e => by cases e))
    have e1 : RdQ.cond.rl ([] : List Nd).length = Rl.cond := rfl
    have e2 : (([] : List Nd) ++ RdQ.cond.left.map (shN ([] : List Nd).length)) = [] := rfl
    rw [e1, e2] at hR
    have e3 : ({ st00 with now := t } : Ps) = ⟨t, [], 0⟩ := rfl
    rw [e3, hR]
    unfold lz
    cases h1 : rdRun s pat (psFuel s) .cond t 0 with
    | out => rfl
    | bad p er => rfl
    | ok r =>
      simp only [Pr.bind]
      obtain ⟨l1, l2, l3⟩ := rd_len s pat _ .cond _ t 0 r ⟨(fun _ e => by cases e), (fun _ _ e => by cases e)⟩ ht h1
      cases h2 : psFrom s pat mx63 r.2 with
      | out => rfl
      | bad p er => rfl
      | ok t' =>
        simp only [Pr.bind, List.nil_append, List.length_nil]
        have ht' := from_at l3 h2
        have hw := what_end l3 h2
        rw [shN_zero]
        unfold psEx
        simp only
        by_cases hlt : r.2 < s.size
        · rw [if_neg (fun c => hw.1 c hlt), if_pos hlt, ht'.at_]
        · rw [if_pos (hw.2 hlt), if_neg hlt, if_pos (ht'.sign (by rw [hw.2 hlt]; decide) (by rw [hw.2 hlt]; decide))]
          have e5 : r.2 = s.size := by omega
          have et : t' = psEnd s := by
            unfold psFrom at h2
            rw [if_neg hlt] at h2
            cases h2; rfl
          have e6 : psNx s pat mx63 ⟨t', r.1, 0⟩ = .ok ⟨psEnd s, r.1, 0⟩ := by
            rw [psNx_eq, et]
            have : skp s (psEnd s).to = s.size := by
              have := skp_in (s := s) (p := s.size) (Nat.le_refl _)
              show skp s s.size = s.size
              omega
            simp only [this]
            unfold psFrom
            rw [if_neg (by omega)]
            rfl
          rw [e6]
          simp only [Pr.bind]
          by_cases hm : most < r.1.length
          · rw [if_pos hm, if_pos hm]
          · rw [if_neg hm, if_neg hm]
            cases pat with
            | true => simp
            | false =>
              have hn := noH_hls (rd_noH s _ .cond t 0 r (fun _ _ e => by cases e) (what_hole h0) h1)
              rw [hn]
              simp
end Go.Proofs.YtljigfiokekpoaaGreatDoor
