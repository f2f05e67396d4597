/-
  ExOrdT.
-/
import Derived.Shelf.Unicode.DecodeSlow
import Derived.Laws.RangeAny
import Derived.Shelf.Unicode.DecodeAny
import Derived.Test.YtlllkjbbldhddaaDoorProg
import Derived.WalkKit
import Derived.Deep.DeepFit
import Derived.Lib.OthersKept
import Derived.Lib.RuneCountTail
import Derived.Deep.AppendLies
import Derived.Deep.OwnRows
import Derived.Laws.AppendOwnNone
import Derived.Deep.QuietTactic
import Derived.BigQuiet
import Derived.Deep.RegionWith
import Derived.Laws.DeepStrings4
import Derived.Lib.MapLaws
import Derived.Sort.Walk0
import Derived.Lib.QuietBelow
import Derived.StillTail
import Derived.Deep.RegionHeld3
import Derived.Test.YtlllkjbbldhddaaDoorF01
import Derived.Test.YtlllkjbbldhddaaDoorF02
import Derived.Test.YtlllkjbbldhddaaDoorF03
import Derived.Test.YtlllkjbbldhddaaDoorF04
import Derived.Test.YtlllkjbbldhddaaDoorF05
import Derived.Test.YtlllkjbbldhddaaDoorF06
import Derived.Test.YtlllkjbbldhddaaDoorF07
import Derived.Test.YtlllkjbbldhddaaDoorF08
import Derived.Test.YtlllkjbbldhddaaDoorF09
import Derived.Test.YtlllkjbbldhddaaDoorF10
import Derived.Test.YtlllkjbbldhddaaDoorF19
set_option linter.unusedSimpArgs false
set_option linter.unusedVariables false
namespace Go.Proofs.YtlllkjbbldhddaaDoor
open Go.Lib

/-! ### one after another -/
theorem orL_cons (c : Int) (l : List Int) : orL (c :: l) = if c = 0 then orL l else c := rfl

/-- x is a against b, y b against c, z a against c. -/
def Tri (x y z : Int) : Prop := x ≤ 0 → y ≤ 0 → z ≤ 0 ∧ (z = 0 ↔ x = 0 ∧ y = 0)
theorem Tri.lex {c1 c2 c3 d1 d2 d3 : Int} (h : Tri c1 c2 c3) (h' : c1 = 0 → c2 = 0 → Tri d1 d2 d3) : Tri (if c1 = 0 then d1 else c1) (if c2 = 0 then d2 else c2) (if c3 = 0 then d3 else c3) := by
  intro hx hy
  by_cases e1 : c1 = 0
  · by_cases e2 : c2 = 0
    · have e3 : c3 = 0 := ((h (by omega) (by omega)).2).2 ⟨e1, e2⟩
      rw [if_pos e1] at *; rw [if_pos e2] at *; rw [if_pos e3] at *
      exact h' e1 e2 hx hy
    · rw [if_pos e1] at *; rw [if_neg e2] at *
      have := h (by omega) (by omega)
      have e3 : c3 ≠ 0 := fun e => e2 (this.2.1 e).2
      rw [if_neg e3]
      exact ⟨this.1, fun e => absurd e e3, fun e => absurd e.2 e2⟩
  · have hx' : c1 ≤ 0 := by rw [if_neg e1] at hx; exact hx
    have hy' : c2 ≤ 0 := by
      by_cases e2 : c2 = 0
      · omega
      · rw [if_neg e2] at hy; exact hy
    have := h hx' hy'
    have e3 : c3 ≠ 0 := fun e => e1 (this.2.1 e).1
    rw [if_neg e1, if_neg e3]
    exact ⟨this.1, fun e => absurd e e3, fun e => absurd e.1 e1⟩
theorem head_zero {m n : Int} {x y : Nd} (h : headC m n x y = 0) : m = n ∧ x.op = y.op ∧ x.n = y.n ∧ ordI x.name y.name = 0 := by
  unfold headC at h
  simp only [orL_cons] at h
  have h1 : cmp3 m n = 0 := by
    by_cases e : cmp3 m n = 0
    · exact e
    · rw [if_neg e] at h; exact h
  rw [if_pos h1] at h
  have h2 : cmp3 x.op y.op = 0 := by
    by_cases e : cmp3 x.op y.op = 0
    · exact e
    · rw [if_neg e] at h; exact h
  rw [if_pos h2] at h
  have h3 : cmp3 x.n y.n = 0 := by
    by_cases e : cmp3 x.n y.n = 0
    · exact e
    · rw [if_neg e] at h; exact h
  rw [if_pos h3] at h
  have h4 : ordI x.name y.name = 0 := by
    by_cases e : ordI x.name y.name = 0
    · exact e
    · rw [if_neg e] at h; exact h
  exact ⟨(cmp3_zero _ _).1 h1, (cmp3_zero _ _).1 h2, (cmp3_zero _ _).1 h3, h4⟩
theorem head_self (m : Int) (x : Nd) : headC m m x x = 0 := by
  unfold headC; simp [orL, cmp3_self, ord_self]
/-! ### kids -/
theorem ordK_cons (F : Int → Int → Int) (c k m : Int) (ks ms : List Int) : ordK F c (k :: ks) (m :: ms) = if c = 0 then ordK F (F k m) ks ms else c := rfl
theorem ordK_self {F : Int → Int → Int} : ∀ (ks : List Int), (∀ k ∈ ks, F k k = 0) → ordK F 0 ks ks = 0
  | [], _ => by rw [ordK_nil]
  | k :: ks, h => by
    rw [ordK_zero, h k (by simp)]
    exact ordK_self ks fun k' hk => h k' (by simp [hk])
theorem ordK_same {F : Int → Int → Int} {α : Type} {p q : Int → α} : ∀ (ks ms : List Int) (c : Int), ks.length = ms.length → (∀ k ∈ ks, ∀ m ∈ ms, F k m = 0 → p k = q m) → ordK F c ks ms = 0 → c = 0 ∧ ks.map p = ms.map q
  | [], ms, c, hl, _, h => by
    rw [ordK_nil] at h
    have : ms = [] := by cases ms with | nil => rfl | cons _ _ => simp at hl
    rw [this]; exact ⟨h, rfl⟩
  | k :: ks, [], c, hl, _, h => by simp at hl
  | k :: ks, m :: ms, c, hl, hF, h => by
    rw [ordK_cons] at h
    by_cases e : c = 0
    · rw [if_pos e] at h
      have := ordK_same (p := p) (q := q) ks ms _ (by simpa using hl) (fun k' hk m' hm => hF k' (by simp [hk]) m' (by simp [hm])) h
      refine ⟨e, ?_⟩
      rw [List.map_cons, List.map_cons, this.2, hF k (by simp) m (by simp) this.1]
    · rw [if_neg e] at h; exact absurd h e
/-! ### the whole -/
theorem ordF_succ (a : List Nd) (fa : List Nat) (b : List Nd) (fb : List Nat) (f i j : Nat) : ordF a fa b fb (f + 1) i j = ordK (fun p q => ordF a fa b fb f p.toNat q.toNat) (headC (szA fa i) (szA fb j) (a.getD i nd0) (b.getD j nd0)) (a.getD i nd0).kids (b.getD j nd0).kids := rfl

theorem kid_lt {l : List Nd} {fr : List Nat} (h : BegOk l fr) {i : Nat} (hi : i < l.length) {k : Int} (hk : k ∈ (l.getD i nd0).kids) : k.toNat < i ∧ k.toNat < l.length := by
  obtain ⟨c, h0, hc, rfl⟩ := (chain_inv (fr := fr) (P := fun c => c ≤ i) (fun c h0 hc => by have := h.low (c - 1); omega) _ _ _ (Nat.le_refl i) (h.at_ i hi).2).2 k (by simpa using hk)
  omega

theorem ordF_self {a : List Nd} {fa : List Nat} (ha : BegOk a fa) : ∀ (f i : Nat), i < f → i < a.length → ordF a fa a fa f i i = 0 := by
  intro f
  induction f with
  | zero => intro i h; omega
  | succ f ih =>
    intro i hf hi
    rw [ordF_succ, head_self]
    refine ordK_self _ fun k hk => ?_
    have h1 := kid_lt ha hi hk
    exact ih _ (by omega) h1.2
theorem ordF_same {a b : List Nd} {fa fb : List Nat} (ha : BegOk a fa) (hb : BegOk b fb) : ∀ (f i j : Nat), i < f → i < a.length → j < b.length → ordF a fa b fb f i j = 0 → partL a (fa.getD i 0) i = partL b (fb.getD j 0) j := by
  intro f
  induction f with
  | zero => intro i j h; omega
  | succ f ih =>
    intro i j hf hi hj h
    rw [ordF_succ] at h
    have fx := (ha.at_ i hi).1
    have fy := (hb.at_ j hj).1
    have hc : headC (szA fa i) (szA fb j) (a.getD i nd0) (b.getD j nd0) = 0 := by
      by_cases e : headC (szA fa i) (szA fb j) (a.getD i nd0) (b.getD j nd0) = 0
      · exact e
      · rw [ordK_nz _ e] at h; exact h
    obtain ⟨_, h1, h2, h3⟩ := head_zero hc
    have hn := name_eq (form_name fx).1 (form_name fy).1 h3
    have hk := ordK_same (p := kidPart a fa) (q := kidPart b fb) _ _ _ (form_len fx fy h1) (fun k hk m hm h0 => by
      have h1 := kid_lt ha hi hk
      have h2 := kid_lt hb hj hm
      exact ih _ _ (by omega) h1.2 h2.2 h0) h
    rw [part_join ha i hi, part_join hb j hj, h1, h2, hn, hk.2]
/-- Two whole expressions. -/
def ordW (a : List Nd) (fa : List Nat) (b : List Nd) (fb : List Nat) : Int := ordF a fa b fb a.length (a.length - 1) (b.length - 1)
theorem ordW_zero {a b : List Nd} {fa fb : List Nat} (ha : begL a = some fa) (hb : begL b = some fb) : ordW a fa b fb = 0 ↔ a = b := by
  obtain ⟨a0, _, ra, ta⟩ := begL_some ha
  obtain ⟨b0, _, rb, tb⟩ := begL_some hb
  constructor
  · intro h
    have := ordF_same (begOk_of ra) (begOk_of rb) _ _ _ (by omega) (by omega) (by omega) h
    rw [ta, tb] at this
    unfold partL at this
    rw [show a.length - 1 + 1 - 0 = a.length from by omega, show b.length - 1 + 1 - 0 = b.length from by omega] at this
    simpa [map_mvN_zero] using this
  · intro h
    subst h
    rw [ha] at hb
    obtain rfl := Option.some.inj hb
    exact ordF_self (begOk_of ra) _ _ (by omega) (by omega)
end Go.Proofs.YtlllkjbbldhddaaDoor
