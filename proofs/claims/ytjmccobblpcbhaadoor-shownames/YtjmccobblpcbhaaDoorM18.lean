/-
  SlA, ExMakW, JnEq, OutW, CheckW, SpanW.
-/
import Derived.Shelf.Unicode.DecodeSlow
import Derived.Laws.RangeAny
import Derived.Shelf.Strings.Builder1
import Derived.Shelf.Small.Utf8
import Derived.Shelf.Small.Bits
import Derived.Shelf.Strings.BuilderF
import Derived.Shelf.Strings.BuilderK
import Derived.Shelf.Strings.BuilderRune
import Derived.Shelf.Utf8.AppendRune
import Derived.Shelf.Strconv.Itoa0
import Derived.Shelf.Strconv.Itoa1
import Derived.Shelf.LaysM
import Derived.Shelf.Strconv.Itoa2
import Derived.Shelf.Strconv.Itoa3
import Derived.Shelf.Strconv.Itoa4
import Derived.Shelf.Strings.Prefix
import Derived.Shelf.Unicode.DecodeAny
import Derived.Test.YtjmccobblpcbhaaDoorProg
import Derived.WalkKit
import Derived.Deep.DeepFit
import Derived.Lib.OthersKept
import Derived.Lib.RuneCountTail
import Derived.Lib.MapLaws
import Derived.Sort.Walk0
import Derived.Laws.DeepStrings4
import Derived.Lib.ItoaNum
import Derived.Deep.AppendLies
import Derived.Deep.OwnRows
import Derived.Laws.AppendOwnNone
import Derived.Deep.QuietTactic
import Derived.BigQuiet
import Derived.Deep.RegionWith
import Derived.Below
import Derived.Lib.Small
import Derived.Lib.Strings
import Derived.Test.YtjmccobblpcbhaaDoorM01
import Derived.Test.YtjmccobblpcbhaaDoorM02
import Derived.Test.YtjmccobblpcbhaaDoorM03
import Derived.Test.YtjmccobblpcbhaaDoorM04
import Derived.Test.YtjmccobblpcbhaaDoorM05
import Derived.Test.YtjmccobblpcbhaaDoorM06
import Derived.Test.YtjmccobblpcbhaaDoorM07
import Derived.Test.YtjmccobblpcbhaaDoorM08
import Derived.Test.YtjmccobblpcbhaaDoorM09
import Derived.Test.YtjmccobblpcbhaaDoorM15
import Derived.Test.YtjmccobblpcbhaaDoorM16
import Derived.Test.YtjmccobblpcbhaaDoorM17
set_option linter.unusedSimpArgs false
set_option linter.unusedVariables false
namespace Go.Proofs.YtjmccobblpcbhaaDoor
open Go.RowKit Go.Lib

section
variable (g : Int → Nat → Nd → Nat) (h : Nd → Nat)
def kw (told : List (Nd × Nat)) (op : Int) : Nat → List Int → Nat
  | _, [] => 0
  | j, k :: ks => (told.getD k.toNat (nd0, 0)).2 + g op j (told.getD k.toNat (nd0, 0)).1 + kw told op (j + 1) ks
def wS (told : List (Nd × Nat)) (x : Nd) : List (Nd × Nat) := told ++ [(x, h x + kw g told x.op 0 x.kids)]
def wL (l : List Nd) : List (Nd × Nat) := l.foldl (wS g h) []
def wt (l : List Nd) (i : Nat) : Nat := ((wL g h l).getD i (nd0, 0)).2
theorem wfold_len : ∀ (l : List Nd) (t : List (Nd × Nat)), (l.foldl (wS g h) t).length = t.length + l.length
  | [], t => by simp
  | x :: l, t => by simp [wfold_len l, wS]; omega
theorem wL_len (l : List Nd) : (wL g h l).length = l.length := by simp [wL, wfold_len]
theorem wfold_pre : ∀ (m : List Nd) (t : List (Nd × Nat)), ∃ r, m.foldl (wS g h) t = t ++ r
  | [], t => ⟨[], by simp⟩
  | x :: m, t => by
    obtain ⟨r, hr⟩ := wfold_pre m (wS g h t x)
    exact ⟨[(x, h x + kw g t x.op 0 x.kids)] ++ r, by rw [List.foldl_cons, hr]; simp [wS]⟩
theorem wL_app (a r : List Nd) : ∃ t, wL g h (a ++ r) = wL g h a ++ t := by
  unfold wL
  rw [List.foldl_append]
  exact wfold_pre g h r _
theorem wL_get (a r : List Nd) (i : Nat) (hi : i < a.length) : (wL g h (a ++ r)).getD i (nd0, 0) = (wL g h a).getD i (nd0, 0) := by
  obtain ⟨t, ht⟩ := wL_app g h a r
  rw [ht]
  have : i < (wL g h a).length := by rw [wL_len]; exact hi
  simp [List.getElem?_append_left this]
theorem wt_app (a r : List Nd) (i : Nat) (hi : i < a.length) : wt g h (a ++ r) i = wt g h a i := by
  unfold wt; rw [wL_get g h a r i hi]
theorem wL_snoc (a : List Nd) (x : Nd) : wL g h (a ++ [x]) = wL g h a ++ [(x, h x + kw g (wL g h a) x.op 0 x.kids)] := by
  unfold wL; rw [List.foldl_append]; rfl
theorem wL_fst (l : List Nd) (i : Nat) (hi : i < l.length) : ((wL g h l).getD i (nd0, 0)).1 = l.getD i nd0 := by
  have e : l = l.take i ++ [l.getD i nd0] ++ l.drop (i + 1) := by
    have e1 : l.getD i nd0 = l[i] := by simp [hi]
    rw [e1, ← List.take_succ_eq_append_getElem hi, List.take_append_drop]
  have hz : (l.take i).length = i := by simp; omega
  have e2 : (wL g h l).getD i (nd0, 0) = (wL g h (l.take i ++ [l.getD i nd0])).getD i (nd0, 0) := by
    conv => lhs; rw [e]
    rw [wL_get g h _ _ i (by simp; omega)]
  rw [e2, wL_snoc]
  have hw : (wL g h (l.take i)).length = i := by rw [wL_len]; exact hz
  simp [List.getElem?_append_right, hw]
/-- The kids' share, by the list. -/
def ks (l : List Nd) (op : Int) : Nat → List Int → Nat
  | _, [] => 0
  | j, k :: r => wt g h l k.toNat + g op j (l.getD k.toNat nd0) + ks l op (j + 1) r
theorem kw_ks (l : List Nd) (op : Int) (n : Nat) (hn : n ≤ l.length) : ∀ (r : List Int) (j : Nat), (∀ k ∈ r, 0 ≤ k ∧ k < (n : Int)) → kw g (wL g h (l.take n)) op j r = ks g h l op j r
  | [], _, _ => rfl
  | k :: r, j, hk => by
    obtain ⟨h0, h1⟩ := hk k (by simp)
    have hkn : k.toNat < (l.take n).length := by simp; omega
    have e1 : (wL g h l).getD k.toNat (nd0, 0) = (wL g h (l.take n)).getD k.toNat (nd0, 0) := by
      conv => lhs; rw [← List.take_append_drop n l]
      exact wL_get g h _ _ _ hkn
    have e2 := wL_fst g h l k.toNat (by omega)
    unfold kw ks wt
    rw [← e1, e2, kw_ks l op n hn r (j + 1) (fun x hx => hk x (by simp [hx]))]
theorem wt_eq (l : List Nd) (i : Nat) (hi : i < l.length) (hk : ∀ k ∈ (l.getD i nd0).kids, 0 ≤ k ∧ k < (i : Int)) : wt g h l i = h (l.getD i nd0) + ks g h l (l.getD i nd0).op 0 (l.getD i nd0).kids := by
  have e : l = l.take i ++ [l.getD i nd0] ++ l.drop (i + 1) := by
    have e1 : l.getD i nd0 = l[i] := by simp [hi]
    rw [e1, ← List.take_succ_eq_append_getElem hi, List.take_append_drop]
  have hz : (l.take i).length = i := by simp; omega
  have e2 : wt g h l i = wt g h (l.take i ++ [l.getD i nd0]) i := by
    conv => lhs; rw [e]
    rw [wt_app g h _ _ i (by simp; omega)]
  rw [e2]
  unfold wt
  rw [wL_snoc]
  have hw : (wL g h (l.take i)).length = i := by rw [wL_len]; exact hz
  rw [← kw_ks g h l _ i (by omega) _ 0 hk]
  simp [List.getElem?_append_right, hw]
end

/-! ### joined lists -/
theorem kidsLo_one (x : Nd) (hx : x.kids = []) : KidsLo [x] := fun j hj k hk => by
  have : j = 0 := by simpa using hj
  subst this
  simp [hx] at hk
theorem getD_app1 (a r : List Nd) (i : Nat) (hi : i < a.length) : (a ++ r).getD i nd0 = a.getD i nd0 := by simp [List.getElem?_append_left hi]
theorem getD_app2 (a r : List Nd) (i : Nat) : (a ++ r).getD (a.length + i) nd0 = r.getD i nd0 := by simp [List.getElem?_append_right]
theorem getD_shN (b : List Nd) (d i : Nat) (hi : i < b.length) : (b.map (shN d)).getD i nd0 = shN d (b.getD i nd0) := by simp [hi]
/-- A list and behind it another one, its kids moved. -/
theorem KidsLo.app {a b : List Nd} (ha : KidsLo a) (hb : KidsLo b) : KidsLo (a ++ b.map (shN a.length)) := fun j hj k hk => by
  rcases Nat.lt_or_ge j a.length with h | h
  · rw [getD_app1 _ _ _ h] at hk; exact ha j h k hk
  · obtain ⟨i, rfl⟩ : ∃ i, j = a.length + i := ⟨j - a.length, by omega⟩
    have hi : i < b.length := by simp at hj; exact hj
    rw [getD_app2, getD_shN _ _ _ hi] at hk
    unfold shN at hk
    simp only [List.mem_map] at hk
    obtain ⟨k', hk', rfl⟩ := hk
    have := hb i hi k' hk'
    omega
theorem KidsLo.snoc {a : List Nd} (ha : KidsLo a) {x : Nd} (hx : ∀ k ∈ x.kids, 0 ≤ k ∧ k < (a.length : Int)) : KidsLo (a ++ [x]) := fun j hj k hk => by
  rcases Nat.lt_or_ge j a.length with h | h
  · rw [getD_app1 _ _ _ h] at hk; exact ha j h k hk
  · have e : j = a.length + 0 := by simp at hj; omega
    rw [e, getD_app2] at hk
    have := hx k (by simpa using hk)
    omega
section
variable (g : Int → Nat → Nd → Nat) (h : Nd → Nat) (hg : ∀ op j d x, g op j (shN d x) = g op j x) (hh : ∀ d x, h (shN d x) = h x)
include hg hh
theorem wt_shift {a b : List Nd} (ha : KidsLo a) (hb : KidsLo b) : ∀ i, i < b.length → wt g h (a ++ b.map (shN a.length)) (a.length + i) = wt g h b i := by
  intro i
  induction i using Nat.strongRecOn with
  | ind i IH =>
    intro hi
    have hl := ha.app hb
    have hz : a.length + i < (a ++ b.map (shN a.length)).length := by simp; omega
    have hkl := hl (a.length + i) hz
    rw [wt_eq g h _ _ hz hkl, wt_eq g h b i hi (hb i hi)]
    rw [getD_app2, getD_shN _ _ _ hi]
    have hk := hb i hi
    generalize b.getD i nd0 = x at *
    have key : ∀ (r : List Int) (j : Nat), (∀ k ∈ r, 0 ≤ k ∧ k < (i : Int)) → ks g h (a ++ b.map (shN a.length)) x.op j (r.map (· + (a.length : Int))) = ks g h b x.op j r := by
      intro r
      induction r with
      | nil => intro j _; rfl
      | cons k r ih =>
        intro j hr
        obtain ⟨h0, h1⟩ := hr k (by simp)
        have e : (k + (a.length : Int)).toNat = a.length + k.toNat := by omega
        show wt g h _ (k + (a.length : Int)).toNat + g x.op j ((a ++ b.map (shN a.length)).getD (k + (a.length : Int)).toNat nd0) + ks g h _ x.op (j + 1) (r.map (· + (a.length : Int))) = wt g h b k.toNat + g x.op j (b.getD k.toNat nd0) + ks g h b x.op (j + 1) r
        rw [e, IH k.toNat (by omega) (by omega), getD_app2, getD_shN _ _ _ (by omega), hg, ih (j + 1) (fun y hy => hr y (by simp [hy]))]
    have e1 : h (shN a.length x) = h x := hh _ _
    have e2 : (shN a.length x).op = x.op := rfl
    have e3 : (shN a.length x).kids = x.kids.map (· + (a.length : Int)) := rfl
    rw [e1, e2, e3, key x.kids 0 hk]
omit hg hh in
theorem wt_one (x : Nd) (hx : x.kids = []) : wt g h [x] 0 = h x := by
  rw [wt_eq g h [x] 0 (by simp) (by simp [hx])]
  simp [hx, ks]
/-- The whole's weight. -/
def wA (l : List Nd) : Nat := wt g h l (l.length - 1)
omit hg hh in
theorem wA_jn1 {op : Int} {a : List Nd} (ha : KidsLo a) (h0 : a ≠ []) : KidsLo (jn1 op a) ∧ wA g h (jn1 op a) = h ⟨op, 0, ⟨#[]⟩, [((a.length - 1 : Nat) : Int)]⟩ + (wA g h a + g op 0 (a.getD (a.length - 1) nd0)) := by
  have hp : 0 < a.length := List.length_pos_iff.2 h0
  have hl : KidsLo (jn1 op a) := ha.snoc (by simp; omega)
  refine ⟨hl, ?_⟩
  have hz : (jn1 op a).length - 1 = a.length := by unfold jn1; simp
  unfold wA
  rw [hz]
  have e : (jn1 op a).getD a.length nd0 = ⟨op, 0, ⟨#[]⟩, [((a.length - 1 : Nat) : Int)]⟩ := by unfold jn1; simp
  rw [wt_eq g h _ _ (by unfold jn1; simp) (hl a.length (by unfold jn1; simp)), e]
  simp only [ks, Int.toNat_natCast, Nat.add_zero, Nat.zero_add, Nat.reduceAdd]
  unfold jn1
  rw [wt_app g h _ _ _ (by omega), getD_app1 _ _ _ (by omega)]
theorem wA_jn2 {op : Int} {a b : List Nd} (ha : KidsLo a) (hb : KidsLo b) (h0 : a ≠ []) (h1 : b ≠ []) : KidsLo (jn2 op a b) ∧ wA g h (jn2 op a b) = h ⟨op, 0, ⟨#[]⟩, [((a.length - 1 : Nat) : Int), ((a.length + b.length - 1 : Nat) : Int)]⟩ + (wA g h a + g op 0 (a.getD (a.length - 1) nd0)) + (wA g h b + g op 1 (b.getD (b.length - 1) nd0)) := by
  have hp : 0 < a.length := List.length_pos_iff.2 h0
  have hq : 0 < b.length := List.length_pos_iff.2 h1
  have hab := ha.app hb
  have hz0 : (a ++ b.map (shN a.length)).length = a.length + b.length := by simp
  have hl : KidsLo (jn2 op a b) := hab.snoc (by rw [hz0]; simp; omega)
  refine ⟨hl, ?_⟩
  have hz : (jn2 op a b).length - 1 = a.length + b.length := by unfold jn2; simp
  have hlt : a.length + b.length < (jn2 op a b).length := by unfold jn2; simp
  unfold wA
  rw [hz]
  have e : (jn2 op a b).getD (a.length + b.length) nd0 = ⟨op, 0, ⟨#[]⟩, [((a.length - 1 : Nat) : Int), ((a.length + b.length - 1 : Nat) : Int)]⟩ := by
    unfold jn2
    rw [← hz0, show ∀ (p r : List Nd), (p ++ r).getD p.length nd0 = r.getD 0 nd0 from fun p r => by simpa using getD_app2 p r 0]
    simp
  rw [wt_eq g h _ _ hlt (hl _ hlt), e]
  simp only [ks, Int.toNat_natCast, Nat.add_zero, Nat.zero_add, Nat.reduceAdd]
  have eb : a.length + b.length - 1 = a.length + (b.length - 1) := by omega
  have w1 : wt g h (jn2 op a b) (a.length - 1) = wt g h a (a.length - 1) := by
    unfold jn2
    rw [wt_app g h _ _ _ (by omega), wt_app g h _ _ _ (by omega)]
  have w2 : wt g h (jn2 op a b) (a.length + b.length - 1) = wt g h b (b.length - 1) := by
    unfold jn2
    rw [wt_app g h _ _ _ (by omega), eb, wt_shift g h hg hh ha hb _ (by omega)]
  have g1 : (jn2 op a b).getD (a.length - 1) nd0 = a.getD (a.length - 1) nd0 := by
    unfold jn2
    rw [getD_app1 _ _ _ (by omega), getD_app1 _ _ _ (by omega)]
  have g2 : (jn2 op a b).getD (a.length + b.length - 1) nd0 = shN a.length (b.getD (b.length - 1) nd0) := by
    unfold jn2
    rw [getD_app1 _ _ _ (by omega), eb, getD_app2, getD_shN _ _ _ (by omega)]
  rw [w1, w2, g1, g2, hg]
  omega
theorem wA_jn3 {op : Int} {a b c : List Nd} (ha : KidsLo a) (hb : KidsLo b) (hc : KidsLo c) (h0 : a ≠ []) (h1 : b ≠ []) (h2 : c ≠ []) : KidsLo (jn3 op a b c) ∧ wA g h (jn3 op a b c) = h ⟨op, 0, ⟨#[]⟩, [((a.length - 1 : Nat) : Int), ((a.length + b.length - 1 : Nat) : Int), ((a.length + b.length + c.length - 1 : Nat) : Int)]⟩ + (wA g h a + g op 0 (a.getD (a.length - 1) nd0)) + (wA g h b + g op 1 (b.getD (b.length - 1) nd0)) + (wA g h c + g op 2 (c.getD (c.length - 1) nd0)) := by
  have hp : 0 < a.length := List.length_pos_iff.2 h0
  have hq : 0 < b.length := List.length_pos_iff.2 h1
  have hr : 0 < c.length := List.length_pos_iff.2 h2
  have hab := ha.app hb
  have hz0 : (a ++ b.map (shN a.length)).length = a.length + b.length := by simp
  have habc := hab.app hc
  rw [hz0] at habc
  have hz1 : (a ++ b.map (shN a.length) ++ c.map (shN (a.length + b.length))).length = a.length + b.length + c.length := by simp; omega
  have hl : KidsLo (jn3 op a b c) := habc.snoc (by rw [hz1]; simp; omega)
  refine ⟨hl, ?_⟩
  have hz : (jn3 op a b c).length - 1 = a.length + b.length + c.length := by unfold jn3; simp; omega
  have hlt : a.length + b.length + c.length < (jn3 op a b c).length := by unfold jn3; simp; omega
  unfold wA
  rw [hz]
  have e : (jn3 op a b c).getD (a.length + b.length + c.length) nd0 = ⟨op, 0, ⟨#[]⟩, [((a.length - 1 : Nat) : Int), ((a.length + b.length - 1 : Nat) : Int), ((a.length + b.length + c.length - 1 : Nat) : Int)]⟩ := by
    unfold jn3
    rw [← hz1, show ∀ (p r : List Nd), (p ++ r).getD p.length nd0 = r.getD 0 nd0 from fun p r => by simpa using getD_app2 p r 0]
    simp
  rw [wt_eq g h _ _ hlt (hl _ hlt), e]
  simp only [ks, Int.toNat_natCast, Nat.add_zero, Nat.zero_add, Nat.reduceAdd]
  have eb : a.length + b.length - 1 = a.length + (b.length - 1) := by omega
  have ec : a.length + b.length + c.length - 1 = (a ++ b.map (shN a.length)).length + (c.length - 1) := by rw [hz0]; omega
  have w1 : wt g h (jn3 op a b c) (a.length - 1) = wt g h a (a.length - 1) := by
    unfold jn3
    rw [wt_app g h _ _ _ (by simp; omega), wt_app g h _ _ _ (by simp; omega), wt_app g h _ _ _ (by omega)]
  have w2 : wt g h (jn3 op a b c) (a.length + b.length - 1) = wt g h b (b.length - 1) := by
    unfold jn3
    rw [wt_app g h _ _ _ (by simp; omega), wt_app g h _ _ _ (by simp; omega), eb, wt_shift g h hg hh ha hb _ (by omega)]
  have w3 : wt g h (jn3 op a b c) (a.length + b.length + c.length - 1) = wt g h c (c.length - 1) := by
    unfold jn3
    rw [wt_app g h _ _ _ (by simp; omega), ec, ← hz0, wt_shift g h hg hh hab hc _ (by omega)]
  have g1 : (jn3 op a b c).getD (a.length - 1) nd0 = a.getD (a.length - 1) nd0 := by
    unfold jn3
    rw [getD_app1 _ _ _ (by simp; omega), getD_app1 _ _ _ (by simp; omega), getD_app1 _ _ _ (by omega)]
  have g2 : (jn3 op a b c).getD (a.length + b.length - 1) nd0 = shN a.length (b.getD (b.length - 1) nd0) := by
    unfold jn3
    rw [getD_app1 _ _ _ (by simp; omega), getD_app1 _ _ _ (by simp; omega), eb, getD_app2, getD_shN _ _ _ (by omega)]
  have g3 : (jn3 op a b c).getD (a.length + b.length + c.length - 1) nd0 = shN (a.length + b.length) (c.getD (c.length - 1) nd0) := by
    unfold jn3
    rw [getD_app1 _ _ _ (by simp; omega), ec, getD_app2, getD_shN _ _ _ (by omega)]
  rw [w1, w2, w3, g1, g2, g3, hg, hg]
  omega
end
end Go.Proofs.YtjmccobblpcbhaaDoor

set_option linter.unusedSimpArgs false
set_option linter.unusedVariables false
namespace Go.Proofs.YtjmccobblpcbhaaDoor
open Go.RowKit Go.Lib

/-- Parts behind one another, and the places of their own nodes. -/
def accS (ps : List (List Nd)) : List Nd × List Int := ps.foldl (fun s p => (s.1 ++ p.map (mvN 0 s.1.length), s.2 ++ [((s.1.length + p.length : Nat) : Int) - 1])) ([], [])
theorem accS_snoc (ps : List (List Nd)) (p : List Nd) : accS (ps ++ [p]) = ((accS ps).1 ++ p.map (mvN 0 (accS ps).1.length), (accS ps).2 ++ [(((accS ps).1.length + p.length : Nat) : Int) - 1]) := by
  unfold accS; rw [List.foldl_append]; rfl
def joinL (op n : Int) (nm : ByteArray) (ps : List (List Nd)) : List Nd := (accS ps).1 ++ [⟨op, n, nm, (accS ps).2⟩]

theorem OwnP.form {w : World} {base : Nat} {v : Value} {p : List (Nd × Value)} (h : OwnP w base v p) : ∃ ao cap, v = .slice ao p.length cap := by
  obtain ⟨_, h2⟩ := h.row
  rcases h2 with ⟨rfl, h0⟩ | ⟨g, cap, cur, rfl, _⟩
  · exact ⟨none, 0, by rw [h0]⟩
  · exact ⟨_, cap, rfl⟩
end Go.Proofs.YtjmccobblpcbhaaDoor

set_option linter.unusedSimpArgs false
set_option linter.unusedVariables false
namespace Go.Proofs.YtjmccobblpcbhaaDoor
open Go.RowKit Go.Lib

def KidsUp (l : List Nd) : Prop := ∀ x ∈ l, ∀ k ∈ x.kids, 0 ≤ k
theorem mv_sh {d : Nat} {x : Nd} (h : ∀ k ∈ x.kids, 0 ≤ k) : mvN 0 d x = shN d x := by
  unfold mvN shN
  congr 1
  refine List.map_congr_left fun k hk => ?_
  have := h k hk
  unfold mvK
  split <;> omega
theorem mv_shs {d : Nat} {l : List Nd} (h : KidsUp l) : l.map (mvN 0 d) = l.map (shN d) := List.map_congr_left fun x hx => mv_sh (h x hx)
theorem join1 (op : Int) {a : List Nd} (ka : KidsUp a) (na : a ≠ []) : joinL op 0 ⟨#[]⟩ [a] = jn1 op a := by
  have := List.length_pos_iff.2 na
  have e0 : a.map (mvN 0 0) = a := by
    have := mv_shs (d := 0) ka
    rw [shN_zero] at this
    exact this
  unfold joinL accS jn1
  simp [e0]
  omega
theorem join2 (op : Int) {a b : List Nd} (ka : KidsUp a) (kb : KidsUp b) (na : a ≠ []) (nb : b ≠ []) : joinL op 0 ⟨#[]⟩ [a, b] = jn2 op a b := by
  have := List.length_pos_iff.2 na
  have := List.length_pos_iff.2 nb
  have e0 : a.map (mvN 0 0) = a := by
    have := mv_shs (d := 0) ka
    rw [shN_zero] at this
    exact this
  have e1 := mv_shs (d := a.length) kb
  unfold joinL accS jn2
  simp [e0, e1]
  omega
theorem join3 (op : Int) {a b c : List Nd} (ka : KidsUp a) (kb : KidsUp b) (kc : KidsUp c) (na : a ≠ []) (nb : b ≠ []) (nc : c ≠ []) : joinL op 0 ⟨#[]⟩ [a, b, c] = jn3 op a b c := by
  have := List.length_pos_iff.2 na
  have := List.length_pos_iff.2 nb
  have := List.length_pos_iff.2 nc
  have e0 : a.map (mvN 0 0) = a := by
    have := mv_shs (d := 0) ka
    rw [shN_zero] at this
    exact this
  have e1 := mv_shs (d := a.length) kb
  have e2 := mv_shs (d := a.length + b.length) kc
  rw [Int.natCast_add] at e2
  unfold joinL accS jn3
  simp [e0, e1, e2]
  omega
end Go.Proofs.YtjmccobblpcbhaaDoor

set_option linter.unusedSimpArgs false
set_option linter.unusedVariables false
namespace Go.Proofs.YtjmccobblpcbhaaDoor
open Go.RowKit Go.Lib

theorem ret2 {k l : IntKind} {a b c d : Int} (h : a = c) (h' : b = d) : Ending.returned (.tuple #[.int k a, .int l b]) = .returned (.tuple #[.int k c, .int l d]) := by rw [h, h']
theorem ret3 {k l m : IntKind} {a b c d x y : Int} (h : a = c) (h' : b = d) (h2 : x = y) : Ending.returned (.tuple #[.int k a, .int l b, .int m x]) = .returned (.tuple #[.int k c, .int l d, .int m y]) := by rw [h, h', h2]

theorem outside_any (s : ByteArray) (at_ : Int) (w : World) :
    Calls Tryd.prog 167 #[.string s, .int .i64 at_] w fun e w' => e = .returned (.bool (decide (at_ < 0 ∨ (s.size : Int) < at_))) ∧ w' = w := by
  by_cases h1 : at_ < 0
  · go_enter Tryd.func167, Tryd.ntmps167
    go_wp2
    go_ret
    exact ⟨ret_bool (by simp [h1]), rfl⟩
  · go_enter Tryd.func167, Tryd.ntmps167
    go_wp2
    go_ret
    exact ⟨ret_bool (by simp; omega), rfl⟩
end Go.Proofs.YtjmccobblpcbhaaDoor

set_option linter.unusedSimpArgs false
set_option linter.unusedVariables false
namespace Go.Proofs.YtjmccobblpcbhaaDoor
open Go.RowKit Go.Lib

/-! ### Check -/
set_option maxHeartbeats 1000000 in
theorem utfCheck_any (s : ByteArray) (w : World) (hT : Tabs w) :
    Calls Tryd.prog 122 #[.string s] w fun e w' => e = .returned (.tuple #[.int .i64 (chk s).1, .int .i64 (chk s).2]) ∧ Below w.heap.size w w' := by
  go_enter Tryd.func122, Tryd.ntmps122
  go_wp2
  go_loopw [4] (fun _ w' => ∃ (pos f : Nat), It w s pos w' ∧ Hid (chkF s f pos = chk s) ∧ s.size ≤ pos + f) (fun _ w' => s.size - w'.iterPos w.heap.size)
  case atStart => exact ⟨0, s.size, It.start w s, rfl, by omega⟩
  case round =>
    obtain ⟨pos, f, hI, HN, hf⟩ := hrel
    have hm := hI.pos
    by_cases hp : pos < s.size
    · have hnx : ∀ ty, (Instr.next (.pointer (some ⟨w.heap.size, 0, none⟩)) true ty).run Tryd.prog wr = _ := fun ty => run_next_any_at wr w.heap.size s pos ty hI.at_ hp
      obtain ⟨f, rfl⟩ : ∃ g, f = g + 1 := ⟨f - 1, by omega⟩
      have hw := width_pos s pos hp
      have hpz : (pos : Int) ≤ (s.size : Int) := by omega
      have HB : Hid (bad s pos = ((Utf8.decode s pos).1 == 65533 && (Utf8.decode s pos).2 == 1)) := rfl
      have cW : Hid (∀ W, Tabs W → Calls Tryd.prog 81 #[.string (s.extract pos s.size)] W fun e w' => e = .returned (.int .i64 (Utf8.decode s pos).2) ∧ Below W.heap.size W w') := fun W h => by
        have := width_any (s.extract pos s.size) W h
        rw [decGo_tail s pos hp] at this
        exact this
      have hI1 := hI.next (pos + (Utf8.decode s pos).2)
      have hT1 := hI1.tabs hT
      have HX := chkF_bad s f pos hp
      have HY := chkF_good s f pos hp
      have hx : Hid (bad s pos = true → chkF s (f + 1) pos = (pos, 4)) := HX
      have hy : Hid (bad s pos = false → chkF s (f + 1) pos = chkF s f (pos + (Utf8.decode s pos).2)) := HY
      clear HX HY
      have hr1 : ((Utf8.decode s pos).1 == 65533) = (((Utf8.decode s pos).1 : Int) == 65533) := by
        rw [Bool.eq_iff_iff]; simp; omega
      have hr2 : ((Utf8.decode s pos).2 == 1) = (((Utf8.decode s pos).2 : Int) == 1) := by
        rw [Bool.eq_iff_iff]; simp; omega
      rw [hr1, hr2] at HB
      clear hr1 hr2
      generalize (Utf8.decode s pos).2 = v at *
      generalize ((Utf8.decode s pos).1 : Int) = r at *
      cases h1 : (r == 65533)
      · have hb : bad s pos = false := by rw [HB.out, h1]; rfl
        go_wp2
        exact ⟨⟨pos + v, f, hI1, (hy.out hb).symm.trans HN.out, by omega⟩, by rw [hI1.pos, hm]; omega⟩
      · cases h2 : ((v : Int) == 1)
        · have hb : bad s pos = false := by rw [HB.out, h1, h2]; rfl
          go_wp2_with (go_at_call 81; refine (cW.out _ hT1).mono ?_; rintro e w2 ⟨rfl, hb2⟩)
          have hI2 := hI1.call hb2
          exact ⟨⟨pos + v, f, hI2, (hy.out hb).symm.trans HN.out, by omega⟩, by rw [hI2.pos, hm]; omega⟩
        · have hb : bad s pos = true := by rw [HB.out, h1, h2]; rfl
          go_wp2_with (go_at_call 81; refine (cW.out _ hT1).mono ?_; rintro e w2 ⟨rfl, hb2⟩)
          go_ret2
          have hc : chk s = (pos, 4) := HN.out.symm.trans (hx.out hb)
          exact ⟨ret2 (by rw [hc]) (by rw [hc]), (hI1.call hb2).below⟩
    · have hnx : ∀ ty, (Instr.next (.pointer (some ⟨w.heap.size, 0, none⟩)) true ty).run Tryd.prog wr = _ := fun ty => run_next_end_at wr w.heap.size s pos ty hI.at_ hp
      go_wp2
      go_ret2
      have hc : chk s = (0, 0) := HN.out.symm.trans (chkF_end s f pos hp)
      exact ⟨ret2 (by rw [hc]; rfl) (by rw [hc]), hI.below⟩

end Go.Proofs.YtjmccobblpcbhaaDoor

set_option linter.unusedSimpArgs false
set_option linter.unusedVariables false
namespace Go.Proofs.YtjmccobblpcbhaaDoor
open Go.RowKit Go.Lib

theorem kdFirst (s : ByteArray) (pos : Nat) (h : pos ≤ s.size) : kd ((decodeGo (s.extract pos s.size)).1 : Int) = kd (rn s pos) := by
  by_cases hp : pos < s.size
  · rw [decGo_tail s pos hp, kd_rn s pos hp]
  · have h0 : (s.extract pos s.size).size = 0 := by rw [tail_size]; omega
    simp only [decodeGo, h0, if_true, rn, hp, if_false]
    decide

set_option maxHeartbeats 1000000 in
theorem span_out (s : ByteArray) (at_ : Int) (w : World) (h : at_ < 0 ∨ (s.size : Int) < at_) :
    Calls Tryd.prog 152 #[.string s, .int .i64 at_] w fun e w' => e = .returned (.tuple #[.int .i64 0, .int .i64 2]) ∧ Below w.heap.size w w' := by
  have hd : decide (at_ < 0 ∨ (s.size : Int) < at_) = true := by simpa using h
  have c1 : Hid (∀ W, Calls Tryd.prog 167 #[.string s, .int .i64 at_] W fun e w' => e = .returned (.bool true) ∧ w' = W) := fun W => by
    have := outside_any s at_ W; rw [hd] at this; exact this
  clear hd h
  go_enter Tryd.func152, Tryd.ntmps152
  go_wp2_with (go_at_call 167; refine (c1.out _).mono ?_; rintro e w2 ⟨rfl, hw⟩; obtain rfl := hw.symm)
  go_ret2
  exact ⟨rfl, Below.refl _ _⟩

set_option maxHeartbeats 1000000 in
theorem span_in (s : ByteArray) (pos : Nat) (w : World) (hT : Tabs w) (h : pos ≤ s.size) (hs : s.size ≤ maxLen) :
    Calls Tryd.prog 152 #[.string s, .int .i64 pos] w fun e w' => e = .returned (.tuple #[.int .i64 (spanP s pos).1, .int .i64 (spanP s pos).2]) ∧ Below w.heap.size w w' := by
  unfold maxLen at hs
  have hd : decide ((pos : Int) < 0 ∨ (s.size : Int) < pos) = false := by simp; omega
  have c1 : Hid (∀ W, Calls Tryd.prog 167 #[.string s, .int .i64 pos] W fun e w' => e = .returned (.bool false) ∧ w' = W) := fun W => by
    have := outside_any s pos W; rw [hd] at this; exact this
  clear hd
  have c2 : Hid (∀ W, Tabs W → Calls Tryd.prog 80 #[.string (s.extract pos s.size)] W fun e w' => e = .returned (.int .i32 (decodeGo (s.extract pos s.size)).1) ∧ Below W.heap.size W w') := first_any _
  have hk := kdFirst s pos h
  generalize ((decodeGo (s.extract pos s.size)).1 : Int) = r at *
  have hpz : (pos : Int) ≤ (s.size : Int) := by omega
  have c3 : Hid (∀ W, SpanCells W → Calls Tryd.prog 104 #[.int .i32 r] W fun e w' => e = .returned (.int .i64 (kd r)) ∧ Below W.heap.size W w') := kind_any r
  by_cases h1 : kd r = 1
  · rw [h1] at hk c3
    have hv : spanP s pos = (((spF s s.size pos : Nat) : Int), 0) := by simp [spanP, ← hk]
    rw [hv]
    clear hv hk h1
    have hSz := tail_size s pos
    have hD := dec_tail s pos
    have HD : Hid (∀ i, Utf8.decode (s.extract pos s.size) i = Utf8.decode s (pos + i)) := hD
    clear hD
    go_enter Tryd.func152, Tryd.ntmps152
    go_wp2_with (first | (go_at_call 167; refine (c1.out _).mono ?_; rintro e w2 ⟨rfl, hw⟩; obtain rfl := hw.symm) | (go_at_call 80; refine (c2.out _ hT).mono ?_; rintro e w3 ⟨rfl, hb3⟩; have hT3 := hT.below hb3) | (go_at_call 104; refine (c3.out _ hT3.spans).mono ?_; rintro e w4 ⟨rfl, hb4⟩; have hT4 := hT3.below hb4))
    clear c1 c2 c3
    have hB4 : Below w.heap.size w w4 := hb3.trans (hb4.mono hb3.size)
    generalize s.extract pos s.size = S at *
    go_loopw [6] (fun _ w' => ∃ (q f : Nat), It w4 S q w' ∧ Hid (spF s f (pos + q) = spF s s.size pos) ∧ s.size ≤ pos + q + f ∧ q ≤ S.size) (fun _ w' => S.size - w'.iterPos w4.heap.size)
    case atStart => exact ⟨0, s.size, It.start w4 S, rfl, by omega, by omega⟩
    case round =>
      obtain ⟨q, f, hI, HN, hf, hqS⟩ := hrel
      have hm := hI.pos
      have z4 := hB4.size
      by_cases hp : q < S.size
      · have hps : pos + q < s.size := by omega
        have hnx : ∀ ty, (Instr.next (.pointer (some ⟨w4.heap.size, 0, none⟩)) true ty).run Tryd.prog wr = _ := fun ty => run_next_any_at wr w4.heap.size S q ty hI.at_ hp
        rw [HD.out q] at hnx
        obtain ⟨f, rfl⟩ : ∃ g, f = g + 1 := ⟨f - 1, by omega⟩
        have hw := width_pos s (pos + q) hps
        have hw2 := dec_le s (pos + q) hps
        have hx : Hid (onB (Utf8.decode s (pos + q)).1 = true → spF s (f + 1) (pos + q) = spF s f (pos + q + (Utf8.decode s (pos + q)).2)) := spF_on s f (pos + q) hps
        have hy : Hid (onB (Utf8.decode s (pos + q)).1 = false → spF s (f + 1) (pos + q) = pos + q) := spF_off s (f + 1) (pos + q) hps
        have hI1 := hI.next (q + (Utf8.decode s (pos + q)).2)
        have hT1 := (hI1.tabs hT4).spans
        generalize (Utf8.decode s (pos + q)).2 = v at *
        generalize ((Utf8.decode s (pos + q)).1 : Int) = r2 at *
        have c4 : Hid (∀ W, SpanCells W → Calls Tryd.prog 105 #[.int .i32 r2] W fun e w' => e = .returned (.bool (onB r2)) ∧ Below W.heap.size W w') := goesOn_any r2
        cases ho : onB r2
        · rw [ho] at c4
          go_wp2_with (go_at_call 105; refine (c4.out _ hT1).mono ?_; rintro e w5 ⟨rfl, hb5⟩)
          go_ret2
          exact ⟨ret2 (by rw [← HN.out, hy.out ho]; omega) rfl, hB4.trans ((hI1.call hb5).below.mono z4)⟩
        · rw [ho] at c4
          go_wp2_with (go_at_call 105; refine (c4.out _ hT1).mono ?_; rintro e w5 ⟨rfl, hb5⟩)
          have hI5 := hI1.call hb5
          exact ⟨⟨q + v, f, hI5, by show spF s f (pos + (q + v)) = _; rw [← HN.out, hx.out ho, Nat.add_assoc], by omega, by omega⟩, by rw [hI5.pos, hm]; omega⟩
      · have hnx : ∀ ty, (Instr.next (.pointer (some ⟨w4.heap.size, 0, none⟩)) true ty).run Tryd.prog wr = _ := fun ty => run_next_end_at wr w4.heap.size S q ty hI.at_ hp
        go_wp2
        go_ret2
        exact ⟨ret2 (by rw [← HN.out, spF_end s f _ (by omega)]; omega) rfl, hB4.trans (hI.below.mono z4)⟩
  · have hv : spanP s pos = (0, 11) := by simp [spanP, ← hk, h1]
    rw [hv]
    clear hv hk
    have hne : (kd r != 1) = true := by simpa using h1
    generalize kd r = kk at *
    go_enter Tryd.func152, Tryd.ntmps152
    go_wp2_with (first | (go_at_call 167; refine (c1.out _).mono ?_; rintro e w2 ⟨rfl, hw⟩; obtain rfl := hw.symm) | (go_at_call 80; refine (c2.out _ hT).mono ?_; rintro e w3 ⟨rfl, hb3⟩; have hT3 := hT.below hb3) | (go_at_call 104; refine (c3.out _ hT3.spans).mono ?_; rintro e w4 ⟨rfl, hb4⟩))
    go_ret2
    exact ⟨rfl, hb3.trans (hb4.mono hb3.size)⟩

theorem span_any (s : ByteArray) (at_ : Int) (w : World) (hT : Tabs w) (hs : s.size ≤ maxLen) :
    Calls Tryd.prog 152 #[.string s, .int .i64 at_] w fun e w' => e = .returned (.tuple #[.int .i64 (spanI s at_).1, .int .i64 (spanI s at_).2]) ∧ Below w.heap.size w w' := by
  by_cases h : at_ < 0 ∨ (s.size : Int) < at_
  · have hv : spanI s at_ = (0, 2) := by simp [spanI, h]
    rw [hv]
    exact span_out s at_ w h
  · have hv : spanI s at_ = spanP s at_.toNat := by simp [spanI, h]
    rw [hv]
    have := span_in s at_.toNat w hT (by omega) hs
    rw [Int.toNat_of_nonneg (by omega)] at this
    exact this
end Go.Proofs.YtjmccobblpcbhaaDoor
