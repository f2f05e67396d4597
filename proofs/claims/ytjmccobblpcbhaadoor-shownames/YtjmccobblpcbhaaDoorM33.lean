/-
  WrB.
-/
import Derived.Test.YtjmccobblpcbhaaDoorChecked
import GoSem.PinnedTables
import GoSem.Claim
import GoSem.ClaimJoined
import GoSem.ClaimMapViews
import Derived.JoinedTies
import Derived.KernelRfl
import Derived.Shelf.Unicode.DecodeSlow
import Derived.Laws.RangeAny
import Derived.Shelf.Strings.Builder1
import Derived.Shelf.Small.Utf8
import Derived.Shelf.Small.Bits
import Derived.Shelf.Strings.BuilderF
import Derived.Shelf.Strings.BuilderK
import Derived.Shelf.Strings.BuilderRune
import Derived.Shelf.Utf8.AppendRune
import Derived.Shelf.Strconv.Itoa0
import Derived.Shelf.Strconv.Itoa1
import Derived.Shelf.LaysM
import Derived.Shelf.Strconv.Itoa2
import Derived.Shelf.Strconv.Itoa3
import Derived.Shelf.Strconv.Itoa4
import Derived.Shelf.Strings.Prefix
import Derived.Shelf.Unicode.DecodeAny
import Derived.Test.YtjmccobblpcbhaaDoorProg
import Derived.WalkKit
import Derived.Deep.DeepFit
import Derived.Lib.OthersKept
import Derived.Lib.RuneCountTail
import Derived.Lib.LaidU8
import Derived.MakeChecks
import Derived.ProofKit
import Derived.OpenShut
import Derived.Deep.DeepHandedRow
import Derived.Lib.MapLaws
import Derived.Sort.Walk0
import Derived.Laws.DeepStrings4
import Derived.Lib.ItoaNum
import Derived.Deep.AppendLies
import Derived.Deep.OwnRows
import Derived.Laws.AppendOwnNone
import Derived.Deep.QuietTactic
import Derived.BigQuiet
import Derived.Deep.RegionWith
import Derived.BigCall
import Derived.Lib.LaidTab
import Derived.Maps.OwnSet
import Derived.StringKeys
import Derived.Deep.Slices
import Derived.Lib.QuietBelow
import Derived.StillTail
import Derived.Laws.OwnMore
import Derived.Below
import Derived.Lib.Small
import Derived.Lib.Strings
import Derived.Deep.RegionHeld3
import Derived.Laws.ResultCell
import Derived.Deep.Heap
import Derived.Laws.Rows
import Derived.Deep.RegionLaw
import Derived.Test.YtjmccobblpcbhaaDoorRows
import Derived.Test.YtjmccobblpcbhaaDoorM01
import Derived.Test.YtjmccobblpcbhaaDoorM02
import Derived.Test.YtjmccobblpcbhaaDoorM03
import Derived.Test.YtjmccobblpcbhaaDoorM04
import Derived.Test.YtjmccobblpcbhaaDoorM05
import Derived.Test.YtjmccobblpcbhaaDoorM06
import Derived.Test.YtjmccobblpcbhaaDoorM07
import Derived.Test.YtjmccobblpcbhaaDoorM08
import Derived.Test.YtjmccobblpcbhaaDoorM09
import Derived.Test.YtjmccobblpcbhaaDoorM10
import Derived.Test.YtjmccobblpcbhaaDoorM11
import Derived.Test.YtjmccobblpcbhaaDoorM12
import Derived.Test.YtjmccobblpcbhaaDoorM13
import Derived.Test.YtjmccobblpcbhaaDoorM14
import Derived.Test.YtjmccobblpcbhaaDoorM15
import Derived.Test.YtjmccobblpcbhaaDoorM16
import Derived.Test.YtjmccobblpcbhaaDoorM17
import Derived.Test.YtjmccobblpcbhaaDoorM18
import Derived.Test.YtjmccobblpcbhaaDoorM19
import Derived.Test.YtjmccobblpcbhaaDoorM20
import Derived.Test.YtjmccobblpcbhaaDoorM21
import Derived.Test.YtjmccobblpcbhaaDoorM22
import Derived.Test.YtjmccobblpcbhaaDoorM23
import Derived.Test.YtjmccobblpcbhaaDoorM24
import Derived.Test.YtjmccobblpcbhaaDoorM25
import Derived.Test.YtjmccobblpcbhaaDoorM26
import Derived.Test.YtjmccobblpcbhaaDoorM27
import Derived.Test.YtjmccobblpcbhaaDoorM28
import Derived.Test.YtjmccobblpcbhaaDoorM29
import Derived.Test.YtjmccobblpcbhaaDoorM30
import Derived.Test.YtjmccobblpcbhaaDoorM31
import Derived.Test.YtjmccobblpcbhaaDoorM32
set_option linter.unusedSimpArgs false
set_option linter.unusedVariables false
namespace Go.Proofs.YtjmccobblpcbhaaDoor
open Go.Lib

/-! ### the rules -/
def Rs (S : ByteArray) (pat : Bool) (q : RdQ) (t : Tk) (o : Nat) (r : List Nd × Nat) : Prop := ∃ f, rdRun S pat f q t o = .ok r
section
variable {S : ByteArray} {pat : Bool}
theorem rs_un9 {t : Tk} {o : Nat} {r : List Nd × Nat} (h : Rs S pat .un t o r) : Rs S pat (.level 9) t o r := by
  obtain ⟨f, h⟩ := h
  exact ⟨f + 1, by rw [rdRun, if_pos (by decide)]; exact h⟩
theorem rs_9un {t : Tk} {o : Nat} {r : List Nd × Nat} (h : Rs S pat (.level 9) t o r) : Rs S pat .un t o r := by
  obtain ⟨f, h⟩ := h
  cases f with
  | zero => cases h
  | succ f => exact ⟨f, by rw [rdRun, if_pos (by decide)] at h; exact h⟩
theorem rs_level {lv : Nat} (hl : lv ≤ 8) {t t1 : Tk} {o p : Nat} {a : List Nd} {r : List Nd × Nat} (h1 : Rs S pat (.level (lv + 1)) t o (a, p)) (ht : psFrom S pat mx63 p = .ok t1) (h2 : Rs S pat (.loop lv a) t1 o r) : Rs S pat (.level lv) t o r := by
  obtain ⟨f, h1⟩ := h1
  obtain ⟨g, h2⟩ := h2
  refine ⟨max f g + 1, ?_⟩
  rw [rdRun, if_neg (by omega), rd_more h1 (Nat.le_max_left f g)]
  simp only [Pr.bind]
  rw [ht]
  simp only [Pr.bind]
  exact rd_more h2 (Nat.le_max_right f g)
theorem rs_end {lv : Nat} {la : List Nd} {t : Tk} {o : Nat} (h : (psOp t.what).2 ≠ lv) : Rs S pat (.loop lv la) t o (la, t.from_) := ⟨1, by rw [rdRun, if_neg h]⟩
theorem rs_cmp {lv : Nat} {la b : List Nd} {t t1 : Tk} {o p : Nat} {op : Int} (h : psOp t.what = (op, lv)) (hc : op = 15 ∨ op = 16) (ht : psFrom S pat mx63 (skp S t.to) = .ok t1) (h1 : Rs S pat (.level (lv + 1)) t1 o (b, p)) : Rs S pat (.loop lv la) t o (jn2 op la b, p) := by
  obtain ⟨f, h1⟩ := h1
  refine ⟨f + 1, ?_⟩
  rw [rdRun, h, if_pos rfl, ht]
  simp only [Pr.bind]
  rw [h1]
  simp only [Pr.bind]
  rw [if_pos hc]
theorem rs_op {lv : Nat} {la b : List Nd} {t t1 t2 : Tk} {o p : Nat} {op : Int} {r : List Nd × Nat} (h : psOp t.what = (op, lv)) (hc : ¬ (op = 15 ∨ op = 16)) (ht : psFrom S pat mx63 (skp S t.to) = .ok t1) (h1 : Rs S pat (.level (lv + 1)) t1 o (b, p)) (ht2 : psFrom S pat mx63 p = .ok t2) (h2 : Rs S pat (.loop lv (jn2 op la b)) t2 o r) : Rs S pat (.loop lv la) t o r := by
  obtain ⟨f, h1⟩ := h1
  obtain ⟨g, h2⟩ := h2
  refine ⟨max f g + 1, ?_⟩
  rw [rdRun, h, if_pos rfl, ht]
  simp only [Pr.bind]
  rw [rd_more h1 (Nat.le_max_left f g)]
  simp only [Pr.bind]
  rw [if_neg hc, ht2]
  simp only [Pr.bind]
  exact rd_more h2 (Nat.le_max_right f g)
theorem rs_neg {t t1 : Tk} {o p : Nat} {x : List Nd} (h : t.what = 45) (hn : (numI S t.to).2.2 = 11) (ht : psFrom S pat mx63 (skp S t.to) = .ok t1) (h1 : Rs S pat .un t1 o (x, p)) : Rs S pat .un t o (jn1 3 x, p) := by
  obtain ⟨f, h1⟩ := h1
  refine ⟨f + 1, ?_⟩
  rw [rdRun, if_pos h, if_pos hn, ht]
  simp only [Pr.bind]
  rw [h1]
theorem rs_lit {t t1 : Tk} {o : Nat} {r : List Nd × Nat} (h : t.what = 45) (hn : (numI S t.to).2.2 ≠ 11) (ht : psFrom S pat (mx63 + 1) (skp S t.to) = .ok t1) (h1 : rdLit S (-(t1.n : Int)) t1 = .ok r) : Rs S pat .un t o r := by
  refine ⟨1, ?_⟩
  rw [rdRun, if_pos h, if_neg hn, ht]
  simp only [Pr.bind]
  exact h1
theorem rs_not {t t1 : Tk} {o p : Nat} {x : List Nd} (h : t.what = 126) (ht : psFrom S pat mx63 (skp S t.to) = .ok t1) (h1 : Rs S pat .un t1 o (x, p)) : Rs S pat .un t o (jn1 4 x, p) := by
  obtain ⟨f, h1⟩ := h1
  refine ⟨f + 1, ?_⟩
  rw [rdRun, if_neg (by rw [h]; decide), if_pos h, ht]
  simp only [Pr.bind]
  rw [h1]
theorem rs_atom {t : Tk} {o : Nat} {r : List Nd × Nat} (h : t.what ≠ 45) (h' : t.what ≠ 126) (h1 : ∃ f, rdRun S pat (f + 1) .atom t o = .ok r) : Rs S pat .un t o r := by
  obtain ⟨f, h1⟩ := h1
  exact ⟨f + 2, by rw [rdRun, if_neg h, if_neg h']; exact h1⟩
theorem rs_plain {t t1 : Tk} {o p : Nat} {c : List Nd} (h : Rs S pat (.level 1) t o (c, p)) (ht : psFrom S pat mx63 p = .ok t1) (h1 : t1.what ≠ 63) : Rs S pat .cond t o (c, p) := by
  obtain ⟨f, h⟩ := h
  refine ⟨f + 1, ?_⟩
  rw [rdRun, h]
  simp only [Pr.bind]
  rw [ht]
  simp only [Pr.bind]
  rw [if_neg h1]
theorem rs_ite {t t1 t2 t3 t4 : Tk} {o p1 p2 p3 : Nat} {c a b : List Nd} (h : Rs S pat (.level 1) t o (c, p1)) (ht1 : psFrom S pat mx63 p1 = .ok t1) (h63 : t1.what = 63) (ht2 : psFrom S pat mx63 (skp S t1.to) = .ok t2) (ha : Rs S pat .cond t2 o (a, p2)) (ht3 : psFrom S pat mx63 p2 = .ok t3) (h58 : t3.what = 58) (he : t3.err = 0) (ht4 : psFrom S pat mx63 (skp S t3.to) = .ok t4) (hb : Rs S pat .cond t4 o (b, p3)) : Rs S pat .cond t o (jn3 17 c a b, p3) := by
  obtain ⟨f, h⟩ := h
  obtain ⟨g, ha⟩ := ha
  obtain ⟨k, hb⟩ := hb
  have m1 : f ≤ max f (max g k) := by omega
  have m2 : g ≤ max f (max g k) := by omega
  have m3 : k ≤ max f (max g k) := by omega
  refine ⟨max f (max g k) + 1, ?_⟩
  rw [rdRun, rd_more h m1]
  simp only [Pr.bind]
  rw [ht1]
  simp only [Pr.bind]
  rw [if_pos h63, ht2]
  simp only [Pr.bind]
  rw [rd_more ha m2]
  simp only [Pr.bind]
  rw [ht3]
  simp only [Pr.bind]
  rw [if_pos h58, if_pos he, ht4]
  simp only [Pr.bind]
  rw [rd_more hb m3]
theorem rs_climb {t t1 : Tk} {o p top lv : Nat} {l : List Nd} (h : Rs S pat (.level top) t o (l, p)) (ht : psFrom S pat mx63 p = .ok t1) (hp : p ≤ S.size) (htop : top ≤ 9) (hlv : lv ≤ top) (hn : (psOp t1.what).2 < lv) : Rs S pat (.level lv) t o (l, p) := by
  obtain ⟨f, h⟩ := h
  exact ⟨_, climb h ht hp htop (top - lv) lv (by omega) fun j h1 h2 => by omega⟩
theorem rs_brack {t t1 : Tk} {o e : Nat} {l : List Nd} (h40 : t.what = 40) (ho : o ≠ 100) (h1 : psFrom S pat mx63 (skp S t.to) = .ok t1) (h : Rs S pat .cond t1 (o + 1) (l, e)) (he : e < S.size) (hb : S.get! e = 41) : Rs S pat (.level 9) t o (l, skp S (e + 1)) := by
  obtain ⟨f, h⟩ := h
  exact ⟨f + 3, (brackU h40 ho h1 h he hb).2⟩
end

/-! ### parts of a list with holes -/
theorem fill_get (l : List Nd) (j : Nat) (hj : j < l.length) : (l.map fillN).getD j nd0 = fillN (l.getD j nd0) := by simp [hj]
theorem kids_insF {l : List Nd} {fr : List Nat} (h : BegOk (l.map fillN) fr) (i : Nat) (hi : i < l.length) (j : Nat) (hj : fr.getD i 0 ≤ j) (hji : j ≤ i) : ∀ k ∈ (l.getD j nd0).kids, (fr.getD i 0 : Int) ≤ k := by
  have := kids_inside h i (by simpa using hi) j hj hji
  rw [fill_get l j (by omega), fillN_kids] at this
  exact this
theorem acc_partsF {l : List Nd} {fr : List Nat} (h : BegOk (l.map fillN) fr) : ∀ (r : List Int) (c c0 : Nat), c ≤ l.length → chainL fr r c = some c0 →
    accS ((r.reverse).map (kidPart l fr)) = (((l.drop c0).take (c - c0)).map (mvN 0 (-(c0 : Int))), r.reverse.map (· - (c0 : Int))) := by
  intro r
  induction r with
  | nil =>
    intro c c0 _ hc
    simp only [chainL, Option.some.injEq] at hc
    subst hc
    simp [accS]
  | cons k r ih =>
    intro c c0 hcl hc
    simp only [chainL] at hc
    split at hc
    · cases hc
    · rename_i hn
      have hlo := h.low (c - 1)
      have hle := chainL_le h.low _ _ _ hc
      have hi := ih _ c0 (by omega) hc
      have hk : k = ((c - 1 : Nat) : Int) := by omega
      have hkt : k.toNat = c - 1 := by omega
      rw [List.reverse_cons, List.map_append, List.map_cons, List.map_nil, accS_snoc, hi]
      have hins := kids_insF h (c - 1) (by omega)
      have hplen := partL_len l (fr.getD (c - 1) 0) (c - 1) (by omega) hlo
      have hkp : kidPart l fr k = partL l (fr.getD (c - 1) 0) (c - 1) := by unfold kidPart; rw [hkt]
      rw [hkp]
      generalize hb : fr.getD (c - 1) 0 = b at *
      have hAl : ((((l.drop c0).take (b - c0)).map (mvN 0 (-(c0 : Int)))).length) = b - c0 := by simp; omega
      have hpart : (partL l b (c - 1)).map (mvN 0 ((b - c0 : Nat) : Int)) = ((l.drop b).take (c - b)).map (mvN 0 (-(c0 : Int))) := by
        unfold partL
        have e : c - 1 + 1 - b = c - b := by omega
        rw [e, List.map_map]
        apply List.map_congr_left
        intro x hx
        obtain ⟨j, hj, rfl⟩ := List.getElem_of_mem hx
        have hj' : j < c - b := by simp at hj; omega
        have hgx : ((l.drop b).take (c - b))[j] = l.getD (b + j) nd0 := by
          have hlt : b + j < l.length := by omega
          simp [hlt]
        rw [hgx]
        have hin := hins (b + j) (by omega) (by omega)
        show mvN 0 ((b - c0 : Nat) : Int) (mvN 0 (-(b : Int)) (l.getD (b + j) nd0)) = mvN 0 (-(c0 : Int)) (l.getD (b + j) nd0)
        unfold mvN
        simp only [List.map_map, Nd.mk.injEq, true_and]
        apply List.map_congr_left
        intro q hq
        have := hin q hq
        show mvK 0 ((b - c0 : Nat) : Int) (mvK 0 (-(b : Int)) q) = mvK 0 (-(c0 : Int)) q
        have e1 : mvK 0 (-(b : Int)) q = q - b := by unfold mvK; rw [if_pos (by omega)]; omega
        rw [e1]
        unfold mvK
        rw [if_pos (by omega), if_pos (by omega)]
        omega
      rw [hAl, hpart]
      refine Prod.ext ?_ ?_
      · show _ ++ _ = _
        rw [cut_split l c0 b c (by omega) (by omega), List.map_append]
      · show _ ++ _ = (r.reverse ++ [k]).map _
        rw [List.map_append, hplen, hk]
        simp
        omega
/-- The part at a place is its operator with its parts. -/
theorem part_joinF {l : List Nd} {fr : List Nat} (h : BegOk (l.map fillN) fr) (i : Nat) (hi : i < l.length) :
    partL l (fr.getD i 0) i = joinL (l.getD i nd0).op (l.getD i nd0).n (l.getD i nd0).name ((l.getD i nd0).kids.map (kidPart l fr)) := by
  have hc := (h.at_ i (by simpa using hi)).2
  rw [fill_get l i hi, fillN_kids] at hc
  have hlo := h.low i
  have hacc := acc_partsF h _ i _ (by omega) hc
  rw [List.reverse_reverse] at hacc
  unfold joinL
  rw [hacc]
  have hk0 := ok_kids h i (by simpa using hi)
  rw [fill_get l i hi, fillN_kids] at hk0
  generalize fr.getD i 0 = a at *
  unfold partL
  have e : i + 1 - a = (i - a) + 1 := by omega
  have hlt : i - a < (l.drop a).length := by simp; omega
  rw [e, List.take_succ_eq_append_getElem hlt, List.map_append]
  congr 1
  have hg : (l.drop a)[i - a] = l.getD i nd0 := by
    have e2 : a + (i - a) = i := by omega
    simp [e2, hi]
  rw [hg]
  simp only [List.map_cons, List.map_nil, List.cons.injEq, and_true]
  unfold mvN
  simp only [Nd.mk.injEq, true_and]
  apply List.map_congr_left
  intro k hk
  have := hk0 k hk
  unfold mvK
  rw [if_pos this]; omega
theorem part_upF {l : List Nd} {fr : List Nat} (h : BegOk (l.map fillN) fr) (i : Nat) (hi : i < l.length) : KidsUp (partL l (fr.getD i 0) i) ∧ partL l (fr.getD i 0) i ≠ [] := by
  have hlo := h.low i
  have hin := kids_insF h i hi
  generalize fr.getD i 0 = a at *
  have hpl := partL_len l a i hi hlo
  refine ⟨fun x hx k hk => ?_, fun e => by rw [e] at hpl; simp only [List.length_nil] at hpl; omega⟩
  obtain ⟨j, hj, rfl⟩ := List.getElem_of_mem hx
  have hj' : j < i + 1 - a := by rw [hpl] at hj; exact hj
  have e : (partL l a i)[j] = mvN 0 (-(a : Int)) (l.getD (a + j) nd0) := by
    have := partL_at l a i j hi hlo hj'
    rw [List.getD_eq_getElem?_getD, List.getElem?_eq_getElem hj] at this
    exact this
  rw [e] at hk
  have hin := hin (a + j) (by omega) (by omega)
  unfold mvN at hk
  simp only [List.mem_map] at hk
  obtain ⟨q, hq, rfl⟩ := hk
  have := hin q hq
  unfold mvK
  rw [if_pos (by omega)]; omega
end Go.Proofs.YtjmccobblpcbhaaDoor
