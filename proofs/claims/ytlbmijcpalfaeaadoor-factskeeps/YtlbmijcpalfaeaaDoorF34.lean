/-
  EwP, FaP, FkP.
-/
import Derived.Shelf.Unicode.DecodeSlow
import Derived.Laws.RangeAny
import Derived.Shelf.Strconv.Itoa0
import Derived.Shelf.LaysM
import Derived.Shelf.Strconv.Clone
import Derived.Shelf.Unicode.DecodeAny
import Derived.Test.YtlbmijcpalfaeaaDoorProg
import Derived.WalkKit
import Derived.Deep.DeepFit
import Derived.Lib.OthersKept
import Derived.Lib.RuneCountTail
import Derived.Deep.AppendLies
import Derived.Deep.OwnRows
import Derived.Laws.AppendOwnNone
import Derived.Deep.QuietTactic
import Derived.BigQuiet
import Derived.Deep.RegionWith
import Derived.Laws.DeepStrings4
import Derived.Below
import Derived.Lib.MapLaws
import Derived.Sort.Walk0
import Derived.Lib.QuietBelow
import Derived.StillTail
import Derived.Deep.RegionHeld3
import Derived.Laws.AppendOwn
import Derived.Deep.DeepCutAuto
import Derived.RowKit
import Derived.Laws.Entries
import Derived.Test.YtlbmijcpalfaeaaDoorF01
import Derived.Test.YtlbmijcpalfaeaaDoorF02
import Derived.Test.YtlbmijcpalfaeaaDoorF03
import Derived.Test.YtlbmijcpalfaeaaDoorF04
import Derived.Test.YtlbmijcpalfaeaaDoorF05
import Derived.Test.YtlbmijcpalfaeaaDoorF06
import Derived.Test.YtlbmijcpalfaeaaDoorF07
import Derived.Test.YtlbmijcpalfaeaaDoorF08
import Derived.Test.YtlbmijcpalfaeaaDoorF09
import Derived.Test.YtlbmijcpalfaeaaDoorF10
import Derived.Test.YtlbmijcpalfaeaaDoorF11
import Derived.Test.YtlbmijcpalfaeaaDoorF12
import Derived.Test.YtlbmijcpalfaeaaDoorF13
import Derived.Test.YtlbmijcpalfaeaaDoorF14
import Derived.Test.YtlbmijcpalfaeaaDoorF15
import Derived.Test.YtlbmijcpalfaeaaDoorF33
set_option linter.unusedSimpArgs false
set_option linter.unusedVariables false
namespace Go.Proofs.YtlbmijcpalfaeaaDoor

/-- All parts stand ahead. -/
def KidsUpE (l : List Nd) : Prop := ∀ i, i < l.length → ∀ k ∈ (l.getD i nd0).kids, 0 ≤ k ∧ k < (i : Int)

theorem chain_kids {fr : List Nat} (hl : Low fr) : ∀ (ks : List Int) (c a : Nat), chainL fr ks c = some a → ∀ k ∈ ks, 0 ≤ k ∧ k < (c : Int) := by
  intro ks
  induction ks with
  | nil => intro c a _ k hk; simp at hk
  | cons k ks ih =>
    intro c a h j hj
    simp only [chainL] at h
    split at h
    · cases h
    · rename_i hc
      rcases List.mem_cons.1 hj with rfl | hj
      · omega
      · have := ih _ _ h j hj
        have := hl (c - 1)
        omega
theorem BegOk.kidsUp {l : List Nd} {fr : List Nat} (h : BegOk l fr) : KidsUpE l := by
  intro i hi k hk
  exact chain_kids h.low _ _ _ (h.at_ i hi).2 k (by simpa using hk)

/-- The places that are whole and no part of another, ahead of c. -/
def rts (fr : List Nat) : Nat → Nat → List Nat
  | 0, _ => []
  | f + 1, c => if c = 0 then [] else rts fr f (fr.getD (c - 1) 0) ++ [c - 1]
def rt (fr : List Nat) (c : Nat) : List Nat := rts fr c c
theorem sndW_none {l : List Nd} (h : begL l = none) : sndB l = false := by unfold sndB; rw [h]; rfl
theorem sndW_some {l : List Nd} {fr : List Nat} (h : begL l = some fr) : sndB l = true := by unfold sndB; rw [h]; rfl
end Go.Proofs.YtlbmijcpalfaeaaDoor

set_option linter.unusedSimpArgs false
set_option linter.unusedVariables false
namespace Go.Proofs.YtlbmijcpalfaeaaDoor

/-- A fact: Total, Const, N. -/
structure Fc where
  t : Bool
  c : Bool
  n : Int
def fc0 : Fc := ⟨false, false, 0⟩
/-- The fact at a place. -/
def fAt (fs : List Fc) (k : Int) : Fc := fs.getD k.toNat fc0
/-- Whether an operator is a constant, and which. -/
def cnsF (fs : List Fc) (op : Int) (ks : List Int) : Bool × Int :=
  if (ks.all fun k => (fAt fs k).c) = true then (decide ((apR op (ks.map fun k => (fAt fs k).n)).2 = 0), (apR op (ks.map fun k => (fAt fs k).n)).1) else (false, 0)
/-- Whether an operator never traps. -/
def totF (fs : List Fc) (op : Int) (ks : List Int) : Bool :=
  (ks.all fun k => (fAt fs k).t) && ((op != 8 && op != 9) || ((fAt fs (ks.getD 1 0)).c && (fAt fs (ks.getD 1 0)).n != 0))
/-- What a node tells. -/
def tdF (fs : List Fc) (x : Nd) : Fc :=
  if x.op = 1 then ⟨true, true, x.n⟩ else if x.op = 2 then ⟨true, false, 0⟩ else ⟨totF fs x.op x.kids, (cnsF fs x.op x.kids).1, (cnsF fs x.op x.kids).2⟩
def ftR (fs : List Fc) : List Nd → List Fc
  | [] => fs
  | x :: l => ftR (fs ++ [tdF fs x]) l
/-- The facts of all places. -/
def ft (l : List Nd) : List Fc := ftR [] l
def fA (l : List Nd) (i : Nat) : Fc := (ft l).getD i fc0
/-- What Of answers. -/
def ofR (l : List Nd) : Fc := fA l (l.length - 1)

theorem cnsF_congr {fs gs : List Fc} (op : Int) (ks : List Int) (h : ∀ k ∈ ks, fAt gs k = fAt fs k) : cnsF gs op ks = cnsF fs op ks := by
  unfold cnsF
  have e1 : (ks.all fun k => (fAt gs k).c) = ks.all fun k => (fAt fs k).c := by
    rw [Bool.eq_iff_iff, List.all_eq_true, List.all_eq_true]
    exact ⟨fun H k hk => by rw [← h k hk]; exact H k hk, fun H k hk => by rw [h k hk]; exact H k hk⟩
  have e2 : (ks.map fun k => (fAt gs k).n) = ks.map fun k => (fAt fs k).n := List.map_congr_left fun k hk => by rw [h k hk]
  rw [e1, e2]
theorem totF_congr {fs gs : List Fc} (op : Int) (ks : List Int) (hlen : op = 8 ∨ op = 9 → 1 < ks.length) (h : ∀ k ∈ ks, fAt gs k = fAt fs k) : totF gs op ks = totF fs op ks := by
  unfold totF
  have e1 : (ks.all fun k => (fAt gs k).t) = ks.all fun k => (fAt fs k).t := by
    rw [Bool.eq_iff_iff, List.all_eq_true, List.all_eq_true]
    exact ⟨fun H k hk => by rw [← h k hk]; exact H k hk, fun H k hk => by rw [h k hk]; exact H k hk⟩
  rw [e1]
  by_cases ho : op = 8 ∨ op = 9
  · have hl := hlen ho
    have hm : ks.getD 1 0 ∈ ks := by
      rw [List.getD_eq_getElem?_getD, List.getElem?_eq_getElem hl]; exact List.getElem_mem hl
    rw [h _ hm]
  · have g : (op != 8 && op != 9) = true := by simp; omega
    rw [g]; simp
theorem arity_two {x : Nd} (h : formB x = true) (ho : x.op = 8 ∨ x.op = 9) : x.kids.length = 2 := by
  unfold formB fitB at h
  simp only [Bool.and_eq_true, decide_eq_true_eq] at h
  have h2 := h.1.1.2
  rcases ho with e | e <;> (rw [e] at h2; simp [aritI] at h2; omega)
theorem tdF_congr {fs gs : List Fc} {x : Nd} (hf : formB x = true) (h : ∀ k ∈ x.kids, fAt gs k = fAt fs k) : tdF gs x = tdF fs x := by
  unfold tdF
  rw [cnsF_congr _ _ h, totF_congr _ _ (fun ho => by rw [arity_two hf ho]; omega) h]

theorem getD_snocF (os : List Fc) (a : Fc) (j : Nat) : (os ++ [a]).getD j fc0 = if j < os.length then os.getD j fc0 else if j = os.length then a else fc0 := by
  simp only [List.getD_eq_getElem?_getD, List.getElem?_append]
  split
  · rfl
  · split
    · subst_vars; simp
    · rw [List.getElem?_eq_none (by simp; omega)]; rfl
theorem ftR_len : ∀ (l : List Nd) (fs : List Fc), (ftR fs l).length = fs.length + l.length
  | [], fs => by simp [ftR]
  | x :: l, fs => by rw [ftR, ftR_len l]; simp; omega
theorem ftR_old : ∀ (l : List Nd) (fs : List Fc) (j : Nat), j < fs.length → (ftR fs l).getD j fc0 = fs.getD j fc0
  | [], fs, j, _ => rfl
  | x :: l, fs, j, h => by rw [ftR, ftR_old l _ j (by simp; omega), getD_snocF, if_pos h]
theorem ftR_at : ∀ (l : List Nd) (fs : List Fc) (i : Nat), i < l.length → (∀ k ∈ (l.getD i nd0).kids, 0 ≤ k ∧ k < (fs.length + i : Nat)) → formB (l.getD i nd0) = true →
    (ftR fs l).getD (fs.length + i) fc0 = tdF (ftR fs l) (l.getD i nd0)
  | [], fs, i, h, _, _ => by simp at h
  | x :: l, fs, 0, h, hk, hf => by
    rw [ftR, ftR_old l _ _ (by simp), getD_snocF, if_neg (by omega), if_pos (by omega)]
    show tdF fs x = tdF _ x
    have hk' : ∀ k ∈ x.kids, 0 ≤ k ∧ k < (fs.length + 0 : Nat) := by simpa using hk
    refine (tdF_congr (by simpa using hf) fun k hkk => ?_).symm
    have := hk' k hkk
    unfold fAt
    rw [ftR_old l _ _ (by simp; omega), getD_snocF, if_pos (by omega)]
  | x :: l, fs, i + 1, h, hk, hf => by
    have hk' : ∀ k ∈ (l.getD i nd0).kids, 0 ≤ k ∧ k < (fs.length + (i + 1) : Nat) := by simpa using hk
    have := ftR_at l (fs ++ [tdF fs x]) i (by simp at h; omega) (fun k hkk => by have := hk' k hkk; simp; omega) (by simpa using hf)
    rw [ftR]
    rw [show fs.length + (i + 1) = (fs ++ [tdF fs x]).length + i by simp; omega, this]
    simp
theorem ft_len (l : List Nd) : (ft l).length = l.length := by simpa [ft] using ftR_len l []
theorem fA_at {l : List Nd} {fr : List Nat} (h : BegOk l fr) {i : Nat} (hi : i < l.length) : fA l i = tdF (ft l) (l.getD i nd0) := by
  have := ftR_at l [] i hi (fun k hk => by have := h.kidsUp i hi k hk; simp; omega) (h.at_ i hi).1
  simpa [fA, ft] using this

end Go.Proofs.YtlbmijcpalfaeaaDoor

set_option linter.unusedSimpArgs false
set_option linter.unusedVariables false
namespace Go.Proofs.YtlbmijcpalfaeaaDoor
open Go.RowKit

instance : DecidableEq Fc := fun a b => decidable_of_iff (a.t = b.t ∧ a.c = b.c ∧ a.n = b.n) ⟨fun ⟨h1, h2, h3⟩ => by cases a; cases b; simp_all, fun h => by subst h; exact ⟨rfl, rfl, rfl⟩⟩
/-- What is known behind one node more. -/
def gw1 (fs : List Fc) (is : Fc) (x : Nd) : Fc :=
  if ((tdF fs x).c && (!is.c || decide ((tdF fs x).n < is.n))) = true then ⟨is.t || (tdF fs x).t, true, (tdF fs x).n⟩ else ⟨is.t || (tdF fs x).t, is.c, is.n⟩
/-- What is known of a class behind a step. -/
def gwF (fs : List Fc) (was : Fc) (nodes : List Nd) : Fc := if was.c = true then was else nodes.foldl (gw1 fs) was
/-- What is known of all classes behind a step. -/
def stF (cs : List Cls) (fs : List Fc) : List Fc := (List.range cs.length).map fun i => gwF fs (fs.getD i fc0) (cs.getD i cls0).nodes
theorem stF_len (cs : List Cls) (fs : List Fc) : (stF cs fs).length = cs.length := by simp [stF]
theorem stF_at (cs : List Cls) (fs : List Fc) {i : Nat} (hi : i < cs.length) : (stF cs fs).getD i fc0 = gwF fs (fs.getD i fc0) (cs.getD i cls0).nodes := by
  unfold stF
  rw [List.getD_eq_getElem?_getD, List.getElem?_map, List.getElem?_range hi]
  rfl
theorem gw_fold (fs : List Fc) : ∀ (nodes : List Nd) (is : Fc), (is.t = true → (nodes.foldl (gw1 fs) is).t = true) ∧ (is.c = true → (nodes.foldl (gw1 fs) is).c = true) ∧ ((nodes.foldl (gw1 fs) is).c = false → (nodes.foldl (gw1 fs) is).n = is.n) := by
  intro nodes
  induction nodes with
  | nil => intro is; exact ⟨id, id, fun _ => rfl⟩
  | cons x r ih =>
    intro is
    rw [List.foldl_cons]
    obtain ⟨h1, h2, h3⟩ := ih (gw1 fs is x)
    refine ⟨fun h => h1 ?_, fun h => h2 ?_, fun h => ?_⟩
    · unfold gw1; split <;> simp [h]
    · unfold gw1; split <;> simp [h]
    · rw [h3 h]
      unfold gw1
      split
      · rename_i hc
        have : (gw1 fs is x).c = true := by unfold gw1; rw [if_pos hc]
        rw [h2 this] at h; cases h
      · rfl
/-- How much is left to be known. -/
def rkF (f : Fc) : Nat := (if f.c = true then 0 else 1) + (if f.t = true then 0 else 1)
def rkL (fs : List Fc) : Nat := (fs.map rkF).sum
theorem gwF_rk (fs : List Fc) (was : Fc) (nodes : List Nd) : rkF (gwF fs was nodes) ≤ rkF was ∧ (gwF fs was nodes ≠ was → rkF (gwF fs was nodes) < rkF was) := by
  unfold gwF
  split
  · exact ⟨Nat.le_refl _, fun h => absurd rfl h⟩
  · rename_i hc
    have hc' : was.c = false := by simpa using hc
    obtain ⟨h1, h2, h3⟩ := gw_fold fs nodes was
    generalize nodes.foldl (gw1 fs) was = r at *
    obtain ⟨wt, wc, wn⟩ := was
    obtain ⟨rt, rc, rn⟩ := r
    simp only at h1 h2 h3 hc'
    subst hc'
    cases rc with
    | true => cases rt <;> cases wt <;> simp_all [rkF]
    | false =>
      have := h3 rfl
      subst this
      cases rt <;> cases wt <;> simp_all [rkF]
theorem rk_sum : ∀ (a b : List Fc), a.length = b.length → (∀ i, i < b.length → rkF (a.getD i fc0) ≤ rkF (b.getD i fc0) ∧ (a.getD i fc0 ≠ b.getD i fc0 → rkF (a.getD i fc0) < rkF (b.getD i fc0))) → rkL a ≤ rkL b ∧ (a ≠ b → rkL a < rkL b) := by
  intro a
  induction a with
  | nil =>
    intro b hl _
    have : b = [] := List.length_eq_zero_iff.1 (by simpa using hl.symm)
    subst this
    exact ⟨Nat.le_refl _, fun h => absurd rfl h⟩
  | cons x r ih =>
    intro b hl h
    cases b with
    | nil => simp at hl
    | cons y s =>
      obtain ⟨h1, h2⟩ := ih s (by simpa using hl) (fun i hi => by have := h (i + 1) (by simpa using hi); simpa using this)
      obtain ⟨h3, h4⟩ := h 0 (by simp)
      simp only [List.getD_cons_zero] at h3 h4
      have e1 : rkL (x :: r) = rkF x + rkL r := by simp [rkL]
      have e2 : rkL (y :: s) = rkF y + rkL s := by simp [rkL]
      rw [e1, e2]
      refine ⟨by omega, fun hne => ?_⟩
      by_cases hxy : x = y
      · have hrs : r ≠ s := fun e => hne (by rw [hxy, e])
        have := h2 hrs
        omega
      · have := h4 hxy
        omega
theorem stF_rk (cs : List Cls) (fs : List Fc) (hl : fs.length = cs.length) : rkL (stF cs fs) ≤ rkL fs ∧ (stF cs fs ≠ fs → rkL (stF cs fs) < rkL fs) := by
  refine rk_sum _ _ (by rw [stF_len, hl]) fun i hi => ?_
  rw [stF_at cs fs (by omega)]
  exact gwF_rk fs _ _
/-- What is known behind so many steps. -/
def clI (cs : List Cls) : Nat → List Fc
  | 0 => List.replicate cs.length fc0
  | t + 1 => stF cs (clI cs t)
theorem clI_len (cs : List Cls) : ∀ t, (clI cs t).length = cs.length := by
  intro t
  cases t with
  | zero => simp [clI]
  | succ t => exact stF_len _ _
theorem clI_fix {cs : List Cls} {t : Nat} (h : stF cs (clI cs t) = clI cs t) : ∀ k, clI cs (t + k) = clI cs t := by
  intro k
  induction k with
  | zero => rfl
  | succ k ih => show stF cs (clI cs (t + k)) = _; rw [ih, h]
/-- What is known in the end. -/
def ClF (cs : List Cls) (fs : List Fc) : Prop := ∃ t, fs = clI cs t ∧ stF cs fs = fs
theorem ClF.one {cs : List Cls} {a b : List Fc} (ha : ClF cs a) (hb : ClF cs b) : a = b := by
  obtain ⟨t, rfl, h1⟩ := ha
  obtain ⟨u, rfl, h2⟩ := hb
  rcases Nat.le_total t u with h | h
  · have := clI_fix h1 (u - t)
    rw [show t + (u - t) = u by omega] at this
    exact this.symm
  · have := clI_fix h2 (t - u)
    rw [show u + (t - u) = t by omega] at this
    exact this
theorem ClF.len {cs : List Cls} {fs : List Fc} (h : ClF cs fs) : fs.length = cs.length := by
  obtain ⟨t, rfl, _⟩ := h
  exact clI_len cs t
/-- What the nodes of a sound picture are like, as a node's telling asks. -/
def NdOk (n : Nat) (x : Nd) : Prop := (∀ k ∈ x.kids, 0 ≤ k ∧ k < (n : Int)) ∧ (x.op = 8 ∨ x.op = 9 → 1 < x.kids.length) ∧ x.kids.length ≤ 1000
theorem ofB_nd {cs : List Cls} {roots : List Int} (h : ofB cs roots = true) : ∀ c ∈ cs, ∀ x ∈ c.nodes, NdOk cs.length x := by
  intro c hc x hx
  unfold ofB at h
  simp only [Bool.and_eq_true] at h
  obtain ⟨⟨⟨h1, _⟩, h2⟩, _⟩ := h
  unfold bdP at h1
  simp only [Bool.and_eq_true] at h1
  obtain ⟨_, h3⟩ := (bdL_iff cs.length cs 0 (by omega)).1 h1.2
  have hk := (h3 c hc).2.2 x hx
  obtain ⟨i, hi, e⟩ := List.getElem_of_mem hc
  have hm : (x, (i : Int)) ∈ cellsL cs := mem_cells.2 ⟨by omega, by omega, by
    unfold clA
    rw [Int.toNat_natCast, List.getD_eq_getElem?_getD, List.getElem?_eq_getElem hi, e]
    exact hx⟩
  have hf : formB x = true := by
    unfold allF at h2
    exact (List.all_eq_true.1 h2) _ hm
  refine ⟨fun k hkk => ?_, fun ho => ?_, by have := formB_kids hf; omega⟩
  · unfold inR at hk
    have := (List.all_eq_true.1 hk) k hkk
    unfold inC at this
    simpa using this
  · unfold formB fitB at hf
    simp only [Bool.and_eq_true, decide_eq_true_eq] at hf
    have hp := hf.1.1.2
    rcases ho with ho | ho <;> rw [ho] at hp <;> simp [aritI] at hp <;> omega
end Go.Proofs.YtlbmijcpalfaeaaDoor
