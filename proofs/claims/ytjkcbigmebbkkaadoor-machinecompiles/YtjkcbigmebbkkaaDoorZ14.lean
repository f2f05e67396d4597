/-
  MaG, QTail, MaH.
-/
import Derived.Shelf.Unicode.DecodeSlow
import Derived.Laws.RangeAny
import Derived.Shelf.Strconv.Itoa0
import Derived.Shelf.Unicode.DecodeAny
import Derived.Test.YtjkcbigmebbkkaaDoorProg
import Derived.WalkKit
import Derived.Deep.DeepFit
import Derived.Lib.OthersKept
import Derived.Lib.RuneCountTail
import Derived.Deep.AppendLies
import Derived.Deep.OwnRows
import Derived.Laws.AppendOwnNone
import Derived.Deep.QuietTactic
import Derived.BigQuiet
import Derived.Deep.RegionWith
import Derived.Laws.DeepStrings4
import Derived.Laws.CopyOwn
import Derived.Laws.MakeOwn
import Derived.Deep.RegionLaw
import Derived.Below
import Derived.Deep.RegionHeld3
import Derived.Lib.QuietBelow
import Derived.StillTail
import Derived.Test.YtjkcbigmebbkkaaDoorZ01
import Derived.Test.YtjkcbigmebbkkaaDoorZ02
import Derived.Test.YtjkcbigmebbkkaaDoorZ03
import Derived.Test.YtjkcbigmebbkkaaDoorZ04
import Derived.Test.YtjkcbigmebbkkaaDoorZ05
import Derived.Test.YtjkcbigmebbkkaaDoorZ06
import Derived.Test.YtjkcbigmebbkkaaDoorZ07
import Derived.Test.YtjkcbigmebbkkaaDoorZ08
import Derived.Test.YtjkcbigmebbkkaaDoorZ09
import Derived.Test.YtjkcbigmebbkkaaDoorZ10
import Derived.Test.YtjkcbigmebbkkaaDoorZ11
import Derived.Test.YtjkcbigmebbkkaaDoorZ12
import Derived.Test.YtjkcbigmebbkkaaDoorZ13
set_option linter.unusedSimpArgs false
set_option linter.unusedVariables false
namespace Go.Proofs.YtjkcbigmebbkkaaDoor
open Go.RowKit Go.Lib

theorem OwR.set {w w' : World} {base i : Nat} {v : Value} {l l' : List Int} {R : List (Value × List Int)} (h : OwR w base R) (hi : R[i]? = some (v, l)) (hg : w.grownBy w' v.ownBlock) (ho : OwnI w' base v l') : OwR w' base (R.set i (v, l')) := by
  obtain ⟨hlt, he⟩ := List.getElem?_eq_some_iff.1 hi
  have e1 : R = R.take i ++ (v, l) :: R.drop (i + 1) := by rw [← he]; simp
  have e2 : R.set i (v, l') = R.take i ++ (v, l') :: R.drop (i + 1) := by rw [List.set_eq_take_append_cons_drop, if_pos hlt]
  rw [e2]
  rw [e1] at h
  exact ((h.perm List.perm_middle).turn hg ho (.inl rfl)).perm List.perm_middle.symm
theorem lkRows_set (q : List Lk) (i : Nat) (of : Int) (x : Nd) (kv : Value) : lkRows (q.set i ((of, x), kv)) = (lkRows q).set i (kv, x.kids) := by
  simp [lkRows, List.map_set]
theorem RdG.neR {w : World} {base R : Nat} {g : Rg} {sv lv hv : Value} {q : List Lk} (h : RdG w base R g sv lv hv q) {r : Value × List Int} (hr : r ∈ (sv, g.slots) :: (hv, g.holes) :: lkRows q) : r.1.ownBlock ≠ some R := row_ne_ty (h.rows.own r hr) h.blk (by decide)
/-- A row of numbers of the reading has turned in place. -/
theorem RdG.turned {w w' : World} {base R i : Nat} {g g' : Rg} {sv lv hv v : Value} {l l' : List Int} {q q' : List Lk} (h : RdG w base R g sv lv hv q) (hi : ((sv, g.slots) :: (hv, g.holes) :: lkRows q)[i]? = some (v, l)) (hg : w.grownBy w' v.ownBlock) (ho : OwnI w' base v l')
    (hrows : ((sv, g.slots) :: (hv, g.holes) :: lkRows q).set i (v, l') = (sv, g'.slots) :: (hv, g'.holes) :: lkRows q') (hlk : q'.map (·.1) = g'.looks) (hcl : lkCells q' = lkCells q) (hln : q'.length = q.length) : RdG w' base R g' sv lv hv q' ∧ Below base w w' := by
  have hm : (v, l) ∈ (sv, g.slots) :: (hv, g.holes) :: lkRows q := List.mem_of_getElem? hi
  have hB : base ≤ w.heap.size := Nat.le_trans h.leR (Nat.le_of_lt (lt_of_block h.blk))
  refine ⟨⟨(hg.block R (lt_of_block h.blk) (Ne.symm (h.neR hm))).trans h.blk, h.leR, hlk, ?_, ?_⟩, (Below.refl _ _).grown hg hB (fun j hj => (own_lt (h.rows.own _ hm) hj).1)⟩
  · rw [hcl, hln]; exact World.ownsRow.kept h.row hg (ownBlock_ne h.row (h.rows.own _ hm) (by decide))
  · rw [← hrows]; exact h.rows.set hi hg ho
theorem RdG.slotsTo {w w' : World} {base R : Nat} {g : Rg} {sv lv hv : Value} {l' : List Int} {q : List Lk} (h : RdG w base R g sv lv hv q) (hg : w.grownBy w' sv.ownBlock) (ho : OwnI w' base sv l') : RdG w' base R { g with slots := l' } sv lv hv q ∧ Below base w w' :=
  h.turned (i := 0) rfl hg ho rfl h.lk rfl rfl
theorem RdG.holesTo {w w' : World} {base R : Nat} {g : Rg} {sv lv hv : Value} {l' : List Int} {q : List Lk} (h : RdG w base R g sv lv hv q) (hg : w.grownBy w' hv.ownBlock) (ho : OwnI w' base hv l') : RdG w' base R { g with holes := l' } sv lv hv q ∧ Below base w w' :=
  h.turned (i := 1) rfl hg ho rfl h.lk rfl rfl
theorem lkCells_kids : ∀ (q : List Lk) (i : Nat) (of : Int) (x : Nd) (kv : Value) (l : List Int), q[i]? = some ((of, x), kv) → lkCells (q.set i ((of, { x with kids := l }), kv)) = lkCells q
  | [], i, of, x, kv, l, h => by simp at h
  | ((of1, x1), kv1) :: r, 0, of, x, kv, l, h => by simp at h; obtain ⟨⟨rfl, rfl⟩, rfl⟩ := h; simp [lkCells]
  | ((of1, x1), kv1) :: r, i + 1, of, x, kv, l, h => by simp [lkCells, lkCells_kids r i of x kv l (by simpa using h)]
theorem RdG.kidsTo {w w' : World} {base R i : Nat} {g : Rg} {sv lv hv kv : Value} {of : Int} {x : Nd} {l' : List Int} {q : List Lk} (h : RdG w base R g sv lv hv q) (hi : q[i]? = some ((of, x), kv)) (hg : w.grownBy w' kv.ownBlock) (ho : OwnI w' base kv l') : RdG w' base R { g with looks := g.looks.set i (of, { x with kids := l' }) } sv lv hv (q.set i ((of, { x with kids := l' }), kv)) ∧ Below base w w' := by
  refine h.turned (i := i + 2) (v := kv) (l := x.kids) (by simp [lkRows, hi]) hg ho ?_ ?_ (lkCells_kids q i of x kv l' hi) (by simp)
  · simp [lkRows, List.map_set]
  · rw [List.map_set, h.lk]
theorem RdG.ofTo {w : World} {base R i lg lc : Nat} {g : Rg} {sv hv kv : Value} {of of' : Int} {x : Nd} {q : List Lk} (h : RdG w base R g sv (.slice (some ⟨lg, 0, none⟩) q.length lc) hv q) (hi : q[i]? = some ((of, x), kv)) (hlg : base ≤ lg) :
    RdG (w.setCell ⟨lg, i * 5, none⟩ (.int .i64 of')) base R { g with looks := g.looks.set i (of', x) } sv (.slice (some ⟨lg, 0, none⟩) q.length lc) hv (q.set i ((of', x), kv)) ∧ Below base w (w.setCell ⟨lg, i * 5, none⟩ (.int .i64 of')) := by
  have hlt : i < q.length := (List.getElem?_eq_some_iff.1 hi).1
  have hnR : R ≠ lg := by
    rintro rfl
    exact row_ne_ty h.row h.blk (by decide) rfl
  refine ⟨⟨?_, h.leR, by rw [List.map_set, h.lk], ?_, ?_⟩, (Below.refl _ _).setCell (p := ⟨lg, i * 5, none⟩) hlg _⟩
  · rw [Deep.blk_setCell_other _ _ _ _ (by show R ≠ lg; exact hnR)]; exact h.blk
  · rw [← lkCells_of q i of of' x kv hi, List.length_set]
    exact own_put h.row (by rw [lkCells_len]; omega)
  · have e : lkRows (q.set i ((of', x), kv)) = lkRows q := by
      rw [lkRows_set]
      have : (lkRows q)[i]? = some (kv, x.kids) := by simp [lkRows, hi]
      obtain ⟨h1, h2⟩ := List.getElem?_eq_some_iff.1 this
      rw [← h2, List.set_getElem_self]
    rw [e]
    refine h.rows.kept (grown_set _ _ _ _) fun r hr b hb e => ?_
    rcases ownBlock_ne (h.rows.own r hr) h.row (by decide) with n | n
    · rw [n] at hb; cases hb
    · rw [hb] at n; exact n e.symm
theorem map_next {α : Type} (f : α → α) {l : List α} {k : Nat} (hk : k < l.length) : (l.take (k + 1)).map f ++ l.drop (k + 1) = ((l.take k).map f ++ l.drop k).set k (f l[k]) := by
  rw [List.take_succ_eq_append_getElem hk, List.map_append, List.set_append_right _ _ (by simp; omega)]
  have : k - ((l.take k).map f).length = 0 := by simp; omega
  rw [this, List.drop_eq_getElem_cons hk, List.set_cons_zero, List.append_assoc]
  rfl
theorem map_here {α : Type} (f : α → α) {l : List α} {k : Nat} (hk : k < l.length) : ((l.take k).map f ++ l.drop k)[k]? = some l[k] := by
  rw [List.getElem?_append_right (by simp; omega)]
  have : k - ((l.take k).map f).length = 0 := by simp; omega
  rw [this]; simp [hk]
/-- Between two rounds. -/
def JoI (w : World) (base R : Nat) (L : List (Int × Nd)) (S H : List Int) (sv lv hv : Value) (fr to : Int) (k : Nat) (wr : World) : Prop :=
  ∃ q, RdG wr base R ⟨S, (L.take k).map (chgL fr to) ++ L.drop k, H⟩ sv lv hv q ∧ Below base w wr

set_option maxRecDepth 20000 in
set_option maxHeartbeats 4000000 in
theorem join_any {w : World} {base R : Nat} {g : Rg} {sv lv hv : Value} {q : List Lk} (h : RdG w base R g sv lv hv q) (x y : Int) :
    Calls Tryd.prog 113 #[.pointer (some ⟨R, 0, none⟩), .int .i64 x, .int .i64 y] w fun e w' => e = .returned (.tuple #[]) ∧ Below base w w' ∧ ∃ q', RdG w' base R (joinG g x y) sv lv hv q' := by
  obtain ⟨L, hL⟩ : ∃ L, g.looks = L := ⟨_, rfl⟩
  have hql : q.length = L.length := by have := congrArg List.length h.lk; rw [hL] at this; simpa using this
  have HJ : Hid (joinG g x y = ⟨chg (max x y) (min x y) g.slots, L.map (chgL (max x y) (min x y)), chg (max x y) (min x y) g.holes⟩) := by rw [← hL]; exact rfl
  generalize joinG g x y = G at *
  have c1 := change_any h.slots (max x y) (min x y)
  obtain ⟨d0, d1, d2, _⟩ := h.cells
  obtain ⟨la, lc, hlv⟩ := row_form' h.row
  rw [hql] at hlv
  subst hlv
  have HH : Hid (_) := h
  have hB : base ≤ w.heap.size := Nat.le_trans h.leR (Nat.le_of_lt (lt_of_block h.blk))
  generalize hfr : max x y = fr at *
  generalize hto : min x y = to at *
  clear h
  go_enter Tryd.func113, Tryd.ntmps113
  go_wp2_with (first | (rw [hfr]) | (rw [hto]) | fail)
  refine c1.mono ?_
  rintro e w1 ⟨rfl, ho1, hg1⟩
  obtain ⟨h1, hb1⟩ := HH.out.slotsTo hg1 ho1
  have c2 := change_any h1.holes fr to
  obtain ⟨e0, e1, e2, _⟩ := h1.cells
  have H1 : Hid (_) := h1
  have HB1 : Hid (_) := hb1
  clear c1 ho1 hg1 h1 hb1 d0 d1 d2 HH
  go_wp2_with fail
  refine c2.mono ?_
  rintro e w2 ⟨rfl, ho2, hg2⟩
  obtain ⟨h2, hb2⟩ := H1.out.holesTo hg2 ho2
  simp only at h2
  obtain ⟨f0, f1, f2, _⟩ := h2.cells
  have HST : Hid (JoI w base R L (chg fr to g.slots) (chg fr to g.holes) sv (.slice la L.length lc) hv fr to 0 w2) := ⟨q, by rw [hL] at h2; simpa using h2, HB1.out.trans hb2⟩
  clear c2 ho2 hg2 h2 hb2 e0 e1 e2 H1 HB1 hfr hto hql
  go_wp2_with fail
  go_loopw [34] (fun i wr => ∃ k : Nat, k ≤ L.length ∧ i = .int .i64 k ∧ JoI w base R L (chg fr to g.slots) (chg fr to g.holes) sv (.slice la L.length lc) hv fr to k wr) (fun i _ => L.length - (RowKit.intOf i).toNat)
  case atStart => exact ⟨0, by omega, rfl, HST.out⟩
  case round =>
    obtain ⟨k, hk, rfl, p, hR, hbw⟩ := hrel
    by_cases hlt : k < L.length
    · have hpl : p.length = L.length := by
        have := congrArg List.length hR.lk
        simp at this; omega
      have hkp : k < p.length := by omega
      obtain ⟨⟨⟨of, X⟩, kv⟩, hpk⟩ : ∃ z, p[k]? = some z := ⟨p[k], by simp [hkp]⟩
      have hLk : (of, X) = L[k] := by
        have h1 : (p.map (·.1))[k]? = some (of, X) := by rw [List.getElem?_map, hpk]; rfl
        rw [hR.lk] at h1
        have := map_here (chgL fr to) hlt
        rw [this] at h1
        injection h1 with h1
        exact h1.symm
      have hrow := hR.row
      rcases hrow.2 with ⟨hv0, h0⟩ | ⟨lg, cap, cur, hvv, hg0, hg, hn1, hn2, hn3, hn4⟩
      · omega
      unfold maxLen at hn2
      simp only [Value.slice.injEq] at hvv
      obtain ⟨rfl, _, rfl⟩ := hvv
      obtain ⟨r0, r1, r2, rF⟩ := hR.cells
      have hcell : ∀ (j : Nat), j < p.length * 5 → wr.cell? ⟨lg, j, none⟩ = (lkCells p)[j]? := by
        intro j hj
        rw [cell_of_heap hg, ← Array.getElem?_toList]
        have : cur.toList[j]? = (cur.toList.take (p.length * 5))[j]? := by rw [List.getElem?_take, if_pos hj]
        rw [this, hn4]
      obtain ⟨at0, at4⟩ := lkCells_at p k of X kv hpk
      have k0 : wr.cell? ⟨lg, k * 5, none⟩ = some (.int .i64 of) := (hcell _ (by omega)).trans at0
      have k4 : wr.cell? ⟨lg, k * 5 + 4, none⟩ = some kv := (hcell _ (by omega)).trans at4
      have kf : wr.frozen? ⟨lg, k * 5, none⟩ = false := frozen_of_heap hg _
      rw [← hpl] at hR
      have HOF : Hid (∀ of', RdG (wr.setCell ⟨lg, k * 5, none⟩ (.int .i64 of')) base R { (⟨chg fr to g.slots, (L.take k).map (chgL fr to) ++ L.drop k, chg fr to g.holes⟩ : Rg) with looks := ((L.take k).map (chgL fr to) ++ L.drop k).set k (of', X) } sv (.slice (some ⟨lg, 0, none⟩) p.length lc) hv (p.set k ((of', X), kv)) ∧ Below base wr (wr.setCell ⟨lg, k * 5, none⟩ (.int .i64 of'))) := fun of' => hR.ofTo hpk hg0
      have HNX : Hid ((L.take (k + 1)).map (chgL fr to) ++ L.drop (k + 1) = ((L.take k).map (chgL fr to) ++ L.drop k).set k (chgL fr to (of, X))) := by show _ = _; rw [hLk]; exact map_next _ hlt
      have HKE : Hid (∀ (wm : World) (of' : Int) (pm : List Lk), RdG wm base R { (⟨chg fr to g.slots, (L.take k).map (chgL fr to) ++ L.drop k, chg fr to g.holes⟩ : Rg) with looks := ((L.take k).map (chgL fr to) ++ L.drop k).set k (of', X) } sv (.slice (some ⟨lg, 0, none⟩) p.length lc) hv pm → pm[k]? = some ((of', X), kv) → (if of = fr then to else of) = of' → Below base w wm → Calls Tryd.prog 128 #[kv, .int .i64 fr, .int .i64 to] wm fun e w' => e = .returned (.tuple #[]) ∧ JoI w base R L (chg fr to g.slots) (chg fr to g.holes) sv (.slice (some ⟨lg, 0, none⟩) p.length lc) hv fr to (k + 1) w') := by
        intro wm of' pm hm hpm hof hbm
        refine (change_any (l := X.kids) (v := kv) (base := base) (hm.rows.own (kv, X.kids) (by
          have : (lkRows pm)[k]? = some (kv, X.kids) := by simp [lkRows, hpm]
          have := List.mem_of_getElem? this
          simp [this])) fr to).mono ?_
        rintro e w' ⟨rfl, ho, hg⟩
        obtain ⟨h3, hb3⟩ := hm.kidsTo hpm hg ho
        simp only [List.set_set] at h3
        have e : chgL fr to (of, X) = (of', { X with kids := chg fr to X.kids }) := by unfold chgL; rw [← hof]
        rw [← e, ← HNX.out] at h3
        exact ⟨rfl, _, h3, hbm.trans hb3⟩
      have HPS : Hid (∀ of', (p.set k ((of', X), kv))[k]? = some ((of', X), kv)) := fun of' => by simp [hkp]
      have HBW : Hid (_) := hbw
      have hsame : of ≠ fr → RdG wr base R { (⟨chg fr to g.slots, (L.take k).map (chgL fr to) ++ L.drop k, chg fr to g.holes⟩ : Rg) with looks := ((L.take k).map (chgL fr to) ++ L.drop k).set k (of, X) } sv (.slice (some ⟨lg, 0, none⟩) p.length lc) hv p := fun _ => by
        have e : ((L.take k).map (chgL fr to) ++ L.drop k).set k (of, X) = (L.take k).map (chgL fr to) ++ L.drop k := by
          have h1 := map_here (chgL fr to) hlt
          obtain ⟨h2, h3⟩ := List.getElem?_eq_some_iff.1 h1
          rw [hLk, ← h3, List.set_getElem_self]
        rw [e]; exact hR
      have HSM : Hid (_) := hsame
      have HPK : Hid (p[k]? = some ((of, X), kv)) := hpk
      clear hrow hn4 hn3 hcell at0 at4 hR hbw hsame hpk hLk hg
      rw [hpl] at *
      by_cases hof : of = fr
      · subst hof
        obtain ⟨s1, sb⟩ := HOF.out to
        obtain ⟨_, m1, _, _⟩ := s1.cells
        have cc := HKE.out _ to _ s1 (HPS.out to) (if_pos rfl) (HBW.out.trans sb)
        have m4 : (wr.setCell ⟨lg, k * 5, none⟩ (.int .i64 to)).cell? ⟨lg, k * 5 + 4, none⟩ = some kv := by
          rw [World.cell?_setCell_other _ _ _ _ (by simp)]; exact k4
        clear s1 sb HOF HKE HSM HPS
        go_wp2_with fail
        refine cc.mono ?_
        rintro e w5 ⟨rfl, hJ⟩
        have HJJ : Hid (_) := hJ
        clear cc hJ
        go_wp2_with fail
        exact ⟨⟨k + 1, by omega, by go_num, HJJ.out⟩, by simp [RowKit.intOf]; omega⟩
      · have cc := HKE.out _ of _ (HSM.out hof) HPK.out (if_neg hof) HBW.out
        have g1 : (of == fr) = false := by rw [beq_eq_false_iff_ne]; exact hof
        clear HOF HKE HSM HPS
        go_wp2_with fail
        refine cc.mono ?_
        rintro e w5 ⟨rfl, hJ⟩
        have HJJ : Hid (_) := hJ
        clear cc hJ
        go_wp2_with fail
        exact ⟨⟨k + 1, by omega, by go_num, HJJ.out⟩, by simp [RowKit.intOf]; omega⟩
    · have hke : k = L.length := by omega
      subst hke
      have HR : Hid (_) := hR
      have HB : Hid (_) := hbw
      clear hR hbw
      go_wp2_with fail
      go_end0
      refine ⟨rfl, HB.out, p, ?_⟩
      rw [HJ.out]
      have := HR.out
      rwa [List.take_length, List.drop_length, List.append_nil] at this
end Go.Proofs.YtjkcbigmebbkkaaDoor

namespace Go.Proofs.YtjkcbigmebbkkaaDoor
open Go Go.Sort Go.RowKit

section
variable {P : Program} {ops : Array Oper} {md : Region.Mode} {C : World → Prop}

/-- f operations of the first n are still to come, each quiet in the class; behind them L. -/
def QHead (P : Program) (md : Region.Mode) (ops : Array Oper) (C : World → Prop) (n : Nat) (L : Array Bool → Act → Prop) : Nat → Array Bool → Act → Prop
  | 0, ls, a => L ls a
  | f + 1, ls, a => Region.ready md ops ls ≠ [] ∧ ∀ i ∈ Region.ready md ops ls, i < n ∧ qOp P ops C i (QHead P md ops C n L f (ls.setIfInBounds i true)) a

theorem QHead.any {n g : Nat} {L : Array Bool → Act → Prop} {Q : Exit → Act → World → Prop} (hL : ∀ ls a w, C w → L ls a → wpAny P md ops Q g ls a w) : ∀ (f : Nat) (ls : Array Bool) (a : Act) (w : World), C w → QHead P md ops C n L f ls a → wpAny P md ops Q (f + g) ls a w := by
  intro f
  induction f with
  | zero => intro ls a w hw h; rw [Nat.zero_add]; exact hL _ _ _ hw h
  | succ f ih =>
    intro ls a w hw h
    have e : f + 1 + g = (f + g) + 1 := by omega
    rw [e]
    exact ⟨fun h0 => absurd h0 h.1, fun i hi => wpOp_of_qOp hw (fun a' w' hw' h' => ih _ a' w' hw' h') (h.2 i hi).2⟩

/-- One that is ready, and apart from all that don't wait for it, may come first. -/
theorem QHead.first {n i : Nat} {oi : Oper} {v : Value} {L : Array Bool → Act → Prop} (hi : ops[i]? = some oi) (hsel : ∀ (j : Nat) (o : Oper) cs b, ops[j]? = some o → o.op ≠ .select cs b)
    (hs : Region.sinkB md ops n = true) (hc : Region.chainB md ops n = true) (hn : n < ops.size) (hin : i < n) (hdone : ∀ ls a, L ls a → ∀ j ∈ Region.ready md ops ls, n ≤ j) :
    ∀ (f : Nat) (ls : Array Bool) (a : Act), HeadInv md ops n ls →
      (∀ j oj, ops[j]? = some oj → j ≠ i → ls.getD j true = false → (∀ e ∈ oj.after, Region.binds md e = true → e.on ≠ i) → oi.apart ops oj = true) →
      i ∈ Region.ready md ops ls → YieldsIn P ops C oi v a → QHead P md ops C n L f (ls.setIfInBounds i true) (a.put oi.dst v) → QHead P md ops C n L (f + 1) ls a := by
  intro f
  induction f with
  | zero =>
    intro ls a inv _ hr hy H
    have hun := (mem_ready.1 hr).1
    constructor
    · intro h; rw [h] at hr; cases hr
    · intro j hj
      have hjn : j < n := Nat.lt_of_not_le fun h => tail_waits hs hc hn inv _ i rfl hin hun j h hj
      refine ⟨hjn, ?_⟩
      by_cases hji : j = i
      · subst hji; exact hy.qOp hi H
      · have := hdone _ _ H j (ready_mono hj hji); omega
  | succ f ih =>
    intro ls a inv hfree hr hy H
    have hun := (mem_ready.1 hr).1
    constructor
    · intro h; rw [h] at hr; cases hr
    · intro j hj
      have hjn : j < n := Nat.lt_of_not_le fun h => tail_waits hs hc hn inv _ i rfl hin hun j h hj
      refine ⟨hjn, ?_⟩
      by_cases hji : j = i
      · subst hji; exact hy.qOp hi H
      · obtain ⟨hjun, oj, hoj, hall⟩ := mem_ready.1 hj
        have hnot : ∀ e ∈ oj.after, Region.binds md e = true → e.on ≠ i := fun e he hb heq => by
          have h1 := hall e he hb
          rw [heq, getD_both hun] at h1
          cases h1
        have h2 := qOp_put hoj (hfree j oj hoj hji hjun hnot) (fun cs b => hsel i oi cs b hi) (fun cs b => hsel j oj cs b hoj) hy (H.2 j (ready_mono hj hji)).2
        have hfree' : ∀ k ok, ops[k]? = some ok → k ≠ i → (ls.setIfInBounds j true).getD k true = false → (∀ e ∈ ok.after, Region.binds md e = true → e.on ≠ i) → oi.apart ops ok = true := fun k ok hk hki hu hno => by
          refine hfree k ok hk hki ?_ hno
          by_cases hjk : j = k
          · subst hjk; exact hjun
          · rw [getD_set_ne true hjk] at hu; exact hu
        refine qOp_mono (fun a' h3 => ih (ls.setIfInBounds j true) a' (inv.set hj hjn) hfree' (ready_mono hr (Ne.symm hji)) h3.1 ?_) h2
        rw [Array.setIfInBounds_comm _ _ hji]
        exact h3.2

theorem QHead.lex {n g : Nat} {K : Act → Prop} (hsel : Region.noSelect ops = true) (hs : Region.sinkB md ops n = true) (hc : Region.chainB md ops n = true) (hn : n < ops.size) :
    ∀ (l : List Oper) (k : Nat) (ls : Array Bool) (a : Act), (∀ j, j < l.length → l[j]? = ops[k + j]?) → k + l.length = n → HeadInv md ops n ls → Region.lexHead md ops g l.length k ls = true → wpQuiet P ops C K l a →
      QHead P md ops C n (fun ls' a' => Region.seqB md ops g n ls' = true ∧ K a') l.length ls a := by
  intro l
  induction l with
  | nil =>
    intro k ls a _ hk _ hB h
    have : k = n := by simpa using hk
    subst this
    exact ⟨by simpa [Region.lexHead] using hB, h⟩
  | cons o l ih =>
    intro k ls a hl hk inv hB h
    have h0 : ops[k]? = some o := by simpa using (hl 0 (by simp)).symm
    simp only [List.length_cons, Region.lexHead, Bool.and_eq_true] at hB
    have hkn : k < n := by simp only [List.length_cons] at hk; omega
    have hr : k ∈ Region.ready md ops ls := by simpa using hB.1.1
    have hq : qOp P ops C k (wpQuiet P ops C K l) a := by unfold qOp; simp only [h0]; exact h
    obtain ⟨v, hy, hK⟩ := yieldsIn_of_qOp h0 hq
    refine QHead.first h0 (Region.noSelect_spec hsel) hs hc hn hkn (fun ls' a' hL => seqB_ready hL.1) l.length ls a inv (Region.free_spec h0 hB.1.2) hr hy ?_
    refine ih (k + 1) _ _ (fun j hj => ?_) (by simp only [List.length_cons] at hk; omega) (inv.set hr hkn) hB.2 hK
    have := hl (j + 1) (by simp; omega)
    simpa [Nat.add_assoc, Nat.add_comm 1 j] using this
end

/-- THE LAW, at the class 'w with new memory laid behind it'. -/
theorem wp_region_quiet_then {P : Program} {id : Nat} {Q : Exit → Act → World → Prop} {a : Act} {w : World} {l : List Oper} (n : Nat) (hm : P.follows .mixedOrders = true) (hB : Region.lexTailB .any l.toArray n = true)
    (h : wpQuiet P l.toArray (fun w' => ∃ p : Regrown, w' = grow (redrawn w p.d) p.os) (fun a' => ∀ w', (∃ p : Regrown, w' = grow (redrawn w p.d) p.os) → wpList P l.toArray Q (l.drop n) a' w') (l.take n) a) : (Code.region id l.toArray true).wp P Q a w := by
  simp only [Region.lexTailB, Bool.and_eq_true, decide_eq_true_eq] at hB
  obtain ⟨⟨⟨⟨hsel, hn⟩, hs⟩, hc⟩, hlex⟩ := hB
  have hn' : n < l.length := by simpa using hn
  have htl : (l.take n).length = n := by simp; omega
  have hdl : (l.drop n).length = l.toArray.size - n := by simp
  have inv0 : HeadInv .any l.toArray n (Array.replicate l.toArray.size false) :=
    ⟨by simp, fun j oj _ hl => (by rw [getD_replicate_false] at hl; cases hl), fun t _ ht => getD_in (by simpa using ht) (getD_replicate_false _ _)⟩
  have H := QHead.lex (P := P) (md := .any) (g := l.toArray.size - n) hsel hs hc hn (l.take n) 0 _ a (fun j hj => by
    have hj' : j < n := by rw [htl] at hj; exact hj
    simp [hj']) (by simpa using htl) inv0 (by rw [htl]; exact hlex) h
  refine wp_region_any hm ?_
  have := QHead.any (Q := Q) (g := l.toArray.size - n) (fun ls a' w' hw' hL => by
    have := wpAny_of_seq (md := .any) (Q' := Q) (l.drop n) n ls a' w' (fun j => by simp [List.getElem?_drop]) (by rw [hdl]; exact hL.1) (hL.2 w' hw')
    rwa [hdl] at this) _ _ _ { w with drawn := w.drawn + 1 } ⟨⟨w.drawn + 1, #[]⟩, by rw [grow_empty]; rfl⟩ H
  rw [htl, show n + (l.toArray.size - n) = l.toArray.size by omega] at this
  exact this
end Go.Proofs.YtjkcbigmebbkkaaDoor

set_option linter.unusedSimpArgs false
set_option linter.unusedVariables false
namespace Go.Proofs.YtjkcbigmebbkkaaDoor
open Go.RowKit Go.Lib

/-- What command says. -/
def CmdP (w : World) (base R : Nat) (o : Option Rg) (e : Ending) (w' : World) : Prop :=
  e = .returned (.bool o.isSome) ∧ Below base w w' ∧ ∀ g', o = some g' → ∃ sv lv hv q, RdG w' base R g' sv lv hv q
theorem cm_box (w : World) (kind r to op n : Int) (name : ByteArray) : ∃ wA, w.alloc (.cells #[.int .i64 kind, .int .i64 r, .int .i64 to, .int .i64 op, .int .i64 n, .string name] 68) = wA ∧ Below w.heap.size w wA ∧ (∀ W, Below wA.heap.size wA W → CmAt W w.heap.size 0 ⟨kind, r, to, op, n, name⟩) ∧ wA.heap.size = w.heap.size + 1 := by
  refine ⟨_, rfl, (Below.refl _ _).alloc (Nat.le_refl _) _, fun W hb => ?_, by simp⟩
  have hk : W.heap[w.heap.size]? = some (.cells #[.int .i64 kind, .int .i64 r, .int .i64 to, .int .i64 op, .int .i64 n, .string name] 68 (0, 0)) := (hb.block _ (by simp)).trans (MapKept.heap_alloc w _).1
  constructor <;> rw [cell_of_heap hk] <;> rfl

set_option maxRecDepth 20000 in
set_option maxHeartbeats 4000000 in
theorem command_class {w : World} {base R : Nat} {g : Rg} {sv lv hv : Value} {q : List Lk} (hT : SpanCells w) (h : RdG w base R g sv lv hv q) (c : Cm) (h1 : c.kind = 1) (hr : hasG g c.r = true) (hS : g.slots.length ≤ 1000) (hq : q.length ≤ 1000) :
    Calls Tryd.prog 86 #[.pointer (some ⟨R, 0, none⟩), cmV c] w fun e w' => CmdP w base R (cmdG g c) e w' := by
  obtain ⟨kind, r, to, op, n, name⟩ := c
  simp only at h1 hr
  subst h1
  have hr' : 0 ≤ r ∧ r < (g.slots.length : Nat) := by unfold hasG at hr; simpa using hr
  have hb0 : base ≤ w.heap.size := Nat.le_trans h.leR (Nat.le_of_lt (lt_of_block h.blk))
  obtain ⟨wA, hwA, hbA, hcA, hsA⟩ := cm_box w 1 r to op n name
  have cN := named_any ⟨1, r, to, op, n, name⟩ wA (hT.below hbA)
  have HC : Hid (∀ W, Below wA.heap.size wA W → CmAt W w.heap.size 0 ⟨1, r, to, op, n, name⟩) := hcA
  have HBA : Hid (_) := hbA
  have HH : Hid (RdG w base R g sv lv hv q) := h
  have HG : Hid (cmdG g ⟨1, r, to, op, n, name⟩ = if fitC ⟨1, r, to, op, n, name⟩ = true ∧ to = (g.slots.length : Nat) then some (lookG g ⟨1, r, to, op, n, name⟩ (arK op).toNat) else none) := by show _ = _; unfold cmdG; rw [if_pos rfl]
  have HA : Hid (fitC ⟨1, r, to, op, n, name⟩ = true → arK op ≤ 3 ∧ 0 ≤ arK op) := fun _ => by unfold arK; have := aritI_le op; omega
  obtain ⟨G, hG⟩ : ∃ G, lookG g ⟨1, r, to, op, n, name⟩ (arK op).toNat = G := ⟨_, rfl⟩
  rw [hG] at HG
  have cL := fun (W : World) (hb : Below w.heap.size w W) (h3 : (arK op).toNat ≤ 3) => look_any (h.below hb) ⟨1, r, to, op, n, name⟩ (arK op).toNat h3 hr' hS hq
  rw [hG] at cL
  have HL : Hid (_) := cL
  generalize fitC ⟨1, r, to, op, n, name⟩ = fb at *
  generalize cmdG g ⟨1, r, to, op, n, name⟩ = o at *
  obtain ⟨a0, a1, a2, a3, a4, a5⟩ := hcA wA (Below.refl _ _)
  simp only [Nat.zero_add] at a0 a1 a2 a3 a4 a5
  clear hT h hcA hbA cL hG hr
  unfold cmV at *
  simp only at *
  go_enter Tryd.func86, Tryd.ntmps86
  go_wp2_with (rw [hwA])
  refine cN.mono ?_
  rintro e w1 ⟨⟨p, rfl, hp⟩, hb1⟩
  have HB1 : Hid (Below w.heap.size w w1) := HBA.out.trans (hb1.mono HBA.out.size)
  obtain ⟨d0, d1, d2, d3, d4, d5⟩ := HC.out w1 hb1
  simp only [Nat.zero_add] at d0 d1 d2 d3 d4 d5
  have h1 := HH.out.below HB1.out
  obtain ⟨r0, _, _, _⟩ := h1.cells
  obtain ⟨so, sc, hsv, hs1, hs2, _⟩ := ownI_form h1.slots
  unfold maxLen at hs2
  clear cN hb1 a0 a1 a2 a3 a4 a5 hwA h1
  subst hsv
  obtain ⟨N, hN⟩ : ∃ N, g.slots.length = N := ⟨_, rfl⟩
  rw [hN] at r0 HG hs1
  cases fb with
  | false =>
    have HO : Hid (o = none) := by show o = none; rw [HG.out]; simp
    clear HL HC HH HG hp
    go_wp2_with fail
    go_region
    go_wp2_with fail
    go_ret
    refine ⟨by rw [HO.out]; rfl, (HB1.out.mono hb0).drew, fun g' h => by rw [HO.out] at h; cases h⟩
  | true =>
    by_cases hto : to = (N : Int)
    · have HO : Hid (o = some G) := by show o = _; rw [HG.out, if_pos ⟨rfl, hto⟩]
      obtain ⟨b1, b2⟩ := HA.out rfl
      have hp' := hp rfl
      obtain ⟨k, hk⟩ : ∃ k : Nat, arK op = k := ⟨(arK op).toNat, by omega⟩
      have cc := HL.out w1.drew HB1.out.drew (by omega)
      rw [hk] at hp' cc
      simp only [Int.toNat_natCast] at cc
      subst hp'
      subst hto
      clear HL HC HH HG HA hp hk b1 b2
      go_wp2_with fail
      go_region
      go_wp2_with fail
      refine cc.mono ?_
      rintro e w5 ⟨rfl, hb5, hR5⟩
      have H5 : Hid (_) := hR5
      have HB5 : Hid (Below base w w5) := (HB1.out.mono hb0).drew.trans hb5
      clear cc hb5 hR5
      go_wp2_with fail
      go_ret
      refine ⟨by rw [HO.out]; rfl, HB5.out, fun g' h => by rw [HO.out] at h; cases h; exact (let ⟨s', l', q', hR⟩ := H5.out; ⟨s', l', hv, q', hR⟩)⟩
    · have HO : Hid (o = none) := by show o = none; rw [HG.out, if_neg (fun h => hto h.2)]
      have g1 : (to == (N : Int)) = false := by rw [beq_eq_false_iff_ne]; exact hto
      clear HL HC HH HG hp
      go_wp2_with fail
      go_region
      go_wp2_with fail
      go_ret
      refine ⟨by rw [HO.out]; rfl, (HB1.out.mono hb0).drew, fun g' h => by rw [HO.out] at h; cases h⟩
end Go.Proofs.YtjkcbigmebbkkaaDoor
