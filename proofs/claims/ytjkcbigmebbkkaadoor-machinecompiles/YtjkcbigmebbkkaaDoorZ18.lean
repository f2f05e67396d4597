/-
  PaM, MaL, SnW.
-/
import Derived.Shelf.Unicode.DecodeSlow
import Derived.Laws.RangeAny
import Derived.Shelf.Strconv.Itoa0
import Derived.Shelf.Unicode.DecodeAny
import Derived.Test.YtjkcbigmebbkkaaDoorProg
import Derived.WalkKit
import Derived.Deep.DeepFit
import Derived.Lib.OthersKept
import Derived.Lib.RuneCountTail
import Derived.Deep.AppendLies
import Derived.Deep.OwnRows
import Derived.Laws.AppendOwnNone
import Derived.Deep.QuietTactic
import Derived.BigQuiet
import Derived.Deep.RegionWith
import Derived.Laws.DeepStrings4
import Derived.Laws.CopyOwn
import Derived.Laws.MakeOwn
import Derived.Deep.RegionLaw
import Derived.Below
import Derived.Deep.RegionHeld3
import Derived.Lib.QuietBelow
import Derived.StillTail
import Derived.Lib.MapLaws
import Derived.Sort.Walk0
import Derived.Lib.ItoaNum
import Derived.Maps.OwnSet
import Derived.StringKeys
import Derived.Deep.Slices
import Derived.Test.YtjkcbigmebbkkaaDoorZ01
import Derived.Test.YtjkcbigmebbkkaaDoorZ02
import Derived.Test.YtjkcbigmebbkkaaDoorZ03
import Derived.Test.YtjkcbigmebbkkaaDoorZ04
import Derived.Test.YtjkcbigmebbkkaaDoorZ05
import Derived.Test.YtjkcbigmebbkkaaDoorZ06
import Derived.Test.YtjkcbigmebbkkaaDoorZ07
import Derived.Test.YtjkcbigmebbkkaaDoorZ08
import Derived.Test.YtjkcbigmebbkkaaDoorZ09
import Derived.Test.YtjkcbigmebbkkaaDoorZ10
import Derived.Test.YtjkcbigmebbkkaaDoorZ11
import Derived.Test.YtjkcbigmebbkkaaDoorZ12
import Derived.Test.YtjkcbigmebbkkaaDoorZ13
import Derived.Test.YtjkcbigmebbkkaaDoorZ14
import Derived.Test.YtjkcbigmebbkkaaDoorZ15
import Derived.Test.YtjkcbigmebbkkaaDoorZ16
import Derived.Test.YtjkcbigmebbkkaaDoorZ17
set_option linter.unusedSimpArgs false
set_option linter.unusedVariables false
namespace Go.Proofs.YtjkcbigmebbkkaaDoor
open Go.RowKit Go.Lib Go.Maps

/-- The number of a name, or 0. -/
def numZ (ks : List ByteArray) (s : ByteArray) : Nat := if ks.any (fun y => decide (y = s)) = true then numL ks s else 0
theorem any_mem (ks : List ByteArray) (s : ByteArray) : ks.any (fun y => decide (y = s)) = true ↔ s ∈ ks := by
  simp
theorem numZ_mem {ks : List ByteArray} {s : ByteArray} (h : s ∈ ks) : numZ ks s = numL ks s := by unfold numZ; rw [if_pos ((any_mem _ _).2 h)]
/-- Block B is a map of n stores: each of the names ks has its number. -/
def NumM (w : World) (B n : Nat) (ks : List ByteArray) : Prop :=
  ∃ D : DataW Unit, w.ownsMap Tryd.prog 9 (plainElem (H := Unit) Tryd.prog 3) B n D ∧ (∀ s, D.atKey (klB s) (.lit (.int .i64 0)) = .lit (.int .i64 (numZ ks s : Nat))) ∧ (∀ s, has D (klB s) = ks.any (fun y => decide (y = s)))

theorem NumM.made (w : World) : NumM (w.alloc (.map #[] 0)) w.heap.size 0 [] :=
  ⟨.map [], World.ownsMap_made _ _ _ _, fun s => rfl, fun s => rfl⟩
theorem NumM.lt {w : World} {B n : Nat} {ks : List ByteArray} (h : NumM w B n ks) : B < w.heap.size := let ⟨_, h, _⟩ := h; World.ownsMap.lt h
theorem NumM.kept {w w' : World} {B n : Nat} {ks : List ByteArray} {row : Option Nat} (h : NumM w B n ks) (hg : w.grownBy w' row) (hne : some B ≠ row) : NumM w' B n ks := let ⟨D, h, r⟩ := h; ⟨D, World.ownsMap.kept h hg hne, r⟩
theorem NumM.alloc {w : World} {B n : Nat} {ks : List ByteArray} (h : NumM w B n ks) (o : Obj) : NumM (w.alloc o) B n ks := let ⟨D, h, r⟩ := h; ⟨D, World.ownsMap.alloc h o, r⟩
theorem NumM.setCell {w : World} {B n : Nat} {ks : List ByteArray} (h : NumM w B n ks) {a : Addr} (ha : B ≠ a.block) (u : Value) : NumM (w.setCell a u) B n ks := let ⟨D, h, r⟩ := h; ⟨D, World.ownsMap.setCell h ha u, r⟩
theorem NumM.below {w w' : World} {B n : Nat} {ks : List ByteArray} (h : NumM w B n ks) (hb : Below w.heap.size w w') : NumM w' B n ks :=
  h.kept (row := none) ⟨hb.os, hb.tape, hb.output, hb.size, fun k hk _ => hb.block k hk⟩ (by simp)
theorem NumM.drew {w : World} {B n : Nat} {ks : List ByteArray} (h : NumM w B n ks) (q : Nat) : NumM (w.drewN q) B n ks :=
  h.below (below_drewN' (Below.refl _ _) q)

theorem NumM.look2 {w : World} {B n : Nat} {ks : List ByteArray} (h : NumM w B n ks) {s : ByteArray} (hs : s.size ≤ maxLen) :
    (Instr.lookup 97 (.map (some B)) (.string s) true).run Tryd.prog w = .ok (.tuple #[.int .i64 (numZ ks s : Nat), .bool (ks.any (fun y => decide (y = s)))]) w := by
  obtain ⟨D, hD, hc, hh⟩ := h
  obtain ⟨v, ps, hr, hv⟩ := hD.look_ok cntLaw Tryd.underlying97 (zeroInt w) (plainElem_int Tryd.underlying3 (show (Lit.int .i64 0).wf = true by decide)) (keyB hs)
  obtain ⟨c, rfl, hc2, _⟩ := plainElem_int_inv Tryd.underlying3 hv
  have e : c = (numZ ks s : Nat) := by
    have h1 := hc s
    have h2 := congrArg Prod.fst hc2
    simp only at h2
    rw [h1] at h2
    simpa using h2.symm
  rw [hr, e, hh s]
/-- A name more. -/
theorem NumM.more {w : World} {B n : Nat} {ks : List ByteArray} (h : NumM w B n ks) (hn : n ≤ 1000) (hk : ks.length ≤ 1000) {s : ByteArray} (hs : s.size ≤ maxLen) (hnew : ks.any (fun y => decide (y = s)) = false) :
    ∃ (w' : World), (Instr.mapUpdate 97 (.map (some B)) (.string s) (.int .i64 (ks.length : Nat))).run Tryd.prog w = .ok () w' ∧ NumM w' B (n + 1) (ks ++ [s]) ∧ w.grownBy w' (some B) := by
  obtain ⟨D, hD, hc, hh⟩ := h
  have hwf : (Lit.int .i64 (ks.length : Nat)).wf = true := by
    have e1 : IntKind.min .i64 = -9223372036854775808 := by decide
    have e2 : IntKind.max .i64 = 9223372036854775807 := by decide
    simp only [Lit.wf, e1, e2, Bool.and_eq_true, decide_eq_true_eq]
    omega
  have hns : s ∉ ks := fun hm => by rw [(any_mem ks s).2 hm] at hnew; cases hnew
  obtain ⟨w', h1, h2, h3⟩ := World.ownsMap.update hD cntLaw Tryd.underlying97 (by unfold maxLen; omega) (keyB hs) (plainElem_int Tryd.underlying3 hwf)
  refine ⟨w', h1, ⟨_, h2, fun t => ?_, fun t => ?_⟩, h3⟩
  · by_cases e : t = s
    · subst e
      rw [atKey_put_same hD.isMap (isKeyB t), numZ_mem (by simp), numL_new hns]
    · rw [atKey_put_other (fun e2 => e (klB_inj e2)), hc t]
      have : numZ (ks ++ [s]) t = numZ ks t := by
        unfold numZ
        by_cases ht : t ∈ ks
        · rw [if_pos ((any_mem _ _).2 ht), if_pos ((any_mem _ _).2 (List.mem_append_left _ ht)), numL_app ht]
        · rw [if_neg (fun h => ht ((any_mem _ _).1 h)), if_neg (fun h => by
            have := (any_mem _ _).1 h
            simp at this
            rcases this with h | h
            · exact ht h
            · exact e h)]
      rw [this]
  · by_cases e : t = s
    · subst e
      rw [has_put_same hD.isMap (isKeyB t)]
      simp
    · rw [has_put_other (fun e2 => e (klB_inj e2)), hh t]
      simp [Ne.symm e]
end Go.Proofs.YtjkcbigmebbkkaaDoor

set_option linter.unusedSimpArgs false
set_option linter.unusedVariables false
namespace Go.Proofs.YtjkcbigmebbkkaaDoor
open Go.RowKit Go.Lib Go.Maps

theorem mread_any {w : World} {ao : Option Addr} {cap : Nat} {l : List Cm} (hT : SpanCells w) (hC : Cms w ao cap l) (h : Int) :
    Calls Tryd.prog 63 #[.slice ao l.length cap, .int .i64 h] w fun e w' => RgP w (rgA l h) e w' := by
  by_cases hb : 0 ≤ h ∧ h ≤ 6 ∧ l.length ≤ 64
  · obtain ⟨n, rfl⟩ : ∃ n : Nat, h = n := ⟨h.toNat, by omega⟩
    exact mread_ok hT hC n (by omega) hb.2.2
  · exact mread_bad ⟨hC.1, hC.2.1⟩ h hb
theorem mread_ck {w : World} {ao : Option Addr} {cap : Nat} {l : List Cm} (hT : SpanCells w) (hC : Cms w ao cap l) (h : Int) :
    Calls Tryd.prog 63 #[.slice ao l.length cap, .int .i64 h] w fun e w' => ∃ a1 a2 a3 l1 l2 l3 c1 c2 c3, e = .returned (.tuple #[.agg #[.slice a1 l1 c1, .slice a2 l2 c2, .slice a3 l3 c3], .int .i64 (ckE l h)]) ∧ Below w.heap.size w w' := by
  refine (mread_any hT hC h).mono ?_
  rintro e w' ⟨hb, ⟨ho, rfl⟩ | ⟨g, sv, lv, hv, q, R, ho, rfl, hG⟩⟩
  · have : ckA l h = false := by rw [← rg_ck, ho]; rfl
    refine ⟨none, none, none, 0, 0, 0, 0, 0, 0, ?_, hb⟩
    unfold ckE; rw [this]; rfl
  · have : ckA l h = true := by rw [← rg_ck, ho]; rfl
    obtain ⟨sa, sc, rfl, _⟩ := ownI_form hG.slots
    obtain ⟨ha, hc, rfl, _⟩ := ownI_form hG.holes
    obtain ⟨la, lc, rfl⟩ := row_form' hG.row
    have e0 : ckE l h = 0 := by unfold ckE; rw [this]; rfl
    rw [e0]
    exact ⟨sa, la, ha, g.slots.length, q.length, g.holes.length, sc, lc, hc, rfl, hb⟩
set_option maxHeartbeats 1000000 in
theorem mcheck_any {w : World} {ao : Option Addr} {cap : Nat} {l : List Cm} (hT : SpanCells w) (hC : Cms w ao cap l) (h : Int) :
    Calls Tryd.prog 35 #[.slice ao l.length cap, .int .i64 h] w fun e w' => e = .returned (.int .i64 (ckE l h)) ∧ Below w.heap.size w w' := by
  have c := mread_ck hT hC h
  generalize ckE l h = z at *
  clear hT hC
  go_enter Tryd.func35, Tryd.ntmps35
  go_wp2_with fail
  refine c.mono ?_
  rintro e w1 ⟨a1, a2, a3, l1, l2, l3, c1, c2, c3, rfl, hb⟩
  have HB : Hid (_) := hb
  clear c hb
  go_wp2_with fail
  go_ret
  exact ⟨rfl, HB.out.alloc HB.out.size _⟩

set_option maxRecDepth 20000 in
set_option maxHeartbeats 2000000 in
theorem index_str {w : World} {na : Option Addr} {nc : Nat} {ks : List ByteArray} {s : ByteArray} (hS : Strs w na nc ks) :
    Calls Tryd.prog 60 #[.slice na ks.length nc, .string s] w fun e w' => e = .returned (.int .i64 (numW ks s)) ∧ Below w.heap.size w w' := by
  have HS : Hid (Strs w na nc ks) := hS
  have hm := hS.1
  have hm2 := hS.2.1
  unfold maxLen at hm2
  obtain ⟨Z, hZ⟩ : ∃ Z, numW ks s = Z := ⟨_, rfl⟩
  have HZ : Hid (numW ks s = Z) := hZ
  rw [hZ]
  clear hS hZ
  go_enter Tryd.func60, Tryd.ntmps60
  go_wp2_with fail
  go_loopw [8] (fun i wr => ∃ k : Nat, k ≤ ks.length ∧ i = .int .i64 k ∧ Hid ((ks.take k).any (fun y => decide (y = s)) = false) ∧ Below w.heap.size w wr) (fun i _ => ks.length - (RowKit.intOf i).toNat)
  case atStart => exact ⟨0, by omega, rfl, by show _ = _; simp, Below.refl _ _⟩
  case round =>
    obtain ⟨k, hk, rfl, hA, hbw⟩ := hrel
    by_cases hlt : k < ks.length
    · obtain ⟨b, o, rfl, hb, hc⟩ := HS.out.cell hlt
      have hc := (hbw.cell (p := ⟨b, o + k, none⟩) hb).trans hc
      have HB : Hid (_) := hbw
      have hgk : ks.getD k ⟨#[]⟩ = ks[k] := by simp [hlt]
      by_cases he : ks.getD k ⟨#[]⟩ = s
      · have HR : Hid (Z = (k : Int)) := by
          show Z = _
          rw [← HZ.out, numW_mem (by rw [← he, hgk]; exact List.getElem_mem hlt), numL_stop ks s k hA.out hlt (by rw [← hgk]; exact he)]
        have hq : (s.toList == (ks.getD k ⟨#[]⟩).toList) = true := by rw [he]; simp
        rw [he] at hc
        clear hbw he hgk hq
        go_wp2_with fail
        go_ret
        exact ⟨by rw [HR.out] <;> rfl, HB.out⟩
      · have HR : Hid ((ks.take (k + 1)).any (fun y => decide (y = s)) = false) := by
          show _ = _
          rw [List.take_succ_eq_append_getElem hlt, List.any_append, hA.out]
          rw [hgk] at he
          simp [he]
        have hq : (s.toList == (ks.getD k ⟨#[]⟩).toList) = false := by rw [beq_toLisO]; exact decide_eq_false (Ne.symm he)
        clear hbw he hgk
        generalize ks.getD k ⟨#[]⟩ = y at *
        go_wp2_with fail
        exact ⟨⟨k + 1, by omega, by go_num, HR.out, HB.out⟩, by simp [RowKit.intOf]; omega⟩
    · have hke : k = ks.length := by omega
      subst hke
      rw [List.take_length] at hA
      have HR : Hid (Z = -1) := by
        show Z = _
        rw [← HZ.out]; unfold numW; rw [hA.out]; rfl
      have HB : Hid (_) := hbw
      clear hbw
      go_wp2_with fail
      go_ret
      exact ⟨by rw [HR.out] <;> rfl, HB.out⟩

/-- Block B is a map of n stores, which holds f. -/
def MapF (w : World) (B n : Nat) (f : ByteArray → Option Int) : Prop :=
  ∃ D : DataW Unit, w.ownsMap Tryd.prog 9 (plainElem (H := Unit) Tryd.prog 3) B n D ∧ (∀ s, D.atKey (klB s) (.lit (.int .i64 0)) = .lit (.int .i64 ((f s).getD 0))) ∧ (∀ s, has D (klB s) = (f s).isSome)
theorem MapF.made (w : World) : MapF (w.alloc (.map #[] 0)) w.heap.size 0 fun _ => none :=
  ⟨.map [], World.ownsMap_made _ _ _ _, fun s => rfl, fun s => rfl⟩
theorem MapF.lt {w : World} {B n : Nat} {f : ByteArray → Option Int} (h : MapF w B n f) : B < w.heap.size := let ⟨_, h, _⟩ := h; World.ownsMap.lt h
theorem MapF.kept {w w' : World} {B n : Nat} {f : ByteArray → Option Int} {row : Option Nat} (h : MapF w B n f) (hg : w.grownBy w' row) (hne : some B ≠ row) : MapF w' B n f := let ⟨D, h, r⟩ := h; ⟨D, World.ownsMap.kept h hg hne, r⟩
theorem MapF.setCell {w : World} {B n : Nat} {f : ByteArray → Option Int} (h : MapF w B n f) {a : Addr} (ha : B ≠ a.block) (u : Value) : MapF (w.setCell a u) B n f := let ⟨D, h, r⟩ := h; ⟨D, World.ownsMap.setCell h ha u, r⟩
theorem MapF.below {w w' : World} {B n : Nat} {f : ByteArray → Option Int} (h : MapF w B n f) (hb : Below w.heap.size w w') : MapF w' B n f :=
  h.kept (row := none) ⟨hb.os, hb.tape, hb.output, hb.size, fun k hk _ => hb.block k hk⟩ (by simp)
theorem MapF.isMap {w : World} {B n : Nat} {f : ByteArray → Option Int} (h : MapF w B n f) : ∀ cs T fr, w.heap[B]? ≠ some (.cells cs T fr) := fun cs T fr e => by
  obtain ⟨D, ⟨es, c, h5, _⟩, _⟩ := h
  rw [e] at h5; cases h5
theorem MapF.look2 {w : World} {B n : Nat} {f : ByteArray → Option Int} (h : MapF w B n f) {s : ByteArray} (hs : s.size ≤ maxLen) :
    (Instr.lookup 97 (.map (some B)) (.string s) true).run Tryd.prog w = .ok (.tuple #[.int .i64 ((f s).getD 0), .bool (f s).isSome]) w := by
  obtain ⟨D, hD, hc, hh⟩ := h
  obtain ⟨v, ps, hr, hv⟩ := hD.look_ok cntLaw Tryd.underlying97 (zeroInt w) (plainElem_int Tryd.underlying3 (show (Lit.int .i64 0).wf = true by decide)) (keyB hs)
  obtain ⟨c, rfl, hc2, _⟩ := plainElem_int_inv Tryd.underlying3 hv
  have e : c = (f s).getD 0 := by
    have h1 := hc s
    have h2 := congrArg Prod.fst hc2
    simp only at h2
    rw [h1] at h2
    simpa using h2.symm
  rw [hr, e, hh s]
/-- A name more. -/
theorem MapF.put {w : World} {B n : Nat} {f : ByteArray → Option Int} (h : MapF w B n f) (hn : n ≤ 1000) {s : ByteArray} (hs : s.size ≤ maxLen) {z : Int} (hz : -1000000 ≤ z ∧ z ≤ 1000000) :
    ∃ (w' : World), (Instr.mapUpdate 97 (.map (some B)) (.string s) (.int .i64 z)).run Tryd.prog w = .ok () w' ∧ MapF w' B (n + 1) (fun t => if t = s then some z else f t) ∧ w.grownBy w' (some B) := by
  obtain ⟨D, hD, hc, hh⟩ := h
  have hwf : (Lit.int .i64 z).wf = true := by
    have e1 : IntKind.min .i64 = -9223372036854775808 := by decide
    have e2 : IntKind.max .i64 = 9223372036854775807 := by decide
    simp only [Lit.wf, e1, e2, Bool.and_eq_true, decide_eq_true_eq]
    omega
  obtain ⟨w', h1, h2, h3⟩ := World.ownsMap.update hD cntLaw Tryd.underlying97 (by unfold maxLen; omega) (keyB hs) (plainElem_int Tryd.underlying3 hwf)
  refine ⟨w', h1, ⟨_, h2, fun t => ?_, fun t => ?_⟩, h3⟩
  · show _ = DataW.lit (Lit.int .i64 ((if t = s then some z else f t).getD 0))
    by_cases e : t = s
    · subst e
      rw [atKey_put_same hD.isMap (isKeyB t), if_pos rfl]; rfl
    · rw [atKey_put_other (fun e2 => e (klB_inj e2)), hc t, if_neg e]
  · show _ = (if t = s then some z else f t).isSome
    by_cases e : t = s
    · subst e
      rw [has_put_same hD.isMap (isKeyB t), if_pos rfl]; rfl
    · rw [has_put_other (fun e2 => e (klB_inj e2)), hh t, if_neg e]
end Go.Proofs.YtjkcbigmebbkkaaDoor

set_option linter.unusedSimpArgs false
set_option linter.unusedVariables false
namespace Go.Proofs.YtjkcbigmebbkkaaDoor
open Go.RowKit Go.Lib Go.Maps Go.Deep

/-- Nodes of the call's own whose kids are others'. -/
structure ClN (w : World) (base B : Nat) (v : Value) (p : List (Nd × Value)) : Prop where
  row : w.ownsRow base 71 4 v p.length (ndCells p)
  kids : ∀ q ∈ p, Ints w B q.2 q.1.kids
theorem ClN.nodes {w : World} {base B C : Nat} {v : Value} {p : List (Nd × Value)} (h : ClN w base B v p) (hB : w.heap.size ≤ C) (hC : B ≤ C) : Nodes w C v (p.map (·.1)) := by
  obtain ⟨h1, h2⟩ := h.row
  rcases h2 with ⟨rfl, h0⟩ | ⟨g, cap, cur, rfl, hb, hg, hn, hm, hs, ht⟩
  · have : p = [] := List.length_eq_zero_iff.1 h0
    subst this
    exact ⟨none, 0, rfl, by simp, by simp, .inl rfl⟩
  · refine ⟨_, cap, by simp, by simpa using hn, hm, .inr ⟨g, 0, rfl, ?_, fun i hi => ?_⟩⟩
    · have := lt_of_block hg; omega
    · simp at hi
      have hp : p[i]? = some (p[i].1, p[i].2) := by simp [hi]
      have hx : (p.map (·.1)).getD i nd0 = p[i].1 := by simp [hi]
      obtain ⟨a0, a1, a2, a3⟩ := ndCells_at p i _ _ hp
      have hc : ∀ j, j < p.length * 4 → w.cell? ⟨g, j, none⟩ = (ndCells p)[j]? := by
        intro j hj
        have : w.cell? ⟨g, j, none⟩ = cur[j]? := by simp [World.cell?, hg]
        rw [this, ← Array.getElem?_toList, ← ht, List.getElem?_take, if_pos (by omega)]
      rw [hx]
      refine ⟨p[i].2, ?_, ?_, ?_, ?_, ?_⟩
      · rw [Nat.zero_add, hc _ (by omega), a0]
      · rw [Nat.zero_add, hc _ (by omega), a1]
      · rw [Nat.zero_add, hc _ (by omega), a2]
      · rw [Nat.zero_add, hc _ (by omega), a3]
      · exact (h.kids p[i] (by simp)).mono hC

theorem eql_nilN (ao : Option Addr) (n c : Nat) (w : World) : (binOp .eql 22 (.slice ao n c) (.slice none 0 0)).run Tryd.prog w = .ok (.bool ao.isNone) w := by
  cases ao <;> kernel_rfl

theorem nd_one {w : World} {B b o : Nat} {l : List Nd} (h : ∀ i, i < l.length → ∃ kv, NodeAt w B b (o + i * 4) (l.getD i nd0) kv) : ∃ p : List (Nd × Value), p.map (·.1) = l ∧ (∀ q ∈ p, Ints w B q.2 q.1.kids) ∧ ∀ j u, (ndCells p)[j]? = some u → w.cell? ⟨b, o + j, none⟩ = some u := by
  have : Inhabited Value := ⟨.slice none 0 0⟩
  obtain ⟨kf, hk⟩ := choose_lt h
  refine ⟨(List.range l.length).map fun i => (l.getD i nd0, kf i), ?_, ?_, ?_⟩
  · apply List.ext_getElem?
    intro i
    by_cases hi : i < l.length
    · simp [hi]
    · simp [hi]
  · intro q hq
    obtain ⟨i, hi, rfl⟩ := List.mem_map.1 hq
    rw [List.mem_range] at hi
    exact (hk i hi).kids
  · intro j u hj
    have hjl : j < l.length * 4 := by
      have := (List.getElem?_eq_some_iff.1 hj).1
      rw [ndCells_length] at this; simpa using this
    have hi : j / 4 < l.length := by omega
    have hp : ((List.range l.length).map fun i => (l.getD i nd0, kf i))[j / 4]? = some (l.getD (j / 4) nd0, kf (j / 4)) := by simp [hi]
    obtain ⟨a0, a1, a2, a3⟩ := ndCells_at _ _ _ _ hp
    have hN := hk (j / 4) hi
    have hr : j % 4 = 0 ∨ j % 4 = 1 ∨ j % 4 = 2 ∨ j % 4 = 3 := by omega
    rcases hr with hr | hr | hr | hr
    · have e : j = j / 4 * 4 := by omega
      rw [← e] at a0
      rw [a0] at hj; cases hj
      have := hN.c0; rw [← e] at this; exact this
    · have e : j = j / 4 * 4 + 1 := by omega
      rw [← e] at a1
      rw [a1] at hj; cases hj
      have := hN.c1; rw [Nat.add_assoc, ← e] at this; exact this
    · have e : j = j / 4 * 4 + 2 := by omega
      rw [← e] at a2
      rw [a2] at hj; cases hj
      have := hN.c2; rw [Nat.add_assoc, ← e] at this; exact this
    · have e : j = j / 4 * 4 + 3 := by omega
      rw [← e] at a3
      rw [a3] at hj; cases hj
      have := hN.c3; rw [Nat.add_assoc, ← e] at this; exact this

theorem nd_cell1 {p : List (Nd × Value)} (h : ∀ q ∈ p, ∃ a n c, q.2 = .slice a n c) : ∀ u ∈ ndCells p, u.oneCell' = true := by
  induction p with
  | nil => simp [ndCells]
  | cons a r ih =>
    obtain ⟨x, kv⟩ := a
    obtain ⟨ka, kn, kc, rfl⟩ := h (x, kv) (by simp)
    intro u hu
    simp only [ndCells, List.mem_cons] at hu
    rcases hu with rfl | rfl | rfl | rfl | hu
    · rfl
    · rfl
    · rfl
    · rfl
    · exact ih (fun q hq => h q (List.mem_cons_of_mem _ hq)) u hu

theorem ndCells_op (p : List (Nd × Value)) (k : Nat) (x : Nd) (kv : Value) (z : Int) (h : p[k]? = some (x, kv)) : ndCells (p.set k ({ x with op := z }, kv)) = (ndCells p).set (k * 4) (.int .i64 z) := by
  induction p generalizing k with
  | nil => simp at h
  | cons a r ih =>
    obtain ⟨y, kw⟩ := a
    cases k with
    | zero =>
      simp at h
      obtain ⟨rfl, rfl⟩ := h
      simp [ndCells]
    | succ k =>
      have := ih k (by simpa using h)
      have e : (k + 1) * 4 = k * 4 + 4 := by omega
      rw [e]
      simp [ndCells, this]

/-- Between two nodes: those ahead of k are filled. -/
structure SnMid (w : World) (l : List Nd) (M : Nat) (v : Value) (k : Nat) (wr : World) : Prop where
  p : ∃ p, p.map (·.1) = (l.take k).map fillN ++ l.drop k ∧ ClN wr w.heap.size w.heap.size v p
  map : ∃ n, n ≤ k ∧ CntM wr M n (hlsL (l.take k))
  below : Below w.heap.size w wr
  le : w.heap.size ≤ M

theorem fill_step {l : List Nd} {k : Nat} (hk : k < l.length) (h : (l.getD k nd0).op ≠ 18) : (l.take (k + 1)).map fillN ++ l.drop (k + 1) = (l.take k).map fillN ++ l.drop k := by
  rw [List.take_succ_eq_append_getElem hk, List.map_append, List.drop_eq_getElem_cons hk]
  have e : l.getD k nd0 = l[k] := by simp [hk]
  rw [e] at h
  simp [fillN, h]
theorem SnMid.skip {w : World} {l : List Nd} {M : Nat} {v : Value} {k : Nat} {wr : World} (h : SnMid w l M v k wr) (hk : k < l.length) (hop : (l.getD k nd0).op ≠ 18) (o : Obj) : SnMid w l M v (k + 1) (wr.alloc o) := by
  obtain ⟨⟨p, hp, hc⟩, ⟨n, hn, hm⟩, hb, hle⟩ := h
  have hs := hb.size
  refine ⟨⟨p, by rw [fill_step hk hop]; exact hp, hc.row.alloc _, fun q hq => (hc.kids q hq).below (((Below.refl _ _).alloc hs _)) (Nat.le_refl _)⟩, ⟨n, by omega, ?_⟩, hb.alloc hs _, hle⟩
  have e : hlsL (l.take (k + 1)) = hlsL (l.take k) := by
    rw [List.take_succ_eq_append_getElem hk, hlsL_snoc]
    have e : l.getD k nd0 = l[k] := by simp [hk]
    rw [e] at hop
    simp [addNm, hop]
  rw [e]; exact hm.alloc _

/-- The cell that is set. -/
theorem SnMid.at_ {w : World} {l : List Nd} {M : Nat} {v : Value} {k : Nat} {wr : World} (h : SnMid w l M v k wr) (hk : k < l.length) : ∃ g cap, v = .slice (some ⟨g, 0, none⟩) l.length cap ∧ w.heap.size ≤ g ∧ g < wr.heap.size ∧ g ≠ M ∧ l.length ≤ cap ∧ cap ≤ maxLen ∧ (∃ c, wr.cell? ⟨g, k * 4, none⟩ = some (.int .i64 c)) ∧ wr.frozen? ⟨g, k * 4, none⟩ = false := by
  obtain ⟨⟨p, hp, hc⟩, ⟨n, hn, hm⟩, hb, hle⟩ := h
  have hpl : p.length = l.length := by have := congrArg List.length hp; simp at this; omega
  rcases hc.row.2 with ⟨rfl, h0⟩ | ⟨g, cap, cur, rfl, hg0, hg, h1, h2, h3, h4⟩
  · omega
  · refine ⟨g, cap, by rw [hpl], hg0, lt_of_block hg, ?_, by omega, h2, ?_, frozen_of_heap hg _⟩
    · rintro rfl
      obtain ⟨D, ⟨es, c, h5, _⟩, _⟩ := hm
      rw [hg] at h5; cases h5
    · have hp2 : p[k]? = some (p[k].1, p[k].2) := by simp [hpl, hk]
      have := (ndCells_at p k _ _ hp2).1
      refine ⟨p[k].1.op, ?_⟩
      rw [cell_of_heap hg, ← Array.getElem?_toList, ← this, ← h4, List.getElem?_take, if_pos (by omega)]

theorem SnMid.fill {w : World} {l : List Nd} {M : Nat} {g cap : Nat} {k : Nat} {wr w' : World} {o : Obj} {n : Nat} (h : SnMid w l M (.slice (some ⟨g, 0, none⟩) l.length cap) k wr) (hk : k < l.length) (hop : (l.getD k nd0).op = 18) (hn : n ≤ k)
    (hm : CntM w' M (n + 1) (if (hlsL (l.take k)).any (fun y => decide (y = (l.getD k nd0).name)) = true then hlsL (l.take k) else hlsL (l.take k) ++ [(l.getD k nd0).name])) (hg : (wr.alloc o).grownBy w' (some M)) : SnMid w l M (.slice (some ⟨g, 0, none⟩) l.length cap) (k + 1) (w'.setCell ⟨g, k * 4, none⟩ (.int .i64 2)) := by
  obtain ⟨g', cap', e1, hg0, hgl, hgM, _⟩ := h.at_ hk
  cases e1
  obtain ⟨⟨p, hp, hc⟩, _, hb, hle⟩ := h
  have hs := hb.size
  have hpl : p.length = l.length := by have := congrArg List.length hp; simp at this; omega
  have hbA : Below w.heap.size w (wr.alloc o) := hb.alloc hs _
  have hb' : Below w.heap.size w w' := hbA.grown hg (by simp; omega) (fun k hk => by cases hk; exact hle)
  have hb2 : Below w.heap.size wr w' := ((Below.refl _ _).alloc hs _).grown hg (by simp; omega) (fun k hk => by cases hk; exact hle)
  have e : l.getD k nd0 = l[k] := by simp [hk]
  have hx : ((l.take k).map fillN ++ l.drop k)[k]? = some l[k] := by
    rw [List.getElem?_append_right (by simp; omega)]
    have : k - ((l.take k).map fillN).length = 0 := by simp; omega
    rw [this]; simp [hk]
  have hpk : p[k]? = some (l[k], (p.getD k (nd0, .slice none 0 0)).2) := by
    have hkp : k < p.length := by omega
    have : (p.map (·.1))[k]? = some l[k] := by rw [hp]; exact hx
    simp [hkp] at this
    simp [hkp, ← this]
  have hrow : w'.ownsRow w.heap.size 71 4 (.slice (some ⟨g, 0, none⟩) l.length cap) l.length (ndCells p) := by
    have h1 := World.ownsRow.kept (hc.row.alloc o) hg (.inr (by simp [Value.ownBlock]; exact hgM))
    rw [hpl] at h1; exact h1
  have hfl : fillN l[k] = { l[k] with op := 2 } := by rw [e] at hop; simp [fillN, hop]
  refine ⟨⟨p.set k ({ l[k] with op := 2 }, (p.getD k (nd0, .slice none 0 0)).2), ?_, ?_, ?_⟩, ⟨n + 1, by omega, ?_⟩, hb'.setCell (p := ⟨g, k * 4, none⟩) hg0 _, hle⟩
  · rw [List.map_set, hp, ← hfl]
    rw [List.take_succ_eq_append_getElem hk, List.map_append, List.set_append_right _ _ (by simp; omega)]
    have : k - ((l.take k).map fillN).length = 0 := by simp; omega
    rw [this, List.drop_eq_getElem_cons hk, List.set_cons_zero, List.append_assoc]
    rfl
  · rw [ndCells_op p k _ _ 2 hpk, List.length_set, hpl]
    exact own_put hrow (by rw [ndCells_length]; omega)
  · intro q hq
    have hin : ∀ q ∈ p, Ints (w'.setCell ⟨g, k * 4, none⟩ (.int .i64 2)) w.heap.size q.2 q.1.kids := fun q hq => (hc.kids q hq).below (hb2.setCell (p := ⟨g, k * 4, none⟩) hg0 _) (Nat.le_refl _)
    rcases List.mem_or_eq_of_mem_set hq with hq | rfl
    · exact hin q hq
    · exact hin (l[k], _) (List.mem_of_getElem? hpk)
  · have e2 : hlsL (l.take (k + 1)) = addNm (hlsL (l.take k)) (l.getD k nd0) := by rw [List.take_succ_eq_append_getElem hk, hlsL_snoc, e]
    have e3 : addNm (hlsL (l.take k)) (l.getD k nd0) = if (hlsL (l.take k)).any (fun y => decide (y = (l.getD k nd0).name)) = true then hlsL (l.take k) else hlsL (l.take k) ++ [(l.getD k nd0).name] := by unfold addNm; rw [if_pos hop]
    rw [e2, e3]
    exact hm.setCell (by show M ≠ g; omega) _
end Go.Proofs.YtjkcbigmebbkkaaDoor
