/-
  MaL, SnW, PaR.
-/
import Derived.Shelf.Unicode.DecodeSlow
import Derived.Laws.RangeAny
import Derived.Shelf.Strconv.Itoa0
import Derived.Shelf.Unicode.DecodeAny
import Derived.Test.YtjkcbigmebbkkaaDoorProg
import Derived.WalkKit
import Derived.Deep.DeepFit
import Derived.Lib.OthersKept
import Derived.Lib.RuneCountTail
import Derived.Deep.AppendLies
import Derived.Deep.OwnRows
import Derived.Laws.AppendOwnNone
import Derived.Deep.QuietTactic
import Derived.BigQuiet
import Derived.Deep.RegionWith
import Derived.Laws.DeepStrings4
import Derived.Laws.CopyOwn
import Derived.Laws.MakeOwn
import Derived.Deep.RegionLaw
import Derived.Below
import Derived.Deep.RegionHeld3
import Derived.Lib.QuietBelow
import Derived.StillTail
import Derived.Lib.MapLaws
import Derived.Sort.Walk0
import Derived.Lib.ItoaNum
import Derived.Maps.OwnSet
import Derived.StringKeys
import Derived.Deep.Slices
import Derived.Test.YtjkcbigmebbkkaaDoorY01
import Derived.Test.YtjkcbigmebbkkaaDoorY02
import Derived.Test.YtjkcbigmebbkkaaDoorY03
import Derived.Test.YtjkcbigmebbkkaaDoorY04
import Derived.Test.YtjkcbigmebbkkaaDoorY05
import Derived.Test.YtjkcbigmebbkkaaDoorY06
import Derived.Test.YtjkcbigmebbkkaaDoorY07
import Derived.Test.YtjkcbigmebbkkaaDoorY08
import Derived.Test.YtjkcbigmebbkkaaDoorY09
import Derived.Test.YtjkcbigmebbkkaaDoorY10
import Derived.Test.YtjkcbigmebbkkaaDoorY11
import Derived.Test.YtjkcbigmebbkkaaDoorY12
import Derived.Test.YtjkcbigmebbkkaaDoorY13
import Derived.Test.YtjkcbigmebbkkaaDoorY14
set_option linter.unusedSimpArgs false
set_option linter.unusedVariables false
namespace Go.Proofs.YtjkcbigmebbkkaaDoor
open Go.RowKit Go.Lib Go.Maps

theorem mread_any {w : World} {ao : Option Addr} {cap : Nat} {l : List Cm} (hT : SpanCells w) (hC : Cms w ao cap l) (h : Int) :
    Calls Tryd.prog 63 #[.slice ao l.length cap, .int .i64 h] w fun e w' => RgP w (rgA l h) e w' := by
  by_cases hb : 0 ≤ h ∧ h ≤ 6 ∧ l.length ≤ 64
  · obtain ⟨n, rfl⟩ : ∃ n : Nat, h = n := ⟨h.toNat, by omega⟩
    exact mread_ok hT hC n (by omega) hb.2.2
  · exact mread_bad ⟨hC.1, hC.2.1⟩ h hb
theorem mread_ck {w : World} {ao : Option Addr} {cap : Nat} {l : List Cm} (hT : SpanCells w) (hC : Cms w ao cap l) (h : Int) :
    Calls Tryd.prog 63 #[.slice ao l.length cap, .int .i64 h] w fun e w' => ∃ a1 a2 a3 l1 l2 l3 c1 c2 c3, e = .returned (.tuple #[.agg #[.slice a1 l1 c1, .slice a2 l2 c2, .slice a3 l3 c3], .int .i64 (ckE l h)]) ∧ Below w.heap.size w w' := by
  refine (mread_any hT hC h).mono ?_
  rintro e w' ⟨hb, ⟨ho, rfl⟩ | ⟨g, sv, lv, hv, q, R, ho, rfl, hG⟩⟩
  · have : ckA l h = false := by rw [← rg_ck, ho]; rfl
    refine ⟨none, none, none, 0, 0, 0, 0, 0, 0, ?_, hb⟩
    unfold ckE; rw [this]; rfl
  · have : ckA l h = true := by rw [← rg_ck, ho]; rfl
    obtain ⟨sa, sc, rfl, _⟩ := ownI_form hG.slots
    obtain ⟨ha, hc, rfl, _⟩ := ownI_form hG.holes
    obtain ⟨la, lc, rfl⟩ := row_form' hG.row
    have e0 : ckE l h = 0 := by unfold ckE; rw [this]; rfl
    rw [e0]
    exact ⟨sa, la, ha, g.slots.length, q.length, g.holes.length, sc, lc, hc, rfl, hb⟩
set_option maxHeartbeats 1000000 in
theorem mcheck_any {w : World} {ao : Option Addr} {cap : Nat} {l : List Cm} (hT : SpanCells w) (hC : Cms w ao cap l) (h : Int) :
    Calls Tryd.prog 35 #[.slice ao l.length cap, .int .i64 h] w fun e w' => e = .returned (.int .i64 (ckE l h)) ∧ Below w.heap.size w w' := by
  have c := mread_ck hT hC h
  generalize ckE l h = z at *
  clear hT hC
  go_enter Tryd.func35, Tryd.ntmps35
  go_wp2_with fail
  refine c.mono ?_
  rintro e w1 ⟨a1, a2, a3, l1, l2, l3, c1, c2, c3, rfl, hb⟩
  have HB : Hid (_) := hb
  clear c hb
  go_wp2_with fail
  go_ret
  exact ⟨rfl, HB.out.alloc HB.out.size _⟩

set_option maxRecDepth 20000 in
set_option maxHeartbeats 2000000 in
theorem index_str {w : World} {na : Option Addr} {nc : Nat} {ks : List ByteArray} {s : ByteArray} (hS : Strs w na nc ks) :
    Calls Tryd.prog 60 #[.slice na ks.length nc, .string s] w fun e w' => e = .returned (.int .i64 (numW ks s)) ∧ Below w.heap.size w w' := by
  have HS : Hid (Strs w na nc ks) := hS
  have hm := hS.1
  have hm2 := hS.2.1
  unfold maxLen at hm2
  obtain ⟨Z, hZ⟩ : ∃ Z, numW ks s = Z := ⟨_, rfl⟩
  have HZ : Hid (numW ks s = Z) := hZ
  rw [hZ]
  clear hS hZ
  go_enter Tryd.func60, Tryd.ntmps60
  go_wp2_with fail
  go_loopw [8] (fun i wr => ∃ k : Nat, k ≤ ks.length ∧ i = .int .i64 k ∧ Hid ((ks.take k).any (fun y => decide (y = s)) = false) ∧ Below w.heap.size w wr) (fun i _ => ks.length - (RowKit.intOf i).toNat)
  case atStart => exact ⟨0, by omega, rfl, by show _ = _; simp, Below.refl _ _⟩
  case round =>
    obtain ⟨k, hk, rfl, hA, hbw⟩ := hrel
    by_cases hlt : k < ks.length
    · obtain ⟨b, o, rfl, hb, hc⟩ := HS.out.cell hlt
      have hc := (hbw.cell (p := ⟨b, o + k, none⟩) hb).trans hc
      have HB : Hid (_) := hbw
      have hgk : ks.getD k ⟨#[]⟩ = ks[k] := by simp [hlt]
      by_cases he : ks.getD k ⟨#[]⟩ = s
      · have HR : Hid (Z = (k : Int)) := by
          show Z = _
          rw [← HZ.out, numW_mem (by rw [← he, hgk]; exact List.getElem_mem hlt), numL_stop ks s k hA.out hlt (by rw [← hgk]; exact he)]
        have hq : (s.toList == (ks.getD k ⟨#[]⟩).toList) = true := by rw [he]; simp
        rw [he] at hc
        clear hbw he hgk hq
        go_wp2_with fail
        go_ret
        exact ⟨by rw [HR.out] <;> rfl, HB.out⟩
      · have HR : Hid ((ks.take (k + 1)).any (fun y => decide (y = s)) = false) := by
          show _ = _
          rw [List.take_succ_eq_append_getElem hlt, List.any_append, hA.out]
          rw [hgk] at he
          simp [he]
        have hq : (s.toList == (ks.getD k ⟨#[]⟩).toList) = false := by rw [beq_toLisO]; exact decide_eq_false (Ne.symm he)
        clear hbw he hgk
        generalize ks.getD k ⟨#[]⟩ = y at *
        go_wp2_with fail
        exact ⟨⟨k + 1, by omega, by go_num, HR.out, HB.out⟩, by simp [RowKit.intOf]; omega⟩
    · have hke : k = ks.length := by omega
      subst hke
      rw [List.take_length] at hA
      have HR : Hid (Z = -1) := by
        show Z = _
        rw [← HZ.out]; unfold numW; rw [hA.out]; rfl
      have HB : Hid (_) := hbw
      clear hbw
      go_wp2_with fail
      go_ret
      exact ⟨by rw [HR.out] <;> rfl, HB.out⟩

/-- Block B is a map of n stores, which holds f. -/
def MapF (w : World) (B n : Nat) (f : ByteArray → Option Int) : Prop :=
  ∃ D : DataW Unit, w.ownsMap Tryd.prog 9 (plainElem (H := Unit) Tryd.prog 3) B n D ∧ (∀ s, D.atKey (klB s) (.lit (.int .i64 0)) = .lit (.int .i64 ((f s).getD 0))) ∧ (∀ s, has D (klB s) = (f s).isSome)
theorem MapF.made (w : World) : MapF (w.alloc (.map #[] 0)) w.heap.size 0 fun _ => none :=
  ⟨.map [], World.ownsMap_made _ _ _ _, fun s => rfl, fun s => rfl⟩
theorem MapF.lt {w : World} {B n : Nat} {f : ByteArray → Option Int} (h : MapF w B n f) : B < w.heap.size := let ⟨_, h, _⟩ := h; World.ownsMap.lt h
theorem MapF.kept {w w' : World} {B n : Nat} {f : ByteArray → Option Int} {row : Option Nat} (h : MapF w B n f) (hg : w.grownBy w' row) (hne : some B ≠ row) : MapF w' B n f := let ⟨D, h, r⟩ := h; ⟨D, World.ownsMap.kept h hg hne, r⟩
theorem MapF.setCell {w : World} {B n : Nat} {f : ByteArray → Option Int} (h : MapF w B n f) {a : Addr} (ha : B ≠ a.block) (u : Value) : MapF (w.setCell a u) B n f := let ⟨D, h, r⟩ := h; ⟨D, World.ownsMap.setCell h ha u, r⟩
theorem MapF.below {w w' : World} {B n : Nat} {f : ByteArray → Option Int} (h : MapF w B n f) (hb : Below w.heap.size w w') : MapF w' B n f :=
  h.kept (row := none) ⟨hb.os, hb.tape, hb.output, hb.size, fun k hk _ => hb.block k hk⟩ (by simp)
theorem MapF.isMap {w : World} {B n : Nat} {f : ByteArray → Option Int} (h : MapF w B n f) : ∀ cs T fr, w.heap[B]? ≠ some (.cells cs T fr) := fun cs T fr e => by
  obtain ⟨D, ⟨es, c, h5, _⟩, _⟩ := h
  rw [e] at h5; cases h5
theorem MapF.look2 {w : World} {B n : Nat} {f : ByteArray → Option Int} (h : MapF w B n f) {s : ByteArray} (hs : s.size ≤ maxLen) :
    (Instr.lookup 97 (.map (some B)) (.string s) true).run Tryd.prog w = .ok (.tuple #[.int .i64 ((f s).getD 0), .bool (f s).isSome]) w := by
  obtain ⟨D, hD, hc, hh⟩ := h
  obtain ⟨v, ps, hr, hv⟩ := hD.look_ok cntLaw Tryd.underlying97 (zeroInt w) (plainElem_int Tryd.underlying3 (show (Lit.int .i64 0).wf = true by decide)) (keyB hs)
  obtain ⟨c, rfl, hc2, _⟩ := plainElem_int_inv Tryd.underlying3 hv
  have e : c = (f s).getD 0 := by
    have h1 := hc s
    have h2 := congrArg Prod.fst hc2
    simp only at h2
    rw [h1] at h2
    simpa using h2.symm
  rw [hr, e, hh s]
/-- A name more. -/
theorem MapF.put {w : World} {B n : Nat} {f : ByteArray → Option Int} (h : MapF w B n f) (hn : n ≤ 1000) {s : ByteArray} (hs : s.size ≤ maxLen) {z : Int} (hz : -1000000 ≤ z ∧ z ≤ 1000000) :
    ∃ (w' : World), (Instr.mapUpdate 97 (.map (some B)) (.string s) (.int .i64 z)).run Tryd.prog w = .ok () w' ∧ MapF w' B (n + 1) (fun t => if t = s then some z else f t) ∧ w.grownBy w' (some B) := by
  obtain ⟨D, hD, hc, hh⟩ := h
  have hwf : (Lit.int .i64 z).wf = true := by
    have e1 : IntKind.min .i64 = -9223372036854775808 := by decide
    have e2 : IntKind.max .i64 = 9223372036854775807 := by decide
    simp only [Lit.wf, e1, e2, Bool.and_eq_true, decide_eq_true_eq]
    omega
  obtain ⟨w', h1, h2, h3⟩ := World.ownsMap.update hD cntLaw Tryd.underlying97 (by unfold maxLen; omega) (keyB hs) (plainElem_int Tryd.underlying3 hwf)
  refine ⟨w', h1, ⟨_, h2, fun t => ?_, fun t => ?_⟩, h3⟩
  · show _ = DataW.lit (Lit.int .i64 ((if t = s then some z else f t).getD 0))
    by_cases e : t = s
    · subst e
      rw [atKey_put_same hD.isMap (isKeyB t), if_pos rfl]; rfl
    · rw [atKey_put_other (fun e2 => e (klB_inj e2)), hc t, if_neg e]
  · show _ = (if t = s then some z else f t).isSome
    by_cases e : t = s
    · subst e
      rw [has_put_same hD.isMap (isKeyB t), if_pos rfl]; rfl
    · rw [has_put_other (fun e2 => e (klB_inj e2)), hh t, if_neg e]
end Go.Proofs.YtjkcbigmebbkkaaDoor

set_option linter.unusedSimpArgs false
set_option linter.unusedVariables false
namespace Go.Proofs.YtjkcbigmebbkkaaDoor
open Go.RowKit Go.Lib Go.Maps Go.Deep

/-- Nodes of the call's own whose kids are others'. -/
structure ClN (w : World) (base B : Nat) (v : Value) (p : List (Nd × Value)) : Prop where
  row : w.ownsRow base 71 4 v p.length (ndCells p)
  kids : ∀ q ∈ p, Ints w B q.2 q.1.kids
theorem ClN.nodes {w : World} {base B C : Nat} {v : Value} {p : List (Nd × Value)} (h : ClN w base B v p) (hB : w.heap.size ≤ C) (hC : B ≤ C) : Nodes w C v (p.map (·.1)) := by
  obtain ⟨h1, h2⟩ := h.row
  rcases h2 with ⟨rfl, h0⟩ | ⟨g, cap, cur, rfl, hb, hg, hn, hm, hs, ht⟩
  · have : p = [] := List.length_eq_zero_iff.1 h0
    subst this
    exact ⟨none, 0, rfl, by simp, by simp, .inl rfl⟩
  · refine ⟨_, cap, by simp, by simpa using hn, hm, .inr ⟨g, 0, rfl, ?_, fun i hi => ?_⟩⟩
    · have := lt_of_block hg; omega
    · simp at hi
      have hp : p[i]? = some (p[i].1, p[i].2) := by simp [hi]
      have hx : (p.map (·.1)).getD i nd0 = p[i].1 := by simp [hi]
      obtain ⟨a0, a1, a2, a3⟩ := ndCells_at p i _ _ hp
      have hc : ∀ j, j < p.length * 4 → w.cell? ⟨g, j, none⟩ = (ndCells p)[j]? := by
        intro j hj
        have : w.cell? ⟨g, j, none⟩ = cur[j]? := by simp [World.cell?, hg]
        rw [this, ← Array.getElem?_toList, ← ht, List.getElem?_take, if_pos (by omega)]
      rw [hx]
      refine ⟨p[i].2, ?_, ?_, ?_, ?_, ?_⟩
      · rw [Nat.zero_add, hc _ (by omega), a0]
      · rw [Nat.zero_add, hc _ (by omega), a1]
      · rw [Nat.zero_add, hc _ (by omega), a2]
      · rw [Nat.zero_add, hc _ (by omega), a3]
      · exact (h.kids p[i] (by simp)).mono hC

theorem eql_nilN (ao : Option Addr) (n c : Nat) (w : World) : (binOp .eql 22 (.slice ao n c) (.slice none 0 0)).run Tryd.prog w = .ok (.bool ao.isNone) w := by
  cases ao <;> kernel_rfl

theorem nd_one {w : World} {B b o : Nat} {l : List Nd} (h : ∀ i, i < l.length → ∃ kv, NodeAt w B b (o + i * 4) (l.getD i nd0) kv) : ∃ p : List (Nd × Value), p.map (·.1) = l ∧ (∀ q ∈ p, Ints w B q.2 q.1.kids) ∧ ∀ j u, (ndCells p)[j]? = some u → w.cell? ⟨b, o + j, none⟩ = some u := by
  have : Inhabited Value := ⟨.slice none 0 0⟩
  obtain ⟨kf, hk⟩ := choose_lt h
  refine ⟨(List.range l.length).map fun i => (l.getD i nd0, kf i), ?_, ?_, ?_⟩
  · apply List.ext_getElem?
    intro i
    by_cases hi : i < l.length
    · simp [hi]
    · simp [hi]
  · intro q hq
    obtain ⟨i, hi, rfl⟩ := List.mem_map.1 hq
    rw [List.mem_range] at hi
    exact (hk i hi).kids
  · intro j u hj
    have hjl : j < l.length * 4 := by
      have := (List.getElem?_eq_some_iff.1 hj).1
      rw [ndCells_length] at this; simpa using this
    have hi : j / 4 < l.length := by omega
    have hp : ((List.range l.length).map fun i => (l.getD i nd0, kf i))[j / 4]? = some (l.getD (j / 4) nd0, kf (j / 4)) := by simp [hi]
    obtain ⟨a0, a1, a2, a3⟩ := ndCells_at _ _ _ _ hp
    have hN := hk (j / 4) hi
    have hr : j % 4 = 0 ∨ j % 4 = 1 ∨ j % 4 = 2 ∨ j % 4 = 3 := by omega
    rcases hr with hr | hr | hr | hr
    · have e : j = j / 4 * 4 := by omega
      rw [← e] at a0
      rw [a0] at hj; cases hj
      have := hN.c0; rw [← e] at this; exact this
    · have e : j = j / 4 * 4 + 1 := by omega
      rw [← e] at a1
      rw [a1] at hj; cases hj
      have := hN.c1; rw [Nat.add_assoc, ← e] at this; exact this
    · have e : j = j / 4 * 4 + 2 := by omega
      rw [← e] at a2
      rw [a2] at hj; cases hj
      have := hN.c2; rw [Nat.add_assoc, ← e] at this; exact this
    · have e : j = j / 4 * 4 + 3 := by omega
      rw [← e] at a3
      rw [a3] at hj; cases hj
      have := hN.c3; rw [Nat.add_assoc, ← e] at this; exact this

theorem nd_cell1 {p : List (Nd × Value)} (h : ∀ q ∈ p, ∃ a n c, q.2 = .slice a n c) : ∀ u ∈ ndCells p, u.oneCell' = true := by
  induction p with
  | nil => simp [ndCells]
  | cons a r ih =>
    obtain ⟨x, kv⟩ := a
    obtain ⟨ka, kn, kc, rfl⟩ := h (x, kv) (by simp)
    intro u hu
    simp only [ndCells, List.mem_cons] at hu
    rcases hu with rfl | rfl | rfl | rfl | hu
    · rfl
    · rfl
    · rfl
    · rfl
    · exact ih (fun q hq => h q (List.mem_cons_of_mem _ hq)) u hu

theorem ndCells_op (p : List (Nd × Value)) (k : Nat) (x : Nd) (kv : Value) (z : Int) (h : p[k]? = some (x, kv)) : ndCells (p.set k ({ x with op := z }, kv)) = (ndCells p).set (k * 4) (.int .i64 z) := by
  induction p generalizing k with
  | nil => simp at h
  | cons a r ih =>
    obtain ⟨y, kw⟩ := a
    cases k with
    | zero =>
      simp at h
      obtain ⟨rfl, rfl⟩ := h
      simp [ndCells]
    | succ k =>
      have := ih k (by simpa using h)
      have e : (k + 1) * 4 = k * 4 + 4 := by omega
      rw [e]
      simp [ndCells, this]

/-- Between two nodes: those ahead of k are filled. -/
structure SnMid (w : World) (l : List Nd) (M : Nat) (v : Value) (k : Nat) (wr : World) : Prop where
  p : ∃ p, p.map (·.1) = (l.take k).map fillN ++ l.drop k ∧ ClN wr w.heap.size w.heap.size v p
  map : ∃ n, n ≤ k ∧ CntM wr M n (hlsL (l.take k))
  below : Below w.heap.size w wr
  le : w.heap.size ≤ M

theorem fill_step {l : List Nd} {k : Nat} (hk : k < l.length) (h : (l.getD k nd0).op ≠ 18) : (l.take (k + 1)).map fillN ++ l.drop (k + 1) = (l.take k).map fillN ++ l.drop k := by
  rw [List.take_succ_eq_append_getElem hk, List.map_append, List.drop_eq_getElem_cons hk]
  have e : l.getD k nd0 = l[k] := by simp [hk]
  rw [e] at h
  simp [fillN, h]
/-- The cell that is set. -/
theorem SnMid.at_ {w : World} {l : List Nd} {M : Nat} {v : Value} {k : Nat} {wr : World} (h : SnMid w l M v k wr) (hk : k < l.length) : ∃ g cap, v = .slice (some ⟨g, 0, none⟩) l.length cap ∧ w.heap.size ≤ g ∧ g < wr.heap.size ∧ g ≠ M ∧ l.length ≤ cap ∧ cap ≤ maxLen ∧ (∃ c, wr.cell? ⟨g, k * 4, none⟩ = some (.int .i64 c)) ∧ wr.frozen? ⟨g, k * 4, none⟩ = false := by
  obtain ⟨⟨p, hp, hc⟩, ⟨n, hn, hm⟩, hb, hle⟩ := h
  have hpl : p.length = l.length := by have := congrArg List.length hp; simp at this; omega
  rcases hc.row.2 with ⟨rfl, h0⟩ | ⟨g, cap, cur, rfl, hg0, hg, h1, h2, h3, h4⟩
  · omega
  · refine ⟨g, cap, by rw [hpl], hg0, lt_of_block hg, ?_, by omega, h2, ?_, frozen_of_heap hg _⟩
    · rintro rfl
      obtain ⟨D, ⟨es, c, h5, _⟩, _⟩ := hm
      rw [hg] at h5; cases h5
    · have hp2 : p[k]? = some (p[k].1, p[k].2) := by simp [hpl, hk]
      have := (ndCells_at p k _ _ hp2).1
      refine ⟨p[k].1.op, ?_⟩
      rw [cell_of_heap hg, ← Array.getElem?_toList, ← this, ← h4, List.getElem?_take, if_pos (by omega)]

end Go.Proofs.YtjkcbigmebbkkaaDoor

set_option linter.unusedSimpArgs false
set_option linter.unusedVariables false
namespace Go.Proofs.YtjkcbigmebbkkaaDoor
open Go.RowKit Go.Lib Go.Maps Go.Deep

structure PrM (w : World) (q : List Nd) (hs ms : List ByteArray) (n R M : Nat) (v nv : Value) (wr : World) : Prop where
  p : ∃ p, p.map (·.1) = q ∧ ClN wr w.heap.size w.heap.size v p
  row : wr.ownsRow w.heap.size 9 1 nv hs.length (hs.map Value.string)
  map : NumM wr M n ms
  blk : wr.heap[R]? = some (.cells #[v, nv, .map (some M)] 135)
  below : Below w.heap.size w wr
  leM : w.heap.size ≤ M
  leR : w.heap.size < R
  res : wr.heap[w.heap.size]? = some (.cells #[.slice none 0 0, .slice none 0 0, .map none] 135)

theorem row_ne_reading {w : World} {base : Nat} {e : TypeId} {s n R : Nat} {v : Value} {xs : List Value} {cs : Array Value} (h : w.ownsRow base e s v n xs) (hR : w.heap[R]? = some (.cells cs 135)) (hne : e ≠ 135) : v.ownBlock ≠ some R := by
  rcases h.2 with ⟨rfl, _⟩ | ⟨g, cap, cur, rfl, _, hg, _⟩
  · simp [Value.ownBlock]
  · intro hh
    simp [Value.ownBlock] at hh
    subst hh
    rw [hR] at hg
    simp at hg
    exact hne hg.2.symm
theorem row_ne_map {w : World} {base : Nat} {e : TypeId} {s n M k : Nat} {v : Value} {xs : List Value} {ms : List ByteArray} (h : w.ownsRow base e s v n xs) (hM : NumM w M k ms) : v.ownBlock ≠ some M := by
  rcases h.2 with ⟨rfl, _⟩ | ⟨g, cap, cur, rfl, _, hg, _⟩
  · simp [Value.ownBlock]
  · intro hh
    simp [Value.ownBlock] at hh
    subst hh
    obtain ⟨D, ⟨es, c, h5, _⟩, _⟩ := hM
    rw [hg] at h5; cases h5
theorem PrM.neRM {w : World} {q : List Nd} {hs ms : List ByteArray} {n R M : Nat} {v nv : Value} {wr : World} (h : PrM w q hs ms n R M v nv wr) : R ≠ M := by
  rintro rfl
  obtain ⟨D, ⟨es, c, h5, _⟩, _⟩ := h.map
  rw [h.blk] at h5; cases h5
theorem PrM.ltR {w : World} {q : List Nd} {hs ms : List ByteArray} {n R M : Nat} {v nv : Value} {wr : World} (h : PrM w q hs ms n R M v nv wr) : R < wr.heap.size := lt_of_block h.blk

/-- Whatever is written elsewhere. -/
theorem PrM.grow {w : World} {q : List Nd} {hs ms : List ByteArray} {n R M : Nat} {v nv : Value} {wr w' : World} (h : PrM w q hs ms n R M v nv wr) (hb : Below wr.heap.size wr w') : PrM w q hs ms n R M v nv w' := by
  obtain ⟨⟨p, hp, hc⟩, hr, hm, hk, hbw, h1, h2, h3⟩ := h
  have hs' := hbw.size
  exact ⟨⟨p, hp, ownsRow_below hc.row hb, fun x hx => (hc.kids x hx).below (hb.mono hs') (Nat.le_refl _)⟩, ownsRow_below hr hb, hm.below hb, (hb.block R (lt_of_block hk)).trans hk, hbw.trans (hb.mono hs'), h1, h2, (hb.block _ (lt_of_block h3)).trans h3⟩
theorem PrM.alloc {w : World} {q : List Nd} {hs ms : List ByteArray} {n R M : Nat} {v nv : Value} {wr : World} (h : PrM w q hs ms n R M v nv wr) (o : Obj) : PrM w q hs ms n R M v nv (wr.alloc o) := h.grow ((Below.refl _ _).alloc (Nat.le_refl _) _)

theorem PrM.at_ {w : World} {q : List Nd} {hs ms : List ByteArray} {n R M : Nat} {v nv : Value} {wr : World} (h : PrM w q hs ms n R M v nv wr) {k : Nat} (hk : k < q.length) : ∃ g cap, v = .slice (some ⟨g, 0, none⟩) q.length cap ∧ w.heap.size ≤ g ∧ g < wr.heap.size ∧ g ≠ M ∧ g ≠ R ∧ q.length ≤ cap ∧ cap ≤ maxLen ∧ wr.cell? ⟨g, k * 4, none⟩ = some (.int .i64 (q.getD k nd0).op) ∧ wr.frozen? ⟨g, k * 4, none⟩ = false := by
  obtain ⟨⟨p, hp, hc⟩, hr, hm, hR, hb, hM1, hR1, hres⟩ := h
  have hpl : p.length = q.length := by rw [← hp]; simp
  have hnM := row_ne_map hc.row hm
  have hnR := row_ne_reading hc.row hR (by decide)
  rcases hc.row.2 with ⟨rfl, h0⟩ | ⟨g, cap, cur, rfl, hg0, hg, h1, h2, h3, h4⟩
  · omega
  · refine ⟨g, cap, by rw [hpl], hg0, lt_of_block hg, fun e => hnM (by rw [e]; rfl), fun e => hnR (by rw [e]; rfl), by omega, h2, ?_, frozen_of_heap hg _⟩
    have hp2 : p[k]? = some (p[k].1, p[k].2) := by simp [hpl, hk]
    have := (ndCells_at p k _ _ hp2).1
    have e : q.getD k nd0 = p[k].1 := by subst hp; simp [show k < p.length by omega]
    rw [cell_of_heap hg, ← Array.getElem?_toList, e, ← this, ← h4, List.getElem?_take, if_pos (by omega)]
theorem PrM.cells {w : World} {q : List Nd} {hs ms : List ByteArray} {n R M : Nat} {v nv : Value} {wr : World} (h : PrM w q hs ms n R M v nv wr) : wr.cell? ⟨R, 0, none⟩ = some v ∧ wr.cell? ⟨R, 1, none⟩ = some nv ∧ wr.cell? ⟨R, 2, none⟩ = some (.map (some M)) ∧ (∀ j, wr.frozen? ⟨R, j, none⟩ = false) := by
  refine ⟨?_, ?_, ?_, fun j => frozen_of_heap h.blk _⟩ <;> rw [cell_of_heap h.blk] <;> rfl

theorem PrM.setOp {w : World} {q : List Nd} {hs ms : List ByteArray} {n R M : Nat} {g cap : Nat} {nv : Value} {wr : World} (h : PrM w q hs ms n R M (.slice (some ⟨g, 0, none⟩) q.length cap) nv wr) {k : Nat} (hk : k < q.length) (z : Int) :
    PrM w (q.set k { q.getD k nd0 with op := z }) hs ms n R M (.slice (some ⟨g, 0, none⟩) q.length cap) nv (wr.setCell ⟨g, k * 4, none⟩ (.int .i64 z)) := by
  obtain ⟨g', cap', e1, hg0, hgl, hgM, hgR, _⟩ := h.at_ hk
  cases e1
  obtain ⟨⟨p, hp, hc⟩, hr, hm, hR, hb, hM1, hR1, hres⟩ := h
  have hpl : p.length = q.length := by rw [← hp]; simp
  have hpk : p[k]? = some (q.getD k nd0, (p.getD k (nd0, .slice none 0 0)).2) := by
    have hkp : k < p.length := by omega
    subst hp; simp [hkp]
  have hrow : wr.ownsRow w.heap.size 71 4 (.slice (some ⟨g, 0, none⟩) q.length cap) q.length (ndCells p) := by have := hc.row; rwa [hpl] at this
  have hbs : Below w.heap.size wr (wr.setCell ⟨g, k * 4, none⟩ (.int .i64 z)) := (Below.refl _ _).setCell (p := ⟨g, k * 4, none⟩) hg0 _
  refine ⟨⟨p.set k ({ q.getD k nd0 with op := z }, (p.getD k (nd0, .slice none 0 0)).2), ?_, ?_, ?_⟩, ?_, hm.setCell (by show M ≠ g; omega) _, ?_, hb.setCell (p := ⟨g, k * 4, none⟩) hg0 _, hM1, hR1, ?_⟩
  · rw [List.map_set, hp]
  · rw [ndCells_op p k _ _ z hpk, List.length_set, hpl]
    exact own_put hrow (by rw [ndCells_length]; omega)
  · intro x hx
    have hin : ∀ x ∈ p, Ints (wr.setCell ⟨g, k * 4, none⟩ (.int .i64 z)) w.heap.size x.2 x.1.kids := fun x hx => (hc.kids x hx).below hbs (Nat.le_refl _)
    rcases List.mem_or_eq_of_mem_set hx with hx | rfl
    · exact hin x hx
    · exact hin (q.getD k nd0, _) (List.mem_of_getElem? hpk)
  · refine own_set' hr (fun e => ?_)
    rcases ownBlock_ne hr hc.row (by decide) with h | h
    · rw [h] at e; cases e
    · exact h (by rw [e]; rfl)
  · rw [Deep.blk_setCell_other _ _ _ _ (by show R ≠ g; omega)]; exact hR
  · rw [Deep.blk_setCell_other _ _ _ _ (by
      show w.heap.size ≠ g
      intro e
      exact row_ne_reading hc.row hres (by decide) (by rw [e]; rfl))]; exact hres
/-- The map has turned. -/
theorem PrM.mapped {w : World} {q : List Nd} {hs ms ms' : List ByteArray} {n n' R M : Nat} {v nv : Value} {wr w' : World} (h : PrM w q hs ms n R M v nv wr) (hm' : NumM w' M n' ms') (hg : wr.grownBy w' (some M)) : PrM w q hs ms' n' R M v nv w' := by
  have hne := h.neRM
  obtain ⟨⟨p, hp, hc⟩, hr, hm, hR, hb, hM1, hR1, hres⟩ := h
  have hs' := hb.size
  have hb2 : Below w.heap.size wr w' := (Below.refl _ _).grown hg hs' (fun k hk => by cases hk; exact hM1)
  refine ⟨⟨p, hp, World.ownsRow.kept hc.row hg (.inr (row_ne_map hc.row hm)), fun x hx => (hc.kids x hx).below hb2 (Nat.le_refl _)⟩, World.ownsRow.kept hr hg (.inr (row_ne_map hr hm)), hm', ?_, hb.trans hb2, hM1, hR1, (hg.block _ (lt_of_block hres) (fun e => by
    simp at e
    obtain ⟨D, ⟨es, c, h5, _⟩, _⟩ := hm
    rw [← e, hres] at h5; cases h5)).trans hres⟩
  exact (hg.block R (lt_of_block hR) (by simpa using hne)).trans hR
/-- A name more. -/
theorem PrM.named {w : World} {q : List Nd} {hs ms : List ByteArray} {n R M : Nat} {v nv nv' : Value} {wr w' : World} {s : ByteArray} (h : PrM w q hs ms n R M v nv wr)
    (hown : w'.ownsRow w.heap.size 9 1 nv' (hs.length + 1) (hs.map Value.string ++ [.string s])) (hg : wr.grownBy w' nv.ownBlock) : PrM w q (hs ++ [s]) ms n R M v nv' (w'.setCell ⟨R, 1, none⟩ nv') := by
  have hltR := h.ltR
  obtain ⟨⟨p, hp, hc⟩, hr, hm, hR, hb, hM1, hR1, hres⟩ := h
  have hs' := hb.size
  have hb2 : Below w.heap.size wr w' := (Below.refl _ _).grown hg hs' (fun k hk => (own_block' hr k hk).1)
  have hnR := row_ne_reading hr hR (by decide)
  have hnM := row_ne_map hr hm
  have hR' : w'.heap[R]? = some (.cells #[v, nv, .map (some M)] 135) := (hg.block R hltR (Ne.symm hnR)).trans hR
  have hc' : w'.ownsRow w.heap.size 71 4 v p.length (ndCells p) := World.ownsRow.kept hc.row hg (ownBlock_ne hc.row hr (by decide))
  have hm' : NumM w' M n ms := hm.kept hg (Ne.symm hnM)
  have hMR : M ≠ R := by
    rintro rfl
    obtain ⟨D, ⟨es, c, h5, _⟩, _⟩ := hm
    rw [hR] at h5; cases h5
  refine ⟨⟨p, hp, own_set' hc' (row_ne_reading hc' hR' (by decide)), fun x hx => ((hc.kids x hx).below hb2 (Nat.le_refl _)).below ((Below.refl _ _).setCell (p := ⟨R, 1, none⟩) (Nat.le_of_lt hR1) _) (Nat.le_refl _)⟩, ?_, hm'.setCell (by show M ≠ R; exact hMR) _, ?_, (hb.trans hb2).setCell (p := ⟨R, 1, none⟩) (Nat.le_of_lt hR1) _, hM1, hR1, ?_⟩
  · have e : (hs ++ [s]).length = hs.length + 1 := by simp
    rw [e, List.map_append]
    exact own_set' hown (row_ne_reading hown hR' (by decide))
  · rw [heap_setCell_same w' R 1 _ _ _ hR']; rfl
  · rw [Deep.blk_setCell_other _ _ _ _ (by show w.heap.size ≠ R; omega)]
    exact (hg.block _ (lt_of_block hres) (Ne.symm (row_ne_reading hr hres (by decide)))).trans hres
def CloneB (w : World) (B : Nat) (l : List Nd) (e : Ending) (w' : World) : Prop := ∃ v' p, e = .returned v' ∧ p.map (·.1) = l ∧ ClN w' w.heap.size B v' p ∧ Below w.heap.size w w'

set_option maxRecDepth 20000 in
set_option maxHeartbeats 1000000 in
theorem clone_anyB {w : World} {B : Nat} {ao : Option Addr} {cap : Nat} {l : List Nd} (hN : Nodes w B (.slice ao l.length cap) l) (hB : B ≤ w.heap.size) (hlen : l.length * 56 ≤ 140737488355328) :
    Calls Tryd.prog 108 #[.slice ao l.length cap] w fun e w' => CloneB w B l e w' := by
  have hnil := eql_nilN
  obtain ⟨i0, hi, hz0, hz1, hz2⟩ := info_parts Tryd.infoNode
  obtain ⟨ao', cap', e1, hl, hm, hc⟩ := hN
  cases e1
  cases ao with
  | none =>
    have hz : l = [] := by
      rcases hc with h | ⟨b, o, h, _⟩
      · exact h
      · cases h
    subst hz
    go_enter Tryd.func108, Tryd.ntmps108
    go_wp2
    go_ret
    exact ⟨_, [], rfl, rfl, ⟨World.ownsRow_nil _ _ _ _, by simp⟩, Below.refl _ _⟩
  | some ad =>
    obtain ⟨p, hp1, hp2, hp3⟩ : ∃ p : List (Nd × Value), p.map (·.1) = l ∧ (∀ q ∈ p, Ints w B q.2 q.1.kids) ∧ ∀ j u, (ndCells p)[j]? = some u → w.cell? (ad.add j) = some u := by
      rcases hc with h | ⟨b, o, h, _, hc⟩
      · subst h; exact ⟨[], rfl, by simp, by simp [ndCells]⟩
      · cases h
        obtain ⟨p, h1, h2, h3⟩ := nd_one hc
        exact ⟨p, h1, h2, fun j u hj => by rw [Go.WideShapes.add_plain]; exact h3 j u hj⟩
    have hpl : p.length = l.length := by rw [← hp1]; simp
    have HP1 : Hid (p.map (·.1) = l) := hp1
    have HP2 : Hid (∀ q ∈ p, Ints w B q.2 q.1.kids) := hp2
    have hone : ∀ u ∈ ndCells p, u.oneCell' = true := nd_cell1 fun q hq => by
      obtain ⟨a, c, h, _⟩ := hp2 q hq
      exact ⟨a, _, c, h⟩
    have HN : ∀ j u, (ndCells p)[j]? = some u → (w.alloc (.cells #[] 71)).cell? (ad.add j) = some u := fun j u hj => (((Below.refl w.heap.size w).alloc (Nat.le_refl _) _).cell (World.block_lt_of_cell? w _ (hp3 j u hj))).trans (hp3 j u hj)
    have hnl : (ndCells p).length = l.length * 4 := by rw [ndCells_length, hpl]
    have hm2 : 0 + l.length ≤ maxLen := by omega
    clear hc hp1 hp2 hp3
    go_enter Tryd.func108, Tryd.ntmps108
    go_wp2_with (at_builtin; refine wpList_append_own _ rfl _ _ 22 rfl w.heap.size 71 i0 (.agg #[.int .i64 0, .int .i64 0, .string ⟨#[]⟩, .slice none 0 0]) 4 56 Tryd.underlying22 hi hz0 hz1 hz2 rfl (by decide) _ _ _ rfl (World.ownsRow_made w #[] 0 (Nat.le_refl _) (Nat.zero_le _) (by simp)) ad l.length cap (ndCells p) rfl hnl HN hone hm2 (by omega) (by simp) ?_; intro v' w1 hown hgrow hnil')
    go_ret
    have hbb : Below w.heap.size w w1 := ((Below.refl w.heap.size w).alloc (Nat.le_refl _) _).grown hgrow (by simp) (fun k hk => by have e : some w.heap.size = some k := hk; cases e; exact Nat.le_refl _)
    refine ⟨v', p, rfl, HP1.out, ⟨?_, fun q hq => (HP2.out q hq).below (hbb.mono hB) (Nat.le_refl _)⟩, hbb⟩
    rw [hpl]; simpa using hown

end Go.Proofs.YtjkcbigmebbkkaaDoor
