/-
  QTail, MaH.
-/
import Derived.Shelf.Unicode.DecodeSlow
import Derived.Laws.RangeAny
import Derived.Shelf.Strconv.Itoa0
import Derived.Shelf.Unicode.DecodeAny
import Derived.Test.YtjkcbigmebbkkaaDoorProg
import Derived.WalkKit
import Derived.Deep.DeepFit
import Derived.Lib.OthersKept
import Derived.Lib.RuneCountTail
import Derived.Deep.AppendLies
import Derived.Deep.OwnRows
import Derived.Laws.AppendOwnNone
import Derived.Deep.QuietTactic
import Derived.BigQuiet
import Derived.Deep.RegionWith
import Derived.Laws.DeepStrings4
import Derived.Laws.CopyOwn
import Derived.Laws.MakeOwn
import Derived.Deep.RegionLaw
import Derived.Below
import Derived.Deep.RegionHeld3
import Derived.Lib.QuietBelow
import Derived.StillTail
import Derived.Test.YtjkcbigmebbkkaaDoorY01
import Derived.Test.YtjkcbigmebbkkaaDoorY02
import Derived.Test.YtjkcbigmebbkkaaDoorY03
import Derived.Test.YtjkcbigmebbkkaaDoorY04
import Derived.Test.YtjkcbigmebbkkaaDoorY05
import Derived.Test.YtjkcbigmebbkkaaDoorY06
import Derived.Test.YtjkcbigmebbkkaaDoorY07
import Derived.Test.YtjkcbigmebbkkaaDoorY08
import Derived.Test.YtjkcbigmebbkkaaDoorY09
import Derived.Test.YtjkcbigmebbkkaaDoorY10
namespace Go.Proofs.YtjkcbigmebbkkaaDoor
open Go Go.Sort Go.RowKit

section
variable {P : Program} {ops : Array Oper} {md : Region.Mode} {C : World → Prop}

/-- f operations of the first n are still to come, each quiet in the class; behind them L. -/
def QHead (P : Program) (md : Region.Mode) (ops : Array Oper) (C : World → Prop) (n : Nat) (L : Array Bool → Act → Prop) : Nat → Array Bool → Act → Prop
  | 0, ls, a => L ls a
  | f + 1, ls, a => Region.ready md ops ls ≠ [] ∧ ∀ i ∈ Region.ready md ops ls, i < n ∧ qOp P ops C i (QHead P md ops C n L f (ls.setIfInBounds i true)) a

theorem QHead.any {n g : Nat} {L : Array Bool → Act → Prop} {Q : Exit → Act → World → Prop} (hL : ∀ ls a w, C w → L ls a → wpAny P md ops Q g ls a w) : ∀ (f : Nat) (ls : Array Bool) (a : Act) (w : World), C w → QHead P md ops C n L f ls a → wpAny P md ops Q (f + g) ls a w := by
  intro f
  induction f with
  | zero => intro ls a w hw h; rw [Nat.zero_add]; exact hL _ _ _ hw h
  | succ f ih =>
    intro ls a w hw h
    have e : f + 1 + g = (f + g) + 1 := by omega
    rw [e]
    exact ⟨fun h0 => absurd h0 h.1, fun i hi => wpOp_of_qOp hw (fun a' w' hw' h' => ih _ a' w' hw' h') (h.2 i hi).2⟩

/-- One that is ready, and apart from all that don't wait for it, may come first. -/
theorem QHead.first {n i : Nat} {oi : Oper} {v : Value} {L : Array Bool → Act → Prop} (hi : ops[i]? = some oi) (hsel : ∀ (j : Nat) (o : Oper) cs b, ops[j]? = some o → o.op ≠ .select cs b)
    (hs : Region.sinkB md ops n = true) (hc : Region.chainB md ops n = true) (hn : n < ops.size) (hin : i < n) (hdone : ∀ ls a, L ls a → ∀ j ∈ Region.ready md ops ls, n ≤ j) :
    ∀ (f : Nat) (ls : Array Bool) (a : Act), HeadInv md ops n ls →
      (∀ j oj, ops[j]? = some oj → j ≠ i → ls.getD j true = false → (∀ e ∈ oj.after, Region.binds md e = true → e.on ≠ i) → oi.apart ops oj = true) →
      i ∈ Region.ready md ops ls → YieldsIn P ops C oi v a → QHead P md ops C n L f (ls.setIfInBounds i true) (a.put oi.dst v) → QHead P md ops C n L (f + 1) ls a := by
  intro f
  induction f with
  | zero =>
    intro ls a inv _ hr hy H
    have hun := (mem_ready.1 hr).1
    constructor
    · intro h; rw [h] at hr; cases hr
    · intro j hj
      have hjn : j < n := Nat.lt_of_not_le fun h => tail_waits hs hc hn inv _ i rfl hin hun j h hj
      refine ⟨hjn, ?_⟩
      by_cases hji : j = i
      · subst hji; exact hy.qOp hi H
      · have := hdone _ _ H j (ready_mono hj hji); omega
  | succ f ih =>
    intro ls a inv hfree hr hy H
    have hun := (mem_ready.1 hr).1
    constructor
    · intro h; rw [h] at hr; cases hr
    · intro j hj
      have hjn : j < n := Nat.lt_of_not_le fun h => tail_waits hs hc hn inv _ i rfl hin hun j h hj
      refine ⟨hjn, ?_⟩
      by_cases hji : j = i
      · subst hji; exact hy.qOp hi H
      · obtain ⟨hjun, oj, hoj, hall⟩ := mem_ready.1 hj
        have hnot : ∀ e ∈ oj.after, Region.binds md e = true → e.on ≠ i := fun e he hb heq => by
          have h1 := hall e he hb
          rw [heq, getD_both hun] at h1
          cases h1
        have h2 := qOp_put hoj (hfree j oj hoj hji hjun hnot) (fun cs b => hsel i oi cs b hi) (fun cs b => hsel j oj cs b hoj) hy (H.2 j (ready_mono hj hji)).2
        have hfree' : ∀ k ok, ops[k]? = some ok → k ≠ i → (ls.setIfInBounds j true).getD k true = false → (∀ e ∈ ok.after, Region.binds md e = true → e.on ≠ i) → oi.apart ops ok = true := fun k ok hk hki hu hno => by
          refine hfree k ok hk hki ?_ hno
          by_cases hjk : j = k
          · subst hjk; exact hjun
          · rw [getD_set_ne true hjk] at hu; exact hu
        refine qOp_mono (fun a' h3 => ih (ls.setIfInBounds j true) a' (inv.set hj hjn) hfree' (ready_mono hr (Ne.symm hji)) h3.1 ?_) h2
        rw [Array.setIfInBounds_comm _ _ hji]
        exact h3.2

theorem QHead.lex {n g : Nat} {K : Act → Prop} (hsel : Region.noSelect ops = true) (hs : Region.sinkB md ops n = true) (hc : Region.chainB md ops n = true) (hn : n < ops.size) :
    ∀ (l : List Oper) (k : Nat) (ls : Array Bool) (a : Act), (∀ j, j < l.length → l[j]? = ops[k + j]?) → k + l.length = n → HeadInv md ops n ls → Region.lexHead md ops g l.length k ls = true → wpQuiet P ops C K l a →
      QHead P md ops C n (fun ls' a' => Region.seqB md ops g n ls' = true ∧ K a') l.length ls a := by
  intro l
  induction l with
  | nil =>
    intro k ls a _ hk _ hB h
    have : k = n := by simpa using hk
    subst this
    exact ⟨by simpa [Region.lexHead] using hB, h⟩
  | cons o l ih =>
    intro k ls a hl hk inv hB h
    have h0 : ops[k]? = some o := by simpa using (hl 0 (by simp)).symm
    simp only [List.length_cons, Region.lexHead, Bool.and_eq_true] at hB
    have hkn : k < n := by simp only [List.length_cons] at hk; omega
    have hr : k ∈ Region.ready md ops ls := by simpa using hB.1.1
    have hq : qOp P ops C k (wpQuiet P ops C K l) a := by unfold qOp; simp only [h0]; exact h
    obtain ⟨v, hy, hK⟩ := yieldsIn_of_qOp h0 hq
    refine QHead.first h0 (Region.noSelect_spec hsel) hs hc hn hkn (fun ls' a' hL => seqB_ready hL.1) l.length ls a inv (Region.free_spec h0 hB.1.2) hr hy ?_
    refine ih (k + 1) _ _ (fun j hj => ?_) (by simp only [List.length_cons] at hk; omega) (inv.set hr hkn) hB.2 hK
    have := hl (j + 1) (by simp; omega)
    simpa [Nat.add_assoc, Nat.add_comm 1 j] using this
end

/-- THE LAW, at the class 'w with new memory laid behind it'. -/
theorem wp_region_quiet_then {P : Program} {id : Nat} {Q : Exit → Act → World → Prop} {a : Act} {w : World} {l : List Oper} (n : Nat) (hm : P.follows .mixedOrders = true) (hB : Region.lexTailB .any l.toArray n = true)
    (h : wpQuiet P l.toArray (fun w' => ∃ p : Regrown, w' = grow (redrawn w p.d) p.os) (fun a' => ∀ w', (∃ p : Regrown, w' = grow (redrawn w p.d) p.os) → wpList P l.toArray Q (l.drop n) a' w') (l.take n) a) : (Code.region id l.toArray true).wp P Q a w := by
  simp only [Region.lexTailB, Bool.and_eq_true, decide_eq_true_eq] at hB
  obtain ⟨⟨⟨⟨hsel, hn⟩, hs⟩, hc⟩, hlex⟩ := hB
  have hn' : n < l.length := by simpa using hn
  have htl : (l.take n).length = n := by simp; omega
  have hdl : (l.drop n).length = l.toArray.size - n := by simp
  have inv0 : HeadInv .any l.toArray n (Array.replicate l.toArray.size false) :=
    ⟨by simp, fun j oj _ hl => (by rw [getD_replicate_false] at hl; cases hl), fun t _ ht => getD_in (by simpa using ht) (getD_replicate_false _ _)⟩
  have H := QHead.lex (P := P) (md := .any) (g := l.toArray.size - n) hsel hs hc hn (l.take n) 0 _ a (fun j hj => by
    have hj' : j < n := by rw [htl] at hj; exact hj
    simp [hj']) (by simpa using htl) inv0 (by rw [htl]; exact hlex) h
  refine wp_region_any hm ?_
  have := QHead.any (Q := Q) (g := l.toArray.size - n) (fun ls a' w' hw' hL => by
    have := wpAny_of_seq (md := .any) (Q' := Q) (l.drop n) n ls a' w' (fun j => by simp [List.getElem?_drop]) (by rw [hdl]; exact hL.1) (hL.2 w' hw')
    rwa [hdl] at this) _ _ _ { w with drawn := w.drawn + 1 } ⟨⟨w.drawn + 1, #[]⟩, by rw [grow_empty]; rfl⟩ H
  rw [htl, show n + (l.toArray.size - n) = l.toArray.size by omega] at this
  exact this
end Go.Proofs.YtjkcbigmebbkkaaDoor

set_option linter.unusedSimpArgs false
set_option linter.unusedVariables false
namespace Go.Proofs.YtjkcbigmebbkkaaDoor
open Go.RowKit Go.Lib

/-- What command says. -/
def CmdP (w : World) (base R : Nat) (o : Option Rg) (e : Ending) (w' : World) : Prop :=
  e = .returned (.bool o.isSome) ∧ Below base w w' ∧ ∀ g', o = some g' → ∃ sv lv hv q, RdG w' base R g' sv lv hv q
theorem cm_box (w : World) (kind r to op n : Int) (name : ByteArray) : ∃ wA, w.alloc (.cells #[.int .i64 kind, .int .i64 r, .int .i64 to, .int .i64 op, .int .i64 n, .string name] 68) = wA ∧ Below w.heap.size w wA ∧ (∀ W, Below wA.heap.size wA W → CmAt W w.heap.size 0 ⟨kind, r, to, op, n, name⟩) ∧ wA.heap.size = w.heap.size + 1 := by
  refine ⟨_, rfl, (Below.refl _ _).alloc (Nat.le_refl _) _, fun W hb => ?_, by simp⟩
  have hk : W.heap[w.heap.size]? = some (.cells #[.int .i64 kind, .int .i64 r, .int .i64 to, .int .i64 op, .int .i64 n, .string name] 68 (0, 0)) := (hb.block _ (by simp)).trans (MapKept.heap_alloc w _).1
  constructor <;> rw [cell_of_heap hk] <;> rfl

set_option maxRecDepth 20000 in
set_option maxHeartbeats 4000000 in
theorem command_class {w : World} {base R : Nat} {g : Rg} {sv lv hv : Value} {q : List Lk} (hT : SpanCells w) (h : RdG w base R g sv lv hv q) (c : Cm) (h1 : c.kind = 1) (hr : hasG g c.r = true) (hS : g.slots.length ≤ 1000) (hq : q.length ≤ 1000) :
    Calls Tryd.prog 86 #[.pointer (some ⟨R, 0, none⟩), cmV c] w fun e w' => CmdP w base R (cmdG g c) e w' := by
  obtain ⟨kind, r, to, op, n, name⟩ := c
  simp only at h1 hr
  subst h1
  have hr' : 0 ≤ r ∧ r < (g.slots.length : Nat) := by unfold hasG at hr; simpa using hr
  have hb0 : base ≤ w.heap.size := Nat.le_trans h.leR (Nat.le_of_lt (lt_of_block h.blk))
  obtain ⟨wA, hwA, hbA, hcA, hsA⟩ := cm_box w 1 r to op n name
  have cN := named_any ⟨1, r, to, op, n, name⟩ wA (hT.below hbA)
  have HC : Hid (∀ W, Below wA.heap.size wA W → CmAt W w.heap.size 0 ⟨1, r, to, op, n, name⟩) := hcA
  have HBA : Hid (_) := hbA
  have HH : Hid (RdG w base R g sv lv hv q) := h
  have HG : Hid (cmdG g ⟨1, r, to, op, n, name⟩ = if fitC ⟨1, r, to, op, n, name⟩ = true ∧ to = (g.slots.length : Nat) then some (lookG g ⟨1, r, to, op, n, name⟩ (arK op).toNat) else none) := by show _ = _; unfold cmdG; rw [if_pos rfl]
  have HA : Hid (fitC ⟨1, r, to, op, n, name⟩ = true → arK op ≤ 3 ∧ 0 ≤ arK op) := fun _ => by unfold arK; have := aritI_le op; omega
  obtain ⟨G, hG⟩ : ∃ G, lookG g ⟨1, r, to, op, n, name⟩ (arK op).toNat = G := ⟨_, rfl⟩
  rw [hG] at HG
  have cL := fun (W : World) (hb : Below w.heap.size w W) (h3 : (arK op).toNat ≤ 3) => look_any (h.below hb) ⟨1, r, to, op, n, name⟩ (arK op).toNat h3 hr' hS hq
  rw [hG] at cL
  have HL : Hid (_) := cL
  generalize fitC ⟨1, r, to, op, n, name⟩ = fb at *
  generalize cmdG g ⟨1, r, to, op, n, name⟩ = o at *
  obtain ⟨a0, a1, a2, a3, a4, a5⟩ := hcA wA (Below.refl _ _)
  simp only [Nat.zero_add] at a0 a1 a2 a3 a4 a5
  clear hT h hcA hbA cL hG hr
  unfold cmV at *
  simp only at *
  go_enter Tryd.func86, Tryd.ntmps86
  go_wp2_with (rw [hwA])
  refine cN.mono ?_
  rintro e w1 ⟨⟨p, rfl, hp⟩, hb1⟩
  have HB1 : Hid (Below w.heap.size w w1) := HBA.out.trans (hb1.mono HBA.out.size)
  obtain ⟨d0, d1, d2, d3, d4, d5⟩ := HC.out w1 hb1
  simp only [Nat.zero_add] at d0 d1 d2 d3 d4 d5
  have h1 := HH.out.below HB1.out
  obtain ⟨r0, _, _, _⟩ := h1.cells
  obtain ⟨so, sc, hsv, hs1, hs2, _⟩ := ownI_form h1.slots
  unfold maxLen at hs2
  clear cN hb1 a0 a1 a2 a3 a4 a5 hwA h1
  subst hsv
  obtain ⟨N, hN⟩ : ∃ N, g.slots.length = N := ⟨_, rfl⟩
  rw [hN] at r0 HG hs1
  cases fb with
  | false =>
    have HO : Hid (o = none) := by show o = none; rw [HG.out]; simp
    clear HL HC HH HG hp
    go_wp2_with fail
    go_region
    go_wp2_with fail
    go_ret
    refine ⟨by rw [HO.out]; rfl, (HB1.out.mono hb0).drew, fun g' h => by rw [HO.out] at h; cases h⟩
  | true =>
    by_cases hto : to = (N : Int)
    · have HO : Hid (o = some G) := by show o = _; rw [HG.out, if_pos ⟨rfl, hto⟩]
      obtain ⟨b1, b2⟩ := HA.out rfl
      have hp' := hp rfl
      obtain ⟨k, hk⟩ : ∃ k : Nat, arK op = k := ⟨(arK op).toNat, by omega⟩
      have cc := HL.out w1.drew HB1.out.drew (by omega)
      rw [hk] at hp' cc
      simp only [Int.toNat_natCast] at cc
      subst hp'
      subst hto
      clear HL HC HH HG HA hp hk b1 b2
      go_wp2_with fail
      go_region
      go_wp2_with fail
      refine cc.mono ?_
      rintro e w5 ⟨rfl, hb5, hR5⟩
      have H5 : Hid (_) := hR5
      have HB5 : Hid (Below base w w5) := (HB1.out.mono hb0).drew.trans hb5
      clear cc hb5 hR5
      go_wp2_with fail
      go_ret
      refine ⟨by rw [HO.out]; rfl, HB5.out, fun g' h => by rw [HO.out] at h; cases h; exact (let ⟨s', l', q', hR⟩ := H5.out; ⟨s', l', hv, q', hR⟩)⟩
    · have HO : Hid (o = none) := by show o = none; rw [HG.out, if_neg (fun h => hto h.2)]
      have g1 : (to == (N : Int)) = false := by rw [beq_eq_false_iff_ne]; exact hto
      clear HL HC HH HG hp
      go_wp2_with fail
      go_region
      go_wp2_with fail
      go_ret
      refine ⟨by rw [HO.out]; rfl, (HB1.out.mono hb0).drew, fun g' h => by rw [HO.out] at h; cases h⟩
end Go.Proofs.YtjkcbigmebbkkaaDoor
