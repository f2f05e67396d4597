/-
  QTail, EvGetW, EwW, EwApW.
-/
import Derived.Shelf.Unicode.DecodeSlow
import Derived.Laws.RangeAny
import Derived.Shelf.Strconv.Itoa0
import Derived.Shelf.Unicode.DecodeAny
import Derived.Test.YtfdghbbanokopaaDoorProg
import Derived.WalkKit
import Derived.Deep.DeepFit
import Derived.Lib.OthersKept
import Derived.Lib.RuneCountTail
import Derived.Deep.AppendLies
import Derived.Deep.OwnRows
import Derived.Laws.AppendOwnNone
import Derived.Deep.QuietTactic
import Derived.BigQuiet
import Derived.Deep.RegionWith
import Derived.Laws.DeepStrings4
import Derived.RowKit
import Derived.Laws.Entries
import Derived.Below
import Derived.RangeFuncNested
import Derived.RangeFuncBound
import Derived.RangeFuncCalls
import Derived.RangeFuncLeaves
import Derived.RangeFuncBox
import Derived.Shelf.Abstract
import Derived.Shelf.RegionOpen
import Derived.OwnWalkIn
import Derived.TacticsInMore
import Derived.LoopNIn
import Derived.LoopIn
import Derived.Lib.Strings
import Derived.Lib.QuietBelow
import Derived.StillTail
import Derived.Deep.RegionLaw
import Derived.RangeFuncOwn
import Derived.Test.YtfdghbbanokopaaDoorD01
import Derived.Test.YtfdghbbanokopaaDoorD02
import Derived.Test.YtfdghbbanokopaaDoorD03
import Derived.Test.YtfdghbbanokopaaDoorD04
import Derived.Test.YtfdghbbanokopaaDoorD05
import Derived.Test.YtfdghbbanokopaaDoorD06
import Derived.Test.YtfdghbbanokopaaDoorD07
import Derived.Test.YtfdghbbanokopaaDoorD08
import Derived.Test.YtfdghbbanokopaaDoorD10
import Derived.Test.YtfdghbbanokopaaDoorD16
namespace Go.Proofs.YtfdghbbanokopaaDoor
open Go Go.Sort Go.RowKit

section
variable {P : Program} {ops : Array Oper} {md : Region.Mode} {C : World → Prop}

/-- f operations of the first n are still to come, each quiet in the class; behind them L. -/
def QHead (P : Program) (md : Region.Mode) (ops : Array Oper) (C : World → Prop) (n : Nat) (L : Array Bool → Act → Prop) : Nat → Array Bool → Act → Prop
  | 0, ls, a => L ls a
  | f + 1, ls, a => Region.ready md ops ls ≠ [] ∧ ∀ i ∈ Region.ready md ops ls, i < n ∧ qOp P ops C i (QHead P md ops C n L f (ls.setIfInBounds i true)) a

theorem QHead.any {n g : Nat} {L : Array Bool → Act → Prop} {Q : Exit → Act → World → Prop} (hL : ∀ ls a w, C w → L ls a → wpAny P md ops Q g ls a w) : ∀ (f : Nat) (ls : Array Bool) (a : Act) (w : World), C w → QHead P md ops C n L f ls a → wpAny P md ops Q (f + g) ls a w := by
  intro f
  induction f with
  | zero => intro ls a w hw h; rw [Nat.zero_add]; exact hL _ _ _ hw h
  | succ f ih =>
    intro ls a w hw h
    have e : f + 1 + g = (f + g) + 1 := by omega
    rw [e]
    exact ⟨fun h0 => absurd h0 h.1, fun i hi => wpOp_of_qOp hw (fun a' w' hw' h' => ih _ a' w' hw' h') (h.2 i hi).2⟩

/-- One that is ready, and apart from all that don't wait for it, may come first. -/
theorem QHead.first {n i : Nat} {oi : Oper} {v : Value} {L : Array Bool → Act → Prop} (hi : ops[i]? = some oi) (hsel : ∀ (j : Nat) (o : Oper) cs b, ops[j]? = some o → o.op ≠ .select cs b)
    (hs : Region.sinkB md ops n = true) (hc : Region.chainB md ops n = true) (hn : n < ops.size) (hin : i < n) (hdone : ∀ ls a, L ls a → ∀ j ∈ Region.ready md ops ls, n ≤ j) :
    ∀ (f : Nat) (ls : Array Bool) (a : Act), HeadInv md ops n ls →
      (∀ j oj, ops[j]? = some oj → j ≠ i → ls.getD j true = false → (∀ e ∈ oj.after, Region.binds md e = true → e.on ≠ i) → oi.apart ops oj = true) →
      i ∈ Region.ready md ops ls → YieldsIn P ops C oi v a → QHead P md ops C n L f (ls.setIfInBounds i true) (a.put oi.dst v) → QHead P md ops C n L (f + 1) ls a := by
  intro f
  induction f with
  | zero =>
    intro ls a inv _ hr hy H
    have hun := (mem_ready.1 hr).1
    constructor
    · intro h; rw [h] at hr; cases hr
    · intro j hj
      have hjn : j < n := Nat.lt_of_not_le fun h => tail_waits hs hc hn inv _ i rfl hin hun j h hj
      refine ⟨hjn, ?_⟩
      by_cases hji : j = i
      · subst hji; exact hy.qOp hi H
      · have := hdone _ _ H j (ready_mono hj hji); omega
  | succ f ih =>
    intro ls a inv hfree hr hy H
    have hun := (mem_ready.1 hr).1
    constructor
    · intro h; rw [h] at hr; cases hr
    · intro j hj
      have hjn : j < n := Nat.lt_of_not_le fun h => tail_waits hs hc hn inv _ i rfl hin hun j h hj
      refine ⟨hjn, ?_⟩
      by_cases hji : j = i
      · subst hji; exact hy.qOp hi H
      · obtain ⟨hjun, oj, hoj, hall⟩ := mem_ready.1 hj
        have hnot : ∀ e ∈ oj.after, Region.binds md e = true → e.on ≠ i := fun e he hb heq => by
          have h1 := hall e he hb
          rw [heq, getD_both hun] at h1
          cases h1
        have h2 := qOp_put hoj (hfree j oj hoj hji hjun hnot) (fun cs b => hsel i oi cs b hi) (fun cs b => hsel j oj cs b hoj) hy (H.2 j (ready_mono hj hji)).2
        have hfree' : ∀ k ok, ops[k]? = some ok → k ≠ i → (ls.setIfInBounds j true).getD k true = false → (∀ e ∈ ok.after, Region.binds md e = true → e.on ≠ i) → oi.apart ops ok = true := fun k ok hk hki hu hno => by
          refine hfree k ok hk hki ?_ hno
          by_cases hjk : j = k
          · subst hjk; exact hjun
          · rw [getD_set_ne true hjk] at hu; exact hu
        refine qOp_mono (fun a' h3 => ih (ls.setIfInBounds j true) a' (inv.set hj hjn) hfree' (ready_mono hr (Ne.symm hji)) h3.1 ?_) h2
        rw [Array.setIfInBounds_comm _ _ hji]
        exact h3.2

theorem QHead.lex {n g : Nat} {K : Act → Prop} (hsel : Region.noSelect ops = true) (hs : Region.sinkB md ops n = true) (hc : Region.chainB md ops n = true) (hn : n < ops.size) :
    ∀ (l : List Oper) (k : Nat) (ls : Array Bool) (a : Act), (∀ j, j < l.length → l[j]? = ops[k + j]?) → k + l.length = n → HeadInv md ops n ls → Region.lexHead md ops g l.length k ls = true → wpQuiet P ops C K l a →
      QHead P md ops C n (fun ls' a' => Region.seqB md ops g n ls' = true ∧ K a') l.length ls a := by
  intro l
  induction l with
  | nil =>
    intro k ls a _ hk _ hB h
    have : k = n := by simpa using hk
    subst this
    exact ⟨by simpa [Region.lexHead] using hB, h⟩
  | cons o l ih =>
    intro k ls a hl hk inv hB h
    have h0 : ops[k]? = some o := by simpa using (hl 0 (by simp)).symm
    simp only [List.length_cons, Region.lexHead, Bool.and_eq_true] at hB
    have hkn : k < n := by simp only [List.length_cons] at hk; omega
    have hr : k ∈ Region.ready md ops ls := by simpa using hB.1.1
    have hq : qOp P ops C k (wpQuiet P ops C K l) a := by unfold qOp; simp only [h0]; exact h
    obtain ⟨v, hy, hK⟩ := yieldsIn_of_qOp h0 hq
    refine QHead.first h0 (Region.noSelect_spec hsel) hs hc hn hkn (fun ls' a' hL => seqB_ready hL.1) l.length ls a inv (Region.free_spec h0 hB.1.2) hr hy ?_
    refine ih (k + 1) _ _ (fun j hj => ?_) (by simp only [List.length_cons] at hk; omega) (inv.set hr hkn) hB.2 hK
    have := hl (j + 1) (by simp; omega)
    simpa [Nat.add_assoc, Nat.add_comm 1 j] using this
end

/-- THE LAW, at the class 'w with new memory laid behind it'. -/
theorem wp_region_quiet_then {P : Program} {id : Nat} {Q : Exit → Act → World → Prop} {a : Act} {w : World} {l : List Oper} (n : Nat) (hm : P.follows .mixedOrders = true) (hB : Region.lexTailB .any l.toArray n = true)
    (h : wpQuiet P l.toArray (fun w' => ∃ p : Regrown, w' = grow (redrawn w p.d) p.os) (fun a' => ∀ w', (∃ p : Regrown, w' = grow (redrawn w p.d) p.os) → wpList P l.toArray Q (l.drop n) a' w') (l.take n) a) : (Code.region id l.toArray true).wp P Q a w := by
  simp only [Region.lexTailB, Bool.and_eq_true, decide_eq_true_eq] at hB
  obtain ⟨⟨⟨⟨hsel, hn⟩, hs⟩, hc⟩, hlex⟩ := hB
  have hn' : n < l.length := by simpa using hn
  have htl : (l.take n).length = n := by simp; omega
  have hdl : (l.drop n).length = l.toArray.size - n := by simp
  have inv0 : HeadInv .any l.toArray n (Array.replicate l.toArray.size false) :=
    ⟨by simp, fun j oj _ hl => (by rw [getD_replicate_false] at hl; cases hl), fun t _ ht => getD_in (by simpa using ht) (getD_replicate_false _ _)⟩
  have H := QHead.lex (P := P) (md := .any) (g := l.toArray.size - n) hsel hs hc hn (l.take n) 0 _ a (fun j hj => by
    have hj' : j < n := by rw [htl] at hj; exact hj
    simp [hj']) (by simpa using htl) inv0 (by rw [htl]; exact hlex) h
  refine wp_region_any hm ?_
  have := QHead.any (Q := Q) (g := l.toArray.size - n) (fun ls a' w' hw' hL => by
    have := wpAny_of_seq (md := .any) (Q' := Q) (l.drop n) n ls a' w' (fun j => by simp [List.getElem?_drop]) (by rw [hdl]; exact hL.1) (hL.2 w' hw')
    rwa [hdl] at this) _ _ _ { w with drawn := w.drawn + 1 } ⟨⟨w.drawn + 1, #[]⟩, by rw [grow_empty]; rfl⟩ H
  rw [htl, show n + (l.toArray.size - n) = l.toArray.size by omega] at this
  exact this
end Go.Proofs.YtfdghbbanokopaaDoor

set_option linter.unusedSimpArgs false
set_option linter.unusedVariables false
namespace Go.Proofs.YtfdghbbanokopaaDoor
open Go.RowKit Go.Lib

theorem append_srcE {P : Program} (w : World) {ops : Array Oper} {rest : List Oper} {o : Oper} {a : Act} {Q : Exit → Act → World → Prop} (hgd : o.guard = none) (s x : Operand) (t : TypeId)
    (ho : o.op = .call { callee := .builtin .append, args := #[s, x], argTypes := #[t, t] })
    (base : Nat) (e : TypeId) (i : TypeInfo) (z : Value) (size bytes : Nat) (ht : P.underlying t = some (.slice e)) (hi : P.info? e = some i) (hz : i.zero = some z)
    (hsize : i.size = size) (hby : i.bytes = bytes) (hzs : z.cells.size = size) (hsz : 0 < size)
    (v : Value) (n : Nat) (xs : List Value) (hs : a.eval s = v) (hown : w.ownsRow base e size v n xs)
    (ao : Option Addr) (m c : Nat) (news : List Value) (hx : a.eval x = .slice ao m c) (hnone : ao = none → m = 0 ∧ c = 0) (hl : news.length = m * size) (hnews : ∀ ad, ao = some ad → ∀ j u, news[j]? = some u → w.cell? (ad.add j) = some u) (h1 : ∀ u ∈ news, u.oneCell' = true)
    (h63 : n + m ≤ maxLen) (hbytes : (n + m) * bytes ≤ 140737488355328) (hbase : base ≤ w.heap.size)
    (h : ∀ v' w', w'.ownsRow base e size v' (n + m) (xs ++ news) → w.grownBy w' v.ownBlock → wpList P ops Q rest (a.put o.dst v') w') : wpList P ops Q (o :: rest) a w := by
  cases ao with
  | none =>
    obtain ⟨rfl, rfl⟩ := hnone rfl
    have hn : news = [] := List.length_eq_zero_iff.1 (by omega)
    subst hn
    exact wpList_append_own_none hgd s x t ho base e i size ht hi v n xs hs hown hx (h v w (by simpa using hown) (World.grownBy.refl _ _))
  | some ad => exact wpList_append_own w hgd s x t ho base e i z size bytes ht hi hz hsize hby hzs hsz v n xs hs hown ad m c news hx hl (hnews ad rfl) h1 h63 hbytes hbase (fun v' w' h2 h3 _ => h v' w' h2 h3)

set_option maxHeartbeats 1000000 in
theorem getE_any (ao : Option Addr) (cap : Nat) (l : List Bd) (nm : ByteArray) (hreach : l.length * 24 ≤ 140737488355328) (w : World) (hI : Bds w ao cap l) :
    Calls Tryd.prog 104 #[.slice ao l.length cap, .string nm] w fun e W' => e = .returned (.int .i64 (getB l nm)) ∧ Below w.heap.size w W' := by
  have c1 : Hid (∀ W, Bds W ao cap l → Calls Tryd.prog 119 #[.slice ao l.length cap, .string nm] W fun e W' => e = .returned (.int .i64 (lastB l nm)) ∧ Below W.heap.size W W') := fun W hW => last_any ao cap l nm hreach W hW
  have hr := lastB_range l nm
  rw [getB_last]
  by_cases h : lastB l nm < 0
  · have e : lastB l nm = -1 := by omega
    rw [e] at c1 ⊢
    rw [if_pos (by decide)]
    go_enter Tryd.func104, Tryd.ntmps104
    go_wp2_with (go_at_call 119; refine (c1.out _ (by assumption)).mono ?_; rintro e w2 ⟨rfl, b2⟩)
    go_ret
    exact ⟨rfl, b2⟩
  · obtain ⟨k, hk⟩ : ∃ k : Nat, lastB l nm = k := ⟨(lastB l nm).toNat, by omega⟩
    rw [hk] at c1 hr ⊢
    rw [if_neg (by omega), Int.toNat_natCast]
    have hkl : k < l.length := by omega
    have hkl2 : (k : Int) < (l.length : Int) := by omega
    obtain ⟨b, o, rfl, hb, hc⟩ := hI.at_ hkl
    obtain ⟨x, hx⟩ : ∃ x, l.getD k bd0 = x := ⟨_, rfl⟩
    rw [hx] at hc ⊢
    have HC : Hid (BdAt w b (o + k * 2) x) := hc
    clear hx hc h hr hkl
    go_enter Tryd.func104, Tryd.ntmps104
    go_wp2_with (go_at_call 119; refine (c1.out _ (by assumption)).mono ?_; rintro e w2 ⟨rfl, b2⟩; have cc := (HC.out.below hb b2).c1)
    go_ret
    exact ⟨rfl, b2⟩

end Go.Proofs.YtfdghbbanokopaaDoor

set_option linter.unusedSimpArgs false
set_option linter.unusedVariables false
namespace Go.Proofs.YtfdghbbanokopaaDoor
open Go.RowKit Go.Lib

theorem Tryd.infoL2 : (Tryd.prog.info? 2).map (fun i => (i.zero, i.size, i.bytes)) = some (some (.int .i64 0), 1, 8) := by kernel_rfl

/-- A work: its block p holds the environment and the numbers' list, which is its own. -/
structure Ew (w : World) (p : Nat) (ev v : Value) (st : List Int) : Prop where
  blk : w.heap[p]? = some (.cells #[ev, v] 84 (0, 0))
  on : w.ownsRow (p + 1) 2 1 v st.length (st.map (Value.int .i64))
theorem Ew.lt {w : World} {p : Nat} {ev v : Value} {st : List Int} (h : Ew w p ev v st) : p < w.heap.size := lt_of_block h.blk
theorem Ew.below {w w' : World} {p : Nat} {ev v : Value} {st : List Int} (h : Ew w p ev v st) (hb : Below w.heap.size w w') : Ew w' p ev v st :=
  ⟨(hb.block _ h.lt).trans h.blk, ownsRow_below h.on hb⟩
theorem Ew.c0 {w : World} {p : Nat} {ev v : Value} {st : List Int} (h : Ew w p ev v st) : w.cell? ⟨p, 0, none⟩ = some ev := by simp [World.cell?, h.blk]
theorem Ew.c1 {w : World} {p : Nat} {ev v : Value} {st : List Int} (h : Ew w p ev v st) : w.cell? ⟨p, 1, none⟩ = some v := by simp [World.cell?, h.blk]
theorem Ew.f1 {w : World} {p : Nat} {ev v : Value} {st : List Int} (h : Ew w p ev v st) : w.frozen? ⟨p, 1, none⟩ = false := by simp [World.frozen?, h.blk]

/-- Behind an append and the store. -/
theorem Ew.put {w w6 : World} {p : Nat} {ev v v' : Value} {st st' : List Int} (h : Ew w p ev v st) (hb : w6.heap[p]? = w.heap[p]?) (ho : w6.ownsRow (p + 1) 2 1 v' st'.length (st'.map (Value.int .i64))) : Ew (w6.setCell ⟨p, 1, none⟩ v') p ev v' st' := by
  refine ⟨?_, ownsRow_setCell_below ho (by show p < p + 1; omega) _⟩
  have := heap_setCell_same w6 p 1 #[ev, v] 84 v' (hb.trans h.blk)
  simpa using this
theorem own_take {w : World} {base g n cap k : Nat} {e : TypeId} {xs : List Value} (h : w.ownsRow base e 1 (.slice (some ⟨g, 0, none⟩) n cap) n xs) (hk : k ≤ n) : w.ownsRow base e 1 (.slice (some ⟨g, 0, none⟩) k cap) k (xs.take k) := by
  obtain ⟨h1, h2⟩ := h
  rcases h2 with ⟨h2, _⟩ | ⟨g', cap', cur, hv, hg, hb, hn, hm, hs, ht⟩
  · cases h2
  · cases hv
    refine ⟨by simp; omega, .inr ⟨g, cap, cur, rfl, hg, hb, by omega, hm, hs, ?_⟩⟩
    rw [← ht, List.take_take]; congr 1; omega

/-- What grew by its own row has turned no block but cells. -/
theorem ko_grown {w w' : World} {base : Nat} {e : TypeId} {size n : Nat} {v : Value} {xs : List Value} (ho : w.ownsRow base e size v n xs) (hg : w.grownBy w' v.ownBlock) : KeepsOthers w w' :=
  ⟨hg.size, fun k o hk hc => by
    rw [hg.block k (lt_of_block hk) (fun e' => ?_)]
    · exact hk
    · rcases ho.2 with ⟨rfl, _⟩ | ⟨g, cap, cur, rfl, _, hb, _⟩
      · cases e'
      · have e2 : k = g := by simpa [Value.ownBlock] using e'
        subst e2
        rw [hb] at hk
        cases hk
        cases hc⟩
theorem ko_below {w w' : World} (hb : Below w.heap.size w w') : KeepsOthers w w' := ⟨hb.size, fun k o hk _ => (hb.block k (lt_of_block hk)).trans hk⟩

/-- No block but cells has turned, and of those that lay none but the work and its row. -/
structure KoW (p : Nat) (v : Value) (w w' : World) : Prop where
  ko : KeepsOthers w w'
  same : ∀ b, b < w.heap.size → b ≠ p → some b ≠ v.ownBlock → w'.heap[b]? = w.heap[b]?
theorem KoW.below {p : Nat} {v : Value} {w w' : World} (hb : Below w.heap.size w w') : KoW p v w w' := ⟨ko_below hb, fun b h _ _ => hb.block b h⟩
theorem KoW.trans {p : Nat} {v : Value} {w w' w'' : World} (h : KoW p v w w') (k : KoW p v w' w'') : KoW p v w w'' :=
  ⟨h.ko.trans k.ko, fun b h1 h2 h3 => (k.same b (Nat.lt_of_lt_of_le h1 h.ko.size) h2 h3).trans (h.same b h1 h2 h3)⟩
theorem KoW.grown {p : Nat} {v : Value} {w w' : World} {base : Nat} {e : TypeId} {size n : Nat} {xs : List Value} (ho : w.ownsRow base e size v n xs) (hg : w.grownBy w' v.ownBlock) : KoW p v w w' := ⟨ko_grown ho hg, fun b h1 _ h3 => hg.block b h1 h3⟩
theorem KoW.set {p o : Nat} {v u : Value} {w : World} : KoW p v w (w.setCell ⟨p, o, none⟩ u) := ⟨KeepsOthers.setCell _ _ _, fun b _ h2 _ => Deep.blk_setCell_other _ _ _ _ h2⟩

set_option maxRecDepth 20000 in
set_option maxHeartbeats 2000000 in
theorem wput_ko (w : World) (p : Nat) (ev v : Value) (st : List Int) (n : Int) (hM : Ew w p ev v st) (hlen : st.length ≤ 100000) :
    Calls Tryd.prog 103 #[.pointer (some ⟨p, 0, none⟩), .int .i64 n] w fun e w' => e = .returned (.tuple #[]) ∧ (∃ v', Ew w' p ev v' (st ++ [n])) ∧ Below p w w' ∧ KoW p v w w' := by
  obtain ⟨i0, hi, hz0, hz1, hz2⟩ := info_parts Tryd.infoL2
  obtain ⟨va, vc, hv⟩ := row_form' hM.on
  subst hv
  have hpl := hM.lt
  have c1 := hM.c1
  have f1 := hM.f1
  have HM : Hid (Ew w p ev (.slice va st.length vc) st) := hM
  have hrow := hM.on
  obtain ⟨L, hL⟩ : ∃ L, st.length = L := ⟨_, rfl⟩
  rw [hL] at c1 hrow hlen
  have HL : Hid (st.length = L) := hL
  have z1 : ∀ o, (w.alloc o).cell? ⟨p, 1, none⟩ = some (.slice va L vc) := fun o => (World.cell?_alloc_past _ _ _ (by show p < w.heap.size; omega)).trans c1
  have HP6 : Hid (∀ (o : Obj) (w6 : World), (w.alloc o).grownBy w6 (Value.slice va L vc).ownBlock → w6.heap[p]? = w.heap[p]?) := fun o w6 hg => by
    have h1 := hg.block p (by rw [World.size_alloc]; omega) (fun e => by have := (own_block' hrow p e.symm).1; omega)
    exact h1.trans (Deep.blk_alloc_lt _ _ _ (by omega))
  clear hM hL
  go_enter Tryd.func103, Tryd.ntmps103
  go_wp2_with (at_builtin; refine wpList_append_lies _ rfl (.tmp 8) (.tmp 10) 82 rfl (p + 1) 2 i0 (.int .i64 0) 1 8 Tryd.underlying82 hi hz0 hz1 hz2 rfl (by decide) _ _ _ (by simp [Act.eval, Act.put]) (hrow.alloc _) ⟨w.heap.size, 0, none⟩ 1 1 [.int .i64 n] (by simp [Act.eval, Act.put]) rfl (cell_news_one w _ _) (by simp [Value.oneCell']) (by omega) (by unfold maxLen; omega) (by omega) (by simp; omega) _ rfl ?_; intro g6 cap6 w6 hown6 hg6 hat6 hl6; have hnd6 := HP6.out _ w6 hg6; have m6 : w6.cell? ⟨p, 1, none⟩ = some (.slice va L vc) := (World.cell?_of_block (a := ⟨p, 1, none⟩) hnd6).trans c1; have m6f : w6.frozen? ⟨p, 1, none⟩ = false := (World.frozen?_of_block (a := ⟨p, 1, none⟩) hnd6).trans f1)
  all_goals
    have hF : Ew (w6.setCell ⟨p, 1, none⟩ (.slice (some ⟨g6, 0, none⟩) (L + 1) cap6)) p ev (.slice (some ⟨g6, 0, none⟩) (L + 1) cap6) (st ++ [n]) := HM.out.put hnd6 (by rw [List.length_append, HL.out, List.map_append]; exact hown6)
    have hB : Below p w (w6.setCell ⟨p, 1, none⟩ (.slice (some ⟨g6, 0, none⟩) (L + 1) cap6)) := by
      have b1 : Below p w (w.alloc (.cells #[.int .i64 n] 2)) := ((Below.refl w.heap.size w).alloc (Nat.le_refl _) _).mono (by omega)
      have b2 := b1.grown hg6 (by show p ≤ (w.alloc _).heap.size; rw [World.size_alloc]; omega) (fun j hj => by have := (own_block' hrow j hj).1; omega)
      exact b2.setCell (p := ⟨p, 1, none⟩) (Nat.le_refl p) _
    have HF : Hid (Ew (w6.setCell ⟨p, 1, none⟩ (.slice (some ⟨g6, 0, none⟩) (L + 1) cap6)) p ev (.slice (some ⟨g6, 0, none⟩) (L + 1) cap6) (st ++ [n])) := hF
    have HB : Hid (Below p w (w6.setCell ⟨p, 1, none⟩ (.slice (some ⟨g6, 0, none⟩) (L + 1) cap6))) := hB
    have HKO : Hid (KoW p (.slice va L vc) w (w6.setCell ⟨p, 1, none⟩ (.slice (some ⟨g6, 0, none⟩) (L + 1) cap6))) := ((KoW.below ((Below.refl w.heap.size w).alloc (Nat.le_refl _) _)).trans (KoW.grown (hrow.alloc _) hg6)).trans KoW.set
    clear hF hB
    go_wp2_with fail
    go_end0
    exact ⟨rfl, ⟨_, HF.out⟩, HB.out, by rw [HL.out]; exact HKO.out⟩
theorem wput_any (w : World) (p : Nat) (ev v : Value) (st : List Int) (n : Int) (hM : Ew w p ev v st) (hlen : st.length ≤ 100000) :
    Calls Tryd.prog 103 #[.pointer (some ⟨p, 0, none⟩), .int .i64 n] w fun e w' => e = .returned (.tuple #[]) ∧ (∃ v', Ew w' p ev v' (st ++ [n])) ∧ Below p w w' :=
  (wput_ko w p ev v st n hM hlen).mono fun e w' ⟨h1, h2, h3, _⟩ => ⟨h1, h2, h3⟩
end Go.Proofs.YtfdghbbanokopaaDoor

set_option linter.unusedSimpArgs false
set_option linter.unusedVariables false
namespace Go.Proofs.YtfdghbbanokopaaDoor
open Go.RowKit Go.Lib

set_option maxRecDepth 20000 in
set_option maxHeartbeats 4000000 in
theorem wapply_ko (w : World) (p : Nat) (ev v : Value) (st : List Int) (op : Int) (k : Nat) (hM : Ew w p ev v st) (hlen : st.length ≤ 100000) (hk0 : 0 < k) (hk : k ≤ st.length) (hG : GrpCells w) :
    Calls Tryd.prog 105 #[.pointer (some ⟨p, 0, none⟩), .int .i64 op, .int .i64 k] w fun e w' => e = .returned (.int .i64 (apR op (st.drop (st.length - k))).2) ∧ (∃ v', Ew w' p ev v' (st.take (st.length - k) ++ [(apR op (st.drop (st.length - k))).1])) ∧ Below p w w' ∧ KoW p v w w' := by
  obtain ⟨i0, hi, hz0, hz1, hz2⟩ := info_parts Tryd.infoL2
  obtain ⟨g, vc, hv⟩ : ∃ g vc, v = .slice (some ⟨g, 0, none⟩) st.length vc := by
    rcases hM.on.2 with ⟨_, h0⟩ | ⟨g', cap', cur, rfl, _⟩
    · omega
    · exact ⟨_, _, rfl⟩
  subst hv
  have hcap : st.length ≤ vc ∧ vc ≤ maxLen := by
    rcases hM.on.2 with ⟨h0, _⟩ | ⟨g', cap', cur, hv, _, _, hn, hm, _⟩
    · cases h0
    · cases hv; exact ⟨hn, hm⟩
  have hpl := hM.lt
  have c1 := hM.c1
  have f1 := hM.f1
  have HM : Hid (Ew w p ev (.slice (some ⟨g, 0, none⟩) st.length vc) st) := hM
  have hrow0 := hM.on
  obtain ⟨L, hL⟩ : ∃ L, st.length - k = L := ⟨_, rfl⟩
  have hrow := own_take hrow0 (k := L) (by omega)
  rw [hL]
  obtain ⟨n, hn⟩ : ∃ n, st.length = n := ⟨_, rfl⟩
  have HST : Hid (st.length = n) := hn
  have cA : Hid (∀ (V : World), Below w.heap.size w V → Calls Tryd.prog 120 #[.int .i64 op, .slice (some ⟨g, L, none⟩) (n - L) (vc - L)] V fun e w' => e = .returned (.tuple #[.int .i64 (apR op (st.drop L)).1, .int .i64 (apR op (st.drop L)).2]) ∧ ∃ m, w' = V.drewN m) := fun V hV => by
    refine apply_any op _ (st.drop L) V (hG.below hV) ⟨_, _, by rw [List.length_drop, hn], .inr ⟨g, L, rfl, fun i x hx => ?_⟩⟩
    have hg : w.cell? ⟨g, L + i, none⟩ = some (.int .i64 x) := by
      have := hrow0.cellAt (L + i) (by
        have : i < (st.drop L).length := by
          rcases Nat.lt_or_ge i (st.drop L).length with h | h
          · exact h
          · rw [List.getElem?_eq_none h] at hx; cases hx
        rw [List.length_drop] at this; omega)
      rw [this, List.getElem?_map]
      rw [List.getElem?_drop] at hx
      rw [hx]; rfl
    exact (hV.cell (p := ⟨g, L + i, none⟩) (own_block' hrow0 g rfl).2).trans hg
  have hnl : n - L = k := by omega
  rw [hn] at c1 hrow0 hlen hcap
  have hLn : (L : Int) = (n : Int) - (k : Int) := by omega
  generalize apR op (st.drop L) = R at *
  have HL : Hid ((st.take L).length = L) := by rw [Hid, List.length_take]; omega
  have HTK : Hid ((st.map (Value.int .i64)).take L = (st.take L).map (Value.int .i64)) := by rw [Hid, List.map_take]
  rw [HTK.out] at hrow
  have c1g : ∀ m o, ((w.drewN m).alloc o).cell? ⟨p, 1, none⟩ = some (.slice (some ⟨g, 0, none⟩) n vc) := fun m o => (World.cell?_alloc_past _ _ _ (by show p < w.heap.size; omega)).trans c1
  have c1m : ∀ m, (w.drewN m).cell? ⟨p, 1, none⟩ = some (.slice (some ⟨g, 0, none⟩) n vc) := fun m => c1
  have HP6 : Hid (∀ (m : Nat) (o : Obj) (w6 : World), ((w.drewN m).alloc o).grownBy w6 (Value.slice (some ⟨g, 0, none⟩) L vc).ownBlock → w6.heap[p]? = w.heap[p]?) := fun m o w6 hg => by
    have h1 := hg.block p (by rw [World.size_alloc]; show p < w.heap.size + 1; omega) (fun e => by have := (own_block' hrow p e.symm).1; omega)
    exact h1.trans (Deep.blk_alloc_lt (w.drewN m) _ _ (by show p < w.heap.size; omega))
  have hLv : L ≤ vc := by omega
  have hLn2 : L ≤ n := by omega
  have hLI : (L : Int) ≤ (n : Int) := by omega
  have hLvI : (L : Int) ≤ (vc : Int) := by omega
  have hnI : (n : Int) ≤ (vc : Int) := by omega
  obtain ⟨_, hvm⟩ := hcap
  unfold maxLen at hvm
  rw [hn] at hL
  have hLL : n - k = L := hL
  have HLL : Hid (n - k = L) := hLL
  have hb0 : Below w.heap.size w w := Below.refl _ _
  have cA2 : Hid (∀ (V : World), Below w.heap.size w V → Calls Tryd.prog 120 #[.int .i64 op, .slice (some ⟨g, n - k, none⟩) (n - (n - k)) (vc - (n - k))] V fun e w' => e = .returned (.tuple #[.int .i64 R.1, .int .i64 R.2]) ∧ ∃ m, w' = V.drewN m) := fun V hV => by
    have := cA.out V hV
    rw [← hLL] at this
    exact this
  clear hM hn hL hLL cA
  go_enter Tryd.func105, Tryd.ntmps105
  go_wp2_with fail
  refine (cA2.out _ hb0).mono ?_
  rintro e w2 ⟨rfl, m, rfl⟩
  have q1 := c1m m
  have z1 := c1g m
  have hrm : (w.drewN m).ownsRow (p + 1) 2 1 (.slice (some ⟨g, 0, none⟩) L vc) L ((st.take L).map (Value.int .i64)) := hrow
  have hsz : (w.drewN m).heap.size = w.heap.size := rfl
  have P6 := fun o w6 => HP6.out m o w6
  have HB1 : Hid (Below w.heap.size w (w.drewN m)) := by rw [Hid]; exact ⟨rfl, rfl, rfl, Nat.le_refl _, fun _ _ => rfl⟩
  have f1m : (w.drewN m).frozen? ⟨p, 1, none⟩ = false := f1
  clear c1m c1g HP6 cA2 hb0 hG c1 f1 hrow
  generalize w.drewN m = W at *
  obtain rfl := HLL.out
  go_wp2_with (at_builtin; refine wpList_append_lies _ rfl (.tmp 34) (.tmp 36) 82 rfl (p + 1) 2 i0 (.int .i64 0) 1 8 Tryd.underlying82 hi hz0 hz1 hz2 rfl (by decide) _ _ _ (by simp [Act.eval, Act.put]) (hrm.alloc _) ⟨W.heap.size, 0, none⟩ 1 1 [.int .i64 R.1] (by simp [Act.eval, Act.put]) rfl (cell_news_one W _ _) (by simp [Value.oneCell']) (by omega) (by unfold maxLen; omega) (by omega) (by simp; omega) _ rfl ?_; intro g6 cap6 w6 hown6 hg6 hat6 hl6; have hnd6 := P6 _ w6 hg6; have hndW : w6.heap[p]? = W.heap[p]? := hnd6.trans (HB1.out.block p hpl).symm; have m6 : w6.cell? ⟨p, 1, none⟩ = some (.slice (some ⟨g, 0, none⟩) n vc) := (World.cell?_of_block (a := ⟨p, 1, none⟩) hndW).trans q1; have m6f : w6.frozen? ⟨p, 1, none⟩ = false := (World.frozen?_of_block (a := ⟨p, 1, none⟩) hndW).trans f1m)
  all_goals
    have hF : Ew (w6.setCell ⟨p, 1, none⟩ (.slice (some ⟨g6, 0, none⟩) (n - k + 1) cap6)) p ev (.slice (some ⟨g6, 0, none⟩) (n - k + 1) cap6) (st.take (n - k) ++ [R.1]) := HM.out.put hnd6 (by rw [List.length_append, HL.out, List.map_append]; exact hown6)
    have hB : Below p w (w6.setCell ⟨p, 1, none⟩ (.slice (some ⟨g6, 0, none⟩) (n - k + 1) cap6)) := by
      have b1 : Below p w (W.alloc (.cells #[.int .i64 R.1] 2)) := (HB1.out.trans (((Below.refl W.heap.size W).alloc (Nat.le_refl _) _).mono (by omega))).mono (by omega)
      have b2 := b1.grown hg6 (by rw [World.size_alloc]; omega) (fun j hj => by have := (own_block' hrm j hj).1; omega)
      exact b2.setCell (p := ⟨p, 1, none⟩) (Nat.le_refl p) _
    have HF : Hid (Ew (w6.setCell ⟨p, 1, none⟩ (.slice (some ⟨g6, 0, none⟩) (n - k + 1) cap6)) p ev (.slice (some ⟨g6, 0, none⟩) (n - k + 1) cap6) (st.take (n - k) ++ [R.1])) := hF
    have HB : Hid (Below p w (w6.setCell ⟨p, 1, none⟩ (.slice (some ⟨g6, 0, none⟩) (n - k + 1) cap6))) := hB
    have HKO : Hid (KoW p (.slice (some ⟨g, 0, none⟩) n vc) w (w6.setCell ⟨p, 1, none⟩ (.slice (some ⟨g6, 0, none⟩) (n - k + 1) cap6))) := (((KoW.below HB1.out).trans (KoW.below ((Below.refl W.heap.size W).alloc (Nat.le_refl _) _))).trans (by have h := KoW.grown (p := p) (hrm.alloc _) hg6; exact ⟨h.ko, h.same⟩)).trans KoW.set
    clear hF hB
    go_wp2_with fail
    go_ret
    exact ⟨rfl, ⟨_, HF.out⟩, HB.out, by rw [HST.out]; exact HKO.out⟩
theorem wapply_any (w : World) (p : Nat) (ev v : Value) (st : List Int) (op : Int) (k : Nat) (hM : Ew w p ev v st) (hlen : st.length ≤ 100000) (hk0 : 0 < k) (hk : k ≤ st.length) (hG : GrpCells w) :
    Calls Tryd.prog 105 #[.pointer (some ⟨p, 0, none⟩), .int .i64 op, .int .i64 k] w fun e w' => e = .returned (.int .i64 (apR op (st.drop (st.length - k))).2) ∧ (∃ v', Ew w' p ev v' (st.take (st.length - k) ++ [(apR op (st.drop (st.length - k))).1])) ∧ Below p w w' :=
  (wapply_ko w p ev v st op k hM hlen hk0 hk hG).mono fun e w' ⟨h1, h2, h3, _⟩ => ⟨h1, h2, h3⟩
end Go.Proofs.YtfdghbbanokopaaDoor
