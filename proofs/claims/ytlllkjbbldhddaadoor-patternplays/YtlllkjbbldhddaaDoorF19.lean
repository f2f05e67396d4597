/-
  OrderW, QTail, ExCurW, ExOrdP.
-/
import Derived.Shelf.Unicode.DecodeSlow
import Derived.Laws.RangeAny
import Derived.Shelf.Unicode.DecodeAny
import Derived.Test.YtlllkjbbldhddaaDoorProg
import Derived.WalkKit
import Derived.Deep.DeepFit
import Derived.Lib.OthersKept
import Derived.Lib.RuneCountTail
import Derived.Deep.AppendLies
import Derived.Deep.OwnRows
import Derived.Laws.AppendOwnNone
import Derived.Laws.DeepStrings4
import Derived.Deep.QuietTactic
import Derived.BigQuiet
import Derived.Lib.MapLaws
import Derived.Sort.Walk0
import Derived.Lib.QuietBelow
import Derived.StillTail
import Derived.Deep.RegionHeld3
import Derived.Test.YtlllkjbbldhddaaDoorF01
import Derived.Test.YtlllkjbbldhddaaDoorF02
import Derived.Test.YtlllkjbbldhddaaDoorF03
import Derived.Test.YtlllkjbbldhddaaDoorF04
import Derived.Test.YtlllkjbbldhddaaDoorF05
import Derived.Test.YtlllkjbbldhddaaDoorF06
import Derived.Test.YtlllkjbbldhddaaDoorF07
import Derived.Test.YtlllkjbbldhddaaDoorF08
import Derived.Test.YtlllkjbbldhddaaDoorF09
set_option linter.unusedSimpArgs false
namespace Go.Proofs.YtlllkjbbldhddaaDoor
open Go.RowKit Go.Lib

theorem compare_any (a b : Int) (w : World) :
    Calls Tryd.prog 81 #[.int .i32 a, .int .i32 b] w fun e w' => e = .returned (.int .i64 (cmp3 a b)) ∧ w' = w := by
  go_enter Tryd.func81, Tryd.ntmps81
  go_wp2
  all_goals go_ret
  all_goals exact ⟨ret_int (by unfold cmp3; simp_all; try omega), rfl⟩

set_option maxHeartbeats 1000000 in
theorem order_any (s t : ByteArray) (w : World) (hT : Tabs w) :
    Calls Tryd.prog 54 #[.string s, .string t] w fun e w' => e = .returned (.int .i64 (ordI s t)) ∧ Below w.heap.size w w' := by

  go_enter Tryd.func54, Tryd.ntmps54
  go_wp2
  go_loopw [1] (fun c w' => ∃ (pos f : Nat) (t' : ByteArray), It w s pos w' ∧ c = .string t' ∧ t'.size ≤ t.size ∧ Hid (cmpL (runesFrom s f pos) (rl t') = ordI s t) ∧ s.size ≤ pos + f) (fun _ w' => s.size - w'.iterPos w.heap.size)
  case atStart => exact ⟨0, s.size, t, It.start w s, rfl, Nat.le_refl _, rfl, by omega⟩
  case round =>
    obtain ⟨pos, f, t', hI, rfl, hle, HN, hf⟩ := hrel
    have hm := hI.pos
    by_cases hp : pos < s.size
    · have hnx : ∀ ty, (Instr.next (.pointer (some ⟨w.heap.size, 0, none⟩)) true ty).run Tryd.prog wr = _ := fun ty => run_next_any_at wr w.heap.size s pos ty hI.at_ hp
      obtain ⟨f, rfl⟩ : ∃ g, f = g + 1 := ⟨f - 1, by omega⟩
      have hw := width_pos s pos hp
      have HX := runesFrom_cons s f pos hp
      generalize (Utf8.decode s pos).2 = v at *
      generalize ((Utf8.decode s pos).1 : Int) = r at *
      have hI1 := hI.next (pos + v)
      have hT1 := (hI1.tabs hT)
      have HY : Hid (runesFrom s (f + 1) pos = r :: runesFrom s f (pos + v)) := HX
      clear HX
      by_cases h0 : t'.size = 0
      · have he := empty_yes t' h0
        go_wp2
        go_ret
        exact ⟨ret_int (by rw [← HN.out, HY.out, rl_nil t' h0]; rfl), hI1.below⟩
      · have he := empty_no t' h0
        have hd := width_pos t' 0 (by omega)
        have hd2 := dec_le t' 0 (by omega)
        have HC := rl_cons t' h0
        rw [← decGo t' h0] at hd hd2
        have cF : Hid (∀ W, Tabs W → Calls Tryd.prog 82 #[.string t'] W fun e w' => e = .returned (.int .i32 (decodeGo t').1) ∧ Below W.heap.size W w') := first_any t'
        have cW : Hid (∀ W, Tabs W → Calls Tryd.prog 83 #[.string t'] W fun e w' => e = .returned (.int .i64 (decodeGo t').2) ∧ Below W.heap.size W w') := width_any t'
        have HD : Hid (rl t' = ((decodeGo t').1 : Int) :: rl (t'.extract (decodeGo t').2 t'.size)) := HC
        clear HC
        generalize (decodeGo t').2 = k at *
        generalize ((decodeGo t').1 : Int) = q at *
        cases hc : (cmp3 r q == 0)
        · have hc' : (cmp3 r q != 0) = true := by simpa using hc
          have hc2 : ¬ cmp3 r q = 0 := by simpa using hc
          have HC2 : Hid (¬ cmp3 r q = 0) := hc2
          clear hc2
          go_wp2_with (first | (go_at_call 82; refine (cF.out _ hT1).mono ?_; rintro e w2 ⟨rfl, hb2⟩) | (go_at_call 81; refine (compare_any _ _ _).mono ?_; rintro e w3 ⟨rfl, hw3⟩; obtain rfl := hw3.symm))
          go_ret
          exact ⟨ret_int (by rw [← HN.out, HY.out, HD.out, cmpL, if_neg HC2.out]), (hI1.call hb2).below⟩
        · have hc' : (cmp3 r q != 0) = false := by simpa using hc
          have hc2 : cmp3 r q = 0 := by simpa using hc
          have HC2 : Hid (cmp3 r q = 0) := hc2
          clear hc2
          have hk : (k : Int) ≤ (t'.size : Int) := by omega
          go_wp2_with (first | (go_at_call 82; refine (cF.out _ hT1).mono ?_; rintro e w2 ⟨rfl, hb2⟩; have hT2 := hT1.below hb2) | (go_at_call 81; refine (compare_any _ _ _).mono ?_; rintro e w3 ⟨rfl, hw3⟩; obtain rfl := hw3.symm) | (go_at_call 83; refine (cW.out _ hT2).mono ?_; rintro e w4 ⟨rfl, hb4⟩))
          have hI4 := (hI1.call hb2).call hb4
          refine ⟨⟨pos + v, f, _, hI4, rfl, by rw [tail_size]; omega, ?_, by omega⟩, ?_⟩
          · show cmpL (runesFrom s f (pos + v)) (rl (t'.extract k t'.size)) = ordI s t
            rw [← HN.out, HY.out, HD.out, cmpL, if_pos HC2.out]
          · rw [hI4.pos, hm]; omega
    · have hnx : ∀ ty, (Instr.next (.pointer (some ⟨w.heap.size, 0, none⟩)) true ty).run Tryd.prog wr = _ := fun ty => run_next_end_at wr w.heap.size s pos ty hI.at_ hp
      by_cases h0 : t'.size = 0
      · have he := empty_yes t' h0
        go_wp2
        go_ret
        exact ⟨ret_int (by rw [← HN.out, runesFrom_end s f pos hp, rl_nil t' h0]; rfl), hI.below⟩
      · have he := empty_no t' h0
        go_wp2
        go_ret
        exact ⟨ret_int (by rw [← HN.out, runesFrom_end s f pos hp, rl_cons t' h0]; rfl), hI.below⟩
end Go.Proofs.YtlllkjbbldhddaaDoor

namespace Go.Proofs.YtlllkjbbldhddaaDoor
open Go Go.Sort Go.RowKit

section
variable {P : Program} {ops : Array Oper} {md : Region.Mode} {C : World → Prop}

/-- f operations of the first n are still to come, each quiet in the class; behind them L. -/
def QHead (P : Program) (md : Region.Mode) (ops : Array Oper) (C : World → Prop) (n : Nat) (L : Array Bool → Act → Prop) : Nat → Array Bool → Act → Prop
  | 0, ls, a => L ls a
  | f + 1, ls, a => Region.ready md ops ls ≠ [] ∧ ∀ i ∈ Region.ready md ops ls, i < n ∧ qOp P ops C i (QHead P md ops C n L f (ls.setIfInBounds i true)) a

theorem QHead.any {n g : Nat} {L : Array Bool → Act → Prop} {Q : Exit → Act → World → Prop} (hL : ∀ ls a w, C w → L ls a → wpAny P md ops Q g ls a w) : ∀ (f : Nat) (ls : Array Bool) (a : Act) (w : World), C w → QHead P md ops C n L f ls a → wpAny P md ops Q (f + g) ls a w := by
  intro f
  induction f with
  | zero => intro ls a w hw h; rw [Nat.zero_add]; exact hL _ _ _ hw h
  | succ f ih =>
    intro ls a w hw h
    have e : f + 1 + g = (f + g) + 1 := by omega
    rw [e]
    exact ⟨fun h0 => absurd h0 h.1, fun i hi => wpOp_of_qOp hw (fun a' w' hw' h' => ih _ a' w' hw' h') (h.2 i hi).2⟩

/-- One that is ready, and apart from all that don't wait for it, may come first. -/
theorem QHead.first {n i : Nat} {oi : Oper} {v : Value} {L : Array Bool → Act → Prop} (hi : ops[i]? = some oi) (hsel : ∀ (j : Nat) (o : Oper) cs b, ops[j]? = some o → o.op ≠ .select cs b)
    (hs : Region.sinkB md ops n = true) (hc : Region.chainB md ops n = true) (hn : n < ops.size) (hin : i < n) (hdone : ∀ ls a, L ls a → ∀ j ∈ Region.ready md ops ls, n ≤ j) :
    ∀ (f : Nat) (ls : Array Bool) (a : Act), HeadInv md ops n ls →
      (∀ j oj, ops[j]? = some oj → j ≠ i → ls.getD j true = false → (∀ e ∈ oj.after, Region.binds md e = true → e.on ≠ i) → oi.apart ops oj = true) →
      i ∈ Region.ready md ops ls → YieldsIn P ops C oi v a → QHead P md ops C n L f (ls.setIfInBounds i true) (a.put oi.dst v) → QHead P md ops C n L (f + 1) ls a := by
  intro f
  induction f with
  | zero =>
    intro ls a inv _ hr hy H
    have hun := (mem_ready.1 hr).1
    constructor
    · intro h; rw [h] at hr; cases hr
    · intro j hj
      have hjn : j < n := Nat.lt_of_not_le fun h => tail_waits hs hc hn inv _ i rfl hin hun j h hj
      refine ⟨hjn, ?_⟩
      by_cases hji : j = i
      · subst hji; exact hy.qOp hi H
      · have := hdone _ _ H j (ready_mono hj hji); omega
  | succ f ih =>
    intro ls a inv hfree hr hy H
    have hun := (mem_ready.1 hr).1
    constructor
    · intro h; rw [h] at hr; cases hr
    · intro j hj
      have hjn : j < n := Nat.lt_of_not_le fun h => tail_waits hs hc hn inv _ i rfl hin hun j h hj
      refine ⟨hjn, ?_⟩
      by_cases hji : j = i
      · subst hji; exact hy.qOp hi H
      · obtain ⟨hjun, oj, hoj, hall⟩ := mem_ready.1 hj
        have hnot : ∀ e ∈ oj.after, Region.binds md e = true → e.on ≠ i := fun e he hb heq => by
          have h1 := hall e he hb
          rw [heq, getD_both hun] at h1
          cases h1
        have h2 := qOp_put hoj (hfree j oj hoj hji hjun hnot) (fun cs b => hsel i oi cs b hi) (fun cs b => hsel j oj cs b hoj) hy (H.2 j (ready_mono hj hji)).2
        have hfree' : ∀ k ok, ops[k]? = some ok → k ≠ i → (ls.setIfInBounds j true).getD k true = false → (∀ e ∈ ok.after, Region.binds md e = true → e.on ≠ i) → oi.apart ops ok = true := fun k ok hk hki hu hno => by
          refine hfree k ok hk hki ?_ hno
          by_cases hjk : j = k
          · subst hjk; exact hjun
          · rw [getD_set_ne true hjk] at hu; exact hu
        refine qOp_mono (fun a' h3 => ih (ls.setIfInBounds j true) a' (inv.set hj hjn) hfree' (ready_mono hr (Ne.symm hji)) h3.1 ?_) h2
        rw [Array.setIfInBounds_comm _ _ hji]
        exact h3.2

theorem QHead.lex {n g : Nat} {K : Act → Prop} (hsel : Region.noSelect ops = true) (hs : Region.sinkB md ops n = true) (hc : Region.chainB md ops n = true) (hn : n < ops.size) :
    ∀ (l : List Oper) (k : Nat) (ls : Array Bool) (a : Act), (∀ j, j < l.length → l[j]? = ops[k + j]?) → k + l.length = n → HeadInv md ops n ls → Region.lexHead md ops g l.length k ls = true → wpQuiet P ops C K l a →
      QHead P md ops C n (fun ls' a' => Region.seqB md ops g n ls' = true ∧ K a') l.length ls a := by
  intro l
  induction l with
  | nil =>
    intro k ls a _ hk _ hB h
    have : k = n := by simpa using hk
    subst this
    exact ⟨by simpa [Region.lexHead] using hB, h⟩
  | cons o l ih =>
    intro k ls a hl hk inv hB h
    have h0 : ops[k]? = some o := by simpa using (hl 0 (by simp)).symm
    simp only [List.length_cons, Region.lexHead, Bool.and_eq_true] at hB
    have hkn : k < n := by simp only [List.length_cons] at hk; omega
    have hr : k ∈ Region.ready md ops ls := by simpa using hB.1.1
    have hq : qOp P ops C k (wpQuiet P ops C K l) a := by unfold qOp; simp only [h0]; exact h
    obtain ⟨v, hy, hK⟩ := yieldsIn_of_qOp h0 hq
    refine QHead.first h0 (Region.noSelect_spec hsel) hs hc hn hkn (fun ls' a' hL => seqB_ready hL.1) l.length ls a inv (Region.free_spec h0 hB.1.2) hr hy ?_
    refine ih (k + 1) _ _ (fun j hj => ?_) (by simp only [List.length_cons] at hk; omega) (inv.set hr hkn) hB.2 hK
    have := hl (j + 1) (by simp; omega)
    simpa [Nat.add_assoc, Nat.add_comm 1 j] using this
end

/-- THE LAW, at the class 'w with new memory laid behind it'. -/
theorem wp_region_quiet_then {P : Program} {id : Nat} {Q : Exit → Act → World → Prop} {a : Act} {w : World} {l : List Oper} (n : Nat) (hm : P.follows .mixedOrders = true) (hB : Region.lexTailB .any l.toArray n = true)
    (h : wpQuiet P l.toArray (fun w' => ∃ p : Regrown, w' = grow (redrawn w p.d) p.os) (fun a' => ∀ w', (∃ p : Regrown, w' = grow (redrawn w p.d) p.os) → wpList P l.toArray Q (l.drop n) a' w') (l.take n) a) : (Code.region id l.toArray true).wp P Q a w := by
  simp only [Region.lexTailB, Bool.and_eq_true, decide_eq_true_eq] at hB
  obtain ⟨⟨⟨⟨hsel, hn⟩, hs⟩, hc⟩, hlex⟩ := hB
  have hn' : n < l.length := by simpa using hn
  have htl : (l.take n).length = n := by simp; omega
  have hdl : (l.drop n).length = l.toArray.size - n := by simp
  have inv0 : HeadInv .any l.toArray n (Array.replicate l.toArray.size false) :=
    ⟨by simp, fun j oj _ hl => (by rw [getD_replicate_false] at hl; cases hl), fun t _ ht => getD_in (by simpa using ht) (getD_replicate_false _ _)⟩
  have H := QHead.lex (P := P) (md := .any) (g := l.toArray.size - n) hsel hs hc hn (l.take n) 0 _ a (fun j hj => by
    have hj' : j < n := by rw [htl] at hj; exact hj
    simp [hj']) (by simpa using htl) inv0 (by rw [htl]; exact hlex) h
  refine wp_region_any hm ?_
  have := QHead.any (Q := Q) (g := l.toArray.size - n) (fun ls a' w' hw' hL => by
    have := wpAny_of_seq (md := .any) (Q' := Q) (l.drop n) n ls a' w' (fun j => by simp [List.getElem?_drop]) (by rw [hdl]; exact hL.1) (hL.2 w' hw')
    rwa [hdl] at this) _ _ _ { w with drawn := w.drawn + 1 } ⟨⟨w.drawn + 1, #[]⟩, by rw [grow_empty]; rfl⟩ H
  rw [htl, show n + (l.toArray.size - n) = l.toArray.size by omega] at this
  exact this
end Go.Proofs.YtlllkjbbldhddaaDoor

set_option linter.unusedSimpArgs false
set_option linter.unusedVariables false
namespace Go.Proofs.YtlllkjbbldhddaaDoor
open Go.RowKit Go.Lib

set_option maxHeartbeats 400000 in
theorem compareInt_any (x y : Int) (w : World) :
    Calls Tryd.prog 87 #[.int .i64 x, .int .i64 y] w fun e w' => e = .returned (.int .i64 (cmp3 x y)) ∧ w' = w := by
  rcases (show x < y ∨ x = y ∨ y < x by omega) with h | h | h
  · have hv : cmp3 x y = -1 := by unfold cmp3; rw [if_pos h]
    rw [hv]; clear hv
    go_enter Tryd.func87, Tryd.ntmps87
    go_wp2
    go_ret
    exact ⟨rfl, rfl⟩
  · subst h
    have hv : cmp3 x x = 0 := cmp3_self x
    rw [hv]; clear hv
    go_enter Tryd.func87, Tryd.ntmps87
    go_wp2
    go_ret
    exact ⟨rfl, rfl⟩
  · have hv : cmp3 x y = 1 := by unfold cmp3; rw [if_neg (by omega), if_pos h]
    rw [hv]; clear hv
    go_enter Tryd.func87, Tryd.ntmps87
    go_wp2
    go_ret
    exact ⟨rfl, rfl⟩
set_option maxHeartbeats 400000 in
theorem compareI64_any (x y : Int) (w : World) :
    Calls Tryd.prog 89 #[.int .i64 x, .int .i64 y] w fun e w' => e = .returned (.int .i64 (cmp3 x y)) ∧ w' = w := by
  rcases (show x < y ∨ x = y ∨ y < x by omega) with h | h | h
  · have hv : cmp3 x y = -1 := by unfold cmp3; rw [if_pos h]
    rw [hv]; clear hv
    go_enter Tryd.func89, Tryd.ntmps89
    go_wp2
    go_ret
    exact ⟨rfl, rfl⟩
  · subst h
    have hv : cmp3 x x = 0 := cmp3_self x
    rw [hv]; clear hv
    go_enter Tryd.func89, Tryd.ntmps89
    go_wp2
    go_ret
    exact ⟨rfl, rfl⟩
  · have hv : cmp3 x y = 1 := by unfold cmp3; rw [if_neg (by omega), if_pos h]
    rw [hv]; clear hv
    go_enter Tryd.func89, Tryd.ntmps89
    go_wp2
    go_ret
    exact ⟨rfl, rfl⟩

/-- The first that is not 0. -/
def orL : List Int → Int
  | [] => 0
  | x :: l => if x = 0 then orL l else x

set_option maxHeartbeats 400000 in
theorem or_any (vs : Value) (ks : List Int) (w : World) (B : Nat) (hI : Ints w B vs ks) :
    Calls Tryd.prog 86 #[vs] w fun e w' => e = .returned (.int .i64 (orL ks)) ∧ w' = w := by
  obtain ⟨ao, cap0, rfl, hl, ⟨hm, _⟩, hc⟩ := hI
  unfold maxLen at hm
  have HC : Hid (ks = [] ∨ ∃ b o, ao = some ⟨b, o, none⟩ ∧ b < B ∧ ∀ j, j < ks.length → w.cell? ⟨b, o + j, none⟩ = some (.int .i64 (ks.getD j 0))) := hc
  clear hc
  go_enter Tryd.func86, Tryd.ntmps86
  go_wp2
  go_loop [8] (fun i => ∃ k : Nat, k ≤ ks.length ∧ i = .int .i64 k ∧ Hid (orL (ks.drop k) = orL ks)) (fun i => ks.length - (RowKit.intOf i).toNat)
  case atStart => exact ⟨0, by omega, rfl, rfl⟩
  case round =>
    obtain ⟨k, hk, rfl, ho⟩ := hrel
    by_cases hlt : k < ks.length
    · obtain ⟨b, o, rfl, hbl, hc⟩ : ∃ b o, ao = some ⟨b, o, none⟩ ∧ b < B ∧ ∀ j, j < ks.length → w.cell? ⟨b, o + j, none⟩ = some (.int .i64 (ks.getD j 0)) := by
        rcases HC.out with h | h
        · subst h; simp at hlt
        · exact h
      have hck := hc k hlt
      have hd : ks.drop k = ks.getD k 0 :: ks.drop (k + 1) := by rw [List.drop_eq_getElem_cons hlt]; simp [hlt]
      rw [hd] at ho
      clear hc HC hd
      generalize ks.getD k 0 = z at *
      by_cases hz : z = 0
      · subst hz
        have ho' : Hid (orL (ks.drop (k + 1)) = orL ks) := by have := ho.out; simp [orL] at this; exact this
        go_wp2
        exact ⟨⟨k + 1, by omega, by go_num, ho'⟩, by simp [RowKit.intOf]; omega⟩
      · have ho' : Hid (orL ks = z) := by have := ho.out; simp [orL, hz] at this; exact this.symm
        have hne : (z != 0) = true := by simpa using hz
        go_wp2
        go_ret
        exact ⟨ret_int ho'.out.symm, rfl⟩
    · have hke : k = ks.length := by omega
      subst hke
      have ho' : Hid (orL ks = 0) := by have := ho.out; rw [List.drop_length] at this; exact this.symm
      go_wp2
      go_ret
      exact ⟨ret_int ho'.out.symm, rfl⟩

/-- The cell of a place's beginning. -/
def FrAt (w : World) (g : Nat) (n : Nat) (fr : List Nat) : Prop := ∀ j, j < n → w.cell? ⟨g, j, none⟩ = some (.int .i64 (fr.getD j 0 : Nat))

set_option maxHeartbeats 1000000 in
theorem size_any (ao : Option Addr) (n cap g i c : Nat) (w : World) (hi : i < n) (hn : n ≤ 64) (hc : w.cell? ⟨g, i, none⟩ = some (.int .i64 (c : Nat))) (hci : c ≤ i) :
    Calls Tryd.prog 88 #[.agg #[.slice ao n cap, .slice (some ⟨g, 0, none⟩) n n, .int .i64 i]] w fun e w' => e = .returned (.int .i64 ((i : Int) + 1 - c)) ∧ Below w.heap.size w w' := by
  have hgl := World.block_lt_of_cell? w _ hc
  simp only at hgl
  have hg2 : g ≠ w.heap.size := by omega
  go_enter Tryd.func88, Tryd.ntmps88
  go_wp2
  go_quiet (fail)
  go_wp2
  go_ret
  exact ⟨rfl, below_drewN' ((Below.refl _ _).alloc (Nat.le_refl _) _) _⟩

set_option maxHeartbeats 1000000 in
theorem node_any (b o n cap i : Nat) (v2 : Value) (va : Option Addr) (vn vc : Nat) (op nn : Int) (nm : ByteArray) (ka : Option Addr) (kl kc : Nat) (w : World) (hi : i < n) (hn : n ≤ 64) (hv2 : v2 = .slice va vn vc)
    (c0 : w.cell? ⟨b, o + i * 4, none⟩ = some (.int .i64 op)) (c1 : w.cell? ⟨b, o + i * 4 + 1, none⟩ = some (.int .i64 nn)) (c2 : w.cell? ⟨b, o + i * 4 + 2, none⟩ = some (.string nm)) (c3 : w.cell? ⟨b, o + i * 4 + 3, none⟩ = some (.slice ka kl kc)) :
    Calls Tryd.prog 85 #[.agg #[.slice (some ⟨b, o, none⟩) n cap, v2, .int .i64 i]] w fun e w' => e = .returned (.agg #[.int .i64 op, .int .i64 nn, .string nm, .slice ka kl kc]) ∧ Below w.heap.size w w' := by
  subst hv2
  have hgl := World.block_lt_of_cell? w _ c0
  simp only at hgl
  have hg2 : b ≠ w.heap.size := by omega
  have hg3 : b ≠ w.heap.size + 1 := by omega
  go_enter Tryd.func85, Tryd.ntmps85
  go_wp2
  refine bodyPost_ret (v := .agg #[.int .i64 op, .int .i64 nn, .string nm, .slice ka kl kc]) (by simp [results, Tryd.results85, go_sem]) rfl ⟨rfl, ?_⟩
  exact ((Below.refl _ _).alloc (Nat.le_refl _) _).alloc (by simp) _

theorem field_kids (op nn : Int) (nm : ByteArray) (ka : Option Addr) (kl kc : Nat) (w : World) : (Instr.field 63 (.agg #[.int .i64 op, .int .i64 nn, .string nm, .slice ka kl kc]) 3).run Tryd.prog w = .ok (.slice ka kl kc) w := by kernel_rfl

set_option maxHeartbeats 2000000 in
theorem part_cur (b o n cap i g k : Nat) (op nn : Int) (nm : ByteArray) (kb ko kl kc : Nat) (z : Int) (w : World) (hi : i < n) (hn : n ≤ 64) (hk : k < kl) (hkl : kl ≤ 3)
    (c0 : w.cell? ⟨b, o + i * 4, none⟩ = some (.int .i64 op)) (c1 : w.cell? ⟨b, o + i * 4 + 1, none⟩ = some (.int .i64 nn)) (c2 : w.cell? ⟨b, o + i * 4 + 2, none⟩ = some (.string nm)) (c3 : w.cell? ⟨b, o + i * 4 + 3, none⟩ = some (.slice (some ⟨kb, ko, none⟩) kl kc))
    (ck : w.cell? ⟨kb, ko + k, none⟩ = some (.int .i64 z)) :
    Calls Tryd.prog 90 #[.agg #[.slice (some ⟨b, o, none⟩) n cap, .slice (some ⟨g, 0, none⟩) n n, .int .i64 i], .int .i64 k] w fun e w' => e = .returned (.agg #[.slice (some ⟨b, o, none⟩) n cap, .slice (some ⟨g, 0, none⟩) n n, .int .i64 z]) ∧ Below w.heap.size w w' := by
  have hgl := World.block_lt_of_cell? w _ c0
  have hgk := World.block_lt_of_cell? w _ ck
  simp only at hgl hgk
  obtain ⟨w1, hw1⟩ : ∃ w1, (w.alloc (.cells #[.slice (some ⟨b, o, none⟩) n cap, .slice (some ⟨g, 0, none⟩) n n, .int .i64 i] 81)).alloc (.cells #[.slice none 0 0, .slice none 0 0, .int .i64 0] 81) = w1 := ⟨_, rfl⟩
  have hb1 : Below w.heap.size w w1 := by rw [← hw1]; exact ((Below.refl _ _).alloc (Nat.le_refl _) _).alloc (by simp) _
  have hz1 : w1.heap.size = w.heap.size + 2 := by rw [← hw1]; simp
  have hcell : ∀ W, Below w1.heap.size w1 W → W.cell? ⟨w.heap.size, 0, none⟩ = some (.slice (some ⟨b, o, none⟩) n cap) ∧ W.cell? ⟨w.heap.size, 1, none⟩ = some (.slice (some ⟨g, 0, none⟩) n n) ∧ W.cell? ⟨w.heap.size, 2, none⟩ = some (.int .i64 i) ∧ W.cell? ⟨kb, ko + k, none⟩ = some (.int .i64 z) := fun W hW => by
    have e : ∀ q, W.cell? ⟨w.heap.size, q, none⟩ = w1.cell? ⟨w.heap.size, q, none⟩ := fun q => hW.cell (p := ⟨w.heap.size, q, none⟩) (by show w.heap.size < w1.heap.size; omega)
    rw [e, e, e, hW.cell (p := ⟨kb, ko + k, none⟩) (by show kb < w1.heap.size; omega), hb1.cell (p := ⟨kb, ko + k, none⟩) hgk]
    rw [← hw1]
    refine ⟨by simp, by simp, by simp, ck⟩
  have hres : ∀ W, Below w1.heap.size w1 W → W.cell? ⟨w.heap.size + 1, 0, none⟩ = some (.slice none 0 0) ∧ W.cell? ⟨w.heap.size + 1, 1, none⟩ = some (.slice none 0 0) ∧ W.cell? ⟨w.heap.size + 1, 2, none⟩ = some (.int .i64 0) ∧ ∀ q, W.frozen? ⟨w.heap.size + 1, q, none⟩ = false := fun W hW => by
    have e : ∀ q, W.cell? ⟨w.heap.size + 1, q, none⟩ = w1.cell? ⟨w.heap.size + 1, q, none⟩ := fun q => hW.cell (p := ⟨w.heap.size + 1, q, none⟩) (by show w.heap.size + 1 < w1.heap.size; omega)
    have e2 : ∀ q, W.frozen? ⟨w.heap.size + 1, q, none⟩ = w1.frozen? ⟨w.heap.size + 1, q, none⟩ := fun q => hW.frozen (p := ⟨w.heap.size + 1, q, none⟩) (by show w.heap.size + 1 < w1.heap.size; omega)
    rw [e, e, e]
    refine ⟨by rw [← hw1]; simp, by rw [← hw1]; simp, by rw [← hw1]; simp, fun q => by rw [e2, ← hw1]; simp⟩
  have d0 := (hb1.cell (p := ⟨b, o + i * 4, none⟩) hgl).trans c0
  have d1 := (hb1.cell (p := ⟨b, o + i * 4 + 1, none⟩) hgl).trans c1
  have d2 := (hb1.cell (p := ⟨b, o + i * 4 + 2, none⟩) hgl).trans c2
  have d3 := (hb1.cell (p := ⟨b, o + i * 4 + 3, none⟩) hgl).trans c3
  have HW1 : Hid ((w.alloc (.cells #[.slice (some ⟨b, o, none⟩) n cap, .slice (some ⟨g, 0, none⟩) n n, .int .i64 i] 81)).alloc (.cells #[.slice none 0 0, .slice none 0 0, .int .i64 0] 81) = w1) := hw1
  have HZ1 : Hid (w1.heap.size = w.heap.size + 2) := hz1
  have HCE : Hid (∀ W, Below w1.heap.size w1 W → W.cell? ⟨w.heap.size, 0, none⟩ = some (.slice (some ⟨b, o, none⟩) n cap) ∧ W.cell? ⟨w.heap.size, 1, none⟩ = some (.slice (some ⟨g, 0, none⟩) n n) ∧ W.cell? ⟨w.heap.size, 2, none⟩ = some (.int .i64 i) ∧ W.cell? ⟨kb, ko + k, none⟩ = some (.int .i64 z)) := hcell
  have HRE : Hid (∀ W, Below w1.heap.size w1 W → W.cell? ⟨w.heap.size + 1, 0, none⟩ = some (.slice none 0 0) ∧ W.cell? ⟨w.heap.size + 1, 1, none⟩ = some (.slice none 0 0) ∧ W.cell? ⟨w.heap.size + 1, 2, none⟩ = some (.int .i64 0) ∧ ∀ q, W.frozen? ⟨w.heap.size + 1, q, none⟩ = false) := hres
  have cN : Hid (∀ W, Below w1.heap.size w1 W → Calls Tryd.prog 85 #[.agg #[.slice (some ⟨b, o, none⟩) n cap, .slice (some ⟨g, 0, none⟩) n n, .int .i64 i]] W fun e w' => e = .returned (.agg #[.int .i64 op, .int .i64 nn, .string nm, .slice (some ⟨kb, ko, none⟩) kl kc]) ∧ Below W.heap.size W w') := fun W hW =>
    node_any b o n cap i _ _ _ _ op nn nm _ kl kc W hi hn rfl ((hW.cell (p := ⟨b, o + i * 4, none⟩) (by show b < w1.heap.size; omega)).trans d0) ((hW.cell (p := ⟨b, o + i * 4 + 1, none⟩) (by show b < w1.heap.size; omega)).trans d1) ((hW.cell (p := ⟨b, o + i * 4 + 2, none⟩) (by show b < w1.heap.size; omega)).trans d2) ((hW.cell (p := ⟨b, o + i * 4 + 3, none⟩) (by show b < w1.heap.size; omega)).trans d3)
  obtain ⟨e0, e1, e2, e3⟩ := hcell w1 (Below.refl _ _)
  clear hw1 hz1 hcell hres d0 d1 d2 d3 c0 c1 c2 c3 ck
  have hfd := field_kids op nn nm (some ⟨kb, ko, none⟩) kl kc
  have hk1 : (0 : Int) ≤ (k : Int) := by omega
  have hne1 : kb ≠ w.heap.size + 1 := by omega
  have hne2 : w.heap.size + 1 ≠ kb := by omega
  have hk2 : (k : Int) < (kl : Int) := by omega
  go_enter Tryd.func90, Tryd.ntmps90
  go_wp2_with fail
  rw [HW1.out]
  go_region_held3 (fun W => W.cell? ⟨w.heap.size, 0, none⟩ = some (.slice (some ⟨b, o, none⟩) n cap) ∧ W.cell? ⟨w.heap.size, 1, none⟩ = some (.slice (some ⟨g, 0, none⟩) n n) ∧ W.cell? ⟨w.heap.size, 2, none⟩ = some (.int .i64 i) ∧ W.cell? ⟨kb, ko + k, none⟩ = some (.int .i64 z)) (go_keep) (first | (go_at_call 85; refine (cN.out _ (Below.refl _ _).drew).mono ?_; rintro e w3 ⟨rfl, hb3⟩; obtain ⟨k0, k1, k2, k3⟩ := HCE.out w3 ((Below.refl _ _).drew.trans hb3); obtain ⟨r0, r1, r2, rf⟩ := HRE.out w3 ((Below.refl _ _).drew.trans hb3)))
  have hbw := hb1.drew.trans (hb3.mono hb1.size)
  go_wp2
  refine bodyPost_ret (v := .agg #[.slice (some ⟨b, o, none⟩) n cap, .slice (some ⟨g, 0, none⟩) n n, .int .i64 z]) (by simp [results, Tryd.results90, go_sem, r0, r1, r2]) rfl ⟨rfl, ?_⟩
  exact ((hbw.setCell (by simp) _).setCell (by simp) _).setCell (by simp) _
end Go.Proofs.YtlllkjbbldhddaaDoor

set_option linter.unusedSimpArgs false
set_option linter.unusedVariables false
namespace Go.Proofs.YtlllkjbbldhddaaDoor
open Go.RowKit Go.Lib

def szA (fr : List Nat) (i : Nat) : Int := (i : Int) + 1 - (fr.getD i 0 : Nat)
/-- Kids against kids, as long as nothing has been found. -/
def ordK (F : Int → Int → Int) : Int → List Int → List Int → Int
  | c, k :: ks, m :: ms => if c = 0 then ordK F (F k m) ks ms else c
  | c, _, _ => c
def heads (x y : Nd) : Int := orL [cmp3 x.op y.op, cmp3 x.n y.n, ordI x.name y.name]
def headC (m n : Int) (x y : Nd) : Int := orL [cmp3 m n, cmp3 x.op y.op, cmp3 x.n y.n, ordI x.name y.name]
def ordF (a : List Nd) (fa : List Nat) (b : List Nd) (fb : List Nat) : Nat → Nat → Nat → Int
  | 0, _, _ => 0
  | f + 1, i, j => ordK (fun p q => ordF a fa b fb f p.toNat q.toNat) (headC (szA fa i) (szA fb j) (a.getD i nd0) (b.getD j nd0)) (a.getD i nd0).kids (b.getD j nd0).kids

theorem ordK_nz (F : Int → Int → Int) {c : Int} (h : c ≠ 0) (ks ms : List Int) : ordK F c ks ms = c := by
  cases ks <;> cases ms <;> simp [ordK, h]
theorem ordK_nil (F : Int → Int → Int) (c : Int) (ms : List Int) : ordK F c [] ms = c := by
  cases ms <;> simp [ordK]
theorem ordK_zero (F : Int → Int → Int) (k m : Int) (ks ms : List Int) : ordK F 0 (k :: ks) (m :: ms) = ordK F (F k m) ks ms := by simp [ordK]
end Go.Proofs.YtlllkjbbldhddaaDoor
