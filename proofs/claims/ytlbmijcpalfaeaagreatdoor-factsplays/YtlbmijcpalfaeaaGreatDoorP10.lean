/-
  QTail, ExCurW, GpW5, GpW6, GpW7.
-/
import Derived.Test.YtlbmijcpalfaeaaGreatDoorP09
import Derived.Lib.QuietBelow
import Derived.StillTail
import Derived.Deep.RegionHeld3
namespace Go.Proofs.YtlbmijcpalfaeaaGreatDoor
open Go Go.Sort Go.RowKit

section
variable {P : Program} {ops : Array Oper} {md : Region.Mode} {C : World → Prop}

/-- f operations of the first n are still to come, each quiet in the class; behind them L. -/
def QHead (P : Program) (md : Region.Mode) (ops : Array Oper) (C : World → Prop) (n : Nat) (L : Array Bool → Act → Prop) : Nat → Array Bool → Act → Prop
  | 0, ls, a => L ls a
  | f + 1, ls, a => Region.ready md ops ls ≠ [] ∧ ∀ i ∈ Region.ready md ops ls, i < n ∧ qOp P ops C i (QHead P md ops C n L f (ls.setIfInBounds i true)) a

theorem QHead.any {n g : Nat} {L : Array Bool → Act → Prop} {Q : Exit → Act → World → Prop} (hL : ∀ ls a w, C w → L ls a → wpAny P md ops Q g ls a w) : ∀ (f : Nat) (ls : Array Bool) (a : Act) (w : World), C w → QHead P md ops C n L f ls a → wpAny P md ops Q (f + g) ls a w := by
  intro f
  induction f with
  | zero => intro ls a w hw h; rw [Nat.zero_add]; exact hL _ _ _ hw h
  | succ f ih =>
    intro ls a w hw h
    have e : f + 1 + g = (f + g) + 1 := by omega
    rw [e]
    exact ⟨fun h0 => absurd h0 h.1, fun i hi => wpOp_of_qOp hw (fun a' w' hw' h' => ih _ a' w' hw' h') (h.2 i hi).2⟩

/-- One that is ready, and apart from all that don't wait for it, may come first. -/
theorem QHead.first {n i : Nat} {oi : Oper} {v : Value} {L : Array Bool → Act → Prop} (hi : ops[i]? = some oi) (hsel : ∀ (j : Nat) (o : Oper) cs b, ops[j]? = some o → o.op ≠ .select cs b)
    (hs : Region.sinkB md ops n = true) (hc : Region.chainB md ops n = true) (hn : n < ops.size) (hin : i < n) (hdone : ∀ ls a, L ls a → ∀ j ∈ Region.ready md ops ls, n ≤ j) :
    ∀ (f : Nat) (ls : Array Bool) (a : Act), HeadInv md ops n ls →
      (∀ j oj, ops[j]? = some oj → j ≠ i → ls.getD j true = false → (∀ e ∈ oj.after, Region.binds md e = true → e.on ≠ i) → oi.apart ops oj = true) →
      i ∈ Region.ready md ops ls → YieldsIn P ops C oi v a → QHead P md ops C n L f (ls.setIfInBounds i true) (a.put oi.dst v) → QHead P md ops C n L (f + 1) ls a := by
  intro f
  induction f with
  | zero =>
    intro ls a inv _ hr hy H
    have hun := (mem_ready.1 hr).1
    constructor
    · intro h; rw [h] at hr; cases hr
    · intro j hj
      have hjn : j < n := Nat.lt_of_not_le fun h => tail_waits hs hc hn inv _ i rfl hin hun j h hj
      refine ⟨hjn, ?_⟩
      by_cases hji : j = i
      · subst hji; exact hy.qOp hi H
      · have := hdone _ _ H j (ready_mono hj hji); omega
  | succ f ih =>
    intro ls a inv hfree hr hy H
    have hun := (mem_ready.1 hr).1
    constructor
    · intro h; rw [h] at hr; cases hr
    · intro j hj
      have hjn : j < n := Nat.lt_of_not_le fun h => tail_waits hs hc hn inv _ i rfl hin hun j h hj
      refine ⟨hjn, ?_⟩
      by_cases hji : j = i
      · subst hji; exact hy.qOp hi H
      · obtain ⟨hjun, oj, hoj, hall⟩ := mem_ready.1 hj
        have hnot : ∀ e ∈ oj.after, Region.binds md e = true → e.on ≠ i := fun e he hb heq => by
          have h1 := hall e he hb
          rw [heq, getD_both hun] at h1
          cases h1
        have h2 := qOp_put hoj (hfree j oj hoj hji hjun hnot) (fun cs b => hsel i oi cs b hi) (fun cs b => hsel j oj cs b hoj) hy (H.2 j (ready_mono hj hji)).2
        have hfree' : ∀ k ok, ops[k]? = some ok → k ≠ i → (ls.setIfInBounds j true).getD k true = false → (∀ e ∈ ok.after, Region.binds md e = true → e.on ≠ i) → oi.apart ops ok = true := fun k ok hk hki hu hno => by
          refine hfree k ok hk hki ?_ hno
          by_cases hjk : j = k
          · subst hjk; exact hjun
          · rw [getD_set_ne true hjk] at hu; exact hu
        refine qOp_mono (fun a' h3 => ih (ls.setIfInBounds j true) a' (inv.set hj hjn) hfree' (ready_mono hr (Ne.symm hji)) h3.1 ?_) h2
        rw [Array.setIfInBounds_comm _ _ hji]
        exact h3.2

theorem QHead.lex {n g : Nat} {K : Act → Prop} (hsel : Region.noSelect ops = true) (hs : Region.sinkB md ops n = true) (hc : Region.chainB md ops n = true) (hn : n < ops.size) :
    ∀ (l : List Oper) (k : Nat) (ls : Array Bool) (a : Act), (∀ j, j < l.length → l[j]? = ops[k + j]?) → k + l.length = n → HeadInv md ops n ls → Region.lexHead md ops g l.length k ls = true → wpQuiet P ops C K l a →
      QHead P md ops C n (fun ls' a' => Region.seqB md ops g n ls' = true ∧ K a') l.length ls a := by
  intro l
  induction l with
  | nil =>
    intro k ls a _ hk _ hB h
    have : k = n := by simpa using hk
    subst this
    exact ⟨by simpa [Region.lexHead] using hB, h⟩
  | cons o l ih =>
    intro k ls a hl hk inv hB h
    have h0 : ops[k]? = some o := by simpa using (hl 0 (by simp)).symm
    simp only [List.length_cons, Region.lexHead, Bool.and_eq_true] at hB
    have hkn : k < n := by simp only [List.length_cons] at hk; omega
    have hr : k ∈ Region.ready md ops ls := by simpa using hB.1.1
    have hq : qOp P ops C k (wpQuiet P ops C K l) a := by unfold qOp; simp only [h0]; exact h
    obtain ⟨v, hy, hK⟩ := yieldsIn_of_qOp h0 hq
    refine QHead.first h0 (Region.noSelect_spec hsel) hs hc hn hkn (fun ls' a' hL => seqB_ready hL.1) l.length ls a inv (Region.free_spec h0 hB.1.2) hr hy ?_
    refine ih (k + 1) _ _ (fun j hj => ?_) (by simp only [List.length_cons] at hk; omega) (inv.set hr hkn) hB.2 hK
    have := hl (j + 1) (by simp; omega)
    simpa [Nat.add_assoc, Nat.add_comm 1 j] using this
end

/-- THE LAW, at the class 'w with new memory laid behind it'. -/
theorem wp_region_quiet_then {P : Program} {id : Nat} {Q : Exit → Act → World → Prop} {a : Act} {w : World} {l : List Oper} (n : Nat) (hm : P.follows .mixedOrders = true) (hB : Region.lexTailB .any l.toArray n = true)
    (h : wpQuiet P l.toArray (fun w' => ∃ p : Regrown, w' = grow (redrawn w p.d) p.os) (fun a' => ∀ w', (∃ p : Regrown, w' = grow (redrawn w p.d) p.os) → wpList P l.toArray Q (l.drop n) a' w') (l.take n) a) : (Code.region id l.toArray true).wp P Q a w := by
  simp only [Region.lexTailB, Bool.and_eq_true, decide_eq_true_eq] at hB
  obtain ⟨⟨⟨⟨hsel, hn⟩, hs⟩, hc⟩, hlex⟩ := hB
  have hn' : n < l.length := by simpa using hn
  have htl : (l.take n).length = n := by simp; omega
  have hdl : (l.drop n).length = l.toArray.size - n := by simp
  have inv0 : HeadInv .any l.toArray n (Array.replicate l.toArray.size false) :=
    ⟨by simp, fun j oj _ hl => (by rw [getD_replicate_false] at hl; cases hl), fun t _ ht => getD_in (by simpa using ht) (getD_replicate_false _ _)⟩
  have H := QHead.lex (P := P) (md := .any) (g := l.toArray.size - n) hsel hs hc hn (l.take n) 0 _ a (fun j hj => by
    have hj' : j < n := by rw [htl] at hj; exact hj
    simp [hj']) (by simpa using htl) inv0 (by rw [htl]; exact hlex) h
  refine wp_region_any hm ?_
  have := QHead.any (Q := Q) (g := l.toArray.size - n) (fun ls a' w' hw' hL => by
    have := wpAny_of_seq (md := .any) (Q' := Q) (l.drop n) n ls a' w' (fun j => by simp [List.getElem?_drop]) (by rw [hdl]; exact hL.1) (hL.2 w' hw')
    rwa [hdl] at this) _ _ _ { w with drawn := w.drawn + 1 } ⟨⟨w.drawn + 1, #[]⟩, by rw [grow_empty]; rfl⟩ H
  rw [htl, show n + (l.toArray.size - n) = l.toArray.size by omega] at this
  exact this
end Go.Proofs.YtlbmijcpalfaeaaGreatDoor

set_option linter.unusedSimpArgs false
set_option linter.unusedVariables false
namespace Go.Proofs.YtlbmijcpalfaeaaGreatDoor
open Go.RowKit Go.Lib

set_option maxHeartbeats 400000 in
theorem compareInt_any (x y : Int) (w : World) :
    Calls Tryz.prog 92 #[.int .i64 x, .int .i64 y] w fun e w' => e = .returned (.int .i64 (cmp3 x y)) ∧ w' = w := by
  rcases (show x < y ∨ x = y ∨ y < x by omega) with h | h | h
  · have hv : cmp3 x y = -1 := by unfold cmp3; rw [if_pos h]
    rw [hv]; clear hv
    go_enter Tryz.func92, Tryz.ntmps92
    go_wp2
    go_ret
    exact ⟨rfl, rfl⟩
  · subst h
    have hv : cmp3 x x = 0 := cmp3_self x
    rw [hv]; clear hv
    go_enter Tryz.func92, Tryz.ntmps92
    go_wp2
    go_ret
    exact ⟨rfl, rfl⟩
  · have hv : cmp3 x y = 1 := by unfold cmp3; rw [if_neg (by omega), if_pos h]
    rw [hv]; clear hv
    go_enter Tryz.func92, Tryz.ntmps92
    go_wp2
    go_ret
    exact ⟨rfl, rfl⟩
set_option maxHeartbeats 400000 in
theorem compareI64_any (x y : Int) (w : World) :
    Calls Tryz.prog 98 #[.int .i64 x, .int .i64 y] w fun e w' => e = .returned (.int .i64 (cmp3 x y)) ∧ w' = w := by
  rcases (show x < y ∨ x = y ∨ y < x by omega) with h | h | h
  · have hv : cmp3 x y = -1 := by unfold cmp3; rw [if_pos h]
    rw [hv]; clear hv
    go_enter Tryz.func98, Tryz.ntmps98
    go_wp2
    go_ret
    exact ⟨rfl, rfl⟩
  · subst h
    have hv : cmp3 x x = 0 := cmp3_self x
    rw [hv]; clear hv
    go_enter Tryz.func98, Tryz.ntmps98
    go_wp2
    go_ret
    exact ⟨rfl, rfl⟩
  · have hv : cmp3 x y = 1 := by unfold cmp3; rw [if_neg (by omega), if_pos h]
    rw [hv]; clear hv
    go_enter Tryz.func98, Tryz.ntmps98
    go_wp2
    go_ret
    exact ⟨rfl, rfl⟩

/-- The first that is not 0. -/
def orL : List Int → Int
  | [] => 0
  | x :: l => if x = 0 then orL l else x

set_option maxHeartbeats 400000 in
theorem or_any (vs : Value) (ks : List Int) (w : World) (B : Nat) (hI : Ints w B vs ks) :
    Calls Tryz.prog 91 #[vs] w fun e w' => e = .returned (.int .i64 (orL ks)) ∧ w' = w := by
  obtain ⟨ao, cap0, rfl, hl, ⟨hm, _⟩, hc⟩ := hI
  unfold maxLen at hm
  have HC : Hid (ks = [] ∨ ∃ b o, ao = some ⟨b, o, none⟩ ∧ b < B ∧ ∀ j, j < ks.length → w.cell? ⟨b, o + j, none⟩ = some (.int .i64 (ks.getD j 0))) := hc
  clear hc
  go_enter Tryz.func91, Tryz.ntmps91
  go_wp2
  go_loop [8] (fun i => ∃ k : Nat, k ≤ ks.length ∧ i = .int .i64 k ∧ Hid (orL (ks.drop k) = orL ks)) (fun i => ks.length - (RowKit.intOf i).toNat)
  case atStart => exact ⟨0, by omega, rfl, rfl⟩
  case round =>
    obtain ⟨k, hk, rfl, ho⟩ := hrel
    by_cases hlt : k < ks.length
    · obtain ⟨b, o, rfl, hbl, hc⟩ : ∃ b o, ao = some ⟨b, o, none⟩ ∧ b < B ∧ ∀ j, j < ks.length → w.cell? ⟨b, o + j, none⟩ = some (.int .i64 (ks.getD j 0)) := by
        rcases HC.out with h | h
        · subst h; simp at hlt
        · exact h
      have hck := hc k hlt
      have hd : ks.drop k = ks.getD k 0 :: ks.drop (k + 1) := by rw [List.drop_eq_getElem_cons hlt]; simp [hlt]
      rw [hd] at ho
      clear hc HC hd
      generalize ks.getD k 0 = z at *
      by_cases hz : z = 0
      · subst hz
        have ho' : Hid (orL (ks.drop (k + 1)) = orL ks) := by have := ho.out; simp [orL] at this; exact this
        go_wp2
        exact ⟨⟨k + 1, by omega, by go_num, ho'⟩, by simp [RowKit.intOf]; omega⟩
      · have ho' : Hid (orL ks = z) := by have := ho.out; simp [orL, hz] at this; exact this.symm
        have hne : (z != 0) = true := by simpa using hz
        go_wp2
        go_ret
        exact ⟨ret_int ho'.out.symm, rfl⟩
    · have hke : k = ks.length := by omega
      subst hke
      have ho' : Hid (orL ks = 0) := by have := ho.out; rw [List.drop_length] at this; exact this.symm
      go_wp2
      go_ret
      exact ⟨ret_int ho'.out.symm, rfl⟩

end Go.Proofs.YtlbmijcpalfaeaaGreatDoor

set_option linter.unusedSimpArgs false
set_option linter.unusedVariables false
namespace Go.Proofs.YtlbmijcpalfaeaaGreatDoor
open Go.RowKit Go.Lib

/-- Two lists of numbers, held against each other. -/
def cmpI : List Int → List Int → Int
  | [], [] => 0
  | [], _ :: _ => -1
  | _ :: _, [] => 1
  | a :: ta, b :: tb => if cmp3 a b = 0 then cmpI ta tb else cmp3 a b

set_option maxRecDepth 20000 in
set_option maxHeartbeats 4000000 in
theorem cmpInts_any (ks ls : List Int) (ka la : Option Addr) (kc lc : Nat) (w : World) (B : Nat) (hk : Ints w B (.slice ka ks.length kc) ks) (hl : Ints w B (.slice la ls.length lc) ls) :
    Calls Tryz.prog 100 #[.slice ka ks.length kc, .slice la ls.length lc] w fun e w' => e = .returned (.int .i64 (cmpI ks ls)) ∧ w' = w := by
  have HK := Sld.mk hk
  have HL := Sld.mk hl
  obtain ⟨_, _, e1, hk1, ⟨hk2, _⟩, _⟩ := hk
  injection e1 with e1 e2 e3
  rw [← e3] at hk1 hk2
  obtain ⟨_, _, d1, hl1, ⟨hl2, _⟩, _⟩ := hl
  injection d1 with d1 d2 d3
  rw [← d3] at hl1 hl2
  unfold maxLen at hk2 hl2
  clear e1 e2 e3 d1 d2 d3
  go_enter Tryz.func100, Tryz.ntmps100
  go_wp2_with fail
  go_loopw [11] (fun i wr => ∃ j : Nat, j ≤ ks.length ∧ j ≤ ls.length ∧ i = .int .i64 j ∧ wr = w ∧ Sld (cmpI ks ls = cmpI (ks.drop j) (ls.drop j))) (fun i _ => ks.length - (RowKit.intOf i).toNat)
  case atStart => exact ⟨0, Nat.zero_le _, Nat.zero_le _, rfl, rfl, ⟨by simp⟩⟩
  case round =>
    obtain ⟨j, hj, hjl, rfl, hwr, HR⟩ := hrel
    subst hwr
    by_cases hlt : j < ks.length
    · obtain ⟨b, o, hka, ck⟩ : ∃ b o, ka = some ⟨b, o, none⟩ ∧ wr.cell? ⟨b, o + j, none⟩ = some (.int .i64 ks[j]) := by
        obtain ⟨ao, cap, h1, _, _, h2⟩ := HK.out
        injection h1 with h1 _ _
        rcases h2 with h2 | ⟨b, o, h2, _, h3⟩
        · subst h2; simp at hlt
        · exact ⟨b, o, h1.trans h2, by rw [h3 j hlt, getD_atT hlt]⟩
      subst hka
      have hltI : (j : Int) < (ks.length : Int) := by omega
      by_cases hl3 : j < ls.length
      · obtain ⟨b2, o2, hla, cl⟩ : ∃ b o, la = some ⟨b, o, none⟩ ∧ wr.cell? ⟨b, o + j, none⟩ = some (.int .i64 ls[j]) := by
          obtain ⟨ao, cap, h1, _, _, h2⟩ := HL.out
          injection h1 with h1 _ _
          rcases h2 with h2 | ⟨b, o, h2, _, h3⟩
          · subst h2; simp at hl3
          · exact ⟨b, o, h1.trans h2, by rw [h3 j hl3, getD_atT hl3]⟩
        subst hla
        have hcm : cmpI ks ls = if cmp3 ks[j] ls[j] = 0 then cmpI (ks.drop (j + 1)) (ls.drop (j + 1)) else cmp3 ks[j] ls[j] := by
          rw [HR.out, List.drop_eq_getElem_cons hlt, List.drop_eq_getElem_cons hl3]; rfl
        have HCM := Sld.mk hcm
        have CC := Sld.mk (compareInt_any ks[j] ls[j] wr)
        have hlI : (j : Int) < (ls.length : Int) := by omega
        clear hcm HR
        generalize ks[j] = x at *
        generalize ls[j] = y at *
        go_wp2_with fail
        refine CC.out.mono ?_
        rintro e w2 ⟨rfl, hw2⟩
        obtain rfl := hw2.symm
        by_cases h0 : cmp3 x y = 0
        · have HE : Sld (cmpI ks ls = cmpI (ks.drop (j + 1)) (ls.drop (j + 1))) := ⟨by rw [HCM.out, if_pos h0]⟩
          have hne : (cmp3 x y != 0) = false := by simp [h0]
          clear CC h0 HCM
          generalize cmp3 x y = z at *
          go_wp2_with fail
          exact ⟨⟨j + 1, by omega, by omega, by go_num, trivial, HE⟩, by simp [RowKit.intOf]; omega⟩
        · have HE : Sld (cmpI ks ls = cmp3 x y) := ⟨by rw [HCM.out, if_neg h0]⟩
          have hne : (cmp3 x y != 0) = true := by simp [h0]
          clear CC h0 HCM
          generalize cmp3 x y = z at *
          go_wp2_with fail
          go_ret
          exact ⟨by rw [HE.out]; rfl, rfl⟩
      · have hlI : (ls.length : Int) ≤ (j : Int) := by omega
        have HE : Sld (cmpI ks ls = 1) := ⟨by
          have hjl : ls.length ≤ j := by omega
          rw [HR.out, List.drop_eq_getElem_cons hlt, List.drop_eq_nil_of_le hjl]; rfl⟩
        clear HR
        go_wp2_with fail
        go_ret
        exact ⟨by rw [HE.out]; rfl, rfl⟩
    · have hje : j = ks.length := by omega
      subst hje
      by_cases hll : (ks.length : Int) < (ls.length : Int)
      · have HE : Sld (cmpI ks ls = -1) := ⟨by
          rw [HR.out, List.drop_length, List.drop_eq_getElem_cons (by omega : ks.length < ls.length)]; rfl⟩
        clear HR
        go_wp2_with fail
        go_ret
        exact ⟨by rw [HE.out]; rfl, rfl⟩
      · have HE : Sld (cmpI ks ls = 0) := ⟨by
          rw [HR.out, List.drop_length, List.drop_eq_nil_of_le (by omega : ls.length ≤ ks.length)]; rfl⟩
        clear HR
        go_wp2_with fail
        go_ret
        exact ⟨by rw [HE.out]; rfl, rfl⟩
end Go.Proofs.YtlbmijcpalfaeaaGreatDoor

set_option linter.unusedSimpArgs false
set_option linter.unusedVariables false
namespace Go.Proofs.YtlbmijcpalfaeaaGreatDoor
open Go.RowKit Go.Lib Go.Sort

theorem Calls.regrownS {P : Program} {f : FuncId} {args : Array Value} {W : World} {d : Nat} {os : Array Obj} {v : Value} (h : Calls P f args (grow (redrawn W d) os) fun e w' => e = .returned v ∧ w' = grow (redrawn W d) os) : Calls P f args (grow (redrawn W d) os) fun e w'' => e = .returned v ∧ ∃ p : Regrown, w'' = grow (redrawn W p.d) p.os :=
  h.mono fun e w' ⟨h1, h2⟩ => ⟨h1, ⟨d, os⟩, h2⟩
/-- Two nodes of a class. -/
def ordN (x y : Nd) : Int := orL [cmp3 x.op y.op, cmp3 x.n y.n, ordI x.name y.name, cmpI x.kids y.kids]
theorem blk4N {w : World} {b : Nat} {a0 a1 a2 a3 : Value} {t : TypeId} (h : w.heap[b]? = some (.cells #[a0, a1, a2, a3] t (0, 0))) : w.cell? ⟨b, 0, none⟩ = some a0 ∧ w.cell? ⟨b, 1, none⟩ = some a1 ∧ w.cell? ⟨b, 2, none⟩ = some a2 ∧ w.cell? ⟨b, 3, none⟩ = some a3 := by
  simp [World.cell?, h]
theorem ints4 {w : World} {b : Nat} {x0 x1 x2 x3 : Int} (h0 : w.cell? ⟨b, 0, none⟩ = some (.int .i64 x0)) (h1 : w.cell? ⟨b, 1, none⟩ = some (.int .i64 x1)) (h2 : w.cell? ⟨b, 2, none⟩ = some (.int .i64 x2)) (h3 : w.cell? ⟨b, 3, none⟩ = some (.int .i64 x3)) : Ints w (b + 1) (.slice (some ⟨b, 0, none⟩) 4 4) [x0, x1, x2, x3] :=
  ⟨_, 4, rfl, by simp, ⟨by unfold maxLen; omega, by simp⟩, .inr ⟨b, 0, rfl, by omega, fun q hq => by
    simp at hq
    rcases (show q = 0 ∨ q = 1 ∨ q = 2 ∨ q = 3 by omega) with rfl | rfl | rfl | rfl
    · exact h0
    · exact h1
    · exact h2
    · exact h3⟩⟩
theorem ints2 {w : World} {b : Nat} {x0 x1 : Int} (h0 : w.cell? ⟨b, 0, none⟩ = some (.int .i64 x0)) (h1 : w.cell? ⟨b, 1, none⟩ = some (.int .i64 x1)) : Ints w (b + 1) (.slice (some ⟨b, 0, none⟩) 2 2) [x0, x1] :=
  ⟨_, 2, rfl, by simp, ⟨by unfold maxLen; omega, by simp⟩, .inr ⟨b, 0, rfl, by omega, fun q hq => by
    simp at hq
    rcases (show q = 0 ∨ q = 1 by omega) with rfl | rfl
    · exact h0
    · exact h1⟩⟩

set_option maxRecDepth 20000 in
set_option maxHeartbeats 4000000 in
theorem gorder_any (x y : Nd) (xa ya : Option Addr) (xc yc : Nat) (w : World) (T : Tabs w) (hx : Ints w w.heap.size (.slice xa x.kids.length xc) x.kids) (hy : Ints w w.heap.size (.slice ya y.kids.length yc) y.kids) :
    Calls Tryz.prog 89 #[.agg #[.int .i64 x.op, .int .i64 x.n, .string x.name, .slice xa x.kids.length xc], .agg #[.int .i64 y.op, .int .i64 y.n, .string y.name, .slice ya y.kids.length yc]] w fun e w' => e = .returned (.int .i64 (ordN x y)) ∧ Below w.heap.size w w' := by
  obtain ⟨xo, xn, xm, xk⟩ := x
  obtain ⟨yo, yn, ym, yk⟩ := y
  simp only at hx hy ⊢
  obtain ⟨W, hW⟩ : ∃ W, (w.alloc (.cells #[.int .i64 xo, .int .i64 xn, .string xm, .slice xa xk.length xc] 41)).alloc (.cells #[.int .i64 yo, .int .i64 yn, .string ym, .slice ya yk.length yc] 41) = W := ⟨_, rfl⟩
  have hb : Below w.heap.size w W := by rw [← hW]; exact ((Below.refl _ _).alloc (Nat.le_refl _) _).alloc (by simp) _
  have kx : W.heap[w.heap.size]? = some (.cells #[.int .i64 xo, .int .i64 xn, .string xm, .slice xa xk.length xc] 41 (0, 0)) := by
    rw [← hW, Deep.blk_alloc_lt _ _ _ (by simp), Deep.blk_alloc_new]
  have ky : W.heap[w.heap.size + 1]? = some (.cells #[.int .i64 yo, .int .i64 yn, .string ym, .slice ya yk.length yc] 41 (0, 0)) := by
    have := Deep.blk_alloc_new (w.alloc (.cells #[.int .i64 xo, .int .i64 xn, .string xm, .slice xa xk.length xc] 41)) (.cells #[.int .i64 yo, .int .i64 yn, .string ym, .slice ya yk.length yc] 41)
    rw [World.size_alloc] at this
    rw [← hW]; exact this
  obtain ⟨x0, x1, x2, x3⟩ := blk4N kx
  obtain ⟨y0, y1, y2, y3⟩ := blk4N ky
  have hx' := hx.below hb hb.size
  have hy' := hy.below hb hb.size
  have T' := T.below hb
  have cC : Sld (∀ x y d os, Calls Tryz.prog 92 #[.int .i64 x, .int .i64 y] (grow (redrawn W d) os) fun e w'' => e = .returned (.int .i64 (cmp3 x y)) ∧ ∃ p : Regrown, w'' = grow (redrawn W p.d) p.os) := ⟨fun x y d os => Calls.regrownS (compareInt_any x y _)⟩
  have cD : Sld (∀ x y d os, Calls Tryz.prog 98 #[.int .i64 x, .int .i64 y] (grow (redrawn W d) os) fun e w'' => e = .returned (.int .i64 (cmp3 x y)) ∧ ∃ p : Regrown, w'' = grow (redrawn W p.d) p.os) := ⟨fun x y d os => Calls.regrownS (compareI64_any x y _)⟩
  have cO : Sld (∀ d os, Calls Tryz.prog 99 #[.string xm, .string ym] (grow (redrawn W d) os) fun e w'' => e = .returned (.int .i64 (ordI xm ym)) ∧ ∃ p : Regrown, w'' = grow (redrawn W p.d) p.os) := ⟨fun d os => Calls.regrown_of (order_any _ _ _ (T'.below (below_regrown W d os)))⟩
  have cK : Sld (∀ d os, Calls Tryz.prog 100 #[.slice xa xk.length xc, .slice ya yk.length yc] (grow (redrawn W d) os) fun e w'' => e = .returned (.int .i64 (cmpI xk yk)) ∧ ∃ p : Regrown, w'' = grow (redrawn W p.d) p.os) := ⟨fun d os => Calls.regrownS (cmpInts_any xk yk xa ya xc yc _ _ (hx'.below (below_regrown W d os) (below_regrown W d os).size) (hy'.below (below_regrown W d os) (below_regrown W d os).size))⟩
  have g0 := cell_regrown x0
  have g1 := cell_regrown x1
  have g2 := cell_regrown x2
  have g3 := cell_regrown x3
  have g4 := cell_regrown y0
  have g5 := cell_regrown y1
  have g6 := cell_regrown y2
  have g7 := cell_regrown y3
  have HW := Sld.mk hW
  have HB := Sld.mk hb
  have HE : Sld (ordN ⟨xo, xn, xm, xk⟩ ⟨yo, yn, ym, yk⟩ = orL [cmp3 xo yo, cmp3 xn yn, ordI xm ym, cmpI xk yk]) := ⟨rfl⟩
  clear hW hb kx ky x0 x1 x2 x3 y0 y1 y2 y3 hx' hy' T' T hx hy
  go_enter Tryz.func89, Tryz.ntmps89
  go_wp2_with fail
  rw [HW.out]
  refine wp_region_quiet_then 20 (by kernel_rfl) (by kernel_rfl) ?_
  simp only [List.take_succ_cons, List.take_zero]
  iterate 20 (go_big_quiet_step ((first | (go_at_call 92; exact cC.out _ _ _ _) | (go_at_call 98; exact cD.out _ _ _ _) | (go_at_call 99; exact cO.out _ _) | (go_at_call 100; exact cK.out _ _))))
  refine wpQuiet_nil ?_
  intro w' hw'
  obtain ⟨⟨dq, osq⟩, hw''⟩ := hw'
  subst hw''
  simp only [List.drop_succ_cons, List.drop_zero]
  clear cC cD cO cK g0 g1 g2 g3 g4 g5 g6 g7
  obtain ⟨w2, hw2⟩ : ∃ w2, grow (redrawn W dq) osq = w2 := ⟨_, rfl⟩
  rw [hw2]
  have HB2 : Sld (Below w.heap.size w w2) := ⟨HB.out.trans ((hw2 ▸ below_regrown W dq osq : Below W.heap.size W w2).mono HB.out.size)⟩
  clear hw2
  generalize cmp3 xo yo = z0 at *
  generalize cmp3 xn yn = z1 at *
  generalize ordI xm ym = z2 at *
  generalize cmpI xk yk = z3 at *
  have cOr : Sld (∀ V, V.cell? ⟨w2.heap.size, 0, none⟩ = some (.int .i64 z0) → V.cell? ⟨w2.heap.size, 1, none⟩ = some (.int .i64 z1) → V.cell? ⟨w2.heap.size, 2, none⟩ = some (.int .i64 z2) → V.cell? ⟨w2.heap.size, 3, none⟩ = some (.int .i64 z3) → Calls Tryz.prog 91 #[.slice (some ⟨w2.heap.size, 0, none⟩) 4 4] V fun e w' => e = .returned (.int .i64 (orL [z0, z1, z2, z3])) ∧ w' = V) := ⟨fun V h0 h1 h2 h3 => or_any _ _ V _ (ints4 h0 h1 h2 h3)⟩
  go_wp2_with fail
  refine (cOr.out _ (by simp) (by simp) (by simp) (by simp)).mono ?_
  rintro e w3 ⟨rfl, hw3⟩
  have HB3 : Sld (Below w.heap.size w w3) := ⟨by rw [hw3]; exact HB2.out.alloc HB2.out.size _⟩
  clear hw3 cOr HB2
  go_wp2_with fail
  go_ret
  exact ⟨by rw [HE.out]; rfl, HB3.out⟩
end Go.Proofs.YtlbmijcpalfaeaaGreatDoor

set_option linter.unusedSimpArgs false
set_option linter.unusedVariables false
namespace Go.Proofs.YtlbmijcpalfaeaaGreatDoor
open Go.RowKit Go.Lib Go.Sort

/-- Two spots. -/
def lsS (x y : Nd) (sx sy : Int) : Int := orL [cmp3 sx sy, ordN x y]
theorem blk6N {w : World} {b : Nat} {a0 a1 a2 a3 a4 a5 : Value} {t : TypeId} (h : w.heap[b]? = some (.cells #[a0, a1, a2, a3, a4, a5] t (0, 0))) : w.cell? ⟨b, 0, none⟩ = some a0 ∧ w.cell? ⟨b, 1, none⟩ = some a1 ∧ w.cell? ⟨b, 2, none⟩ = some a2 ∧ w.cell? ⟨b, 3, none⟩ = some a3 ∧ w.cell? ⟨b, 4, none⟩ = some a4 ∧ w.cell? ⟨b, 5, none⟩ = some a5 := by
  simp [World.cell?, h]

set_option maxRecDepth 20000 in
set_option maxHeartbeats 4000000 in
theorem gless_any (x y : Nd) (xa ya : Option Addr) (xc yc : Nat) (sx sy kx ky : Int) (w : World) (T : Tabs w) (hx : Ints w w.heap.size (.slice xa x.kids.length xc) x.kids) (hy : Ints w w.heap.size (.slice ya y.kids.length yc) y.kids) :
    Calls Tryz.prog 63 #[.agg #[.int .i64 x.op, .int .i64 x.n, .string x.name, .slice xa x.kids.length xc, .int .i64 sx, .int .i64 kx], .agg #[.int .i64 y.op, .int .i64 y.n, .string y.name, .slice ya y.kids.length yc, .int .i64 sy, .int .i64 ky]] w fun e w' => e = .returned (.bool (decide (lsS x y sx sy < 0))) ∧ Below w.heap.size w w' := by
  obtain ⟨xo, xn, xm, xk⟩ := x
  obtain ⟨yo, yn, ym, yk⟩ := y
  simp only at hx hy ⊢
  obtain ⟨W, hW⟩ : ∃ W, (w.alloc (.cells #[.int .i64 xo, .int .i64 xn, .string xm, .slice xa xk.length xc, .int .i64 sx, .int .i64 kx] 115)).alloc (.cells #[.int .i64 yo, .int .i64 yn, .string ym, .slice ya yk.length yc, .int .i64 sy, .int .i64 ky] 115) = W := ⟨_, rfl⟩
  have hb : Below w.heap.size w W := by rw [← hW]; exact ((Below.refl _ _).alloc (Nat.le_refl _) _).alloc (by simp) _
  have bx : W.heap[w.heap.size]? = some (.cells #[.int .i64 xo, .int .i64 xn, .string xm, .slice xa xk.length xc, .int .i64 sx, .int .i64 kx] 115 (0, 0)) := by
    rw [← hW, Deep.blk_alloc_lt _ _ _ (by simp), Deep.blk_alloc_new]
  have by_ : W.heap[w.heap.size + 1]? = some (.cells #[.int .i64 yo, .int .i64 yn, .string ym, .slice ya yk.length yc, .int .i64 sy, .int .i64 ky] 115 (0, 0)) := by
    have := Deep.blk_alloc_new (w.alloc (.cells #[.int .i64 xo, .int .i64 xn, .string xm, .slice xa xk.length xc, .int .i64 sx, .int .i64 kx] 115)) (.cells #[.int .i64 yo, .int .i64 yn, .string ym, .slice ya yk.length yc, .int .i64 sy, .int .i64 ky] 115)
    rw [World.size_alloc] at this
    rw [← hW]; exact this
  obtain ⟨x0, x1, x2, x3, x4, x5⟩ := blk6N bx
  obtain ⟨y0, y1, y2, y3, y4, y5⟩ := blk6N by_
  have hx' := hx.below hb hb.size
  have hy' := hy.below hb hb.size
  have T' := T.below hb
  have cC : Sld (∀ x y d os, Calls Tryz.prog 92 #[.int .i64 x, .int .i64 y] (grow (redrawn W d) os) fun e w'' => e = .returned (.int .i64 (cmp3 x y)) ∧ ∃ p : Regrown, w'' = grow (redrawn W p.d) p.os) := ⟨fun x y d os => Calls.regrownS (compareInt_any x y _)⟩
  have cK : Sld (∀ d os, Calls Tryz.prog 89 #[.agg #[.int .i64 xo, .int .i64 xn, .string xm, .slice xa xk.length xc], .agg #[.int .i64 yo, .int .i64 yn, .string ym, .slice ya yk.length yc]] (grow (redrawn W d) os) fun e w'' => e = .returned (.int .i64 (ordN ⟨xo, xn, xm, xk⟩ ⟨yo, yn, ym, yk⟩)) ∧ ∃ p : Regrown, w'' = grow (redrawn W p.d) p.os) := ⟨fun d os => Calls.regrown_of (gorder_any ⟨xo, xn, xm, xk⟩ ⟨yo, yn, ym, yk⟩ xa ya xc yc _ (T'.below (below_regrown W d os)) (hx'.below (below_regrown W d os) (below_regrown W d os).size) (hy'.below (below_regrown W d os) (below_regrown W d os).size))⟩
  have g0 := cell_regrown x0
  have g1 := cell_regrown x1
  have g2 := cell_regrown x2
  have g3 := cell_regrown x3
  have g4 := cell_regrown y0
  have g5 := cell_regrown y1
  have g6 := cell_regrown y2
  have g7 := cell_regrown y3
  have g8 := cell_regrown x4
  have g9 := cell_regrown y4
  have HW := Sld.mk hW
  have HB := Sld.mk hb
  have HE : Sld (lsS ⟨xo, xn, xm, xk⟩ ⟨yo, yn, ym, yk⟩ sx sy = orL [cmp3 sx sy, ordN ⟨xo, xn, xm, xk⟩ ⟨yo, yn, ym, yk⟩]) := ⟨rfl⟩
  clear hW hb bx by_ x0 x1 x2 x3 x4 x5 y0 y1 y2 y3 y4 y5 hx' hy' T' T hx hy
  generalize ordN ⟨xo, xn, xm, xk⟩ ⟨yo, yn, ym, yk⟩ = z1 at *
  go_enter Tryz.func63, Tryz.ntmps63
  go_wp2_with fail
  rw [HW.out]
  refine wp_region_quiet_then 10 (by kernel_rfl) (by kernel_rfl) ?_
  simp only [List.take_succ_cons, List.take_zero]
  iterate 10 (go_big_quiet_step ((first | (go_at_call 92; exact cC.out _ _ _ _) | (go_at_call 89; exact cK.out _ _))))
  refine wpQuiet_nil ?_
  intro w' hw'
  obtain ⟨⟨dq, osq⟩, hw''⟩ := hw'
  subst hw''
  simp only [List.drop_succ_cons, List.drop_zero]
  clear cC cK g0 g1 g2 g3 g4 g5 g6 g7 g8 g9
  obtain ⟨w2, hw2⟩ : ∃ w2, grow (redrawn W dq) osq = w2 := ⟨_, rfl⟩
  rw [hw2]
  have HB2 : Sld (Below w.heap.size w w2) := ⟨HB.out.trans ((hw2 ▸ below_regrown W dq osq : Below W.heap.size W w2).mono HB.out.size)⟩
  clear hw2
  generalize cmp3 sx sy = z0 at *
  have cOr : Sld (∀ V, V.cell? ⟨w2.heap.size, 0, none⟩ = some (.int .i64 z0) → V.cell? ⟨w2.heap.size, 1, none⟩ = some (.int .i64 z1) → Calls Tryz.prog 91 #[.slice (some ⟨w2.heap.size, 0, none⟩) 2 2] V fun e w' => e = .returned (.int .i64 (orL [z0, z1])) ∧ w' = V) := ⟨fun V h0 h1 => or_any _ _ V _ (ints2 h0 h1)⟩
  go_wp2_with fail
  refine (cOr.out _ (by simp) (by simp)).mono ?_
  rintro e w3 ⟨rfl, hw3⟩
  have HB3 : Sld (Below w.heap.size w w3) := ⟨by rw [hw3]; exact HB2.out.alloc HB2.out.size _⟩
  clear hw3 cOr HB2
  generalize orL [z0, z1] = z at *
  go_wp2_with fail
  go_ret
  exact ⟨by rw [HE.out]; rfl, HB3.out⟩
end Go.Proofs.YtlbmijcpalfaeaaGreatDoor
