/-
  PgA, PgB, BkX.
-/
import Derived.Test.YtlbmijcpalfaeaaGreatDoorP17
import Derived.Test.YtlbmijcpalfaeaaGreatDoorP29
set_option linter.unusedSimpArgs false
set_option linter.unusedVariables false
namespace Go.Proofs.YtlbmijcpalfaeaaGreatDoor.Gt
open Go.RowKit Go.Lib

/-- What leasts has asked of a picture. -/
structure LsOk (cs : List Cls) (roots : List Int) : Prop where
  few : cs.length ≤ 4096
  many : mnyL cs ≤ 8192
  rng : ∀ c ∈ cs, 1 ≤ c.size ∧ c.size < 1073741824
  kids : ∀ c ∈ cs, ∀ x ∈ c.nodes, ∀ k ∈ x.kids, 0 ≤ k ∧ k < (cs.length : Int)
  ls : ∀ i, i < cs.length → lsO cs i = true
theorem LsOk.of {cs : List Cls} {roots : List Int} (h : (bdP cs roots && lsA cs cs.length) = true) : LsOk cs roots := by
  unfold bdP at h
  simp only [Bool.and_eq_true, decide_eq_true_eq] at h
  obtain ⟨⟨⟨h1, h2⟩, h3⟩, h4⟩ := h
  obtain ⟨h7, h8⟩ := (bdL_iff cs.length cs 0 (by omega)).1 h3
  exact ⟨h1, by omega, fun c hc => ⟨(h8 c hc).1, (h8 c hc).2.1⟩, fun c hc x hx => inR_iff.1 ((h8 c hc).2.2 x hx), (lsA_iff cs cs.length).1 h4⟩
theorem LsOk.least {cs : List Cls} {roots : List Int} (h : LsOk cs roots) {i : Nat} (hi : i < cs.length) : lsN cs i ∈ (clA cs i).nodes ∧ szF cs 1 (lsN cs i).kids = (clA cs i).size := by
  have := h.ls i hi
  unfold lsO at this
  simp only [Bool.and_eq_true] at this
  obtain ⟨j, e, hj, e2, _⟩ := lstF_spec this.1
  have e4 : lsN cs i = ndA (clA cs i).nodes j := by unfold lsN; rw [e]; rfl
  exact ⟨by rw [e4]; exact ndA_mem hj, by rw [e4]; exact e2⟩
theorem LsOk.mono {cs : List Cls} {roots : List Int} (h : LsOk cs roots) : ∀ j i : Nat, i ≤ j → j < cs.length → (clA cs i).size ≤ (clA cs j).size := by
  intro j
  induction j with
  | zero => intro i hi _; rw [show i = 0 by omega]; exact Int.le_refl _
  | succ j ih =>
    intro i hi hj
    have := h.ls (j + 1) hj
    unfold lsO at this
    simp only [Bool.and_eq_true, Bool.or_eq_true, decide_eq_true_eq, beq_iff_eq] at this
    have h2 : (clA cs j).size ≤ (clA cs (j + 1)).size := by
      rcases this.2 with h3 | h3
      · omega
      · rw [Nat.add_sub_cancel] at h3
        unfold lsS cmp3 at h3
        simp only [orL] at h3
        by_cases e1 : (clA cs (j + 1)).size < (clA cs j).size
        · have e2 : ¬ (clA cs j).size < (clA cs (j + 1)).size := by omega
          simp [e1, e2] at h3
        · omega
    by_cases e : i = j + 1
    · subst e; exact Int.le_refl _
    · exact Int.le_trans (ih i (by omega) (by omega)) h2
/-- A least node's kids are classes below its own. -/
theorem LsOk.below {cs : List Cls} {roots : List Int} (h : LsOk cs roots) {i : Nat} (hi : i < cs.length) (hf : formB (lsN cs i) = true) : ∀ k ∈ (lsN cs i).kids, 0 ≤ k ∧ k < (i : Int) := fun k hk => by
  obtain ⟨hm, hs⟩ := h.least hi
  obtain ⟨k0, k1⟩ := h.kids _ (clA_mem hi) _ hm k hk
  rw [szF_sum h.rng (formB_kids hf)] at hs
  have h0 : ∀ k ∈ (lsN cs i).kids, 0 ≤ szP cs k := fun k hk => by
    obtain ⟨a, b⟩ := h.kids _ (clA_mem hi) _ hm k hk
    have := (h.rng _ (clA_mem (i := k.toNat) (by omega))).1
    unfold szP; omega
  have h1 := sumK_mem h0 hk
  refine ⟨k0, ?_⟩
  rcases Int.lt_or_le k (i : Int) with h2 | h2
  · exact h2
  · have := h.mono k.toNat i (by omega) (by omega)
    unfold szP at h1; unfold szP at hs; omega
/-- The least nodes are each another's not. -/
theorem LsOk.inj {cs : List Cls} {roots : List Int} (h : LsOk cs roots) {m : Nat} (hm : m ≤ cs.length) (hf : ∀ q, q < m → formB (lsN cs q) = true) {p q : Nat} (hpq : p < q) (hq : q < m) : lsN cs p ≠ lsN cs q := fun e => by
  have hc := (cmp_int (szP cs) (fun q : Int => 0 ≤ q ∧ q < (m : Int))).lex (d := fun p q => nodC cmp3 (lsP cs p) (lsP cs q)) (fun a b ha hb _ => cmpN.neg _ _ (hf a.toNat (by omega)) (hf b.toNat (by omega))) (fun a b e ha hb he _ _ _ => cmpN.trans _ _ _ (hf a.toNat (by omega)) (hf b.toNat (by omega)) (hf e.toNat (by omega)))
  have := hc.chain (fun i : Nat => (i : Int)) m (fun i hi => ⟨by omega, by omega⟩) (fun i hi => by
    have := h.ls (i + 1) (by omega)
    unfold lsO at this
    simp only [Bool.and_eq_true, Bool.or_eq_true, decide_eq_true_eq, beq_iff_eq] at this
    rcases this.2 with h2 | h2
    · omega
    · rw [Nat.add_sub_cancel, lsS_lex _ _ _ _ (hf i (by omega)) (hf (i + 1) hi)] at h2
      unfold lexC szP lsP
      simpa using h2) q p hpq hq
  have e1 : (clA cs p).size = (clA cs q).size := by rw [← (h.least (i := p) (by omega)).2, ← (h.least (i := q) (by omega)).2, e]
  unfold lexC at this
  have e2 : cmp3 (szP cs p) (szP cs q) = 0 := (cmp3_zero _ _).2 (by unfold szP; simpa using e1)
  rw [if_pos e2] at this
  unfold lsP at this
  simp only [Int.toNat_natCast] at this
  rw [e, cmpN.self (hf q hq)] at this
  omega

/-- Seats told again, no more than d more. -/
def Sm (d : Nat) (A B : List Sp) : Prop := B.length = A.length ∧ ∀ k, (B.getD k sp0).kn = (A.getD k sp0).kn ∧ (B.getD k sp0).up = (A.getD k sp0).up ∧ (A.getD k sp0).wt ≤ (B.getD k sp0).wt ∧ (B.getD k sp0).wt ≤ (A.getD k sp0).wt + d ∧ (B.getD k sp0).us.length ≤ (A.getD k sp0).us.length + d
theorem Sm.refl (A : List Sp) : Sm 0 A A := ⟨rfl, fun k => ⟨rfl, rfl, by omega, by omega, by omega⟩⟩
theorem Sm.trans {d e : Nat} {A B C : List Sp} (h : Sm d A B) (k : Sm e B C) : Sm (d + e) A C := ⟨k.1.trans h.1, fun i => by
  obtain ⟨a1, a2, a3, a4, a5⟩ := h.2 i
  obtain ⟨b1, b2, b3, b4, b5⟩ := k.2 i
  exact ⟨b1.trans a1, b2.trans a2, by omega, by omega, by omega⟩⟩
theorem getD_setP (l : List Sp) (q i : Nat) (x : Sp) : (l.set q x).getD i sp0 = if i = q ∧ q < l.length then x else l.getD i sp0 := by
  simp only [List.getD_eq_getElem?_getD]
  by_cases e : i = q
  · subst e
    by_cases h : i < l.length
    · rw [if_pos ⟨rfl, h⟩, List.getElem?_set_self h]; rfl
    · rw [if_neg (fun hh => h hh.2), List.getElem?_eq_none (by simpa using h), List.getElem?_eq_none (by omega)]
  · rw [if_neg (fun hh => e hh.1), List.getElem?_set_ne (fun h => e h.symm)]
theorem Sm.bump (A : List Sp) (c : Nat) : Sm 1 A (bumpP A c) := ⟨bumpP_len A c, fun k => by
  unfold bumpP
  rw [getD_setP]
  split
  · rename_i e; rw [e.1]; exact ⟨rfl, rfl, by simp only; omega, by simp only; omega, by simp only; omega⟩
  · exact ⟨rfl, rfl, by omega, by omega, by omega⟩⟩
theorem Sm.use (A : List Sp) (id c : Nat) : Sm 1 A (useP A id c) := ⟨useP_len A id c, fun k => by
  unfold useP
  rw [getD_setP]
  split
  · rename_i e; rw [e.1]; exact ⟨rfl, rfl, by simp only; omega, by simp only; omega, by simp⟩
  · exact ⟨rfl, rfl, by omega, by omega, by omega⟩⟩
theorem Sm.uses (id : Nat) : ∀ (ks : List Int) (A : List Sp), Sm ks.length A (usesP A id ks) := by
  intro ks
  induction ks with
  | nil => intro A; exact Sm.refl A
  | cons k ks ih =>
    intro A
    have := (Sm.use A id k.toNat).trans (ih _)
    rw [Nat.add_comm] at this
    exact this
/-- A new seat, behind those that are. -/
theorem seatP_end (P : List Sp) (c : Nat) (ks : List Int) : Sm (1 + ks.length) (P ++ [⟨true, true, (c : Int), 0, []⟩]) (seatP P P.length c ks) := by
  have e : (padP P P.length).set P.length ⟨true, true, (c : Int), 0, []⟩ = P ++ [⟨true, true, (c : Int), 0, []⟩] := by
    unfold padP
    rw [show P.length + 1 - P.length = 1 by omega]
    simp [List.replicate]
  unfold seatP
  rw [e]
  exact (Sm.bump _ c).trans (Sm.uses _ ks _)
theorem ptR_in {L : List Nd} {x : Nd} (hf : formB x = true) (hk : ∀ k ∈ x.kids, 0 ≤ k ∧ k < (L.length : Int)) (hl : L.length < 1048576) : ptR L x = if x ∈ L then (L.idxOf x, 0, L) else (L.length, 0, L ++ [x]) := by
  have ha : x.kids.all (hasT L) = true := List.all_eq_true.2 fun k h => by
    obtain ⟨a, b⟩ := hk k h
    unfold hasT; simp; omega
  have hs : shE L x = 0 := by unfold shE; rw [hf, ha]; simp
  unfold ptR putS
  rw [if_pos hs]
  unfold ixL
  by_cases hm : x ∈ L
  · rw [if_pos hm, if_pos hm]
  · rw [if_neg hm, if_neg hm]; simp only; rw [if_pos hl]
theorem ptR_bad {L : List Nd} {x : Nd} (hf : formB x = false) : (ptR L x).2.1 = 1 := by
  have hs : shE L x = 1 := by unfold shE; rw [hf]; simp
  unfold ptR
  rw [if_neg (by rw [hs]; omega), hs]
/-- Every node known; the numbers small. -/
structure OfI (L : List Nd) (P : List Sp) (cl nd : Int) : Prop where
  len : P.length = L.length
  kn : ∀ k, k < L.length → (P.getD k sp0).kn = true
  wt : ∀ k, 0 ≤ (P.getD k sp0).wt ∧ (P.getD k sp0).wt ≤ 4 * (L.length : Int)
  us : ∀ k, (P.getD k sp0).us.length ≤ 4 * L.length
  cl : 0 ≤ cl ∧ cl ≤ (L.length : Int)
  nd : 0 ≤ nd ∧ nd ≤ (L.length : Int)
theorem OfI.start : OfI [] [] 0 0 := ⟨rfl, fun k h => by simp at h, fun k => by simp [sp0], fun k => by simp [sp0], by simp, by simp⟩
theorem OfI.step {L : List Nd} {P : List Sp} {cl nd cl' : Int} (h : OfI L P cl nd) (x : Nd) (c : Nat) {ks : List Int} (hk : ks.length ≤ 3) (hc : cl' = cl ∨ cl' = cl + 1) : OfI (L ++ [x]) (seatP P P.length c ks) cl' (nd + 1) ∧ (∀ k, k < L.length → ((seatP P P.length c ks).getD k sp0).up = (P.getD k sp0).up) ∧ ((seatP P P.length c ks).getD L.length sp0).up = (c : Int) := by
  obtain ⟨e1, e2⟩ := seatP_end P c ks
  have hl := h.len
  have ho : ∀ k, k < L.length → (P ++ [(⟨true, true, (c : Int), 0, []⟩ : Sp)]).getD k sp0 = P.getD k sp0 := fun k hk => by
    simp only [List.getD_eq_getElem?_getD]; rw [List.getElem?_append_left (by omega)]
  have hn : (P ++ [(⟨true, true, (c : Int), 0, []⟩ : Sp)]).getD L.length sp0 = ⟨true, true, (c : Int), 0, []⟩ := by
    rw [← hl]; simp
  have hb : ∀ k, L.length < k → (P ++ [(⟨true, true, (c : Int), 0, []⟩ : Sp)]).getD k sp0 = sp0 := fun k hk => by
    rw [List.getD_eq_getElem?_getD, List.getElem?_eq_none (by simp; omega)]; rfl
  have hw := h.wt
  have hu := h.us
  refine ⟨⟨by rw [e1]; simp [hl], fun k hk => ?_, fun k => ?_, fun k => ?_, ?_, ?_⟩, fun k hk => ?_, ?_⟩
  · simp at hk
    rw [(e2 k).1]
    by_cases e : k = L.length
    · rw [e, hn]
    · rw [ho k (by omega)]; exact h.kn k (by omega)
  · obtain ⟨_, _, a, b, _⟩ := e2 k
    have := hw k
    simp only [List.length_append, List.length_singleton]
    rcases Nat.lt_trichotomy k L.length with e | e | e
    · rw [ho k e] at a b; omega
    · rw [e, hn] at a b; simp only at a b; rw [e]; omega
    · rw [hb k e] at a b; have z : sp0.wt = 0 := rfl; omega
  · obtain ⟨_, _, _, _, b⟩ := e2 k
    have := hu k
    simp only [List.length_append, List.length_singleton]
    rcases Nat.lt_trichotomy k L.length with e | e | e
    · rw [ho k e] at b; omega
    · rw [e, hn] at b; simp only [List.length_nil] at b; rw [e]; omega
    · rw [hb k e] at b; have z : sp0.us.length = 0 := rfl; omega
  · have := h.cl; simp only [List.length_append, List.length_singleton]; omega
  · have := h.nd; simp only [List.length_append, List.length_singleton]; omega
  · rw [(e2 k).2.1, ho k hk]
  · rw [(e2 L.length).2.1, hn]
end Go.Proofs.YtlbmijcpalfaeaaGreatDoor.Gt

set_option linter.unusedSimpArgs false
set_option linter.unusedVariables false
namespace Go.Proofs.YtlbmijcpalfaeaaGreatDoor.Gt
open Go.RowKit Go.Lib

theorem up_pl (ss : List Se) (k : Nat) : ((ss.map Se.pl).getD k sp0).up = (ss.getD k se0).up := by rw [pl_getD]; rfl
theorem OfI.ssLen {G : Gs} (h : OfI G.L (G.ss.map Se.pl) G.cl G.nd) : G.ss.length = G.L.length := by have := h.len; rwa [List.length_map] at this
theorem OfI.gsB {G : Gs} (h : OfI G.L (G.ss.map Se.pl) G.cl G.nd) (hl : G.L.length ≤ 1048576) : GsB G := by
  have key : ∀ s ∈ G.ss, ∃ k, G.ss.getD k se0 = s := fun s hs => by
    obtain ⟨k, hk, e⟩ := List.getElem_of_mem hs
    exact ⟨k, by rw [List.getD_eq_getElem?_getD, List.getElem?_eq_getElem hk]; exact e⟩
  refine ⟨fun s hs => ?_, fun s hs => ?_, ?_, ?_⟩
  · obtain ⟨k, e⟩ := key s hs
    have := h.wt k
    rw [pl_getD, e] at this
    have e2 : s.pl.wt = s.wt := rfl
    omega
  · obtain ⟨k, e⟩ := key s hs
    have := h.us k
    rw [pl_getD, e] at this
    have e2 : s.pl.us = s.us := rfl
    rw [e2] at this
    omega
  · have := h.cl; omega
  · have := h.nd; omega
theorem OfI.known {G : Gs} (h : OfI G.L (G.ss.map Se.pl) G.cl G.nd) {k : Nat} : knG G.ss k = decide (k < G.L.length) := by
  unfold knG
  rw [h.ssLen]
  by_cases e : k < G.L.length
  · have := h.kn k e
    rw [pl_getD] at this
    have e2 : (G.ss.getD k se0).pl.kn = (G.ss.getD k se0).kn := rfl
    rw [e2] at this
    rw [this]; simp [e]
  · simp [e]
/-- The least nodes of the first classes are seated. -/
structure Of1 (cs : List Cls) (j : Nat) (G : Gs) : Prop where
  oi : OfI G.L (G.ss.map Se.pl) G.cl G.nd
  L : G.L = lsL cs j
  up : ∀ k, k < j → (G.ss.getD k se0).up = (k : Int)
  form : ∀ k, k < j → formB (lsN cs k) = true
theorem lsL_len (cs : List Cls) (j : Nat) : (lsL cs j).length = j := by simp [lsL]
theorem Of1.step {cs : List Cls} {roots : List Int} {j : Nat} {G : Gs} (h : Of1 cs j G) (hl : LsOk cs roots) (hj : j < cs.length) (hf : formB (lsN cs j) = true) : (ptR G.L (lsN cs j)).2.1 = 0 ∧ knG G.ss (ptR G.L (lsN cs j)).1 = false ∧ ∀ G', SeatR G (lsN cs j) (-1) G' → Of1 cs (j + 1) G' := by
  have hlen : G.L.length = j := by rw [h.L, lsL_len]
  have hfew := hl.few
  have hk := hl.below hj hf
  have hn : lsN cs j ∉ G.L := fun hm => by
    rw [h.L] at hm
    unfold lsL at hm
    obtain ⟨p, hp, e⟩ := List.mem_map.1 hm
    rw [List.mem_range] at hp
    exact hl.inj (m := j + 1) (by omega) (fun q hq => by
      by_cases e : q = j
      · subst e; exact hf
      · exact h.form q (by omega)) hp (by omega) e
  have hp := ptR_in hf (L := G.L) (by rw [hlen]; exact hk) (by omega)
  rw [if_neg hn] at hp
  have hkn : knG G.ss (ptR G.L (lsN cs j)).1 = false := by rw [h.oi.known, hp]; simp
  refine ⟨by rw [hp], hkn, fun G' hs => ?_⟩
  obtain ⟨e1, e2, e3⟩ := hs.more (by rw [hp]) hkn
  have eL := hs.L
  rw [hp] at e1 eL
  simp only [if_true] at e1 e2 eL
  have hP := h.oi.len
  rw [← hP] at e1
  obtain ⟨o1, o2, o3⟩ := h.oi.step (cl' := G.cl + 1) (lsN cs j) (G.ss.map Se.pl).length (formB_kids hf) (.inr rfl)
  rw [← e1] at o1 o2 o3
  refine ⟨by rw [eL, e2, e3]; exact o1, ?_, fun k hkj => ?_, fun k hkj => ?_⟩
  · rw [eL, h.L]
    unfold lsL
    rw [List.range_succ, List.map_append]; rfl
  · by_cases e : k = j
    · subst e
      rw [hlen, hP, hlen, up_pl] at o3
      exact o3
    · have := o2 k (by omega)
      rw [up_pl, up_pl] at this
      rw [this]; exact h.up k (by omega)
  · by_cases e : k = j
    · subst e; exact hf
    · exact h.form k (by omega)
/-- What has been seated of the classes: of those ahead all, of this the first. -/
def DonC (cs : List Cls) (ci i : Nat) (x : Nd) (c : Nat) : Prop := (c < ci ∧ x ∈ (clA cs c).nodes) ∨ (c = ci ∧ x ∈ (clA cs ci).nodes.take i)
structure Of2 (cs : List Cls) (ci i : Nat) (G : Gs) : Prop where
  oi : OfI G.L (G.ss.map Se.pl) G.cl G.nd
  ge : cs.length ≤ G.L.length
  le : G.L.length ≤ cs.length + (mnyL (cs.take ci) + i)
  cls : ∀ k, k < G.L.length → ∃ c : Nat, c < cs.length ∧ (G.ss.getD k se0).up = (c : Int) ∧ edA G.L k ∈ (clA cs c).nodes
  root : ∀ c, c < cs.length → (G.ss.getD c se0).up = (c : Int)
  done : ∀ x c, DonC cs ci i x c → ∃ k, k < G.L.length ∧ edA G.L k = x ∧ (G.ss.getD k se0).up = (c : Int) ∧ formB x = true
theorem lsL_at {cs : List Cls} {j k : Nat} (hk : k < j) : edA (lsL cs j) k = lsN cs k := by
  rw [edA_lt (by rw [lsL_len]; exact hk)]
  simp [lsL]
theorem Of1.two {cs : List Cls} {roots : List Int} {G : Gs} (h : Of1 cs cs.length G) (hl : LsOk cs roots) : Of2 cs 0 0 G := by
  have hlen : G.L.length = cs.length := by rw [h.L, lsL_len]
  refine ⟨h.oi, by omega, by omega, fun k hk => ⟨k, by omega, h.up k (by omega), ?_⟩, h.up, fun x c hd => ?_⟩
  · rw [h.L, lsL_at (by omega)]; exact (hl.least (by omega)).1
  · rcases hd with ⟨h1, _⟩ | ⟨_, h1⟩
    · omega
    · simp at h1
theorem Of2.stands {cs : List Cls} {ci i : Nat} {G : Gs} (h : Of2 cs ci i G) {k c : Nat} (hk : k < G.L.length) (hc : c < cs.length) (hu : (G.ss.getD k se0).up = (c : Int)) : ∃ st, StN G.ss st k c := by
  have hs := h.oi.ssLen
  have hge := h.ge
  have hr : StN G.ss 0 c c := .here (by omega) (h.root c hc)
  by_cases e : c = k
  · subst e; exact ⟨0, hr⟩
  · exact ⟨1, .up (by omega) hu e hr⟩
theorem Of2.next {cs : List Cls} {ci : Nat} {G : Gs} (h : Of2 cs ci (clA cs ci).nodes.length G) (hci : ci < cs.length) : Of2 cs (ci + 1) 0 G := by
  refine ⟨h.oi, h.ge, ?_, h.cls, h.root, fun x c hd => h.done x c ?_⟩
  · have := h.le
    have e := mnyL_take ci cs hci
    unfold clA at this
    omega
  · rcases hd with ⟨h1, h2⟩ | ⟨_, h1⟩
    · by_cases e : c = ci
      · subst e; exact .inr ⟨rfl, by rw [List.take_length]; exact h2⟩
      · exact .inl ⟨by omega, h2⟩
    · simp at h1
theorem Of2.step {cs : List Cls} {roots : List Int} {ci i : Nat} {G : Gs} (h : Of2 cs ci i G) (hl : LsOk cs roots) (hI : TbI G.L) (hci : ci < cs.length) (hi : i < (clA cs ci).nodes.length) (hf : formB (ndA (clA cs ci).nodes i) = true) : (ptR G.L (ndA (clA cs ci).nodes i)).2.1 = 0 ∧ ∃ c : Nat, (c ≠ ci → ¬ OfOk cs roots) ∧ ∀ G', SeatR G (ndA (clA cs ci).nodes i) ci G' → (∃ st, StN G'.ss st (ptR G.L (ndA (clA cs ci).nodes i)).1 c) ∧ (c = ci → Of2 cs ci (i + 1) G') := by
  have hx := ndA_mem hi
  have hfew := hl.few
  have hmany := hl.many
  have hLe := h.le
  have hge := h.ge
  have hmn : mnyL (cs.take ci) + (clA cs ci).nodes.length ≤ 8192 := by
    have e := mnyL_take ci cs hci
    have e2 : mnyL (cs.take (ci + 1)) ≤ mnyL cs := by
      have : cs = cs.take (ci + 1) ++ cs.drop (ci + 1) := (List.take_append_drop _ _).symm
      have e3 := congrArg mnyL this
      unfold mnyL at e3 ⊢
      rw [List.map_append, List.sum_append] at e3
      omega
    unfold clA
    omega
  have hk : ∀ k ∈ (ndA (clA cs ci).nodes i).kids, 0 ≤ k ∧ k < (G.L.length : Int) := fun k hk => by
    have := hl.kids _ (clA_mem hci) _ hx k hk
    omega
  have htk : (clA cs ci).nodes.take (i + 1) = (clA cs ci).nodes.take i ++ [ndA (clA cs ci).nodes i] := by
    rw [List.take_add_one, List.getElem?_eq_getElem hi]
    unfold ndA
    rw [List.getD_eq_getElem?_getD, List.getElem?_eq_getElem hi]; rfl
  have hp := ptR_in hf hk (by omega)
  generalize ndA (clA cs ci).nodes i = x at *
  by_cases hm : x ∈ G.L
  · rw [if_pos hm] at hp
    have hid := List.idxOf_lt_length_of_mem hm
    have hat : edA G.L (G.L.idxOf x) = x := by rw [edA_lt hid]; exact List.getElem_idxOf hid
    obtain ⟨c, hc, hu, hin⟩ := h.cls _ hid
    rw [hat] at hin
    have hkn : knG G.ss (ptR G.L x).1 = true := by rw [h.oi.known, hp]; simpa using hid
    refine ⟨by rw [hp], c, fun hne ho => ?_, fun G' hs => ?_⟩
    · have := ho.one (x, (c : Int)) (mem_cells.2 ⟨by omega, by omega, by simpa using hin⟩) (x, (ci : Int)) (mem_cells.2 ⟨by omega, by omega, by simpa using hx⟩) rfl
      simp only at this
      omega
    · obtain ⟨s1, s2, s3⟩ := hs.same (.inr hkn)
      have eL := hs.L
      rw [hp] at eL ⊢
      simp only at eL ⊢
      rw [s1]
      refine ⟨h.stands hid hc hu, fun e => ?_⟩
      refine ⟨by rw [eL, s1, s2, s3]; exact h.oi, by rw [eL]; exact hge, by rw [eL]; omega, by rw [eL, s1]; exact h.cls, by rw [s1]; exact h.root, fun y d hd => ?_⟩
      rw [eL, s1]
      rcases hd with hd | ⟨hd1, hd2⟩
      · exact h.done y d (.inl hd)
      · rw [htk, List.mem_append, List.mem_singleton] at hd2
        rcases hd2 with hd2 | rfl
        · exact h.done y d (.inr ⟨hd1, hd2⟩)
        · exact ⟨_, hid, hat, by rw [hu, e, hd1], hf⟩
  · rw [if_neg hm] at hp
    have hkn : knG G.ss (ptR G.L x).1 = false := by rw [h.oi.known, hp]; simp
    refine ⟨by rw [hp], ci, fun hne => absurd rfl hne, fun G' hs => ?_⟩
    obtain ⟨e1, e2, e3⟩ := hs.more (by rw [hp]) hkn
    have eL := hs.L
    rw [hp] at e1 eL ⊢
    have hne : ((ci : Nat) : Int) ≠ -1 := by omega
    rw [if_neg hne, Int.toNat_natCast] at e1
    rw [if_neg hne] at e2
    simp only at e1 eL ⊢
    have hP := h.oi.len
    have hss := h.oi.ssLen
    rw [← hP] at e1
    obtain ⟨o1, o2, o3⟩ := h.oi.step (cl' := G.cl) x ci (formB_kids hf) (.inl rfl)
    rw [← e1] at o1 o2 o3
    have ho2 : ∀ k, k < G.L.length → (G'.ss.getD k se0).up = (G.ss.getD k se0).up := fun k hk => by
      have := o2 k hk; rwa [up_pl, up_pl] at this
    rw [up_pl] at o3
    have hlen : G'.L.length = G.L.length + 1 := by rw [eL]; simp
    have hn : Of2 cs ci (i + 1) G' := by
      refine ⟨by rw [eL, e2, e3]; exact o1, by omega, by omega, fun k hk => ?_, fun c hc => ?_, fun y d hd => ?_⟩
      · by_cases e : k = G.L.length
        · subst e; exact ⟨ci, hci, o3, by rw [eL, edA_end]; exact hx⟩
        · obtain ⟨c, h1, h2, h3⟩ := h.cls k (by omega)
          exact ⟨c, h1, by rw [ho2 k (by omega)]; exact h2, by rw [eL, edA_app (by omega)]; exact h3⟩
      · rw [ho2 c (by omega)]; exact h.root c hc
      · have old : DonC cs ci i y d → ∃ k, k < G'.L.length ∧ edA G'.L k = y ∧ (G'.ss.getD k se0).up = (d : Int) ∧ formB y = true := fun hd => by
          obtain ⟨k, h1, h2, h3, h4⟩ := h.done y d hd
          exact ⟨k, by omega, by rw [eL, edA_app h1]; exact h2, by rw [ho2 k h1]; exact h3, h4⟩
        rcases hd with hd | ⟨hd1, hd2⟩
        · exact old (.inl hd)
        · rw [htk, List.mem_append, List.mem_singleton] at hd2
          rcases hd2 with hd2 | rfl
          · exact old (.inr ⟨hd1, hd2⟩)
          · exact ⟨G.L.length, by omega, by rw [eL, edA_end], by rw [o3, hd1], hf⟩
    exact ⟨hn.stands (by omega) hci o3, fun _ => hn⟩
/-- All seated: the picture is a graph's. -/
theorem Of2.end_ {cs : List Cls} {roots : List Int} {G : Gs} (h : Of2 cs cs.length 0 G) (hI : TbI G.L) (hb : (bdP cs roots && lsA cs cs.length) = true) : ofB cs roots = true := by
  have hd : ∀ x (z : Int), (x, z) ∈ cellsL cs → ∃ k, k < G.L.length ∧ edA G.L k = x ∧ (G.ss.getD k se0).up = z ∧ formB x = true := fun x z hz => by
    obtain ⟨h1, h2, h3⟩ := mem_cells.1 hz
    obtain ⟨k, a, b, c, d⟩ := h.done x z.toNat (.inl ⟨by omega, h3⟩)
    exact ⟨k, a, b, by rw [c]; omega, d⟩
  unfold ofB
  rw [hb, Bool.true_and]
  simp only [Bool.and_eq_true]
  constructor
  · unfold allF
    exact List.all_eq_true.2 fun ⟨x, z⟩ hz => by obtain ⟨_, _, _, _, hf⟩ := hd x z hz; exact hf
  · unfold onceB
    refine List.all_eq_true.2 fun ⟨x, z⟩ hz => List.all_eq_true.2 fun ⟨y, u⟩ hu => decide_eq_true fun e => ?_
    simp only at e ⊢
    subst e
    obtain ⟨k, k1, k2, k3, _⟩ := hd x z hz
    obtain ⟨m, m1, m2, m3, _⟩ := hd x u hu
    have := nodup_at hI.nodup k1 m1 (k2.trans m2.symm)
    subst this
    rw [← k3, ← m3]
end Go.Proofs.YtlbmijcpalfaeaaGreatDoor.Gt

set_option linter.unusedSimpArgs false
set_option linter.unusedVariables false
namespace Go.Proofs.YtlbmijcpalfaeaaGreatDoor
open Go.RowKit Go.Lib

/-- A row: its value, how many it holds, its cells. -/
abbrev Rw := Value × Nat × List Value
def vAd : Value → Option Addr
  | .slice a _ _ => a
  | _ => none
def vC : Value → Nat
  | .slice _ _ c => c
  | _ => 0
def rw0 : Rw := (.slice none 0 0, 0, [])
structure RwL (w : World) (base : Nat) (e : TypeId) (size : Nat) (R : List Rw) : Prop where
  own : ∀ r ∈ R, w.ownsRow base e size r.1 r.2.1 r.2.2
  ap : R.Pairwise fun r s => ∀ b, r.1.ownBlock = some b → s.1.ownBlock ≠ some b
theorem rw_eta {w : World} {base : Nat} {e : TypeId} {size n : Nat} {v : Value} {xs : List Value} (h : w.ownsRow base e size v n xs) : v = .slice (vAd v) n (vC v) := by
  obtain ⟨ao, cap, rfl⟩ := rw_form h
  rfl
theorem vA_blk {v : Value} {n c : Nat} (hv : v = .slice (vAd v) n c) {a : Addr} (h : vAd v = some a) : v.ownBlock = some a.block := by
  rw [hv, h]; rfl
theorem gd_rw {R : List Rw} {k : Nat} (hk : k < R.length) : R.getD k rw0 = R[k] := by simp [hk]
theorem RwL.rows {w : World} {base : Nat} {e eL : TypeId} {size : Nat} {R : List Rw} (h : RwL w base e size R) {B : Nat} {cs : Array Value} {fr : Nat × Nat} (hB : w.heap[B]? = some (.cells cs eL fr)) (hne : e ≠ eL) : RwsAp R.length B (fun k => vAd (R.getD k rw0).1) := by
  refine ⟨fun k k' hk hk' hkk a a' ha ha' he => ?_, fun k hk a ha he => ?_⟩
  · simp only [gd_rw hk] at ha
    simp only [gd_rw hk'] at ha'
    have o1 := vA_blk (rw_eta (h.own _ (List.getElem_mem hk))) ha
    have o2 := vA_blk (rw_eta (h.own _ (List.getElem_mem hk'))) ha'
    have hp := List.pairwise_iff_getElem.1 h.ap
    rcases Nat.lt_or_gt_of_ne hkk with hl | hl
    · exact hp k k' hk hk' hl _ o1 (by rw [he]; exact o2)
    · exact hp k' k hk' hk hl _ o2 (by rw [← he]; exact o1)
  · simp only [gd_rw hk] at ha
    have o1 := vA_blk (rw_eta (h.own _ (List.getElem_mem hk))) ha
    obtain ⟨_, _, cap, cur, _, hc, _⟩ := rw_block (h.own _ (List.getElem_mem hk)) o1
    rw [he, hB] at hc
    injection hc with hc
    injection hc with _ hc _
    exact hne hc.symm
end Go.Proofs.YtlbmijcpalfaeaaGreatDoor

namespace Go.Proofs.YtlbmijcpalfaeaaGreatDoor
open Go.RowKit Go.Lib

end Go.Proofs.YtlbmijcpalfaeaaGreatDoor
