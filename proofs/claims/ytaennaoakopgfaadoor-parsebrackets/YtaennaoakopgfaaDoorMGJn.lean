/-
  JnSnd, JnMk, EmApp, NestW.
-/
import Derived.Test.YtaennaoakopgfaaDoorMGRd
import Derived.Test.YtaennaoakopgfaaDoorMExSplPure
import Derived.Test.YtaennaoakopgfaaDoorMGDc
import Derived.Test.YtaennaoakopgfaaDoorMGEm
set_option linter.unusedSimpArgs false
set_option linter.unusedVariables false
namespace Go.Proofs.YtaennaoakopgfaaDoor
open Go.RowKit Go.Lib

theorem jSnocRec {α : Type} {P : List α → Prop} (nil : P []) (snoc : ∀ l a, P l → P (l ++ [a])) (l : List α) : P l := by
  rw [← List.reverse_reverse l]
  induction l.reverse with
  | nil => exact nil
  | cons a r ih => rw [List.reverse_cons]; exact snoc _ a ih

theorem jChain_move (fr0 fq : List Nat) (hq : Low fq) : ∀ (ks : List Int) (c a : Nat), c ≤ fq.length → chainL fq ks c = some a → chainL (fr0 ++ fq.map (· + fr0.length)) (ks.map (mvK 0 fr0.length)) (fr0.length + c) = some (fr0.length + a) := by
  intro ks
  induction ks with
  | nil => intro c a _ h; simp [chainL] at h ⊢; exact h
  | cons k ks ih =>
    intro c a hc h
    simp only [chainL] at h
    split at h
    · cases h
    · rename_i hn
      obtain ⟨h0, hk⟩ : c ≠ 0 ∧ k = (c : Int) - 1 := by
        constructor
        · intro e; exact hn (.inl e)
        · by_cases e : k = (c : Int) - 1
          · exact e
          · exact absurd (.inr e) hn
      simp only [List.map_cons, chainL]
      have hkk : mvK 0 fr0.length k = ((fr0.length + c : Nat) : Int) - 1 := by unfold mvK; rw [if_pos (by omega)]; omega
      rw [if_neg (by rw [hkk]; simp; omega)]
      have hg : (fr0 ++ fq.map (· + fr0.length)).getD (fr0.length + c - 1) 0 = fr0.length + fq.getD (c - 1) 0 := by
        simp only [List.getD_eq_getElem?_getD]
        rw [List.getElem?_append_right (by omega), show fr0.length + c - 1 - fr0.length = c - 1 by omega, List.getElem?_map]
        rw [List.getElem?_eq_getElem (show c - 1 < fq.length by omega)]
        simp; omega
      rw [hg]
      exact ih _ _ (by have := hq (c - 1); omega) h

/-- Behind other nodes a list is gone through the same way. -/
theorem jBegR_move (fr0 : List Nat) : ∀ (p : List Nd) (fp : List Nat), begR [] p = some fp → begR fr0 (p.map (mvN 0 fr0.length)) = some (fr0 ++ fp.map (· + fr0.length)) := by
  intro p
  induction p using jSnocRec with
  | nil => intro fp h; simp [begR] at h; subst h; simp [begR]
  | snoc p x ih =>
    intro fp h
    rw [begR_snoc] at h
    cases hp : begR [] p with
    | none => rw [hp] at h; cases h
    | some fq =>
      rw [hp, Option.bind_some] at h
      obtain ⟨hf, a, hc, rfl⟩ := stp_some h
      have hlow := (begR_some hp low_nil).2.1
      rw [List.map_append, List.map_cons, List.map_nil, begR_snoc, ih fq hp, Option.bind_some]
      unfold stp
      rw [if_pos (by rw [mvN_form]; exact hf), mvN_kids_rev]
      have hm := jChain_move fr0 fq hlow _ _ _ (Nat.le_refl _) hc
      have hl : (fr0 ++ fq.map (· + fr0.length)).length = fr0.length + fq.length := by simp
      rw [hl, hm]
      simp [Nat.add_comm]

theorem jAcc_beg (ps : List (List Nd)) : (∀ p ∈ ps, sndB p = true) → ∃ fr, begR [] (accS ps).1 = some fr ∧ chainL fr (accS ps).2.reverse (accS ps).1.length = some 0 := by
  induction ps using jSnocRec with
  | nil => intro _; exact ⟨[], by simp [accS_nil, begR], by simp [accS_nil, chainL]⟩
  | snoc ps p ih =>
    intro h
    obtain ⟨fr, h1, h2⟩ := ih (fun q hq => h q (by simp [hq]))
    obtain ⟨fp, hp⟩ := snd_some (h p (by simp))
    obtain ⟨hp0, _, hpr, hpt⟩ := begL_some hp
    obtain ⟨hlen, hlow, _, _⟩ := begR_some h1 low_nil
    simp only [List.length_nil, Nat.zero_add] at hlen
    obtain ⟨hlp, _, _, _⟩ := begR_some hpr low_nil
    simp only [List.length_nil, Nat.zero_add] at hlp
    rw [accS_snoc]
    have hm := jBegR_move fr p fp hpr
    rw [hlen] at hm
    refine ⟨fr ++ fp.map (· + (accS ps).1.length), by rw [begR_append, h1, Option.bind_some]; exact hm, ?_⟩
    simp only [List.reverse_append, List.reverse_cons, List.reverse_nil, List.nil_append, List.singleton_append, List.length_append, List.length_map, chainL]
    rw [if_neg (fun hh => by rcases hh with hh | hh
                             · omega
                             · exact hh rfl)]
    have hg : (fr ++ fp.map (· + (accS ps).1.length)).getD ((accS ps).1.length + p.length - 1) 0 = (accS ps).1.length := by
      simp only [List.getD_eq_getElem?_getD] at hpt ⊢
      rw [List.getElem?_append_right (by omega), show (accS ps).1.length + p.length - 1 - fr.length = p.length - 1 by omega, List.getElem?_map]
      rw [List.getElem?_eq_getElem (show p.length - 1 < fp.length by omega)] at hpt ⊢
      simp at hpt ⊢; omega
    rw [hg, chainL_congr hlow _ _ (fun j hj => by simp only [List.getD_eq_getElem?_getD]; rw [List.getElem?_append_left (by omega)]), h2]

theorem jJoin_snd {op n : Int} {nm : ByteArray} {ps : List (List Nd)} (h : ∀ p ∈ ps, sndB p = true) (hf : fitB op n nm ps.length = true) (hl : 1 + (accS ps).1.length ≤ 64) : ∃ fr, begL (joinL op n nm ps) = some fr := by
  obtain ⟨fr, h1, h2⟩ := jAcc_beg ps h
  obtain ⟨hlen, hlow, _, _⟩ := begR_some h1 low_nil
  simp only [List.length_nil, Nat.zero_add] at hlen
  refine ⟨fr ++ [0], begL_mk ?_ ?_ ?_ ?_⟩
  · simp [joinL]
  · simp [joinL]; omega
  · unfold joinL
    rw [begR_snoc, h1, Option.bind_some]
    unfold stp
    rw [if_pos (by unfold formB; simp only [accS_len2]; exact hf), hlen]
    simp only
    rw [h2]; rfl
  · have e : (joinL op n nm ps).length - 1 = fr.length := by simp [joinL, hlen]
    rw [e]; simp

theorem tl_no : (⟨#[]⟩ : ByteArray).toList.isEmpty = true := by decide +kernel
theorem plain_97 : ∀ c ∈ signList, psPlain c ≠ 97 := by decide +kernel
/-- Sound where it is not too large. -/
def Sd (l : List Nd) : Prop := KidsIn l ∧ (l.length ≤ 64 → sndB l = true)
theorem snd_of {l : List Nd} (h : ∃ fr, begL l = some fr) : sndB l = true := by
  obtain ⟨fr, h⟩ := h; unfold sndB; rw [h]; rfl
theorem sd_jn1 {op : Int} (ho : op = 3 ∨ op = 4) {a : List Nd} (ha : Sd a) : Sd (jn1 op a) := by
  refine ⟨jn1_up op ha.1, fun hl => ?_⟩
  rw [jn1_len] at hl
  have e := join1 op ha.1.up ha.1.ne
  rw [← e]
  refine snd_of (jJoin_snd (fun p hp => ?_) ?_ ?_)
  · rw [List.mem_singleton.1 hp]; exact ha.2 (by omega)
  · rcases ho with rfl | rfl
    · show fitB 3 0 ⟨#[]⟩ 1 = true; decide +kernel
    · show fitB 4 0 ⟨#[]⟩ 1 = true; decide +kernel
  · have := congrArg List.length e
    rw [jn1_len] at this
    simp only [joinL, List.length_append, List.length_singleton] at this
    omega
theorem sd_jn2 {op : Int} (ho : 5 ≤ op ∧ op ≤ 16) {a b : List Nd} (ha : Sd a) (hb : Sd b) : Sd (jn2 op a b) := by
  refine ⟨jn2_up op ha.1 hb.1, fun hl => ?_⟩
  rw [jn2_len] at hl
  have e := join2 op ha.1.up hb.1.up ha.1.ne hb.1.ne
  rw [← e]
  refine snd_of (jJoin_snd (fun p hp => ?_) ?_ ?_)
  · rcases List.mem_cons.1 hp with rfl | hp
    · exact ha.2 (by omega)
    · rw [List.mem_singleton.1 hp]; exact hb.2 (by omega)
  · have : op = 5 ∨ op = 6 ∨ op = 7 ∨ op = 8 ∨ op = 9 ∨ op = 10 ∨ op = 11 ∨ op = 12 ∨ op = 13 ∨ op = 14 ∨ op = 15 ∨ op = 16 := by omega
    show fitB op 0 ⟨#[]⟩ 2 = true
    rcases this with rfl | rfl | rfl | rfl | rfl | rfl | rfl | rfl | rfl | rfl | rfl | rfl <;> decide +kernel
  · have := congrArg List.length e
    rw [jn2_len] at this
    simp only [joinL, List.length_append, List.length_singleton] at this
    omega
theorem sd_jn3 {a b c : List Nd} (ha : Sd a) (hb : Sd b) (hc : Sd c) : Sd (jn3 17 a b c) := by
  refine ⟨jn3_up 17 ha.1 hb.1 hc.1, fun hl => ?_⟩
  rw [jn3_len] at hl
  have e := join3 17 ha.1.up hb.1.up hc.1.up ha.1.ne hb.1.ne hc.1.ne
  rw [← e]
  refine snd_of (jJoin_snd (fun p hp => ?_) (show fitB 17 0 ⟨#[]⟩ 3 = true by decide +kernel) ?_)
  · rcases List.mem_cons.1 hp with rfl | hp
    · exact ha.2 (by omega)
    · rcases List.mem_cons.1 hp with rfl | hp
      · exact hb.2 (by omega)
      · rw [List.mem_singleton.1 hp]; exact hc.2 (by omega)
  · have := congrArg List.length e
    rw [jn3_len] at this
    simp only [joinL, List.length_append, List.length_singleton] at this
    omega
theorem sd_one {op n : Int} {nm : ByteArray} (h : fitB op n nm 0 = true) : Sd [⟨op, n, nm, []⟩] := by
  refine ⟨one_up op n nm, fun _ => ?_⟩
  have e : joinL op n nm [] = [⟨op, n, nm, []⟩] := by unfold joinL; rw [accS_nil]; rfl
  rw [← e]
  exact snd_of (jJoin_snd (fun p hp => by cases hp) h (by rw [accS_nil]; decide))
/-- A name's token holds a name. -/
def TkN (s : ByteArray) (t : Tk) : Prop := t.what ≠ 64 ∧ (t.what = 97 → t.err = 0 → nameB (s.extract t.from_ t.to) = true)
theorem from_nm {s : ByteArray} {m p : Nat} {t : Tk} (h : psFrom s false m p = .ok t) : TkN s t := by
  refine ⟨what_hole h, fun h97 h0 => ?_⟩
  unfold psFrom at h
  split at h
  · rename_i hp
    unfold psAt at h
    split at h
    · cases h
      simp only at h0 ⊢
      split at h0
      · assumption
      · cases h0
    · split at h
      · cases h; cases h97
      · split at h
        · rename_i k4
          cases h
          exfalso
          revert h97
          simp only
          have k5 := k4.2
          unfold psSign at k5 ⊢
          revert k5
          (repeat' split) <;> first | (intro a b; simp at b; done) | (intro a; simp at a; done) | skip
          intro _ e
          exact plain_97 _ (kd4 k4.1) e
        · cases h
  · cases h; cases h97
theorem rdLit_sd {s : ByteArray} {v : Int} {t : Tk} {r : List Nd × Nat} (h : rdLit s v t = .ok r) : Sd r.1 := by
  unfold rdLit at h
  split at h
  · split at h
    · cases h; exact sd_one (by unfold fitB; rw [if_neg (by decide), tl_no]; simp [aritI])
    · cases h
  · cases h
theorem rdNamed_sd {s : ByteArray} {t : Tk} {r : List Nd × Nat} (ht : TkN s t) (h : rdNamed s 2 t = .ok r) : Sd r.1 := by
  unfold rdNamed at h
  split at h
  · rename_i h97
    split at h
    · rename_i h0
      have hn := ht.2 h97 h0
      cases h; exact sd_one (by unfold fitB; rw [if_pos rfl, hn]; simp [aritI])
    · cases h
  · cases h
theorem psOp_in {c : Int} {lv : Nat} (h : (psOp c).2 = lv) (hl : 1 ≤ lv) : 5 ≤ (psOp c).1 ∧ (psOp c).1 ≤ 16 := by
  by_cases h124 : c = 124
  · subst h124; decide
  by_cases h94 : c = 94
  · subst h94; decide
  by_cases h38 : c = 38
  · subst h38; decide
  by_cases h8801 : c = 8801
  · subst h8801; decide
  by_cases h60 : c = 60
  · subst h60; decide
  by_cases h8810 : c = 8810
  · subst h8810; decide
  by_cases h8811 : c = 8811
  · subst h8811; decide
  by_cases h43 : c = 43
  · subst h43; decide
  by_cases h45 : c = 45
  · subst h45; decide
  by_cases h42 : c = 42
  · subst h42; decide
  by_cases h47 : c = 47
  · subst h47; decide
  by_cases h37 : c = 37
  · subst h37; decide
  exfalso
  have e : psOp c = (0, 0) := by unfold psOp; rw [if_neg h124, if_neg h94, if_neg h38, if_neg h8801, if_neg h60, if_neg h8810, if_neg h8811, if_neg h43, if_neg h45, if_neg h42, if_neg h47, if_neg h37]
  rw [e] at h
  simp only at h
  omega
theorem rd_sd (s : ByteArray) : ∀ (f : Nat) (q : RdQ) (t : Tk) (o : Nat) (r : List Nd × Nat), q.lvl → (∀ lv la, q = .loop lv la → Sd la) → TkN s t → rdRun s false f q t o = .ok r → Sd r.1 := by
  intro f
  induction f with
  | zero => intro q t o r _ _ _ h; cases h
  | succ f ih =>
    intro q t o r hq hs ht h
    have hc : RdQ.cond.lvl := ⟨(fun _ e => by cases e), (fun _ _ e => by cases e)⟩
    have hu : RdQ.un.lvl := ⟨(fun _ e => by cases e), (fun _ _ e => by cases e)⟩
    have hat : RdQ.atom.lvl := ⟨(fun _ e => by cases e), (fun _ _ e => by cases e)⟩
    have hlv : ∀ lv, 1 ≤ lv → (RdQ.level lv).lvl := fun lv h => ⟨(fun _ e => by cases e; exact h), (fun _ _ e => by cases e)⟩
    have hlo : ∀ lv la, 1 ≤ lv → (RdQ.loop lv la).lvl := fun lv la h => ⟨(fun _ e => by cases e), (fun _ _ e => by cases e; exact h)⟩
    cases q with
    | cond =>
      simp only [rdRun] at h
      obtain ⟨c, h1, h⟩ := Pr.bind_ok h
      have n1 := ih _ _ _ _ (hlv 1 (by omega)) (fun _ _ e => by cases e) ht h1
      obtain ⟨t1, h2, h⟩ := Pr.bind_ok h
      split at h
      · obtain ⟨t2, h3, h⟩ := Pr.bind_ok h
        obtain ⟨a, h4, h⟩ := Pr.bind_ok h
        have n2 := ih _ _ _ _ hc (fun _ _ e => by cases e) (from_nm h3) h4
        obtain ⟨t3, h5, h⟩ := Pr.bind_ok h
        split at h
        · split at h
          · obtain ⟨t4, h6, h⟩ := Pr.bind_ok h
            obtain ⟨b, h7, h⟩ := Pr.bind_ok h
            have n3 := ih _ _ _ _ hc (fun _ _ e => by cases e) (from_nm h6) h7
            cases h
            exact sd_jn3 n1 n2 n3
          · cases h
        · cases h
      · cases h; exact n1
    | level lv =>
      simp only [rdRun] at h
      have hl1 := hq.1 lv rfl
      split at h
      · exact ih _ _ _ _ hu (fun _ _ e => by cases e) ht h
      · obtain ⟨a, h1, h⟩ := Pr.bind_ok h
        have n1 := ih _ _ _ _ (hlv (lv + 1) (by omega)) (fun _ _ e => by cases e) ht h1
        obtain ⟨t1, h2, h⟩ := Pr.bind_ok h
        exact ih _ _ _ _ (hlo lv _ hl1) (fun _ _ e => by cases e; exact n1) (from_nm h2) h
    | loop lv la =>
      simp only [rdRun] at h
      have n0 := hs lv la rfl
      have hl1 := hq.2 lv la rfl
      split at h
      · rename_i hw
        obtain ⟨t1, h2, h⟩ := Pr.bind_ok h
        obtain ⟨b, h3, h⟩ := Pr.bind_ok h
        have n1 := ih _ _ _ _ (hlv (lv + 1) (by omega)) (fun _ _ e => by cases e) (from_nm h2) h3
        have nj : Sd (jn2 (psOp t.what).1 la b.1) := sd_jn2 (psOp_in hw hl1) n0 n1
        split at h
        · cases h; exact nj
        · obtain ⟨t2, h4, h⟩ := Pr.bind_ok h
          exact ih _ _ _ _ (hlo lv _ hl1) (fun _ _ e => by cases e; exact nj) (from_nm h4) h
      · cases h; exact n0
    | un =>
      simp only [rdRun] at h
      split at h
      · split at h
        · obtain ⟨t1, h2, h⟩ := Pr.bind_ok h
          obtain ⟨b, h3, h⟩ := Pr.bind_ok h
          have n1 := ih _ _ _ _ hu (fun _ _ e => by cases e) (from_nm h2) h3
          cases h
          exact sd_jn1 (.inl rfl) n1
        · obtain ⟨t1, h2, h⟩ := Pr.bind_ok h
          exact rdLit_sd h
      · split at h
        · obtain ⟨t1, h2, h⟩ := Pr.bind_ok h
          obtain ⟨b, h3, h⟩ := Pr.bind_ok h
          have n1 := ih _ _ _ _ hu (fun _ _ e => by cases e) (from_nm h2) h3
          cases h
          exact sd_jn1 (.inr rfl) n1
        · exact ih _ _ _ _ hat (fun _ _ e => by cases e) ht h
    | atom =>
      simp only [rdRun] at h
      split at h
      · exact rdLit_sd h
      · split at h
        · exact rdNamed_sd ht h
        · split at h
          · rename_i h64
            exact absurd h64 ht.1
          · split at h
            · split at h
              · cases h
              · obtain ⟨t1, h2, h⟩ := Pr.bind_ok h
                obtain ⟨e, h3, h⟩ := Pr.bind_ok h
                have n1 := ih _ _ _ _ hc (fun _ _ e => by cases e) (from_nm h2) h3
                obtain ⟨t2, h4, h⟩ := Pr.bind_ok h
                split at h
                · split at h
                  · cases h; exact n1
                  · cases h
                · cases h
            · cases h
end Go.Proofs.YtaennaoakopgfaaDoor

set_option linter.unusedSimpArgs false
set_option linter.unusedVariables false
namespace Go.Proofs.YtaennaoakopgfaaDoor
open Go.RowKit Go.Lib

def NZ {α : Type} (x : Pr α) : Prop := ∀ p, x ≠ .bad p 0
theorem NZ.bind {α β : Type} {x : Pr α} {f : α → Pr β} (h : NZ x) (hf : ∀ a, NZ (f a)) : NZ (x.bind f) := by
  intro p c
  cases x with
  | ok a => exact hf a p c
  | bad q e =>
    have c' : (Pr.bad q e : Pr β) = .bad p 0 := c
    cases c'
    exact h p rfl
  | out => cases c
theorem NZ.ok {α : Type} (a : α) : NZ (.ok a : Pr α) := fun p c => by cases c
theorem NZ.bad {α : Type} (p : Nat) (e : Int) (h : e ≠ 0) : NZ (.bad p e : Pr α) := fun q c => by cases c; exact h rfl
theorem nz_from (s : ByteArray) (pat : Bool) (m p : Nat) : NZ (psFrom s pat m p) := by
  unfold psFrom psAt
  repeat' split
  all_goals first | exact NZ.ok _ | exact NZ.bad _ _ (by decide)
theorem nz_lit (s : ByteArray) (v : Int) (t : Tk) : NZ (rdLit s v t) := by
  unfold rdLit
  split
  · split
    · exact NZ.ok _
    · exact NZ.bad _ _ (by assumption)
  · exact NZ.bad _ _ (by decide)
theorem nz_named (s : ByteArray) (v : Int) (t : Tk) : NZ (rdNamed s v t) := by
  unfold rdNamed
  split
  · split
    · exact NZ.ok _
    · exact NZ.bad _ _ (by assumption)
  · exact NZ.bad _ _ (by decide)
theorem nz_run (s : ByteArray) (pat : Bool) : ∀ (f : Nat) (q : RdQ) (t : Tk) (o : Nat), NZ (rdRun s pat f q t o) := by
  intro f
  induction f with
  | zero => intro q t o p c; cases c
  | succ f ih =>
    intro q t o
    cases q with
    | cond =>
      rw [rdRun]
      refine (ih _ _ _).bind fun c => (nz_from _ _ _ _).bind fun t1 => ?_
      split
      · refine (nz_from _ _ _ _).bind fun t2 => (ih _ _ _).bind fun a => (nz_from _ _ _ _).bind fun t3 => ?_
        split
        · split
          · exact (nz_from _ _ _ _).bind fun t4 => (ih _ _ _).bind fun b => NZ.ok _
          · exact NZ.bad _ _ (by assumption)
        · exact NZ.bad _ _ (by decide)
      · exact NZ.ok _
    | level lv =>
      rw [rdRun]
      split
      · exact ih _ _ _
      · exact (ih _ _ _).bind fun a => (nz_from _ _ _ _).bind fun t1 => ih _ _ _
    | loop lv la =>
      rw [rdRun]
      split
      · refine (nz_from _ _ _ _).bind fun t1 => (ih _ _ _).bind fun b => ?_
        split
        · exact NZ.ok _
        · exact (nz_from _ _ _ _).bind fun t2 => ih _ _ _
      · exact NZ.ok _
    | un =>
      rw [rdRun]
      split
      · split
        · exact (nz_from _ _ _ _).bind fun t1 => (ih _ _ _).bind fun x => NZ.ok _
        · exact (nz_from _ _ _ _).bind fun t1 => nz_lit _ _ _
      · split
        · exact (nz_from _ _ _ _).bind fun t1 => (ih _ _ _).bind fun x => NZ.ok _
        · exact ih _ _ _
    | atom =>
      rw [rdRun]
      split
      · exact nz_lit _ _ _
      · split
        · exact nz_named _ _ _
        · split
          · exact (nz_from _ _ _ _).bind fun t1 => nz_named _ _ _
          · split
            · split
              · exact NZ.bad _ _ (by decide)
              · refine (nz_from _ _ _ _).bind fun t1 => (ih _ _ _).bind fun e => (nz_from _ _ _ _).bind fun t2 => ?_
                split
                · split
                  · exact NZ.ok _
                  · exact NZ.bad _ _ (by assumption)
                · exact NZ.bad _ _ (by decide)
            · exact NZ.bad _ _ (by decide)
theorem nz_read (s : ByteArray) (pat : Bool) (most : Nat) : NZ (psRead s pat most) := by
  rw [read_eq]
  unfold rdWhole
  split
  · exact NZ.bad _ _ (by decide)
  · split
    · unfold rdX
      refine NZ.bind (NZ.bind (nz_from _ _ _ _) fun t => nz_run _ _ _ _ _ _) fun r => (nz_from _ _ _ _).bind fun _ => ?_
      repeat' split
      all_goals first | exact NZ.ok _ | exact NZ.bad _ _ (by decide)
    · exact NZ.bad _ _ (by assumption)
/-- A good answer is sound, and all in it within reach. -/
theorem read_sd {s : ByteArray} {most : Nat} {a : List Nd} (hm : most ≤ 64) (h : psRead s false most = .ok a) : KidsIn a ∧ sndB a = true ∧ a.length ≤ 64 := by
  obtain ⟨h4, hc, hl, t, ht, hr⟩ := whole_ok h
  have hlv : RdQ.cond.lvl := ⟨(fun _ e => by cases e), (fun _ _ e => by cases e)⟩
  have := rd_sd s _ .cond t 0 _ hlv (fun _ _ e => by cases e) (from_nm ht) hr
  exact ⟨this.1, this.2 (show a.length ≤ 64 by omega), by omega⟩
def JL (l : List Nd) : List Nd := if 64 < l.length then [] else l
def JE (l : List Nd) : Int := if 64 < l.length then 10 else 0
end Go.Proofs.YtaennaoakopgfaaDoor

set_option linter.unusedSimpArgs false
set_option linter.unusedVariables false
namespace Go.Proofs.YtaennaoakopgfaaDoor
open Go.Lib

theorem apz (a b : ByteArray) : (a ++ b).size = a.size + b.size := by simp
theorem app_list (a b : ByteArray) : (a ++ b).data.toList = a.data.toList ++ b.data.toList := by simp
theorem gA (a b : ByteArray) (i : Nat) (h : i < a.size) : (a ++ b).get! i = a.get! i := by
  have h1 := ba_get (a ++ b) i (by rw [apz]; omega)
  have h2 := ba_get a i h
  have hl : a.data.toList.length = a.size := (size_eq a).symm
  rw [app_list, List.getElem?_append_left (by omega), h2] at h1
  exact (Option.some.inj h1).symm
theorem gB (a b : ByteArray) (i : Nat) (h0 : a.size ≤ i) (h : i < a.size + b.size) : (a ++ b).get! i = b.get! (i - a.size) := by
  have h1 := ba_get (a ++ b) i (by rw [apz]; omega)
  have h2 := ba_get b (i - a.size) (by omega)
  have hl : a.data.toList.length = a.size := (size_eq a).symm
  rw [app_list, List.getElem?_append_right (by omega), hl, h2] at h1
  exact (Option.some.inj h1).symm
theorem inn_mk {S s : ByteArray} {d : Nat} (hz : d + s.size < S.size) (hg : ∀ i, i < s.size → S.get! (d + i) = s.get! i) (hb : S.get! (d + s.size) = 41) : Inn S s d (d + s.size) :=
  ⟨⟨hz, hg, .inl hb⟩, skp_jsg hz hb (by unfold jsg; simp), hz, hb⟩
def A1 : ByteArray := ⟨#[40]⟩
def A2 (c : UInt8) : ByteArray := ⟨#[c, 40]⟩
def A3 (c : UInt8) : ByteArray := ⟨#[41, c, 40]⟩
def A4 : ByteArray := ⟨#[41]⟩
theorem A1_z : A1.size = 1 := rfl
theorem A2_z (c : UInt8) : (A2 c).size = 2 := rfl
theorem A3_z (c : UInt8) : (A3 c).size = 3 := rfl
theorem A4_z : A4.size = 1 := rfl
/-- A sign, and a text in brackets. -/
theorem text1 (c : UInt8) (s : ByteArray) : (A2 c ++ s ++ A4).size = s.size + 3 ∧ Inn (A2 c ++ s ++ A4) s 2 (2 + s.size) ∧ (A2 c ++ s ++ A4).get! 0 = c ∧ (A2 c ++ s ++ A4).get! 1 = 40 := by
  have z0 := A2_z c
  have z1 := A4_z
  have z2 := apz (A2 c) s
  have z3 := apz (A2 c ++ s) A4
  refine ⟨by omega, inn_mk (by omega) (fun i hi => ?_) ?_, ?_, ?_⟩
  · rw [gA _ _ _ (by omega), gB _ _ _ (by omega) (by omega)]
    congr 1; omega
  · rw [gB _ _ _ (by omega) (by omega), show 2 + s.size - (A2 c ++ s).size = 0 by omega]; rfl
  · rw [gA _ _ _ (by omega), gA _ _ _ (by omega)]; rfl
  · rw [gA _ _ _ (by omega), gA _ _ _ (by omega)]; rfl
/-- Two texts in brackets, a sign between them. -/
theorem text2 (c : UInt8) (s t : ByteArray) : (A1 ++ s ++ A3 c ++ t ++ A4).size = s.size + t.size + 5 ∧ Inn (A1 ++ s ++ A3 c ++ t ++ A4) s 1 (1 + s.size) ∧ Inn (A1 ++ s ++ A3 c ++ t ++ A4) t (s.size + 4) (s.size + 4 + t.size) ∧
    (A1 ++ s ++ A3 c ++ t ++ A4).get! 0 = 40 ∧ (A1 ++ s ++ A3 c ++ t ++ A4).get! (s.size + 2) = c ∧ (A1 ++ s ++ A3 c ++ t ++ A4).get! (s.size + 3) = 40 := by
  have z0 := A1_z
  have z1 := A4_z
  have z2 := A3_z c
  have y1 := apz A1 s
  have y2 := apz (A1 ++ s) (A3 c)
  have y3 := apz (A1 ++ s ++ A3 c) t
  have y4 := apz (A1 ++ s ++ A3 c ++ t) A4
  refine ⟨by omega, inn_mk (by omega) (fun i hi => ?_) ?_, inn_mk (by omega) (fun i hi => ?_) ?_, ?_, ?_, ?_⟩
  · rw [gA _ _ _ (by omega), gA _ _ _ (by omega), gA _ _ _ (by omega), gB _ _ _ (by omega) (by omega)]
    congr 1; omega
  · rw [gA _ _ _ (by omega), gA _ _ _ (by omega), gB _ _ _ (by omega) (by omega), show 1 + s.size - (A1 ++ s).size = 0 by omega]; rfl
  · rw [gA _ _ _ (by omega), gB _ _ _ (by omega) (by omega)]
    congr 1; omega
  · rw [gB _ _ _ (by omega) (by omega), show s.size + 4 + t.size - (A1 ++ s ++ A3 c ++ t).size = 0 by omega]; rfl
  · rw [gA _ _ _ (by omega), gA _ _ _ (by omega), gA _ _ _ (by omega), gA _ _ _ (by omega)]; rfl
  · rw [gA _ _ _ (by omega), gA _ _ _ (by omega), gB _ _ _ (by omega) (by omega), show s.size + 2 - (A1 ++ s).size = 1 by omega]; rfl
  · rw [gA _ _ _ (by omega), gA _ _ _ (by omega), gB _ _ _ (by omega) (by omega), show s.size + 3 - (A1 ++ s).size = 2 by omega]; rfl
/-- Three. -/
theorem text3 (c c2 : UInt8) (s t : ByteArray) : (A1 ++ s ++ A3 c ++ t ++ A3 c2 ++ s ++ A4).size = s.size + t.size + s.size + 8 ∧ Inn (A1 ++ s ++ A3 c ++ t ++ A3 c2 ++ s ++ A4) s 1 (1 + s.size) ∧ Inn (A1 ++ s ++ A3 c ++ t ++ A3 c2 ++ s ++ A4) t (s.size + 4) (s.size + 4 + t.size) ∧ Inn (A1 ++ s ++ A3 c ++ t ++ A3 c2 ++ s ++ A4) s (s.size + t.size + 7) (s.size + t.size + 7 + s.size) ∧
    (A1 ++ s ++ A3 c ++ t ++ A3 c2 ++ s ++ A4).get! 0 = 40 ∧ (A1 ++ s ++ A3 c ++ t ++ A3 c2 ++ s ++ A4).get! (s.size + 2) = c ∧ (A1 ++ s ++ A3 c ++ t ++ A3 c2 ++ s ++ A4).get! (s.size + 3) = 40 ∧ (A1 ++ s ++ A3 c ++ t ++ A3 c2 ++ s ++ A4).get! (s.size + t.size + 5) = c2 ∧ (A1 ++ s ++ A3 c ++ t ++ A3 c2 ++ s ++ A4).get! (s.size + t.size + 6) = 40 := by
  have z0 := A1_z
  have z1 := A4_z
  have z2 := A3_z c
  have z3 := A3_z c2
  have y1 := apz A1 s
  have y2 := apz (A1 ++ s) (A3 c)
  have y3 := apz (A1 ++ s ++ A3 c) t
  have y4 := apz (A1 ++ s ++ A3 c ++ t) (A3 c2)
  have y5 := apz (A1 ++ s ++ A3 c ++ t ++ A3 c2) s
  have y6 := apz (A1 ++ s ++ A3 c ++ t ++ A3 c2 ++ s) A4
  refine ⟨by omega, inn_mk (by omega) (fun i hi => ?_) ?_, inn_mk (by omega) (fun i hi => ?_) ?_, inn_mk (by omega) (fun i hi => ?_) ?_, ?_, ?_, ?_, ?_, ?_⟩
  · rw [gA _ _ _ (by omega), gA _ _ _ (by omega), gA _ _ _ (by omega), gA _ _ _ (by omega), gA _ _ _ (by omega), gB _ _ _ (by omega) (by omega)]
    congr 1; omega
  · rw [gA _ _ _ (by omega), gA _ _ _ (by omega), gA _ _ _ (by omega), gA _ _ _ (by omega), gB _ _ _ (by omega) (by omega), show 1 + s.size - (A1 ++ s).size = 0 by omega]; rfl
  · rw [gA _ _ _ (by omega), gA _ _ _ (by omega), gA _ _ _ (by omega), gB _ _ _ (by omega) (by omega)]
    congr 1; omega
  · rw [gA _ _ _ (by omega), gA _ _ _ (by omega), gB _ _ _ (by omega) (by omega), show s.size + 4 + t.size - (A1 ++ s ++ A3 c ++ t).size = 0 by omega]; rfl
  · rw [gA _ _ _ (by omega), gB _ _ _ (by omega) (by omega)]
    congr 1; omega
  · rw [gB _ _ _ (by omega) (by omega), show s.size + t.size + 7 + s.size - (A1 ++ s ++ A3 c ++ t ++ A3 c2 ++ s).size = 0 by omega]; rfl
  · rw [gA _ _ _ (by omega), gA _ _ _ (by omega), gA _ _ _ (by omega), gA _ _ _ (by omega), gA _ _ _ (by omega), gA _ _ _ (by omega)]; rfl
  · rw [gA _ _ _ (by omega), gA _ _ _ (by omega), gA _ _ _ (by omega), gA _ _ _ (by omega), gB _ _ _ (by omega) (by omega), show s.size + 2 - (A1 ++ s).size = 1 by omega]; rfl
  · rw [gA _ _ _ (by omega), gA _ _ _ (by omega), gA _ _ _ (by omega), gA _ _ _ (by omega), gB _ _ _ (by omega) (by omega), show s.size + 3 - (A1 ++ s).size = 2 by omega]; rfl
  · rw [gA _ _ _ (by omega), gA _ _ _ (by omega), gB _ _ _ (by omega) (by omega), show s.size + t.size + 5 - (A1 ++ s ++ A3 c ++ t).size = 1 by omega]; rfl
  · rw [gA _ _ _ (by omega), gA _ _ _ (by omega), gB _ _ _ (by omega) (by omega), show s.size + t.size + 6 - (A1 ++ s ++ A3 c ++ t).size = 2 by omega]; rfl
theorem pl3_if (l : List Nd) (p : Nat) : (pl3 (if 64 < l.length then .bad p 10 else .ok l)).1 = JL l ∧ (pl3 (if 64 < l.length then .bad p 10 else .ok l)).2.2 = JE l := by
  unfold JL JE
  by_cases h : 64 < l.length
  · rw [if_pos h, if_pos h, if_pos h]; exact ⟨rfl, rfl⟩
  · rw [if_neg h, if_neg h, if_neg h]; exact ⟨rfl, rfl⟩
end Go.Proofs.YtaennaoakopgfaaDoor

set_option linter.unusedSimpArgs false
set_option linter.unusedVariables false
namespace Go.Proofs.YtaennaoakopgfaaDoor
open Go.RowKit Go.Lib Go.Sort

theorem opn_abs (s : ByteArray) : ∀ p : Nat, -(p : Int) ≤ opn s p ∧ opn s p ≤ p := by
  intro p
  induction p with
  | zero => exact ⟨by simp [opn], by simp [opn]⟩
  | succ p ih =>
    have : -1 ≤ brk1 (s.get! p) ∧ brk1 (s.get! p) ≤ 1 := by unfold brk1; split <;> (try split) <;> omega
    simp only [opn]
    omega
set_option maxRecDepth 20000 in
set_option maxHeartbeats 8000000 in
theorem nest_any (w : World) (s : ByteArray) (hz : s.size ≤ 5000) :
    Calls Tryd.prog 30 #[.string s] w fun e w' => ∃ m : Nat, e = .returned (.int .i64 m) ∧ (∀ p, p ≤ s.size → opn s p ≤ m) ∧ Below w.heap.size w w' := by
  go_enter Tryd.func30, Tryd.ntmps30
  go_wp2_with fail
  go_loopw [3, 4, 5] (fun n v i wr => ∃ (k m : Nat), k ≤ s.size ∧ i = .int .i64 k ∧ n = .int .i64 (opn s k) ∧ v = .int .i64 m ∧ m ≤ k ∧ Hid (∀ p, p ≤ k → opn s p ≤ m) ∧ Below w.heap.size w wr) (fun _ _ i _ => s.size - (RowKit.intOf i).toNat)
  case atStart => exact ⟨0, 0, by omega, rfl, rfl, rfl, by omega, fun p hp => by have : p = 0 := by omega
                                                                                 subst this; exact Int.le_refl _, Below.refl _ _⟩
  case round =>
    obtain ⟨k, m, hk, rfl, rfl, rfl, hmk, hm, hbq⟩ := hrel
    have HB : Hid (Below w.heap.size w wr) := hbq
    have hab := opn_abs s k
    obtain ⟨c, hc⟩ : ∃ c, opn s k = c := ⟨_, rfl⟩
    have HC : Hid (opn s k = c) := hc
    rw [hc] at hab ⊢
    clear hbq hc
    by_cases hkl : k < s.size
    · have hg := Utf8W.get!_of_lt s k hkl
      have HE : Hid (opn s (k + 1) = c + brR ((s[k].toNat : Nat) : Int)) := by
        show opn s k + brk1 (s.get! k) = _
        rw [HC.out, hg, brk1_lo]
      have HM : Hid (∀ m' : Nat, m ≤ m' → opn s (k + 1) ≤ m' → ∀ p, p ≤ k + 1 → opn s p ≤ m') := fun m' h1 h2 p hp => by
        by_cases e : p = k + 1
        · subst e; exact h2
        · have := hm.out p (by omega); omega
      clear hg
      go_wp2_with fail
      · rename_i h40
        have e40 : ((s[k].toNat : Nat) : Int) = 40 := by simpa using h40
        have hE := HE.out
        rw [e40, show brR 40 = 1 from rfl] at hE
        refine ⟨⟨k + 1, (max (m : Int) (c + 1)).toNat, by omega, by go_num, by rw [hE], ?_, by omega, HM.out _ (by omega) (by omega), HB.out⟩, by simp [RowKit.intOf]; omega⟩
        rw [Int.toNat_of_nonneg (by omega)]
      · rename_i h40 h41
        have e41 : ((s[k].toNat : Nat) : Int) = 41 := by simpa using h41
        have hE := HE.out
        rw [e41, show brR 41 = -1 from rfl] at hE
        have hle := hm.out k (Nat.le_refl _)
        rw [HC.out] at hle
        exact ⟨⟨k + 1, m, by omega, by go_num, by rw [hE]; rfl, rfl, by omega, HM.out _ (by omega) (by omega), HB.out⟩, by simp [RowKit.intOf]; omega⟩
      · rename_i h40 h41
        have e40 : ¬ ((s[k].toNat : Nat) : Int) = 40 := by simpa using h40
        have e41 : ¬ ((s[k].toNat : Nat) : Int) = 41 := by simpa using h41
        have hE := HE.out
        unfold brR at hE
        rw [if_neg e40, if_neg e41] at hE
        have hle := hm.out k (Nat.le_refl _)
        rw [HC.out] at hle
        exact ⟨⟨k + 1, m, by omega, by go_num, by rw [hE, Int.add_zero], rfl, by omega, HM.out _ (by omega) (by omega), HB.out⟩, by simp [RowKit.intOf]; omega⟩
    · go_wp2_with fail
      go_ret
      exact ⟨m, rfl, fun p hp => hm.out p (by omega), HB.out⟩
end Go.Proofs.YtaennaoakopgfaaDoor
