/-
  EmBad, EmErr, EmLay, EmLy2, EmLy3, NestW2.
-/
import Derived.Test.YtaennaoakopgfaaDoorMGEm
import Derived.Test.YtaennaoakopgfaaDoorMGJn
set_option linter.unusedSimpArgs false
set_option linter.unusedVariables false
namespace Go.Proofs.YtaennaoakopgfaaDoor
open Go.Lib

theorem Pr.bind_bad {α β : Type} {x : Pr α} {f : α → Pr β} {p : Nat} {e : Int} (h : x.bind f = .bad p e) : x = .bad p e ∨ ∃ a, x = .ok a ∧ f a = .bad p e := by
  cases x with
  | ok a => exact .inr ⟨a, rfl, h⟩
  | bad q e' =>
    have c : (Pr.bad q e' : Pr β) = .bad p e := h
    cases c; exact .inl rfl
  | out => cases h
/-- A token's fault. -/
theorem Inn.frB {S s : ByteArray} {d e : Nat} (h : Inn S s d e) {pat : Bool} {m a p : Nat} (ha : a ≤ s.size) {er : Int} (ht : psFrom s pat m a = .bad p er) : psFrom S pat m (pmv s d e a) = .bad (d + p) er := by
  unfold pmv
  by_cases hl : a < s.size
  · rw [if_pos hl]
    have := h.mid.from_ pat m hl
    rw [ht] at this
    cases hS : psFrom S pat m (d + a) with
    | ok t' => rw [hS] at this; exact this.elim
    | bad q er' => rw [hS] at this; rw [this.1, this.2]
    | out => rw [hS] at this; exact this.elim
  · unfold psFrom at ht
    rw [if_neg hl] at ht
    cases ht
theorem TkR.low {s : ByteArray} {d e : Nat} {t t' : Tk} (h : TkR s d e t t') (hl : t.from_ < s.size) : TkS d t t' := by
  rcases h with h | ⟨h, h'⟩
  · exact h.1
  · subst h; exact absurd hl (by unfold psEnd; exact Nat.lt_irrefl _)
theorem Inn.litB {S s : ByteArray} {d e : Nat} {t t' : Tk} (hr : TkR s d e t t') {v : Int} {p : Nat} {er : Int} (hp : p < s.size) (hk : rdLit s v t = .bad p er) : rdLit S v t' = .bad (d + p) er := by
  unfold rdLit at hk ⊢
  split at hk
  · rename_i h1
    split at hk
    · cases hk
    · rename_i h2
      cases hk
      have hs := hr.low hp
      rw [if_pos (hs.what.trans h1), if_neg (by rw [hs.err]; exact h2), hs.err, hs.at_]
  · rename_i h1
    cases hk
    have hs := hr.low hp
    rw [if_neg (by rw [hs.what]; exact h1), hs.at_]
theorem Inn.namedB {S s : ByteArray} {d e : Nat} {t t' : Tk} (hr : TkR s d e t t') {v : Int} {p : Nat} {er : Int} (hp : p < s.size) (hk : rdNamed s v t = .bad p er) : rdNamed S v t' = .bad (d + p) er := by
  unfold rdNamed at hk ⊢
  split at hk
  · rename_i h1
    split at hk
    · cases hk
    · rename_i h2
      cases hk
      have hs := hr.low hp
      rw [if_pos (hs.what.trans h1), if_neg (by rw [hs.err]; exact h2), hs.err, hs.at_]
  · rename_i h1
    cases hk
    have hs := hr.low hp
    rw [if_neg (by rw [hs.what]; exact h1), hs.at_]
theorem run_bad {S s : ByteArray} {d e : Nat} (h : Inn S s d e) (pat : Bool) (k : Nat) (hN : ∀ p, p ≤ s.size → opn s p + k ≤ 100) :
    ∀ (f : Nat) (q : RdQ) (a : Nat) (t t' : Tk) (o : Nat) (p : Nat) (er : Int), q.lvl → TkO s a t → TkR s d e t t' → opn s a = o → p < s.size → rdRun s pat f q t o = .bad p er → rdRun S pat f q t' (o + k) = .bad (d + p) er := by
  intro f
  induction f with
  | zero => intro q a t t' o p er _ _ _ _ _ h; cases h
  | succ f ih =>
    have hc : RdQ.cond.lvl := ⟨(fun _ e => by cases e), (fun _ _ e => by cases e)⟩
    have hu : RdQ.un.lvl := ⟨(fun _ e => by cases e), (fun _ _ e => by cases e)⟩
    have hat : RdQ.atom.lvl := ⟨(fun _ e => by cases e), (fun _ _ e => by cases e)⟩
    have hlv : ∀ lv, 1 ≤ lv → (RdQ.level lv).lvl := fun lv h => ⟨(fun _ e => by cases e; exact h), (fun _ _ e => by cases e)⟩
    have hlo : ∀ lv la, 1 ≤ lv → (RdQ.loop lv la).lvl := fun lv la h => ⟨(fun _ e => by cases e), (fun _ _ e => by cases e; exact h)⟩
    intro q a t t' o p er hq ht hr ho hp hk
    cases q with
    | cond =>
      simp only [rdRun] at hk ⊢
      rcases Pr.bind_bad hk with hk | ⟨c, h1, hk⟩
      · rw [ih _ a t t' o p er (hlv 1 (by omega)) ht hr ho hp hk]; try rfl
      obtain ⟨o1, e1⟩ := run_in h pat k hN f _ a t t' o c (hlv 1 (by omega)) ht hr ho h1
      obtain ⟨_, _, i3⟩ := rd_len s pat f _ a t o c (hlv 1 (by omega)) ht.is h1
      rw [e1]; simp only [Pr.bind]
      rcases Pr.bind_bad hk with hk | ⟨t1, h2, hk⟩
      · rw [h.frB i3 hk]; try rfl
      have ht1 := from_opn i3 h2
      obtain ⟨t1', e2, r1⟩ := h.fr i3 h2
      rw [e2]; simp only [Pr.bind]
      split at hk
      · rename_i hw
        rw [if_pos ((r1.is (by decide) (by decide)).2 hw)]
        have hw0 : t1.what ≠ 0 := by rw [hw]; decide
        have he1 := ht1.is.sign (by rw [hw]; decide) (by rw [hw]; decide)
        have b2 : brR t1.what = 0 := by rw [hw]; decide
        have hle := (skp_in (ht1.is.good he1).2.1).2
        rcases Pr.bind_bad hk with hk | ⟨t2, h3, hk⟩
        · rw [h.nx ht1.is r1 hw0 he1, h.frB hle hk]; try rfl
        obtain ⟨⟨t2', e3, r2⟩, ht2, o2⟩ := h.step ht1 r1 hw0 he1 h3
        rw [e3]; simp only [Pr.bind]
        rcases Pr.bind_bad hk with hk | ⟨b, h4, hk⟩
        · rw [ih _ _ t2 t2' o p er hc ht2 r2 (by omega) hp hk]; try rfl
        obtain ⟨o3, e4⟩ := run_in h pat k hN f _ _ t2 t2' o b hc ht2 r2 (by omega) h4
        obtain ⟨_, _, j3⟩ := rd_len s pat f _ _ t2 o b hc ht2.is h4
        rw [e4]; simp only [Pr.bind]
        rcases Pr.bind_bad hk with hk | ⟨t3, h5, hk⟩
        · rw [h.frB j3 hk]; try rfl
        have ht3 := from_opn j3 h5
        obtain ⟨t3', e5, r3⟩ := h.fr j3 h5
        rw [e5]; simp only [Pr.bind]
        split at hk
        · rename_i hw3
          have hw30 : t3.what ≠ 0 := by rw [hw3]; decide
          rw [if_pos ((r3.is (by decide) (by decide)).2 hw3)]
          split at hk
          · rename_i he3
            rw [if_pos (by rw [(r3.on hw30).1.err]; exact he3)]
            have b4 : brR t3.what = 0 := by rw [hw3]; decide
            have hle3 := (skp_in (ht3.is.good he3).2.1).2
            rcases Pr.bind_bad hk with hk | ⟨t4, h6, hk⟩
            · rw [h.nx ht3.is r3 hw30 he3, h.frB hle3 hk]; try rfl
            obtain ⟨⟨t4', e6, r4⟩, ht4, o4⟩ := h.step ht3 r3 hw30 he3 h6
            rw [e6]; simp only [Pr.bind]
            rcases Pr.bind_bad hk with hk | ⟨x, h7, hk⟩
            · rw [ih _ _ t4 t4' o p er hc ht4 r4 (by omega) hp hk]; try rfl
            cases hk
          · rename_i he3
            cases hk
            have hs3 := r3.low hp
            rw [if_neg (by rw [hs3.err]; exact he3), hs3.at_, hs3.err]
        · rename_i hw3
          cases hk
          have hs3 := r3.low hp
          rw [if_neg (fun x => hw3 ((r3.is (by decide) (by decide)).1 x)), hs3.at_]
      · cases hk
    | level lv =>
      simp only [rdRun] at hk ⊢
      have hl1 := hq.1 lv rfl
      split at hk
      · rename_i h8
        rw [if_pos h8]
        exact ih _ a t t' o p er hu ht hr ho hp hk
      · rename_i h8
        rw [if_neg h8]
        rcases Pr.bind_bad hk with hk | ⟨c, h1, hk⟩
        · rw [ih _ a t t' o p er (hlv (lv + 1) (by omega)) ht hr ho hp hk]; try rfl
        obtain ⟨o1, e1⟩ := run_in h pat k hN f _ a t t' o c (hlv (lv + 1) (by omega)) ht hr ho h1
        obtain ⟨_, _, i3⟩ := rd_len s pat f _ a t o c (hlv (lv + 1) (by omega)) ht.is h1
        rw [e1]; simp only [Pr.bind]
        rcases Pr.bind_bad hk with hk | ⟨t1, h2, hk⟩
        · rw [h.frB i3 hk]; try rfl
        have ht1 := from_opn i3 h2
        obtain ⟨t1', e2, r1⟩ := h.fr i3 h2
        rw [e2]; simp only [Pr.bind]
        exact ih _ _ t1 t1' o p er (hlo lv c.1 hl1) ht1 r1 o1 hp hk
    | loop lv la =>
      simp only [rdRun] at hk ⊢
      have hl1 := hq.2 lv la rfl
      rw [hr.op]
      split at hk
      · rename_i hw
        rw [if_pos hw]
        obtain ⟨w0, w1, w2⟩ := op_sgn hw hl1
        have he1 := ht.is.sign w1 w2
        have b1 := op_br hw hl1
        have hle := (skp_in (ht.is.good he1).2.1).2
        rcases Pr.bind_bad hk with hk | ⟨t1, h2, hk⟩
        · rw [h.nx ht.is hr w0 he1, h.frB hle hk]; try rfl
        obtain ⟨⟨t1', e2, r1⟩, ht1, o1⟩ := h.step ht hr w0 he1 h2
        rw [e2]; simp only [Pr.bind]
        rcases Pr.bind_bad hk with hk | ⟨b, h3, hk⟩
        · rw [ih _ _ t1 t1' o p er (hlv (lv + 1) (by omega)) ht1 r1 (by omega) hp hk]; try rfl
        obtain ⟨o2, e3⟩ := run_in h pat k hN f _ _ t1 t1' o b (hlv (lv + 1) (by omega)) ht1 r1 (by omega) h3
        obtain ⟨_, _, i3⟩ := rd_len s pat f _ _ t1 o b (hlv (lv + 1) (by omega)) ht1.is h3
        rw [e3]; simp only [Pr.bind]
        split at hk
        · cases hk
        · rename_i h15
          rw [if_neg h15]
          rcases Pr.bind_bad hk with hk | ⟨t2, h4, hk⟩
          · rw [h.frB i3 hk]; try rfl
          have ht2 := from_opn i3 h4
          obtain ⟨t2', e4, r2⟩ := h.fr i3 h4
          rw [e4]; simp only [Pr.bind]
          exact ih _ _ t2 t2' o p er (hlo lv _ hl1) ht2 r2 o2 hp hk
      · cases hk
    | un =>
      simp only [rdRun] at hk ⊢
      split at hk
      · rename_i hw
        have w0 : t.what ≠ 0 := by rw [hw]; decide
        have he1 := ht.is.sign (by rw [hw]; decide) (by rw [hw]; decide)
        have b1 : brR t.what = 0 := by rw [hw]; decide
        have hle := (skp_in (ht.is.good he1).2.1).2
        have hto := (hr.on w0).1.to (fun _ => he1)
        have hnum := h.mid.num (ht.is.good he1).2.1
        rw [if_pos ((hr.is (by decide) (by decide)).2 hw), hto, hnum]
        split at hk
        · rename_i h11
          rw [if_pos (show (nsh d (numI s t.to)).2.2 = 11 from h11), ← hto]
          rcases Pr.bind_bad hk with hk | ⟨t1, h2, hk⟩
          · rw [h.nx ht.is hr w0 he1, h.frB hle hk]; try rfl
          obtain ⟨⟨t1', e2, r1⟩, ht1, o1⟩ := h.step ht hr w0 he1 h2
          rw [e2]; simp only [Pr.bind]
          rcases Pr.bind_bad hk with hk | ⟨b, h3, hk⟩
          · rw [ih _ _ t1 t1' o p er hu ht1 r1 (by omega) hp hk]; try rfl
          cases hk
        · rename_i h11
          rw [if_neg (show ¬ (nsh d (numI s t.to)).2.2 = 11 from h11), ← hto]
          rcases Pr.bind_bad hk with hk | ⟨t1, h2, hk⟩
          · rw [h.nx ht.is hr w0 he1, h.frB hle hk]; try rfl
          obtain ⟨⟨t1', e2, r1⟩, ht1, o1⟩ := h.step ht hr w0 he1 h2
          rw [e2]; simp only [Pr.bind]
          have hn : t1'.n = t1.n := by
            rcases r1 with ⟨r1, _⟩ | ⟨r1, r2⟩
            · exact r1.n
            · subst r1; subst r2; rfl
          rw [hn]
          exact Inn.litB r1 hp hk
      · rename_i hw
        rw [if_neg (fun x => hw ((hr.is (by decide) (by decide)).1 x))]
        split at hk
        · rename_i hw
          have w0 : t.what ≠ 0 := by rw [hw]; decide
          have he1 := ht.is.sign (by rw [hw]; decide) (by rw [hw]; decide)
          have b1 : brR t.what = 0 := by rw [hw]; decide
          have hle := (skp_in (ht.is.good he1).2.1).2
          rw [if_pos ((hr.is (by decide) (by decide)).2 hw)]
          rcases Pr.bind_bad hk with hk | ⟨t1, h2, hk⟩
          · rw [h.nx ht.is hr w0 he1, h.frB hle hk]; try rfl
          obtain ⟨⟨t1', e2, r1⟩, ht1, o1⟩ := h.step ht hr w0 he1 h2
          rw [e2]; simp only [Pr.bind]
          rcases Pr.bind_bad hk with hk | ⟨b, h3, hk⟩
          · rw [ih _ _ t1 t1' o p er hu ht1 r1 (by omega) hp hk]; try rfl
          cases hk
        · rename_i hw
          rw [if_neg (fun x => hw ((hr.is (by decide) (by decide)).1 x))]
          exact ih _ a t t' o p er hat ht hr ho hp hk
    | atom =>
      simp only [rdRun] at hk ⊢
      split at hk
      · rename_i hw
        have w0 : t.what ≠ 0 := by rw [hw]; decide
        rw [if_pos ((hr.is (by decide) (by decide)).2 hw), (hr.on w0).1.n]
        exact Inn.litB hr hp hk
      · rename_i hw
        rw [if_neg (fun x => hw ((hr.is (by decide) (by decide)).1 x))]
        split at hk
        · rename_i hw
          rw [if_pos ((hr.is (by decide) (by decide)).2 hw)]
          exact Inn.namedB hr hp hk
        · rename_i hw
          rw [if_neg (fun x => hw ((hr.is (by decide) (by decide)).1 x))]
          split at hk
          · rename_i hw
            have w0 : t.what ≠ 0 := by rw [hw]; decide
            have he1 := ht.is.sign (by rw [hw]; decide) (by rw [hw]; decide)
            have hle := (skp_in (ht.is.good he1).2.1).2
            rw [if_pos ((hr.is (by decide) (by decide)).2 hw)]
            rcases Pr.bind_bad hk with hk | ⟨t1, h2, hk⟩
            · rw [h.nx ht.is hr w0 he1, h.frB hle hk]; try rfl
            obtain ⟨⟨t1', e2, r1⟩, ht1, o1⟩ := h.step ht hr w0 he1 h2
            rw [e2]; simp only [Pr.bind]
            exact Inn.namedB r1 hp hk
          · rename_i hw
            rw [if_neg (fun x => hw ((hr.is (by decide) (by decide)).1 x))]
            split at hk
            · rename_i hw
              have w0 : t.what ≠ 0 := by rw [hw]; decide
              have he1 := ht.is.sign (by rw [hw]; decide) (by rw [hw]; decide)
              have b1 : brR t.what = 1 := by rw [hw]; decide
              have hle := (skp_in (ht.is.good he1).2.1).2
              have hop := ht.opn he1
              have hb := hN _ hle
              rw [opn_skp] at hb
              rw [if_pos ((hr.is (by decide) (by decide)).2 hw)]
              rw [if_neg (show ¬ o + k = 100 by omega)]
              split at hk
              · omega
              · rcases Pr.bind_bad hk with hk | ⟨t1, h2, hk⟩
                · rw [h.nx ht.is hr w0 he1, h.frB hle hk]; try rfl
                obtain ⟨⟨t1', e2, r1⟩, ht1, o1⟩ := h.step ht hr w0 he1 h2
                rw [e2]; simp only [Pr.bind]
                rw [show o + k + 1 = o + 1 + k by omega]
                rcases Pr.bind_bad hk with hk | ⟨x, h3, hk⟩
                · rw [ih _ _ t1 t1' (o + 1) p er hc ht1 r1 (by omega) hp hk]; try rfl
                obtain ⟨o2, e3⟩ := run_in h pat k hN f _ _ t1 t1' (o + 1) x hc ht1 r1 (by omega) h3
                obtain ⟨_, _, i3⟩ := rd_len s pat f _ _ t1 (o + 1) x hc ht1.is h3
                rw [e3]; simp only [Pr.bind]
                rcases Pr.bind_bad hk with hk | ⟨t2, h4, hk⟩
                · rw [h.frB i3 hk]; try rfl
                have ht2 := from_opn i3 h4
                obtain ⟨t2', e4, r2⟩ := h.fr i3 h4
                rw [e4]; simp only [Pr.bind]
                split at hk
                · rename_i hw2
                  have w20 : t2.what ≠ 0 := by rw [hw2]; decide
                  have hs2 := (r2.on w20).1
                  rw [if_pos (hs2.what.trans hw2)]
                  split at hk
                  · cases hk
                  · rename_i he
                    cases hk
                    rw [if_neg (by rw [hs2.err]; exact he), hs2.at_, hs2.err]
                · rename_i hw2
                  cases hk
                  have hs2 := r2.low hp
                  rw [if_neg (by rw [hs2.what]; exact hw2), hs2.at_]
            · rename_i hw
              cases hk
              have hs := hr.low hp
              rw [if_neg (fun x => hw ((hr.is (by decide) (by decide)).1 x)), hs.at_]
end Go.Proofs.YtaennaoakopgfaaDoor

set_option linter.unusedSimpArgs false
set_option linter.unusedVariables false
namespace Go.Proofs.YtaennaoakopgfaaDoor
open Go.Lib

/-- A fault below the end that is no bad byte, or ErrText. -/
def GE {α : Type} (s : ByteArray) (x : Pr α) : Prop := ∀ p er, x = .bad p er → (p < s.size ∧ er ≠ 4 ∧ er ≠ 3) ∨ er = 6
theorem GE.ok {α : Type} (s : ByteArray) (a : α) : GE s (.ok a : Pr α) := fun p e c => by cases c
theorem GE.six {α : Type} (s : ByteArray) (p : Nat) : GE s (.bad p 6 : Pr α) := fun q e c => by cases c; exact .inr rfl
theorem GE.at_ {α : Type} (s : ByteArray) {p : Nat} {er : Int} (hp : p < s.size) (h4 : er ≠ 4) (h3 : er ≠ 3) : GE s (.bad p er : Pr α) := fun q e c => by cases c; exact .inl ⟨hp, h4, h3⟩
theorem GE.bind {α β : Type} {s : ByteArray} {x : Pr α} {f : α → Pr β} (h : GE s x) (hf : ∀ a, x = .ok a → GE s (f a)) : GE s (x.bind f) := by
  intro p er c
  rcases Pr.bind_bad c with c | ⟨a, h1, c⟩
  · exact h p er c
  · exact hf a h1 p er c
/-- A token with a fault stands below the end. -/
structure TkG (s : ByteArray) (t : Tk) : Prop where
  err : t.err ≠ 0 → t.from_ < s.size ∧ t.err ≠ 4 ∧ t.err ≠ 3
  what : t.what ≠ 0 → t.from_ < s.size
theorem nu_err (s : ByteArray) (z : Int) : ∀ f p n, (nuF s z f p n).2.2 = 0 ∨ (nuF s z f p n).2.2 = 10 := by
  intro f
  induction f with
  | zero => intro p n; exact .inl rfl
  | succ f ih =>
    intro p n
    unfold nuF
    split
    · split
      · split
        · exact .inr rfl
        · exact ih _ _
      · exact .inl rfl
    · exact .inl rfl
theorem num_err2 (s : ByteArray) (p : Int) : (numI s p).2.2 ≠ 4 ∧ (numI s p).2.2 ≠ 3 := by
  unfold numI numP
  split
  · exact ⟨by decide, by decide⟩
  · split
    · exact ⟨by decide, by decide⟩
    · rcases nu_err s (digZ (rn s p.toNat)) s.size p.toNat 0 with e | e <;> rw [e] <;> exact ⟨by decide, by decide⟩
theorem from_tkg {s : ByteArray} {pat : Bool} {m p : Nat} {t : Tk} (h : psFrom s pat m p = .ok t) : TkG s t := by
  unfold psFrom at h
  split at h
  · rename_i hp
    unfold psAt at h
    split at h
    · cases h
      refine ⟨fun _ => ⟨hp, ?_, ?_⟩, fun _ => hp⟩
      · simp only; split <;> decide
      · simp only; split <;> decide
    · split at h
      · cases h
        have := num_err2 s p
        refine ⟨fun _ => ⟨hp, ?_, ?_⟩, fun _ => hp⟩
        · simp only; split
          · decide
          · exact this.1
        · simp only; split
          · decide
          · exact this.2
      · split at h
        · cases h
          exact ⟨fun c => absurd rfl c, fun _ => hp⟩
        · cases h
  · cases h
    exact ⟨fun c => absurd rfl c, fun c => absurd rfl c⟩
theorem ge_from (s : ByteArray) (pat : Bool) (m p : Nat) : GE s (psFrom s pat m p) := by
  unfold psFrom
  split
  · rename_i hp
    unfold psAt
    repeat' split
    all_goals first | exact GE.ok _ _ | exact GE.at_ _ hp (by decide) (by decide)
  · exact GE.ok _ _
theorem ge_lit {s : ByteArray} {v : Int} {t : Tk} (ht : TkG s t) : GE s (rdLit s v t) := by
  unfold rdLit
  split
  · split
    · exact GE.ok _ _
    · rename_i h2; have := ht.err h2; exact GE.at_ _ this.1 this.2.1 this.2.2
  · exact GE.six _ _
theorem ge_named {s : ByteArray} {v : Int} {t : Tk} (ht : TkG s t) : GE s (rdNamed s v t) := by
  unfold rdNamed
  split
  · split
    · exact GE.ok _ _
    · rename_i h2; have := ht.err h2; exact GE.at_ _ this.1 this.2.1 this.2.2
  · exact GE.six _ _
theorem ge_run (s : ByteArray) (pat : Bool) : ∀ (f : Nat) (q : RdQ) (t : Tk) (o : Nat), TkG s t → GE s (rdRun s pat f q t o) := by
  intro f
  induction f with
  | zero => intro q t o _ p er c; cases c
  | succ f ih =>
    intro q t o ht
    cases q with
    | cond =>
      rw [rdRun]
      refine (ih _ _ _ ht).bind fun c _ => (ge_from _ _ _ _).bind fun t1 _ => ?_
      split
      · refine (ge_from _ _ _ _).bind fun t2 g2 => (ih _ _ _ (from_tkg g2)).bind fun a _ => (ge_from _ _ _ _).bind fun t3 g3 => ?_
        split
        · split
          · exact (ge_from _ _ _ _).bind fun t4 g4 => (ih _ _ _ (from_tkg g4)).bind fun b _ => GE.ok _ _
          · rename_i h2; have := (from_tkg g3).err h2; exact GE.at_ _ this.1 this.2.1 this.2.2
        · exact GE.six _ _
      · exact GE.ok _ _
    | level lv =>
      rw [rdRun]
      split
      · exact ih _ _ _ ht
      · exact (ih _ _ _ ht).bind fun a _ => (ge_from _ _ _ _).bind fun t1 g1 => ih _ _ _ (from_tkg g1)
    | loop lv la =>
      rw [rdRun]
      split
      · refine (ge_from _ _ _ _).bind fun t1 g1 => (ih _ _ _ (from_tkg g1)).bind fun b _ => ?_
        split
        · exact GE.ok _ _
        · exact (ge_from _ _ _ _).bind fun t2 g2 => ih _ _ _ (from_tkg g2)
      · exact GE.ok _ _
    | un =>
      rw [rdRun]
      split
      · split
        · exact (ge_from _ _ _ _).bind fun t1 g1 => (ih _ _ _ (from_tkg g1)).bind fun x _ => GE.ok _ _
        · exact (ge_from _ _ _ _).bind fun t1 g1 => ge_lit (from_tkg g1)
      · split
        · exact (ge_from _ _ _ _).bind fun t1 g1 => (ih _ _ _ (from_tkg g1)).bind fun x _ => GE.ok _ _
        · exact ih _ _ _ ht
    | atom =>
      rw [rdRun]
      split
      · exact ge_lit ht
      · split
        · exact ge_named ht
        · split
          · exact (ge_from _ _ _ _).bind fun t1 g1 => ge_named (from_tkg g1)
          · split
            · rename_i h40
              split
              · exact GE.at_ _ (ht.what (by rw [h40]; decide)) (by decide) (by decide)
              · refine (ge_from _ _ _ _).bind fun t1 g1 => (ih _ _ _ (from_tkg g1)).bind fun e _ => (ge_from _ _ _ _).bind fun t2 g2 => ?_
                split
                · split
                  · exact GE.ok _ _
                  · rename_i h2; have := (from_tkg g2).err h2; exact GE.at_ _ this.1 this.2.1 this.2.2
                · exact GE.six _ _
            · exact GE.six _ _
theorem chkF_place (s : ByteArray) : ∀ f p, (chkF s f p).2 = 0 ∨ ((chkF s f p).2 = 4 ∧ (chkF s f p).1 < s.size) := by
  intro f
  induction f with
  | zero => intro p; exact .inl rfl
  | succ f ih =>
    intro p
    unfold chkF
    split
    · rename_i hp
      split
      · exact .inr ⟨rfl, hp⟩
      · exact ih _
    · exact .inl rfl
/-- The faults of a read, by their places. -/
theorem read_err {s : ByteArray} {i : Nat} {er : Int} (h : psRead s false 64 = .bad i er) : (4096 < s.size ∧ er = 3) ∨ i < s.size ∨ er = 6 ∨ (er = 10 ∧ i = s.size) := by
  rw [read_eq] at h
  unfold rdWhole at h
  split at h
  · cases h; rename_i h4; exact .inl ⟨h4, rfl⟩
  · split at h
    · unfold rdX at h
      rcases Pr.bind_bad h with h | ⟨r, h1, h⟩
      · rcases Pr.bind_bad h with h | ⟨t, h1, h⟩
        · rcases ge_from _ _ _ _ _ _ h with x | x
          · exact .inr (.inl x.1)
          · exact .inr (.inr (.inl x))
        · rcases ge_run _ _ _ _ _ _ (from_tkg h1) _ _ h with x | x
          · exact .inr (.inl x.1)
          · exact .inr (.inr (.inl x))
      · rcases Pr.bind_bad h with h | ⟨t, h1, h⟩
        · rcases ge_from _ _ _ _ _ _ h with x | x
          · exact .inr (.inl x.1)
          · exact .inr (.inr (.inl x))
        · split at h
          · cases h; exact .inr (.inr (.inl rfl))
          · split at h
            · cases h; exact .inr (.inr (.inr ⟨rfl, rfl⟩))
            · split at h
              · cases h; exact .inr (.inr (.inr ⟨rfl, rfl⟩))
              · cases h
    · rename_i hc
      cases h
      rcases chkF_place s s.size 0 with x | x
      · exact absurd x hc
      · exact .inr (.inl x.2)
end Go.Proofs.YtaennaoakopgfaaDoor

set_option linter.unusedSimpArgs false
set_option linter.unusedVariables false
namespace Go.Proofs.YtaennaoakopgfaaDoor
open Go.Lib

theorem bind_eqN {α β : Type} {x y : Pr α} {f g : α → Pr β} (hx : x ≠ .out → y = x) (hf : ∀ a, x = .ok a → f a ≠ .out → g a = f a) (h : x.bind f ≠ .out) : y.bind g = x.bind f := by
  cases x with
  | ok a => rw [hx (fun c => by cases c)]; exact hf a rfl h
  | bad p e => rw [hx (fun c => by cases c)]; rfl
  | out => exact absurd rfl h
theorem rd_oneN (s : ByteArray) (pat : Bool) : ∀ (f : Nat) (q : RdQ) (t : Tk) (o : Nat), rdRun s pat f q t o ≠ .out → rdRun s pat (f + 1) q t o = rdRun s pat f q t o := by
  intro f
  induction f with
  | zero => intro q t o h; exact absurd rfl h
  | succ f ih =>
    intro q t o h
    cases q with
    | cond =>
      rw [rdRun] at h
      conv => lhs; rw [rdRun]
      conv => rhs; rw [rdRun]
      refine bind_eqN (ih _ _ _) (fun c _ h => bind_eqN (fun _ => rfl) (fun t1 _ h => ?_) h) h
      split at h
      · rename_i hw
        rw [if_pos hw, if_pos hw]
        refine bind_eqN (fun _ => rfl) (fun t2 _ h => bind_eqN (ih _ _ _) (fun a _ h => bind_eqN (fun _ => rfl) (fun t3 _ h => ?_) h) h) h
        split at h
        · rename_i hw
          rw [if_pos hw, if_pos hw]
          split at h
          · rename_i hw
            rw [if_pos hw, if_pos hw]
            exact bind_eqN (fun _ => rfl) (fun t4 _ h => bind_eqN (ih _ _ _) (fun b _ h => rfl) h) h
          · rename_i hw
            rw [if_neg hw, if_neg hw]
        · rename_i hw
          rw [if_neg hw, if_neg hw]
      · rename_i hw
        rw [if_neg hw, if_neg hw]
    | level lv =>
      rw [rdRun] at h
      conv => lhs; rw [rdRun]
      conv => rhs; rw [rdRun]
      split at h
      · rename_i hw
        rw [if_pos hw, if_pos hw]
        exact ih _ _ _ h
      · rename_i hw
        rw [if_neg hw, if_neg hw]
        exact bind_eqN (ih _ _ _) (fun a _ h => bind_eqN (fun _ => rfl) (fun t1 _ h => ih _ _ _ h) h) h
    | loop lv la =>
      rw [rdRun] at h
      conv => lhs; rw [rdRun]
      conv => rhs; rw [rdRun]
      split at h
      · rename_i hw
        rw [if_pos hw, if_pos hw]
        refine bind_eqN (fun _ => rfl) (fun t1 _ h => bind_eqN (ih _ _ _) (fun b _ h => ?_) h) h
        split at h
        · rename_i hw
          rw [if_pos hw, if_pos hw]
        · rename_i hw
          rw [if_neg hw, if_neg hw]
          exact bind_eqN (fun _ => rfl) (fun t2 _ h => ih _ _ _ h) h
      · rename_i hw
        rw [if_neg hw, if_neg hw]
    | un =>
      rw [rdRun] at h
      conv => lhs; rw [rdRun]
      conv => rhs; rw [rdRun]
      split at h
      · rename_i hw
        rw [if_pos hw, if_pos hw]
        split at h
        · rename_i hw
          rw [if_pos hw, if_pos hw]
          exact bind_eqN (fun _ => rfl) (fun t1 _ h => bind_eqN (ih _ _ _) (fun x _ h => rfl) h) h
        · rename_i hw
          rw [if_neg hw, if_neg hw]
      · rename_i hw
        rw [if_neg hw, if_neg hw]
        split at h
        · rename_i hw
          rw [if_pos hw, if_pos hw]
          exact bind_eqN (fun _ => rfl) (fun t1 _ h => bind_eqN (ih _ _ _) (fun x _ h => rfl) h) h
        · rename_i hw
          rw [if_neg hw, if_neg hw]
          exact ih _ _ _ h
    | atom =>
      rw [rdRun] at h
      conv => lhs; rw [rdRun]
      conv => rhs; rw [rdRun]
      split at h
      · rename_i hw
        rw [if_pos hw, if_pos hw]
      · rename_i hw
        rw [if_neg hw, if_neg hw]
        split at h
        · rename_i hw
          rw [if_pos hw, if_pos hw]
        · rename_i hw
          rw [if_neg hw, if_neg hw]
          split at h
          · rename_i hw
            rw [if_pos hw, if_pos hw]
          · rename_i hw
            rw [if_neg hw, if_neg hw]
            split at h
            · rename_i hw
              rw [if_pos hw, if_pos hw]
              split at h
              · rename_i hw
                rw [if_pos hw, if_pos hw]
              · rename_i hw
                rw [if_neg hw, if_neg hw]
                exact bind_eqN (fun _ => rfl) (fun t1 _ h => bind_eqN (ih _ _ _) (fun e _ h => rfl) h) h
            · rename_i hw
              rw [if_neg hw, if_neg hw]
theorem rd_moreB {s : ByteArray} {pat : Bool} {f g : Nat} {q : RdQ} {t : Tk} {o p : Nat} {er : Int} (h : rdRun s pat f q t o = .bad p er) (hfg : f ≤ g) : rdRun s pat g q t o = .bad p er := by
  obtain ⟨k, rfl⟩ : ∃ k, g = f + k := ⟨g - f, by omega⟩
  clear hfg
  induction k with
  | zero => exact h
  | succ k ih =>
    show rdRun s pat ((f + k) + 1) q t o = _
    rw [rd_oneN s pat _ _ _ _ (by rw [ih]; exact fun c => by cases c), ih]
/-- A fault in brackets, up to the whole rule. -/
theorem upB {S : ByteArray} {f : Nat} {t : Tk} {o p : Nat} {er : Int} (h40 : t.what = 40) (h : rdRun S false f .atom t o = .bad p er) : rdRun S false (f + 11) .cond t o = .bad p er := by
  have hu : rdRun S false (f + 1) .un t o = .bad p er := by
    rw [rdRun, h40, if_neg (by decide), if_neg (by decide), h]
  have h9 : rdRun S false (f + 1 + 1) (.level 9) t o = .bad p er := by
    rw [rdRun, if_pos (by decide), hu]
  have hl : ∀ k lv, lv + k = 9 → rdRun S false (f + 1 + 1 + k) (.level lv) t o = .bad p er := by
    intro k
    induction k with
    | zero => intro lv e; subst e; exact h9
    | succ k ih =>
      intro lv e
      show rdRun S false ((f + 1 + 1 + k) + 1) (.level lv) t o = _
      rw [rdRun, if_neg (by omega), ih (lv + 1) (by omega)]
      rfl
  show rdRun S false ((f + 1 + 1 + 8) + 1) .cond t o = _
  rw [rdRun, hl 8 1 rfl]
  rfl
theorem asc_dec {S : ByteArray} {e : Nat} {c : UInt8} (h : S.get! e = c) (hc : c.toNat < 128) : Utf8.decode S e = (c.toNat, 1) := by
  rw [decode_at, h]
  unfold decodeN
  rw [if_pos hc]
theorem skip_fuel (S : ByteArray) : ∀ (f g p : Nat), S.size ≤ p + f → S.size ≤ p + g → psSkip S f p = psSkip S g p := by
  intro f
  induction f with
  | zero =>
    intro g p h1 h2
    cases g with
    | zero => rfl
    | succ g => simp only [psSkip]; rw [if_neg (by omega)]
  | succ f ih =>
    intro g p h1 h2
    cases g with
    | zero => simp only [psSkip]; rw [if_neg (by omega)]
    | succ g =>
      simp only [psSkip]
      by_cases hp : p < S.size
      · rw [if_pos hp, if_pos hp]
        by_cases hk : kd (Utf8.decode S p).1 = 3
        · rw [if_pos hk, if_pos hk]
          have := width_pos S p hp
          exact ih g _ (by omega) (by omega)
        · rw [if_neg hk, if_neg hk]
      · rw [if_neg hp, if_neg hp]
theorem skp_blank {S : ByteArray} {p : Nat} (hp : p < S.size) (h : S.get! p = 32) : skp S p = skp S (p + 1) := by
  unfold skp
  obtain ⟨f, hf⟩ : ∃ f, S.size = f + 1 := ⟨S.size - 1, by omega⟩
  rw [hf]
  simp only [psSkip]
  rw [if_pos (by omega), asc_dec h (by decide), if_pos (show kd (((UInt8.toNat 32, 1) : Nat × Nat).1 : Int) = 3 from em_on.2.2.2.2.2)]
  show psSkip S f (p + 1) = psSkip S (f + 1) (p + 1)
  exact skip_fuel S f (f + 1) (p + 1) (by omega) (by omega)
theorem Mid.ckB {S s : ByteArray} {d : Nat} (h : Mid S s d) : ∀ f g p, p ≤ s.size → S.size ≤ d + p + g → (chkF s f p).2 ≠ 0 → chkF S g (d + p) = (d + (chkF s f p).1, (chkF s f p).2) := by
  have hz := h.size
  intro f
  induction f with
  | zero => intro g p _ _ hk; exact absurd rfl hk
  | succ f ih =>
    intro g p h1 h2 hk
    by_cases hp : p < s.size
    · obtain ⟨g, rfl⟩ : ∃ k, g = k + 1 := ⟨g - 1, by omega⟩
      cases hb : bad s p
      · have hB : bad S (d + p) = false := by unfold bad at hb ⊢; rw [h.dec hp]; exact hb
        rw [chkF_good s f p hp hb] at hk ⊢
        have hw := width_pos s p hp
        have hw2 := dec_le s p hp
        rw [chkF_good S g (d + p) (by omega) hB, h.dec hp, Nat.add_assoc]
        exact ih g _ hw2 (by omega) hk
      · have hB : bad S (d + p) = true := by unfold bad at hb ⊢; rw [h.dec hp]; exact hb
        rw [chkF_bad s f p hp hb, chkF_bad S g (d + p) (by omega) hB]
    · rw [chkF_end s _ p hp] at hk; exact absurd rfl hk
end Go.Proofs.YtaennaoakopgfaaDoor

set_option linter.unusedSimpArgs false
set_option linter.unusedVariables false
namespace Go.Proofs.YtaennaoakopgfaaDoor
open Go.Lib

theorem CkA.asc {S : ByteArray} {p : Nat} {c : UInt8} (hp : p < S.size) (h : S.get! p = c) (hc : c.toNat < 128) (hn : CkA S (p + 1)) : CkA S p := fun g => by
  cases g with
  | zero => rfl
  | succ g =>
    have hb : bad S p = false := by
      unfold bad
      rw [asc_dec h hc]
      have : (c.toNat == 65533) = false := by rw [beq_eq_false_iff_ne]; omega
      simp only [this, Bool.false_and]
    rw [chkF_good S g p hp hb, asc_dec h hc]
    exact hn g
/-- '( ' .. ' )' around s. -/
structure Lay (S s : ByteArray) : Prop where
  size : S.size = s.size + 4
  b0 : S.get! 0 = 40
  b1 : S.get! 1 = 32
  get : ∀ i, i < s.size → S.get! (2 + i) = s.get! i
  b2 : S.get! (2 + s.size) = 32
  b3 : S.get! (2 + s.size + 1) = 41
theorem Lay.inn {S s : ByteArray} (h : Lay S s) : Inn S s 2 (2 + s.size + 1) := by
  have hz := h.size
  refine ⟨⟨by omega, h.get, .inr h.b2⟩, ?_, by omega, h.b3⟩
  rw [skp_blank (by omega) h.b2]
  exact skp_jsg (by omega) h.b3 (by unfold jsg; simp)
theorem Lay.tok {S s : ByteArray} (h : Lay S s) : skp S 0 = 0 ∧ psFrom S false mx63 0 = .ok ⟨40, 0, 1, 0, 0⟩ ∧ skp S 1 = pmv s 2 (2 + s.size + 1) (skp s 0) := by
  have hz := h.size
  refine ⟨skp_jsg (by omega) h.b0 (by unfold jsg; simp), sign_at S false mx63 0 40 (by omega) h.b0 (by unfold jsg; simp), ?_⟩
  rw [skp_blank (by omega) h.b1]
  exact h.inn.sk (Nat.zero_le _)
theorem Lay.ck {S s : ByteArray} (h : Lay S s) (hc : (chk s).2 = 0) : CkA S 0 := by
  have hz := h.size
  refine CkA.asc (by omega) h.b0 (by decide) (CkA.asc (by omega) h.b1 (by decide) ?_)
  refine h.inn.mid.ck ?_ s.size 0 (Nat.zero_le _) (by omega) hc
  refine CkA.asc (by omega) h.b2 (by decide) (CkA.asc (by omega) h.b3 (by decide) ?_)
  have e : 2 + s.size + 1 + 1 = S.size := by omega
  rw [e]; exact CkA.end_ S
theorem Lay.whole {S s : ByteArray} (h : Lay S s) (h4 : S.size ≤ 4096) (hc : CkA S 0) {f p : Nat} {er : Int} (hf : f + 11 ≤ psFuel S) (ha : rdRun S false f .atom ⟨40, 0, 1, 0, 0⟩ 0 = .bad p er) : psRead S false 64 = .bad p er := by
  obtain ⟨s0, f0, _⟩ := h.tok
  rw [read_eq]
  unfold rdWhole rdX
  rw [if_neg (by omega), if_pos (show (chk S).2 = 0 from hc S.size), s0, f0]
  simp only [Pr.bind]
  rw [rd_moreB (upB rfl ha) hf]
theorem atomB {S : ByteArray} {f p : Nat} {er : Int} (h : (psFrom S false mx63 (skp S 1)) = .bad p er) : rdRun S false (f + 1) .atom ⟨40, 0, 1, 0, 0⟩ 0 = .bad p er := by
  rw [rdRun, if_neg (by decide), if_neg (by decide), if_neg (by decide), if_pos rfl, if_neg (by decide)]
  simp only
  rw [h]
  rfl
theorem atomC {S : ByteArray} {f p : Nat} {er : Int} {t : Tk} (ht : (psFrom S false mx63 (skp S 1)) = .ok t) (h : rdRun S false f .cond t 1 = .bad p er) : rdRun S false (f + 1) .atom ⟨40, 0, 1, 0, 0⟩ 0 = .bad p er := by
  rw [rdRun, if_neg (by decide), if_neg (by decide), if_neg (by decide), if_pos rfl, if_neg (by decide)]
  simp only
  rw [ht]
  simp only [Pr.bind]
  rw [h]
theorem atomD {S : ByteArray} {f p : Nat} {er : Int} {t : Tk} {r : List Nd × Nat} (ht : (psFrom S false mx63 (skp S 1)) = .ok t) (h : rdRun S false f .cond t 1 = .ok r) (h2 : psFrom S false mx63 r.2 = .bad p er) : rdRun S false (f + 1) .atom ⟨40, 0, 1, 0, 0⟩ 0 = .bad p er := by
  rw [rdRun, if_neg (by decide), if_neg (by decide), if_neg (by decide), if_pos rfl, if_neg (by decide)]
  simp only
  rw [ht]
  simp only [Pr.bind]
  rw [h]
  simp only [Pr.bind]
  rw [h2]
theorem Lay.good {S s : ByteArray} (h : Lay S s) (h4 : S.size ≤ 4096) (hN : ∀ p, p ≤ s.size → opn s p + ((1 : Nat) : Int) ≤ 100) (hc : (chk s).2 = 0) {t : Tk} {a : List Nd} (ht : psFrom s false mx63 (skp s 0) = .ok t) (hr : rdRun s false (psFuel s) .cond t 0 = .ok (a, s.size)) :
    psRead S false 64 = if 64 < a.length then .bad S.size 10 else .ok a := by
  have hz := h.size
  obtain ⟨s0, f0, s1⟩ := h.tok
  have hI := h.inn
  have hle := (skp_in (s := s) (Nat.zero_le _)).2
  obtain ⟨t1, ht1, hR⟩ := hI.fr hle ht
  have hlv : RdQ.cond.lvl := ⟨(fun _ e => by cases e), (fun _ _ e => by cases e)⟩
  have ho : opn s (skp s 0) = ((0 : Nat) : Int) := by rw [opn_skp]; rfl
  obtain ⟨_, hin⟩ := run_in hI false 1 hN _ .cond _ t t1 0 _ hlv (from_opn hle ht) hR ho hr
  have e0 : pmv s 2 (2 + s.size + 1) s.size = 2 + s.size + 1 := by unfold pmv; rw [if_neg (Nat.lt_irrefl _)]
  simp only [e0] at hin
  have h9 := (brackU (t := ⟨40, 0, 1, 0, 0⟩) (o := 0) rfl (by decide) (by show psFrom S false mx63 (skp S 1) = _; rw [s1]; exact ht1) hin hI.lt hI.br).2
  have e1 : 2 + s.size + 1 + 1 = S.size := by omega
  rw [e1, skp_all] at h9
  have hcd := condB h9 (end_at S false mx63) (Nat.le_refl _) (by omega) (by omega) (op_end S).1 (op_end S).2
  exact whole_of h4 (h.ck hc) (by rw [s0]; exact f0) (by unfold psFuel; omega) hcd
theorem Lay.chkB {S s : ByteArray} (h : Lay S s) (h4 : S.size ≤ 4096) (hc : (chk s).2 ≠ 0) : psRead S false 64 = .bad (2 + (chk s).1) (chk s).2 := by
  have hz := h.size
  have hg : ∀ (p : Nat) (c : UInt8), S.get! p = c → c.toNat < 128 → bad S p = false := fun p c hp hl => by
    unfold bad
    rw [asc_dec hp hl]
    have : (c.toNat == 65533) = false := by rw [beq_eq_false_iff_ne]; omega
    simp only [this, Bool.false_and]
  have e : chk S = (2 + (chk s).1, (chk s).2) := by
    show chkF S S.size 0 = _
    rw [show S.size = (s.size + 2) + 1 + 1 by omega, chkF_good S _ 0 (by omega) (hg 0 40 h.b0 (by decide)), asc_dec h.b0 (by decide)]
    show chkF S ((s.size + 2) + 1) 1 = _
    rw [chkF_good S _ 1 (by omega) (hg 1 32 h.b1 (by decide)), asc_dec h.b1 (by decide)]
    exact h.inn.mid.ckB s.size (s.size + 2) 0 (Nat.zero_le _) (by omega) hc
  rw [read_eq]
  unfold rdWhole
  rw [if_neg (by omega), e, if_neg hc]
/-- One layer. -/
theorem layer {S s : ByteArray} (h : Lay S s) (h4 : S.size ≤ 4096) (hN : ∀ p, p ≤ s.size → opn s p + ((1 : Nat) : Int) ≤ 100) :
    (∀ a, psRead s false 64 = .ok a → psRead S false 64 = .ok a) ∧ (psRead s false 64 = .bad s.size 10 → psRead S false 64 = .bad S.size 10) ∧ (∀ i er, psRead s false 64 = .bad i er → i < s.size → er ≠ 6 → psRead S false 64 = .bad (2 + i) er) := by
  have hz := h.size
  have hI := h.inn
  obtain ⟨s0, f0, s1⟩ := h.tok
  have hle := (skp_in (s := s) (Nat.zero_le _)).2
  have hlv : RdQ.cond.lvl := ⟨(fun _ e => by cases e), (fun _ _ e => by cases e)⟩
  have ho : opn s (skp s 0) = ((0 : Nat) : Int) := by rw [opn_skp]; rfl
  have hfu : psFuel s + 1 + 11 ≤ psFuel S := by unfold psFuel; omega
  refine ⟨fun a ha => ?_, fun hb => ?_, fun i er hb hi h6 => ?_⟩
  · obtain ⟨_, hc, hl, t, ht, hr⟩ := whole_ok ha
    rw [h.good h4 hN hc ht hr, if_neg (by omega)]
  · rw [read_eq] at hb
    unfold rdWhole at hb
    rw [if_neg (by omega)] at hb
    split at hb
    · rename_i hc
      rcases Pr.bind_bad hb with hb | ⟨r, h1, hb⟩
      · unfold rdX at hb
        rcases Pr.bind_bad hb with hb | ⟨t, h1, hb⟩
        · rcases ge_from _ _ _ _ _ _ hb with x | x
          · exact absurd x.1 (Nat.lt_irrefl _)
          · cases x
        · rcases ge_run _ _ _ _ _ _ (from_tkg h1) _ _ hb with x | x
          · exact absurd x.1 (Nat.lt_irrefl _)
          · cases x
      · unfold rdX at h1
        obtain ⟨t, ht, h1⟩ := Pr.bind_ok h1
        obtain ⟨_, _, h3⟩ := rd_len s false _ .cond _ t 0 r hlv (from_at hle ht) h1
        rcases Pr.bind_bad hb with hb | ⟨t2, h2, hb⟩
        · rcases ge_from _ _ _ _ _ _ hb with x | x
          · exact absurd x.1 (Nat.lt_irrefl _)
          · cases x
        · split at hb
          · injection hb with _ hb; exact absurd hb (by decide)
          · rename_i hlt
            have e : r.2 = s.size := by omega
            have h1' : rdRun s false (psFuel s) .cond t 0 = .ok (r.1, s.size) := by rw [← e]; exact h1
            split at hb
            · rename_i hm
              rw [h.good h4 hN hc ht h1', if_pos hm]
            · rw [if_neg (fun x => by simp at x)] at hb
              cases hb
    · rename_i hc
      rcases chkF_place s s.size 0 with x | x
      · exact absurd x hc
      · injection hb with hb _
        have : (chk s).1 < s.size := x.2
        omega
  · rw [read_eq] at hb
    unfold rdWhole at hb
    rw [if_neg (by omega)] at hb
    split at hb
    · rename_i hc
      have hck := h.ck hc
      rcases Pr.bind_bad hb with hb | ⟨r, h1, hb⟩
      · unfold rdX at hb
        rcases Pr.bind_bad hb with hb | ⟨t, ht, hb⟩
        · have := hI.frB hle hb
          rw [← s1] at this
          exact h.whole h4 hck hfu (atomB (f := psFuel s) this)
        · obtain ⟨t1, ht1, hR⟩ := hI.fr hle ht
          have := run_bad hI false 1 hN _ .cond _ t t1 0 i er hlv (from_opn hle ht) hR ho hi hb
          rw [← s1] at ht1
          exact h.whole h4 hck hfu (atomC ht1 this)
      · unfold rdX at h1
        obtain ⟨t, ht, h1⟩ := Pr.bind_ok h1
        obtain ⟨_, _, h3⟩ := rd_len s false _ .cond _ t 0 r hlv (from_at hle ht) h1
        rcases Pr.bind_bad hb with hb | ⟨t2, h2, hb⟩
        · obtain ⟨t1, ht1, hR⟩ := hI.fr hle ht
          obtain ⟨_, hin⟩ := run_in hI false 1 hN _ .cond _ t t1 0 _ hlv (from_opn hle ht) hR ho h1
          have := hI.frB h3 hb
          rw [← s1] at ht1
          exact h.whole h4 hck hfu (atomD ht1 hin this)
        · split at hb
          · cases hb; exact absurd rfl h6
          · split at hb
            · cases hb; exact absurd hi (Nat.lt_irrefl _)
            · rw [if_neg (fun x => by simp at x)] at hb
              cases hb
    · rename_i hc
      cases hb
      exact h.chkB h4 hc
end Go.Proofs.YtaennaoakopgfaaDoor

set_option linter.unusedSimpArgs false
set_option linter.unusedVariables false
namespace Go.Proofs.YtaennaoakopgfaaDoor
open Go.Lib

def C1 : ByteArray := ⟨#[40, 32]⟩
def C2 : ByteArray := ⟨#[32, 41]⟩
theorem C1_z : C1.size = 2 := rfl
theorem C2_z : C2.size = 2 := rfl
def lay (s : ByteArray) : Nat → ByteArray
  | 0 => s
  | k + 1 => C1 ++ lay s k ++ C2
theorem lay_mk (s : ByteArray) : Lay (C1 ++ s ++ C2) s := by
  have z0 := C1_z
  have z1 := C2_z
  have z2 := apz C1 s
  have z3 := apz (C1 ++ s) C2
  refine ⟨by omega, ?_, ?_, fun i hi => ?_, ?_, ?_⟩
  · rw [gA _ _ _ (by omega), gA _ _ _ (by omega)]; rfl
  · rw [gA _ _ _ (by omega), gA _ _ _ (by omega)]; rfl
  · rw [gA _ _ _ (by omega), gB _ _ _ (by omega) (by omega)]
    congr 1; omega
  · rw [gB _ _ _ (by omega) (by omega), show 2 + s.size - (C1 ++ s).size = 0 by omega]; rfl
  · rw [gB _ _ _ (by omega) (by omega), show 2 + s.size + 1 - (C1 ++ s).size = 1 by omega]; rfl
theorem lay_size (s : ByteArray) : ∀ k, (lay s k).size = s.size + 4 * k := by
  intro k
  induction k with
  | zero => rfl
  | succ k ih => have := (lay_mk (lay s k)).size; show (C1 ++ lay s k ++ C2).size = _; omega
theorem Lay.opn_in {S s : ByteArray} (h : Lay S s) : ∀ i, i ≤ s.size → opn S (2 + i) = 1 + opn s i := by
  intro i
  induction i with
  | zero =>
    intro _
    show opn S 0 + brk1 (S.get! 0) + brk1 (S.get! 1) = _
    rw [h.b0, h.b1]; rfl
  | succ i ih =>
    intro hi
    show opn S (2 + i) + brk1 (S.get! (2 + i)) = 1 + (opn s i + brk1 (s.get! i))
    rw [ih (by omega), h.get i (by omega)]; omega
theorem Lay.opn_le {S s : ByteArray} (h : Lay S s) {m : Nat} (hm : ∀ p, p ≤ s.size → opn s p ≤ m) : ∀ p, p ≤ S.size → opn S p ≤ ((m + 1 : Nat) : Int) := by
  have hz := h.size
  intro p hp
  have hend := h.opn_in s.size (Nat.le_refl _)
  have hms := hm s.size (Nat.le_refl _)
  have e3 : opn S (2 + s.size + 1) = opn S (2 + s.size) := by
    show opn S (2 + s.size) + brk1 (S.get! (2 + s.size)) = _
    rw [h.b2, show brk1 32 = 0 from rfl]; omega
  have e4 : opn S (2 + s.size + 1 + 1) = opn S (2 + s.size + 1) - 1 := by
    show opn S (2 + s.size + 1) + brk1 (S.get! (2 + s.size + 1)) = _
    rw [h.b3, show brk1 41 = -1 from rfl]; omega
  have c : p = 0 ∨ p = 1 ∨ (2 ≤ p ∧ p - 2 ≤ s.size) ∨ p = 2 + s.size + 1 ∨ p = 2 + s.size + 1 + 1 := by omega
  rcases c with rfl | rfl | ⟨c1, c2⟩ | rfl | rfl
  · show (0 : Int) ≤ _; omega
  · show (0 : Int) + brk1 (S.get! 0) ≤ _
    rw [h.b0, show brk1 40 = 1 from rfl]; omega
  · have := h.opn_in (p - 2) c2
    have h2 := hm (p - 2) c2
    rw [show 2 + (p - 2) = p by omega] at this
    omega
  · omega
  · omega
theorem layers {s : ByteArray} {m : Nat} (hm : ∀ p, p ≤ s.size → opn s p ≤ m) : ∀ k, (lay s k).size ≤ 4096 → m + k ≤ 100 →
    (∀ p, p ≤ (lay s k).size → opn (lay s k) p ≤ ((m + k : Nat) : Int)) ∧ (∀ a, psRead s false 64 = .ok a → psRead (lay s k) false 64 = .ok a) ∧ (psRead s false 64 = .bad s.size 10 → psRead (lay s k) false 64 = .bad (lay s k).size 10) ∧ (∀ i er, psRead s false 64 = .bad i er → i < s.size → er ≠ 6 → psRead (lay s k) false 64 = .bad (i + 2 * k) er) := by
  intro k
  induction k with
  | zero => intro _ _; exact ⟨hm, fun a h => h, fun h => h, fun i er h _ _ => h⟩
  | succ k ih =>
    intro h4 hk
    have hL := lay_mk (lay s k)
    have hz := hL.size
    have hz2 := lay_size s k
    change (C1 ++ lay s k ++ C2).size ≤ 4096 at h4
    obtain ⟨i0, i1, i2, i3⟩ := ih (by omega) (by omega)
    obtain ⟨l1, l2, l3⟩ := layer hL h4 fun p hp => by have := i0 p hp; omega
    refine ⟨fun p hp => by have := hL.opn_le i0 p hp; exact this, fun a h => l1 a (i1 a h), fun h => l2 (i2 h), fun i er h hi h6 => ?_⟩
    have := l3 _ _ (i3 i er h hi h6) (by omega) h6
    rw [show i + 2 * (k + 1) = 2 + (i + 2 * k) by omega]
    exact this
/-- What the law asks of the two answers. -/
structure BF (xl : List Nd) (xp : Nat) (xe : Int) (yl : List Nd) (yp : Nat) (ye : Int) (sz zz k : Nat) : Prop where
  good : xe = 0 → ye = 0 ∧ yp = 0 ∧ yl = xl
  utf : xe = 4 → xp < sz ∧ ye = 4 ∧ yp = xp + 2 * k
  large : xe = 10 → xp = sz → ye = 10 ∧ yp = zz
  none : xe ≠ 0 → xl = []
  same : k = 0 → ye = xe ∧ yp = xp
  rest : xe ≠ 0 → ¬ (xe = 10 ∧ xp = sz) → ye ≠ 0 ∨ xe = 6
theorem bf {s : ByteArray} {m k : Nat} (hm : ∀ p, p ≤ s.size → opn s p ≤ m) (h4 : (lay s k).size ≤ 4096) (hk : m + k ≤ 100) :
    BF (pl3 (psRead s false 64)).1 (pl3 (psRead s false 64)).2.1 (pl3 (psRead s false 64)).2.2 (pl3 (psRead (lay s k) false 64)).1 (pl3 (psRead (lay s k) false 64)).2.1 (pl3 (psRead (lay s k) false 64)).2.2 s.size (lay s k).size k := by
  have hz := lay_size s k
  obtain ⟨_, i1, i2, i3⟩ := layers hm k h4 hk
  have nz := nz_read s false 64
  have no := psRead_in s false 64
  have er0 := @read_err s
  have same : k = 0 → psRead (lay s k) false 64 = psRead s false 64 := fun e => by subst e; rfl
  cases hX : psRead s false 64 with
  | out => exact absurd hX no
  | ok a =>
    rw [i1 a hX]
    exact ⟨fun _ => ⟨rfl, rfl, rfl⟩, (fun c => by cases c), (fun c => by cases c), fun c => absurd rfl c, fun _ => ⟨rfl, rfl⟩, fun c => absurd rfl c⟩
  | bad i er =>
    have hn : er ≠ 0 := fun c => nz i (by rw [hX, c])
    have hr := er0 hX
    have hs := same
    rw [hX] at hs
    refine ⟨fun c => absurd c hn, fun c => ?_, fun c1 c2 => ?_, fun _ => rfl, (fun c => by rw [hs c]; exact ⟨rfl, rfl⟩), fun _ c => ?_⟩
    · have c : er = 4 := c
      subst c
      have hi : i < s.size := by
        rcases hr with x | x | x | x
        · exact absurd x.2 (by decide)
        · exact x
        · exact absurd x (by decide)
        · exact absurd x.1 (by decide)
      rw [i3 i 4 hX hi (by decide)]
      exact ⟨hi, rfl, rfl⟩
    · have c1 : er = 10 := c1
      have c2 : i = s.size := c2
      subst c1; subst c2
      rw [i2 hX]
      exact ⟨rfl, rfl⟩
    · have c : ¬ (er = 10 ∧ i = s.size) := c
      show _ ∨ er = 6
      by_cases h6 : er = 6
      · exact .inr h6
      · have hi : i < s.size := by
          rcases hr with x | x | x | x
          · omega
          · exact x
          · exact absurd x h6
          · exact absurd x c
        rw [i3 i er hX hi h6]
        exact .inl hn
end Go.Proofs.YtaennaoakopgfaaDoor

set_option linter.unusedSimpArgs false
set_option linter.unusedVariables false
namespace Go.Proofs.YtaennaoakopgfaaDoor
open Go.RowKit Go.Lib Go.Sort

set_option maxRecDepth 20000 in
set_option maxHeartbeats 8000000 in
theorem nest_le (w : World) (s : ByteArray) (hz : s.size ≤ 5000) :
    Calls Tryd.prog 30 #[.string s] w fun e w' => ∃ m : Nat, e = .returned (.int .i64 m) ∧ (∀ p, p ≤ s.size → opn s p ≤ m) ∧ m ≤ s.size ∧ Below w.heap.size w w' := by
  go_enter Tryd.func30, Tryd.ntmps30
  go_wp2_with fail
  go_loopw [3, 4, 5] (fun n v i wr => ∃ (k m : Nat), k ≤ s.size ∧ i = .int .i64 k ∧ n = .int .i64 (opn s k) ∧ v = .int .i64 m ∧ m ≤ k ∧ Hid (∀ p, p ≤ k → opn s p ≤ m) ∧ Below w.heap.size w wr) (fun _ _ i _ => s.size - (RowKit.intOf i).toNat)
  case atStart => exact ⟨0, 0, by omega, rfl, rfl, rfl, by omega, fun p hp => by have : p = 0 := by omega
                                                                                 subst this; exact Int.le_refl _, Below.refl _ _⟩
  case round =>
    obtain ⟨k, m, hk, rfl, rfl, rfl, hmk, hm, hbq⟩ := hrel
    have HB : Hid (Below w.heap.size w wr) := hbq
    have hab := opn_abs s k
    obtain ⟨c, hc⟩ : ∃ c, opn s k = c := ⟨_, rfl⟩
    have HC : Hid (opn s k = c) := hc
    rw [hc] at hab ⊢
    clear hbq hc
    by_cases hkl : k < s.size
    · have hg := Utf8W.get!_of_lt s k hkl
      have HE : Hid (opn s (k + 1) = c + brR ((s[k].toNat : Nat) : Int)) := by
        show opn s k + brk1 (s.get! k) = _
        rw [HC.out, hg, brk1_lo]
      have HM : Hid (∀ m' : Nat, m ≤ m' → opn s (k + 1) ≤ m' → ∀ p, p ≤ k + 1 → opn s p ≤ m') := fun m' h1 h2 p hp => by
        by_cases e : p = k + 1
        · subst e; exact h2
        · have := hm.out p (by omega); omega
      clear hg
      go_wp2_with fail
      · rename_i h40
        have e40 : ((s[k].toNat : Nat) : Int) = 40 := by simpa using h40
        have hE := HE.out
        rw [e40, show brR 40 = 1 from rfl] at hE
        refine ⟨⟨k + 1, (max (m : Int) (c + 1)).toNat, by omega, by go_num, by rw [hE], ?_, by omega, HM.out _ (by omega) (by omega), HB.out⟩, by simp [RowKit.intOf]; omega⟩
        rw [Int.toNat_of_nonneg (by omega)]
      · rename_i h40 h41
        have e41 : ((s[k].toNat : Nat) : Int) = 41 := by simpa using h41
        have hE := HE.out
        rw [e41, show brR 41 = -1 from rfl] at hE
        have hle := hm.out k (Nat.le_refl _)
        rw [HC.out] at hle
        exact ⟨⟨k + 1, m, by omega, by go_num, by rw [hE]; rfl, rfl, by omega, HM.out _ (by omega) (by omega), HB.out⟩, by simp [RowKit.intOf]; omega⟩
      · rename_i h40 h41
        have e40 : ¬ ((s[k].toNat : Nat) : Int) = 40 := by simpa using h40
        have e41 : ¬ ((s[k].toNat : Nat) : Int) = 41 := by simpa using h41
        have hE := HE.out
        unfold brR at hE
        rw [if_neg e40, if_neg e41] at hE
        have hle := hm.out k (Nat.le_refl _)
        rw [HC.out] at hle
        exact ⟨⟨k + 1, m, by omega, by go_num, by rw [hE, Int.add_zero], rfl, by omega, HM.out _ (by omega) (by omega), HB.out⟩, by simp [RowKit.intOf]; omega⟩
    · go_wp2_with fail
      go_ret
      exact ⟨m, rfl, fun p hp => hm.out p (by omega), by omega, HB.out⟩
end Go.Proofs.YtaennaoakopgfaaDoor
