/-
  JnEq, RdUp, RdLen.
-/
import Derived.Test.YtaennaoakopgfaaDoorMGPs
import Derived.Test.YtaennaoakopgfaaDoorMExMakW
set_option linter.unusedSimpArgs false
set_option linter.unusedVariables false
namespace Go.Proofs.YtaennaoakopgfaaDoor
open Go.RowKit Go.Lib

def KidsUp (l : List Nd) : Prop := ∀ x ∈ l, ∀ k ∈ x.kids, 0 ≤ k
theorem mv_sh {d : Nat} {x : Nd} (h : ∀ k ∈ x.kids, 0 ≤ k) : mvN 0 d x = shN d x := by
  unfold mvN shN
  congr 1
  refine List.map_congr_left fun k hk => ?_
  have := h k hk
  unfold mvK
  split <;> omega
theorem mv_shs {d : Nat} {l : List Nd} (h : KidsUp l) : l.map (mvN 0 d) = l.map (shN d) := List.map_congr_left fun x hx => mv_sh (h x hx)
theorem join1 (op : Int) {a : List Nd} (ka : KidsUp a) (na : a ≠ []) : joinL op 0 ⟨#[]⟩ [a] = jn1 op a := by
  have := List.length_pos_iff.2 na
  have e0 : a.map (mvN 0 0) = a := by
    have := mv_shs (d := 0) ka
    rw [shN_zero] at this
    exact this
  unfold joinL accS jn1
  simp [e0]
  omega
theorem join2 (op : Int) {a b : List Nd} (ka : KidsUp a) (kb : KidsUp b) (na : a ≠ []) (nb : b ≠ []) : joinL op 0 ⟨#[]⟩ [a, b] = jn2 op a b := by
  have := List.length_pos_iff.2 na
  have := List.length_pos_iff.2 nb
  have e0 : a.map (mvN 0 0) = a := by
    have := mv_shs (d := 0) ka
    rw [shN_zero] at this
    exact this
  have e1 := mv_shs (d := a.length) kb
  unfold joinL accS jn2
  simp [e0, e1]
  omega
theorem join3 (op : Int) {a b c : List Nd} (ka : KidsUp a) (kb : KidsUp b) (kc : KidsUp c) (na : a ≠ []) (nb : b ≠ []) (nc : c ≠ []) : joinL op 0 ⟨#[]⟩ [a, b, c] = jn3 op a b c := by
  have := List.length_pos_iff.2 na
  have := List.length_pos_iff.2 nb
  have := List.length_pos_iff.2 nc
  have e0 : a.map (mvN 0 0) = a := by
    have := mv_shs (d := 0) ka
    rw [shN_zero] at this
    exact this
  have e1 := mv_shs (d := a.length) kb
  have e2 := mv_shs (d := a.length + b.length) kc
  rw [Int.natCast_add] at e2
  unfold joinL accS jn3
  simp [e0, e1, e2]
  omega
end Go.Proofs.YtaennaoakopgfaaDoor

set_option linter.unusedSimpArgs false
set_option linter.unusedVariables false
namespace Go.Proofs.YtaennaoakopgfaaDoor
open Go.Lib

structure KidsIn (l : List Nd) : Prop where
  ne : l ≠ []
  few : ∀ x ∈ l, x.kids.length ≤ 3
  kin : ∀ x ∈ l, ∀ k ∈ x.kids, 0 ≤ k ∧ k < l.length
theorem KidsIn.up {l : List Nd} (h : KidsIn l) : KidsUp l := fun x hx k hk => (h.kin x hx k hk).1
theorem one_up (op n : Int) (nm : ByteArray) : KidsIn [⟨op, n, nm, []⟩] := ⟨by simp, fun x hx => by rw [List.mem_singleton.1 hx]; simp, fun x hx k hk => by rw [List.mem_singleton.1 hx] at hk; cases hk⟩
theorem sh_in {l : List Nd} (h : KidsIn l) (d N : Nat) (hN : d + l.length ≤ N) : ∀ x ∈ l.map (shN d), x.kids.length ≤ 3 ∧ ∀ k ∈ x.kids, 0 ≤ k ∧ k < (N : Int) := by
  intro x hx
  obtain ⟨y, hy, rfl⟩ := List.mem_map.1 hx
  refine ⟨by unfold shN; simpa using h.few y hy, fun k hk => ?_⟩
  unfold shN at hk
  obtain ⟨z, hz, rfl⟩ := List.mem_map.1 hk
  have := h.kin y hy z hz
  omega
theorem KidsIn.wide {l : List Nd} (h : KidsIn l) (N : Nat) (hN : l.length ≤ N) : ∀ x ∈ l, x.kids.length ≤ 3 ∧ ∀ k ∈ x.kids, 0 ≤ k ∧ k < (N : Int) := fun x hx => ⟨h.few x hx, fun k hk => by have := h.kin x hx k hk; omega⟩
theorem in_of {l : List Nd} (hne : l ≠ []) (h : ∀ x ∈ l, x.kids.length ≤ 3 ∧ ∀ k ∈ x.kids, 0 ≤ k ∧ k < (l.length : Int)) : KidsIn l := ⟨hne, fun x hx => (h x hx).1, fun x hx => (h x hx).2⟩
theorem jn1_up (op : Int) {a : List Nd} (ha : KidsIn a) : KidsIn (jn1 op a) := by
  have := List.length_pos_iff.2 ha.ne
  have hl : (jn1 op a).length = a.length + 1 := by simp [jn1]
  refine in_of (jn1_ne _ _) fun x hx => ?_
  rw [hl]
  unfold jn1 at hx
  rcases List.mem_append.1 hx with hx | hx
  · exact ha.wide (a.length + 1) (by omega) x hx
  · rw [List.mem_singleton.1 hx]
    refine ⟨by simp, fun k hk => ?_⟩
    simp at hk
    omega
theorem jn2_up (op : Int) {a b : List Nd} (ha : KidsIn a) (hb : KidsIn b) : KidsIn (jn2 op a b) := by
  have := List.length_pos_iff.2 ha.ne
  have := List.length_pos_iff.2 hb.ne
  have hl : (jn2 op a b).length = a.length + b.length + 1 := by simp [jn2]; omega
  refine in_of (jn2_ne _ _ _) fun x hx => ?_
  rw [hl]
  unfold jn2 at hx
  rcases List.mem_append.1 hx with hx | hx
  · rcases List.mem_append.1 hx with hx | hx
    · exact ha.wide _ (by omega) x hx
    · exact sh_in hb a.length _ (by omega) x hx
  · rw [List.mem_singleton.1 hx]
    refine ⟨by simp, fun k hk => ?_⟩
    simp at hk
    omega
theorem jn3_up (op : Int) {a b c : List Nd} (ha : KidsIn a) (hb : KidsIn b) (hc : KidsIn c) : KidsIn (jn3 op a b c) := by
  have := List.length_pos_iff.2 ha.ne
  have := List.length_pos_iff.2 hb.ne
  have := List.length_pos_iff.2 hc.ne
  have hl : (jn3 op a b c).length = a.length + b.length + c.length + 1 := by simp [jn3]; omega
  refine in_of (jn3_ne _ _ _ _) fun x hx => ?_
  rw [hl]
  unfold jn3 at hx
  rcases List.mem_append.1 hx with hx | hx
  · rcases List.mem_append.1 hx with hx | hx
    · rcases List.mem_append.1 hx with hx | hx
      · exact ha.wide _ (by omega) x hx
      · exact sh_in hb a.length _ (by omega) x hx
    · exact sh_in hc (a.length + b.length) _ (by omega) x hx
  · rw [List.mem_singleton.1 hx]
    refine ⟨by simp, fun k hk => ?_⟩
    simp at hk
    omega
def RdQ.up (q : RdQ) : Prop := ∀ lv la, q = .loop lv la → KidsIn la
theorem rdLit_up {s : ByteArray} {v : Int} {t : Tk} {r : List Nd × Nat} (h : rdLit s v t = .ok r) : KidsIn r.1 := by
  unfold rdLit at h
  split at h
  · split at h
    · cases h; exact one_up _ _ _
    · cases h
  · cases h
theorem rdNamed_up {s : ByteArray} {v : Int} {t : Tk} {r : List Nd × Nat} (h : rdNamed s v t = .ok r) : KidsIn r.1 := by
  unfold rdNamed at h
  split at h
  · split at h
    · cases h; exact one_up _ _ _
    · cases h
  · cases h
theorem rd_up (s : ByteArray) (pat : Bool) : ∀ (f : Nat) (q : RdQ) (t : Tk) (o : Nat) (r : List Nd × Nat), q.up → rdRun s pat f q t o = .ok r → KidsIn r.1 := by
  intro f
  induction f with
  | zero => intro q t o r _ h; cases h
  | succ f ih =>
    intro q t o r hq h
    cases q with
    | cond =>
      obtain ⟨c, h1, h⟩ := Pr.bind_ok h
      obtain ⟨t1, _, h⟩ := Pr.bind_ok h
      split at h
      · obtain ⟨t2, _, h⟩ := Pr.bind_ok h
        obtain ⟨a, ha, h⟩ := Pr.bind_ok h
        obtain ⟨t3, _, h⟩ := Pr.bind_ok h
        split at h
        · split at h
          · obtain ⟨t4, _, h⟩ := Pr.bind_ok h
            obtain ⟨b, hb, h⟩ := Pr.bind_ok h
            cases h
            exact jn3_up _ (ih (.level 1) _ _ _ (fun _ _ e => by cases e) h1) (ih .cond _ _ _ (fun _ _ e => by cases e) ha) (ih .cond _ _ _ (fun _ _ e => by cases e) hb)
          · cases h
        · cases h
      · cases h; exact ih (.level 1) _ _ _ (fun _ _ e => by cases e) h1
    | level lv =>
      simp only [rdRun] at h
      split at h
      · exact ih .un _ _ _ (fun _ _ e => by cases e) h
      · obtain ⟨a, h1, h⟩ := Pr.bind_ok h
        obtain ⟨t1, _, h⟩ := Pr.bind_ok h
        exact ih (.loop lv a.1) _ _ _ (fun _ _ e => by cases e; exact ih (.level (lv + 1)) _ _ _ (fun _ _ e => by cases e) h1) h
    | loop lv la =>
      simp only [rdRun] at h
      split at h
      · obtain ⟨t1, _, h⟩ := Pr.bind_ok h
        obtain ⟨b, hb, h⟩ := Pr.bind_ok h
        have kb := ih (.level (lv + 1)) _ _ _ (fun _ _ e => by cases e) hb
        split at h
        · cases h; exact jn2_up _ (hq lv la rfl) kb
        · obtain ⟨t2, _, h⟩ := Pr.bind_ok h
          exact ih (.loop lv _) _ _ _ (fun _ _ e => by cases e; exact jn2_up _ (hq lv la rfl) kb) h
      · cases h; exact hq lv la rfl
    | un =>
      simp only [rdRun] at h
      split at h
      · split at h
        · obtain ⟨t1, _, h⟩ := Pr.bind_ok h
          obtain ⟨x, hx, h⟩ := Pr.bind_ok h
          cases h; exact jn1_up _ (ih .un _ _ _ (fun _ _ e => by cases e) hx)
        · obtain ⟨t1, _, h⟩ := Pr.bind_ok h
          exact rdLit_up h
      · split at h
        · obtain ⟨t1, _, h⟩ := Pr.bind_ok h
          obtain ⟨x, hx, h⟩ := Pr.bind_ok h
          cases h; exact jn1_up _ (ih .un _ _ _ (fun _ _ e => by cases e) hx)
        · exact ih .atom _ _ _ (fun _ _ e => by cases e) h
    | atom =>
      simp only [rdRun] at h
      split at h
      · exact rdLit_up h
      · split at h
        · exact rdNamed_up h
        · split at h
          · obtain ⟨t1, _, h⟩ := Pr.bind_ok h
            exact rdNamed_up h
          · split at h
            · split at h
              · cases h
              · obtain ⟨t1, _, h⟩ := Pr.bind_ok h
                obtain ⟨e, h1, h⟩ := Pr.bind_ok h
                obtain ⟨t2, _, h⟩ := Pr.bind_ok h
                split at h
                · split at h
                  · cases h; have k := ih .cond _ _ e (fun _ _ e => by cases e) h1; exact k
                  · cases h
                · cases h
            · cases h

end Go.Proofs.YtaennaoakopgfaaDoor

set_option linter.unusedSimpArgs false
set_option linter.unusedVariables false
namespace Go.Proofs.YtaennaoakopgfaaDoor
open Go.Lib

/-- A token that stands at a. -/
structure TkA (s : ByteArray) (a : Nat) (t : Tk) : Prop where
  at_ : t.from_ = a
  in_ : a ≤ s.size
  good : t.err = 0 → a ≤ t.to ∧ t.to ≤ s.size ∧ (t.what ≠ 0 → a < t.to)
  sign : t.what ≠ 48 → t.what ≠ 97 → t.err = 0
  name : t.what = 97 → a < t.to ∧ t.to ≤ s.size

theorem from_at {s : ByteArray} {pat : Bool} {m a : Nat} {t : Tk} (ha : a ≤ s.size) (h : psFrom s pat m a = .ok t) : TkA s a t := by
  unfold psFrom at h
  split at h
  · rename_i hq
    unfold psAt at h
    split at h
    · rename_i k1
      obtain ⟨e1, e2, e3⟩ := span_in' s a hq k1
      rw [e1] at h
      simp only [Int.toNat_natCast] at h
      cases h
      exact ⟨rfl, ha, fun _ => ⟨by simp only; omega, e3, fun _ => e2⟩, fun _ h => absurd rfl h, fun _ => ⟨e2, e3⟩⟩
    · split at h
      · rename_i k2
        cases h
        refine ⟨rfl, ha, fun h0 => ?_, fun h => absurd rfl h, fun h => by cases h⟩
        simp only at h0 ⊢
        split at h0
        · cases h0
        · have := num_in s a hq k2 h0
          omega
      · split at h
        · rename_i k4
          have := sign_in s pat a hq k4.1
          have k5 := k4.2
          cases h
          refine ⟨rfl, ha, fun _ => ⟨by simp only; omega, by simp only; omega, fun _ => by simp only; omega⟩, fun _ _ => rfl, fun _ => ⟨by simp only; omega, by simp only; omega⟩⟩
        · cases h
  · cases h
    have : a = s.size := by omega
    subst this
    exact ⟨rfl, ha, fun _ => ⟨Nat.le_refl _, Nat.le_refl _, fun h => absurd rfl h⟩, fun _ _ => rfl, fun h => by cases h⟩
theorem skp_in {s : ByteArray} {p : Nat} (h : p ≤ s.size) : p ≤ skp s p ∧ skp s p ≤ s.size := psSkip_le s s.size p h

theorem rdLit_len {s : ByteArray} {a : Nat} {v : Int} {t : Tk} {r : List Nd × Nat} (ht : TkA s a t) (h : rdLit s v t = .ok r) : r.1.length = 1 ∧ a < r.2 ∧ r.2 ≤ s.size := by
  unfold rdLit at h
  split at h
  · split at h
    · rename_i h1 h2
      cases h
      obtain ⟨g1, g2, g3⟩ := ht.good h2
      have g4 := g3 (by rw [h1]; decide)
      have := skp_in g2
      exact ⟨rfl, by simp only; omega, this.2⟩
    · cases h
  · cases h
theorem rdNamed_len {s : ByteArray} {a : Nat} {v : Int} {t : Tk} {r : List Nd × Nat} (ht : TkA s a t) (h : rdNamed s v t = .ok r) : r.1.length = 1 ∧ a < r.2 ∧ r.2 ≤ s.size := by
  unfold rdNamed at h
  split at h
  · split at h
    · rename_i h1 h2
      cases h
      obtain ⟨g1, g2, g3⟩ := ht.good h2
      have g4 := g3 (by rw [h1]; decide)
      have := skp_in g2
      exact ⟨rfl, by simp only; omega, this.2⟩
    · cases h
  · cases h
theorem jn1_len (op : Int) (a : List Nd) : (jn1 op a).length = a.length + 1 := by simp [jn1]
theorem jn2_len (op : Int) (a b : List Nd) : (jn2 op a b).length = a.length + b.length + 1 := by simp [jn2]; omega
theorem jn3_len (op : Int) (a b c : List Nd) : (jn3 op a b c).length = a.length + b.length + c.length + 1 := by simp [jn3]; omega
theorem op_sgn {c : Int} {lv : Nat} (h : (psOp c).2 = lv) (hl : 1 ≤ lv) : c ≠ 0 ∧ c ≠ 48 ∧ c ≠ 97 := by
  refine ⟨?_, ?_, ?_⟩ <;> (rintro rfl; simp [psOp] at h; omega)

def RdQ.lvl (q : RdQ) : Prop := (∀ lv, q = .level lv → 1 ≤ lv) ∧ ∀ lv la, q = .loop lv la → 1 ≤ lv

theorem rd_len (s : ByteArray) (pat : Bool) : ∀ (f : Nat) (q : RdQ) (a : Nat) (t : Tk) (o : Nat) (r : List Nd × Nat), q.lvl → TkA s a t → rdRun s pat f q t o = .ok r → r.1.length + a ≤ r.2 + q.left.length ∧ a ≤ r.2 ∧ r.2 ≤ s.size := by
  intro f
  induction f with
  | zero => intro q a t o r _ _ h; cases h
  | succ f ih =>
    have hc : RdQ.cond.lvl := ⟨(fun _ e => by cases e), (fun _ _ e => by cases e)⟩
    have hu : RdQ.un.lvl := ⟨(fun _ e => by cases e), (fun _ _ e => by cases e)⟩
    have hat : RdQ.atom.lvl := ⟨(fun _ e => by cases e), (fun _ _ e => by cases e)⟩
    have hlv : ∀ lv, 1 ≤ lv → (RdQ.level lv).lvl := fun lv h => ⟨(fun _ e => by cases e; exact h), (fun _ _ e => by cases e)⟩
    have hlo : ∀ lv la, 1 ≤ lv → (RdQ.loop lv la).lvl := fun lv la h => ⟨(fun _ e => by cases e), (fun _ _ e => by cases e; exact h)⟩
    intro q a t o r hq ht h
    cases q with
    | cond =>
      simp only [rdRun] at h
      obtain ⟨c, h1, h⟩ := Pr.bind_ok h
      obtain ⟨i1, i2, i3⟩ := ih _ a t o c (hlv 1 (by omega)) ht h1
      simp only [RdQ.left, List.length_nil, Nat.add_zero] at i1 ⊢
      obtain ⟨t1, h2, h⟩ := Pr.bind_ok h
      have ht1 := from_at i3 h2
      split at h
      · rename_i hw
        obtain ⟨g1, g2, g3⟩ := ht1.good (ht1.sign (by rw [hw]; decide) (by rw [hw]; decide))
        have g4 := g3 (by rw [hw]; decide)
        have s1 := skp_in g2
        obtain ⟨t2, h3, h⟩ := Pr.bind_ok h
        have ht2 := from_at s1.2 h3
        obtain ⟨b, h4, h⟩ := Pr.bind_ok h
        obtain ⟨j1, j2, j3⟩ := ih _ _ t2 o b hc ht2 h4
        simp only [RdQ.left, List.length_nil, Nat.add_zero] at j1
        obtain ⟨t3, h5, h⟩ := Pr.bind_ok h
        have ht3 := from_at j3 h5
        split at h
        · rename_i hw3
          split at h
          · obtain ⟨k1, k2, k3⟩ := ht3.good (ht3.sign (by rw [hw3]; decide) (by rw [hw3]; decide))
            have k4 := k3 (by rw [hw3]; decide)
            have s2 := skp_in k2
            obtain ⟨t4, h6, h⟩ := Pr.bind_ok h
            have ht4 := from_at s2.2 h6
            obtain ⟨d, h7, h⟩ := Pr.bind_ok h
            obtain ⟨l1, l2, l3⟩ := ih _ _ t4 o d hc ht4 h7
            simp only [RdQ.left, List.length_nil, Nat.add_zero] at l1
            cases h
            simp only [jn3_len]
            omega
          · cases h
        · cases h
      · cases h; exact ⟨i1, i2, i3⟩
    | level lv =>
      simp only [rdRun] at h
      have hl1 := hq.1 lv rfl
      simp only [RdQ.left, List.length_nil, Nat.add_zero]
      split at h
      · have := ih _ a t o r hu ht h
        simpa [RdQ.left] using this
      · obtain ⟨c, h1, h⟩ := Pr.bind_ok h
        obtain ⟨i1, i2, i3⟩ := ih _ a t o c (hlv (lv + 1) (by omega)) ht h1
        simp only [RdQ.left, List.length_nil, Nat.add_zero] at i1
        obtain ⟨t1, h2, h⟩ := Pr.bind_ok h
        have ht1 := from_at i3 h2
        obtain ⟨j1, j2, j3⟩ := ih _ _ t1 o r (hlo lv c.1 hl1) ht1 h
        simp only [RdQ.left] at j1
        omega
    | loop lv la =>
      simp only [rdRun] at h
      have hl1 := hq.2 lv la rfl
      simp only [RdQ.left]
      split at h
      · rename_i hw
        obtain ⟨w0, w1, w2⟩ := op_sgn hw hl1
        obtain ⟨g1, g2, g3⟩ := ht.good (ht.sign w1 w2)
        have g4 := g3 w0
        have s1 := skp_in g2
        obtain ⟨t1, h2, h⟩ := Pr.bind_ok h
        have ht1 := from_at s1.2 h2
        obtain ⟨b, h3, h⟩ := Pr.bind_ok h
        obtain ⟨i1, i2, i3⟩ := ih _ _ t1 o b (hlv (lv + 1) (by omega)) ht1 h3
        simp only [RdQ.left, List.length_nil, Nat.add_zero] at i1
        split at h
        · cases h
          simp only [jn2_len]
          omega
        · obtain ⟨t2, h4, h⟩ := Pr.bind_ok h
          have ht2 := from_at i3 h4
          obtain ⟨j1, j2, j3⟩ := ih _ _ t2 o r (hlo lv _ hl1) ht2 h
          simp only [RdQ.left, jn2_len] at j1
          omega
      · cases h
        rw [ht.at_]
        have := ht.in_
        simp only
        omega
    | un =>
      simp only [rdRun] at h
      simp only [RdQ.left, List.length_nil, Nat.add_zero]
      split at h
      · rename_i hw
        obtain ⟨g1, g2, g3⟩ := ht.good (ht.sign (by rw [hw]; decide) (by rw [hw]; decide))
        have g4 := g3 (by rw [hw]; decide)
        have s1 := skp_in g2
        split at h
        · obtain ⟨t1, h2, h⟩ := Pr.bind_ok h
          have ht1 := from_at s1.2 h2
          obtain ⟨b, h3, h⟩ := Pr.bind_ok h
          obtain ⟨i1, i2, i3⟩ := ih _ _ t1 o b hu ht1 h3
          simp only [RdQ.left, List.length_nil, Nat.add_zero] at i1
          cases h
          simp only [jn1_len]
          omega
        · obtain ⟨t1, h2, h⟩ := Pr.bind_ok h
          have ht1 := from_at s1.2 h2
          have := rdLit_len ht1 h
          omega
      · split at h
        · rename_i hw
          obtain ⟨g1, g2, g3⟩ := ht.good (ht.sign (by rw [hw]; decide) (by rw [hw]; decide))
          have g4 := g3 (by rw [hw]; decide)
          have s1 := skp_in g2
          obtain ⟨t1, h2, h⟩ := Pr.bind_ok h
          have ht1 := from_at s1.2 h2
          obtain ⟨b, h3, h⟩ := Pr.bind_ok h
          obtain ⟨i1, i2, i3⟩ := ih _ _ t1 o b hu ht1 h3
          simp only [RdQ.left, List.length_nil, Nat.add_zero] at i1
          cases h
          simp only [jn1_len]
          omega
        · have := ih _ a t o r hat ht h
          simpa [RdQ.left] using this
    | atom =>
      simp only [rdRun] at h
      simp only [RdQ.left, List.length_nil, Nat.add_zero]
      split at h
      · have := rdLit_len ht h; omega
      · split at h
        · have := rdNamed_len ht h; omega
        · split at h
          · rename_i hw
            obtain ⟨g1, g2, g3⟩ := ht.good (ht.sign (by rw [hw]; decide) (by rw [hw]; decide))
            have g4 := g3 (by rw [hw]; decide)
            have s1 := skp_in g2
            obtain ⟨t1, h2, h⟩ := Pr.bind_ok h
            have ht1 := from_at s1.2 h2
            have := rdNamed_len ht1 h
            omega
          · split at h
            · rename_i hw
              obtain ⟨g1, g2, g3⟩ := ht.good (ht.sign (by rw [hw]; decide) (by rw [hw]; decide))
              have g4 := g3 (by rw [hw]; decide)
              have s1 := skp_in g2
              split at h
              · cases h
              · obtain ⟨t1, h2, h⟩ := Pr.bind_ok h
                have ht1 := from_at s1.2 h2
                obtain ⟨e, h3, h⟩ := Pr.bind_ok h
                obtain ⟨i1, i2, i3⟩ := ih _ _ t1 (o + 1) e hc ht1 h3
                simp only [RdQ.left, List.length_nil, Nat.add_zero] at i1
                obtain ⟨t2, h4, h⟩ := Pr.bind_ok h
                have ht2 := from_at i3 h4
                split at h
                · rename_i hw2
                  split at h
                  · rename_i he
                    obtain ⟨k1, k2, k3⟩ := ht2.good he
                    have s2 := skp_in k2
                    cases h
                    simp only
                    omega
                  · cases h
                · cases h
            · cases h
end Go.Proofs.YtaennaoakopgfaaDoor
