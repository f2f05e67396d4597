/-
  PcD.
-/
import Derived.Test.YtlbmijcpalfaeaaGreatDoorP14
set_option linter.unusedSimpArgs false
set_option linter.unusedVariables false
namespace Go.Proofs.YtlbmijcpalfaeaaGreatDoor
open Go.RowKit Go.Lib
theorem Cmp.lt_trans {α : Type} {P : α → Prop} {c : α → α → Int} (h : Cmp P c) {a b d : α} (ha : P a) (hb : P b) (hd : P d) (h1 : c a b < 0) (h2 : c b d < 0) : c a d < 0 := by
  have t := h.trans a b d ha hb hd (by omega) (by omega)
  by_cases e : c a d = 0
  · have n := h.neg a d ha hd
    have t2 := h.trans d a b hd ha hb (by omega) (by omega)
    have n2 := h.neg b d hb hd
    omega
  · omega
theorem Cmp.chain {α : Type} {P : α → Prop} {c : α → α → Int} (h : Cmp P c) (f : Nat → α) (n : Nat) (hp : ∀ i, i < n → P (f i)) (hc : ∀ i, i + 1 < n → c (f i) (f (i + 1)) < 0) : ∀ j i, i < j → j < n → c (f i) (f j) < 0 := by
  intro j
  induction j with
  | zero => intro i h1 _; omega
  | succ j ih =>
    intro i h1 h2
    by_cases e : i = j
    · subst e; exact hc i h2
    · exact h.lt_trans (hp i (by omega)) (hp j (by omega)) (hp (j + 1) h2) (ih i (by omega) (by omega)) (hc j h2)
/-- The nodes of a row of classes, with their classes. -/
def cellsF : Nat → List Cls → List (Nd × Int)
  | _, [] => []
  | q, c :: cs => c.nodes.map (fun x => (x, (q : Int))) ++ cellsF (q + 1) cs
theorem mem_cellsF {x : Nd} {z : Int} : ∀ (cs : List Cls) (q : Nat), (x, z) ∈ cellsF q cs ↔ ∃ i : Nat, i < cs.length ∧ z = (q : Int) + i ∧ x ∈ (clA cs i).nodes := by
  intro cs
  induction cs with
  | nil => intro q; simp [cellsF]
  | cons c cs ih =>
    intro q
    simp only [cellsF, List.mem_append, ih]
    constructor
    · rintro (h | ⟨i, h1, h2, h3⟩)
      · obtain ⟨y, hy, e⟩ := List.mem_map.1 h
        injection e with e1 e2
        subst e1
        exact ⟨0, by simp, by omega, hy⟩
      · exact ⟨i + 1, by simp; omega, by omega, h3⟩
    · rintro ⟨i, h1, h2, h3⟩
      cases i with
      | zero => left; exact List.mem_map.2 ⟨x, h3, by rw [h2]; simp⟩
      | succ i => right; exact ⟨i, by simpa using h1, by omega, h3⟩
def cellsL (cs : List Cls) : List (Nd × Int) := cellsF 0 cs
theorem mem_cells {x : Nd} {z : Int} {cs : List Cls} : (x, z) ∈ cellsL cs ↔ 0 ≤ z ∧ z < (cs.length : Int) ∧ x ∈ (clA cs z.toNat).nodes := by
  unfold cellsL
  rw [mem_cellsF]
  constructor
  · rintro ⟨i, h1, h2, h3⟩
    have : z.toNat = i := by omega
    exact ⟨by omega, by omega, by rw [this]; exact h3⟩
  · rintro ⟨h1, h2, h3⟩
    exact ⟨z.toNat, by omega, by omega, h3⟩
theorem cellsF_len : ∀ (cs : List Cls) (q : Nat), (cellsF q cs).length = mnyL cs := by
  intro cs
  induction cs with
  | nil => intro q; rfl
  | cons c cs ih => intro q; simp only [cellsF, List.length_append, List.length_map, ih, mnyL, List.map_cons, List.sum_cons]
/-- What the program asks of a picture. -/
def allF (cs : List Cls) : Bool := (cellsL cs).all fun c => formB c.1
def onceB (cs : List Cls) : Bool := (cellsL cs).all fun c => (cellsL cs).all fun d => decide (c.1 = d.1 → c.2 = d.2)
def ofB (cs : List Cls) (roots : List Int) : Bool := bdP cs roots && lsA cs cs.length && allF cs && onceB cs
theorem bdL_iff (n : Nat) : ∀ (cs : List Cls) (m : Nat), m ≤ 8192 → (bdL n m cs = true ↔ m + mnyL cs ≤ 8192 ∧ ∀ c ∈ cs, 1 ≤ c.size ∧ c.size < 1073741824 ∧ ∀ x ∈ c.nodes, inR n x.kids = true) := by
  intro cs
  induction cs with
  | nil => intro m hm; simp [bdL, mnyL]; omega
  | cons c cs ih =>
    intro m hm
    simp only [bdL, bdC, Bool.and_eq_true, decide_eq_true_eq, mnyL, List.map_cons, List.sum_cons, List.mem_cons, forall_eq_or_imp, List.all_eq_true]
    constructor
    · rintro ⟨⟨⟨⟨h1, h2⟩, h3⟩, h4⟩, h5⟩
      obtain ⟨h6, h7⟩ := (ih _ h1).1 h5
      unfold mnyL at h6
      exact ⟨by omega, ⟨h2, h3, h4⟩, h7⟩
    · rintro ⟨h1, ⟨h2, h3, h4⟩, h5⟩
      have h6 : m + c.nodes.length ≤ 8192 := by omega
      exact ⟨⟨⟨⟨h6, h2⟩, h3⟩, h4⟩, (ih _ h6).2 ⟨by unfold mnyL; omega, h5⟩⟩
theorem inR_iff {n : Nat} {ks : List Int} : inR n ks = true ↔ ∀ k ∈ ks, 0 ≤ k ∧ k < (n : Int) := by
  unfold inR inC
  simp [List.all_eq_true]
theorem lsOk_iff (cs : List Cls) (c : Cls) : ∀ n, lsOk cs c n = true ↔ ∀ i, i < n → lsG cs c i = true := by
  intro n
  induction n with
  | zero => simp [lsOk]
  | succ n ih =>
    simp only [lsOk, Bool.and_eq_true, ih]
    constructor
    · rintro ⟨h1, h2⟩ i hi
      by_cases e : i = n
      · subst e; exact h2
      · exact h1 i (by omega)
    · intro h; exact ⟨fun i hi => h i (by omega), h n (by omega)⟩
theorem lsA_iff (cs : List Cls) : ∀ n, lsA cs n = true ↔ ∀ i, i < n → lsO cs i = true := by
  intro n
  induction n with
  | zero => simp [lsA]
  | succ n ih =>
    simp only [lsA, Bool.and_eq_true, ih]
    constructor
    · rintro ⟨h1, h2⟩ i hi
      by_cases e : i = n
      · subst e; exact h2
      · exact h1 i (by omega)
    · intro h; exact ⟨fun i hi => h i (by omega), h n (by omega)⟩
theorem lsAt_spec (cs : List Cls) (c : Cls) : ∀ n : Nat, (lsAt cs c n = -1 ∧ ∀ i, i < n → szF cs 1 (ndA c.nodes i).kids ≠ c.size) ∨ ∃ i : Nat, i < n ∧ lsAt cs c n = (i : Int) ∧ szF cs 1 (ndA c.nodes i).kids = c.size ∧ ∀ j, j < i → szF cs 1 (ndA c.nodes j).kids ≠ c.size := by
  intro n
  induction n with
  | zero => left; exact ⟨rfl, fun i h => by omega⟩
  | succ n ih =>
    rcases ih with ⟨h1, h2⟩ | ⟨i, h1, h2, h3, h4⟩
    · by_cases e : szF cs 1 (ndA c.nodes n).kids = c.size
      · right
        refine ⟨n, by omega, ?_, e, h2⟩
        unfold lsAt
        rw [if_pos ⟨h1, e⟩]
      · left
        refine ⟨?_, fun i hi => ?_⟩
        · unfold lsAt
          rw [if_neg (fun h => e h.2)]; exact h1
        · by_cases e2 : i = n
          · subst e2; exact e
          · exact h2 i (by omega)
    · right
      refine ⟨i, by omega, ?_, h3, h4⟩
      unfold lsAt
      rw [if_neg (fun h => by omega)]; exact h2
/-- A class that has its least node. -/
theorem lstF_iff (cs : List Cls) (c : Cls) : (lstF cs c).isSome = true ↔ (∀ i, i < c.nodes.length → lsG cs c i = true) ∧ ∃ i, i < c.nodes.length ∧ szF cs 1 (ndA c.nodes i).kids = c.size := by
  unfold lstF
  constructor
  · intro h
    split at h
    · rename_i h2
      simp only [Bool.and_eq_true, decide_eq_true_eq] at h2
      refine ⟨(lsOk_iff cs c _).1 h2.1, ?_⟩
      rcases lsAt_spec cs c c.nodes.length with ⟨h3, _⟩ | ⟨i, h3, _, h4, _⟩
      · exact absurd h3 h2.2
      · exact ⟨i, h3, h4⟩
    · simp at h
  · rintro ⟨h1, i, h2, h3⟩
    rw [if_pos]
    · rfl
    · simp only [Bool.and_eq_true, decide_eq_true_eq]
      refine ⟨(lsOk_iff cs c _).2 h1, fun e => ?_⟩
      rcases lsAt_spec cs c c.nodes.length with ⟨_, h4⟩ | ⟨j, _, h4, _⟩
      · exact h4 i h2 h3
      · omega
/-- Where it has it, it is the first that comes to the class's size. -/
theorem lstF_spec {cs : List Cls} {c : Cls} (h : (lstF cs c).isSome = true) : ∃ i, lstF cs c = some i ∧ i < c.nodes.length ∧ szF cs 1 (ndA c.nodes i).kids = c.size ∧ ∀ j, j < i → szF cs 1 (ndA c.nodes j).kids ≠ c.size := by
  have h0 := h
  unfold lstF at h
  split at h
  · rename_i h2
    have h3 := h2
    simp only [Bool.and_eq_true, decide_eq_true_eq] at h2
    rcases lsAt_spec cs c c.nodes.length with ⟨h4, _⟩ | ⟨i, h4, h5, h6, h7⟩
    · exact absurd h4 h2.2
    · refine ⟨i, ?_, h4, h6, h7⟩
      unfold lstF
      rw [if_pos h3, h5]; rfl
  · simp at h
theorem ndA_mem {l : List Nd} {i : Nat} (h : i < l.length) : ndA l i ∈ l := by
  unfold ndA; rw [List.getD_eq_getElem?_getD, List.getElem?_eq_getElem h]; exact List.getElem_mem h
theorem mem_ndA {l : List Nd} {x : Nd} (h : x ∈ l) : ∃ i, i < l.length ∧ ndA l i = x := by
  obtain ⟨i, hi, e⟩ := List.getElem_of_mem h
  exact ⟨i, hi, by unfold ndA; rw [List.getD_eq_getElem?_getD, List.getElem?_eq_getElem hi]; exact e⟩
/-- The sizes that a picture tells. -/
def szP (cs : List Cls) (q : Int) : Int := (clA cs q.toNat).size
def lsP (cs : List Cls) (q : Int) : Nd := lsN cs q.toNat
theorem szKg_sum (cs : List Cls) (ks : List Int) : szKg cs ks = sumK (szP cs) ks := by
  induction ks with
  | nil => rfl
  | cons k ks ih => simp only [szKg, sumK, ih]; rfl
theorem cmpN : Cmp (fun x : Nd => formB x = true) (nodC cmp3) := (cmp_nod (cmp_int (fun x : Int => x) (fun _ => True))).mono fun _ h => ⟨h, fun _ _ => trivial⟩
theorem clA_mem {cs : List Cls} {i : Nat} (h : i < cs.length) : clA cs i ∈ cs := by
  unfold clA; rw [List.getD_eq_getElem?_getD, List.getElem?_eq_getElem h]; exact List.getElem_mem h
/-- What is so where the sizes are in range, whoever asks. -/
theorem szF_sum {cs : List Cls} (h : ∀ c ∈ cs, 1 ≤ c.size ∧ c.size < 1073741824) {x : Nd} (hx : x.kids.length ≤ 3) : szF cs 1 x.kids = 1 + sumK (szP cs) x.kids := by
  rw [szF_small h x.kids 1 (by omega) (by omega), szKg_sum]
/-- What a picture that the program takes has. -/
structure OfOk (cs : List Cls) (roots : List Int) : Prop where
  few : cs.length ≤ 4096
  roots : ∀ r ∈ roots, 0 ≤ r ∧ r < (cs.length : Int)
  many : mnyL cs ≤ 8192
  rng : ∀ c ∈ cs, 1 ≤ c.size ∧ c.size < 1073741824
  kids : ∀ c ∈ cs, ∀ x ∈ c.nodes, ∀ k ∈ x.kids, 0 ≤ k ∧ k < (cs.length : Int)
  form : ∀ c ∈ cs, ∀ x ∈ c.nodes, formB x = true
  one : ∀ c ∈ cellsL cs, ∀ d ∈ cellsL cs, c.1 = d.1 → c.2 = d.2
  line : ∀ i, i < cs.length → ∀ j, j + 1 < (clA cs i).nodes.length → nodC cmp3 (ndA (clA cs i).nodes j) (ndA (clA cs i).nodes (j + 1)) < 0
  ge : ∀ i, i < cs.length → ∀ x ∈ (clA cs i).nodes, (clA cs i).size ≤ 1 + sumK (szP cs) x.kids
  lst : ∀ i, i < cs.length → lsN cs i ∈ (clA cs i).nodes ∧ 1 + sumK (szP cs) (lsN cs i).kids = (clA cs i).size ∧ ∀ x ∈ (clA cs i).nodes, 1 + sumK (szP cs) x.kids = (clA cs i).size → 0 ≤ nodC cmp3 x (lsN cs i)
  up : ∀ i, i + 1 < cs.length → lexC (fun p q : Int => cmp3 (szP cs p) (szP cs q)) (fun p q => nodC cmp3 (lsP cs p) (lsP cs q)) i ((i + 1 : Nat) : Int) < 0
theorem lsS_lex (x y : Nd) (sx sy : Int) (hx : formB x = true) (hy : formB y = true) : lsS x y sx sy = if cmp3 sx sy = 0 then nodC cmp3 x y else cmp3 sx sy := by
  unfold lsS
  simp only [orL, ordN_nod hx hy]
  by_cases h : cmp3 sx sy = 0
  · rw [if_pos h, if_pos h]
    by_cases h2 : nodC cmp3 x y = 0
    · rw [if_pos h2, h2]
    · rw [if_neg h2]
  · rw [if_neg h, if_neg h]
theorem ofB_ok {cs : List Cls} {roots : List Int} (h : ofB cs roots = true) : OfOk cs roots := by
  unfold ofB bdP at h
  simp only [Bool.and_eq_true, decide_eq_true_eq] at h
  obtain ⟨⟨⟨⟨⟨h1, h2⟩, h3⟩, h4⟩, h5⟩, h6⟩ := h
  obtain ⟨h7, h8⟩ := (bdL_iff cs.length cs 0 (by omega)).1 h3
  have hr : ∀ c ∈ cs, 1 ≤ c.size ∧ c.size < 1073741824 := fun c hc => ⟨(h8 c hc).1, (h8 c hc).2.1⟩
  have hf : ∀ i, i < cs.length → ∀ x ∈ (clA cs i).nodes, formB x = true := fun i hi x hx => by
    have := List.all_eq_true.1 h5 (x, (i : Int)) (mem_cells.2 ⟨by omega, by simpa using hi, by simpa using hx⟩)
    exact this
  have hA := (lsA_iff cs cs.length).1 h4
  have hs : ∀ i, i < cs.length → (lstF cs (clA cs i)).isSome = true := fun i hi => by
    have := hA i hi
    unfold lsO at this
    simp only [Bool.and_eq_true] at this
    exact this.1
  have hsum : ∀ i, i < cs.length → ∀ x ∈ (clA cs i).nodes, szF cs 1 x.kids = 1 + sumK (szP cs) x.kids := fun i hi x hx => szF_sum hr (formB_kids (hf i hi x hx))
  have hN : ∀ i, i < cs.length → ∃ j, j < (clA cs i).nodes.length ∧ lsN cs i = ndA (clA cs i).nodes j ∧ szF cs 1 (lsN cs i).kids = (clA cs i).size ∧ ∀ m, m < j → szF cs 1 (ndA (clA cs i).nodes m).kids ≠ (clA cs i).size := fun i hi => by
    obtain ⟨j, e, hj, e2, e3⟩ := lstF_spec (hs i hi)
    have e4 : lsN cs i = ndA (clA cs i).nodes j := by unfold lsN; rw [e]; rfl
    exact ⟨j, hj, e4, by rw [e4]; exact e2, e3⟩
  have hline : ∀ i, i < cs.length → ∀ j, j + 1 < (clA cs i).nodes.length → nodC cmp3 (ndA (clA cs i).nodes j) (ndA (clA cs i).nodes (j + 1)) < 0 := fun i hi j hj => by
    have := ((lstF_iff cs (clA cs i)).1 (hs i hi)).1 (j + 1) hj
    unfold lsG at this
    simp only [Bool.and_eq_true, Bool.or_eq_true, decide_eq_true_eq, beq_iff_eq] at this
    rcases this.1 with h | h
    · omega
    · rw [Nat.add_sub_cancel, ordN_nod (hf i hi _ (ndA_mem (by omega))) (hf i hi _ (ndA_mem hj))] at h
      exact h
  refine ⟨h1, inR_iff.1 h2, by omega, hr, fun c hc x hx => inR_iff.1 ((h8 c hc).2.2 x hx), fun c hc x hx => ?_, fun c hc d hd => ?_, hline, fun i hi x hx => ?_, fun i hi => ?_, fun i hi => ?_⟩
  · obtain ⟨i, hi, e⟩ := List.getElem_of_mem hc
    have : clA cs i = c := by unfold clA; rw [List.getD_eq_getElem?_getD, List.getElem?_eq_getElem hi]; exact e
    exact hf i hi x (by rw [this]; exact hx)
  · have := List.all_eq_true.1 (List.all_eq_true.1 h6 c hc) d hd
    exact of_decide_eq_true this
  · obtain ⟨j, hj, e⟩ := mem_ndA hx
    have := ((lstF_iff cs (clA cs i)).1 (hs i hi)).1 j hj
    unfold lsG at this
    simp only [Bool.and_eq_true, decide_eq_true_eq] at this
    rw [← hsum i hi x hx, ← e]
    exact this.2
  · obtain ⟨j, hj, e, e2, e3⟩ := hN i hi
    have hm : lsN cs i ∈ (clA cs i).nodes := by rw [e]; exact ndA_mem hj
    refine ⟨hm, by rw [← hsum i hi _ hm]; exact e2, fun x hx hx2 => ?_⟩
    obtain ⟨m, hm2, e4⟩ := mem_ndA hx
    have hge : j ≤ m := by
      rcases Nat.lt_or_ge m j with h | h
      · exact absurd (by rw [e4, hsum i hi x hx]; exact hx2) (e3 m h)
      · exact h
    rw [e, ← e4]
    have hfm : ∀ m, m < (clA cs i).nodes.length → formB (ndA (clA cs i).nodes m) = true := fun m hm => hf i hi _ (ndA_mem hm)
    rcases Nat.lt_or_ge j m with h | h
    · have c1 := cmpN.chain (fun m => ndA (clA cs i).nodes m) (clA cs i).nodes.length hfm (fun m hm => hline i hi m hm) m j h hm2
      have c2 := cmpN.neg _ _ (hfm j hj) (hfm m hm2)
      omega
    · have : j = m := by omega
      subst this
      rw [cmpN.self (hfm j hj)]
      omega
  · have := hA (i + 1) hi
    unfold lsO at this
    simp only [Bool.and_eq_true, Bool.or_eq_true, decide_eq_true_eq, beq_iff_eq] at this
    rcases this.2 with h | h
    · omega
    · obtain ⟨j, hj, e, _⟩ := hN i (by omega)
      obtain ⟨j2, hj2, e2, _⟩ := hN (i + 1) hi
      rw [Nat.add_sub_cancel, lsS_lex _ _ _ _ (by rw [e]; exact hf i (by omega) _ (ndA_mem hj)) (by rw [e2]; exact hf (i + 1) hi _ (ndA_mem hj2))] at h
      unfold lexC szP lsP
      simpa using h
theorem ok_ofB {cs : List Cls} {roots : List Int} (h : OfOk cs roots) : ofB cs roots = true := by
  have hf : ∀ i, i < cs.length → ∀ x ∈ (clA cs i).nodes, formB x = true := fun i hi x hx => h.form _ (clA_mem hi) x hx
  have hsum : ∀ i, i < cs.length → ∀ x ∈ (clA cs i).nodes, szF cs 1 x.kids = 1 + sumK (szP cs) x.kids := fun i hi x hx => szF_sum h.rng (formB_kids (hf i hi x hx))
  have hs : ∀ i, i < cs.length → (lstF cs (clA cs i)).isSome = true := fun i hi => by
    refine (lstF_iff cs (clA cs i)).2 ⟨fun j hj => ?_, ?_⟩
    · unfold lsG
      simp only [Bool.and_eq_true, Bool.or_eq_true, decide_eq_true_eq, beq_iff_eq]
      refine ⟨?_, ?_⟩
      · cases j with
        | zero => left; rfl
        | succ j =>
          right
          rw [Nat.add_sub_cancel, ordN_nod (hf i hi _ (ndA_mem (by omega))) (hf i hi _ (ndA_mem hj))]
          exact h.line i hi j hj
      · rw [hsum i hi _ (ndA_mem hj)]; exact h.ge i hi _ (ndA_mem hj)
    · obtain ⟨h1, h2, _⟩ := h.lst i hi
      obtain ⟨j, hj, e⟩ := mem_ndA h1
      exact ⟨j, hj, by rw [e, hsum i hi _ h1]; exact h2⟩
  unfold ofB bdP
  simp only [Bool.and_eq_true, decide_eq_true_eq]
  refine ⟨⟨⟨⟨⟨h.few, inR_iff.2 h.roots⟩, (bdL_iff cs.length cs 0 (by omega)).2 ⟨by have := h.many; omega, fun c hc => ⟨(h.rng c hc).1, (h.rng c hc).2, fun x hx => inR_iff.2 (h.kids c hc x hx)⟩⟩⟩, (lsA_iff cs cs.length).2 fun i hi => ?_⟩, List.all_eq_true.2 fun c hc => ?_⟩, List.all_eq_true.2 fun c hc => List.all_eq_true.2 fun d hd => decide_eq_true (h.one c hc d hd)⟩
  · unfold lsO
    simp only [Bool.and_eq_true, Bool.or_eq_true, decide_eq_true_eq, beq_iff_eq]
    refine ⟨hs i hi, ?_⟩
    cases i with
    | zero => left; rfl
    | succ i =>
      right
      have := h.up i hi
      rw [Nat.add_sub_cancel, lsS_lex _ _ _ _ (hf i (by omega) _ (h.lst i (by omega)).1) (hf (i + 1) hi _ (h.lst (i + 1) hi).1)]
      unfold lexC szP lsP at this
      simpa using this
  · obtain ⟨x, z⟩ := c
    obtain ⟨h1, h2, h3⟩ := mem_cells.1 hc
    exact hf z.toNat (by omega) x h3
/-- The picture's own sizes are the document's. -/
theorem OfOk.inCs {cs : List Cls} {roots : List Int} (h : OfOk cs roots) : InCs cs.length (cellsL cs) := by
  refine ⟨fun ⟨x, z⟩ hc => ?_, fun ⟨x, z⟩ hc k hk => ?_, fun ⟨x, z⟩ hc => ?_, h.one⟩
  · obtain ⟨h1, h2, h3⟩ := mem_cells.1 hc; exact ⟨h1, h2⟩
  · obtain ⟨h1, h2, h3⟩ := mem_cells.1 hc; exact h.kids _ (clA_mem (by omega)) x h3 k hk
  · obtain ⟨h1, h2, h3⟩ := mem_cells.1 hc; exact h.form _ (clA_mem (by omega)) x h3
theorem OfOk.szRng {cs : List Cls} {roots : List Int} (h : OfOk cs roots) (q : Int) (h0 : 0 ≤ q) (h1 : q < (cs.length : Int)) : 1 ≤ szP cs q ∧ szP cs q < 1073741824 := h.rng _ (clA_mem (by omega))
theorem OfOk.fixS {cs : List Cls} {roots : List Int} (h : OfOk cs roots) : FixS cs.length (cellsL cs) (szP cs) := by
  have h0 : ∀ c ∈ cellsL cs, ∀ k ∈ c.1.kids, 0 ≤ szP cs k := fun c hc k hk => by
    have := h.szRng k (h.inCs.kids c hc k hk).1 (h.inCs.kids c hc k hk).2; omega
  refine ⟨fun c hc => ?_, fun q hq0 hq => .inr ?_, fun q hq0 hq => by have := h.szRng q hq0 hq; omega⟩
  · have e := sizeD_eq (h0 c hc)
    obtain ⟨x, z⟩ := c
    obtain ⟨h1, h2, h3⟩ := mem_cells.1 hc
    have h4 := h.ge z.toNat (by omega) x h3
    have h5 := h.szRng z h1 h2
    simp only at e ⊢
    rw [e]
    unfold szP at h5 ⊢
    unfold szP at h4
    omega
  · obtain ⟨h1, h2, h3⟩ := h.lst q.toNat (by omega)
    have hm : (lsN cs q.toNat, q) ∈ cellsL cs := mem_cells.2 ⟨hq0, hq, h1⟩
    refine ⟨_, hm, rfl, ?_⟩
    rw [sizeD_eq (h0 _ hm)]
    have : szP cs q = (clA cs q.toNat).size := rfl
    simp only
    omega
end Go.Proofs.YtlbmijcpalfaeaaGreatDoor
