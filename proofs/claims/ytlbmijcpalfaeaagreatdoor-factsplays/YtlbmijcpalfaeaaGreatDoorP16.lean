/-
  PcF.
-/
import Derived.Test.YtlbmijcpalfaeaaGreatDoorP15
set_option linter.unusedSimpArgs false
set_option linter.unusedVariables false
namespace Go.Proofs.YtlbmijcpalfaeaaGreatDoor
open Go.RowKit Go.Lib
/-- Where a node comes to stand in a list, looked for from its end. -/
def insK (l : List Nd) (x : Nd) : Nat → Nat
  | 0 => 0
  | k + 1 => if nodC cmp3 x (ndA l k) < 0 then insK l x k else k + 1
def insF (l : List Nd) (x : Nd) : List Nd := l.take (insK l x l.length) ++ x :: l.drop (insK l x l.length)
theorem insK_le (l : List Nd) (x : Nd) : ∀ k, insK l x k ≤ k := by
  intro k
  induction k with
  | zero => simp [insK]
  | succ k ih => unfold insK; split <;> omega
theorem insK_spec (l : List Nd) (x : Nd) : ∀ k, (∀ j, insK l x k ≤ j → j < k → nodC cmp3 x (ndA l j) < 0) ∧ (0 < insK l x k → ¬ nodC cmp3 x (ndA l (insK l x k - 1)) < 0) := by
  intro k
  induction k with
  | zero => exact ⟨fun j _ h => by omega, fun h => by simp [insK] at h⟩
  | succ k ih =>
    by_cases h : nodC cmp3 x (ndA l k) < 0
    · have e : insK l x (k + 1) = insK l x k := by rw [insK, if_pos h]
      rw [e]
      refine ⟨fun j h1 h2 => ?_, ih.2⟩
      by_cases e2 : j = k
      · subst e2; exact h
      · exact ih.1 j h1 (by omega)
    · have e : insK l x (k + 1) = k + 1 := by rw [insK, if_neg h]
      rw [e]
      exact ⟨fun j h1 h2 => by omega, fun _ => by simpa using h⟩
theorem mem_insF {l : List Nd} {x y : Nd} : y ∈ insF l x ↔ y = x ∨ y ∈ l := by
  unfold insF
  have : y ∈ l ↔ y ∈ l.take (insK l x l.length) ∨ y ∈ l.drop (insK l x l.length) := by
    rw [← List.mem_append, List.take_append_drop]
  rw [List.mem_append, List.mem_cons, this]
  constructor
  · rintro (h | h | h)
    · exact .inr (.inl h)
    · exact .inl h
    · exact .inr (.inr h)
  · rintro (h | h | h)
    · exact .inr (.inl h)
    · exact .inl h
    · exact .inr (.inr h)
theorem ndA_get {l : List Nd} {i : Nat} (h : i < l.length) : ndA l i = l[i] := by
  unfold ndA; rw [List.getD_eq_getElem?_getD, List.getElem?_eq_getElem h]; rfl
/-- In order. -/
def Srt (l : List Nd) : Prop := l.Pairwise fun a b => nodC cmp3 a b ≤ 0
theorem insF_srt {l : List Nd} {x : Nd} (h : Srt l) (hf : ∀ y ∈ l, formB y = true) (hx : formB x = true) : Srt (insF l x) := by
  obtain ⟨s1, s2⟩ := insK_spec l x l.length
  have hle := insK_le l x l.length
  unfold insF Srt
  generalize insK l x l.length = k at *
  have hd : l = l.take k ++ l.drop k := (List.take_append_drop k l).symm
  unfold Srt at h
  rw [hd] at h
  obtain ⟨p1, p2, p3⟩ := List.pairwise_append.1 h
  have hlow : ∀ a ∈ l.take k, nodC cmp3 a x ≤ 0 := fun a ha => by
    obtain ⟨i, hi, e⟩ := List.getElem_of_mem ha
    have hik : i < k := by rw [List.length_take] at hi; omega
    have hil : i < l.length := by omega
    have e2 : l[i] = a := by rw [← e, List.getElem_take]
    have hlast := s2 (by omega)
    rw [ndA_get (by omega)] at hlast
    have hfk : formB l[k - 1] = true := hf _ (List.getElem_mem _)
    have hfa : formB a = true := hf _ (by rw [← e2]; exact List.getElem_mem _)
    have n1 := cmpN.neg x l[k - 1] hx hfk
    by_cases e3 : i = k - 1
    · subst e3; rw [← e2]; omega
    · have hp := List.pairwise_iff_getElem.1 p1 i (k - 1) (by rw [List.length_take]; omega) (by rw [List.length_take]; omega) (by omega)
      rw [List.getElem_take, List.getElem_take, e2] at hp
      exact cmpN.trans a l[k - 1] x hfa hfk hx hp (by omega)
  have hhigh : ∀ b ∈ l.drop k, nodC cmp3 x b ≤ 0 := fun b hb => by
    obtain ⟨i, hi, e⟩ := List.getElem_of_mem hb
    rw [List.length_drop] at hi
    have := s1 (k + i) (by omega) (by omega)
    rw [ndA_get (by omega)] at this
    rw [List.getElem_drop] at e
    rw [e] at this
    omega
  refine List.pairwise_append.2 ⟨p1, List.pairwise_cons.2 ⟨hhigh, p2⟩, fun a ha b hb => ?_⟩
  rcases List.mem_cons.1 hb with rfl | hb
  · exact hlow a ha
  · exact p3 a ha b hb
/-- The last of all stands at the end. -/
theorem insF_end {l : List Nd} {x : Nd} (h : l = [] ∨ ¬ nodC cmp3 x (ndA l (l.length - 1)) < 0) : insF l x = l ++ [x] := by
  have e : insK l x l.length = l.length := by
    rcases h with rfl | h
    · rfl
    · cases hl : l.length with
      | zero => rfl
      | succ k => rw [hl, Nat.add_sub_cancel] at h; rw [insK, if_neg h]
  unfold insF
  rw [e, List.take_length, List.drop_length]
/-- Where class q comes to stand. -/
def plA (al : List Int) (q : Int) : Int := (al.idxOf q : Nat)
def renN (al : List Int) (x : Nd) : Nd := { x with kids := x.kids.map (plA al) }
def arrS (al : List Int) (ns : List (List Nd)) (c : Nd × Int) : List (List Nd) := ns.set (plA al c.2).toNat (insF (ns.getD (plA al c.2).toNat []) (renN al c.1))
def arrF (al : List Int) (n : Nat) (cells : List (Nd × Int)) : List (List Nd) := cells.foldl (arrS al) (List.replicate n [])
def arrC (al : List Int) (n : Nat) (sz : Int → Int) (cells : List (Nd × Int)) : List Cls := (List.range n).map fun i => ⟨(arrF al n cells).getD i [], sz (al.getD i 0)⟩
theorem renN_form {al : List Int} {x : Nd} (h : formB x = true) : formB (renN al x) = true := formR _ h (by simp)
theorem arrF_spec (al : List Int) : ∀ (cells : List (Nd × Int)) (ns : List (List Nd)), (∀ c ∈ cells, formB c.1 = true) → (∀ i, Srt (ns.getD i []) ∧ ∀ x ∈ ns.getD i [], formB x = true) → (cells.foldl (arrS al) ns).length = ns.length ∧ (∀ i, Srt ((cells.foldl (arrS al) ns).getD i []) ∧ ∀ x ∈ (cells.foldl (arrS al) ns).getD i [], formB x = true) ∧ (∀ i, ∀ x ∈ ns.getD i [], x ∈ (cells.foldl (arrS al) ns).getD i []) ∧ ∀ c ∈ cells, (plA al c.2).toNat < ns.length → renN al c.1 ∈ (cells.foldl (arrS al) ns).getD (plA al c.2).toNat [] := by
  intro cells
  induction cells with
  | nil => intro ns _ h; exact ⟨rfl, h, fun i x hx => hx, fun c hc => by cases hc⟩
  | cons c cells ih =>
    intro ns hf h
    rw [List.foldl_cons]
    have hget : ∀ i, (arrS al ns c).getD i [] = if i = (plA al c.2).toNat ∧ i < ns.length then insF (ns.getD i []) (renN al c.1) else ns.getD i [] := fun i => by
      unfold arrS
      by_cases e : i = (plA al c.2).toNat
      · by_cases e2 : i < ns.length
        · rw [if_pos ⟨e, e2⟩, ← e]; simp [e2]
        · rw [if_neg (fun hh => e2 hh.2)]; simp only [List.getD_eq_getElem?_getD]; rw [List.getElem?_eq_none (by simpa using e2), List.getElem?_eq_none (by simpa using e2)]
      · rw [if_neg (fun hh => e hh.1)]; simp only [List.getD_eq_getElem?_getD]; rw [List.getElem?_set_ne (fun hh => e hh.symm)]
    have h1 : ∀ i, Srt ((arrS al ns c).getD i []) ∧ ∀ x ∈ (arrS al ns c).getD i [], formB x = true := fun i => by
      rw [hget]
      split
      · refine ⟨insF_srt (h i).1 (h i).2 (renN_form (hf c (by simp))), fun x hx => ?_⟩
        rcases mem_insF.1 hx with rfl | hx
        · exact renN_form (hf c (by simp))
        · exact (h i).2 x hx
      · exact h i
    obtain ⟨k1, k2, k3, k4⟩ := ih (arrS al ns c) (fun d hd => hf d (by simp [hd])) h1
    have hl : (arrS al ns c).length = ns.length := by simp [arrS]
    refine ⟨k1.trans hl, k2, fun i x hx => k3 i x ?_, fun d hd hlt => ?_⟩
    · rw [hget]
      split
      · exact mem_insF.2 (.inr hx)
      · exact hx
    · rcases List.mem_cons.1 hd with rfl | hd
      · refine k3 _ _ ?_
        rw [hget, if_pos ⟨rfl, hlt⟩]
        exact mem_insF.2 (.inl rfl)
      · exact k4 d hd (by rw [hl]; exact hlt)
/-- The classes' numbers. -/
def rngI (n : Nat) : List Int := (List.range n).map fun i : Nat => (i : Int)
theorem mem_rngI {n : Nat} {q : Int} : q ∈ rngI n ↔ 0 ≤ q ∧ q < (n : Int) := by
  unfold rngI
  rw [List.mem_map]
  constructor
  · rintro ⟨i, h, rfl⟩; rw [List.mem_range] at h; omega
  · rintro ⟨h1, h2⟩; exact ⟨q.toNat, by rw [List.mem_range]; omega, by omega⟩
theorem rngI_nodup (n : Nat) : (rngI n).Nodup := List.Pairwise.map _ (fun a b h => by intro e; exact h (by omega)) List.nodup_range
theorem rngI_len (n : Nat) : (rngI n).length = n := by simp [rngI]
theorem rngI_at {n i : Nat} (h : i < n) : (rngI n).getD i 0 = (i : Int) := by simp [rngI, h]
theorem plA_at {n : Nat} {al : List Int} (hp : al.Perm (rngI n)) {q : Int} (h0 : 0 ≤ q) (h1 : q < (n : Int)) : 0 ≤ plA al q ∧ plA al q < (n : Int) ∧ al.getD (plA al q).toNat 0 = q := by
  have hm : q ∈ al := hp.mem_iff.2 (mem_rngI.2 ⟨h0, h1⟩)
  have hl := hp.length_eq
  rw [rngI_len] at hl
  have hi := List.idxOf_lt_length_iff.2 hm
  unfold plA
  refine ⟨by omega, by omega, ?_⟩
  rw [Int.toNat_natCast, List.getD_eq_getElem?_getD, List.getElem?_eq_getElem hi]
  simp
theorem plA_range {n : Nat} {q : Int} (h0 : 0 ≤ q) (h1 : q < (n : Int)) : plA (rngI n) q = q := by
  obtain ⟨a, b, c⟩ := plA_at (List.Perm.refl (rngI n)) h0 h1
  rw [rngI_at (by omega)] at c
  omega
/-- Two places of classes in order by the document, told by the program. -/
theorem OfOk.lt {cs : List Cls} {roots : List Int} (h : OfOk cs roots) {p q : Int} (h0 : 0 ≤ p) (h1 : p < q) (h2 : q < (cs.length : Int)) : szP cs p < szP cs q ∨ szP cs p = szP cs q ∧ nodC cmp3 (lsP cs p) (lsP cs q) < 0 := by
  have hf : ∀ q : Int, 0 ≤ q ∧ q < (cs.length : Int) → formB (lsP cs q) = true := fun q hq => h.form _ (clA_mem (i := q.toNat) (by omega)) _ (h.lst q.toNat (by omega)).1
  have hc := (cmp_int (szP cs) (fun q : Int => 0 ≤ q ∧ q < (cs.length : Int))).lex (d := fun p q => nodC cmp3 (lsP cs p) (lsP cs q)) (fun a b ha hb _ => cmpN.neg _ _ (hf a ha) (hf b hb)) (fun a b e ha hb he _ _ _ => cmpN.trans _ _ _ (hf a ha) (hf b hb) (hf e he))
  have := hc.chain (fun i : Nat => (i : Int)) cs.length (fun i hi => ⟨by omega, by omega⟩) (fun i hi => h.up i hi) q.toNat p.toNat (by omega) (by omega)
  rw [show ((p.toNat : Nat) : Int) = p by omega, show ((q.toNat : Nat) : Int) = q by omega] at this
  unfold lexC cmp3 at this
  by_cases e1 : szP cs p < szP cs q
  · exact .inl e1
  · by_cases e2 : szP cs q < szP cs p
    · simp [e1, e2] at this
    · simp only [e1, e2, if_false, if_true] at this
      exact .inr ⟨by omega, this⟩
theorem OfOk.sorted {cs : List Cls} {roots : List Int} (h : OfOk cs roots) (i : Nat) (hi : i < cs.length) : (clA cs i).nodes.Pairwise fun a b => nodC cmp3 a b < 0 := by
  refine List.pairwise_iff_getElem.2 fun a b ha hb hab => ?_
  have := cmpN.chain (fun m => ndA (clA cs i).nodes m) (clA cs i).nodes.length (fun m hm => h.form _ (clA_mem hi) _ (ndA_mem hm)) (fun m hm => h.line i hi m hm) b a hab hb
  rw [ndA_get ha, ndA_get hb] at this
  exact this
theorem nodC_self {x : Nd} (h : formB x = true) : nodC cmp3 x x = 0 := cmpN.self h
theorem cellsF_nodup : ∀ (cs : List Cls) (q : Nat), (∀ c ∈ cs, c.nodes.Nodup) → (∀ c ∈ cellsF q cs, ∀ d ∈ cellsF q cs, c.1 = d.1 → c.2 = d.2) → ((cellsF q cs).map (·.1)).Nodup := by
  intro cs
  induction cs with
  | nil => intro q _ _; simp [cellsF]
  | cons c cs ih =>
    intro q h1 h2
    simp only [cellsF, List.map_append, List.map_map]
    have e : (c.nodes.map ((fun p : Nd × Int => p.1) ∘ fun x => (x, (q : Int)))) = c.nodes := by
      have : ((fun p : Nd × Int => p.1) ∘ fun x => (x, (q : Int))) = id := rfl
      rw [this, List.map_id]
    have e2 : (c.nodes.map (fun p => ((p, (q : Int)) : Nd × Int).1)) = c.nodes := by simp
    rw [e]
    refine List.nodup_append.2 ⟨h1 c (by simp), ih (q + 1) (fun d hd => h1 d (by simp [hd])) (fun a ha b hb => h2 a (by simp [cellsF, ha]) b (by simp [cellsF, hb])), fun a ha b hb hab => ?_⟩
    subst hab
    obtain ⟨⟨y, z⟩, hy, e3⟩ := List.mem_map.1 hb
    simp only at e3
    subst e3
    have := h2 (y, (q : Int)) (by simp only [cellsF]; exact List.mem_append_left _ (List.mem_map.2 ⟨y, ha, rfl⟩)) (y, z) (by simp only [cellsF]; exact List.mem_append_right _ hy) rfl
    obtain ⟨i, _, hz, _⟩ := (mem_cellsF cs (q + 1)).1 hy
    simp only at this
    omega
theorem OfOk.nodup {cs : List Cls} {roots : List Int} (h : OfOk cs roots) : ((cellsL cs).map (·.1)).Nodup := by
  refine cellsF_nodup cs 0 (fun c hc => ?_) h.one
  obtain ⟨i, hi, e⟩ := List.getElem_of_mem hc
  have e2 : clA cs i = c := by unfold clA; rw [List.getD_eq_getElem?_getD, List.getElem?_eq_getElem hi]; exact e
  have := h.sorted i hi
  rw [e2] at this
  refine List.Pairwise.imp_of_mem (fun {a b} ha hb hab e3 => ?_) this
  subst e3
  rw [nodC_self (h.form c hc a ha)] at hab
  omega
/-- What the document's look at each node asks. -/
structure CellOk (cs : List Cls) : Prop where
  form : ∀ c ∈ cellsL cs, formB c.1 = true
  kids : ∀ c ∈ cellsL cs, ∀ k ∈ c.1.kids, 0 ≤ k ∧ k < (cs.length : Int)
  nodup : ((cellsL cs).map (·.1)).Nodup
theorem nodup_one : ∀ {l : List (Nd × Int)}, (l.map (·.1)).Nodup → ∀ c ∈ l, ∀ d ∈ l, c.1 = d.1 → c = d := by
  intro l
  induction l with
  | nil => intro _ c hc; cases hc
  | cons a l ih =>
    intro h c hc d hd e
    rw [List.map_cons] at h
    obtain ⟨h1, h2⟩ := List.nodup_cons.1 h
    rcases List.mem_cons.1 hc with rfl | hc2 <;> rcases List.mem_cons.1 hd with rfl | hd2
    · rfl
    · exact absurd (show c.1 ∈ l.map (·.1) from List.mem_map.2 ⟨d, hd2, e.symm⟩) h1
    · exact absurd (show d.1 ∈ l.map (·.1) from List.mem_map.2 ⟨c, hc2, e⟩) h1
    · exact ih h2 c hc2 d hd2 e
theorem CellOk.inCs {cs : List Cls} (h : CellOk cs) : InCs cs.length (cellsL cs) :=
  ⟨fun ⟨x, z⟩ hc => by obtain ⟨h1, h2, _⟩ := mem_cells.1 hc; exact ⟨h1, h2⟩, h.kids, h.form, fun c hc d hd e => by rw [nodup_one h.nodup c hc d hd e]⟩
/-- A class without an expression: no graph. -/
theorem OfOk.low {cs : List Cls} {roots : List Int} (h : OfOk cs roots) {sz : Int → Int} (hf : FixS cs.length (cellsL cs) sz) {q : Int} (h0 : 0 ≤ q) (h1 : q < (cs.length : Int)) : sz q = szP cs q ∧ sz q < 1073741824 := by
  have e := hf.unique h.fixS h.inCs q h0 h1
  exact ⟨e, by rw [e]; exact (h.szRng q h0 h1).2⟩
/-- The document's least nodes are the program's. -/
theorem OfOk.least {cs : List Cls} {roots : List Int} (h : OfOk cs roots) {sz : Int → Int} (hf : FixS cs.length (cellsL cs) sz) {ls : Int → Nd} {F : Nat} (hF : 1073741824 ≤ F) (hl : LstO cs.length (cellsL cs) sz ls F) : ∀ q, 0 ≤ q → q < (cs.length : Int) → ls q = lsP cs q := by
  have hM : ∀ q, 0 ≤ q → q < (cs.length : Int) → sz q < 1073741824 := fun q h0 h1 => (h.low hf h0 h1).2
  have hL := hl.lay h.inCs hf hM
  have key : ∀ (v : Nat) (q : Int), 0 ≤ q → q < (cs.length : Int) → sz q < (v : Int) → ls q = lsP cs q := by
    intro v
    induction v with
    | zero => intro q h0 h1 h2; have := (hf.rng q h0 h1).1; omega
    | succ v ih =>
      intro q h0 h1 h2
      by_cases hv : sz q < (v : Int)
      · exact ih q h0 h1 hv
      have hq : InS cs.length sz 1073741824 q := ⟨h0, h1, hM q h0 h1⟩
      obtain ⟨hm, he⟩ := hl.mem q h0 h1
      obtain ⟨p1, p2, p3⟩ := h.lst q.toNat (by omega)
      have hpm : (lsP cs q, q) ∈ cellsL cs := mem_cells.2 ⟨h0, h1, p1⟩
      obtain ⟨s1, s2, _⟩ := hf.sum h.inCs hm
      obtain ⟨t1, t2, _⟩ := hf.sum h.inCs hpm
      simp only at s1 s2 t1 t2
      have hsum : ∀ ks : List Int, (∀ k ∈ ks, 0 ≤ k ∧ k < (cs.length : Int)) → sumK sz ks = sumK (szP cs) ks := fun ks hk => sumK_congr fun k hkk => (h.low hf (hk k hkk).1 (hk k hkk).2).1
      have kk := h.inCs.kids _ hm
      have kp := h.inCs.kids _ hpm
      simp only at kk kp
      have hsz : szP cs q = (clA cs q.toNat).size := rfl
      have hqe := (h.low hf h0 h1).1
      have hqM := hM q h0 h1
      have hpe : 1 + sumK sz (lsP cs q).kids = sz q := by rw [hsum _ kp, hqe, hsz]; exact p2
      have hle : 1 + sumK sz (ls q).kids = sz q := by omega
      -- by the document it is no more, by the program no less
      have m1 := hl.min (lsP cs q, q) hpm (by simp only; omega)
      simp only at m1
      have m2 := p3 (ls q) (by have := mem_cells.1 hm; exact this.2.2) (by rw [← hsum _ kk, hle, hqe, hsz])
      have hsmall : ∀ k ∈ (ls q).kids, InS cs.length sz (v : Int) k := fun k hk => ⟨(kk k hk).1, (kk k hk).2, by have := s2 k hk; omega⟩
      have hsmallp : ∀ k ∈ (lsP cs q).kids, InS cs.length sz (v : Int) k := fun k hk => ⟨(kp k hk).1, (kp k hk).2, by have := t2 k hk; omega⟩
      have hvM : (v : Int) ≤ 1073741824 := by omega
      have hnum := ordO_num (hL.mono hvM) (fun p r hp hr hlt => by
        rcases h.lt hp.1 hlt hr.2.1 with e | ⟨e1, e2⟩
        · left; rw [(h.low hf hp.1 hp.2.1).1, (h.low hf hr.1 hr.2.1).1]; exact e
        · right
          rw [(h.low hf hp.1 hp.2.1).1, (h.low hf hr.1 hr.2.1).1, ih p hp.1 hp.2.1 hp.2.2, ih r hr.1 hr.2.1 hr.2.2]
          exact ⟨e1, e2⟩) F
      have hsg : 0 ≤ nodC (ordO sz ls F) (lsP cs q) (ls q) → 0 ≤ nodC cmp3 (lsP cs q) (ls q) := by
        unfold nodC
        generalize heads (lsP cs q) (ls q) = c
        revert hsmall hsmallp
        generalize (ls q).kids = ms
        generalize (lsP cs q).kids = ks
        intro a1 a2
        revert ms c
        induction ks with
        | nil => intro c ms _; rw [ordK_nil, ordK_nil]; exact id
        | cons k ks ihk =>
          intro c ms b1
          cases ms with
          | nil => simp [ordK]
          | cons m ms =>
            by_cases hc : c = 0
            · subst hc
              rw [ordK_zero, ordK_zero]
              have hk1 := a2 k (by simp)
              have hm1 := b1 m (by simp)
              obtain ⟨n1, n2, n3⟩ := hnum k m hk1 hm1 (by have := hk1.2.2; omega) (by have := hm1.2.2; omega)
              rcases Int.lt_trichotomy k m with e | e | e
              · intro hh
                have := n1 e
                rw [ordK_nz _ (by omega)] at hh
                omega
              · rw [n3 e, (cmp3_zero k m).2 e]
                exact ihk (fun x hx => a2 x (by simp [hx])) 0 ms (fun x hx => b1 x (by simp [hx]))
              · intro _
                have e2 : cmp3 k m = 1 := by unfold cmp3; rw [if_neg (by omega), if_pos e]
                rw [e2, ordK_nz _ (by omega)]
                omega
            · rw [ordK_nz _ hc, ordK_nz _ hc]; exact id
      have m3 := hsg m1
      have fq := h.inCs.form _ hm
      have fp := h.inCs.form _ hpm
      have n1 := cmpN.neg _ _ fq fp
      have m2' : 0 ≤ nodC cmp3 (ls q) (lsP cs q) := m2
      simp only at n1
      exact nodC_zero (P := fun _ => True) (F := cmp3) (fun a b _ _ e => (cmp3_zero a b).1 e) ⟨fq, fun _ _ => trivial⟩ ⟨fp, fun _ _ => trivial⟩ (by omega)
  intro q h0 h1
  exact key 1073741824 q h0 h1 (hM q h0 h1)
end Go.Proofs.YtlbmijcpalfaeaaGreatDoor
