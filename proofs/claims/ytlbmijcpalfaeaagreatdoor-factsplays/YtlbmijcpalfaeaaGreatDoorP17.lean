/-
  PcH.
-/
import Derived.Test.YtlbmijcpalfaeaaGreatDoorP16
set_option linter.unusedSimpArgs false
set_option linter.unusedVariables false
namespace Go.Proofs.YtlbmijcpalfaeaaGreatDoor
open Go.RowKit Go.Lib
/-- How the document lays the classes out. -/
structure AllO (n : Nat) (sz : Int → Int) (ls : Int → Nd) (F : Nat) (al : List Int) : Prop where
  perm : al.Perm (rngI n)
  srt : al.Pairwise fun p q => ordO sz ls F p q ≤ 0
theorem renN_id {n : Nat} {x : Nd} (h : ∀ k ∈ x.kids, 0 ≤ k ∧ k < (n : Int)) : renN (rngI n) x = x := by
  unfold renN
  have : x.kids.map (plA (rngI n)) = x.kids := by
    conv => rhs; rw [← List.map_id x.kids]
    exact List.map_congr_left fun k hk => plA_range (h k hk).1 (h k hk).2
  rw [this]
/-- A row of nodes in order goes in one behind the other. -/
theorem arr_class {al : List Int} : ∀ (l : List Nd) (ns : List (List Nd)) (q : Int) (a : List Nd), (plA al q).toNat < ns.length → ns.getD (plA al q).toNat [] = a → (∀ x ∈ l, renN al x = x) → (a ++ l).Pairwise (fun x y => nodC cmp3 x y < 0) → (∀ x ∈ a ++ l, formB x = true) → (l.map (fun x => (x, q))).foldl (arrS al) ns = ns.set (plA al q).toNat (a ++ l) := by
  intro l
  induction l with
  | nil =>
    intro ns q a h1 h2 _ _ _
    rw [List.append_nil, List.map_nil, List.foldl_nil, ← h2, List.getD_eq_getElem?_getD, List.getElem?_eq_getElem h1]
    simp
  | cons x l ih =>
    intro ns q a h1 h2 h3 h4 h5
    rw [List.map_cons, List.foldl_cons]
    have e : arrS al ns (x, q) = ns.set (plA al q).toNat (a ++ [x]) := by
      unfold arrS
      simp only
      rw [h2, h3 x (by simp)]
      congr 1
      refine insF_end ?_
      by_cases e : a = []
      · exact .inl e
      · right
        have hl : a.length - 1 < a.length := by have := List.length_pos_iff.2 e; omega
        rw [ndA_get hl]
        have hp := (List.pairwise_append.1 h4).2.2 a[a.length - 1] (List.getElem_mem hl) x (by simp)
        have n1 := cmpN.neg _ _ (h5 a[a.length - 1] (by simp)) (h5 x (by simp))
        omega
    rw [e, ih (ns.set (plA al q).toNat (a ++ [x])) q (a ++ [x]) (by simpa using h1) (by simp [h1]) (fun y hy => h3 y (by simp [hy])) (by simpa using h4) (by simpa using h5)]
    simp
theorem arr_all {n : Nat} : ∀ (cs : List Cls) (q : Nat) (ns : List (List Nd)), ns.length = n → q + cs.length ≤ n → (∀ i, q ≤ i → ns.getD i [] = []) → (∀ c ∈ cs, ∀ x ∈ c.nodes, formB x = true ∧ ∀ k ∈ x.kids, 0 ≤ k ∧ k < (n : Int)) → (∀ c ∈ cs, c.nodes.Pairwise fun x y => nodC cmp3 x y < 0) → ∀ i, ((cellsF q cs).foldl (arrS (rngI n)) ns).getD i [] = if q ≤ i ∧ i < q + cs.length then (clA cs (i - q)).nodes else ns.getD i [] := by
  intro cs
  induction cs with
  | nil => intro q ns _ _ _ _ _ i; simp only [cellsF, List.foldl_nil, List.length_nil]; rw [if_neg (by omega)]
  | cons c cs ih =>
    intro q ns hn hq h0 hf hp i
    simp only [List.length_cons] at hq ⊢
    simp only [cellsF, List.foldl_append]
    have hpl : (plA (rngI n) (q : Int)).toNat = q := by rw [plA_range (by omega) (by omega)]; omega
    have e := arr_class (al := rngI n) c.nodes ns (q : Int) [] (by rw [hpl]; omega) (by rw [hpl]; exact h0 q (Nat.le_refl _)) (fun x hx => renN_id (hf c (by simp) x hx).2) (by simpa using hp c (by simp)) (by simpa using fun x hx => (hf c (by simp) x hx).1)
    rw [List.nil_append, hpl] at e
    rw [e, ih (q + 1) (ns.set q c.nodes) (by simpa using hn) (by omega) (fun i hi => by
      have := h0 i (by omega)
      simp only [List.getD_eq_getElem?_getD] at this ⊢
      rw [List.getElem?_set_ne (by omega)]; exact this) (fun d hd => hf d (by simp [hd])) (fun d hd => hp d (by simp [hd])) i]
    by_cases e1 : i = q
    · subst e1
      rw [if_neg (by omega), if_pos (by omega), Nat.sub_self]
      simp only [List.getD_eq_getElem?_getD]
      rw [List.getElem?_set_self (by omega)]
      rfl
    · by_cases e2 : q + 1 ≤ i ∧ i < q + 1 + cs.length
      · rw [if_pos e2, if_pos (by omega)]
        have : i - q = (i - (q + 1)) + 1 := by omega
        rw [this]; rfl
      · rw [if_neg e2, if_neg (by omega)]
        simp only [List.getD_eq_getElem?_getD]
        rw [List.getElem?_set_ne (by omega)]
theorem cls_ext {c d : Cls} (h1 : c.nodes = d.nodes) (h2 : c.size = d.size) : c = d := by
  cases c; cases d; simp only at h1 h2; rw [h1, h2]
theorem cs_ext {cs ds : List Cls} (hl : cs.length = ds.length) (h : ∀ i, i < cs.length → (clA cs i).nodes = (clA ds i).nodes ∧ (clA cs i).size = (clA ds i).size) : cs = ds := by
  refine List.ext_getElem hl fun i h1 h2 => ?_
  have := h i h1
  unfold clA at this
  rw [List.getD_eq_getElem?_getD, List.getD_eq_getElem?_getD, List.getElem?_eq_getElem h1, List.getElem?_eq_getElem h2] at this
  exact cls_ext this.1 this.2
theorem arrC_len (al : List Int) (n : Nat) (sz : Int → Int) (cells : List (Nd × Int)) : (arrC al n sz cells).length = n := by simp [arrC]
theorem arrC_at {al : List Int} {n : Nat} {sz : Int → Int} {cells : List (Nd × Int)} {i : Nat} (h : i < n) : clA (arrC al n sz cells) i = ⟨(arrF al n cells).getD i [], sz (al.getD i 0)⟩ := by
  unfold clA arrC
  rw [List.getD_eq_getElem?_getD, List.getElem?_map, List.getElem?_range h]
  rfl
/-- What the program takes, the document finds laid out as it is. -/
theorem OfOk.laid {cs : List Cls} {roots : List Int} (h : OfOk cs roots) {sz : Int → Int} (hf : FixS cs.length (cellsL cs) sz) {ls : Int → Nd} {F : Nat} (hF : 1073741824 ≤ F) (hl : LstO cs.length (cellsL cs) sz ls F) {al : List Int} (ha : AllO cs.length sz ls F al) : arrC al cs.length sz (cellsL cs) = cs ∧ roots.map (plA al) = roots := by
  have hM : ∀ q, 0 ≤ q → q < (cs.length : Int) → sz q < 1073741824 := fun q h0 h1 => (h.low hf h0 h1).2
  have hL := hl.lay h.inCs hf hM
  have hls := h.least hf hF hl
  have hnum := ordO_num hL (fun p r hp hr hlt => by
    rcases h.lt hp.1 hlt hr.2.1 with e | ⟨e1, e2⟩
    · left; rw [(h.low hf hp.1 hp.2.1).1, (h.low hf hr.1 hr.2.1).1]; exact e
    · right
      rw [(h.low hf hp.1 hp.2.1).1, (h.low hf hr.1 hr.2.1).1, hls p hp.1 hp.2.1, hls r hr.1 hr.2.1]
      exact ⟨e1, e2⟩) F
  have hin : ∀ q ∈ al, 0 ≤ q ∧ q < (cs.length : Int) := fun q hq => mem_rngI.1 (ha.perm.mem_iff.1 hq)
  have hal : al = rngI cs.length := by
    refine List.Perm.eq_of_pairwise (le := fun a b : Int => a ≤ b) (fun a b _ _ h1 h2 => by omega) ?_ ?_ ha.perm
    · refine List.Pairwise.imp_of_mem (fun {a b} hm1 hm2 hab => ?_) ha.srt
      have h1 := hin a hm1
      have h2 := hin b hm2
      have := (hnum a b ⟨h1.1, h1.2, hM a h1.1 h1.2⟩ ⟨h2.1, h2.2, hM b h2.1 h2.2⟩ (by have := hM a h1.1 h1.2; omega) (by have := hM b h2.1 h2.2; omega)).2.1
      rcases Int.lt_or_le b a with e | e
      · have := this e; omega
      · exact e
    · unfold rngI
      exact List.Pairwise.map _ (fun a b h => by omega) (List.pairwise_lt_range (n := cs.length))
  subst hal
  refine ⟨cs_ext (arrC_len _ _ _ _) fun i hi => ?_, ?_⟩
  · rw [arrC_len] at hi
    rw [arrC_at hi]
    simp only
    refine ⟨?_, ?_⟩
    · have := arr_all (n := cs.length) cs 0 (List.replicate cs.length []) (by simp) (by omega) (fun i _ => by
        simp only [List.getD_eq_getElem?_getD]
        rcases Nat.lt_or_ge i cs.length with h | h
        · simp [h]
        · rw [List.getElem?_eq_none (by simpa using h)]; rfl) (fun c hc x hx => ⟨h.form c hc x hx, h.kids c hc x hx⟩) (fun c hc => by
          obtain ⟨j, hj, e⟩ := List.getElem_of_mem hc
          have e2 : clA cs j = c := by unfold clA; rw [List.getD_eq_getElem?_getD, List.getElem?_eq_getElem hj]; exact e
          rw [← e2]; exact h.sorted j hj) i
      unfold arrF cellsL
      rw [this, if_pos (by omega), Nat.sub_zero]
    · rw [rngI_at hi, (h.low hf (q := (i : Int)) (by omega) (by omega)).1]
      unfold szP
      rw [Int.toNat_natCast]
  · conv => rhs; rw [← List.map_id roots]
    exact List.map_congr_left fun k hk => plA_range (h.roots k hk).1 (h.roots k hk).2
/-- What the document finds laid out as it is, the program takes. -/
theorem doc_ok {cs : List Cls} {roots : List Int} (h1 : cs.length ≤ 4096) (h2 : mnyL cs ≤ 8192) (h3 : ∀ r ∈ roots, 0 ≤ r ∧ r < (cs.length : Int)) (hk : CellOk cs) {sz : Int → Int} (hf : FixS cs.length (cellsL cs) sz) (hM : ∀ q, 0 ≤ q → q < (cs.length : Int) → sz q < 1073741824) {ls : Int → Nd} {F : Nat} (hF : 1073741824 ≤ F) (hl : LstO cs.length (cellsL cs) sz ls F) {al : List Int} (ha : AllO cs.length sz ls F al) (he : arrC al cs.length sz (cellsL cs) = cs) : OfOk cs roots := by
  have hC := hk.inCs
  have hL := hl.lay hC hf hM
  have hspec := arrF_spec al (cellsL cs) (List.replicate cs.length []) hk.form (fun i => by
    have e : (List.replicate cs.length ([] : List Nd)).getD i [] = [] := by
      simp only [List.getD_eq_getElem?_getD]
      rcases Nat.lt_or_ge i cs.length with h | h
      · simp [h]
      · rw [List.getElem?_eq_none (by simpa using h)]; rfl
    rw [e]; exact ⟨List.Pairwise.nil, fun x hx => by cases hx⟩)
  rw [← arrF] at hspec
  obtain ⟨_, k2, _, k4⟩ := hspec
  have hat : ∀ i, i < cs.length → (clA cs i).nodes = (arrF al cs.length (cellsL cs)).getD i [] ∧ (clA cs i).size = sz (al.getD i 0) := fun i hi => by
    have := arrC_at (al := al) (sz := sz) (cells := cellsL cs) hi
    rw [he] at this
    rw [this]; exact ⟨rfl, rfl⟩
  -- the classes stay where they are
  have hid : ∀ (v : Nat) (q : Int), 0 ≤ q → q < (cs.length : Int) → sz q < (v : Int) → plA al q = q := by
    intro v
    induction v with
    | zero => intro q h0 h1 h2; have := (hf.rng q h0 h1).1; omega
    | succ v ih =>
      intro q h0 h1 h2
      obtain ⟨hm, _⟩ := hl.mem q h0 h1
      have hkk := hL.kids q ⟨h0, h1, hM q h0 h1⟩
      have hren : renN al (ls q) = ls q := by
        unfold renN
        have : (ls q).kids.map (plA al) = (ls q).kids := by
          conv => rhs; rw [← List.map_id (ls q).kids]
          exact List.map_congr_left fun k hk => ih k (hkk k hk).1 (hkk k hk).2.1 (by have := (hkk k hk).2.2; omega)
        rw [this]
      obtain ⟨a1, a2, _⟩ := plA_at ha.perm h0 h1
      have := k4 (ls q, q) hm (by simp only [List.length_replicate]; omega)
      simp only [hren] at this
      rw [← (hat _ (by omega)).1] at this
      have h5 : (ls q, plA al q) ∈ cellsL cs := mem_cells.2 ⟨a1, a2, this⟩
      exact (hC.one _ h5 _ hm rfl)
  have hpl : ∀ q, 0 ≤ q → q < (cs.length : Int) → plA al q = q := fun q h0 h1 => hid 1073741824 q h0 h1 (hM q h0 h1)
  have hlen : al.length = cs.length := by rw [ha.perm.length_eq, rngI_len]
  have hali : ∀ i, i < cs.length → al.getD i 0 = (i : Int) := fun i hi => by
    obtain ⟨_, _, a3⟩ := plA_at ha.perm (q := (i : Int)) (by omega) (by omega)
    rw [hpl _ (by omega) (by omega), Int.toNat_natCast] at a3
    exact a3
  have hszP : ∀ q, 0 ≤ q → q < (cs.length : Int) → szP cs q = sz q := fun q h0 h1 => by
    unfold szP
    rw [(hat q.toNat (by omega)).2, hali _ (by omega)]
    congr 1; omega
  have hord : ∀ p q : Int, 0 ≤ p → p < q → q < (cs.length : Int) → ordO sz ls F p q < 0 := fun p q h0 hpq h1 => by
    have e := List.pairwise_iff_getElem.1 ha.srt p.toNat q.toNat (by omega) (by omega) (by omega)
    have e1 := hali p.toNat (by omega)
    have e2 := hali q.toNat (by omega)
    rw [List.getD_eq_getElem?_getD, List.getElem?_eq_getElem (by omega)] at e1 e2
    simp only [Option.getD_some] at e1 e2
    rw [e1, e2, show ((p.toNat : Nat) : Int) = p by omega, show ((q.toNat : Nat) : Int) = q by omega] at e
    by_cases e3 : ordO sz ls F p q = 0
    · have := ordO_zero F 1073741824 hL p q ⟨h0, by omega, hM p h0 (by omega)⟩ ⟨by omega, h1, hM q (by omega) h1⟩ (by have := hM p h0 (by omega); omega) (by have := hM q (by omega) h1; omega) e3
      omega
    · omega
  have hinS : ∀ q : Int, 0 ≤ q → q < (cs.length : Int) → InS cs.length sz 1073741824 q := fun q h0 h1 => ⟨h0, h1, hM q h0 h1⟩
  have hnum : ∀ k m : Int, 0 ≤ k → k < (cs.length : Int) → 0 ≤ m → m < (cs.length : Int) → (k < m → ordO sz ls F k m < 0) ∧ (m < k → 0 < ordO sz ls F k m) ∧ (k = m → ordO sz ls F k m = 0) := fun k m a1 a2 b1 b2 => by
    have hc := ordO_cmp F 1073741824 hL
    refine ⟨fun e => hord k m a1 e b2, fun e => ?_, fun e => by subst e; exact hc.self (hinS k a1 a2)⟩
    have := hord m k b1 e a2
    have := hc.neg k m (hinS k a1 a2) (hinS m b1 b2)
    omega
  have hnod : ∀ x y : Nd, (∀ k ∈ x.kids, 0 ≤ k ∧ k < (cs.length : Int)) → (∀ k ∈ y.kids, 0 ≤ k ∧ k < (cs.length : Int)) → ∀ (c d : Int), (c < 0 ↔ d < 0) → (0 < c ↔ 0 < d) → (ordK (ordO sz ls F) c x.kids y.kids < 0 ↔ ordK cmp3 d x.kids y.kids < 0) ∧ (0 < ordK (ordO sz ls F) c x.kids y.kids ↔ 0 < ordK cmp3 d x.kids y.kids) := by
    intro x y
    generalize x.kids = ks
    generalize y.kids = ms
    revert ms
    induction ks with
    | nil => intro ms _ _ c d h1 h2; rw [ordK_nil, ordK_nil]; exact ⟨h1, h2⟩
    | cons k ks ihk =>
      intro ms a1 a2 c d h1 h2
      cases ms with
      | nil => simp only [ordK]; exact ⟨h1, h2⟩
      | cons m ms =>
        by_cases hc : c = 0
        · have hd : d = 0 := by omega
          subst hc; subst hd
          rw [ordK_zero, ordK_zero]
          obtain ⟨i1, i2, i3⟩ := hnum k m (a1 k (by simp)).1 (a1 k (by simp)).2 (a2 m (by simp)).1 (a2 m (by simp)).2
          refine ihk ms (fun x hx => a1 x (by simp [hx])) (fun x hx => a2 x (by simp [hx])) _ _ ?_ ?_
          · unfold cmp3
            rcases Int.lt_trichotomy k m with e | e | e
            · simp [e, i1 e]
            · have := i3 e; subst e; simp [this]
            · have := i2 e; simp [show ¬ k < m by omega, e]; omega
          · unfold cmp3
            rcases Int.lt_trichotomy k m with e | e | e
            · have := i1 e; simp [e]; omega
            · have := i3 e; subst e; simp [this]
            · have := i2 e; simp [show ¬ k < m by omega, e]; omega
        · have hd : ¬ d = 0 := by omega
          rw [ordK_nz _ hc, ordK_nz _ hd]
          exact ⟨h1, h2⟩
  have hnodF : ∀ {x y : Nd} {p q : Int}, (x, p) ∈ cellsL cs → (y, q) ∈ cellsL cs → (nodC (ordO sz ls F) x y < 0 ↔ nodC cmp3 x y < 0) ∧ (0 < nodC (ordO sz ls F) x y ↔ 0 < nodC cmp3 x y) := fun {x y p q} hx hy => hnod x y (hC.kids _ hx) (hC.kids _ hy) _ _ Iff.rfl Iff.rfl
  have hform : ∀ i, i < cs.length → ∀ x ∈ (clA cs i).nodes, formB x = true := fun i hi x hx => hC.form (x, (i : Int)) (mem_cells.2 ⟨by omega, by simp; omega, by simpa using hx⟩)
  have hcell : ∀ i, i < cs.length → ∀ x ∈ (clA cs i).nodes, (x, (i : Int)) ∈ cellsL cs := fun i hi x hx => mem_cells.2 ⟨by omega, by simp; omega, by simpa using hx⟩
  have hcls : ∀ c ∈ cs, ∃ i, i < cs.length ∧ clA cs i = c := fun c hc => by
    obtain ⟨i, hi, e⟩ := List.getElem_of_mem hc
    exact ⟨i, hi, by unfold clA; rw [List.getD_eq_getElem?_getD, List.getElem?_eq_getElem hi]; exact e⟩
  have hsumP : ∀ i, i < cs.length → ∀ x ∈ (clA cs i).nodes, sumK (szP cs) x.kids = sumK sz x.kids := fun i hi x hx => sumK_congr fun k hk => hszP k (hC.kids _ (hcell i hi x hx) k hk).1 (hC.kids _ (hcell i hi x hx) k hk).2
  have hszi : ∀ i, i < cs.length → (clA cs i).size = sz (i : Int) := fun i hi => by
    have := hszP (i : Int) (by omega) (by omega)
    unfold szP at this
    rwa [Int.toNat_natCast] at this
  have hstrict : ∀ i, i < cs.length → (clA cs i).nodes.Pairwise fun a b => nodC cmp3 a b < 0 := fun i hi => by
    have hs : Srt (clA cs i).nodes := by rw [(hat i hi).1]; exact (k2 i).1
    refine List.pairwise_iff_getElem.2 fun a b ha hb hab => ?_
    have := List.pairwise_iff_getElem.1 hs a b ha hb hab
    by_cases e : nodC cmp3 (clA cs i).nodes[a] (clA cs i).nodes[b] = 0
    · have e2 := nodC_zero (P := fun _ => True) (F := cmp3) (fun a b _ _ e => (cmp3_zero a b).1 e) ⟨hform i hi _ (List.getElem_mem ha), fun _ _ => trivial⟩ ⟨hform i hi _ (List.getElem_mem hb), fun _ _ => trivial⟩ e
      exfalso
      have hnd : (clA cs i).nodes.Nodup := by
        have : ((clA cs i).nodes.map fun x => ((x, (i : Int)) : Nd × Int)).Sublist (cellsL cs) := by
          unfold cellsL
          have : ∀ (ds : List Cls) (q j : Nat), j < ds.length → ((clA ds j).nodes.map fun x => ((x, ((q + j : Nat) : Int)) : Nd × Int)).Sublist (cellsF q ds) := by
            intro ds
            induction ds with
            | nil => intro q j hj; simp at hj
            | cons d ds ih =>
              intro q j hj
              cases j with
              | zero => simp only [cellsF]; exact List.sublist_append_left _ _
              | succ j =>
                simp only [cellsF]
                have := ih (q + 1) j (by simpa using hj)
                rw [show q + 1 + j = q + (j + 1) by omega] at this
                exact this.trans (List.sublist_append_right _ _)
          have := this cs 0 i hi
          rwa [Nat.zero_add] at this
        have h5 := (this.map (fun p : Nd × Int => p.1)).nodup hk.nodup
        rw [List.map_map] at h5
        have e5 : ((fun p : Nd × Int => p.1) ∘ fun x => (x, (i : Int))) = id := rfl
        rw [e5, List.map_id] at h5
        exact h5
      exact (List.pairwise_iff_getElem.1 hnd a b ha hb hab) e2
    · omega
  have hls : ∀ i, i < cs.length → lsN cs i = ls (i : Int) := fun i hi => by
    obtain ⟨hm, hme⟩ := hl.mem (i : Int) (by omega) (by omega)
    have hmi : ls (i : Int) ∈ (clA cs i).nodes := by have := (mem_cells.1 hm).2.2; rwa [Int.toNat_natCast] at this
    have rng : ∀ c ∈ cs, 1 ≤ c.size ∧ c.size < 1073741824 := fun c hc => by
      obtain ⟨j, hj, rfl⟩ := hcls c hc
      rw [hszi j hj]
      exact ⟨(hf.rng j (by omega) (by omega)).1, hM j (by omega) (by omega)⟩
    have hsz : ∀ x ∈ (clA cs i).nodes, szF cs 1 x.kids = 1 + sumK sz x.kids := fun x hx => by rw [szF_sum rng (formB_kids (hform i hi x hx)), hsumP i hi x hx]
    have hge : ∀ x ∈ (clA cs i).nodes, sz (i : Int) ≤ 1 + sumK sz x.kids := fun x hx => by
      have a := hf.le _ (hcell i hi x hx)
      have b := (hf.sum hC (hcell i hi x hx)).1
      simp only at a b
      omega
    have hM2 := hM (i : Int) (by omega) (by omega)
    have hse := (hf.sum hC hm).1
    simp only at hse
    have hsum1 : 1 + sumK sz (ls (i : Int)).kids = sz (i : Int) := by omega
    have hsome : (lstF cs (clA cs i)).isSome = true := by
      refine (lstF_iff cs (clA cs i)).2 ⟨fun j hj => ?_, ?_⟩
      · unfold lsG
        simp only [Bool.and_eq_true, Bool.or_eq_true, decide_eq_true_eq, beq_iff_eq]
        refine ⟨?_, ?_⟩
        · cases j with
          | zero => left; rfl
          | succ j =>
            right
            rw [Nat.add_sub_cancel, ordN_nod (hform i hi _ (ndA_mem (by omega))) (hform i hi _ (ndA_mem hj))]
            have := List.pairwise_iff_getElem.1 (hstrict i hi) j (j + 1) (by omega) hj (by omega)
            rw [ndA_get (by omega), ndA_get hj]; exact this
        · rw [hsz _ (ndA_mem hj), hszi i hi]; exact hge _ (ndA_mem hj)
      · obtain ⟨j, hj, e⟩ := mem_ndA hmi
        exact ⟨j, hj, by rw [e, hsz _ hmi, hsum1, hszi i hi]⟩
    obtain ⟨j, e, hj, e2, e3⟩ := lstF_spec hsome
    have e4 : lsN cs i = ndA (clA cs i).nodes j := by unfold lsN; rw [e]; rfl
    obtain ⟨m, hm2, e5⟩ := mem_ndA hmi
    have hjm : j ≤ m := by
      rcases Nat.lt_or_ge m j with h | h
      · exact absurd (by rw [e5, hsz _ hmi, hsum1, hszi i hi]) (e3 m h)
      · exact h
    rw [e4, ← e5]
    rcases Nat.lt_or_ge j m with h | h
    · exfalso
      have s1 := List.pairwise_iff_getElem.1 (hstrict i hi) j m hj hm2 h
      rw [← ndA_get hj, ← ndA_get hm2] at s1
      rw [hsz _ (ndA_mem hj), hszi i hi] at e2
      have b := (hf.sum hC (hcell i hi _ (ndA_mem hj))).1
      simp only at b
      have m1 := hl.min _ (hcell i hi _ (ndA_mem hj)) (by simp only; omega)
      simp only at m1
      rw [e5] at s1
      have := (hnodF (hcell i hi _ (ndA_mem hj)) hm).1.2 s1
      omega
    · have : j = m := by omega
      rw [this]
  refine ⟨h1, h3, h2, fun c hc => ?_, fun c hc x hx k hkk => ?_, fun c hc x hx => ?_, hC.one, fun i hi j hj => ?_, fun i hi x hx => ?_, fun i hi => ?_, fun i hi => ?_⟩
  · obtain ⟨i, hi, rfl⟩ := hcls c hc
    rw [hszi i hi]
    exact ⟨(hf.rng i (by omega) (by omega)).1, hM i (by omega) (by omega)⟩
  · obtain ⟨i, hi, rfl⟩ := hcls c hc
    exact hC.kids _ (hcell i hi x hx) k hkk
  · obtain ⟨i, hi, rfl⟩ := hcls c hc
    exact hform i hi x hx
  · have := List.pairwise_iff_getElem.1 (hstrict i hi) j (j + 1) (by omega) hj (by omega)
    rw [ndA_get (by omega), ndA_get hj]; exact this
  · rw [hsumP i hi x hx, hszi i hi]
    have a := hf.le _ (hcell i hi x hx)
    have b := (hf.sum hC (hcell i hi x hx)).1
    simp only at a b
    omega
  · rw [hls i hi]
    obtain ⟨hm, hme⟩ := hl.mem (i : Int) (by omega) (by omega)
    have hmi : ls (i : Int) ∈ (clA cs i).nodes := by have := (mem_cells.1 hm).2.2; rwa [Int.toNat_natCast] at this
    have hM2 := hM (i : Int) (by omega) (by omega)
    have hse := (hf.sum hC hm).1
    simp only at hse
    refine ⟨hmi, by rw [hsumP i hi _ hmi, hszi i hi]; omega, fun x hx e => ?_⟩
    rw [hsumP i hi x hx, hszi i hi] at e
    have b := (hf.sum hC (hcell i hi x hx)).1
    simp only at b
    have m1 := hl.min _ (hcell i hi x hx) (by simp only; omega)
    simp only at m1
    have := (hnodF (hcell i hi x hx) hm).1
    omega
  · have h7 := hord (i : Int) ((i + 1 : Nat) : Int) (by omega) (by omega) (by omega)
    obtain ⟨hm, _⟩ := hl.mem (i : Int) (by omega) (by omega)
    obtain ⟨hm2, _⟩ := hl.mem ((i + 1 : Nat) : Int) (by omega) (by omega)
    unfold lexC lsP
    simp only
    rw [hszP _ (by omega) (by omega), hszP _ (by omega) (by omega), Int.toNat_natCast, Int.toNat_natCast, hls i (by omega), hls (i + 1) hi]
    cases F with
    | zero => omega
    | succ f =>
      simp only [ordO] at h7
      rw [if_neg (by omega)] at h7
      by_cases c1 : sz (i : Int) < sz ((i + 1 : Nat) : Int)
      · rw [show cmp3 (sz (i : Int)) (sz ((i + 1 : Nat) : Int)) = -1 from by unfold cmp3; rw [if_pos c1]]
        rw [if_neg (by omega)]; omega
      · by_cases c2 : sz ((i + 1 : Nat) : Int) < sz (i : Int)
        · rw [if_neg c1, if_pos c2] at h7; omega
        · rw [if_neg c1, if_neg c2] at h7
          rw [show cmp3 (sz (i : Int)) (sz ((i + 1 : Nat) : Int)) = 0 from by unfold cmp3; rw [if_neg c1, if_neg c2], if_pos rfl]
          have hkk1 := hL.kids (i : Int) (hinS _ (by omega) (by omega))
          have hkk2 := hL.kids ((i + 1 : Nat) : Int) (hinS _ (by omega) (by omega))
          have hMi := hM (i : Int) (by omega) (by omega)
          have hMi2 := hM ((i + 1 : Nat) : Int) (by omega) (by omega)
          have e : nodC (ordO sz ls f) (ls (i : Int)) (ls ((i + 1 : Nat) : Int)) = nodC (ordO sz ls (f + 1)) (ls (i : Int)) (ls ((i + 1 : Nat) : Int)) := by
            unfold nodC
            refine ordKC _ _ _ fun k hk m hm => ?_
            obtain ⟨a1, a2, a3⟩ := hkk1 k hk
            obtain ⟨b1, b2, b3⟩ := hkk2 m hm
            exact ordO_congr f (f + 1) 1073741824 k m hL (fun _ _ => rfl) (hinS k a1 a2) (hinS m b1 b2) (by omega) (by omega) (by omega) (by omega)
          rw [e] at h7
          exact (hnodF hm hm2).1.1 h7
end Go.Proofs.YtlbmijcpalfaeaaGreatDoor
