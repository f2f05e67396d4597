/-
  DcQ, DcQP.
-/
import Derived.Test.YtlbmijcpalfaeaaGreatDoorP41
set_option linter.unusedSimpArgs false
set_option linter.unusedVariables false
namespace Go.Proofs.YtlbmijcpalfaeaaGreatDoor
open Go.RowKit Go.Lib

/-- A class in the making: its row's slice, its nodes with their kids' slices, its size. -/
abbrev Ac := Value × List (Nd × Value) × Int
def ac0 : Ac := (.slice none 0 0, [], 0)
def acCells : List Ac → List Value
  | [] => []
  | r :: l => r.1 :: .int .i64 r.2.2 :: acCells l
theorem acCells_len (l : List Ac) : (acCells l).length = l.length * 2 := by
  induction l with
  | nil => rfl
  | cons a r ih => simp [acCells, ih]; omega
theorem acCells_at (l : List Ac) (i : Nat) (hi : i < l.length) : (acCells l)[i * 2]? = some (l.getD i ac0).1 ∧ (acCells l)[i * 2 + 1]? = some (.int .i64 (l.getD i ac0).2.2) := by
  induction l generalizing i with
  | nil => simp at hi
  | cons a r ih =>
    cases i with
    | zero => simp [acCells]
    | succ i =>
      have := ih i (by simpa using hi)
      have e : (i + 1) * 2 = i * 2 + 2 := by omega
      rw [e]
      simpa [acCells] using this
theorem acCells_setS (l : List Ac) (i : Nat) (v : Value) (p : List (Nd × Value)) (hi : i < l.length) : (acCells l).set (i * 2) v = acCells (l.set i (v, p, (l.getD i ac0).2.2)) := by
  induction l generalizing i with
  | nil => simp at hi
  | cons a r ih =>
    cases i with
    | zero => simp [acCells]
    | succ i =>
      have := ih i (by simpa using hi)
      have e : (i + 1) * 2 = i * 2 + 2 := by omega
      rw [e]
      simp only [acCells, List.set_cons_succ, List.getD_cons_succ]
      rw [this]
theorem acCells_setZ (l : List Ac) (i : Nat) (z : Int) (hi : i < l.length) : (acCells l).set (i * 2 + 1) (.int .i64 z) = acCells (l.set i ((l.getD i ac0).1, (l.getD i ac0).2.1, z)) := by
  induction l generalizing i with
  | nil => simp at hi
  | cons a r ih =>
    cases i with
    | zero => simp [acCells]
    | succ i =>
      have := ih i (by simpa using hi)
      have e : (i + 1) * 2 + 1 = i * 2 + 1 + 2 := by omega
      rw [e]
      simp only [acCells, List.set_cons_succ, List.getD_cons_succ]
      rw [this]
theorem getD_setA (l : List Ac) (q i : Nat) (x : Ac) : (l.set q x).getD i ac0 = if i = q ∧ q < l.length then x else l.getD i ac0 := by
  simp only [List.getD_eq_getElem?_getD]
  by_cases e : i = q
  · subst e
    by_cases h : i < l.length
    · rw [if_pos ⟨rfl, h⟩, List.getElem?_set_self h]; rfl
    · rw [if_neg (fun hh => h hh.2), List.getElem?_eq_none (by simpa using h), List.getElem?_eq_none (by omega)]
  · rw [if_neg (fun hh => e hh.1), List.getElem?_set_ne (fun h => e h.symm)]
structure ArM (B n CB PB : Nat) (R : List Ac) (rv : Value) (rs : List Int) (w : World) : Prop where
  row : w.ownsRow B 49 2 (.slice (some ⟨CB, 0, none⟩) n n) n (acCells R)
  len : R.length = n
  own : ∀ i, i < n → OwnP w B (R.getD i ac0).1 (R.getD i ac0).2.1
  ap : ∀ i j, i < n → j < n → i ≠ j → ∀ b, (R.getD i ac0).1.ownBlock = some b → (R.getD j ac0).1.ownBlock ≠ some b
  pb : w.heap[PB]? = some (.cells #[.slice (some ⟨CB, 0, none⟩) n n, rv] 26 (0, 0))
  pbB : B ≤ PB
  rr : OwnI w B rv rs
  apk : ∀ i, i < n → ∀ r ∈ (R.getD i ac0).2.1, ∀ b, r.2.ownBlock = some b → rv.ownBlock ≠ some b
theorem ArM.below {B n CB PB : Nat} {R : List Ac} {rv : Value} {rs : List Int} {w w2 : World} (h : ArM B n CB PB R rv rs w) (hb : Below w.heap.size w w2) : ArM B n CB PB R rv rs w2 :=
  ⟨ownsRow_below h.row hb, h.len, fun i hi => (h.own i hi).below hb, h.ap, (hb.block _ (lt_of_block h.pb)).trans h.pb, h.pbB, h.rr.below hb, h.apk⟩
theorem neTy {w : World} {b : Nat} {cs : Array Value} {T e : TypeId} {fr : Nat × Nat} {base s n : Nat} {v : Value} {xs : List Value} (h : w.ownsRow base e s v n xs) (hR : w.heap[b]? = some (.cells cs T fr)) (hne : e ≠ T) : v.ownBlock ≠ some b := by
  intro hh
  obtain ⟨_, _, cap, cu, _, h4, _⟩ := rw_block h hh
  rw [h4] at hR
  injection hR with hR
  injection hR with _ hR _
  exact hne hR
theorem ownPset {w : World} {B b o : Nat} {v u : Value} {p : List (Nd × Value)} {cs : Array Value} {T : TypeId} {fr : Nat × Nat} (h : OwnP w B v p) (hR : w.heap[b]? = some (.cells cs T fr)) (h1 : 41 ≠ T) (h2 : 3 ≠ T) : OwnP (w.setCell ⟨b, o, none⟩ u) B v p :=
  ⟨ownSetO h.row (neTy h.row hR h1), fun q hq => ownSetO (h.kids q hq) (neTy (h.kids q hq) hR h2)⟩
theorem ArM.cb {B n CB PB : Nat} {R : List Ac} {rv : Value} {rs : List Int} {w : World} (h : ArM B n CB PB R rv rs w) : B ≤ CB ∧ ∃ cur, w.heap[CB]? = some (.cells cur 49 (0, 0)) := by
  obtain ⟨h1, _, cap, cur, _, h2, _⟩ := rw_block h.row (b := CB) rfl
  exact ⟨h1, cur, h2⟩
/-- A class's size is laid. -/
theorem ArM.putZ {B n CB PB : Nat} {R : List Ac} {rv : Value} {rs : List Int} {w : World} (h : ArM B n CB PB R rv rs w) {i : Nat} (hi : i < n) (z : Int) : ArM B n CB PB (R.set i ((R.getD i ac0).1, (R.getD i ac0).2.1, z)) rv rs (w.setCell ⟨CB, i * 2 + 1, none⟩ (.int .i64 z)) := by
  obtain ⟨hB, cur, hcb⟩ := h.cb
  have hl := h.len
  have hpb : PB ≠ CB := by rintro rfl; have := h.pb; rw [hcb] at this; injection this with this; injection this with _ this _; exact absurd this (by decide)
  have hg : ∀ j, j < n → ((R.set i ((R.getD i ac0).1, (R.getD i ac0).2.1, z)).getD j ac0).1 = (R.getD j ac0).1 ∧ ((R.set i ((R.getD i ac0).1, (R.getD i ac0).2.1, z)).getD j ac0).2.1 = (R.getD j ac0).2.1 := fun j hj => by
    rw [getD_setA]; split
    · rename_i e; rw [e.1]; exact ⟨rfl, rfl⟩
    · exact ⟨rfl, rfl⟩
  refine ⟨?_, by rw [List.length_set]; exact hl, fun j hj => ?_, fun j k hj hk hjk b hb => ?_, (Deep.blk_setCell_other _ _ _ _ (by show PB ≠ CB; exact hpb)).trans h.pb, h.pbB, ownSetO h.rr (neTy h.rr hcb (by decide)), fun j hj => by rw [(hg j hj).2]; exact h.apk j hj⟩
  · rw [← acCells_setZ R i z (by omega)]; exact rw_put h.row _ _
  · rw [(hg j hj).1, (hg j hj).2]; exact ownPset (h.own j hj) hcb (by decide) (by decide)
  · rw [(hg j hj).1] at hb; rw [(hg k hk).1]; exact h.ap j k hj hk hjk b hb
/-- A class's row has turned: a node more. -/
theorem ArM.ins {B n CB PB : Nat} {R : List Ac} {rv : Value} {rs : List Int} {w w6 : World} (h : ArM B n CB PB R rv rs w) {q : Nat} (hq : q < n) {g cap m : Nat} {p' : List (Nd × Value)} (hown : w6.ownsRow B 41 4 (.slice (some ⟨g, 0, none⟩) m cap) m (ndCells p')) (hm : p'.length = m) (hk : ∀ r ∈ p', OwnI w B r.2 r.1.kids) (hg : w.grownBy w6 (R.getD q ac0).1.ownBlock) (hat : (R.getD q ac0).1.ownBlock = some g ∨ w.heap.size ≤ g) (hkr : ∀ r ∈ p', ∀ b, r.2.ownBlock = some b → rv.ownBlock ≠ some b) :
    ArM B n CB PB (R.set q (.slice (some ⟨g, 0, none⟩) m cap, p', (R.getD q ac0).2.2)) rv rs (w6.setCell ⟨CB, q * 2, none⟩ (.slice (some ⟨g, 0, none⟩) m cap)) := by
  obtain ⟨hB, cur, hcb⟩ := h.cb
  have hl := h.len
  have hq0 := h.own q hq
  have hCq : (R.getD q ac0).1.ownBlock ≠ some CB := neTy hq0.row hcb (by decide)
  have hPq : (R.getD q ac0).1.ownBlock ≠ some PB := neTy hq0.row h.pb (by decide)
  have hcb6 : w6.heap[CB]? = some (.cells cur 49 (0, 0)) := (hg.block CB (lt_of_block hcb) (fun e => hCq e.symm)).trans hcb
  have hpb6 : w6.heap[PB]? = some (.cells #[.slice (some ⟨CB, 0, none⟩) n n, rv] 26 (0, 0)) := (hg.block PB (lt_of_block h.pb) (fun e => hPq e.symm)).trans h.pb
  have hpb : PB ≠ CB := by rintro rfl; rw [hcb6] at hpb6; injection hpb6 with this; injection this with _ this _; exact absurd this (by decide)
  have hrow6 : w6.ownsRow B 49 2 (.slice (some ⟨CB, 0, none⟩) n n) n (acCells R) := World.ownsRow.kept h.row hg (ownBlock_ne h.row hq0.row (by decide))
  have hrr6 : OwnI w6 B rv rs := World.ownsRow.kept h.rr hg (ownBlock_ne h.rr hq0.row (by decide))
  have hk6 : ∀ (v : Value) (ks : List Int), OwnI w B v ks → OwnI w6 B v ks := fun v ks ho => World.ownsRow.kept ho hg (ownBlock_ne ho hq0.row (by decide))
  have hoth : ∀ j, j < n → j ≠ q → OwnP w6 B (R.getD j ac0).1 (R.getD j ac0).2.1 := fun j hj hjq => ⟨World.ownsRow.kept (h.own j hj).row hg (by
    cases hb : (R.getD j ac0).1.ownBlock with
    | none => exact .inl rfl
    | some b => exact .inr (fun e => h.ap j q hj hq hjq b hb e.symm)), fun r hr => hk6 _ _ ((h.own j hj).kids r hr)⟩
  have hgt : ∀ j, ((R.set q (.slice (some ⟨g, 0, none⟩) m cap, p', (R.getD q ac0).2.2)).getD j ac0) = if j = q then (.slice (some ⟨g, 0, none⟩) m cap, p', (R.getD q ac0).2.2) else R.getD j ac0 := fun j => by
    rw [getD_setA]
    by_cases e : j = q
    · rw [if_pos ⟨e, by omega⟩, if_pos e]
    · rw [if_neg (fun hh => e hh.1), if_neg e]
  have hyo : ∀ j, j < n → j ≠ q → (R.getD j ac0).1.ownBlock ≠ some g := fun j hj hjq e => by
    rcases hat with h1 | h1
    · exact h.ap j q hj hq hjq g e h1
    · have := (rw_block (h.own j hj).row e).2.1; omega
  refine ⟨?_, by rw [List.length_set]; exact hl, fun j hj => ?_, fun j k hj hk' hjk b hb => ?_, (Deep.blk_setCell_other _ _ _ _ (by show PB ≠ CB; exact hpb)).trans hpb6, h.pbB, ownSetO hrr6 (neTy hrr6 hcb6 (by decide)), fun j hj => by
    rw [hgt]
    split
    · exact hkr
    · exact h.apk j hj⟩
  · rw [← acCells_setS R q _ p' (by omega)]; exact rw_put hrow6 _ _
  · rw [hgt]
    split
    · have : OwnP w6 B (.slice (some ⟨g, 0, none⟩) m cap) p' := ⟨by rw [hm]; exact hown, fun r hr => hk6 _ _ (hk r hr)⟩
      exact ownPset this hcb6 (by decide) (by decide)
    · rename_i e; exact ownPset (hoth j hj e) hcb6 (by decide) (by decide)
  · rw [hgt] at hb
    rw [hgt]
    split at hb
    · rename_i e
      rw [if_neg (by omega)]
      simp [Value.ownBlock] at hb
      subst hb
      exact hyo k hk' (by omega)
    · rename_i e
      split
      · intro e2
        simp [Value.ownBlock] at e2
        subst e2
        exact hyo j hj e hb
      · exact h.ap j k hj hk' hjk b hb
/-- A root more. -/
theorem ArM.root {B n CB PB : Nat} {R : List Ac} {rv : Value} {rs : List Int} {w w6 : World} (h : ArM B n CB PB R rv rs w) {v' : Value} {rs' : List Int} (hown : OwnI w6 B v' rs') (hg : w.grownBy w6 rv.ownBlock) (hat : v'.ownBlock = rv.ownBlock ∨ ∀ b, v'.ownBlock = some b → w.heap.size ≤ b) : ArM B n CB PB R v' rs' (w6.setCell ⟨PB, 1, none⟩ v') := by
  have hP : rv.ownBlock ≠ some PB := neTy h.rr h.pb (by decide)
  have hpb6 : w6.heap[PB]? = some (.cells #[.slice (some ⟨CB, 0, none⟩) n n, rv] 26 (0, 0)) := (hg.block PB (lt_of_block h.pb) (fun e => hP e.symm)).trans h.pb
  have hrow6 : w6.ownsRow B 49 2 (.slice (some ⟨CB, 0, none⟩) n n) n (acCells R) := World.ownsRow.kept h.row hg (ownBlock_ne h.row h.rr (by decide))
  have hown6 : ∀ i, i < n → OwnP w6 B (R.getD i ac0).1 (R.getD i ac0).2.1 := fun i hi => ⟨World.ownsRow.kept (h.own i hi).row hg (ownBlock_ne (h.own i hi).row h.rr (by decide)), fun r hr => World.ownsRow.kept ((h.own i hi).kids r hr) hg (by
    cases hb : r.2.ownBlock with
    | none => exact .inl rfl
    | some b => exact .inr (fun e => h.apk i hi r hr b hb e.symm))⟩
  refine ⟨ownSetO hrow6 (neTy hrow6 hpb6 (by decide)), h.len, fun i hi => ownPset (hown6 i hi) hpb6 (by decide) (by decide), h.ap, ?_, h.pbB, ownSetO hown (neTy hown hpb6 (by decide)), fun i hi r hr b hb e => ?_⟩
  · have := heap_setCell_same w6 PB 1 _ _ v' hpb6
    rw [this]; rfl
  · rcases hat with h1 | h1
    · exact h.apk i hi r hr b hb (by rw [← h1]; exact e)
    · have := h1 b e
      have h2 := (rw_block ((h.own i hi).kids r hr) hb).2.1
      omega
/-- As a picture that is read. -/
theorem ArM.clss {B n CB PB : Nat} {R : List Ac} {rv : Value} {rs : List Int} {w : World} (h : ArM B n CB PB R rv rs w) (hn : n ≤ 4096) : Clss w w.heap.size (.slice (some ⟨CB, 0, none⟩) n n) (R.map fun r => ⟨r.2.1.map (·.1), r.2.2⟩) := by
  have hl := h.len
  obtain ⟨_, cur, hcb⟩ := h.cb
  refine ⟨_, n, by rw [List.length_map, hl], by rw [List.length_map]; omega, by unfold maxLen; omega, .inr ⟨CB, 0, rfl, lt_of_block hcb, fun i hi => ?_⟩⟩
  rw [List.length_map] at hi
  obtain ⟨a0, a1⟩ := acCells_at R i hi
  have hr := rdr_own h.row
  have ho := h.own i (by omega)
  have e : (R.map fun r : Ac => (⟨r.2.1.map (·.1), r.2.2⟩ : Cls)).getD i cls0 = ⟨(R.getD i ac0).2.1.map (·.1), (R.getD i ac0).2.2⟩ := by
    simp only [List.getD_eq_getElem?_getD, List.getElem?_map]
    rw [List.getElem?_eq_getElem hi]; rfl
  rw [e, Nat.zero_add]
  obtain ⟨na, nc, e2, hN⟩ : ∃ na nc, (R.getD i ac0).1 = .slice na ((R.getD i ac0).2.1.map (·.1)).length nc ∧ Nodes w w.heap.size (.slice na ((R.getD i ac0).2.1.map (·.1)).length nc) ((R.getD i ac0).2.1.map (·.1)) := by
    have := Nodes_of_own (w := w) (base := B) (v := (R.getD i ac0).1) (l := (R.getD i ac0).2.1.map (·.1)) ⟨_, rfl, ho⟩ (Nat.le_refl _)
    obtain ⟨ao, cap, e, _⟩ := id this
    exact ⟨ao, cap, e, by rw [← e]; exact this⟩
  refine ⟨na, nc, ?_, hr.cell (b := CB) rfl a1, hN⟩
  rw [← e2]
  exact hr.cell (b := CB) rfl a0
end Go.Proofs.YtlbmijcpalfaeaaGreatDoor

set_option linter.unusedSimpArgs false
set_option linter.unusedVariables false
namespace Go.Proofs.YtlbmijcpalfaeaaGreatDoor
open Go.RowKit Go.Lib

theorem ArM.cell {B n CB PB : Nat} {R : List Ac} {rv : Value} {rs : List Int} {w : World} (h : ArM B n CB PB R rv rs w) {i : Nat} (hi : i < n) : w.cell? ⟨CB, i * 2, none⟩ = some (R.getD i ac0).1 ∧ w.cell? ⟨CB, i * 2 + 1, none⟩ = some (.int .i64 (R.getD i ac0).2.2) ∧ ∀ j, w.frozen? ⟨CB, j, none⟩ = false := by
  obtain ⟨a0, a1⟩ := acCells_at R i (by rw [h.len]; exact hi)
  have hr := rdr_own h.row
  exact ⟨hr.cell (b := CB) rfl a0, hr.cell (b := CB) rfl a1, fun j => rw_fro h.row j⟩
theorem ArM.pcell {B n CB PB : Nat} {R : List Ac} {rv : Value} {rs : List Int} {w : World} (h : ArM B n CB PB R rv rs w) : w.cell? ⟨PB, 0, none⟩ = some (.slice (some ⟨CB, 0, none⟩) n n) ∧ w.cell? ⟨PB, 1, none⟩ = some rv ∧ ∀ j, w.frozen? ⟨PB, j, none⟩ = false := by
  have := h.pb
  simp [World.cell?, World.frozen?, this]
theorem ArM.kept {B n CB PB : Nat} {R : List Ac} {rv : Value} {rs : List Int} {w w6 : World} (h : ArM B n CB PB R rv rs w) {q : Nat} (hq : q < n) (hg : w.grownBy w6 (R.getD q ac0).1.ownBlock) : w6.cell? ⟨PB, 0, none⟩ = some (.slice (some ⟨CB, 0, none⟩) n n) ∧ w6.cell? ⟨CB, q * 2, none⟩ = some (R.getD q ac0).1 ∧ w6.frozen? ⟨CB, q * 2, none⟩ = false := by
  obtain ⟨hB, cur, hcb⟩ := h.cb
  have hq0 := h.own q hq
  have hC := hg.block CB (lt_of_block hcb) (fun e => (neTy hq0.row hcb (by decide) : _ ≠ some CB) e.symm)
  have hP := hg.block PB (lt_of_block h.pb) (fun e => (neTy hq0.row h.pb (by decide) : _ ≠ some PB) e.symm)
  obtain ⟨c0, _, cf⟩ := h.cell hq
  exact ⟨(World.cell?_of_block (a := ⟨PB, 0, none⟩) hP).trans h.pcell.1, (World.cell?_of_block (a := ⟨CB, q * 2, none⟩) hC).trans c0, (World.frozen?_of_block (a := ⟨CB, q * 2, none⟩) hC).trans (cf _)⟩
theorem ArM.setO {B n CB PB : Nat} {R : List Ac} {rv : Value} {rs : List Int} {w : World} (h : ArM B n CB PB R rv rs w) {b o : Nat} {u : Value} {cs : Array Value} {fr : Nat × Nat} (hb : w.heap[b]? = some (.cells cs 26 fr)) (hne : PB ≠ b) : ArM B n CB PB R rv rs (w.setCell ⟨b, o, none⟩ u) :=
  ⟨ownSetO h.row (neTy h.row hb (by decide)), h.len, fun i hi => ownPset (h.own i hi) hb (by decide) (by decide), h.ap, (Deep.blk_setCell_other _ _ _ _ (by show PB ≠ b; exact hne)).trans h.pb, h.pbB, ownSetO h.rr (neTy h.rr hb (by decide)), h.apk⟩
theorem arrCell_n1 {w : World} {a : Value} {T : TypeId} : ∀ j v, [a][j]? = some v → (w.alloc (.cells #[a] T)).drew.cell? ((⟨w.heap.size, 0, none⟩ : Addr).add j) = some v := fun j v h => by
  have hb : (w.alloc (.cells #[a] T)).drew.heap[w.heap.size]? = some (.cells #[a] T (0, 0)) := by
    show (w.alloc (.cells #[a] T)).heap[w.heap.size]? = _
    rw [Deep.blk_alloc_new]
  exact World.news_of_block hb j v (by simpa using h)
/-- What the picture in the making says. -/
structure ArP (al : List Int) (n : Nat) (zs : List Int) (l : List (Nd × Int)) (j : Nat) (R : List Ac) : Prop where
  len : R.length = n
  nodes : R.map (fun r => r.2.1.map (·.1)) = (l.take j).foldl (arrS al) (List.replicate n [])
  sz : ∀ c, c < n → (R.getD c ac0).2.2 = szLs zs (al.getD c 0)
  le : ∀ c, (R.getD c ac0).2.1.length ≤ j
  form : ∀ c, ∀ q ∈ (R.getD c ac0).2.1, formB q.1 = true
theorem ArP.start {al : List Int} {n : Nat} {zs : List Int} {l : List (Nd × Int)} {R : List Ac} (hl : R.length = n) (h : ∀ c, (R.getD c ac0).1 = .slice none 0 0 ∧ (R.getD c ac0).2.1 = [] ∧ (c < n → (R.getD c ac0).2.2 = szLs zs (al.getD c 0))) : ArP al n zs l 0 R := by
  refine ⟨hl, ?_, fun c hc => (h c).2.2 hc, fun c => by rw [(h c).2.1]; simp, fun c q hq => by rw [(h c).2.1] at hq; cases hq⟩
  rw [List.take_zero, List.foldl_nil]
  apply List.ext_getElem?
  intro i
  rw [List.getElem?_map, List.getElem?_replicate]
  by_cases hi : i < n
  · rw [if_pos hi, List.getElem?_eq_getElem (by omega)]
    have := (h i).2.1
    rw [List.getD_eq_getElem?_getD, List.getElem?_eq_getElem (by omega)] at this
    simp only [Option.getD_some] at this
    simp [this]
  · rw [if_neg hi, List.getElem?_eq_none (by omega)]; rfl
theorem ArP.ins {al : List Int} {n : Nat} {zs : List Int} {l : List (Nd × Int)} {j : Nat} {R : List Ac} (h : ArP al n zs l j R) (hj : j < l.length) (hf : formB (l.getD j ce0).1 = true) {q : Nat} (hq : q < n) (hq2 : plA al (l.getD j ce0).2 = (q : Int)) (v kv : Value) : ArP al n zs l (j + 1) (R.set q (v, insP (R.getD q ac0).2.1 (renN al (l.getD j ce0).1) kv, (R.getD q ac0).2.2)) := by
  have hl := h.len
  have hg : ∀ c, (R.set q (v, insP (R.getD q ac0).2.1 (renN al (l.getD j ce0).1) kv, (R.getD q ac0).2.2)).getD c ac0 = if c = q then (v, insP (R.getD q ac0).2.1 (renN al (l.getD j ce0).1) kv, (R.getD q ac0).2.2) else R.getD c ac0 := fun c => by
    rw [getD_setA]
    by_cases e : c = q
    · rw [if_pos ⟨e, by omega⟩, if_pos e]
    · rw [if_neg (fun hh => e hh.1), if_neg e]
  refine ⟨by rw [List.length_set]; exact hl, ?_, fun c hc => ?_, fun c => ?_, fun c x hx => ?_⟩
  · rw [List.take_add_one, List.getElem?_eq_getElem hj, List.foldl_append, ← h.nodes]
    simp only [Option.toList, List.foldl_cons, List.foldl_nil, arrS]
    have e : l.getD j ce0 = l[j] := by rw [List.getD_eq_getElem?_getD, List.getElem?_eq_getElem hj]; rfl
    rw [e] at hq2 ⊢
    rw [hq2, Int.toNat_natCast, List.map_set]
    simp only
    rw [insP_map]
    congr 2
    simp only [List.getD_eq_getElem?_getD, List.getElem?_map]
    rw [List.getElem?_eq_getElem (by omega)]; rfl
  · rw [hg]; split
    · rename_i e; rw [e]; exact h.sz q hq
    · exact h.sz c hc
  · rw [hg]; split
    · rename_i e; simp only; rw [insP_len]; have := h.le q; omega
    · have := h.le c; omega
  · rw [hg] at hx
    split at hx
    · simp only at hx
      unfold insP at hx
      rw [List.mem_append, List.mem_cons] at hx
      rcases hx with hx | rfl | hx
      · exact h.form q x (List.mem_of_mem_take hx)
      · exact renN_form hf
      · exact h.form q x (List.mem_of_mem_drop hx)
    · exact h.form c x hx
theorem ArP.done {al : List Int} {n : Nat} {zs : List Int} {l : List (Nd × Int)} {R : List Ac} (h : ArP al n zs l l.length R) : (R.map fun r : Ac => (⟨r.2.1.map (·.1), r.2.2⟩ : Cls)) = arrC al n (szLs zs) l := by
  have hl := h.len
  unfold arrC arrF
  have hn := h.nodes
  rw [List.take_length] at hn
  rw [← hn]
  apply List.ext_getElem?
  intro i
  rw [List.getElem?_map, List.getElem?_map]
  by_cases hi : i < n
  · have hs := h.sz i hi
    rw [List.getD_eq_getElem?_getD, List.getElem?_eq_getElem (by omega)] at hs
    simp only [Option.getD_some] at hs
    rw [List.getElem?_eq_getElem (by omega), List.getElem?_range hi]
    simp only [Option.map_some]
    rw [hs]
    congr 2
    rw [List.getD_eq_getElem?_getD, List.getElem?_map, List.getElem?_eq_getElem (by omega)]; rfl
  · rw [List.getElem?_eq_none (by omega), List.getElem?_eq_none (by simp; omega)]; rfl
/-- Kids renamed, one after another. -/
theorem kids_ren {al ks ys : List Int} (hl : ys.length = ks.length) (h : ∀ t, t < ks.length → ys.getD t 0 = plA al (ks.getD t 0)) : ys = ks.map (plA al) := by
  apply List.ext_getElem (by simp [hl])
  intro i h1 h2
  have := h i (by omega)
  rw [List.getD_eq_getElem?_getD, List.getElem?_eq_getElem h1, List.getD_eq_getElem?_getD, List.getElem?_eq_getElem (by omega)] at this
  simpa using this
end Go.Proofs.YtlbmijcpalfaeaaGreatDoor
