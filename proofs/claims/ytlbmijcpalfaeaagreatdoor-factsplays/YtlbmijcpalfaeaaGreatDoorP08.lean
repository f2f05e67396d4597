/-
  ApRows, ApBase, PoB, GpP, GpW1.
-/
import Derived.Test.YtlbmijcpalfaeaaGreatDoorP07
import Derived.Below
set_option linter.unusedSimpArgs false
set_option linter.unusedVariables false
namespace Go.Proofs.YtlbmijcpalfaeaaGreatDoor
open Go.RowKit

section
variable {w w' : World} {base : Nat} {e e' : TypeId} {size size' n n' : Nat} {v v' : Value} {xs xs' : List Value}
theorem rw_block (h : w.ownsRow base e size v n xs) {b : Nat} (hb : v.ownBlock = some b) : base ≤ b ∧ b < w.heap.size ∧ ∃ cap cur, v = .slice (some ⟨b, 0, none⟩) n cap ∧ w.heap[b]? = some (.cells cur e (0, 0)) ∧ cur.toList.take (n * size) = xs := by
  rcases h.2 with ⟨rfl, _⟩ | ⟨g, cap, cur, rfl, h1, h2, _, _, _, h3⟩
  · cases hb
  · cases hb
    refine ⟨h1, ?_, cap, cur, rfl, h2, h3⟩
    rcases Nat.lt_or_ge g w.heap.size with h | h
    · exact h
    · rw [Array.getElem?_eq_none h] at h2; cases h2
theorem rw_same (h : w.ownsRow base e size v n xs) (hs : ∀ b, v.ownBlock = some b → w'.heap[b]? = w.heap[b]?) : w'.ownsRow base e size v n xs := by
  refine ⟨h.1, ?_⟩
  rcases h.2 with h | ⟨g, cap, cur, rfl, h1, h2, h3⟩
  · exact .inl h
  · exact .inr ⟨g, cap, cur, rfl, h1, (hs g rfl).trans h2, h3⟩
theorem rw_ne (h : w.ownsRow base e size v n xs) (h' : w.ownsRow base e' size' v' n' xs') (hne : e ≠ e') {b : Nat} (hb : v.ownBlock = some b) : some b ≠ v'.ownBlock := by
  intro hb'
  obtain ⟨_, _, _, _, _, h1, _⟩ := rw_block h hb
  obtain ⟨_, _, _, _, _, h2, _⟩ := rw_block h' hb'.symm
  rw [h1] at h2
  simp at h2
  exact hne h2.2
theorem rw_form (h : w.ownsRow base e size v n xs) : ∃ ao cap, v = .slice ao n cap := by
  rcases h.2 with ⟨rfl, rfl⟩ | ⟨g, cap, cur, rfl, _⟩
  · exact ⟨none, 0, rfl⟩
  · exact ⟨_, cap, rfl⟩
theorem rw_put {g cap : Nat} (h : w.ownsRow base e size (.slice (some ⟨g, 0, none⟩) n cap) n xs) (i : Nat) (x : Value) : (w.setCell ⟨g, i, none⟩ x).ownsRow base e size (.slice (some ⟨g, 0, none⟩) n cap) n (xs.set i x) := by
  obtain ⟨h1, h2⟩ := h
  refine ⟨by rw [List.length_set]; exact h1, ?_⟩
  rcases h2 with ⟨h2, _⟩ | ⟨g', cap', cur, h3, hb, hg, hn, hm, hs, ht⟩
  · cases h2
  · cases h3
    refine .inr ⟨g, cap, cur.setIfInBounds i x, rfl, hb, heap_setCell_same w g _ cur _ _ hg, hn, hm, by simpa using hs, ?_⟩
    rw [← ht]
    simp [List.take_set]
/-- What a row reads as, whoever owns it. -/
def Rdr (w : World) (e : TypeId) (v : Value) (xs : List Value) : Prop := ∀ b, v.ownBlock = some b → ∃ cur fr, w.heap[b]? = some (.cells cur e fr) ∧ cur.toList.take xs.length = xs
theorem rdr_own (h : w.ownsRow base e size v n xs) : Rdr w e v xs := fun b hb => by
  obtain ⟨_, _, cap, cur, _, h1, h2⟩ := rw_block h hb
  exact ⟨cur, _, h1, by rw [h.1]; exact h2⟩
theorem Rdr.same (h : Rdr w e v xs) (hs : ∀ b, v.ownBlock = some b → w'.heap[b]? = w.heap[b]?) : Rdr w' e v xs := fun b hb => by
  obtain ⟨cur, fr, h1, h2⟩ := h b hb
  exact ⟨cur, fr, (hs b hb).trans h1, h2⟩
theorem Rdr.lt (h : Rdr w e v xs) {b : Nat} (hb : v.ownBlock = some b) : b < w.heap.size := by
  obtain ⟨cur, fr, h1, _⟩ := h b hb
  rcases Nat.lt_or_ge b w.heap.size with h | h
  · exact h
  · rw [Array.getElem?_eq_none h] at h1; cases h1
theorem Rdr.ne (h : Rdr w e v xs) (h' : w.ownsRow base e' size' v' n' xs') (hne : e ≠ e') {b : Nat} (hb : v.ownBlock = some b) : some b ≠ v'.ownBlock := by
  intro hb'
  obtain ⟨_, _, h1, _⟩ := h b hb
  obtain ⟨_, _, _, _, _, h2, _⟩ := rw_block h' hb'.symm
  rw [h1] at h2
  simp at h2
  exact hne h2.2.1
theorem Rdr.cell (h : Rdr w e v xs) {b : Nat} (hb : v.ownBlock = some b) {i : Nat} {u : Value} (hu : xs[i]? = some u) : w.cell? ⟨b, i, none⟩ = some u := by
  obtain ⟨cur, fr, h1, h2⟩ := h b hb
  have hl : i < xs.length := (List.getElem?_eq_some_iff.1 hu).1
  have : w.cell? ⟨b, i, none⟩ = cur[i]? := by simp [World.cell?, h1]
  rw [this, ← hu, ← Array.getElem?_toList]
  conv => rhs; rw [← h2]
  rw [List.getElem?_take, if_pos hl]
theorem rdr_prefix {b c : Nat} {ys : List Value} {m : Nat} (h : w.ownsRow base e size v n (xs ++ ys)) (hv : v.ownBlock = v'.ownBlock) : Rdr w e v' xs := fun b hb => by
  obtain ⟨_, _, cap, cur, _, h1, h2⟩ := rw_block h (hv.trans hb)
  refine ⟨cur, _, h1, ?_⟩
  have hl := h.1
  rw [List.length_append] at hl
  have := congrArg (List.take xs.length) h2
  rw [List.take_take, Nat.min_eq_left (by omega)] at this
  rw [this]
  simp
end

/-- No two of the rows lie in one block, none in the list's own. -/
structure RwsAp (n B : Nat) (A : Nat → Option Addr) : Prop where
  ap : ∀ k k', k < n → k' < n → k ≠ k' → ∀ a a', A k = some a → A k' = some a' → a.block ≠ a'.block
  out : ∀ k, k < n → ∀ a, A k = some a → a.block ≠ B
theorem own_blk {ao : Option Addr} {n c b : Nat} : (Value.slice ao n c).ownBlock = some b ↔ ∃ a, ao = some a ∧ a.block = b := by
  cases ao <;> simp [Value.ownBlock]

/-- The first m of a row bear their marks. -/
def Mk (size fld : Nat) (xs : List Value) (from_ m : Nat) : Prop := ∀ j, j < m → xs[j * size + fld]? = some (.int .i64 ((1000000 + from_ + j : Nat) : Int))

/-- The rows, the first i of them marked, and the first j of row i. -/
structure P1 (w : World) (base : Nat) (e : TypeId) (size fld n B : Nat) (A : Nat → Option Addr) (C len off : Nat → Nat) (X : Nat → List Value) (i j : Nat) (wr : World) : Prop where
  own : ∀ k, k < n → wr.ownsRow base e size (.slice (A k) (len k) (C k)) (len k) (X k)
  cel : ∀ k, k < n → wr.cell? ⟨B, k, none⟩ = some (.slice (A k) (len k) (C k))
  mks : ∀ k, k < i → Mk size fld (X k) (off k) (len k)
  mi : Mk size fld (X i) (off i) j
  bel : Below base w wr
  hB : B < w.heap.size
  oth : ∀ q, q < w.heap.size → (∀ k, k < n → ∀ a, A k = some a → a.block ≠ q) → wr.heap[q]? = w.heap[q]?
theorem P1.next {w : World} {base : Nat} {e : TypeId} {size fld n B : Nat} {A : Nat → Option Addr} {C len off : Nat → Nat} {X : Nat → List Value} {i : Nat} {wr : World} (h : P1 w base e size fld n B A C len off X i (len i) wr) : P1 w base e size fld n B A C len off X (i + 1) 0 wr := by
  refine ⟨h.own, h.cel, fun k hk => ?_, fun j hj => by omega, h.bel, h.hB, h.oth⟩
  by_cases hki : k = i
  · subst hki; exact h.mi
  · exact h.mks k (by omega)
/-- A cell of row i is written. -/
theorem P1.put {w : World} {base : Nat} {e : TypeId} {size fld n B : Nat} {A : Nat → Option Addr} {C len off : Nat → Nat} {X : Nat → List Value} {i j : Nat} {wr : World} (h : P1 w base e size fld n B A C len off X i j wr) (hap : RwsAp n B A) (hi : i < n) {g : Nat} (hA : A i = some ⟨g, 0, none⟩) (hf : fld < size) (q : Nat) (hq : j * size ≤ q) (x : Value) :
    P1 w base e size fld n B A C len off (fun k => if k = i then (X i).set q x else X k) i j (wr.setCell ⟨g, q, none⟩ x) := by
  have hoi := h.own i hi
  rw [hA] at hoi
  have hb := rw_block hoi (b := g) rfl
  have hlow : ∀ j', j' < j → j' * size + fld < q := by
    intro j' hj'
    have : (j' + 1) * size ≤ j * size := Nat.mul_le_mul_right _ (by omega)
    rw [Nat.succ_mul] at this
    omega
  refine ⟨fun k hk => ?_, fun k hk => ?_, fun k hk => ?_, fun j' hj' => ?_, h.bel.setCell hb.1 _, h.hB, fun p hp hk => ?_⟩
  · by_cases hki : k = i
    · subst hki
      rw [if_pos rfl, hA]
      exact rw_put hoi q x
    · rw [if_neg hki]
      refine rw_same (h.own k hk) fun b hbk => ?_
      obtain ⟨a, ha, rfl⟩ := own_blk.1 hbk
      exact Deep.blk_setCell_other _ _ _ _ (show a.block ≠ g from hap.ap k i hk hi hki a ⟨g, 0, none⟩ ha hA)
  · rw [World.cell?_of_block (w := wr) (Deep.blk_setCell_other _ _ _ _ (fun e => hap.out i hi _ hA e.symm))]
    exact h.cel k hk
  · have hki : k ≠ i := by omega
    simp only [if_neg hki]
    exact h.mks k hk
  · have := hlow j' hj'
    simp only [if_true]
    rw [List.getElem?_set_ne (by omega)]
    exact h.mi j' hj'
  · rw [Deep.blk_setCell_other _ _ _ _ (show p ≠ g from fun e' => hk i hi _ hA e'.symm)]
    exact h.oth p hp hk
/-- The rows marked, the first i of them grown. -/
structure P2 (w : World) (base : Nat) (e eL : TypeId) (size fld n B : Nat) (A : Nat → Option Addr) (C len off : Nat → Nat) (X : Nat → List Value) (i : Nat) (vg : Value) (gs : List Value) (wr : World) : Prop where
  own : ∀ k, i ≤ k → k < n → wr.ownsRow base e size (.slice (A k) (len k) (C k)) (len k) (X k)
  rdr : ∀ k, k < n → Rdr wr e (.slice (A k) (len k) (C k)) (X k)
  cel : ∀ k, k < n → wr.cell? ⟨B, k, none⟩ = some (.slice (A k) (len k) (C k))
  gro : wr.ownsRow base eL 1 vg i gs
  gfr : ∀ b, vg.ownBlock = some b → w.heap.size ≤ b
  row : ∀ k, k < i → ∃ h c Y, gs[k]? = some (.slice (some ⟨h, 0, none⟩) (len k + 12) c) ∧ wr.ownsRow base e size (.slice (some ⟨h, 0, none⟩) (len k + 12) c) (len k + 12) Y ∧
    (∀ j, j < 12 → Y[(len k + j) * size + fld]? = some (.int .i64 ((1000000 + off n + 12 * k + j : Nat) : Int))) ∧ ∀ k', i ≤ k' → k' < n → ∀ a, A k' = some a → a.block ≠ h
  bel : Below base w wr
  hB : B < w.heap.size
  oth : ∀ q, q < w.heap.size → (∀ k, k < n → ∀ a, A k = some a → a.block ≠ q) → wr.heap[q]? = w.heap[q]?
theorem P1.done {w : World} {base : Nat} {e eL : TypeId} {size fld n B : Nat} {A : Nat → Option Addr} {C len off : Nat → Nat} {X : Nat → List Value} {j : Nat} {wr : World} (h : P1 w base e size fld n B A C len off X n j wr) : P2 w base e eL size fld n B A C len off X 0 (.slice none 0 0) [] wr :=
  ⟨fun k _ hk => h.own k hk, fun k hk => rdr_own (h.own k hk), h.cel, World.ownsRow_nil _ _ _ _, (fun b hb => by cases hb), (fun k hk => by omega), h.bel, h.hB, h.oth⟩

/-- Row i, grown by j. -/
structure P3 (wr : World) (base : Nat) (e : TypeId) (size fld : Nat) (A : Option Addr) (c m : Nat) (xs : List Value) (from_ j : Nat) (vq : Value) (Z : List Value) (wq : World) : Prop where
  own : wq.ownsRow base e size vq (m + j) (xs ++ Z)
  mks : ∀ t, t < j → Z[t * size + fld]? = some (.int .i64 ((1000000 + from_ + t : Nat) : Int))
  gb : wr.grownBy wq (Value.slice A m c).ownBlock
  blk : vq.ownBlock = (Value.slice A m c).ownBlock ∨ ∃ h, vq.ownBlock = some h ∧ wr.heap.size ≤ h
  old : Rdr wq e (.slice A m c) xs
  alt : ∀ b, (Value.slice A m c).ownBlock = some b → b < wr.heap.size
theorem P3.start {wr : World} {base : Nat} {e : TypeId} {size fld : Nat} {A : Option Addr} {c m : Nat} {xs : List Value} {from_ : Nat} (h : wr.ownsRow base e size (.slice A m c) m xs) : P3 wr base e size fld A c m xs from_ 0 (.slice A m c) [] wr :=
  ⟨by simpa using h, fun t ht => by omega, ⟨rfl, rfl, rfl, Nat.le_refl _, fun _ _ _ => rfl⟩, .inl rfl, rdr_own h, fun b hb => (rw_block h hb).2.1⟩
theorem P3.step {wr : World} {base : Nat} {e : TypeId} {size fld : Nat} {A : Option Addr} {c m : Nat} {xs : List Value} {from_ j : Nat} {vq : Value} {Z : List Value} {wq w6 : World} {o : Obj} {g6 cap6 : Nat} {news : List Value} (h : P3 wr base e size fld A c m xs from_ j vq Z wq) (hlx : xs.length = m * size)
    (hown : w6.ownsRow base e size (.slice (some ⟨g6, 0, none⟩) (m + j + 1) cap6) (m + j + 1) (xs ++ Z ++ news)) (hg : (wq.alloc o).grownBy w6 vq.ownBlock) (hd : vq.ownBlock = some g6 ∨ (g6 = (wq.alloc o).heap.size ∧ (wq.alloc o).grownBy w6 none))
    (hn : news[fld]? = some (.int .i64 ((1000000 + from_ + j : Nat) : Int))) : P3 wr base e size fld A c m xs from_ (j + 1) (.slice (some ⟨g6, 0, none⟩) (m + j + 1) cap6) (Z ++ news) w6 := by
  have hZ : Z.length = j * size := by
    have := h.own.1
    rw [List.length_append, hlx, Nat.add_mul] at this
    omega
  have hsz := h.gb.size
  have hb6 : ∀ k, k < wq.heap.size → some k ≠ vq.ownBlock → w6.heap[k]? = wq.heap[k]? := fun k hk hne => by
    rw [hg.block k (by rw [World.size_alloc]; omega) hne]
    exact Deep.blk_alloc_lt _ _ _ hk
  refine ⟨by rw [← List.append_assoc]; exact hown, fun t ht => ?_, ⟨hg.os.trans h.gb.os, hg.tape.trans h.gb.tape, hg.output.trans h.gb.output, ?_, fun k hk hne => ?_⟩, ?_, ?_, h.alt⟩
  · by_cases htj : t = j
    · subst htj
      rw [List.getElem?_append_right (by omega), hZ]
      rw [Nat.add_sub_cancel_left]
      exact hn
    · have h1 := h.mks t (by omega)
      have : t * size + fld < Z.length := (List.getElem?_eq_some_iff.1 h1).1
      rw [List.getElem?_append_left this]
      exact h1
  · have := hg.size; rw [World.size_alloc] at this; omega
  · rw [hb6 k (by omega) ?_]
    · exact h.gb.block k hk hne
    · rcases h.blk with h1 | ⟨q, h1, h2⟩
      · rw [h1]; exact hne
      · rw [h1]; intro e; cases e; omega
  · rcases hd with hd | ⟨hd, _⟩
    · have e : (Value.slice (some ⟨g6, 0, none⟩) (m + j + 1) cap6).ownBlock = vq.ownBlock := hd.symm
      rw [e]; exact h.blk
    · exact .inr ⟨g6, rfl, by rw [hd, World.size_alloc]; omega⟩
  · rcases hd with hd | ⟨hd, hg0⟩
    · rcases h.blk with h1 | ⟨q, h1, h2⟩
      · refine rdr_prefix (ys := Z ++ news) (b := 0) (c := 0) (m := 0) (by rw [← List.append_assoc]; exact hown) ?_
        exact hd.symm.trans h1
      · refine h.old.same fun b hb => hb6 b (h.old.lt hb) ?_
        intro e
        rw [h1] at e
        cases e
        have := h.alt _ hb
        omega
    · refine h.old.same fun b hb => ?_
      rw [hg0.block b (by rw [World.size_alloc]; have := h.old.lt hb; omega) (by simp)]
      exact Deep.blk_alloc_lt _ _ _ (h.old.lt hb)

/-- Row i is grown by twelve, and put into the list of the grown. -/
theorem P2.step {w : World} {base : Nat} {e eL : TypeId} {size fld n B : Nat} {A : Nat → Option Addr} {C len off : Nat → Nat} {X : Nat → List Value} {i : Nat} {vg : Value} {gs : List Value} {wr wq w7 : World} {h9 c9 g7 cap7 : Nat} {Z : List Value} {o : Obj}
    (h : P2 w base e eL size fld n B A C len off X i vg gs wr) (hap : RwsAp n B A) (hne : e ≠ eL) (hi : i < n) (hbase : base ≤ wr.heap.size)
    (h3 : P3 wr base e size fld (A i) (C i) (len i) (X i) (off n + 12 * i) 12 (.slice (some ⟨h9, 0, none⟩) (len i + 12) c9) Z wq)
    (hown : w7.ownsRow base eL 1 (.slice (some ⟨g7, 0, none⟩) (i + 1) cap7) (i + 1) (gs ++ [.slice (some ⟨h9, 0, none⟩) (len i + 12) c9])) (hg : (wq.alloc o).grownBy w7 vg.ownBlock) (hd : vg.ownBlock = some g7 ∨ (g7 = (wq.alloc o).heap.size ∧ (wq.alloc o).grownBy w7 none)) :
    P2 w base e eL size fld n B A C len off X (i + 1) (.slice (some ⟨g7, 0, none⟩) (i + 1) cap7) (gs ++ [.slice (some ⟨h9, 0, none⟩) (len i + 12) c9]) w7 := by
  have hs1 := h3.gb.size
  have hs2 := hg.size
  rw [World.size_alloc] at hs2
  have hgl : gs.length = i := by have := h.gro.1; omega
  -- the list of the grown, behind the growth of row i
  have hgq : wq.ownsRow base eL 1 vg i gs := by
    refine rw_same h.gro fun b hb => h3.gb.block b (rw_block h.gro hb).2.1 ?_
    intro e'
    exact (h.rdr i hi).ne h.gro hne e'.symm hb.symm
  have st : ∀ b, b < wr.heap.size → some b ≠ (Value.slice (A i) (len i) (C i)).ownBlock → some b ≠ vg.ownBlock → w7.heap[b]? = wr.heap[b]? := fun b hb h1 h2 => by
    rw [hg.block b (by rw [World.size_alloc]; omega) h2, Deep.blk_alloc_lt _ _ _ (by omega)]
    exact h3.gb.block b hb h1
  have st2 : ∀ b, b < wq.heap.size → some b ≠ vg.ownBlock → w7.heap[b]? = wq.heap[b]? := fun b hb h2 => by
    rw [hg.block b (by rw [World.size_alloc]; omega) h2, Deep.blk_alloc_lt _ _ _ hb]
  have apart : ∀ k, k < n → k ≠ i → ∀ b, (Value.slice (A k) (len k) (C k)).ownBlock = some b → some b ≠ (Value.slice (A i) (len i) (C i)).ownBlock := fun k hk hki b hb e' => by
    obtain ⟨a, ha, rfl⟩ := own_blk.1 hb
    obtain ⟨a', ha', hb'⟩ := own_blk.1 e'.symm
    exact hap.ap k i hk hi hki a a' ha ha' hb'.symm
  have hX : (X i).length = len i * size := (h.own i (Nat.le_refl _) hi).1
  refine ⟨fun k hk hkn => ?_, fun k hk => ?_, fun k hk => ?_, hown, fun b hb => ?_, fun k hk => ?_, ?_, h.hB, fun q hq hk => ?_⟩
  · exact rw_same (h.own k (by omega) hkn) fun b hb => st b ((h.rdr k hkn).lt hb) (apart k hkn (by omega) b hb) ((h.rdr k hkn).ne h.gro hne hb)
  · by_cases hki : k = i
    · subst hki
      exact h3.old.same fun b hb => st2 b (h3.old.lt hb) (h3.old.ne hgq hne hb)
    · exact (h.rdr k hk).same fun b hb => st b ((h.rdr k hk).lt hb) (apart k hk hki b hb) ((h.rdr k hk).ne h.gro hne hb)
  · have n1 : some B ≠ (Value.slice (A i) (len i) (C i)).ownBlock := by
      intro e'
      obtain ⟨a, ha, hb⟩ := own_blk.1 e'.symm
      exact hap.out i hi a ha hb
    have n2 : some B ≠ vg.ownBlock := fun e' => by have := h.gfr B e'.symm; have := h.hB; omega
    exact (World.cell?_of_block (w := wr) (a := ⟨B, k, none⟩) (st B (by have := h.hB; have := h.bel.size; omega) n1 n2)).trans (h.cel k hk)
  · cases hb
    rcases hd with hd | ⟨hd, _⟩
    · exact h.gfr _ hd
    · have := h.bel.size
      have e9 : g7 = wq.heap.size + 1 := by rw [hd, World.size_alloc]
      show w.heap.size ≤ g7
      omega
  · by_cases hki : k = i
    · subst hki
      refine ⟨h9, c9, X k ++ Z, by rw [List.getElem?_append_right (by omega), hgl]; simp, ?_, fun j hj => ?_, fun k' hk1 hk2 a ha e' => ?_⟩
      · exact rw_same h3.own fun b hb => st2 b (rw_block h3.own hb).2.1 (rw_ne h3.own hgq hne hb)
      · rw [List.getElem?_append_right (by rw [hX, Nat.add_mul]; omega), hX]
        have e1 : (len k + j) * size + fld - len k * size = j * size + fld := by rw [Nat.add_mul]; omega
        rw [e1, h3.mks j hj]
        congr 3
        omega
      · have hb : (Value.slice (A k') (len k') (C k')).ownBlock = some h9 := own_blk.2 ⟨a, ha, e'⟩
        rcases h3.blk with h1 | ⟨q, h1, h2⟩
        · exact apart k' hk2 (by omega) h9 hb h1
        · cases h1
          have h2 : wr.heap.size ≤ h9 := h2
          have := (h.rdr k' hk2).lt hb
          omega
    · obtain ⟨hh, c, Y, h1, h2, h4, h5⟩ := h.row k (by omega)
      refine ⟨hh, c, Y, by rw [List.getElem?_append_left (by omega)]; exact h1, ?_, h4, fun k' hk1 hk2 a ha => h5 k' (by omega) hk2 a ha⟩
      refine rw_same h2 fun b hb => st b (rw_block h2 hb).2.1 ?_ (rw_ne h2 h.gro hne hb)
      cases hb
      intro e'
      obtain ⟨a, ha, hb⟩ := own_blk.1 e'.symm
      exact h5 i (Nat.le_refl _) hi a ha hb
  · have b1 : Below base w wq := h.bel.grown h3.gb hbase (fun k hk => (rw_block (h.own i (Nat.le_refl _) hi) hk).1)
    exact (b1.alloc (by omega) _).grown hg (by rw [World.size_alloc]; omega) (fun k hk => (rw_block h.gro hk).1)
  · rw [st q (by have := h.bel.size; omega) ?_ (fun e' => by have := h.gfr q e'.symm; omega)]
    · exact h.oth q hq hk
    · intro e'
      obtain ⟨a, ha, hb⟩ := own_blk.1 e'.symm
      exact hk i hi a ha hb
end Go.Proofs.YtlbmijcpalfaeaaGreatDoor

set_option linter.unusedSimpArgs false
set_option linter.unusedVariables false
namespace Go.Proofs.YtlbmijcpalfaeaaGreatDoor
open Go.RowKit

theorem rw_fro {w : World} {base : Nat} {e : TypeId} {size n g cap : Nat} {xs : List Value} (h : w.ownsRow base e size (.slice (some ⟨g, 0, none⟩) n cap) n xs) (i : Nat) : w.frozen? ⟨g, i, none⟩ = false := by
  obtain ⟨_, _, _, cur, _, h1, _⟩ := rw_block h (b := g) rfl
  simp [World.frozen?, h1]
theorem rw_cell {w : World} {base : Nat} {e : TypeId} {size n g cap : Nat} {xs : List Value} (h : w.ownsRow base e size (.slice (some ⟨g, 0, none⟩) n cap) n xs) {i : Nat} (hi : i < n * size) : ∃ u, w.cell? ⟨g, i, none⟩ = some u ∧ xs[i]? = some u := by
  have hl := h.1
  have hx : xs[i]? = some (xs[i]'(by omega)) := List.getElem?_eq_getElem (by omega)
  exact ⟨_, (rdr_own h).cell (b := g) rfl hx, hx⟩
end Go.Proofs.YtlbmijcpalfaeaaGreatDoor

set_option linter.unusedSimpArgs false
set_option linter.unusedVariables false
namespace Go.Proofs.YtlbmijcpalfaeaaGreatDoor
open Go.RowKit Go.Lib

/-- A fact that the walk does not look into. -/
structure Sld (p : Prop) : Prop where
  out : p
/-- Kids lead to earlier places. -/
def KidsLo (e : List Nd) : Prop := ∀ j, j < e.length → ∀ k ∈ (e.getD j nd0).kids, 0 ≤ k ∧ k < (j : Int)
theorem kidsLo_ok {l : List Nd} {fr : List Nat} (h : BegOk l fr) : KidsLo l := fun j hj k hk => by
  obtain ⟨c, h0, hc, rfl⟩ := (chain_inv (fr := fr) (P := fun c => c ≤ j) (fun c _ hc => by have := h.low (c - 1); omega) _ _ _ (Nat.le_refl j) (h.at_ j hj).2).2 k (by simpa using hk)
  omega
theorem OwnI.putT {w : World} {base g n cap : Nat} {ks : List Int} (h : OwnI w base (.slice (some ⟨g, 0, none⟩) n cap) ks) (hn : ks.length = n) (i : Nat) (x : Int) : OwnI (w.setCell ⟨g, i, none⟩ (.int .i64 x)) base (.slice (some ⟨g, 0, none⟩) n cap) (ks.set i x) := by
  subst hn
  have := rw_put h i (.int .i64 x)
  unfold OwnI
  rw [List.length_set, List.map_set]
  exact this
theorem OwnI.form' {w : World} {base : Nat} {v : Value} {ks : List Int} (h : OwnI w base v ks) : ∃ ao cap, v = .slice ao ks.length cap := rw_form h
/-- No two rows of kids are one. -/
def KdAp (q : List (Nd × Value)) : Prop := q.Pairwise fun a b => ∀ g, a.2.ownBlock = some g → b.2.ownBlock ≠ some g
/-- An expression that is answered: all of its memory is young, no two rows of kids are one. -/
structure ExO (w : World) (v : Value) (l : List Nd) (w' : World) : Prop where
  ex : ∃ q : List (Nd × Value), q.map (·.1) = l ∧ OwnP w' w.heap.size v q ∧ KdAp q
  below : Below w.heap.size w w'
theorem ExO.own {w w' : World} {v : Value} {l : List Nd} (h : ExO w v l w') : OwnN w' w.heap.size v l := let ⟨q, h1, h2, _⟩ := h.ex; ⟨q, h1, h2⟩
end Go.Proofs.YtlbmijcpalfaeaaGreatDoor

set_option linter.unusedSimpArgs false
set_option linter.unusedVariables false
namespace Go.Proofs.YtlbmijcpalfaeaaGreatDoor
open Go.RowKit Go.Lib

/-- A class, plainly. -/
structure Cls where
  nodes : List Nd
  size : Int
def cls0 : Cls := ⟨[], 0⟩
/-- A row of classes, read. -/
def Clss (w : World) (B : Nat) (v : Value) (cs : List Cls) : Prop :=
  ∃ ao cap, v = .slice ao cs.length cap ∧ cs.length ≤ cap ∧ cap ≤ maxLen ∧ (cs = [] ∨ ∃ b o, ao = some ⟨b, o, none⟩ ∧ b < B ∧ ∀ i, i < cs.length → ∃ na nc, w.cell? ⟨b, o + i * 2, none⟩ = some (.slice na (cs.getD i cls0).nodes.length nc) ∧ w.cell? ⟨b, o + i * 2 + 1, none⟩ = some (.int .i64 (cs.getD i cls0).size) ∧ Nodes w B (.slice na (cs.getD i cls0).nodes.length nc) (cs.getD i cls0).nodes)
theorem Clss.below {w w' : World} {B B' : Nat} {v : Value} {cs : List Cls} (h : Clss w B v cs) (hb : Below B w w') (hB : B ≤ B') : Clss w' B' v cs := by
  obtain ⟨ao, cap, h1, h2, h3, h4⟩ := h
  refine ⟨ao, cap, h1, h2, h3, h4.imp id fun ⟨b, o, e, hl, hc⟩ => ⟨b, o, e, by omega, fun i hi => ?_⟩⟩
  obtain ⟨na, nc, c0, c1, hN⟩ := hc i hi
  exact ⟨na, nc, (hb.cell (p := ⟨b, o + i * 2, none⟩) hl).trans c0, (hb.cell (p := ⟨b, o + i * 2 + 1, none⟩) hl).trans c1, hN.below hb hB⟩
theorem Clss.len {w : World} {B : Nat} {ao : Option Addr} {n cap : Nat} {cs : List Cls} (h : Clss w B (.slice ao n cap) cs) : n = cs.length ∧ n ≤ maxLen := by
  obtain ⟨_, _, h1, h2, h3, _⟩ := h
  injection h1 with h1 h4 h5
  exact ⟨h4, by omega⟩
/-- A number of a class. -/
def inC (n : Nat) (k : Int) : Bool := decide (0 ≤ k) && decide (k < (n : Int))
def inR (n : Nat) (ks : List Int) : Bool := ks.all (inC n)
theorem inR_take {n j : Nat} {ks : List Int} (hj : j < ks.length) (h : inR n (ks.take j) = true) (hc : inC n (ks.getD j 0) = true) : inR n (ks.take (j + 1)) = true := by
  unfold inR at h ⊢
  rw [List.take_add_one, List.all_append, h]
  simp only [List.getD_eq_getElem?_getD] at hc
  rw [List.getElem?_eq_getElem hj] at hc ⊢
  simpa using hc
theorem inR_not {n j : Nat} {ks : List Int} (hj : j < ks.length) (hc : inC n (ks.getD j 0) = false) : inR n ks = false := by
  unfold inR
  rw [List.all_eq_false]
  refine ⟨ks[j], List.getElem_mem hj, ?_⟩
  simp only [List.getD_eq_getElem?_getD] at hc
  rw [List.getElem?_eq_getElem hj] at hc
  simpa using hc
/-- What a node comes to by the classes' sizes, in 64 bits. -/
def szKg (cs : List Cls) : List Int → Int
  | [] => 0
  | k :: ks => (cs.getD k.toNat cls0).size + szKg cs ks
/-- What a node comes to by the classes' sizes, as the program counts. -/
def szF (cs : List Cls) : Int → List Int → Int
  | s, [] => s
  | s, k :: ks => szF cs (wrap64 (s + (cs.getD k.toNat cls0).size)) ks
theorem szF_take {cs : List Cls} {ks : List Int} {j : Nat} (s : Int) (hj : j < ks.length) : szF cs s (ks.take (j + 1)) = wrap64 (szF cs s (ks.take j) + (cs.getD (ks.getD j 0).toNat cls0).size) := by
  induction ks generalizing j s with
  | nil => simp at hj
  | cons k ks ih =>
    cases j with
    | zero => simp [szF]
    | succ j =>
      simp only [List.length_cons] at hj
      simp only [List.take_succ_cons, szF, List.getD_cons_succ]
      exact ih _ (by omega)
end Go.Proofs.YtlbmijcpalfaeaaGreatDoor

set_option linter.unusedSimpArgs false
set_option linter.unusedVariables false
namespace Go.Proofs.YtlbmijcpalfaeaaGreatDoor
open Go.RowKit Go.Lib

set_option maxRecDepth 20000 in
set_option maxHeartbeats 4000000 in
theorem inRange_any (ks : List Int) (ka : Option Addr) (kc n : Nat) (ca : Option Addr) (cc : Nat) (rv : Value) (w : World) (hk : Ints w w.heap.size (.slice ka ks.length kc) ks) (hn : n ≤ maxLen) :
    Calls Tryz.prog 88 #[.slice ka ks.length kc, .agg #[.slice ca n cc, rv]] w fun e w' => e = .returned (.bool (inR n ks)) ∧ Below w.heap.size w w' := by
  obtain ⟨W1, hW1⟩ : ∃ W1, w.alloc (.cells #[.slice ca n cc, rv] 26) = W1 := ⟨_, rfl⟩
  have hb1 : Below w.heap.size w W1 := by rw [← hW1]; exact (Below.refl _ _).alloc (Nat.le_refl _) _
  have hk1 : W1.heap[w.heap.size]? = some (.cells #[.slice ca n cc, rv] 26 (0, 0)) := by rw [← hW1, Deep.blk_alloc_new]
  have c0 : W1.cell? ⟨w.heap.size, 0, none⟩ = some (.slice ca n cc) := by simp [World.cell?, hk1]
  have HW1 := Sld.mk hW1
  have HB1 := Sld.mk hb1
  have HK := Sld.mk (hk.below hb1 hb1.size)
  obtain ⟨_, _, e1, hl1, ⟨hl2, _⟩, _⟩ := hk
  injection e1 with e1 e2 e3
  rw [← e3] at hl1 hl2
  unfold maxLen at hl2 hn
  clear hW1 hb1 hk1 e1 e2 e3
  go_enter Tryz.func88, Tryz.ntmps88
  go_wp2_with fail
  rw [HW1.out]
  go_loopw [9] (fun i wr => ∃ j : Nat, j ≤ ks.length ∧ i = .int .i64 j ∧ wr = W1 ∧ Sld (inR n (ks.take j) = true)) (fun i _ => ks.length - (RowKit.intOf i).toNat)
  case atStart => exact ⟨0, Nat.zero_le _, rfl, rfl, ⟨by simp [inR]⟩⟩
  case round =>
    obtain ⟨j, hj, rfl, hwr, HR⟩ := hrel
    subst hwr
    by_cases hlt : j < ks.length
    · obtain ⟨b, o, hka, ck⟩ : ∃ b o, ka = some ⟨b, o, none⟩ ∧ wr.cell? ⟨b, o + j, none⟩ = some (.int .i64 (ks.getD j 0)) := by
        obtain ⟨ao, cap, h1, _, _, h2⟩ := HK.out
        injection h1 with h1 _ _
        rcases h2 with h2 | ⟨b, o, h2, _, h3⟩
        · subst h2; simp at hlt
        · exact ⟨b, o, h1.trans h2, h3 j hlt⟩
      subst hka
      have HT : Sld (inC n (ks.getD j 0) = true → inR n (ks.take (j + 1)) = true) := ⟨fun h => inR_take hlt HR.out h⟩
      have HN : Sld (inC n (ks.getD j 0) = false → inR n ks = false) := ⟨fun h => inR_not hlt h⟩
      generalize ks.getD j 0 = x at *
      have hltI : (j : Int) < (ks.length : Int) := by omega
      by_cases h0 : x < 0
      · have e0 : inC n x = false := by simp [inC]; omega
        go_wp2_with fail
        go_ret
        exact ⟨by rw [HN.out e0]; rfl, HB1.out⟩
      · by_cases h1 : (n : Int) ≤ x
        · have e0 : inC n x = false := by simp [inC]; omega
          go_wp2_with fail
          go_ret
          exact ⟨by rw [HN.out e0]; rfl, HB1.out⟩
        · have e0 : inC n x = true := by simp [inC]; omega
          go_wp2_with fail
          exact ⟨⟨j + 1, by omega, by go_num, trivial, ⟨HT.out e0⟩⟩, by simp [RowKit.intOf]; omega⟩
    · have hje : j = ks.length := by omega
      subst hje
      have e0 : inR n ks = true := by have := HR.out; rwa [List.take_length] at this
      have HE := Sld.mk e0
      clear e0
      go_wp2_with fail
      go_ret
      exact ⟨by rw [HE.out]; rfl, HB1.out⟩
end Go.Proofs.YtlbmijcpalfaeaaGreatDoor
