/-
  Group, Add, walked.
-/
import Derived.Test.YtfnbkffphpidbaaFoW4
import Derived.Sort.OwnSorted
set_option linter.unusedSimpArgs false
set_option linter.unusedVariables false
namespace Go.Proofs.Ytfnbkffphpidbaa
open Go.RowKit Go.Lib Go.Sort

theorem holdsZ {w : World} {g : Nat} {cur : Array Value} {e : TypeId} {ss : List Int} (hb : w.heap[g]? = some (.cells cur e (0, 0))) (ht : cur.toList.take ss.length = ss.map (Value.int .i64)) : Holds (Value.int .i64) w g 0 ss.toArray := by
  intro j hj
  have hj' : j < ss.length := by simpa using hj
  refine ⟨?_, by simp [World.frozen?, hb]⟩
  have h1 : (cur.toList.take ss.length)[j]? = (ss.map (Value.int .i64))[j]? := by rw [ht]
  rw [List.getElem?_take_of_lt hj'] at h1
  simp only [World.cell?, hb, Nat.zero_add]
  simp only [Option.isSome_none, Bool.false_eq_true, if_false]
  rw [← Array.getElem?_toList, h1]
  simp [hj']
theorem heapZ {w : World} {g n : Nat} {os : Array Obj} {cur : Array Value} {e : TypeId} {fr : Nat × Nat} (d : Array Int) (hb : w.heap[g]? = some (.cells cur e fr)) :
    (grow (putRow (Value.int .i64) (Sort.ahead w n) g 0 d) os).heap[g]? = some (.cells (putCells (Value.int .i64) 0 d cur) e fr) := by
  have hg : g < w.heap.size := (Array.getElem?_eq_some_iff.1 hb).1
  rw [heap_grow_old _ _ (by simpa using hg)]
  simp [putRow, mapBlock, Sort.ahead, Array.getElem?_modify, hb, onCells]
theorem grownZ {w : World} {g n : Nat} {os : Array Obj} (d : Array Int) : w.grownBy (grow (putRow (Value.int .i64) (Sort.ahead w n) g 0 d) os) (some g) := by
  refine ⟨rfl, rfl, rfl, by simp, fun k hk hne => ?_⟩
  rw [heap_grow_old _ _ (by simpa using hk)]
  have : g ≠ k := fun e => hne (by rw [e])
  simp [putRow, mapBlock, Sort.ahead, Array.getElem?_modify, this]
theorem takeZ (cur : Array Value) (ts : List Int) (h : ts.length ≤ cur.size) : (putCells (Value.int .i64) 0 ts.toArray cur).toList.take ts.length = ts.map (Value.int .i64) := by
  apply List.ext_getElem?
  intro j
  by_cases hj : j < ts.length
  · rw [List.getElem?_take_of_lt hj, Array.getElem?_toList]
    simp [putCells, hj, show j < cur.size by omega]
  · rw [List.getElem?_take_eq_none (by omega), List.getElem?_eq_none (by simp; omega)]
theorem ownsZ {w : World} {base g cap n : Nat} {e : TypeId} {os : Array Obj} {cur : Array Value} {ss ts : List Int} (hl : ts.length = ss.length) (hbase : base ≤ g) (hb : w.heap[g]? = some (.cells cur e (0, 0)))
    (h1 : ss.length ≤ cap) (h2 : cap ≤ maxLen) (h3 : cur.size = cap * 1) :
    (grow (putRow (Value.int .i64) (Sort.ahead w n) g 0 ts.toArray) os).ownsRow base e 1 (.slice (some ⟨g, 0, none⟩) ss.length cap) ss.length (ts.map (Value.int .i64)) :=
  ⟨by simp [hl], .inr ⟨g, cap, _, rfl, hbase, heapZ _ hb, h1, h2, by simp [putCells, h3], by rw [Nat.mul_one, ← hl]; exact takeZ cur ts (by omega)⟩⟩

theorem sortZ {w : World} {base : Nat} {v : Value} {a : Nat} {l G : List Nat} (h : OwnZ w base v (a :: l)) (hs : (((a :: l).map fun x : Nat => (x : Int)).mergeSort fun x y => decide (x ≤ y)) = G.map fun x : Nat => (x : Int)) (hbig : (a :: l).length ≤ 1048576) :
    Calls Try.prog 36 #[v] w fun e w' => e = .returned (.tuple #[]) ∧ OwnZ w' base v G ∧ w.grownBy w' v.ownBlock := by
  obtain ⟨h1, h2⟩ := h
  rcases h2 with ⟨_, h0⟩ | ⟨g, cap, cur, rfl, hbase, hb, hn, hm, hsz, ht⟩
  · simp at h0
  · have hmap : (a :: l).map zI = ((a :: l).map fun x : Nat => (x : Int)).map (Value.int .i64) := by rw [List.map_map]; rfl
    have hl : ((a :: l).map fun x : Nat => (x : Int)).length = (a :: l).length := by simp
    have hH : Holds (Value.int .i64) w g 0 ((a :: l).map fun x : Nat => (x : Int)).toArray := holdsZ hb (by rw [hl, ← hmap, ← ht, Nat.mul_one])
    have hc := Try.slices_Sort_int g 0 cap ((a :: l).map fun x : Nat => (x : Int)) w hH (lt_of_block hb) (by rw [hl]; omega)
    rw [hl] at hc
    refine hc.mono ?_
    rintro e w' ⟨rfl, n, os, rfl⟩
    refine ⟨rfl, ?_, grownZ _⟩
    have hgl : (G.map fun x : Nat => (x : Int)).length = (a :: l).length := by rw [← hs, List.length_mergeSort, hl]
    have hown := ownsZ (w := w) (base := base) (n := n) (os := os) (cap := cap) (e := 3) (ss := ((a :: l).map fun x : Nat => (x : Int))) (ts := G.map fun x : Nat => (x : Int)) (by rw [hgl, hl]) hbase hb (by rw [hl]; exact hn) hm hsz
    rw [hs]
    rw [hl] at hown
    have hG : G.length = (a :: l).length := by rw [← hgl]; simp
    unfold OwnZ
    rw [hG]
    have : G.map zI = (G.map fun x : Nat => (x : Int)).map (Value.int .i64) := by rw [List.map_map]; rfl
    rw [this]; exact hown

set_option maxRecDepth 20000 in
set_option maxHeartbeats 2000000 in
theorem fgroup_bad (w : World) (p : Nat) (v : Value) (m : List Mv) (a : Int) (h : FoM w p v m) (hn : hasB m a = false) :
    Calls Try.prog 15 #[.pointer (some ⟨p, 0, none⟩), .int .i64 a] w fun e w' => e = .returned (.tuple #[.slice none 0 0, .int .i64 2]) ∧ w' = w := by
  have cA : Hid (∀ V, V = w → Calls Try.prog 29 #[.pointer (some ⟨p, 0, none⟩), .int .i64 a] V fun e w' => e = .returned (.bool false) ∧ w' = w) := fun V hV => by subst hV; rw [← hn]; exact fhas_any V p v m a h
  clear h
  go_enter Try.func15, Try.ntmps15
  go_wp2_with fail
  refine (cA.out _ rfl).mono ?_
  rintro e w' ⟨rfl, rfl⟩
  go_wp2_with fail
  go_ret2
  exact ⟨rfl, rfl⟩
set_option maxRecDepth 20000 in
set_option maxHeartbeats 2000000 in
theorem fgroup_ok (w : World) (p : Nat) (v : Value) (J : List (Nat × Nat)) (V : List Value) (m : List Mv) (a : Nat) (h : FoM w p v m) (hI : FoI J V m) (ha : a < m.length) :
    Calls Try.prog 15 #[.pointer (some ⟨p, 0, none⟩), .int .i64 a] w fun e w' => ∃ v', e = .returned (.tuple #[v', .int .i64 0]) ∧ OwnZ w' w.heap.size v' (grpL m a) ∧ Below w.heap.size w w' := by
  have cA : Hid (∀ V, V = w → Calls Try.prog 29 #[.pointer (some ⟨p, 0, none⟩), .int .i64 a] V fun e w' => e = .returned (.bool true) ∧ w' = w) := fun V hV => by subst hV; rw [← hasB_nat.2 ha]; exact fhas_any V p v m a h
  obtain ⟨l, r1, r2, r3, r4⟩ := hI.ring a ha
  have cR : Hid (∀ V, V = w → Calls Try.prog 35 #[.pointer (some ⟨p, 0, none⟩), .int .i64 a] V fun e w' => ∃ v', e = .returned v' ∧ OwnZ w' w.heap.size v' (a :: l) ∧ Below w.heap.size w w') := fun V hV => by subst hV; exact faround_any V p v m a l h ha (hI.rt a ha).1 r1 r2 (fun y hy => ((r3 y).1 hy).1) r4
  have hs := sort_grp r2 r3
  have hbig : (a :: l).length ≤ 1048576 := Nat.le_trans (nodup_le _ _ r2 (fun y hy => ((r3 y).1 hy).1)) h.le
  have cS : Hid (∀ W u, OwnZ W w.heap.size u (a :: l) → Calls Try.prog 36 #[u] W fun e w' => e = .returned (.tuple #[]) ∧ OwnZ w' w.heap.size u (grpL m a) ∧ W.grownBy w' u.ownBlock) := fun W u hu => sortZ hu hs hbig
  clear h hI r1 r2 r3 r4 hs
  go_enter Try.func15, Try.ntmps15
  go_wp2_with fail
  refine (cA.out _ rfl).mono ?_
  rintro e w' ⟨rfl, rfl⟩
  go_wp2_with fail
  refine (cR.out _ rfl).mono ?_
  rintro e w2 ⟨v2, rfl, hO2, hB2⟩
  go_wp2_with fail
  refine (cS.out w2 v2 hO2).mono ?_
  rintro e w3 ⟨rfl, hO3, hg3⟩
  have HB3 : Hid (Below w'.heap.size w' w3) := hB2.grown hg3 hB2.size (fun j hj => (rw_block hO2 hj).1)
  have HO3 : Hid (OwnZ w3 w'.heap.size v2 (grpL m a)) := hO3
  clear hO2 hB2 hg3 hO3
  go_wp2_with fail
  go_ret2
  exact ⟨_, rfl, HO3.out, HB3.out⟩

/-- What a call leaves that may turn the forest. -/
structure FoT (w : World) (p : Nat) (v v' : Value) (m' : List Mv) (w' : World) : Prop where
  fo : FoM w' p v' m'
  ko : KoF p v w w'
  yo : ∀ b, v'.ownBlock = some b → v.ownBlock = some b ∨ w.heap.size ≤ b
  below : Below p w w'

set_option maxRecDepth 20000 in
set_option maxHeartbeats 2000000 in
theorem fadd_full (w : World) (p : Nat) (v : Value) (m : List Mv) (h : FoM w p v m) (hf : 1048576 ≤ m.length) :
    Calls Try.prog 18 #[.pointer (some ⟨p, 0, none⟩)] w fun e w' => e = .returned (.tuple #[.int .i64 0, .int .i64 10]) ∧ w' = w := by
  obtain ⟨va, vc, hv⟩ := h.form
  subst hv
  have c0 := h.c0
  have hI : (1048576 : Int) ≤ (m.length : Int) := by omega
  generalize m.length = L at *
  go_enter Try.func18, Try.ntmps18
  go_wp2_with fail
  go_ret2
  exact ⟨rfl, rfl⟩
theorem cell_news8 (w : World) (a b c d e f g h : Value) (t : TypeId) : ∀ j u, [a, b, c, d, e, f, g, h][j]? = some u → (w.alloc (.cells #[a, b, c, d, e, f, g, h] t)).cell? ((⟨w.heap.size, 0, none⟩ : Addr).add j) = some u := by
  intro j u hj
  match j, hj with
  | 0, hj => simp at hj; subst hj; simp [Addr.add]
  | 1, hj => simp at hj; subst hj; simp [Addr.add]
  | 2, hj => simp at hj; subst hj; simp [Addr.add]
  | 3, hj => simp at hj; subst hj; simp [Addr.add]
  | 4, hj => simp at hj; subst hj; simp [Addr.add]
  | 5, hj => simp at hj; subst hj; simp [Addr.add]
  | 6, hj => simp at hj; subst hj; simp [Addr.add]
  | 7, hj => simp at hj; subst hj; simp [Addr.add]
theorem FoM.snoc {w w6 : World} {p : Nat} {v v' : Value} {m : List Mv} (h : FoM w p v m) (hb : w6.heap[p]? = w.heap[p]?) (hl : m.length + 1 ≤ 1048576)
    (ho : w6.ownsRow (p + 1) 87 8 v' (m.length + 1) (mbCells m ++ [.int .i64 m.length, .int .i64 0, .int .i64 0, .nilIface, .bool false, .int .i64 m.length, .int .i64 1, .int .i64 m.length])) : FoM (w6.setCell ⟨p, 0, none⟩ v') p v' (m ++ [newM m.length]) := by
  refine ⟨?_, ?_, fun x => ?_, by simpa using hl⟩
  · have := heap_setCell_same w6 p 0 #[v] 65 v' (hb.trans h.blk)
    simpa using this
  · have h1 : w6.ownsRow (p + 1) 87 8 v' (m ++ [newM m.length]).length (mbCells (m ++ [newM m.length])) := by
      rw [mbCells_append]; simpa [mbCells, mbC, newM, eg0, nilV] using ho
    exact rw_same h1 (fun b hb' => Deep.blk_setCell_other _ _ _ _ (by have := (rw_block h1 hb').1; show b ≠ p; omega))
  · rw [mA_snoc]
    split
    · exact h.ifv x
    · split <;> exact IfV.nil

set_option maxRecDepth 20000 in
set_option maxHeartbeats 2000000 in
theorem fadd_ok (w : World) (p : Nat) (v : Value) (m : List Mv) (h : FoM w p v m) (hf : m.length < 1048576) :
    Calls Try.prog 18 #[.pointer (some ⟨p, 0, none⟩)] w fun e w' => e = .returned (.tuple #[.int .i64 m.length, .int .i64 0]) ∧ ∃ v', FoT w p v v' (m ++ [newM m.length]) w' := by
  obtain ⟨va, vc, hv⟩ := h.form
  subst hv
  obtain ⟨i0, hi, hz0, hz1, hz2⟩ := info_parts Try.infoMb
  have hpl := h.lt
  have c0 := h.c0
  have f0 := h.f0
  have hrow := h.on
  have HM : Hid (FoM w p (.slice va m.length vc) m) := h
  obtain ⟨L, hL⟩ : ∃ L, m.length = L := ⟨_, rfl⟩
  have HL : Hid (m.length = L) := hL
  rw [hL] at c0 hrow hf ⊢
  have hLI : ¬ ((1048576 : Int) ≤ (L : Int)) := by omega
  have z1 : ∀ o, (w.alloc o).cell? ⟨p, 0, none⟩ = some (.slice va L vc) := fun o => (World.cell?_alloc_past _ _ _ (by show p < w.heap.size; omega)).trans c0
  have HP6 : Hid (∀ (o : Obj) (w6 : World), (w.alloc o).grownBy w6 (Value.slice va L vc).ownBlock → w6.heap[p]? = w.heap[p]?) := fun o w6 hg => by
    have h1 := hg.block p (by rw [World.size_alloc]; omega) (fun e => by have := (rw_block hrow e.symm).1; omega)
    exact h1.trans (Deep.blk_alloc_lt _ _ _ (by omega))
  clear h hL
  go_enter Try.func18, Try.ntmps18
  go_wp2_with (at_builtin; refine wpList_append_lies _ rfl (.tmp 18) (.tmp 23) 63 rfl (p + 1) 87 i0 (.agg #[.int .i64 0, .int .i64 0, .int .i64 0, .nilIface, .bool false, .int .i64 0, .int .i64 0, .int .i64 0]) 8 72 Try.underlying63 hi hz0 hz1 hz2 rfl (by decide) _ _ _ (by simp [Act.eval, Act.put]) (hrow.alloc _) ⟨w.heap.size, 0, none⟩ 1 1 [.int .i64 L, .int .i64 0, .int .i64 0, .nilIface, .bool false, .int .i64 L, .int .i64 1, .int .i64 L] (by simp [Act.eval, Act.put]) rfl (cell_news8 w _ _ _ _ _ _ _ _ _) (by simp [Value.oneCell']) (by omega) (by unfold maxLen; omega) (by omega) (by simp; omega) _ rfl ?_; intro g6 cap6 w6 hown6 hg6 hat6 hl6; have hnd6 := HP6.out _ w6 hg6; have m6 : w6.cell? ⟨p, 0, none⟩ = some (.slice va L vc) := (World.cell?_of_block (a := ⟨p, 0, none⟩) hnd6).trans c0; have m6f : w6.frozen? ⟨p, 0, none⟩ = false := (World.frozen?_of_block (a := ⟨p, 0, none⟩) hnd6).trans f0)
  all_goals
    have hF : FoM (w6.setCell ⟨p, 0, none⟩ (.slice (some ⟨g6, 0, none⟩) (L + 1) cap6)) p (.slice (some ⟨g6, 0, none⟩) (L + 1) cap6) (m ++ [newM L]) := by
      have := HM.out.snoc hnd6 (v' := .slice (some ⟨g6, 0, none⟩) (L + 1) cap6) (by rw [HL.out]; omega) (by rw [HL.out]; exact hown6)
      rw [HL.out] at this; exact this
    have hB : Below p w (w6.setCell ⟨p, 0, none⟩ (.slice (some ⟨g6, 0, none⟩) (L + 1) cap6)) := by
      have b1 : Below p w (w.alloc (.cells #[.int .i64 L, .int .i64 0, .int .i64 0, .nilIface, .bool false, .int .i64 L, .int .i64 1, .int .i64 L] 87)) := ((Below.refl w.heap.size w).alloc (Nat.le_refl _) _).mono (by omega)
      have b2 := b1.grown hg6 (by rw [World.size_alloc]; omega) (fun j hj => by have := (rw_block hrow hj).1; omega)
      exact b2.setCell (p := ⟨p, 0, none⟩) (Nat.le_refl p) _
    have HKO : Hid (KoF p (.slice va L vc) w (w6.setCell ⟨p, 0, none⟩ (.slice (some ⟨g6, 0, none⟩) (L + 1) cap6))) := ((KoF.below ((Below.refl w.heap.size w).alloc (Nat.le_refl _) _)).trans1 (KoF.grown (hrow.alloc _) hg6)).trans1 KoF.set
    have HYO : Hid (∀ b, (Value.slice (some ⟨g6, 0, none⟩) (L + 1) cap6).ownBlock = some b → (Value.slice va L vc).ownBlock = some b ∨ w.heap.size ≤ b) := fun b hb => by
      have e1 : g6 = b := by simpa [Value.ownBlock] using hb
      subst e1
      rcases hat6 with h | h
      · exact .inl h
      · right; rw [h, World.size_alloc]; omega
    have HF : Hid (FoM (w6.setCell ⟨p, 0, none⟩ (.slice (some ⟨g6, 0, none⟩) (L + 1) cap6)) p (.slice (some ⟨g6, 0, none⟩) (L + 1) cap6) (m ++ [newM L])) := hF
    have HB : Hid (Below p w (w6.setCell ⟨p, 0, none⟩ (.slice (some ⟨g6, 0, none⟩) (L + 1) cap6))) := hB
    clear hF hB hat6
    go_wp2_with fail
    go_ret2
    exact ⟨rfl, _, HF.out, HKO.out, HYO.out, HB.out⟩
end Go.Proofs.Ytfnbkffphpidbaa
