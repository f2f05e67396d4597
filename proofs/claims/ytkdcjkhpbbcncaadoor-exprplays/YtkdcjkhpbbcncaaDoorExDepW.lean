/-
  What Depth answers, the program's and the document's.
-/
import Derived.Test.YtkdcjkhpbbcncaaDoorExPartW
import Derived.Test.YtkdcjkhpbbcncaaDoorExRefW
import Derived.Test.YtkdcjkhpbbcncaaDoorExRdW
set_option linter.unusedSimpArgs false
set_option linter.unusedVariables false
namespace Go.Proofs.YtkdcjkhpbbcncaaDoor
open Go.RowKit Go.Lib

def mxF (ds : List Nat) (m : Nat) (ks : List Int) : Nat := ks.foldl (fun m k => max m (ds.getD k.toNat 0)) m
/-- How deep each node's expression is. -/
def dpR (ds : List Nat) : List Nd → List Nat
  | [] => ds
  | x :: l => dpR (ds ++ [mxF ds 0 x.kids + 1]) l

theorem dpR_append (l m : List Nd) : ∀ ds, dpR ds (l ++ m) = dpR (dpR ds l) m := by
  induction l with
  | nil => intro ds; rfl
  | cons x l ih => intro ds; simp only [List.cons_append, dpR]; exact ih _
theorem dpR_len (l : List Nd) : ∀ ds, (dpR ds l).length = ds.length + l.length := by
  induction l with
  | nil => intro ds; simp [dpR]
  | cons x l ih => intro ds; simp only [dpR]; rw [ih]; simp; omega
theorem dpR_take {l : List Nd} {k : Nat} (h : k < l.length) : dpR [] (l.take (k + 1)) = dpR [] (l.take k) ++ [mxF (dpR [] (l.take k)) 0 (l.getD k nd0).kids + 1] := by
  rw [List.take_succ_eq_append_getElem h, dpR_append]
  simp [dpR, h]
def Small (ds : List Nat) : Prop := ∀ j, ds.getD j 0 ≤ j + 1
theorem mxF_le {ds : List Nat} (hs : Small ds) (n : Nat) : ∀ (ks : List Int) (m : Nat), (∀ k ∈ ks, 0 ≤ k ∧ k < (n : Int)) → m ≤ n → mxF ds m ks ≤ n := by
  intro ks
  induction ks with
  | nil => intro m _ h; simpa [mxF] using h
  | cons k ks ih =>
    intro m hk h
    unfold mxF
    simp only [List.foldl_cons]
    have h1 := hk k (List.mem_cons_self ..)
    have h2 := hs k.toNat
    exact ih _ (fun q hq => hk q (List.mem_cons_of_mem _ hq)) (by omega)
theorem mxF_snoc (ds : List Nat) (m : Nat) (ks : List Int) (k : Int) : mxF ds m (ks ++ [k]) = max (mxF ds m ks) (ds.getD k.toNat 0) := by
  unfold mxF; rw [List.foldl_append]; rfl
theorem Small.snoc {ds : List Nat} (h : Small ds) {a : Nat} (ha : a ≤ ds.length + 1) : Small (ds ++ [a]) := by
  intro j
  rw [getD_snoc]
  split
  · exact h j
  · split <;> omega

structure DpMid (w2 : World) (G : Nat) (n : Nat) (ds : List Nat) (wo : World) (nv : Array Value) (m k : Nat) (wr : World) : Prop where
  row : wr.rowIs G 3 n (fun j => .int .i64 (if j = k then (m : Nat) else (ds.getD j 0 : Nat)))
  node : wr.heap[wo.heap.size]? = some (.cells nv 63 (0, 0))
  below : Below G w2 wr

theorem DpMid.drew {w2 : World} {G n : Nat} {ds : List Nat} {wo : World} {nv : Array Value} {m k : Nat} {wr : World} (h : DpMid w2 G n ds wo nv m k wr) : DpMid w2 G n ds wo nv m k wr.drew := ⟨h.row, h.node, h.below.drew⟩

set_option maxHeartbeats 4000000 in
theorem depth_some (vs : Value) (l : List Nd) (fr : List Nat) (w : World) (B : Nat) (hBw : B ≤ w.heap.size) (hT : SpanCells w) (hN : Nodes w B vs l) (h : begL l = some fr) :
    Calls Tryd.prog 18 #[vs] w fun e w' => e = .returned (.tuple #[.int .i64 ((dpR [] l).getD (l.length - 1) 0 : Nat), .int .i64 0]) ∧ Below w.heap.size w w' := by
  have h64 := (snd_bounds h).1
  have hl0 := (begL_some h).1
  have hkids := begR_kids (begL_some h).2.2.1 low_nil
  have hok3 := (snd_bounds h).2
  have hchain := (begL_some h).2.2.1
  have HS : Hid (begL l = some fr) := h
  clear h
  have hkk : ∀ i, i < l.length → ∀ k ∈ (l.getD i nd0).kids, 0 ≤ k ∧ k < (i : Int) := by
    intro i hi k hk
    have hlow := (begR_some hchain low_nil).2.1
    have hs := sts_of_beg l [] fr low_nil hchain
    have h1 := sts_at l i hi
    have e : sts l = fr.map some := hs
    have hlen := begR_len hchain
    rw [e, chain_some hlow _ _ (by omega)] at h1
    have h2 : (fr.map some).getD i none = some (fr.getD i 0) := by simp [show i < fr.length by omega]
    rw [h2] at h1
    exact chainL_kids _ _ _ h1.symm hlow k (by simpa using hk)
  have HKK : Hid (∀ i, i < l.length → ∀ k ∈ (l.getD i nd0).kids, 0 ≤ k ∧ k < (i : Int)) := hkk
  have HK3 : Hid (∀ i, i < l.length → (l.getD i nd0).kids.length ≤ 3) := fun i hi => hok3 _ (by simp [hi])
  clear hkids hok3 hchain hkk
  have hN0 := hN
  obtain ⟨ao, cap0, rfl, hl, hm, hc⟩ := hN
  unfold maxLen at hm
  obtain ⟨b, o, rfl, hbl, hc'⟩ : ∃ b o, ao = some ⟨b, o, none⟩ ∧ b < B ∧ ∀ i, i < l.length → ∃ kv, NodeAt w B b (o + i * 4) (l.getD i nd0) kv := by
    rcases hc with h | h
    · subst h; simp at hl0
    · exact h
  have HC : Hid (∀ i, i < l.length → ∃ kv, NodeAt w B b (o + i * 4) (l.getD i nd0) kv) := hc'
  clear hc hc'
  have hmk := run_make_row' (P := Tryd.prog) 61 3 (.int .i64 0) 8 Tryd.underlying61 Tryd.info3 rfl .i64 .i64 l.length (by omega) (by omega)
  obtain ⟨Z, hZ⟩ : ∃ Z, (dpR [] l).getD (l.length - 1) 0 = Z := ⟨_, rfl⟩
  rw [hZ]
  have HZ : Hid ((dpR [] l).getD (l.length - 1) 0 = Z) := hZ
  clear hZ
  go_enter Tryd.func18, Tryd.ntmps18
  go_wp2_with (go_at_call 10; refine (check_some _ l fr _ B hBw hT hN0 HS.out).mono ?_; rintro e w2 ⟨rfl, hb2⟩)
  have hz2 := hb2.size
  have HB2 : Hid (Below w.heap.size w w2) := hb2
  clear hb2 hN0 hT
  go_loopw [17] (fun i wr => ∃ k : Nat, k ≤ l.length ∧ i = .int .i64 k ∧ wr.rowIs w2.heap.size 3 l.length (fun j => .int .i64 ((dpR [] (l.take k)).getD j 0 : Nat)) ∧ Hid (Small (dpR [] (l.take k))) ∧ Below w2.heap.size w2 wr) (fun i _ => l.length - (RowKit.intOf i).toNat)
  case atStart => exact ⟨0, by omega, rfl, World.rowIs_made _ _ _ _, by intro j; simp [dpR], (Below.refl _ _).alloc (Nat.le_refl _) _⟩
  case round =>
    obtain ⟨k, hk, rfl, hrow, hsm, hB⟩ := hrel
    obtain ⟨wo, hwo⟩ : ∃ wo, wo = wr := ⟨_, rfl⟩
    subst hwo
    have hgl := hrow.lt
    clear hmk
    by_cases hlt : k < l.length
    · obtain ⟨kv, hNA⟩ := HC.out k hlt
      have hNA := hNA.below ((HB2.out.mono hBw).trans (hB.mono (by omega))) (Nat.le_refl _) hbl
      have hk3 := HK3.out k hlt
      have hkr := HKK.out k hlt
      have HD := dpR_take hlt
      have hdl : (dpR [] (l.take k)).length = k := by rw [dpR_len]; simp; omega
      generalize l.getD k nd0 = x at *
      obtain ⟨op, n, nm, kids⟩ := x
      obtain ⟨c0, c1, c2, c3, hki⟩ := hNA
      simp only at c0 c1 c2 c3 hki hk3 hkr HD
      obtain ⟨ka, kc, rfl, hkl, ⟨hkm, _⟩, hkc⟩ := hki
      unfold maxLen at hkm
      have HKC : Hid (kids = [] ∨ ∃ b o, ka = some ⟨b, o, none⟩ ∧ b < B ∧ ∀ j, j < kids.length → wo.cell? ⟨b, o + j, none⟩ = some (.int .i64 (kids.getD j 0))) := hkc
      have HKR : Hid (∀ q ∈ kids, 0 ≤ q ∧ q < (k : Int)) := hkr
      generalize dpR [] (l.take k) = ds at *
      have HDD : Hid (dpR [] (l.take (k + 1)) = ds ++ [mxF ds 0 kids + 1]) := HD
      have HDL : Hid (ds.length = k) := hdl
      clear hkc hkr HD hdl
      have hb9 : b < wo.heap.size := by omega
      have hb8 : b ≠ wo.heap.size := by omega
      have hg8 : w2.heap.size ≠ wo.heap.size := by omega
      go_wp2_with fail
      go_loopw [25] (fun q wr => ∃ j : Nat, j ≤ kids.length ∧ q = .int .i64 j ∧ DpMid w2 w2.heap.size l.length ds wo #[.int .i64 op, .int .i64 n, .string nm, .slice ka kids.length kc] (mxF ds 0 (kids.take j)) k wr) (fun q _ => kids.length - (RowKit.intOf q).toNat)
      case atStart =>
        refine ⟨0, by omega, rfl, ⟨(hrow.alloc _).congr (fun j hj => ?_), by rw [Deep.blk_alloc_new], hB.alloc (by omega) _⟩⟩
        by_cases hjk : j = k
        · have : ds.getD k 0 = 0 := by rw [List.getD_eq_getElem?_getD, List.getElem?_eq_none (by rw [HDL.out]; omega)]; rfl
          rw [if_pos hjk, hjk, this]; rfl
        · rw [if_neg hjk]
      case round =>
        obtain ⟨j, hj, rfl, hM⟩ := hrel
        have hrl := hM.row.lt
        have hnl := lt_of_block hM.node
        have d3 : wr.cell? ⟨wo.heap.size, 3, none⟩ = some (.slice ka kids.length kc) := by simp [World.cell?, hM.node]
        by_cases hjl : j < kids.length
        · obtain ⟨kb, ko, rfl, hkb, hkc⟩ : ∃ b o, ka = some ⟨b, o, none⟩ ∧ b < B ∧ ∀ j, j < kids.length → wo.cell? ⟨b, o + j, none⟩ = some (.int .i64 (kids.getD j 0)) := by
            rcases HKC.out with h | h
            · subst h; simp at hjl
            · exact h
          have hcj : wr.cell? ⟨kb, ko + j, none⟩ = some (.int .i64 (kids.getD j 0)) := by
            have e1 := hkc j hjl
            rw [hB.cell (p := ⟨kb, ko + j, none⟩) (by show kb < w2.heap.size; omega)] at e1
            rw [hM.below.cell (p := ⟨kb, ko + j, none⟩) (by show kb < w2.heap.size; omega)]; exact e1
          obtain ⟨hy0, hy1⟩ := HKR.out (kids.getD j 0) (by simp [hjl])
          have HMX : Hid (mxF ds 0 (kids.take (j + 1)) = max (mxF ds 0 (kids.take j)) (ds.getD (kids.getD j 0).toNat 0)) := by
            show mxF ds 0 (kids.take (j + 1)) = _
            rw [List.take_succ_eq_append_getElem hjl, mxF_snoc]; simp [hjl]
          have hmle := mxF_le hsm.out k (kids.take j) 0 (fun q hq => HKR.out q (List.mem_of_mem_take hq)) (by omega)
          clear hkc HKC
          generalize kids.getD j 0 = y at *
          obtain ⟨y, rfl⟩ : ∃ z : Nat, y = (z : Int) := ⟨y.toNat, by omega⟩
          rw [Int.toNat_natCast] at HMX
          have hyk : y < k := by omega
          have hdy := hsm.out y
          have e0 : wr.cell? ⟨w2.heap.size, k, none⟩ = some (.int .i64 (mxF ds 0 (kids.take j) : Nat)) := by have := hM.row.cell hlt; rw [if_pos rfl] at this; exact this
          have e1 : wr.cell? ⟨w2.heap.size, y, none⟩ = some (.int .i64 (ds.getD y 0 : Nat)) := by have := hM.row.cell (show y < l.length by omega); rw [if_neg (by omega)] at this; exact this
          have f0 := hM.row.frozen k
          have HSET : Hid (∀ m' : Nat, DpMid w2 w2.heap.size l.length ds wo #[.int .i64 op, .int .i64 n, .string nm, .slice (some ⟨kb, ko, none⟩) kids.length kc] m' k (wr.setCell ⟨w2.heap.size, k, none⟩ (.int .i64 (m' : Nat)))) := fun m' => by
            refine ⟨(hM.row.set k _).congr (fun q hq => ?_), (Deep.blk_setCell_other _ _ _ _ (by show wo.heap.size ≠ w2.heap.size; omega)).trans hM.node, hM.below.setCell (Nat.le_refl _) _⟩
            by_cases hqk : q = k
            · rw [if_pos hqk, if_pos hqk]
            · rw [if_neg hqk, if_neg hqk, if_neg hqk]
          generalize mxF ds 0 (kids.take j) = m at *
          generalize ds.getD y 0 = z at *
          go_wp2_with fail
          go_region
          go_wp2_with fail
          refine ⟨⟨j + 1, by omega, by go_num, ?_⟩, by simp [RowKit.intOf]; omega⟩
          rw [HMX.out]
          have hmx : (max (m : Int) (z : Int)) = ((max m z : Nat) : Int) := by omega
          rw [hmx]
          exact (HSET.out (max m z)).drew
        · have hje : j = kids.length := by omega
          subst hje
          rw [List.take_length] at hM
          have hmle := mxF_le hsm.out k kids 0 (fun q hq => HKR.out q hq) (by omega)
          have e0 : wr.cell? ⟨w2.heap.size, k, none⟩ = some (.int .i64 (mxF ds 0 kids : Nat)) := by have := hM.row.cell hlt; rw [if_pos rfl] at this; exact this
          have f0 := hM.row.frozen k
          generalize mxF ds 0 kids = m at *
          have HEND : Hid ((wr.setCell ⟨w2.heap.size, k, none⟩ (.int .i64 ((m : Int) + 1))).rowIs w2.heap.size 3 l.length (fun j => .int .i64 ((ds ++ [m + 1]).getD j 0 : Nat))) := (hM.row.set k _).congr (fun q hq => by
            rw [getD_snoc, HDL.out]
            by_cases hqk : q = k
            · rw [if_pos hqk, if_neg (by omega), if_pos hqk]; rfl
            · rw [if_neg hqk, if_neg hqk]
              by_cases hq2 : q < k
              · rw [if_pos hq2]
              · rw [if_neg hq2, if_neg hqk]
                have : ds.getD q 0 = 0 := by rw [List.getD_eq_getElem?_getD, List.getElem?_eq_none (by rw [HDL.out]; omega)]; rfl
                rw [this])
          have hBl := hM.below
          clear hM
          go_wp2_with fail
          refine ⟨⟨k + 1, by omega, by go_num, ?_, ?_, hBl.setCell (Nat.le_refl _) _⟩, by simp [RowKit.intOf]; omega⟩
          · rw [HDD.out]; exact HEND.out
          · show Small (dpR [] (l.take (k + 1)))
            rw [HDD.out]; exact hsm.out.snoc (by rw [HDL.out]; omega)
    · have hke : k = l.length := by omega
      subst hke
      rw [List.take_length] at hrow
      have e0 : wo.cell? ⟨w2.heap.size, l.length - 1, none⟩ = some (.int .i64 (Z : Nat)) := by have := hrow.cell (i := l.length - 1) (by omega); rw [HZ.out] at this; exact this
      clear hrow
      go_wp2_with fail
      go_ret2
      exact ⟨rfl, HB2.out.trans (hB.mono hz2)⟩

set_option maxHeartbeats 1000000 in
theorem depth_none (vs : Value) (l : List Nd) (w : World) (B : Nat) (hBw : B ≤ w.heap.size) (hT : SpanCells w) (hN : Nodes w B vs l) (h : begL l = none) :
    Calls Tryd.prog 18 #[vs] w fun e w' => e = .returned (.tuple #[.int .i64 0, .int .i64 1]) ∧ Below w.heap.size w w' := by
  have HS : Hid (begL l = none) := h
  clear h
  go_enter Tryd.func18, Tryd.ntmps18
  go_wp2_with (go_at_call 10; refine (check_none _ l _ B hBw hT hN HS.out).mono ?_; rintro e w2 ⟨rfl, hb2⟩)
  go_ret2
  exact ⟨rfl, hb2⟩

theorem dpR_old (l : List Nd) : ∀ (ds : List Nat) (j : Nat), j < ds.length → (dpR ds l).getD j 0 = ds.getD j 0 := by
  induction l with
  | nil => intro ds j _; rfl
  | cons x l ih =>
    intro ds j hj
    simp only [dpR]
    rw [ih _ j (by simp; omega), getD_snoc, if_pos hj]
theorem mxF_congr {ds ds' : List Nat} (n : Nat) (h : ∀ j, j < n → ds'.getD j 0 = ds.getD j 0) : ∀ (ks : List Int) (m : Nat), (∀ k ∈ ks, 0 ≤ k ∧ k < (n : Int)) → mxF ds' m ks = mxF ds m ks := by
  intro ks
  induction ks with
  | nil => intro m _; rfl
  | cons k ks ih =>
    intro m hk
    have h1 := hk k (List.mem_cons_self ..)
    unfold mxF
    simp only [List.foldl_cons]
    rw [h k.toNat (by omega)]
    exact ih _ (fun q hq => hk q (List.mem_cons_of_mem _ hq))
/-- A node is one deeper than its deepest part. -/
theorem dp_at {l : List Nd} (i : Nat) (hi : i < l.length) (hk : ∀ k ∈ (l.getD i nd0).kids, 0 ≤ k ∧ k < (i : Int)) : (dpR [] l).getD i 0 = mxF (dpR [] l) 0 (l.getD i nd0).kids + 1 := by
  have hlen : (dpR [] (l.take i)).length = i := by rw [dpR_len]; simp; omega
  have hpre : ∀ j, j < i + 1 → (dpR [] l).getD j 0 = (dpR [] (l.take (i + 1))).getD j 0 := fun j hj => by
    conv => lhs; rw [← List.take_append_drop (i + 1) l, dpR_append]
    exact dpR_old _ _ j (by rw [dpR_len]; simp; omega)
  rw [hpre i (by omega), dpR_take hi, getD_snoc, hlen, if_neg (by omega), if_pos rfl]
  congr 1
  refine (mxF_congr i (fun j hj => ?_) _ 0 hk).symm
  rw [hpre j (by omega), dpR_take hi, getD_snoc, hlen, if_pos hj]

set_option maxHeartbeats 2000000 in
theorem refDepthAt_any (vs : Value) (l : List Nd) (w : World) (B : Nat) (hN : Nodes w B vs l) (h64 : l.length ≤ 64) (hk3 : ∀ i, i < l.length → (l.getD i nd0).kids.length ≤ 3) (hkk : ∀ i, i < l.length → ∀ k ∈ (l.getD i nd0).kids, 0 ≤ k ∧ k < (i : Int)) (hsm : Small (dpR [] l)) : ∀ (i : Nat), i < l.length →
    Calls Tryd.prog 51 #[vs, .int .i64 i] w fun e w' => e = .returned (.int .i64 ((dpR [] l).getD i 0 : Nat)) ∧ w' = w := by
  intro i
  induction i using Nat.strongRecOn with
  | ind i IH =>
    intro hi
    obtain ⟨ao, cap0, rfl, hl, hm, hc⟩ := hN
    unfold maxLen at hm
    obtain ⟨b, o, rfl, hbl, hc'⟩ : ∃ b o, ao = some ⟨b, o, none⟩ ∧ b < B ∧ ∀ i, i < l.length → ∃ kv, NodeAt w B b (o + i * 4) (l.getD i nd0) kv := by
      rcases hc with h | h
      · subst h; simp at hi
      · exact h
    clear hc
    obtain ⟨kv, c0, c1, c2, c3, hki⟩ := hc' i hi
    clear hc' c0 c1 c2
    have hdp := dp_at i hi (hkk i hi)
    have hkr := hkk i hi
    have hkl3 := hk3 i hi
    generalize (l.getD i nd0).kids = kids at *
    obtain ⟨ka, kc, rfl, hkl, ⟨hkm, _⟩, hkc⟩ := hki
    unfold maxLen at hkm
    have HKC : Hid (kids = [] ∨ ∃ b o, ka = some ⟨b, o, none⟩ ∧ b < B ∧ ∀ j, j < kids.length → w.cell? ⟨b, o + j, none⟩ = some (.int .i64 (kids.getD j 0))) := hkc
    have HIH : Hid (∀ j, j < i → j < l.length → Calls Tryd.prog 51 #[.slice (some ⟨b, o, none⟩) l.length cap0, .int .i64 j] w fun e w' => e = .returned (.int .i64 ((dpR [] l).getD j 0 : Nat)) ∧ w' = w) := IH
    have HKR : Hid (∀ k ∈ kids, 0 ≤ k ∧ k < (i : Int)) := hkr
    have HSM : Hid (Small (dpR [] l)) := hsm
    clear hkc IH hkr hsm hkk hk3
    generalize dpR [] l = ds at *
    obtain ⟨R, hR⟩ : ∃ R, ds.getD i 0 = R := ⟨_, rfl⟩
    rw [hR]
    have HR : Hid (R = mxF ds 0 kids + 1) := hR.symm.trans hdp
    clear hR hdp
    go_enter Tryd.func51, Tryd.ntmps51
    go_wp2_with fail
    go_loop [5, 6] (fun m q => ∃ j : Nat, j ≤ kids.length ∧ q = .int .i64 j ∧ m = .int .i64 (mxF ds 0 (kids.take j) : Nat)) (fun _ q => kids.length - (RowKit.intOf q).toNat)
    case atStart => exact ⟨0, by omega, rfl, rfl⟩
    case round =>
      obtain ⟨j, hj, rfl, rfl⟩ := hrel
      have hmle := mxF_le HSM.out i (kids.take j) 0 (fun q hq => HKR.out q (List.mem_of_mem_take hq)) (by omega)
      by_cases hjl : j < kids.length
      · obtain ⟨kb, ko, rfl, hkb, hkc⟩ : ∃ b o, ka = some ⟨b, o, none⟩ ∧ b < B ∧ ∀ j, j < kids.length → w.cell? ⟨b, o + j, none⟩ = some (.int .i64 (kids.getD j 0)) := by
          rcases HKC.out with h | h
          · subst h; simp at hjl
          · exact h
        have hcj := hkc j hjl
        obtain ⟨hy0, hy1⟩ := HKR.out (kids.getD j 0) (by simp [hjl])
        have HMX : Hid (mxF ds 0 (kids.take (j + 1)) = max (mxF ds 0 (kids.take j)) (ds.getD (kids.getD j 0).toNat 0)) := by
          show mxF ds 0 (kids.take (j + 1)) = _
          rw [List.take_succ_eq_append_getElem hjl, mxF_snoc]; simp [hjl]
        clear hkc HKC
        generalize kids.getD j 0 = y at *
        obtain ⟨y, rfl⟩ : ∃ z : Nat, y = (z : Int) := ⟨y.toNat, by omega⟩
        rw [Int.toNat_natCast] at HMX
        have HI : Hid (Calls Tryd.prog 51 #[.slice (some ⟨b, o, none⟩) l.length cap0, .int .i64 y] w fun e w' => e = .returned (.int .i64 (ds.getD y 0 : Nat)) ∧ w' = w) := HIH.out y (by omega) (by omega)
        generalize mxF ds 0 (kids.take j) = m at *
        generalize ds.getD y 0 = z at *
        go_wp2_with fail
        refine HI.out.mono ?_
        rintro e w' ⟨rfl, rfl⟩
        go_wp2_with fail
        refine ⟨⟨j + 1, by omega, by go_num, ?_⟩, by simp [RowKit.intOf]; omega⟩
        rw [HMX.out]
        have hmx : (max (m : Int) (z : Int)) = ((max m z : Nat) : Int) := by omega
        first
        | rfl
        | rw [hmx]
      · have hje : j = kids.length := by omega
        subst hje
        rw [List.take_length] at hmle
        have e : kids.take kids.length = kids := List.take_length
        rw [e]
        generalize mxF ds 0 kids = m at *
        go_wp2_with fail
        go_ret
        exact ⟨ret_int (by rw [HR.out]; rfl), rfl⟩
end Go.Proofs.YtkdcjkhpbbcncaaDoor
