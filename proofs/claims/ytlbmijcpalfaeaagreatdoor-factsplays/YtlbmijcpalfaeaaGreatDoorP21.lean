/-
  TbW3, TbW4.
-/
import Derived.Test.YtlbmijcpalfaeaaGreatDoorP20
set_option linter.unusedSimpArgs false
set_option linter.unusedVariables false
namespace Go.Proofs.YtlbmijcpalfaeaaGreatDoor
open Go.RowKit Go.Lib Go.Sort

theorem form_ar {x : Nd} (h : formB x = true) : arK x.op = (x.kids.length : Nat) ∧ arE x.op = 0 := by
  have := formB_arit h
  have := ar_of (op := x.op) this.symm (by omega)
  exact this
theorem three_cells {w : World} {b : Nat} {ks : List Int} (h3 : ks.length ≤ 3) (c3 : w.cell? ⟨b, 3, none⟩ = some (.int .i64 (ks.getD 0 0))) (c4 : w.cell? ⟨b, 4, none⟩ = some (.int .i64 (ks.getD 1 0))) (c5 : w.cell? ⟨b, 5, none⟩ = some (.int .i64 (ks.getD 2 0))) :
    ∀ ad, some (⟨b, 3, none⟩ : Addr) = some ad → ∀ j u, (ks.map (Value.int .i64))[j]? = some u → w.cell? (ad.add j) = some u := by
  intro ad had j u hj
  cases had
  have hjl : j < ks.length := by
    have := List.getElem?_eq_some_iff.1 hj
    simpa using this.1
  rw [Go.WideShapes.add_plain, ← hj]
  match j, hjl with
  | 0, h => rw [c3]; simp [h]
  | 1, h => rw [show 3 + 1 = 4 from rfl, c4]; simp [h]
  | 2, h => rw [show 3 + 2 = 5 from rfl, c5]; simp [h]
  | j + 3, h => omega

set_option maxRecDepth 20000 in
set_option maxHeartbeats 2000000 in
theorem parts_any (x : Nd) (w : World) (hf : formB x = true) :
    Calls Tryz.prog 115 #[shV x] w fun e w' => ∃ v, e = .returned v ∧ OwnI w' w.heap.size v x.kids ∧ Below w.heap.size w w' := by
  obtain ⟨j0, hj, hy0, hy1, hy2⟩ := info_parts Tryz.info3
  have h3 := formB_kids hf
  obtain ⟨e1, e2⟩ := form_ar hf
  have ca : Hid (∀ W, Calls Tryz.prog 51 #[.int .i64 x.op] W fun e w' => e = .returned (.tuple #[.int .i64 (x.kids.length : Nat), .int .i64 0]) ∧ w' = W) := fun W => by
    have := arity_any x.op W
    rw [e1, e2] at this
    exact this
  obtain ⟨op, n, nm, ks⟩ := x
  simp only at h3 ca ⊢
  unfold shV
  simp only
  have HT : Hid (∀ W : World, W.cell? ⟨w.heap.size, 3, none⟩ = some (.int .i64 (ks.getD 0 0)) → W.cell? ⟨w.heap.size, 4, none⟩ = some (.int .i64 (ks.getD 1 0)) → W.cell? ⟨w.heap.size, 5, none⟩ = some (.int .i64 (ks.getD 2 0)) → ∀ ad, some (⟨w.heap.size, 3, none⟩ : Addr) = some ad → ∀ j u, (ks.map (Value.int .i64))[j]? = some u → W.cell? (ad.add j) = some u) := fun W => three_cells h3
  generalize ks.getD 0 0 = k0 at *
  generalize ks.getD 1 0 = k1 at *
  generalize ks.getD 2 0 = k2 at *
  obtain ⟨w1, hw1⟩ : ∃ w1, w.alloc (.cells #[.int .i64 op, .int .i64 n, .string nm, .int .i64 k0, .int .i64 k1, .int .i64 k2] 143) = w1 := ⟨_, rfl⟩
  have HB1 : Hid (Below w.heap.size w w1) := by rw [← hw1]; exact (Below.refl _ _).alloc (Nat.le_refl _) _
  have hb : w1.heap[w.heap.size]? = some (.cells #[.int .i64 op, .int .i64 n, .string nm, .int .i64 k0, .int .i64 k1, .int .i64 k2] 143 (0, 0)) := by rw [← hw1, Deep.blk_alloc_new]
  obtain ⟨c0, c1, c2, c3, c4, c5, cf⟩ := blk6 hb
  have HW : Hid (w.alloc (.cells #[.int .i64 op, .int .i64 n, .string nm, .int .i64 k0, .int .i64 k1, .int .i64 k2] 143) = w1) := hw1
  have HSRC : Hid (∀ ad, some (⟨w.heap.size, 3, none⟩ : Addr) = some ad → ∀ j u, (ks.map (Value.int .i64))[j]? = some u → w1.cell? (ad.add j) = some u) := HT.out w1 c3 c4 c5
  have hsz := HB1.out.size
  obtain ⟨N, hN⟩ : ∃ N, ks.length = N := ⟨_, rfl⟩
  have HN : Hid (ks.length = N) := hN
  rw [hN] at ca h3
  have hNI : (N : Int) ≤ 3 := by omega
  clear hw1 hN HT hb
  go_enter Tryz.func115, Tryz.ntmps115
  go_wp2_with fail
  rw [HW.out]
  go_wp2_with (first | (go_at_call 51; refine (ca.out _).mono ?_; rintro e w' ⟨rfl, rfl⟩) | (at_builtin; refine wpList_append_src _ rfl (.const (.slice none 0 0)) (.tmp 13) 24 rfl w.heap.size 3 j0 (.int .i64 0) 1 8 Tryz.underlying24 hj hy0 hy1 hy2 rfl (by decide) _ 0 [] rfl (World.ownsRow_nil _ _ _ _) (some ⟨w.heap.size, 3, none⟩) N 3 (ks.map (Value.int .i64)) rfl (by simp) (by rw [List.length_map, HN.out]; omega) HSRC.out (ints_oneCell _ _) (by unfold maxLen; omega) (by omega) hsz ?_; intro v2 w2 hO2 hg2))
  have hO3 : OwnI w2 w.heap.size v2 ks := by
    unfold OwnI
    rw [HN.out]
    simpa using hO2
  have HO3 : Hid (OwnI w2 w.heap.size v2 ks) := hO3
  have HB2 : Hid (Below w.heap.size w w2) := HB1.out.grown hg2 hsz (fun k hk => by cases hk)
  clear hO2 hO3 hg2
  go_wp2_with fail
  go_ret
  exact ⟨_, rfl, HO3.out, HB2.out⟩

theorem blk4 {w : World} {b : Nat} {a c d e : Value} {t : TypeId} (h : w.heap[b]? = some (.cells #[a, c, d, e] t (0, 0))) : w.cell? ⟨b, 0, none⟩ = some a ∧ w.cell? ⟨b, 1, none⟩ = some c ∧ w.cell? ⟨b, 2, none⟩ = some d ∧ w.cell? ⟨b, 3, none⟩ = some e ∧ ∀ o, w.frozen? ⟨b, o, none⟩ = false := by
  simp [World.cell?, World.frozen?, h]
end Go.Proofs.YtlbmijcpalfaeaaGreatDoor

set_option linter.unusedSimpArgs false
set_option linter.unusedVariables false
namespace Go.Proofs.YtlbmijcpalfaeaaGreatDoor
open Go.RowKit Go.Lib Go.Sort

theorem sz_step {s z : Nat} (h : s ≤ 1073741824) : (s : Int) + min (z : Int) (1073741824 - (s : Int)) = ((min 1073741824 (s + z) : Nat) : Int) := by
  omega

set_option maxRecDepth 20000 in
set_option maxHeartbeats 2000000 in
theorem sizeOf_any (w : World) (p : Nat) (ev mv : Value) (L : List Nd) (x : Nd) (h : TbR w p ev mv L) (hf : formB x = true) (hk : ∀ k ∈ x.kids, 0 ≤ k ∧ k < (L.length : Int)) :
    Calls Tryz.prog 106 #[.pointer (some ⟨p, 0, none⟩), shV x] w fun e w' => e = .returned (.int .i64 (szK (szL L) 1 x.kids : Nat)) ∧ Below w.heap.size w w' := by
  have cp : Hid (∀ W, Calls Tryz.prog 115 #[shV x] W fun e w' => ∃ ao cap, e = .returned (.slice ao x.kids.length cap) ∧ OwnI w' W.heap.size (.slice ao x.kids.length cap) x.kids ∧ Below W.heap.size W w') := fun W => (parts_any x W hf).mono fun e w' ⟨v, h1, h2, h3⟩ => by
    obtain ⟨ao, cap, rfl⟩ := h2.form'
    exact ⟨ao, cap, h1, h2, h3⟩
  have h3 := formB_kids hf
  have HM : Hid (TbR w p ev mv L) := h
  obtain ⟨op, n, nm, ks⟩ := x
  simp only at cp hk h3 ⊢
  unfold shV at *
  simp only at cp ⊢
  generalize ks.getD 0 0 = k0 at *
  generalize ks.getD 1 0 = k1 at *
  generalize ks.getD 2 0 = k2 at *
  have HK : Hid (∀ k ∈ ks, 0 ≤ k ∧ k < (L.length : Int)) := hk
  have hpl := h.lt
  obtain ⟨w1, hw1⟩ : ∃ w1, w.alloc (.cells #[.int .i64 op, .int .i64 n, .string nm, .int .i64 k0, .int .i64 k1, .int .i64 k2] 143) = w1 := ⟨_, rfl⟩
  have HB1 : Hid (Below w.heap.size w w1) := by rw [← hw1]; exact (Below.refl _ _).alloc (Nat.le_refl _) _
  have hb : w1.heap[w.heap.size]? = some (.cells #[.int .i64 op, .int .i64 n, .string nm, .int .i64 k0, .int .i64 k1, .int .i64 k2] 143 (0, 0)) := by rw [← hw1, Deep.blk_alloc_new]
  obtain ⟨c0, c1, c2, c3, c4, c5, cf⟩ := blk6 hb
  have HW : Hid (w.alloc (.cells #[.int .i64 op, .int .i64 n, .string nm, .int .i64 k0, .int .i64 k1, .int .i64 k2] 143) = w1) := hw1
  clear hw1 hb cf h hk hf
  go_enter Tryz.func106, Tryz.ntmps106
  go_wp2_with fail
  rw [HW.out]
  go_wp2_with (go_at_call 115; refine (cp.out _).mono ?_; rintro e w2 ⟨ao, cap, rfl, hO, hb2⟩)
  have HB2 : Hid (Below w.heap.size w w2) := HB1.out.trans (hb2.mono HB1.out.size)
  have HI : Hid (Ints w2 w2.heap.size (.slice ao ks.length cap) ks) := Ints_of_own hO (Nat.le_refl _)
  have HM2 : Hid (TbR w2 p ev mv L) := HM.out.below HB2.out
  clear hb2 hO c0 c1 c2 c3 c4 c5
  go_loopw [5, 11] (fun s i wr => ∃ k : Nat, k ≤ ks.length ∧ i = .int .i64 k ∧ s = .int .i64 (szK (szL L) 1 (ks.take k) : Nat) ∧ wr = w2) (fun _ i _ => ks.length - (RowKit.intOf i).toNat)
  case atStart => exact ⟨0, by omega, rfl, rfl, rfl⟩
  case round =>
    obtain ⟨k, hkl, rfl, rfl, rfl⟩ := hrel
    by_cases hlt : k < ks.length
    · obtain ⟨ao', cap', hv, hl, hm, hc⟩ := HI.out
      simp only [Value.slice.injEq, true_and] at hv
      obtain ⟨rfl, rfl⟩ := hv
      obtain ⟨b, o, rfl, hbl, hc⟩ : ∃ b o, ao = some ⟨b, o, none⟩ ∧ b < wr.heap.size ∧ ∀ j, j < ks.length → wr.cell? ⟨b, o + j, none⟩ = some (.int .i64 (ks.getD j 0)) := by
        rcases hc with h | h
        · subst h; simp at hlt
        · exact h
      have ck := hc k hlt
      have hr := HK.out (ks.getD k 0) (by simp [hlt])
      have hs1 := szK_le (szL L) (ks.take k) 1 (by omega)
      have HST : Hid (szK (szL L) 1 (ks.take (k + 1)) = min 1073741824 (szK (szL L) 1 (ks.take k) + (szL L).getD (ks.getD k 0).toNat 0)) := by
        have : ks.take (k + 1) = ks.take k ++ [ks.getD k 0] := by rw [List.take_succ_eq_append_getElem hlt]; simp [hlt]
        show _ = _
        rw [this, szK_snoc]
      have hzb := szL_bd L (ks.getD k 0).toNat
      obtain ⟨q, hq, hql⟩ : ∃ q : Nat, ks.getD k 0 = q ∧ q < L.length := ⟨(ks.getD k 0).toNat, by omega, by omega⟩
      rw [hq] at ck HST hzb
      simp only [Int.toNat_natCast] at HST hzb
      obtain ⟨g, cap2, rfl, hg, hgl, hcc, hcm⟩ := HM2.out.row hql
      have ce := (HM2.out.at_ hql).c6
      have t0 := HM2.out.c0
      unfold maxLen at hcm
      have hqI : (q : Int) < (L.length : Int) := by omega
      have hltI : (k : Int) < (ks.length : Int) := by omega
      generalize szK (szL L) 1 (ks.take k) = s at *
      generalize (szL L).getD q 0 = z at *
      clear hc hm hl hr hq
      go_wp2_with fail
      refine ⟨⟨k + 1, by omega, by go_num, ?_, trivial⟩, by simp [RowKit.intOf]; omega⟩
      rw [HST.out, ← sz_step hs1]
    · have hke : k = ks.length := by omega
      subst hke
      have e1 : ks.take ks.length = ks := List.take_length
      rw [e1]
      go_wp2_with fail
      go_ret
      exact ⟨rfl, HB2.out⟩

/-- What is said of a node as an entry. -/
def shE (L : List Nd) (x : Nd) : Int := if formB x = true then (if x.kids.all (hasT L) = true then 0 else 2) else 1
set_option maxRecDepth 20000 in
set_option maxHeartbeats 2000000 in
theorem shapeOf_form (w : World) (p : Nat) (op n : Int) (nm : ByteArray) (ka : Option Addr) (kl kc : Nat) (hT : SpanCells w) (hf : fitB op n nm kl = false) :
    Calls Tryz.prog 93 #[.pointer (some ⟨p, 0, none⟩), .agg #[.int .i64 op, .int .i64 n, .string nm, .slice ka kl kc]] w fun e w' => e = .returned (.tuple #[shV nd0, .int .i64 1]) ∧ Below w.heap.size w w' := by
  have cf : Hid (∀ W, SpanCells W → Calls Tryz.prog 102 #[.agg #[.int .i64 op, .int .i64 n, .string nm, .slice ka kl kc]] W fun e w' => e = .returned (.bool false) ∧ Below W.heap.size W w') := fun W hW => by
    have := tfits_any op n nm ka kl kc W hW
    rw [hf] at this
    exact this
  obtain ⟨w2, hw2⟩ : ∃ w2, (w.alloc (.cells #[.int .i64 op, .int .i64 n, .string nm, .slice ka kl kc] 41)).alloc (.cells #[.int .i64 0, .int .i64 0, .string ⟨#[]⟩, .int .i64 0, .int .i64 0, .int .i64 0] 143) = w2 := ⟨_, rfl⟩
  have HB2 : Hid (Below w.heap.size w w2) := by rw [← hw2]; exact ((Below.refl _ _).alloc (Nat.le_refl _) _).alloc (by simp) _
  have hb : w2.heap[w.heap.size]? = some (.cells #[.int .i64 op, .int .i64 n, .string nm, .slice ka kl kc] 41 (0, 0)) := by rw [← hw2, Deep.blk_alloc_lt _ _ _ (by simp), Deep.blk_alloc_new]
  have hb1 : w2.heap[w.heap.size + 1]? = some (.cells #[.int .i64 0, .int .i64 0, .string ⟨#[]⟩, .int .i64 0, .int .i64 0, .int .i64 0] 143 (0, 0)) := by
    rw [← hw2]
    have := Deep.blk_alloc_new (w.alloc (.cells #[.int .i64 op, .int .i64 n, .string nm, .slice ka kl kc] 41)) (.cells #[.int .i64 0, .int .i64 0, .string ⟨#[]⟩, .int .i64 0, .int .i64 0, .int .i64 0] 143)
    simpa using this
  have hsz2 : w2.heap.size = w.heap.size + 2 := by rw [← hw2]; simp
  have hT2 : SpanCells w2 := hT.below HB2.out
  obtain ⟨c0, c1, c2, c3, _⟩ := blk4 hb
  have HW : Hid ((w.alloc (.cells #[.int .i64 op, .int .i64 n, .string nm, .slice ka kl kc] 41)).alloc (.cells #[.int .i64 0, .int .i64 0, .string ⟨#[]⟩, .int .i64 0, .int .i64 0, .int .i64 0] 143) = w2) := hw2
  have HSZ : Hid (w2.heap.size = w.heap.size + 2) := hsz2
  have HB1 : Hid (w2.heap[w.heap.size + 1]? = some (.cells #[.int .i64 0, .int .i64 0, .string ⟨#[]⟩, .int .i64 0, .int .i64 0, .int .i64 0] 143 (0, 0))) := hb1
  clear hw2 hb hb1 hsz2
  go_enter Tryz.func93, Tryz.ntmps93
  go_wp2_with fail
  rw [HW.out]
  go_wp2_with fail
  refine (cf.out _ hT2).mono ?_
  rintro e w3 ⟨rfl, hb3⟩
  have h31 : w3.heap[w.heap.size + 1]? = some (.cells #[.int .i64 0, .int .i64 0, .string ⟨#[]⟩, .int .i64 0, .int .i64 0, .int .i64 0] 143 (0, 0)) := (hb3.block _ (by have := HSZ.out; omega)).trans HB1.out
  have HB3 : Hid (Below w.heap.size w w3) := HB2.out.trans (hb3.mono HB2.out.size)
  obtain ⟨r0, r1, r2, r3, r4, r5, rf⟩ := blk6 h31
  clear hb3
  go_wp2_with fail
  have hS := set6 h31 (.int .i64 0) (.int .i64 0) (.string ⟨#[]⟩) (.int .i64 0) (.int .i64 0) (.int .i64 0)
  have HBE := below_set6 HB3.out (Nat.le_add_right _ 1) (.int .i64 0) (.int .i64 0) (.string ⟨#[]⟩) (.int .i64 0) (.int .i64 0) (.int .i64 0)
  generalize (((((w3.setCell ⟨w.heap.size + 1, 0, none⟩ (.int .i64 0)).setCell ⟨w.heap.size + 1, 1, none⟩ (.int .i64 0)).setCell ⟨w.heap.size + 1, 2, none⟩ (.string ⟨#[]⟩)).setCell ⟨w.heap.size + 1, 3, none⟩ (.int .i64 0)).setCell ⟨w.heap.size + 1, 4, none⟩ (.int .i64 0)).setCell ⟨w.heap.size + 1, 5, none⟩ (.int .i64 0) = W at *
  obtain ⟨y0, y1, y2, y3, y4, y5, _⟩ := blk6 hS
  refine bodyPost_ret (v := .tuple #[shV nd0, .int .i64 1]) (by simp [results, Tryz.results93, go_sem, y0, y1, y2, y3, y4, y5, shV, nd0]) rfl ⟨rfl, HBE⟩

set_option maxRecDepth 20000 in
set_option maxHeartbeats 4000000 in
theorem shapeOf_fit (w : World) (p : Nat) (ev mv : Value) (L : List Nd) (op n : Int) (nm : ByteArray) (ks : List Int) (ka : Option Addr) (kc : Nat) (h : TbM w p ev mv L) (hT : SpanCells w) (hI : Ints w w.heap.size (.slice ka ks.length kc) ks) (hf : fitB op n nm ks.length = true) (sv : Value) (er : Int)
    (hr : (ks.all (hasT L) = true ∧ sv = shV ⟨op, n, nm, ks⟩ ∧ er = 0) ∨ (ks.all (hasT L) = false ∧ sv = shV nd0 ∧ er = 2)) :
    Calls Tryz.prog 93 #[.pointer (some ⟨p, 0, none⟩), .agg #[.int .i64 op, .int .i64 n, .string nm, .slice ka ks.length kc]] w fun e w' => e = .returned (.tuple #[sv, .int .i64 er]) ∧ Below w.heap.size w w' := by
  have hk3 := formB_kids (x := ⟨op, n, nm, ks⟩) hf
  simp only at hk3
  have cf : Hid (∀ W, SpanCells W → Calls Tryz.prog 102 #[.agg #[.int .i64 op, .int .i64 n, .string nm, .slice ka ks.length kc]] W fun e w' => e = .returned (.bool true) ∧ Below W.heap.size W w') := fun W hW => by
    have := tfits_any op n nm ka ks.length kc W hW
    rw [hf] at this
    exact this
  have cs : Hid (∀ W, Ints W W.heap.size (.slice ka ks.length kc) ks → Calls Tryz.prog 104 #[.agg #[.int .i64 op, .int .i64 n, .string nm, .slice ka ks.length kc]] W fun e w' => e = .returned (shV ⟨op, n, nm, ks⟩) ∧ Below W.heap.size W w') := fun W hW => shaped_any op n nm ks ka kc W hW hk3
  have HM : Hid (TbM w p ev mv L) := h
  have HI : Hid (Ints w w.heap.size (.slice ka ks.length kc) ks) := hI
  have HR : Hid ((ks.all (hasT L) = true ∧ sv = shV ⟨op, n, nm, ks⟩ ∧ er = 0) ∨ (ks.all (hasT L) = false ∧ sv = shV nd0 ∧ er = 2)) := hr
  clear hr
  obtain ⟨w2, hw2⟩ : ∃ w2, (w.alloc (.cells #[.int .i64 op, .int .i64 n, .string nm, .slice ka ks.length kc] 41)).alloc (.cells #[.int .i64 0, .int .i64 0, .string ⟨#[]⟩, .int .i64 0, .int .i64 0, .int .i64 0] 143) = w2 := ⟨_, rfl⟩
  have HB2 : Hid (Below w.heap.size w w2) := by rw [← hw2]; exact ((Below.refl _ _).alloc (Nat.le_refl _) _).alloc (by simp) _
  have hb : w2.heap[w.heap.size]? = some (.cells #[.int .i64 op, .int .i64 n, .string nm, .slice ka ks.length kc] 41 (0, 0)) := by rw [← hw2, Deep.blk_alloc_lt _ _ _ (by simp), Deep.blk_alloc_new]
  have hb1 : w2.heap[w.heap.size + 1]? = some (.cells #[.int .i64 0, .int .i64 0, .string ⟨#[]⟩, .int .i64 0, .int .i64 0, .int .i64 0] 143 (0, 0)) := by
    rw [← hw2]
    have := Deep.blk_alloc_new (w.alloc (.cells #[.int .i64 op, .int .i64 n, .string nm, .slice ka ks.length kc] 41)) (.cells #[.int .i64 0, .int .i64 0, .string ⟨#[]⟩, .int .i64 0, .int .i64 0, .int .i64 0] 143)
    simpa using this
  have hsz2 : w2.heap.size = w.heap.size + 2 := by rw [← hw2]; simp
  have hT2 : SpanCells w2 := hT.below HB2.out
  obtain ⟨c0, c1, c2, c3, _⟩ := blk4 hb
  have HW : Hid ((w.alloc (.cells #[.int .i64 op, .int .i64 n, .string nm, .slice ka ks.length kc] 41)).alloc (.cells #[.int .i64 0, .int .i64 0, .string ⟨#[]⟩, .int .i64 0, .int .i64 0, .int .i64 0] 143) = w2) := hw2
  have HSZ : Hid (w2.heap.size = w.heap.size + 2) := hsz2
  have HBK : Hid (∀ W, Below w2.heap.size w2 W → W.heap[w.heap.size]? = some (.cells #[.int .i64 op, .int .i64 n, .string nm, .slice ka ks.length kc] 41 (0, 0)) ∧ W.heap[w.heap.size + 1]? = some (.cells #[.int .i64 0, .int .i64 0, .string ⟨#[]⟩, .int .i64 0, .int .i64 0, .int .i64 0] 143 (0, 0))) := fun W hW => ⟨(hW.block _ (by omega)).trans hb, (hW.block _ (by omega)).trans hb1⟩
  clear hw2 hb hb1 hsz2 h hI hf
  go_enter Tryz.func93, Tryz.ntmps93
  go_wp2_with fail
  rw [HW.out]
  go_wp2_with fail
  refine (cf.out _ hT2).mono ?_
  rintro e w3 ⟨rfl, hb3⟩
  obtain ⟨h30, h31⟩ := HBK.out w3 hb3
  have HB23 : Hid (Below w2.heap.size w2 w3) := hb3
  have HB3 : Hid (Below w.heap.size w w3) := HB2.out.trans (hb3.mono HB2.out.size)
  have HM3 : Hid (TbM w3 p ev mv L) := HM.out.below HB3.out
  have HI3 : Hid (Ints w3 w3.heap.size (.slice ka ks.length kc) ks) := HI.out.below HB3.out HB3.out.size
  obtain ⟨d0, d1, d2, d3, _⟩ := blk4 h30
  obtain ⟨r0, r1, r2, r3, r4, r5, rf⟩ := blk6 h31
  clear hb3 c0 c1 c2 c3
  go_wp2_with fail
  go_loopw [18] (fun i wr => ∃ k : Nat, k ≤ ks.length ∧ i = .int .i64 k ∧ (∀ j, j < k → hasT L (ks.getD j 0) = true) ∧ wr = w3) (fun i _ => ks.length - (RowKit.intOf i).toNat)
  case atStart => exact ⟨0, by omega, rfl, fun j hj => by omega, rfl⟩
  case round =>
    obtain ⟨k, hkl, rfl, hall, hwr⟩ := hrel
    have HA : Hid (∀ j, j < k → hasT L (ks.getD j 0) = true) := hall
    subst hwr
    clear hall
    by_cases hlt : k < ks.length
    · obtain ⟨ao', cap', hv, hl, hm, hc⟩ := HI3.out
      simp only [Value.slice.injEq, true_and] at hv
      obtain ⟨rfl, rfl⟩ := hv
      obtain ⟨b, o, rfl, hbl, hc⟩ : ∃ b o, ka = some ⟨b, o, none⟩ ∧ b < wr.heap.size ∧ ∀ j, j < ks.length → wr.cell? ⟨b, o + j, none⟩ = some (.int .i64 (ks.getD j 0)) := by
        rcases hc with h | h
        · subst h; simp at hlt
        · exact h
      have ck := hc k hlt
      have hm1 := hm.1
      unfold maxLen at hm1
      have hltI : (k : Int) < (ks.length : Int) := by omega
      have HKM : Hid (ks.getD k 0 ∈ ks) := by show _ ∈ _; simp [hlt]
      have HNX : Hid (hasT L (ks.getD k 0) = true → ∀ j, j < k + 1 → hasT L (ks.getD j 0) = true) := fun h j hj => by
        rcases Nat.lt_or_ge j k with h1 | h1
        · exact HA.out j h1
        · have : j = k := by omega
          subst this; exact h
      have HNO : Hid (hasT L (ks.getD k 0) = false → ks.all (hasT L) = false) := fun h => by
        rw [List.all_eq_false]
        exact ⟨_, HKM.out, by rw [h]; decide⟩
      have ch : Hid (Calls Tryz.prog 103 #[.pointer (some ⟨p, 0, none⟩), .int .i64 (ks.getD k 0)] wr fun e w' => e = .returned (.bool (hasT L (ks.getD k 0))) ∧ w' = wr) := thas_any wr p ev mv L _ HM3.out
      generalize ks.getD k 0 = q at *
      clear hc hm
      cases hq : hasT L q with
      | true =>
        have HNX2 := HNX.out hq
        rw [hq] at ch
        go_wp2_with (go_at_call 103; refine ch.out.mono ?_; rintro e w4 ⟨rfl, hw4⟩; subst hw4)
        exact ⟨⟨k + 1, by omega, by go_num, HNX2, trivial⟩, by simp [RowKit.intOf]; omega⟩
      | false =>
        have hno := HNO.out hq
        rw [hq] at ch
        obtain ⟨hsv, her⟩ : sv = shV nd0 ∧ er = 2 := by
          rcases HR.out with ⟨h1, _⟩ | ⟨_, h2⟩
          · rw [hno] at h1; cases h1
          · exact h2
        have HSV : Hid (sv = shV nd0 ∧ er = 2) := ⟨hsv, her⟩
        clear hsv her
        go_wp2_with (go_at_call 103; refine ch.out.mono ?_; rintro e w4 ⟨rfl, hw4⟩; subst hw4)
        have hS := set6 h31 (.int .i64 0) (.int .i64 0) (.string ⟨#[]⟩) (.int .i64 0) (.int .i64 0) (.int .i64 0)
        have HBE := below_set6 HB3.out (Nat.le_add_right _ 1) (.int .i64 0) (.int .i64 0) (.string ⟨#[]⟩) (.int .i64 0) (.int .i64 0) (.int .i64 0)
        generalize (((((w4.setCell ⟨w.heap.size + 1, 0, none⟩ (.int .i64 0)).setCell ⟨w.heap.size + 1, 1, none⟩ (.int .i64 0)).setCell ⟨w.heap.size + 1, 2, none⟩ (.string ⟨#[]⟩)).setCell ⟨w.heap.size + 1, 3, none⟩ (.int .i64 0)).setCell ⟨w.heap.size + 1, 4, none⟩ (.int .i64 0)).setCell ⟨w.heap.size + 1, 5, none⟩ (.int .i64 0) = W at *
        obtain ⟨y0, y1, y2, y3, y4, y5, _⟩ := blk6 hS
        refine bodyPost_ret (v := .tuple #[shV nd0, .int .i64 2]) (by simp [results, Tryz.results93, go_sem, y0, y1, y2, y3, y4, y5, shV, nd0]) rfl ⟨by rw [HSV.out.1, HSV.out.2], HBE⟩
    · have hke : k = ks.length := by omega
      subst hke
      obtain ⟨hsv, her⟩ : sv = shV ⟨op, n, nm, ks⟩ ∧ er = 0 := by
        rcases HR.out with ⟨_, h2⟩ | ⟨h1, _⟩
        · exact h2
        · rw [List.all_eq_false] at h1
          obtain ⟨q, hq, h2⟩ := h1
          obtain ⟨j, hj, rfl⟩ := List.mem_iff_getElem.1 hq
          have := HA.out j hj
          simp [hj] at this
          exact absurd this h2
      have HSV : Hid (sv = shV ⟨op, n, nm, ks⟩ ∧ er = 0) := ⟨hsv, her⟩
      have cs3 := cs.out wr HI3.out
      unfold shV at cs3
      simp only at cs3
      have HCS : Hid (Calls Tryz.prog 104 #[.agg #[.int .i64 op, .int .i64 n, .string nm, .slice ka ks.length kc]] wr fun e w' => e = .returned (.agg #[.int .i64 op, .int .i64 n, .string nm, .int .i64 (ks.getD 0 0), .int .i64 (ks.getD 1 0), .int .i64 (ks.getD 2 0)]) ∧ Below wr.heap.size wr w') := cs3
      clear hsv her cs3
      go_wp2_with fail
      refine HCS.out.mono ?_
      rintro e w5 ⟨rfl, hb5⟩
      have h51 := (HBK.out w5 (HB23.out.trans (hb5.mono HB23.out.size))).2
      obtain ⟨z0, z1, z2, z3, z4, z5, zf⟩ := blk6 h51
      have HB5 : Hid (Below w.heap.size w w5) := HB3.out.trans (hb5.mono HB3.out.size)
      clear hb5
      go_wp2_with fail
      have hS := set6 h51 (.int .i64 op) (.int .i64 n) (.string nm) (.int .i64 (ks.getD 0 0)) (.int .i64 (ks.getD 1 0)) (.int .i64 (ks.getD 2 0))
      have HBE := below_set6 HB5.out (Nat.le_add_right _ 1) (.int .i64 op) (.int .i64 n) (.string nm) (.int .i64 (ks.getD 0 0)) (.int .i64 (ks.getD 1 0)) (.int .i64 (ks.getD 2 0))
      have HSV2 : Hid (sv = .agg #[.int .i64 op, .int .i64 n, .string nm, .int .i64 (ks.getD 0 0), .int .i64 (ks.getD 1 0), .int .i64 (ks.getD 2 0)] ∧ er = 0) := HSV.out
      simp only [List.getD_eq_getElem?_getD] at hS HBE HSV2 ⊢
      generalize (((((w5.setCell ⟨w.heap.size + 1, 0, none⟩ (.int .i64 op)).setCell ⟨w.heap.size + 1, 1, none⟩ (.int .i64 n)).setCell ⟨w.heap.size + 1, 2, none⟩ (.string nm)).setCell ⟨w.heap.size + 1, 3, none⟩ (.int .i64 (ks[0]?.getD 0))).setCell ⟨w.heap.size + 1, 4, none⟩ (.int .i64 (ks[1]?.getD 0))).setCell ⟨w.heap.size + 1, 5, none⟩ (.int .i64 (ks[2]?.getD 0)) = W at *
      obtain ⟨y0, y1, y2, y3, y4, y5, _⟩ := blk6 hS
      refine bodyPost_ret (v := .tuple #[.agg #[.int .i64 op, .int .i64 n, .string nm, .int .i64 (ks[0]?.getD 0), .int .i64 (ks[1]?.getD 0), .int .i64 (ks[2]?.getD 0)], .int .i64 0]) (by simp [results, Tryz.results93, go_sem, y0, y1, y2, y3, y4, y5]) rfl ⟨by rw [HSV2.out.1, HSV2.out.2], HBE⟩
end Go.Proofs.YtlbmijcpalfaeaaGreatDoor
