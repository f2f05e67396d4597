/-
  What Vars answers: the walk.
-/
import Derived.Test.YtkdcjkhpbbcncaaDoorVrW
set_option linter.unusedSimpArgs false
set_option linter.unusedVariables false
namespace Go.Proofs.YtkdcjkhpbbcncaaDoor
open Go.RowKit Go.Lib

theorem vsL_chk {l : List Nd} (h : ∀ x ∈ l, x.op = 2 → (chk x.name).2 = 0) : ∀ s ∈ vsL l, (chk s).2 = 0 := by
  intro s hs
  obtain ⟨x, hx, rfl⟩ := List.mem_map.1 hs
  rw [List.mem_filter] at hx
  exact h x hx.1 (by simpa using hx.2)

theorem cell_news_two (w : World) (o : Obj) (v : Value) (t : TypeId) : ∀ j u, [v][j]? = some u → ((w.alloc o).alloc (.cells #[v] t)).cell? ((⟨w.heap.size + 1, 0, none⟩ : Addr).add j) = some u := by
  have h := cell_news_one (w.alloc o) v t
  rwa [World.size_alloc] at h

/-- The names so far. -/
structure VMid (w2 : World) (v : Value) (ns : List ByteArray) (wr : World) : Prop where
  row : wr.ownsRow w2.heap.size 9 1 v ns.length (ns.map Value.string)
  below : Below w2.heap.size w2 wr

set_option maxRecDepth 20000 in
set_option maxHeartbeats 2000000 in
theorem vars_some (vs : Value) (l : List Nd) (fr : List Nat) (w : World) (B : Nat) (hBw : B ≤ w.heap.size) (hT : Tabs w) (hN : Nodes w B vs l) (h : begL l = some fr) (hch : ∀ s ∈ vsL l, (chk s).2 = 0) :
    Calls Tryd.prog 20 #[vs] w fun e w' => ∃ ao cap xs, e = .returned (.tuple #[.slice ao xs.length cap, .int .i64 0]) ∧ VrOf (vsL l) xs ∧ Strs w' ao cap xs ∧ Below w.heap.size w w' := by
  obtain ⟨i0, hi, hz0, hz1, hz2⟩ := info_parts Tryd.infoTxt
  have h64 := (snd_bounds h).1
  have hl0 := (begL_some h).1
  have HS : Hid (begL l = some fr) := h
  have HCH : Hid (∀ s ∈ vsL l, (chk s).2 = 0) := hch
  have HT : Hid (Tabs w) := hT
  clear h hch hT
  have hN0 := hN
  obtain ⟨ao, cap0, rfl, hl, hm, hc⟩ := hN
  unfold maxLen at hm
  obtain ⟨b, o, rfl, hbl, hc'⟩ : ∃ b o, ao = some ⟨b, o, none⟩ ∧ b < B ∧ ∀ i, i < l.length → ∃ kv, NodeAt w B b (o + i * 4) (l.getD i nd0) kv := by
    rcases hc with h | h
    · subst h; simp at hl0
    · exact h
  have HC : Hid (∀ i, i < l.length → ∃ kv, NodeAt w B b (o + i * 4) (l.getD i nd0) kv) := hc'
  clear hc hc'
  go_enter Tryd.func20, Tryd.ntmps20
  go_wp2_with (go_at_call 10; refine (check_some _ l fr _ B hBw HT.out.spans hN0 HS.out).mono ?_; rintro e w2 ⟨rfl, hb2⟩)
  have hz2' := hb2.size
  have HB2 : Hid (Below w.heap.size w w2) := hb2
  clear hb2 hN0
  go_loopw [4, 12] (fun v i wr => ∃ k : Nat, k ≤ l.length ∧ i = .int .i64 k ∧ VMid w2 v (vsL (l.take k)) wr) (fun _ i _ => l.length - (RowKit.intOf i).toNat)
  case atStart => exact ⟨0, by omega, rfl, by simpa [vsL] using World.ownsRow_nil _ _ _ _, Below.refl _ _⟩
  case round =>
    obtain ⟨k, hk, rfl, hM⟩ := hrel
    have hsz := hM.below.size
    obtain ⟨va, vc, hv⟩ := row_form' hM.row
    subst hv
    by_cases hlt : k < l.length
    · obtain ⟨kv, hNA⟩ := HC.out k hlt
      have hNA := hNA.below ((HB2.out.mono hBw).trans (hM.below.mono (by omega))) (Nat.le_refl _) hbl
      have HVS := vsL_succ l k hlt
      have hvl := vsL_le (l.take k)
      have hvl2 : (vsL (l.take k)).length ≤ 64 := by simp at hvl; omega
      clear hvl
      generalize l.getD k nd0 = x at *
      obtain ⟨op, n, nm, kids⟩ := x
      obtain ⟨c0, c1, c2, c3, hki⟩ := hNA
      simp only at c0 c1 c2 c3 HVS hki
      obtain ⟨ka, kc, rfl, _, _, _⟩ := hki
      generalize kids.length = kl at *
      generalize hq : vsL (l.take k) = qs at *
      clear hq
      have hb9 : b < wr.heap.size := by omega
      by_cases hop : op = 2
      · have HE : Hid (vsL (l.take (k + 1)) = qs ++ [nm]) := by rw [Hid, HVS, if_pos hop]
        clear HVS
        subst hop
        obtain ⟨m, hm9⟩ : ∃ m, qs.length = m := ⟨_, rfl⟩
        have hrow := hM.row
        have hBel := hM.below
        rw [hm9] at hrow hvl2
        have HM9 : Hid (qs.length = m) := hm9
        rw [HM9.out]
        clear hm9 hM
        go_wp2_with (at_builtin; refine wpList_append_lies _ rfl (.tmp 19) (.tmp 22) 33 rfl w2.heap.size 9 i0 (.string ⟨#[]⟩) 1 16 Tryd.underlying33 hi hz0 hz1 hz2 rfl (by decide) _ _ _ rfl ((hrow.alloc _).alloc _) ⟨wr.heap.size + 1, 0, none⟩ 1 1 [.string nm] rfl rfl (cell_news_two _ _ _ _) (by simp [Value.oneCell']) (by omega) (by unfold maxLen; omega) (by omega) (by simp; omega) _ rfl ?_; intro g6 cap6 w6 hown6 hg6 hat6 hl6)
        refine ⟨⟨k + 1, by omega, by go_num, ?_, ?_⟩, by simp [RowKit.intOf]; omega⟩
        · rw [HE.out]
          have e1 : (qs ++ [nm]).length = m + 1 := by simp [HM9.out]
          have e2 : (qs ++ [nm]).map Value.string = qs.map Value.string ++ [.string nm] := by simp
          rw [e1, e2]; exact hown6
        · exact ((hBel.alloc hsz _).alloc (by rw [World.size_alloc]; omega) _).grown hg6 (by rw [World.size_alloc, World.size_alloc]; omega) (fun j hj => (own_block' hrow j hj).1)
      · have HE : Hid (vsL (l.take (k + 1)) = qs) := by rw [Hid, HVS, if_neg hop, List.append_nil]
        clear HVS
        have hop' : (op == 2) = false := by simpa using hop
        have hrow := hM.row
        have hBel := hM.below
        clear hM
        go_wp2
        refine ⟨⟨k + 1, by omega, by go_num, ?_, ?_⟩, by simp [RowKit.intOf]; omega⟩
        · rw [HE.out]; exact hrow.alloc _
        · exact hBel.alloc hsz _
    · have hke : k = l.length := by omega
      subst hke
      have e : l.take l.length = l := List.take_length
      rw [e] at hM
      have hvl := vsL_le l
      have hrow := hM.row
      have hBel := hM.below
      rw [e]
      clear hM e
      go_wp2_with (first | (go_at_call 52; refine (sortNames w2 wr w2.heap.size _ (vsL l) (HT.out.below HB2.out) hBel (Nat.le_refl _) HCH.out (by omega) hrow).mono ?_; rintro e w3 ⟨rfl, hb3, hcp⟩) | (go_at_call 54; refine hcp.mono ?_; rintro e w4 ⟨ao4, cap4, xs, rfl, hvr, hst, hb4⟩))
      go_ret2
      exact ⟨ao4, cap4, xs, rfl, hvr, hst, HB2.out.trans ((hBel.trans hb4).mono hz2')⟩

set_option maxHeartbeats 1000000 in
theorem vars_none (vs : Value) (l : List Nd) (w : World) (B : Nat) (hBw : B ≤ w.heap.size) (hT : SpanCells w) (hN : Nodes w B vs l) (h : begL l = none) :
    Calls Tryd.prog 20 #[vs] w fun e w' => e = .returned (.tuple #[.slice none 0 0, .int .i64 1]) ∧ Below w.heap.size w w' := by
  have HS : Hid (begL l = none) := h
  clear h
  go_enter Tryd.func20, Tryd.ntmps20
  go_wp2_with (go_at_call 10; refine (check_none _ l _ B hBw hT hN HS.out).mono ?_; rintro e w2 ⟨rfl, hb2⟩)
  go_ret2
  exact ⟨rfl, hb2⟩
end Go.Proofs.YtkdcjkhpbbcncaaDoor
