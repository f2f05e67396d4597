/-
  apply of eval, walked.
-/
import Derived.Test.YtkgfcamlfnlpoaaDoorEwW
set_option linter.unusedSimpArgs false
set_option linter.unusedVariables false
namespace Go.Proofs.YtkgfcamlfnlpoaaDoor
open Go.RowKit Go.Lib

set_option maxRecDepth 20000 in
set_option maxHeartbeats 4000000 in
theorem wapply_any (w : World) (p : Nat) (ev v : Value) (st : List Int) (op : Int) (k : Nat) (hM : Ew w p ev v st) (hlen : st.length ≤ 100000) (hk0 : 0 < k) (hk : k ≤ st.length) (hG : GrpCells w) :
    Calls Tryd.prog 94 #[.pointer (some ⟨p, 0, none⟩), .int .i64 op, .int .i64 k] w fun e w' => e = .returned (.int .i64 (apR op (st.drop (st.length - k))).2) ∧ (∃ v', Ew w' p ev v' (st.take (st.length - k) ++ [(apR op (st.drop (st.length - k))).1])) ∧ Below p w w' := by
  obtain ⟨i0, hi, hz0, hz1, hz2⟩ := info_parts Tryd.infoL2
  obtain ⟨g, vc, hv⟩ : ∃ g vc, v = .slice (some ⟨g, 0, none⟩) st.length vc := by
    rcases hM.on.2 with ⟨_, h0⟩ | ⟨g', cap', cur, rfl, _⟩
    · omega
    · exact ⟨_, _, rfl⟩
  subst hv
  have hcap : st.length ≤ vc ∧ vc ≤ maxLen := by
    rcases hM.on.2 with ⟨h0, _⟩ | ⟨g', cap', cur, hv, _, _, hn, hm, _⟩
    · cases h0
    · cases hv; exact ⟨hn, hm⟩
  have hpl := hM.lt
  have c1 := hM.c1
  have f1 := hM.f1
  have HM : Hid (Ew w p ev (.slice (some ⟨g, 0, none⟩) st.length vc) st) := hM
  have hrow0 := hM.on
  obtain ⟨L, hL⟩ : ∃ L, st.length - k = L := ⟨_, rfl⟩
  have hrow := own_take hrow0 (k := L) (by omega)
  rw [hL]
  obtain ⟨n, hn⟩ : ∃ n, st.length = n := ⟨_, rfl⟩
  have HST : Hid (st.length = n) := hn
  have cA : Hid (∀ (V : World), Below w.heap.size w V → Calls Tryd.prog 30 #[.int .i64 op, .slice (some ⟨g, L, none⟩) (n - L) (vc - L)] V fun e w' => e = .returned (.tuple #[.int .i64 (apR op (st.drop L)).1, .int .i64 (apR op (st.drop L)).2]) ∧ ∃ m, w' = V.drewN m) := fun V hV => by
    refine apply_any op _ (st.drop L) V (hG.below hV) ⟨_, _, by rw [List.length_drop, hn], .inr ⟨g, L, rfl, fun i x hx => ?_⟩⟩
    have hg : w.cell? ⟨g, L + i, none⟩ = some (.int .i64 x) := by
      have := hrow0.cellAt (L + i) (by
        have : i < (st.drop L).length := by
          rcases Nat.lt_or_ge i (st.drop L).length with h | h
          · exact h
          · rw [List.getElem?_eq_none h] at hx; cases hx
        rw [List.length_drop] at this; omega)
      rw [this, List.getElem?_map]
      rw [List.getElem?_drop] at hx
      rw [hx]; rfl
    exact (hV.cell (p := ⟨g, L + i, none⟩) (own_block' hrow0 g rfl).2).trans hg
  have hnl : n - L = k := by omega
  rw [hn] at c1 hrow0 hlen hcap
  have hLn : (L : Int) = (n : Int) - (k : Int) := by omega
  generalize apR op (st.drop L) = R at *
  have HL : Hid ((st.take L).length = L) := by rw [Hid, List.length_take]; omega
  have HTK : Hid ((st.map (Value.int .i64)).take L = (st.take L).map (Value.int .i64)) := by rw [Hid, List.map_take]
  rw [HTK.out] at hrow
  have c1g : ∀ m o, ((w.drewN m).alloc o).cell? ⟨p, 1, none⟩ = some (.slice (some ⟨g, 0, none⟩) n vc) := fun m o => (World.cell?_alloc_past _ _ _ (by show p < w.heap.size; omega)).trans c1
  have c1m : ∀ m, (w.drewN m).cell? ⟨p, 1, none⟩ = some (.slice (some ⟨g, 0, none⟩) n vc) := fun m => c1
  have HP6 : Hid (∀ (m : Nat) (o : Obj) (w6 : World), ((w.drewN m).alloc o).grownBy w6 (Value.slice (some ⟨g, 0, none⟩) L vc).ownBlock → w6.heap[p]? = w.heap[p]?) := fun m o w6 hg => by
    have h1 := hg.block p (by rw [World.size_alloc]; show p < w.heap.size + 1; omega) (fun e => by have := (own_block' hrow p e.symm).1; omega)
    exact h1.trans (Deep.blk_alloc_lt (w.drewN m) _ _ (by show p < w.heap.size; omega))
  have hLv : L ≤ vc := by omega
  have hLn2 : L ≤ n := by omega
  have hLI : (L : Int) ≤ (n : Int) := by omega
  have hLvI : (L : Int) ≤ (vc : Int) := by omega
  have hnI : (n : Int) ≤ (vc : Int) := by omega
  obtain ⟨_, hvm⟩ := hcap
  unfold maxLen at hvm
  rw [hn] at hL
  have hLL : n - k = L := hL
  have HLL : Hid (n - k = L) := hLL
  have hb0 : Below w.heap.size w w := Below.refl _ _
  have cA2 : Hid (∀ (V : World), Below w.heap.size w V → Calls Tryd.prog 30 #[.int .i64 op, .slice (some ⟨g, n - k, none⟩) (n - (n - k)) (vc - (n - k))] V fun e w' => e = .returned (.tuple #[.int .i64 R.1, .int .i64 R.2]) ∧ ∃ m, w' = V.drewN m) := fun V hV => by
    have := cA.out V hV
    rw [← hLL] at this
    exact this
  clear hM hn hL hLL cA
  go_enter Tryd.func94, Tryd.ntmps94
  go_wp2_with fail
  refine (cA2.out _ hb0).mono ?_
  rintro e w2 ⟨rfl, m, rfl⟩
  have q1 := c1m m
  have z1 := c1g m
  have hrm : (w.drewN m).ownsRow (p + 1) 2 1 (.slice (some ⟨g, 0, none⟩) L vc) L ((st.take L).map (Value.int .i64)) := hrow
  have hsz : (w.drewN m).heap.size = w.heap.size := rfl
  have P6 := fun o w6 => HP6.out m o w6
  have HB1 : Hid (Below w.heap.size w (w.drewN m)) := by rw [Hid]; exact ⟨rfl, rfl, rfl, Nat.le_refl _, fun _ _ => rfl⟩
  have f1m : (w.drewN m).frozen? ⟨p, 1, none⟩ = false := f1
  clear c1m c1g HP6 cA2 hb0 hG c1 f1 hrow
  generalize w.drewN m = W at *
  obtain rfl := HLL.out
  go_wp2_with (at_builtin; refine wpList_append_lies _ rfl (.tmp 34) (.tmp 36) 47 rfl (p + 1) 2 i0 (.int .i64 0) 1 8 Tryd.underlying47 hi hz0 hz1 hz2 rfl (by decide) _ _ _ (by simp [Act.eval, Act.put]) (hrm.alloc _) ⟨W.heap.size, 0, none⟩ 1 1 [.int .i64 R.1] (by simp [Act.eval, Act.put]) rfl (cell_news_one W _ _) (by simp [Value.oneCell']) (by omega) (by unfold maxLen; omega) (by omega) (by simp; omega) _ rfl ?_; intro g6 cap6 w6 hown6 hg6 hat6 hl6; have hnd6 := P6 _ w6 hg6; have hndW : w6.heap[p]? = W.heap[p]? := hnd6.trans (HB1.out.block p hpl).symm; have m6 : w6.cell? ⟨p, 1, none⟩ = some (.slice (some ⟨g, 0, none⟩) n vc) := (World.cell?_of_block (a := ⟨p, 1, none⟩) hndW).trans q1; have m6f : w6.frozen? ⟨p, 1, none⟩ = false := (World.frozen?_of_block (a := ⟨p, 1, none⟩) hndW).trans f1m)
  all_goals
    have hF : Ew (w6.setCell ⟨p, 1, none⟩ (.slice (some ⟨g6, 0, none⟩) (n - k + 1) cap6)) p ev (.slice (some ⟨g6, 0, none⟩) (n - k + 1) cap6) (st.take (n - k) ++ [R.1]) := HM.out.put hnd6 (by rw [List.length_append, HL.out, List.map_append]; exact hown6)
    have hB : Below p w (w6.setCell ⟨p, 1, none⟩ (.slice (some ⟨g6, 0, none⟩) (n - k + 1) cap6)) := by
      have b1 : Below p w (W.alloc (.cells #[.int .i64 R.1] 2)) := (HB1.out.trans (((Below.refl W.heap.size W).alloc (Nat.le_refl _) _).mono (by omega))).mono (by omega)
      have b2 := b1.grown hg6 (by rw [World.size_alloc]; omega) (fun j hj => by have := (own_block' hrm j hj).1; omega)
      exact b2.setCell (p := ⟨p, 1, none⟩) (Nat.le_refl p) _
    have HF : Hid (Ew (w6.setCell ⟨p, 1, none⟩ (.slice (some ⟨g6, 0, none⟩) (n - k + 1) cap6)) p ev (.slice (some ⟨g6, 0, none⟩) (n - k + 1) cap6) (st.take (n - k) ++ [R.1])) := hF
    have HB : Hid (Below p w (w6.setCell ⟨p, 1, none⟩ (.slice (some ⟨g6, 0, none⟩) (n - k + 1) cap6))) := hB
    clear hF hB
    go_wp2_with fail
    go_ret
    exact ⟨rfl, ⟨_, HF.out⟩, HB.out⟩
end Go.Proofs.YtkgfcamlfnlpoaaDoor
