/-
  put, apply, node, nodes of eval, walked.
-/
import Derived.Test.YtkgfcamlfnlpoaaDoorEwP
import Derived.Test.YtkgfcamlfnlpoaaDoorArW
import Derived.Test.YtkgfcamlfnlpoaaDoorEvGetW
import Derived.Test.YtkgfcamlfnlpoaaDoorExRdW
import Derived.Test.YtkgfcamlfnlpoaaDoorSwPure
import Derived.Deep.RegionLaw
set_option linter.unusedSimpArgs false
set_option linter.unusedVariables false
namespace Go.Proofs.YtkgfcamlfnlpoaaDoor
open Go.RowKit Go.Lib

theorem Tryd.infoL2 : (Tryd.prog.info? 2).map (fun i => (i.zero, i.size, i.bytes)) = some (some (.int .i64 0), 1, 8) := by kernel_rfl

/-- A work: its block p holds the environment and the numbers' list, which is its own. -/
structure Ew (w : World) (p : Nat) (ev v : Value) (st : List Int) : Prop where
  blk : w.heap[p]? = some (.cells #[ev, v] 71 (0, 0))
  on : w.ownsRow (p + 1) 2 1 v st.length (st.map (Value.int .i64))
theorem Ew.lt {w : World} {p : Nat} {ev v : Value} {st : List Int} (h : Ew w p ev v st) : p < w.heap.size := lt_of_block h.blk
theorem Ew.below {w w' : World} {p : Nat} {ev v : Value} {st : List Int} (h : Ew w p ev v st) (hb : Below w.heap.size w w') : Ew w' p ev v st :=
  ⟨(hb.block _ h.lt).trans h.blk, ownsRow_below h.on hb⟩
theorem Ew.c0 {w : World} {p : Nat} {ev v : Value} {st : List Int} (h : Ew w p ev v st) : w.cell? ⟨p, 0, none⟩ = some ev := by simp [World.cell?, h.blk]
theorem Ew.c1 {w : World} {p : Nat} {ev v : Value} {st : List Int} (h : Ew w p ev v st) : w.cell? ⟨p, 1, none⟩ = some v := by simp [World.cell?, h.blk]
theorem Ew.f1 {w : World} {p : Nat} {ev v : Value} {st : List Int} (h : Ew w p ev v st) : w.frozen? ⟨p, 1, none⟩ = false := by simp [World.frozen?, h.blk]

/-- Behind an append and the store. -/
theorem Ew.put {w w6 : World} {p : Nat} {ev v v' : Value} {st st' : List Int} (h : Ew w p ev v st) (hb : w6.heap[p]? = w.heap[p]?) (ho : w6.ownsRow (p + 1) 2 1 v' st'.length (st'.map (Value.int .i64))) : Ew (w6.setCell ⟨p, 1, none⟩ v') p ev v' st' := by
  refine ⟨?_, ownsRow_setCell_below ho (by show p < p + 1; omega) _⟩
  have := heap_setCell_same w6 p 1 #[ev, v] 71 v' (hb.trans h.blk)
  simpa using this
theorem own_take {w : World} {base g n cap k : Nat} {e : TypeId} {xs : List Value} (h : w.ownsRow base e 1 (.slice (some ⟨g, 0, none⟩) n cap) n xs) (hk : k ≤ n) : w.ownsRow base e 1 (.slice (some ⟨g, 0, none⟩) k cap) k (xs.take k) := by
  obtain ⟨h1, h2⟩ := h
  rcases h2 with ⟨h2, _⟩ | ⟨g', cap', cur, hv, hg, hb, hn, hm, hs, ht⟩
  · cases h2
  · cases hv
    refine ⟨by simp; omega, .inr ⟨g, cap, cur, rfl, hg, hb, by omega, hm, hs, ?_⟩⟩
    rw [← ht, List.take_take]; congr 1; omega

set_option maxRecDepth 20000 in
set_option maxHeartbeats 2000000 in
theorem wput_any (w : World) (p : Nat) (ev v : Value) (st : List Int) (n : Int) (hM : Ew w p ev v st) (hlen : st.length ≤ 100000) :
    Calls Tryd.prog 93 #[.pointer (some ⟨p, 0, none⟩), .int .i64 n] w fun e w' => e = .returned (.tuple #[]) ∧ (∃ v', Ew w' p ev v' (st ++ [n])) ∧ Below p w w' := by
  obtain ⟨i0, hi, hz0, hz1, hz2⟩ := info_parts Tryd.infoL2
  obtain ⟨va, vc, hv⟩ := row_form' hM.on
  subst hv
  have hpl := hM.lt
  have c1 := hM.c1
  have f1 := hM.f1
  have HM : Hid (Ew w p ev (.slice va st.length vc) st) := hM
  have hrow := hM.on
  obtain ⟨L, hL⟩ : ∃ L, st.length = L := ⟨_, rfl⟩
  rw [hL] at c1 hrow hlen
  have HL : Hid (st.length = L) := hL
  have z1 : ∀ o, (w.alloc o).cell? ⟨p, 1, none⟩ = some (.slice va L vc) := fun o => (World.cell?_alloc_past _ _ _ (by show p < w.heap.size; omega)).trans c1
  have HP6 : Hid (∀ (o : Obj) (w6 : World), (w.alloc o).grownBy w6 (Value.slice va L vc).ownBlock → w6.heap[p]? = w.heap[p]?) := fun o w6 hg => by
    have h1 := hg.block p (by rw [World.size_alloc]; omega) (fun e => by have := (own_block' hrow p e.symm).1; omega)
    exact h1.trans (Deep.blk_alloc_lt _ _ _ (by omega))
  clear hM hL
  go_enter Tryd.func93, Tryd.ntmps93
  go_wp2_with (at_builtin; refine wpList_append_lies _ rfl (.tmp 8) (.tmp 10) 47 rfl (p + 1) 2 i0 (.int .i64 0) 1 8 Tryd.underlying47 hi hz0 hz1 hz2 rfl (by decide) _ _ _ (by simp [Act.eval, Act.put]) (hrow.alloc _) ⟨w.heap.size, 0, none⟩ 1 1 [.int .i64 n] (by simp [Act.eval, Act.put]) rfl (cell_news_one w _ _) (by simp [Value.oneCell']) (by omega) (by unfold maxLen; omega) (by omega) (by simp; omega) _ rfl ?_; intro g6 cap6 w6 hown6 hg6 hat6 hl6; have hnd6 := HP6.out _ w6 hg6; have m6 : w6.cell? ⟨p, 1, none⟩ = some (.slice va L vc) := (World.cell?_of_block (a := ⟨p, 1, none⟩) hnd6).trans c1; have m6f : w6.frozen? ⟨p, 1, none⟩ = false := (World.frozen?_of_block (a := ⟨p, 1, none⟩) hnd6).trans f1)
  all_goals
    have hF : Ew (w6.setCell ⟨p, 1, none⟩ (.slice (some ⟨g6, 0, none⟩) (L + 1) cap6)) p ev (.slice (some ⟨g6, 0, none⟩) (L + 1) cap6) (st ++ [n]) := HM.out.put hnd6 (by rw [List.length_append, HL.out, List.map_append]; exact hown6)
    have hB : Below p w (w6.setCell ⟨p, 1, none⟩ (.slice (some ⟨g6, 0, none⟩) (L + 1) cap6)) := by
      have b1 : Below p w (w.alloc (.cells #[.int .i64 n] 2)) := ((Below.refl w.heap.size w).alloc (Nat.le_refl _) _).mono (by omega)
      have b2 := b1.grown hg6 (by show p ≤ (w.alloc _).heap.size; rw [World.size_alloc]; omega) (fun j hj => by have := (own_block' hrow j hj).1; omega)
      exact b2.setCell (p := ⟨p, 1, none⟩) (Nat.le_refl p) _
    have HF : Hid (Ew (w6.setCell ⟨p, 1, none⟩ (.slice (some ⟨g6, 0, none⟩) (L + 1) cap6)) p ev (.slice (some ⟨g6, 0, none⟩) (L + 1) cap6) (st ++ [n])) := hF
    have HB : Hid (Below p w (w6.setCell ⟨p, 1, none⟩ (.slice (some ⟨g6, 0, none⟩) (L + 1) cap6))) := hB
    clear hF hB
    go_wp2_with fail
    go_end0
    exact ⟨rfl, ⟨_, HF.out⟩, HB.out⟩

end Go.Proofs.YtkgfcamlfnlpoaaDoor
