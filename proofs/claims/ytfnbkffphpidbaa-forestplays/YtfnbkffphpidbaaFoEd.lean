/-
  edges, walked.
-/
import Derived.Test.YtfnbkffphpidbaaFoRi
import Derived.Test.YtfnbkffphpidbaaFoTd
set_option linter.unusedSimpArgs false
set_option linter.unusedVariables false
namespace Go.Proofs.Ytfnbkffphpidbaa
open Go.RowKit Go.Lib

theorem Rsn.same {w w' : World} {u : Value} {k c : Int} (h : Rsn w u k c) (hs : ∀ (b : Nat) (e : TypeId), w.heap[b]? = some (Obj.cells #[.int .i64 k] e (0, 0)) → (e = 3 ∨ e = 98) → w'.heap[b]? = w.heap[b]?) : Rsn w' u k c := by
  rcases h with h | h | ⟨h0, b, h1, h2⟩ | h | ⟨h0, b, h1, h2⟩ | h | ⟨h0, b, h1, h2⟩ | h
  · exact .inl h
  · exact .inr (.inl h)
  · exact .inr (.inr (.inl ⟨h0, b, h1, (hs b _ h2 (.inr rfl)).trans h2⟩))
  · exact .inr (.inr (.inr (.inl h)))
  · exact .inr (.inr (.inr (.inr (.inl ⟨h0, b, h1, (hs b _ h2 (.inl rfl)).trans h2⟩))))
  · exact .inr (.inr (.inr (.inr (.inr (.inl h)))))
  · exact .inr (.inr (.inr (.inr (.inr (.inr (.inl ⟨h0, b, h1, (hs b _ h2 (.inl rfl)).trans h2⟩))))))
  · exact .inr (.inr (.inr (.inr (.inr (.inr (.inr h))))))
theorem Rsn.below {w w' : World} {u : Value} {k c : Int} (h : Rsn w u k c) (hb : Below w.heap.size w w') : Rsn w' u k c := h.same fun b e h2 _ => hb.block b (lt_of_block h2)
/-- Each reason is the value of its number. -/
def Rss (w : World) (V : List Value) (L : List Jt) : Prop := ∀ i, i < L.length → Rsn w (V.getD i nilV) (L.getD i jt0).2.2 (bits .and .i64 (L.getD i jt0).2.2 7)
theorem Rss.below {w w' : World} {V : List Value} {L : List Jt} (h : Rss w V L) (hb : Below w.heap.size w w') : Rss w' V L := fun i hi => (h i hi).below hb
structure EhAt (w : World) (b o : Nat) (g : Eh) : Prop where
  c0 : w.cell? ⟨b, o, none⟩ = some (.int .i64 g.f)
  c1 : w.cell? ⟨b, o + 1, none⟩ = some (.int .i64 g.t)
  c2 : w.cell? ⟨b, o + 2, none⟩ = some (.int .i64 g.y)
  c3 : w.cell? ⟨b, o + 3, none⟩ = some (.bool g.b)
theorem OwnH.cells {w : World} {base : Nat} {L : List Jt} {P : List Ed} {ao : Option Addr} {cap : Nat} (h : OwnH w base (.slice ao P.length cap) (P.map (rz L))) (hn : 0 < P.length) : ∃ g, ao = some ⟨g, 0, none⟩ ∧ g < w.heap.size ∧ P.length ≤ cap ∧ cap ≤ maxLen ∧ ∀ i, i < P.length → EhAt w g (i * 4) (rz L (P.getD i (0, false))) := by
  rcases h.2 with ⟨h0, h1⟩ | ⟨g, cap', cur, hv, hb, hbk, hcn, hcm, _⟩
  · rw [List.length_map] at h1; omega
  · injection hv with e1 e2 e3
    subst e1 e3
    refine ⟨g, rfl, lt_of_block hbk, by rw [List.length_map] at hcn; exact hcn, hcm, fun i hi => ?_⟩
    have hl : (P.map (rz L)).length = P.length := List.length_map ..
    have h2 : w.ownsRow base 105 4 (.slice (some ⟨g, 0, none⟩) P.length cap) P.length (ehCells (P.map (rz L))) := by
      have := h
      unfold OwnH at this
      rw [hl] at this
      exact this
    have e : (P.map (rz L)).getD i eh0 = rz L (P.getD i (0, false)) := by
      rw [List.getD_eq_getElem?_getD, List.getElem?_map, List.getElem?_eq_getElem hi, List.getD_eq_getElem?_getD, List.getElem?_eq_getElem hi]; rfl
    have key : ∀ k, k < 4 → w.cell? ⟨g, i * 4 + k, none⟩ = (ehC (rz L (P.getD i (0, false))))[k]? := fun k hk => by
      obtain ⟨u, h1, h3⟩ := rw_cell h2 (i := i * 4 + k) (by omega)
      rw [h1, ← h3, ehCells_at _ i k (by omega) hk, e]
    exact ⟨key 0 (by omega), key 1 (by omega), key 2 (by omega), key 3 (by omega)⟩
theorem EhAt.below {w w' : World} {b o : Nat} {g : Eh} (h : EhAt w b o g) (hb : Below w.heap.size w w') (hl : b < w.heap.size) : EhAt w' b o g :=
  ⟨(hb.cell (p := ⟨b, o, none⟩) hl).trans h.c0, (hb.cell (p := ⟨b, o + 1, none⟩) hl).trans h.c1, (hb.cell (p := ⟨b, o + 2, none⟩) hl).trans h.c2, (hb.cell (p := ⟨b, o + 3, none⟩) hl).trans h.c3⟩

set_option maxRecDepth 20000 in
set_option maxHeartbeats 8000000 in
theorem edges_any (w : World) (ao bo : Option Addr) (ca cb B1 B2 : Nat) (P : List Ed) (V : List Value) (L : List Jt) (hE : OwnE w B1 (.slice ao P.length ca) (P.map (cz (jJ L) V))) (hH : OwnH w B2 (.slice bo P.length cb) (P.map (rz L))) (hr : Rss w V L) (hP : ∀ e ∈ P, e.1 < L.length) :
    Calls Try.prog 27 #[.slice ao P.length ca, .slice bo P.length cb] w fun e w' => e = .returned (.bool true) ∧ Below w.heap.size w w' := by
  have HE : Hid (OwnE w B1 (.slice ao P.length ca) (P.map (cz (jJ L) V))) := hE
  have HH : Hid (OwnH w B2 (.slice bo P.length cb) (P.map (rz L))) := hH
  have HR : Hid (Rss w V L) := hr
  have HPP : Hid (∀ e ∈ P, e.1 < L.length) := hP
  clear hE hH hr hP
  obtain ⟨N, hN⟩ : ∃ N, P.length = N := ⟨_, rfl⟩
  have HN : Hid (P.length = N) := hN
  rw [hN]
  clear hN
  have hNN : ((N : Int) == (N : Int)) = true := by simp
  go_enter Try.func27, Try.ntmps27
  go_wp2_with fail
  go_loopw [5] (fun i wr => ∃ k : Nat, k ≤ N ∧ i = .int .i64 k ∧ Below w.heap.size w wr) (fun i _ => N - (RowKit.intOf i).toNat)
  case atStart => exact ⟨0, by omega, rfl, Below.refl _ _⟩
  case round =>
    obtain ⟨k, hk, rfl, hBr⟩ := hrel
    have HBr : Hid (Below w.heap.size w wr) := hBr
    clear hBr
    by_cases hlt : k < N
    · have hltI : (k : Int) < (N : Int) := by omega
      have hkP : k < P.length := by rw [HN.out]; exact hlt
      obtain ⟨g, hga, _, hgl, hcn, hcm, hcells⟩ := OwnE.cells HE.out (by omega)
      obtain ⟨q, hqa, hql, hqn, hqm, hqells⟩ := OwnH.cells HH.out (by omega)
      subst hga hqa
      rw [HN.out] at hcn hqn
      unfold maxLen at hcm hqm
      have hm : P.getD k (0, false) ∈ P := by
        rw [List.getD_eq_getElem?_getD, List.getElem?_eq_getElem hkP]
        exact List.getElem_mem hkP
      have hL := HPP.out _ hm
      have hRk := (HR.out.below HBr.out) _ hL
      have E1 := (hcells k hkP).below HBr.out hgl
      have E2 := (hqells k hkP).below HBr.out hql
      have hsz := HBr.out.size
      obtain ⟨c0, c1, c2, c3⟩ := E1
      obtain ⟨d0, d1, d2, d3⟩ := E2
      simp only [cz, rz] at c0 c1 c2 c3 d0 d1 d2 d3
      obtain ⟨f, hf⟩ : ∃ f, eA (jJ L) (P.getD k (0, false)) = f := ⟨_, rfl⟩
      obtain ⟨t, ht⟩ : ∃ t, eB (jJ L) (P.getD k (0, false)) = t := ⟨_, rfl⟩
      obtain ⟨fv, hfv⟩ : ∃ fv, V.getD (P.getD k (0, false)).1 nilV = fv := ⟨_, rfl⟩
      obtain ⟨Y, hY⟩ : ∃ Y, (L.getD (P.getD k (0, false)).1 jt0).2.2 = Y := ⟨_, rfl⟩
      obtain ⟨fb, hfb⟩ : ∃ fb, (P.getD k (0, false)).2 = fb := ⟨_, rfl⟩
      rw [hf] at c0 d0
      rw [ht] at c1 d1
      rw [hfv] at c2 hRk
      rw [hY] at d2 hRk
      rw [hfb] at c3 d3
      have HRk : Hid (Rsn wr fv Y (bits .and .i64 Y 7)) := hRk
      have hff : ((f : Int) == (f : Int)) = true := by simp
      have htt : ((t : Int) == (t : Int)) = true := by simp
      have hbb : (fb == fb) = true := by simp
      have hgr : g < wr.heap.size := by omega
      have hqr : q < wr.heap.size := by omega
      have HCE : Hid (∀ W, Below wr.heap.size wr W → W.cell? ⟨g, k * 4, none⟩ = some (.int .i64 f) ∧ W.cell? ⟨g, k * 4 + 1, none⟩ = some (.int .i64 t) ∧ W.cell? ⟨g, k * 4 + 2, none⟩ = some fv ∧ W.cell? ⟨g, k * 4 + 3, none⟩ = some (.bool fb) ∧ W.cell? ⟨q, k * 4, none⟩ = some (.int .i64 f) ∧ W.cell? ⟨q, k * 4 + 1, none⟩ = some (.int .i64 t) ∧ W.cell? ⟨q, k * 4 + 2, none⟩ = some (.int .i64 Y) ∧ W.cell? ⟨q, k * 4 + 3, none⟩ = some (.bool fb)) := fun W hW =>
        ⟨(hW.cell (p := ⟨g, k * 4, none⟩) hgr).trans c0, (hW.cell (p := ⟨g, k * 4 + 1, none⟩) hgr).trans c1, (hW.cell (p := ⟨g, k * 4 + 2, none⟩) hgr).trans c2, (hW.cell (p := ⟨g, k * 4 + 3, none⟩) hgr).trans c3, (hW.cell (p := ⟨q, k * 4, none⟩) hqr).trans d0, (hW.cell (p := ⟨q, k * 4 + 1, none⟩) hqr).trans d1, (hW.cell (p := ⟨q, k * 4 + 2, none⟩) hqr).trans d2, (hW.cell (p := ⟨q, k * 4 + 3, none⟩) hqr).trans d3⟩
      clear hcells hqells hm hL hRk hf ht hfv hY hfb HE HH HR HPP
      go_wp2_with fail
      go_region_held3 (fun W => W.cell? ⟨g, k * 4, none⟩ = some (.int .i64 f) ∧ W.cell? ⟨g, k * 4 + 1, none⟩ = some (.int .i64 t) ∧ W.cell? ⟨g, k * 4 + 2, none⟩ = some fv ∧ W.cell? ⟨g, k * 4 + 3, none⟩ = some (.bool fb) ∧ W.cell? ⟨q, k * 4, none⟩ = some (.int .i64 f) ∧ W.cell? ⟨q, k * 4 + 1, none⟩ = some (.int .i64 t) ∧ W.cell? ⟨q, k * 4 + 2, none⟩ = some (.int .i64 Y) ∧ W.cell? ⟨q, k * 4 + 3, none⟩ = some (.bool fb)) (go_keep) (first | (go_at_call 49; refine (told_any fv Y _ (show Rsn _ fv Y _ from HRk.out.below ((Below.refl _ _).drew))).mono ?_; rintro e w3 ⟨rfl, hb3⟩; have hbr3 : Below wr.heap.size wr w3 := (Below.refl wr.heap.size wr).drew.trans hb3; obtain ⟨k0, k1, k2, k3, k4, k5, k6, k7⟩ := HCE.out w3 hbr3; have HB3 : Hid (Below wr.heap.size wr w3) := hbr3))
      all_goals
        go_wp2_with fail
        exact ⟨⟨k + 1, by omega, by go_num, HBr.out.trans (HB3.out.mono (by omega))⟩, by simp [RowKit.intOf]; omega⟩
    · have hke : k = N := by omega
      subst hke
      clear HE HH HR HPP
      go_wp2_with fail
      go_ret
      exact ⟨rfl, HBr.out⟩
end Go.Proofs.Ytfnbkffphpidbaa
