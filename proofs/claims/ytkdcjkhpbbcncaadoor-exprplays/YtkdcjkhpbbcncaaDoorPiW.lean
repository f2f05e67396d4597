/-
  What the document's PutIn answers.
-/
import Derived.Test.YtkdcjkhpbbcncaaDoorExDecPure
import Derived.Test.YtkdcjkhpbbcncaaDoorPoB
import Derived.Test.YtkdcjkhpbbcncaaDoorExJoiW
import Derived.Test.YtkdcjkhpbbcncaaDoorSwPure
set_option linter.unusedSimpArgs false
set_option linter.unusedVariables false
namespace Go.Proofs.YtkdcjkhpbbcncaaDoor

/-- Where a place outside of the part lies in the new list. -/
def psi (a i m k : Nat) : Nat := if k < a then k else k + m - (i + 1 - a)

/-- F tells what PutIn makes at each place. -/
structure PinOk (l m : List Nd) (a i : Nat) (F : Nat → List Nd) : Prop where
  ai : a ≤ i
  il : i < l.length
  here : F i = m
  node : ∀ k, k < l.length → (k < a ∨ i < k) → F k = joinL (l.getD k nd0).op (l.getD k nd0).n (l.getD k nd0).name ((l.getD k nd0).kids.map fun q => F q.toNat)
  kids : ∀ k, k < l.length → (k < a ∨ i < k) → (l.getD k nd0).kids.length ≤ 3 ∧ ∀ q ∈ (l.getD k nd0).kids, 0 ≤ q ∧ q < (k : Int) ∧ (q < (a : Int) ∨ (i : Int) ≤ q)
  top : F (l.length - 1) = putL l a i m
  size : ∀ k, k < l.length → (k < a ∨ i ≤ k) → (F k).length ≤ 128 ∧ ∀ x ∈ F k, x.kids.length ≤ 3 ∧ ∀ q ∈ x.kids, 0 ≤ q ∧ q ≤ 128

theorem kids_low {l : List Nd} {fr : List Nat} (h : BegOk l fr) (j : Nat) (hj : j < l.length) : ∀ k ∈ (l.getD j nd0).kids, 0 ≤ k ∧ k < (j : Int) := by
  intro k hk
  obtain ⟨c, h0, hc, rfl⟩ := (chain_inv (fr := fr) (P := fun c => c ≤ j) (fun c h0 hc => by have := h.low (c - 1); omega) _ _ _ (Nat.le_refl _) (h.at_ j hj).2).2 k (by simpa using hk)
  omega

theorem ok_bounds {l : List Nd} {fr : List Nat} (h : BegOk l fr) : ∀ x ∈ l, x.kids.length ≤ 3 ∧ ∀ q ∈ x.kids, 0 ≤ q ∧ q < (l.length : Int) := by
  intro x hx
  obtain ⟨j, hj, rfl⟩ := List.getElem_of_mem hx
  have e : l[j] = l.getD j nd0 := by simp [hj]
  rw [e]
  refine ⟨formB_kids (h.at_ j hj).1, fun q hq => ?_⟩
  have := kids_low h j hj q hq
  omega

theorem pin_ok {l m : List Nd} {fr fm : List Nat} (h : begL l = some fr) (hm : begL m = some fm) (i : Nat) (hi : i < l.length) :
    ∃ F, PinOk l m (fr.getD i 0) i F := by
  have hok := begOk_of (begL_some h).2.2.1
  have hmok := begOk_of (begL_some hm).2.2.1
  have hl64 := (begL_some h).2.1
  have hm64 := (begL_some hm).2.1
  have hm0 := (begL_some hm).1
  have hmtop := (begL_some hm).2.2.2
  have hltop := (begL_some h).2.2.2
  have hai := hok.low i
  have hT := put_ok hok hmok i hi hm0 hmtop
  have hTl := putL_len l m (fr.getD i 0) i hi hai
  have hkb := kids_behind hok hi
  have hpp := part_put (l := l) hmok (fr.getD i 0) i hi hai hm0
  have hlo := kids_low hok
  have h3 : ∀ k, k < l.length → (l.getD k nd0).kids.length ≤ 3 := fun k hk => formB_kids (hok.at_ k hk).1
  have hat : ∀ k, k < l.length → (k < fr.getD i 0 ∨ i < k) → (putL l (fr.getD i 0) i m).getD (psi (fr.getD i 0) i m.length k) nd0 = ⟨(l.getD k nd0).op, (l.getD k nd0).n, (l.getD k nd0).name, (l.getD k nd0).kids.map fun q => ((psi (fr.getD i 0) i m.length q.toNat : Nat) : Int)⟩ := by
    intro k hk hout
    rcases hout with h1 | h1
    · have e : psi (fr.getD i 0) i m.length k = k := by unfold psi; rw [if_pos h1]
      rw [e, putL_at1 l m _ i k hi hai h1]
      have hq := hlo k hk
      generalize l.getD k nd0 = x at *
      obtain ⟨op, n, nm, ks⟩ := x
      simp only at hq ⊢
      congr 1
      conv => lhs; rw [← List.map_id ks]
      refine List.map_congr_left fun q hqm => ?_
      have := hq q hqm
      unfold psi
      rw [if_pos (by omega)]
      simp only [id]; omega
    · obtain ⟨j, rfl⟩ : ∃ j, k = i + 1 + j := ⟨k - (i + 1), by omega⟩
      have e : psi (fr.getD i 0) i m.length (i + 1 + j) = fr.getD i 0 + m.length + j := by unfold psi; rw [if_neg (by omega)]; omega
      rw [e, putL_at3 l m _ i j hi hai hk]
      have hq := hlo _ hk
      have hq2 := hkb _ (by omega) hk
      generalize l.getD (i + 1 + j) nd0 = x at *
      obtain ⟨op, n, nm, ks⟩ := x
      simp only at hq hq2 ⊢
      unfold mvN
      simp only
      congr 1
      refine List.map_congr_left fun q hqm => ?_
      have := hq q hqm
      have := hq2 q hqm
      unfold mvK psi
      by_cases h5 : (i : Int) ≤ q
      · rw [if_pos h5, if_neg (by omega)]; omega
      · rw [if_neg h5, if_pos (by omega)]; omega
  have hpl : ∀ k, k < l.length → (k < fr.getD i 0 ∨ i ≤ k) → psi (fr.getD i 0) i m.length k < (putL l (fr.getD i 0) i m).length := by
    intro k hk hout
    rw [hTl]; unfold psi
    split <;> omega
  generalize hfT : (tab (l.length - (i + 1) + (fr.getD i 0 + m.length)) fun p => if p < fr.getD i 0 then fr.getD p 0 else if p < fr.getD i 0 + m.length then fm.getD (p - fr.getD i 0) 0 + fr.getD i 0 else phi (fr.getD i 0) i m.length (fr.getD (p - (fr.getD i 0 + m.length) + (i + 1)) 0)) = fT at hT
  have hf1 : fT.getD (fr.getD i 0 + m.length - 1) 0 = fr.getD i 0 := by
    rw [← hfT, tab_getD, if_pos (by omega), if_neg (by omega), if_pos (by omega)]
    have e : fr.getD i 0 + m.length - 1 - fr.getD i 0 = m.length - 1 := by omega
    rw [e, hmtop, Nat.zero_add]
  have hf2 : fT.getD (l.length - (i + 1) + (fr.getD i 0 + m.length) - 1) 0 = 0 := by
    rw [← hfT, tab_getD, if_pos (by omega)]
    by_cases hil : i + 1 = l.length
    · have e0 : l.length - 1 = i := by omega
      rw [e0] at hltop
      rw [if_neg (by omega), if_pos (by omega), hltop]
      have e : l.length - (i + 1) + (0 + m.length) - 1 - 0 = m.length - 1 := by omega
      rw [e, hmtop]
    · rw [if_neg (by omega), if_neg (by omega)]
      have e : l.length - (i + 1) + (fr.getD i 0 + m.length) - 1 - (fr.getD i 0 + m.length) + (i + 1) = l.length - 1 := by omega
      rw [e, hltop]; unfold phi; rw [if_pos (by omega)]
  generalize hTT : putL l (fr.getD i 0) i m = T at *
  generalize fr.getD i 0 = a at *
  refine ⟨fun k => partL T (fT.getD (psi a i m.length k) 0) (psi a i m.length k), hai, hi, ?_, fun k hk hout => ?_, fun k hk hout => ⟨h3 k hk, fun q hq => ?_⟩, ?_, fun k hk hout => ?_⟩
  · have e : psi a i m.length i = a + m.length - 1 := by unfold psi; rw [if_neg (by omega)]; omega
    simp only [e, hf1]
    exact hpp
  · have := part_join hT (psi a i m.length k) (hpl k hk (by omega))
    simp only [this, hat k hk hout, List.map_map]
    congr 1
  · have h1 := hlo k hk q hq
    refine ⟨h1.1, h1.2, ?_⟩
    rcases hout with h2 | h2
    · left; omega
    · rcases hkb k h2 hk q hq with h4 | h4
      · left; omega
      · right; exact h4
  · have e : psi a i m.length (l.length - 1) = l.length - (i + 1) + (a + m.length) - 1 := by unfold psi; rw [if_neg (by omega)]; omega
    simp only [e, hf2]
    unfold partL
    have e2 : l.length - (i + 1) + (a + m.length) - 1 + 1 - 0 = T.length := by omega
    rw [e2]
    simp [map_mvN_zero, hTT]
  · have hp := hpl k hk hout
    have hb := part_ok hT _ hp
    have hpn := partL_len T _ _ hp (hT.low (psi a i m.length k))
    refine ⟨by rw [hpn]; omega, fun x hx => ?_⟩
    obtain ⟨h5, h6⟩ := ok_bounds hb x hx
    refine ⟨h5, fun q hq => ?_⟩
    have := h6 q hq
    omega
end Go.Proofs.YtkdcjkhpbbcncaaDoor

namespace Go.Proofs.YtkdcjkhpbbcncaaDoor
open Go.RowKit Go.Lib

/-- A list that is answered: of the call's own, or the part that was handed in. -/
def PiR (w : World) (base : Nat) (vp : Value) (m : List Nd) (v : Value) (l : List Nd) : Prop := OwnN w base v l ∨ (v = vp ∧ l = m)
theorem PiR.below {w w' : World} {base : Nat} {vp v : Value} {m l : List Nd} (h : PiR w base vp m v l) (hb : Below w.heap.size w w') : PiR w' base vp m v l := h.imp (fun h => h.below hb) id
theorem OwnN.monoP {w : World} {base base' : Nat} {v : Value} {l : List Nd} (h : OwnN w base v l) (hb : base' ≤ base) : OwnN w base' v l := let ⟨p, h1, h2⟩ := h; ⟨p, h1, ownsRow_mono h2.row hb, fun q hq => ownsRow_mono (h2.kids q hq) hb⟩
theorem PiR.mono {w : World} {base base' : Nat} {vp v : Value} {m l : List Nd} (h : PiR w base vp m v l) (hb : base' ≤ base) : PiR w base' vp m v l := h.imp (fun h => h.monoP hb) id
theorem PiR.nodes {w : World} {base : Nat} {vp v : Value} {m l : List Nd} (h : PiR w base vp m v l) (hm : Nodes w w.heap.size vp m) : Nodes w w.heap.size v l := by
  rcases h with h | ⟨rfl, rfl⟩
  · exact Nodes_of_own h (Nat.le_refl _)
  · exact hm

/-- Lists of such lists; pvs: the slices. -/
structure OwnLv (w : World) (base : Nat) (vp : Value) (m : List Nd) (v : Value) (ps : List (List Nd)) (pvs : List Value) : Prop where
  len : pvs.length = ps.length
  row : w.ownsRow base 22 1 v ps.length pvs
  each : ∀ i, i < ps.length → PiR w base vp m (pvs.getD i (.slice none 0 0)) (ps.getD i [])

theorem OwnLv.lst {w : World} {base : Nat} {vp v : Value} {m : List Nd} {ps : List (List Nd)} {pvs : List Value} (h : OwnLv w base vp m v ps pvs) (hm : Nodes w w.heap.size vp m) : Lst w w.heap.size v ps := by
  obtain ⟨h1, h2⟩ := h.row
  rcases h2 with ⟨rfl, h0⟩ | ⟨g, cap, cur, rfl, hb, hg, hn, hmx, hs, ht⟩
  · have : ps = [] := List.length_eq_zero_iff.1 h0
    subst this
    exact ⟨none, 0, rfl, by simp, by simp, .inl rfl⟩
  · refine ⟨_, cap, rfl, hn, hmx, .inr ⟨g, 0, rfl, lt_of_block hg, fun i hi => ?_⟩⟩
    refine ⟨pvs.getD i (.slice none 0 0), ?_, (h.each i hi).nodes hm⟩
    have hc : w.cell? ⟨g, 0 + i, none⟩ = cur[i]? := by simp [World.cell?, hg]
    have hl := h.len
    rw [hc, ← Array.getElem?_toList]
    have e : cur.toList[i]? = (cur.toList.take (ps.length * 1))[i]? := by rw [List.getElem?_take, if_pos (by omega)]
    rw [e, ht]
    simp [show i < pvs.length by omega]
theorem OwnLv.below {w w' : World} {base : Nat} {vp v : Value} {m : List Nd} {ps : List (List Nd)} {pvs : List Value} (h : OwnLv w base vp m v ps pvs) (hb : Below w.heap.size w w') : OwnLv w' base vp m v ps pvs :=
  ⟨h.len, ownsRow_below h.row hb, fun i hi => (h.each i hi).below hb⟩
theorem OwnLv.snoc {w w1 : World} {base : Nat} {vp v v' : Value} {m : List Nd} {ps : List (List Nd)} {pvs : List Value} {l : List Nd} {pv : Value} (h : OwnLv w base vp m v ps pvs) (hl : PiR w base vp m pv l)
    (hown : w1.ownsRow base 22 1 v' (ps.length + 1) (pvs ++ [pv])) (hg : w.grownBy w1 v.ownBlock) : OwnLv w1 base vp m v' (ps ++ [l]) (pvs ++ [pv]) := by
  have hlen := h.len
  have hk : ∀ {v : Value} {l : List Nd}, PiR w base vp m v l → PiR w1 base vp m v l := fun hp => hp.imp (fun hp => hp.kept hg h.row (by decide) (by decide)) id
  refine ⟨by simp [hlen], by simpa using hown, fun i hi => ?_⟩
  by_cases hlt : i < ps.length
  · have e1 : (pvs ++ [pv]).getD i (.slice none 0 0) = pvs.getD i (.slice none 0 0) := by simp only [List.getD_eq_getElem?_getD]; rw [List.getElem?_append_left (by omega)]
    have e2 : (ps ++ [l]).getD i [] = ps.getD i [] := by simp only [List.getD_eq_getElem?_getD]; rw [List.getElem?_append_left (by omega)]
    rw [e1, e2]
    exact hk (h.each i hlt)
  · have he : i = ps.length := by simp at hi; omega
    have e1 : (pvs ++ [pv]).getD i (.slice none 0 0) = pv := by rw [he, ← hlen]; simp
    have e2 : (ps ++ [l]).getD i [] = l := by rw [he]; simp
    rw [e1, e2]
    exact hk hl

set_option maxRecDepth 20000 in
set_option maxHeartbeats 4000000 in
theorem putIn_any (vs vp : Value) (l m : List Nd) (a i : Nat) (F : Nat → List Nd) (hF : PinOk l m a i F) (hl64 : l.length ≤ 64) : ∀ (k : Nat), k < l.length → (k < a ∨ i ≤ k) → ∀ (w : World), Nodes w w.heap.size vs l → Nodes w w.heap.size vp m →
    Calls Tryd.prog 50 #[vs, .int .i64 k, .int .i64 i, vp] w fun e w' => ∃ v', e = .returned v' ∧ PiR w' w.heap.size vp m v' (F k) ∧ Below w.heap.size w w' := by
  intro k
  induction k using Nat.strongRecOn with
  | ind k IH =>
    intro hk hout w hN hM
    by_cases hki : k = i
    · subst hki
      obtain ⟨R, hR⟩ : ∃ R, F k = R := ⟨_, rfl⟩
      have HR : Sld (R = m) := ⟨by rw [← hR]; exact hF.here⟩
      rw [hR]
      clear hR hF IH
      go_enter Tryd.func50, Tryd.ntmps50
      go_wp2_with fail
      go_ret
      exact ⟨vp, rfl, .inr ⟨rfl, HR.out⟩, Below.refl _ _⟩
    · have hout' : k < a ∨ i < k := by omega
      obtain ⟨i0, hi, hz0, hz1, hz2⟩ := info_parts Tryd.infoNodes
      have hne : ((k : Int) == (i : Int)) = false := by simp; omega
      obtain ⟨hk3, hkk⟩ := hF.kids k hk hout'
      have hnode := hF.node k hk hout'
      have HSZ : Sld (∀ q, q < l.length → (q < a ∨ i ≤ q) → (F q).length ≤ 128 ∧ ∀ x ∈ F q, x.kids.length ≤ 3 ∧ ∀ z ∈ x.kids, 0 ≤ z ∧ z ≤ 128) := ⟨hF.size⟩
      have HIH : Sld (∀ (q : Nat), q < k → (q < a ∨ i ≤ q) → ∀ (W : World), Below w.heap.size w W → Calls Tryd.prog 50 #[vs, .int .i64 q, .int .i64 i, vp] W fun e w' => ∃ ao cap, e = .returned (.slice ao (F q).length cap) ∧ PiR w' W.heap.size vp m (.slice ao (F q).length cap) (F q) ∧ Below W.heap.size W w') := ⟨fun q hq ho W hW => (IH q hq (by omega) ho W (hN.below hW hW.size) (hM.below hW hW.size)).mono fun e w' ⟨v', h1, h2, h3⟩ => by
        obtain ⟨ao, cap, rfl, _⟩ := id (h2.nodes (Nodes.below (hM.below hW hW.size) h3 h3.size))
        exact ⟨ao, cap, h1, h2, h3⟩⟩
      have HM : Sld (∀ W, Below w.heap.size w W → Nodes W W.heap.size vp m) := ⟨fun W hW => hM.below hW hW.size⟩
      obtain ⟨R, hR⟩ : ∃ R, F k = R := ⟨_, rfl⟩
      rw [hR] at hnode ⊢
      clear IH hR hF hM
      obtain ⟨ao, cap0, rfl, hl, hm, hc⟩ := hN
      unfold maxLen at hm
      obtain ⟨b, o, rfl, hbl, hc'⟩ : ∃ b o, ao = some ⟨b, o, none⟩ ∧ b < w.heap.size ∧ ∀ i, i < l.length → ∃ kv, NodeAt w w.heap.size b (o + i * 4) (l.getD i nd0) kv := by
        rcases hc with h | h
        · subst h; simp at hk
        · exact h
      clear hc
      obtain ⟨kv, hNA⟩ := hc' k hk
      clear hc'
      generalize l.getD k nd0 = x at *
      obtain ⟨op, n, nm, kids⟩ := x
      obtain ⟨c0, c1, c2, c3, hki'⟩ := hNA
      simp only at c0 c1 c2 c3 hki' hk3 hkk hnode
      obtain ⟨ka, kc, rfl, hkl, ⟨hkm, _⟩, hkc⟩ := hki'
      unfold maxLen at hkm
      have HKC : Sld (kids = [] ∨ ∃ b o, ka = some ⟨b, o, none⟩ ∧ b < w.heap.size ∧ ∀ j, j < kids.length → w.cell? ⟨b, o + j, none⟩ = some (.int .i64 (kids.getD j 0))) := ⟨hkc⟩
      have HND : Sld (R = joinL op n nm (kids.map fun q => F q.toNat)) := ⟨hnode⟩
      have HKK : Sld (∀ q ∈ kids, 0 ≤ q ∧ q < (k : Int) ∧ (q < (a : Int) ∨ (i : Int) ≤ q)) := ⟨hkk⟩
      have HTOP : Sld (∀ w', Below w.heap.size w w' → w'.cell? ⟨b, o + k * 4, none⟩ = some (.int .i64 op) ∧ w'.cell? ⟨b, o + k * 4 + 1, none⟩ = some (.int .i64 n) ∧ w'.cell? ⟨b, o + k * 4 + 2, none⟩ = some (.string nm) ∧ w'.cell? ⟨b, o + k * 4 + 3, none⟩ = some (.slice ka kids.length kc)) := ⟨fun w' hb =>
        ⟨(hb.cell (p := ⟨b, _, none⟩) hbl).trans c0, (hb.cell (p := ⟨b, _, none⟩) hbl).trans c1, (hb.cell (p := ⟨b, _, none⟩) hbl).trans c2, (hb.cell (p := ⟨b, _, none⟩) hbl).trans c3⟩⟩
      clear hkc hnode hkk c0 c1 c2 c3
      go_enter Tryd.func50, Tryd.ntmps50
      go_wp2_with fail
      go_loopw [9, 10] (fun v q wr => ∃ (j : Nat) (pvs : List Value), j ≤ kids.length ∧ q = .int .i64 j ∧ OwnLv wr w.heap.size vp m v ((kids.take j).map fun q => F q.toNat) pvs ∧ Below w.heap.size w wr) (fun _ q _ => kids.length - (RowKit.intOf q).toNat)
      case atStart => exact ⟨0, [], by omega, rfl, ⟨rfl, World.ownsRow_nil _ _ _ _, by simp⟩, Below.refl _ _⟩
      case round =>
        obtain ⟨j, pvs, hj, rfl, hL, hB⟩ := hrel
        obtain ⟨c0, c1, c2, c3⟩ := HTOP.out wr hB
        have hsz := hB.size
        have hln : ((kids.take j).map fun q => F q.toNat).length = j := by simp; omega
        have HL : Sld (OwnLv wr w.heap.size vp m _ ((kids.take j).map fun q => F q.toNat) pvs) := ⟨hL⟩
        obtain ⟨va, vc, hv⟩ := row_form' hL.row
        rw [hln] at hv
        have HB : Sld (Below w.heap.size w wr) := ⟨hB⟩
        clear hL hB
        subst hv
        by_cases hjl : j < kids.length
        · obtain ⟨kb, ko, rfl, hkb, hkc⟩ : ∃ b o, ka = some ⟨b, o, none⟩ ∧ b < w.heap.size ∧ ∀ j, j < kids.length → w.cell? ⟨b, o + j, none⟩ = some (.int .i64 (kids.getD j 0)) := by
            rcases HKC.out with h | h
            · subst h; simp at hjl
            · exact h
          have hcj : wr.cell? ⟨kb, ko + j, none⟩ = some (.int .i64 (kids.getD j 0)) := (HB.out.cell (p := ⟨kb, ko + j, none⟩) hkb).trans (hkc j hjl)
          obtain ⟨hy0, hy1, hy2⟩ := HKK.out (kids.getD j 0) (by simp [hjl])
          have HTK : Sld (((kids.take (j + 1)).map fun q => F q.toNat) = ((kids.take j).map fun q => F q.toNat) ++ [F (kids.getD j 0).toNat]) := ⟨by rw [List.take_succ_eq_append_getElem hjl, List.map_append]; simp [hjl]⟩
          clear hkc
          generalize kids.getD j 0 = y at *
          obtain ⟨y, rfl⟩ : ∃ z : Nat, y = (z : Int) := ⟨y.toNat, by omega⟩
          rw [Int.toNat_natCast] at HTK
          have CI : Sld _ := ⟨HIH.out y (by omega) (by omega) wr HB.out⟩
          have HLN : Sld (((kids.take j).map fun q => F q.toNat).length = j) := ⟨hln⟩
          clear hln
          generalize F y = P at *
          go_wp2_with fail
          refine CI.out.mono ?_
          rintro e w2 ⟨ao2, cap2, rfl, hP2, hb2⟩
          have hL2 := HL.out.below hb2
          have hP2' := hP2.mono hsz
          have HB2 : Sld (Below w.heap.size w w2) := ⟨HB.out.trans (hb2.mono hsz)⟩
          have hz2' := HB2.out.size
          have hrow := hL2.row
          rw [HLN.out] at hrow
          have HL2 : Sld _ := ⟨hL2⟩
          have HP2 : Sld _ := ⟨hP2'⟩
          clear hL2 hP2 hP2' CI hb2
          go_wp2_with (at_builtin; refine wpList_append_lies _ rfl (.tmp 25) (.tmp 38) 46 rfl w.heap.size 22 i0 (.slice none 0 0) 1 24 Tryd.underlying46 hi hz0 hz1 hz2 rfl (by decide) _ _ _ rfl (hrow.alloc _) ⟨w2.heap.size, 0, none⟩ 1 1 [.slice ao2 P.length cap2] rfl rfl (cell_news_one _ _ _) (by simp [Value.oneCell']) (by omega) (by unfold maxLen; omega) (by omega) (by simp; omega) _ rfl ?_; intro g cap w3 hown3 hg3 hat hl3)
          refine ⟨⟨j + 1, pvs ++ [.slice ao2 P.length cap2], by omega, by go_num, ?_, ?_⟩, by simp [RowKit.intOf]; omega⟩
          · rw [HTK.out]
            refine (HL2.out.below ((Below.refl _ _).alloc (Nat.le_refl _) _)).snoc (HP2.out.below ((Below.refl _ _).alloc (Nat.le_refl _) _)) ?_ hg3
            rw [HLN.out]; exact hown3
          · exact (HB2.out.alloc hz2' _).grown hg3 (by simp; omega) (fun k hk => (own_block' hrow k hk).1)
        · have hje : j = kids.length := by omega
          subst hje
          have e : kids.take kids.length = kids := List.take_length
          have hL := HL.out
          rw [e] at hL
          have CJ : Sld _ := ⟨joined_any op n nm ka kids.length kc (.slice va kids.length vc) (kids.map fun q => F q.toNat) wr wr.heap.size (Nat.le_refl _) (hL.lst (HM.out wr HB.out)) (by simpa using hk3) (fun p hp => by
            obtain ⟨q, hq, rfl⟩ := List.mem_map.1 hp
            have h1 := HKK.out q hq
            obtain ⟨h2, h3⟩ := HSZ.out q.toNat (by omega) (by omega)
            refine ⟨by omega, fun x hx => ?_⟩
            obtain ⟨h4, h5⟩ := h3 x hx
            refine ⟨by omega, fun z hz => ?_⟩
            have := h5 z hz
            omega)⟩
          clear hL HL
          go_wp2_with fail
          refine CJ.out.mono ?_
          rintro e w2 ⟨v', rfl, hO, hb2⟩
          rw [← HND.out] at hO
          go_wp2_with fail
          go_ret
          exact ⟨v', rfl, .inl (hO.monoP hsz), HB.out.trans (hb2.mono hsz)⟩
end Go.Proofs.YtkdcjkhpbbcncaaDoor
