/-
  What the document's Vars answers; two lists of texts held against each other.
-/
import Derived.Test.YtkdcjkhpbbcncaaDoorVrPure
import Derived.Test.YtkdcjkhpbbcncaaDoorVrsW
import Derived.Test.YtkdcjkhpbbcncaaDoorPoB
import Derived.Test.YtkdcjkhpbbcncaaDoorRefOrdW
import Derived.Test.YtkdcjkhpbbcncaaDoorRbPure
import Derived.Deep.RegionHeld3
set_option linter.unusedSimpArgs false
set_option linter.unusedVariables false
namespace Go.Proofs.YtkdcjkhpbbcncaaDoor
open Go.Lib

/-- Where a name goes in. -/
def plV (vs : List ByteArray) (s : ByteArray) : Nat := (vs.takeWhile fun t => decide (ordI t s < 0)).length
def insV (vs : List ByteArray) (s : ByteArray) : List ByteArray := if vs[plV vs s]? = some s then vs else vs.take (plV vs s) ++ s :: vs.drop (plV vs s)
/-- The row while names are moved up. -/
def moV (vs : List ByteArray) (j : Nat) : List ByteArray := (vs ++ [(⟨#[]⟩ : ByteArray)]).take (j + 1) ++ vs.drop j

theorem plV_le (vs : List ByteArray) (s : ByteArray) : plV vs s ≤ vs.length := (List.takeWhile_sublist _).length_le
theorem plV_lt (vs : List ByteArray) (s : ByteArray) : ∀ j, j < plV vs s → ordI (vs.getD j ⟨#[]⟩) s < 0 := by
  induction vs with
  | nil => intro j h; simp [plV] at h
  | cons t vs ih =>
    intro j h
    unfold plV at h
    rw [List.takeWhile_cons] at h
    split at h
    · rename_i ht
      cases j with
      | zero => simpa using ht
      | succ j => simp at h; simpa using ih j (by unfold plV; omega)
    · simp at h
theorem plV_at (vs : List ByteArray) (s : ByteArray) : plV vs s < vs.length → ¬ ordI (vs.getD (plV vs s) ⟨#[]⟩) s < 0 := by
  induction vs with
  | nil => intro h; simp at h
  | cons t vs ih =>
    intro h
    unfold plV at h ⊢
    rw [List.takeWhile_cons] at h ⊢
    split at h
    · rename_i ht
      rw [if_pos ht]
      have := ih (by unfold plV; simp at h; omega)
      simpa [plV] using this
    · rename_i ht
      rw [if_neg ht]
      simpa using ht
theorem plV_of {vs : List ByteArray} {s : ByteArray} {k : Nat} (h1 : ∀ j, j < k → ordI (vs.getD j ⟨#[]⟩) s < 0) (hk : k ≤ vs.length) (h2 : k < vs.length → ¬ ordI (vs.getD k ⟨#[]⟩) s < 0) : plV vs s = k := by
  rcases Nat.lt_trichotomy (plV vs s) k with h | h | h
  · exact absurd (h1 _ h) (plV_at vs s (by omega))
  · exact h
  · have := plV_le vs s
    exact absurd (plV_lt vs s k h) (h2 (by omega))

theorem moV_start (vs : List ByteArray) : moV vs vs.length = vs ++ [(⟨#[]⟩ : ByteArray)] := by
  unfold moV
  rw [List.drop_length, List.append_nil, List.take_of_length_le (by simp)]
theorem moV_len (vs : List ByteArray) (j : Nat) (h : j ≤ vs.length) : (moV vs j).length = vs.length + 1 := by simp [moV]; omega
theorem moV_at (vs : List ByteArray) (j : Nat) (h : j < vs.length) : (moV vs (j + 1)).getD j ⟨#[]⟩ = vs.getD j ⟨#[]⟩ := by
  unfold moV
  simp only [List.getD_eq_getElem?_getD]
  rw [List.getElem?_append_left (by simp; omega), List.getElem?_take, if_pos (by omega), List.getElem?_append_left h]
theorem moV_set (vs : List ByteArray) (j : Nat) (h : j < vs.length) : (moV vs (j + 1)).set (j + 1) (vs.getD j ⟨#[]⟩) = moV vs j := by
  unfold moV
  have e1 : ((vs ++ [(⟨#[]⟩ : ByteArray)]).take (j + 1)).length = j + 1 := by simp; omega
  have hlt : j + 1 < (vs ++ [(⟨#[]⟩ : ByteArray)]).length := by simp; omega
  rw [List.take_succ_eq_append_getElem hlt, List.append_assoc, List.set_append_right _ _ (by omega), e1, Nat.sub_self]
  rw [List.drop_eq_getElem_cons h]
  simp [h]
theorem moV_end (vs : List ByteArray) (s : ByteArray) (k : Nat) (h : k ≤ vs.length) : (moV vs k).set k s = vs.take k ++ s :: vs.drop k := by
  unfold moV
  have hlt : k < (vs ++ [(⟨#[]⟩ : ByteArray)]).length := by simp; omega
  have e1 : ((vs ++ [(⟨#[]⟩ : ByteArray)]).take k).length = k := by simp; omega
  rw [List.take_succ_eq_append_getElem hlt, List.append_assoc, List.set_append_right _ _ (by omega), e1, Nat.sub_self]
  rw [List.take_append_of_le_length h]
  simp

theorem VrOf.ins {ns vs : List ByteArray} {s : ByteArray} (h : VrOf ns vs) (hn : ∀ t ∈ ns, (chk t).2 = 0) (hs : (chk s).2 = 0) : VrOf (ns ++ [s]) (insV vs s) := by
  have hle := plV_le vs s
  have hlt := plV_lt vs s
  have hat := plV_at vs s
  unfold insV
  generalize plV vs s = k at *
  split
  · rename_i he
    have hm : s ∈ vs := List.mem_of_getElem? he
    refine ⟨fun t => ?_, h.ord⟩
    rw [List.mem_append, h.mem]
    constructor
    · exact .inl
    · rintro (h1 | h1)
      · exact h1
      · simp at h1; subst h1; exact (h.mem _).1 hm
  · rename_i he
    have hp := List.pairwise_iff_getElem.1 h.ord
    have hgt : ∀ j (hj : j < vs.length), k ≤ j → ordI s vs[j] < 0 := by
      intro j hj hkj
      have h0 := hat (by omega)
      have hkl : k < vs.length := by omega
      have e : vs.getD k ⟨#[]⟩ = vs[k] := by simp [hkl]
      rw [e] at h0
      have hne : ordI vs[k] s ≠ 0 := fun h1 => he (by
        have := name_eq (hn _ ((h.mem _).1 (List.getElem_mem hkl))) hs h1
        rw [List.getElem?_eq_getElem hkl, this])
      have h2 : ordI s vs[k] < 0 := by rw [ordI_neg]; omega
      by_cases hjk : j = k
      · subst hjk; exact h2
      · exact ordI_le_lt (Int.le_of_lt h2) (hp k j hkl hj (by omega))
    have hl : ∀ t ∈ vs.take k, ordI t s < 0 := by
      intro t ht
      obtain ⟨j, hj, rfl⟩ := List.getElem_of_mem ht
      have hjk : j < k := by simp at hj; omega
      have := hlt j hjk
      have e : vs.getD j ⟨#[]⟩ = (vs.take k)[j] := by simp [show j < vs.length by omega]
      rw [← e]; exact this
    have hg : ∀ t ∈ vs.drop k, ordI s t < 0 := by
      intro t ht
      obtain ⟨j, hj, rfl⟩ := List.getElem_of_mem ht
      have hjk : k + j < vs.length := by simp at hj; omega
      have := hgt (k + j) hjk (by omega)
      simpa using this
    refine ⟨fun t => ?_, ?_⟩
    · have e : t ∈ vs ↔ t ∈ vs.take k ∨ t ∈ vs.drop k := by rw [← List.mem_append, List.take_append_drop]
      rw [List.mem_append, List.mem_cons, List.mem_append, ← h.mem, e]
      simp only [List.mem_cons, List.not_mem_nil, or_false]
      constructor
      · rintro (h1 | h1 | h1)
        · exact .inl (.inl h1)
        · exact .inr h1
        · exact .inl (.inr h1)
      · rintro ((h1 | h1) | h1)
        · exact .inl h1
        · exact .inr (.inr h1)
        · exact .inr (.inl h1)
    · rw [List.pairwise_append]
      refine ⟨h.ord.sublist (List.take_sublist _ _), List.pairwise_cons.2 ⟨hg, h.ord.sublist (List.drop_sublist _ _)⟩, fun a ha b hb => ?_⟩
      rcases List.mem_cons.1 hb with rfl | hb
      · exact hl a ha
      · exact ordI_le_lt (Int.le_of_lt (hl a ha)) (hg b hb)
end Go.Proofs.YtkdcjkhpbbcncaaDoor

namespace Go.Proofs.YtkdcjkhpbbcncaaDoor
open Go.RowKit Go.Lib

theorem beqV (a b : ByteArray) : (a.toList == b.toList) = decide (a = b) := by
  rw [toList_data, toList_data]
  by_cases h : a = b
  · subst h; simp
  · have : a.data.toList ≠ b.data.toList := fun e => h (ByteArray.ext (Array.toList_inj.1 e))
    rw [beq_eq_false_iff_ne.2 this]
    simp [h]
theorem vsL_len_take (l : List Nd) (k : Nat) : (vsL (l.take k)).length ≤ k := Nat.le_trans (vsL_le _) (by simp; omega)

/-- The document's names so far, and what lies ahead. -/
structure VdMid (w2 : World) (v : Value) (ys : List ByteArray) (wr : World) : Prop where
  row : wr.ownsRow w2.heap.size 9 1 v ys.length (ys.map Value.string)
  below : Below w2.heap.size w2 wr
theorem VdMid.next {w2 wr wq : World} {v : Value} {ys : List ByteArray} (h : VdMid w2 v ys wr) (hb : Below wr.heap.size wr wq) : VdMid w2 v ys wq := ⟨ownsRow_below h.row hb, h.below.trans (hb.mono h.below.size)⟩
theorem VdMid.cell {w2 wr : World} {v : Value} {ys : List ByteArray} (h : VdMid w2 v ys wr) {j : Nat} (hj : j < ys.length) : ∃ g cap, v = .slice (some ⟨g, 0, none⟩) ys.length cap ∧ w2.heap.size ≤ g ∧ g < wr.heap.size ∧ ys.length ≤ cap ∧ cap ≤ maxLen ∧ wr.cell? ⟨g, j, none⟩ = some (.string (ys.getD j ⟨#[]⟩)) := by
  obtain ⟨g, cap, h1, h2, h3, h4, h5⟩ := row_cell h.row hj (d := .string ⟨#[]⟩)
  refine ⟨g, cap, h1, ?_, h2, h3, h4, ?_⟩
  · exact (own_block' h.row g (by rw [h1]; rfl)).1
  · rw [h5]; simp [hj]

set_option maxRecDepth 20000 in
set_option maxHeartbeats 1000000 in
theorem sameTexts_any (w : World) (ao bo : Option Addr) (ac bc : Nat) (xs : List ByteArray) (hx : Strs w ao ac xs) (hy : Strs w bo bc xs) :
    Calls Tryd.prog 22 #[.slice ao xs.length ac, .slice bo xs.length bc] w fun e w' => e = .returned (.bool true) ∧ Below w.heap.size w w' := by
  have HX : Sld (Strs w ao ac xs) := ⟨hx⟩
  have HY : Sld (Strs w bo bc xs) := ⟨hy⟩
  obtain ⟨h1, h2, _⟩ := hx
  obtain ⟨h3, h4, _⟩ := hy
  unfold maxLen at h2 h4
  go_enter Tryd.func22, Tryd.ntmps22
  go_wp2_with fail
  go_loopw [5] (fun i wr => ∃ k : Nat, k ≤ xs.length ∧ i = .int .i64 k ∧ Below w.heap.size w wr) (fun i _ => xs.length - (RowKit.intOf i).toNat)
  case atStart => exact ⟨0, by omega, rfl, Below.refl _ _⟩
  case round =>
    obtain ⟨k, hk, rfl, hB⟩ := hrel
    have HB : Sld (Below w.heap.size w wr) := ⟨hB⟩
    clear hB
    by_cases hlt : k < xs.length
    · obtain ⟨a1, o1, rfl, hl1, c1⟩ := (HX.out.below HB.out).cell hlt
      obtain ⟨a2, o2, rfl, hl2, c2⟩ := (HY.out.below HB.out).cell hlt
      generalize xs.getD k ⟨#[]⟩ = s at *
      go_wp2_with fail
      go_region
      go_wp2_with fail
      exact ⟨⟨k + 1, by omega, by go_num, HB.out.drew⟩, by simp [RowKit.intOf]; omega⟩
    · have hke : k = xs.length := by omega
      subst hke
      go_wp2_with fail
      go_ret
      exact ⟨rfl, HB.out⟩

set_option maxHeartbeats 1000000 in
theorem refVars_none (w : World) (ao : Option Addr) (cap : Nat) (l : List Nd) (hR : Rd w ao cap l) (hF : Fit l) (h : begL l = none) :
    Calls Tryd.prog 21 #[.slice ao l.length cap] w fun e w' => e = .returned (.tuple #[.slice none 0 0, .int .i64 1]) ∧ Below w.heap.size w w' := by
  have CK : Sld (Calls Tryd.prog 12 #[.slice ao l.length cap] w fun e w' => e = .returned (.int .i64 1) ∧ Below w.heap.size w w') := ⟨rchkR hR hF 1 (chkE_no (by simp [sndB, h]))⟩
  clear hR hF h
  go_enter Tryd.func21, Tryd.ntmps21
  go_wp2_with fail
  refine CK.out.mono ?_
  rintro e w2 ⟨rfl, hb2⟩
  go_wp2_with fail
  go_ret2
  exact ⟨rfl, hb2⟩

set_option maxRecDepth 20000 in
set_option maxHeartbeats 8000000 in
theorem refVars_some (w : World) (ao : Option Addr) (cap : Nat) (l : List Nd) (fr : List Nat) (hR : Rd w ao cap l) (hF : Fit l) (h : begL l = some fr) :
    Calls Tryd.prog 21 #[.slice ao l.length cap] w fun e w' => ∃ ao' cap' ys, e = .returned (.tuple #[.slice ao' ys.length cap', .int .i64 0]) ∧ VrOf (vsL l) ys ∧ Strs w' ao' cap' ys ∧ Below w.heap.size w w' := by
  obtain ⟨i0, hi, hz0, hz1, hz2⟩ := info_parts Tryd.infoTxt
  have h64 := (snd_bounds h).1
  have hl0 := (begL_some h).1
  have HCH : Sld (∀ s ∈ vsL l, (chk s).2 = 0 ∧ s.size ≤ 64) := ⟨snd_chk h⟩
  have CK : Sld (Calls Tryd.prog 12 #[.slice ao l.length cap] w fun e w' => e = .returned (.int .i64 0) ∧ Below w.heap.size w w') := ⟨rchkR hR hF 0 (chkE_yes (by simp [sndB, h]))⟩
  have HR : Sld (∀ W, Below w.heap.size w W → Rd W ao cap l) := ⟨fun W hW => hR.below hW hW.size⟩
  obtain ⟨hcp1, hcp2⟩ := hR.bound
  unfold maxLen at hcp2
  have CO : Sld (∀ (s t : ByteArray) (W : World), s.size ≤ 64 → t.size ≤ 64 → Calls Tryd.prog 55 #[.string s, .string t] W fun e w' => e = .returned (.int .i64 (ordI s t)) ∧ Below W.heap.size W w') := ⟨fun s t W hs ht => refOrder_any s t W (by omega) (by omega)⟩
  clear hR hF h
  go_enter Tryd.func21, Tryd.ntmps21
  go_wp2_with fail
  refine CK.out.mono ?_
  rintro e w2 ⟨rfl, hb2⟩
  have HB2 : Sld (Below w.heap.size w w2) := ⟨hb2⟩
  have hz2' := hb2.size
  clear hb2 CK
  go_wp2_with fail
  go_loopw [4, 5] (fun v i wr => ∃ (k : Nat) (ys : List ByteArray), k ≤ l.length ∧ i = .int .i64 k ∧ VrOf (vsL (l.take k)) ys ∧ ys.length ≤ k ∧ VdMid w2 v ys wr) (fun _ i _ => l.length - (RowKit.intOf i).toNat)
  case atStart => exact ⟨0, [], by omega, rfl, VrOf.nil, by simp, by simpa using World.ownsRow_nil _ _ _ _, Below.refl _ _⟩
  case round =>
    obtain ⟨k, ys, hk, rfl, hV, hyk, hM⟩ := hrel
    have hbr : Below w.heap.size w wr := HB2.out.trans (hM.below.mono hz2')
    have hsz := hM.below.size
    have HBr : Sld (Below w.heap.size w wr) := ⟨hbr⟩
    have HM : Sld (VdMid w2 _ ys wr) := ⟨hM⟩
    have HV : Sld (VrOf (vsL (l.take k)) ys) := ⟨hV⟩
    obtain ⟨va, vc, hv⟩ := row_form' hM.row
    clear hM hV hbr
    subst hv
    by_cases hlt : k < l.length
    · obtain ⟨b, o, kv, rfl, hbl, hNA⟩ := (HR.out w (Below.refl _ _)).cell hlt
      have HTOP : Sld (∀ w', Below w.heap.size w w' → w'.cell? ⟨b, o + k * 4, none⟩ = some (.int .i64 (l.getD k nd0).op) ∧ w'.cell? ⟨b, o + k * 4 + 2, none⟩ = some (.string (l.getD k nd0).name)) := ⟨fun w' hb =>
        ⟨(hb.cell (p := ⟨b, _, none⟩) hbl).trans hNA.c0, (hb.cell (p := ⟨b, _, none⟩) hbl).trans hNA.c2⟩⟩
      clear hNA
      have HVS := vsL_succ l k hlt
      have hnm : (l.getD k nd0).op = 2 → (l.getD k nd0).name ∈ vsL l := fun ho => by
        unfold vsL
        refine List.mem_map.2 ⟨l.getD k nd0, List.mem_filter.2 ⟨by simp [hlt], by simpa using ho⟩, rfl⟩
      have HSUB : Sld (∀ s ∈ vsL (l.take k), s ∈ vsL l) := ⟨fun s hs => by
        unfold vsL at hs ⊢
        obtain ⟨x, hx, rfl⟩ := List.mem_map.1 hs
        rw [List.mem_filter] at hx
        exact List.mem_map.2 ⟨x, List.mem_filter.2 ⟨List.mem_of_mem_take hx.1, hx.2⟩, rfl⟩⟩
      generalize l.getD k nd0 = x at *
      obtain ⟨op, n, nm, kids⟩ := x
      simp only at HTOP HVS hnm
      obtain ⟨c0, c2⟩ := HTOP.out wr HBr.out
      by_cases hop : op = 2
      · have HE : Sld (vsL (l.take (k + 1)) = vsL (l.take k) ++ [nm]) := ⟨by rw [HVS, if_pos hop]⟩
        obtain ⟨hnc, hn64⟩ := HCH.out nm (hnm hop)
        have HINS : Sld (VrOf (vsL (l.take (k + 1))) (insV ys nm)) := ⟨by rw [HE.out]; exact HV.out.ins (fun t ht => (HCH.out t (HSUB.out t ht)).1) hnc⟩
        have HY64 : Sld (∀ j, j < ys.length → (ys.getD j ⟨#[]⟩).size ≤ 64) := ⟨fun j hj => (HCH.out _ (HSUB.out _ ((HV.out.mem _).1 (by simp [hj])))).2⟩
        clear HVS hnm hnc HE
        subst hop
        obtain ⟨wo, hwo⟩ : ∃ wo, wo = wr := ⟨_, rfl⟩
        subst hwo
        go_wp2_with fail
        go_loopw [6] (fun q wq => ∃ j : Nat, j ≤ ys.length ∧ q = .int .i64 j ∧ (∀ p, p < j → ordI (ys.getD p ⟨#[]⟩) nm < 0) ∧ Below wo.heap.size wo wq) (fun q _ => ys.length - (RowKit.intOf q).toNat)
        case atStart => exact ⟨0, by omega, rfl, by simp, Below.refl _ _⟩
        case round =>
          obtain ⟨j, hj, rfl, hlo, hBq⟩ := hrel
          have HBQ : Sld (Below wo.heap.size wo wr) := ⟨hBq⟩
          have HLO : Sld (∀ p, p < j → ordI (ys.getD p ⟨#[]⟩) nm < 0) := ⟨hlo⟩
          have HMq : Sld (VdMid w2 (.slice va ys.length vc) ys wr) := ⟨HM.out.next hBq⟩
          have HBw : Sld (Below w.heap.size w wr) := ⟨HBr.out.trans (hBq.mono HBr.out.size)⟩
          clear hBq hlo
          obtain ⟨d0, d2⟩ := HTOP.out wr HBw.out
          by_cases hjl : j < ys.length
          · obtain ⟨g, gc, hg1, hg2, hg3, hg4, hg5, e0⟩ := HMq.out.cell hjl
            simp only [Value.slice.injEq, true_and] at hg1
            obtain ⟨rfl, rfl⟩ := hg1
            unfold maxLen at hg5
            have hs64 := HY64.out j hjl
            obtain ⟨s, hs⟩ : ∃ s, ys.getD j ⟨#[]⟩ = s := ⟨_, rfl⟩
            rw [hs] at e0 hs64
            have HCE : Sld (∀ w', Below wr.heap.size wr w' → w'.cell? ⟨g, j, none⟩ = some (.string s) ∧ w'.cell? ⟨b, o + k * 4 + 2, none⟩ = some (.string nm)) := ⟨fun w' hb => ⟨(hb.cell (p := ⟨g, j, none⟩) hg3).trans e0, (HTOP.out w' (HBw.out.trans (hb.mono HBw.out.size))).2⟩⟩
            have HS : Sld (ys.getD j ⟨#[]⟩ = s) := ⟨hs⟩
            have CO1 : Sld (∀ W, Calls Tryd.prog 55 #[.string s, .string nm] W fun e w' => e = .returned (.int .i64 (ordI s nm)) ∧ Below W.heap.size W w') := ⟨fun W => CO.out s nm W hs64 hn64⟩
            obtain ⟨R, hR⟩ : ∃ R, ordI s nm = R := ⟨_, rfl⟩
            rw [hR] at CO1
            have HRR : Sld (ordI s nm = R) := ⟨hR⟩
            clear hs hR CO
            have HPL : Sld (¬ R < 0 → plV ys nm = j) := ⟨fun hn => plV_of HLO.out hj (fun _ => by rw [HS.out, HRR.out]; exact hn)⟩
            by_cases hR0 : R < 0
            · go_wp2_with fail
              go_region_held3 (fun W => W.cell? ⟨g, j, none⟩ = some (.string s) ∧ W.cell? ⟨b, o + k * 4 + 2, none⟩ = some (.string nm)) (go_keep) (first | (go_at_call 55; refine (CO1.out _).mono ?_; rintro e w4 ⟨rfl, hb4'⟩; obtain ⟨k0, k1⟩ := HCE.out w4 ((Below.refl wr.heap.size wr).drew.trans hb4')))
              go_wp2_with fail
              have hb4 : Below wr.heap.size wr w4 := (Below.refl wr.heap.size wr).drew.trans hb4'
              refine ⟨⟨j + 1, by omega, by go_num, fun p hp => ?_, HBQ.out.trans (hb4.mono HBQ.out.size)⟩, by simp [RowKit.intOf]; omega⟩
              by_cases hpj : p = j
              · subst hpj; rw [HS.out, HRR.out]; exact hR0
              · exact HLO.out p (by omega)
            · have hpl := HPL.out hR0
              have hR1 : decide (R < 0) = false := by simpa using hR0
              go_wp2_with fail
              go_region_held3 (fun W => W.cell? ⟨g, j, none⟩ = some (.string s) ∧ W.cell? ⟨b, o + k * 4 + 2, none⟩ = some (.string nm)) (go_keep) (first | (go_at_call 55; refine (CO1.out _).mono ?_; rintro e w4 ⟨rfl, hb4'⟩; obtain ⟨k0, k1⟩ := HCE.out w4 ((Below.refl wr.heap.size wr).drew.trans hb4')))
              go_wp2_with fail
              have hb4 : Below wr.heap.size wr w4 := (Below.refl wr.heap.size wr).drew.trans hb4'
              have HM4 : Sld (VdMid w2 (.slice (some ⟨g, 0, none⟩) ys.length vc) ys w4) := ⟨HMq.out.next hb4⟩
              clear hb4 hb4'
              by_cases hsn : s = nm
              · have HIE : Sld (insV ys nm = ys) := ⟨by
                  unfold insV
                  rw [hpl, if_pos]
                  rw [← hsn, ← HS.out]
                  simp [hjl]⟩
                subst hsn
                go_region
                go_wp2_with fail
                exact ⟨⟨k + 1, ys, by omega, by go_num, by rw [← HIE.out]; rw [HIE.out]; have := HINS.out; rw [HIE.out] at this; exact this, by omega, HM4.out.next (Below.refl _ _).drew⟩, by simp [RowKit.intOf]; omega⟩
              · have HIE : Sld (insV ys nm = ys.take j ++ nm :: ys.drop j) := ⟨by
                  unfold insV
                  rw [hpl, if_neg]
                  intro h
                  apply hsn
                  rw [← HS.out]
                  simp [hjl] at h
                  simp [hjl, h]⟩
                have hsn' : (s.toList == nm.toList) = false := by rw [beqV]; simpa using hsn
                go_region
                have HMX : Sld (VdMid w2 (.slice (some ⟨g, 0, none⟩) ys.length vc) ys w4.drew) := ⟨HM4.out.next (Below.refl _ _).drew⟩
                generalize w4.drew = wX at *
                go_wp2_with (at_builtin; refine wpList_append_lies _ rfl (.tmp 58) (.tmp 59) 33 rfl w2.heap.size 9 i0 (.string ⟨#[]⟩) 1 16 Tryd.underlying33 hi hz0 hz1 hz2 rfl (by decide) _ _ _ rfl (HMX.out.row.alloc _) ⟨wX.heap.size, 0, none⟩ 1 1 [.string ⟨#[]⟩] rfl rfl (cell_news_one _ _ _) (by simp [Value.oneCell']) (by omega) (by unfold maxLen; omega) (by omega) (by have := HMX.out.below.size; simp; omega) _ rfl ?_; intro g6 cap6 w6 hown6 hg6 hat6 hl6)
                have HB6 : Sld (Below w2.heap.size w2 w6) := ⟨(HMX.out.below.alloc HMX.out.below.size _).grown hg6 (by have := HMX.out.below.size; simp; omega) (fun q hq => (own_block' HMX.out.row q hq).1)⟩
                have HO6 : Sld (w6.ownsRow w2.heap.size 9 1 (.slice (some ⟨g6, 0, none⟩) (ys.length + 1) cap6) (ys.length + 1) ((moV ys ys.length).map Value.string)) := ⟨by rw [moV_start, List.map_append]; exact hown6⟩
                have hg6b := own_block' HO6.out g6 rfl
                obtain ⟨hc61, hc62⟩ : ys.length + 1 ≤ cap6 ∧ cap6 ≤ maxLen := by
                  have h6 := HO6.out.2
                  rcases h6 with ⟨h7, _⟩ | ⟨g', cap', cur, h7, _, _, h8, h9, _⟩
                  · cases h7
                  · injection h7 with _ _ h7c
                    subst h7c
                    exact ⟨h8, h9⟩
                unfold maxLen at hc62
                clear hown6 hg6 hat6 hl6 HMX
                go_loopw [7] (fun q wq => ∃ p : Nat, j ≤ p ∧ p ≤ ys.length ∧ q = .int .i64 p ∧ wq.ownsRow w2.heap.size 9 1 (.slice (some ⟨g6, 0, none⟩) (ys.length + 1) cap6) (ys.length + 1) ((moV ys p).map Value.string) ∧ Below w2.heap.size w2 wq) (fun q _ => (RowKit.intOf q).toNat)
                case atStart => exact ⟨ys.length, by omega, by omega, by go_num, HO6.out, HB6.out⟩
                case round =>
                  obtain ⟨p, hp1, hp2, rfl, hO, hB⟩ := hrel
                  by_cases hpj : j < p
                  · obtain ⟨p, rfl⟩ : ∃ z, p = z + 1 := ⟨p - 1, by omega⟩
                    have hml := moV_len ys (p + 1) hp2
                    have e0 : wr.cell? ⟨g6, p, none⟩ = some (.string (ys.getD p ⟨#[]⟩)) := by
                      obtain ⟨g', cap', h1, _, _, _, h5⟩ := row_cell hO (i := p) (by omega) (d := .string ⟨#[]⟩)
                      simp only [Value.slice.injEq, Option.some.injEq, Addr.mk.injEq, and_true, true_and] at h1
                      obtain ⟨rfl, rfl⟩ := h1
                      have h6 := moV_at ys p (by omega)
                      rw [h5, ← h6]
                      simp [hml, show p < ys.length + 1 by omega]
                    have f0 := rw_fro hO (p + 1)
                    obtain ⟨u, e1, _⟩ := rw_cell hO (i := p + 1) (by omega)
                    have HST : Sld ((wr.setCell ⟨g6, p + 1, none⟩ (.string (ys.getD p ⟨#[]⟩))).ownsRow w2.heap.size 9 1 (.slice (some ⟨g6, 0, none⟩) (ys.length + 1) cap6) (ys.length + 1) ((moV ys p).map Value.string)) := ⟨by
                      have := own_put hO (i := p + 1) (u := .string (ys.getD p ⟨#[]⟩)) (by simp [hml]; omega)
                      rw [← List.map_set, moV_set ys p (by omega)] at this
                      exact this⟩
                    have HBs : Sld (Below w2.heap.size w2 (wr.setCell ⟨g6, p + 1, none⟩ (.string (ys.getD p ⟨#[]⟩)))) := ⟨hB.setCell hg6b.1 _⟩
                    clear hO hB
                    generalize ys.getD p ⟨#[]⟩ = s at *
                    have hpI : ((p + 1 : Nat) : Int) = (p : Int) + 1 := by omega
                    rw [hpI]
                    go_wp2_with fail
                    exact ⟨⟨p, by omega, by omega, by go_num, HST.out, HBs.out⟩, by simp [RowKit.intOf]⟩
                  · have hpe : p = j := by omega
                    subst hpe
                    have hml := moV_len ys p hp2
                    have hBw : Below w.heap.size w wr := HB2.out.trans (hB.mono hz2')
                    have d2 := (HTOP.out wr hBw).2
                    have f0 := rw_fro hO p
                    obtain ⟨u, e1, _⟩ := rw_cell hO (i := p) (by omega)
                    have HST : Sld ((wr.setCell ⟨g6, p, none⟩ (.string nm)).ownsRow w2.heap.size 9 1 (.slice (some ⟨g6, 0, none⟩) (ys.length + 1) cap6) (ys.length + 1) ((ys.take p ++ nm :: ys.drop p).map Value.string)) := ⟨by
                      have := own_put hO (i := p) (u := .string nm) (by simp [hml]; omega)
                      rw [← List.map_set, moV_end ys nm p hp2] at this
                      exact this⟩
                    have HBs : Sld (Below w2.heap.size w2 (wr.setCell ⟨g6, p, none⟩ (.string nm))) := ⟨hB.setCell hg6b.1 _⟩
                    have HVI : Sld (VrOf (vsL (l.take (k + 1))) (ys.take p ++ nm :: ys.drop p)) := ⟨by rw [← HIE.out]; exact HINS.out⟩
                    have hln : (ys.take p ++ nm :: ys.drop p).length = ys.length + 1 := by simp; omega
                    have HLN : Sld ((ys.take p ++ nm :: ys.drop p).length = ys.length + 1) := ⟨hln⟩
                    clear hO hB hln
                    go_wp2_with fail
                    exact ⟨⟨k + 1, ys.take p ++ nm :: ys.drop p, by omega, by go_num, HVI.out, by have := HLN.out; omega, by rw [HLN.out]; exact HST.out, HBs.out⟩, by simp [RowKit.intOf]; omega⟩
          · have hje : j = ys.length := by omega
            have hpl : plV ys nm = j := plV_of HLO.out (by omega) (fun h => absurd h (by omega))
            have HIE : Sld (insV ys nm = ys.take j ++ nm :: ys.drop j) := ⟨by
              unfold insV
              rw [hpl, if_neg]
              rw [hje]
              simp⟩
            have hjI : ¬ ((j : Int) < (ys.length : Int)) := by omega
            clear hje
            go_wp2_with fail
            go_region
            go_wp2_with fail
            go_region
            have HMX : Sld (VdMid w2 (.slice va ys.length vc) ys wr.drew.drew) := ⟨(HMq.out.next (Below.refl _ _).drew).next (Below.refl _ _).drew⟩
            generalize wr.drew.drew = wX at *
            go_wp2_with (at_builtin; refine wpList_append_lies _ rfl (.tmp 58) (.tmp 59) 33 rfl w2.heap.size 9 i0 (.string ⟨#[]⟩) 1 16 Tryd.underlying33 hi hz0 hz1 hz2 rfl (by decide) _ _ _ rfl (HMX.out.row.alloc _) ⟨wX.heap.size, 0, none⟩ 1 1 [.string ⟨#[]⟩] rfl rfl (cell_news_one _ _ _) (by simp [Value.oneCell']) (by omega) (by unfold maxLen; omega) (by omega) (by have := HMX.out.below.size; simp; omega) _ rfl ?_; intro g6 cap6 w6 hown6 hg6 hat6 hl6)
            have HB6 : Sld (Below w2.heap.size w2 w6) := ⟨(HMX.out.below.alloc HMX.out.below.size _).grown hg6 (by have := HMX.out.below.size; simp; omega) (fun q hq => (own_block' HMX.out.row q hq).1)⟩
            have HO6 : Sld (w6.ownsRow w2.heap.size 9 1 (.slice (some ⟨g6, 0, none⟩) (ys.length + 1) cap6) (ys.length + 1) ((moV ys ys.length).map Value.string)) := ⟨by rw [moV_start, List.map_append]; exact hown6⟩
            have hg6b := own_block' HO6.out g6 rfl
            obtain ⟨hc61, hc62⟩ : ys.length + 1 ≤ cap6 ∧ cap6 ≤ maxLen := by
              have h6 := HO6.out.2
              rcases h6 with ⟨h7, _⟩ | ⟨g', cap', cur, h7, _, _, h8, h9, _⟩
              · cases h7
              · injection h7 with _ _ h7c
                subst h7c
                exact ⟨h8, h9⟩
            unfold maxLen at hc62
            clear hown6 hg6 hat6 hl6 HMX
            go_loopw [7] (fun q wq => ∃ p : Nat, j ≤ p ∧ p ≤ ys.length ∧ q = .int .i64 p ∧ wq.ownsRow w2.heap.size 9 1 (.slice (some ⟨g6, 0, none⟩) (ys.length + 1) cap6) (ys.length + 1) ((moV ys p).map Value.string) ∧ Below w2.heap.size w2 wq) (fun q _ => (RowKit.intOf q).toNat)
            case atStart => exact ⟨ys.length, by omega, by omega, by go_num, HO6.out, HB6.out⟩
            case round =>
              obtain ⟨p, hp1, hp2, rfl, hO, hB⟩ := hrel
              by_cases hpj : j < p
              · obtain ⟨p, rfl⟩ : ∃ z, p = z + 1 := ⟨p - 1, by omega⟩
                have hml := moV_len ys (p + 1) hp2
                have e0 : wr.cell? ⟨g6, p, none⟩ = some (.string (ys.getD p ⟨#[]⟩)) := by
                  obtain ⟨g', cap', h1, _, _, _, h5⟩ := row_cell hO (i := p) (by omega) (d := .string ⟨#[]⟩)
                  simp only [Value.slice.injEq, Option.some.injEq, Addr.mk.injEq, and_true, true_and] at h1
                  obtain ⟨rfl, rfl⟩ := h1
                  have h6 := moV_at ys p (by omega)
                  rw [h5, ← h6]
                  simp [hml, show p < ys.length + 1 by omega]
                have f0 := rw_fro hO (p + 1)
                obtain ⟨u, e1, _⟩ := rw_cell hO (i := p + 1) (by omega)
                have HST : Sld ((wr.setCell ⟨g6, p + 1, none⟩ (.string (ys.getD p ⟨#[]⟩))).ownsRow w2.heap.size 9 1 (.slice (some ⟨g6, 0, none⟩) (ys.length + 1) cap6) (ys.length + 1) ((moV ys p).map Value.string)) := ⟨by
                  have := own_put hO (i := p + 1) (u := .string (ys.getD p ⟨#[]⟩)) (by simp [hml]; omega)
                  rw [← List.map_set, moV_set ys p (by omega)] at this
                  exact this⟩
                have HBs : Sld (Below w2.heap.size w2 (wr.setCell ⟨g6, p + 1, none⟩ (.string (ys.getD p ⟨#[]⟩)))) := ⟨hB.setCell hg6b.1 _⟩
                clear hO hB
                generalize ys.getD p ⟨#[]⟩ = s at *
                have hpI : ((p + 1 : Nat) : Int) = (p : Int) + 1 := by omega
                rw [hpI]
                go_wp2_with fail
                all_goals exact ⟨⟨p, by omega, by omega, by go_num, HST.out, HBs.out⟩, by simp [RowKit.intOf]⟩
              · have hpe : p = j := by omega
                subst hpe
                have hml := moV_len ys p hp2
                have hBw : Below w.heap.size w wr := HB2.out.trans (hB.mono hz2')
                have d2 := (HTOP.out wr hBw).2
                have f0 := rw_fro hO p
                obtain ⟨u, e1, _⟩ := rw_cell hO (i := p) (by omega)
                have HST : Sld ((wr.setCell ⟨g6, p, none⟩ (.string nm)).ownsRow w2.heap.size 9 1 (.slice (some ⟨g6, 0, none⟩) (ys.length + 1) cap6) (ys.length + 1) ((ys.take p ++ nm :: ys.drop p).map Value.string)) := ⟨by
                  have := own_put hO (i := p) (u := .string nm) (by simp [hml]; omega)
                  rw [← List.map_set, moV_end ys nm p hp2] at this
                  exact this⟩
                have HBs : Sld (Below w2.heap.size w2 (wr.setCell ⟨g6, p, none⟩ (.string nm))) := ⟨hB.setCell hg6b.1 _⟩
                have HVI : Sld (VrOf (vsL (l.take (k + 1))) (ys.take p ++ nm :: ys.drop p)) := ⟨by rw [← HIE.out]; exact HINS.out⟩
                have hln : (ys.take p ++ nm :: ys.drop p).length = ys.length + 1 := by simp; omega
                have HLN : Sld ((ys.take p ++ nm :: ys.drop p).length = ys.length + 1) := ⟨hln⟩
                clear hO hB hln
                go_wp2_with fail
                exact ⟨⟨k + 1, ys.take p ++ nm :: ys.drop p, by omega, by go_num, HVI.out, by have := HLN.out; omega, by rw [HLN.out]; exact HST.out, HBs.out⟩, by simp [RowKit.intOf]; omega⟩
      · have HE : Sld (vsL (l.take (k + 1)) = vsL (l.take k)) := ⟨by rw [HVS, if_neg hop, List.append_nil]⟩
        clear HVS hnm
        have hop' : (op == 2) = false := by simpa using hop
        go_wp2_with fail
        exact ⟨⟨k + 1, ys, by omega, by go_num, by rw [HE.out]; exact HV.out, by omega, HM.out⟩, by simp [RowKit.intOf]; omega⟩
    · have hke : k = l.length := by omega
      subst hke
      have e : l.take l.length = l := List.take_length
      have hV := HV.out
      rw [e] at hV
      obtain ⟨ao', cap', hv, hst⟩ := Strs_of_own HM.out.row
      simp only [Value.slice.injEq, true_and] at hv
      obtain ⟨rfl, rfl⟩ := hv
      have HST : Sld (Strs wr va vc ys) := ⟨hst⟩
      clear hst HM
      go_wp2_with fail
      go_ret2
      exact ⟨va, vc, ys, rfl, hV, HST.out, HBr.out⟩
end Go.Proofs.YtkdcjkhpbbcncaaDoor
