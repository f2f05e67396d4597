/-
  The document's Part, walked: its loops.
-/
import Derived.Test.YtkdcjkhpbbcncaaDoorTbC2
import Derived.Test.YtkdcjkhpbbcncaaDoorExRefW
import Derived.Test.YtkdcjkhpbbcncaaDoorExOpen
set_option linter.unusedSimpArgs false
set_option linter.unusedVariables false
namespace Go.Proofs.YtkdcjkhpbbcncaaDoor
open Go.RowKit Go.Lib

/-- A cut of a list that is read. -/
theorem Nodes.cutT {w : World} {B : Nat} {b o n cap : Nat} {l : List Nd} (h : Nodes w B (.slice (some ⟨b, o, none⟩) l.length cap) l) {a e : Nat} (hae : a < e) (hel : e ≤ l.length) : Nodes w B (.slice (some ⟨b, o + a * 4, none⟩) (e - a) (cap - a)) ((l.drop a).take (e - a)) := by
  obtain ⟨ao, cap', hv, h1, h2, h3⟩ := h
  simp only [Value.slice.injEq, true_and] at hv
  obtain ⟨rfl, rfl⟩ := hv
  have hln : ((l.drop a).take (e - a)).length = e - a := by simp; omega
  refine ⟨_, cap - a, by rw [hln], by rw [hln]; omega, by omega, .inr ?_⟩
  rcases h3 with h3 | ⟨b', o', e1, hb, hc⟩
  · subst h3; simp at hel; omega
  · cases e1
    refine ⟨b, o + a * 4, rfl, hb, fun i hi => ?_⟩
    rw [hln] at hi
    obtain ⟨kv, hk⟩ := hc (a + i) (by omega)
    refine ⟨kv, ?_⟩
    have e2 : ((l.drop a).take (e - a)).getD i nd0 = l.getD (a + i) nd0 := by
      rw [List.getD_eq_getElem?_getD, List.getElem?_take, if_pos hi, List.getElem?_drop, List.getD_eq_getElem?_getD]
    rw [e2, show o + a * 4 + i * 4 = o + (a + i) * 4 by omega]
    exact hk
theorem gd_mem {ks : List Int} {k : Nat} (h : k < ks.length) : ks.getD k 0 ∈ ks := by simp [h]
/-- Between two steps. -/
structure PoMid (w : World) (a : Int) (m : List Nd) (x : Value) (i k : Nat) (wr : World) : Prop where
  ex : ∃ q : List (Nd × Value), q.map (·.1) = dnN a m i k ∧ OwnP wr w.heap.size x q ∧ KdAp q
  below : Below w.heap.size w wr
theorem PoMid.drew {w wr : World} {a : Int} {m : List Nd} {x : Value} {i k : Nat} (h : PoMid w a m x i k wr) : PoMid w a m x i k wr.drew := by
  obtain ⟨q, hq1, hq2, hq3⟩ := h.ex
  exact ⟨⟨q, hq1, ⟨rw_same hq2.row (fun _ _ => rfl), fun y hy => rw_same (hq2.kids y hy) (fun _ _ => rfl)⟩, hq3⟩, h.below.trans ⟨rfl, rfl, rfl, Nat.le_refl _, fun _ _ => rfl⟩⟩
theorem PoMid.step {w wr : World} {a : Int} {m : List Nd} {x : Value} {i k : Nat} (h : PoMid w a m x i k wr) (hi : i < m.length) (hk : k < (m.getD i nd0).kids.length) {rb rc : Nat} (hx : x = .slice (some ⟨rb, 0, none⟩) m.length rc) :
    ∃ g cap, wr.cell? ⟨rb, i * 4 + 3, none⟩ = some (.slice (some ⟨g, 0, none⟩) (m.getD i nd0).kids.length cap) ∧ (m.getD i nd0).kids.length ≤ cap ∧ cap ≤ maxLen ∧ wr.cell? ⟨g, k, none⟩ = some (.int .i64 ((m.getD i nd0).kids.getD k 0)) ∧ wr.frozen? ⟨g, k, none⟩ = false ∧ g ≠ rb ∧
      PoMid w a m x i (k + 1) (wr.setCell ⟨g, k, none⟩ (.int .i64 ((m.getD i nd0).kids.getD k 0 - a))) := by
  obtain ⟨q, hq1, hq2, hq3⟩ := h.ex
  have hql : q.length = m.length := by
    have := congrArg List.length hq1
    rw [List.length_map, dnN_len _ _ _ _ (by omega)] at this
    exact this
  have hiq : i < q.length := by omega
  have hat : q[i].1 = ⟨(m.getD i nd0).op, (m.getD i nd0).n, (m.getD i nd0).name, dnK a (m.getD i nd0).kids k⟩ := by
    have h1 := dnN_at a m hi k
    rw [← hq1, List.getElem?_map, List.getElem?_eq_getElem hiq] at h1
    simpa using h1
  have hkd := hq2.kids _ (List.getElem_mem hiq)
  have hlk : q[i].1.kids.length = (m.getD i nd0).kids.length := by rw [hat]; exact dnK_len _ _ _
  obtain ⟨g, cap, hkv, hg1, hg2⟩ := rw_some (show wr.ownsRow w.heap.size 3 1 q[i].2 q[i].1.kids.length _ from hkd) (by omega)
  rw [hlk] at hkv
  have hqi : q[i]? = some (q[i].1, .slice (some ⟨g, 0, none⟩) (m.getD i nd0).kids.length cap) := by rw [List.getElem?_eq_getElem hiq, ← hkv]
  subst hx
  have hrow := hq2.row
  rw [hql] at hrow
  have hc3 : wr.cell? ⟨rb, i * 4 + 3, none⟩ = some (.slice (some ⟨g, 0, none⟩) (m.getD i nd0).kids.length cap) := by
    obtain ⟨_, _, _, a3⟩ := ndCells_at q i _ _ hqi
    obtain ⟨u, h1, h2⟩ := rw_cell hrow (i := i * 4 + 3) (by omega)
    rw [h1, ← h2, a3]
  rw [hkv] at hkd
  have hkc := hkd.cellT hlk (i := k) hk
  have hkf := hkd.frT hlk k
  have e4 : q[i].1.kids.getD k 0 = (m.getD i nd0).kids.getD k 0 := by rw [hat]; exact dnK_at a _ hk
  rw [e4] at hkc
  have hst := hq2.setKid hq3 (j := k) hqi hlk ((m.getD i nd0).kids.getD k 0 - a)
  have hcap : (m.getD i nd0).kids.length ≤ cap ∧ cap ≤ maxLen := by
    have h6 := hkd.2
    rcases h6 with ⟨h7, _⟩ | ⟨g', cap', cur, h7, _, _, h8, h9, _⟩
    · cases h7
    · injection h7 with _ _ h7c
      subst h7c
      rw [hlk] at h8; exact ⟨h8, h9⟩
  have hgr : g ≠ rb := fun e => by
    subst e
    obtain ⟨_, _, _, c1, _, h7, _⟩ := rw_block hkd (b := g) rfl
    obtain ⟨_, _, _, c2, _, h8, _⟩ := rw_block hrow (b := g) rfl
    rw [h7] at h8; simp at h8
  refine ⟨g, cap, hc3, hcap.1, hcap.2, hkc, hkf, hgr, ⟨⟨_, ?_, hst.1, hst.2⟩, h.below.setCell (p := ⟨g, k, none⟩) hg1 _⟩⟩
  rw [List.map_set, hq1, hat]
  simp only
  rw [dnK_set a _ hk]
  exact dnN_set a m hi k (k + 1)
theorem PoMid.kidsAt {w wr : World} {a : Int} {m : List Nd} {x : Value} {i k : Nat} (h : PoMid w a m x i k wr) (hi : i < m.length) {rb rc : Nat} (hx : x = .slice (some ⟨rb, 0, none⟩) m.length rc) :
    ∃ ka kc, wr.cell? ⟨rb, i * 4 + 3, none⟩ = some (.slice ka (m.getD i nd0).kids.length kc) := by
  obtain ⟨q, hq1, hq2, hq3⟩ := h.ex
  have hql : q.length = m.length := by
    have := congrArg List.length hq1
    rw [List.length_map, dnN_len _ _ _ _ (by omega)] at this
    exact this
  have hiq : i < q.length := by omega
  have hat : q[i].1 = ⟨(m.getD i nd0).op, (m.getD i nd0).n, (m.getD i nd0).name, dnK a (m.getD i nd0).kids k⟩ := by
    have h1 := dnN_at a m hi k
    rw [← hq1, List.getElem?_map, List.getElem?_eq_getElem hiq] at h1
    simpa using h1
  have hkd := hq2.kids _ (List.getElem_mem hiq)
  have hlk : q[i].1.kids.length = (m.getD i nd0).kids.length := by rw [hat]; exact dnK_len _ _ _
  obtain ⟨ka, kc, hkv⟩ := OwnI.form' hkd
  rw [hlk] at hkv
  have hqi : q[i]? = some (q[i].1, .slice ka (m.getD i nd0).kids.length kc) := by rw [List.getElem?_eq_getElem hiq, ← hkv]
  subst hx
  have hrow := hq2.row
  rw [hql] at hrow
  obtain ⟨_, _, _, a3⟩ := ndCells_at q i _ _ hqi
  obtain ⟨u, h1, h2⟩ := rw_cell hrow (i := i * 4 + 3) (by omega)
  exact ⟨ka, kc, by rw [h1, ← h2, a3]⟩

set_option maxRecDepth 20000 in
set_option maxHeartbeats 8000000 in
theorem partOf_any (w : World) (ao : Option Addr) (cap : Nat) (l : List Nd) (fr : List Nat) (i : Nat) (hR : Rd w ao cap l) (hF : FitX l) (hb : begL l = some fr) (hi : i < l.length) :
    Calls Tryd.prog 49 #[.slice ao l.length cap, .int .i64 i] w fun e w' => ∃ ao' cap', e = .returned (.slice ao' (partL l (fr.getD i 0) i).length cap') ∧ ExO w (.slice ao' (partL l (fr.getD i 0) i).length cap') (partL l (fr.getD i 0) i) w' := by
  obtain ⟨hl0, hl64, hbr, _⟩ := begL_some hb
  have hok := begOk_of hbr
  have hlo := hok.low i
  have hst : stI l i = (fr.getD i 0 : Int) - 1 := by
    have hs := sts_of_beg l [] fr low_nil hbr
    refine stI_some ?_
    have e : sts l = fr.map some := hs
    rw [e]
    have : i < fr.length := by rw [hok.len]; exact hi
    simp [this]
  have CW : Sld (Calls Tryd.prog 46 #[.slice ao l.length cap, .int .i64 i] w fun e w' => e = .returned (.int .i64 ((fr.getD i 0 : Int) - 1)) ∧ w' = w) := ⟨by
    have := walk_any (.slice ao l.length cap) l w w.heap.size hR i hi
    rw [hst] at this
    exact this⟩
  have hkup : ∀ j, j < l.length → ∀ k ∈ (l.getD j nd0).kids, 0 ≤ k ∧ k ≤ 64 := fun j hj k hk => by have := kidsLo_ok hok j hj k hk; omega
  obtain ⟨m, hm⟩ : ∃ m, (l.drop (fr.getD i 0)).take (i + 1 - fr.getD i 0) = m := ⟨_, rfl⟩
  have hpl : partL l (fr.getD i 0) i = m.map (mvN 0 (-((fr.getD i 0 : Nat) : Int))) := by rw [← hm]; rfl
  have hml : m.length = i + 1 - fr.getD i 0 := by rw [← hm]; simp; omega
  have hkm : ∀ j, j < m.length → ∀ k ∈ (m.getD j nd0).kids, 0 ≤ k ∧ k ≤ 64 := fun j hj => by
    have e2 : m.getD j nd0 = l.getD (fr.getD i 0 + j) nd0 := by
      rw [← hm]
      exact getD_sub l _ _ j (by omega)
    rw [e2]
    exact hkup _ (by omega)
  have hk3 : ∀ j, j < m.length → (m.getD j nd0).kids.length ≤ 3 := fun j hj => by
    have e2 : m.getD j nd0 = l.getD (fr.getD i 0 + j) nd0 := by
      rw [← hm]
      exact getD_sub l _ _ j (by omega)
    rw [e2]
    exact formB_kids (hok.at_ _ (by omega)).1
  rw [hpl, List.length_map]
  generalize fr.getD i 0 = a at *
  have hR' := hR
  obtain ⟨ao', cap', hv, h1, h2, h3⟩ := hR'
  simp only [Value.slice.injEq, true_and] at hv
  obtain ⟨rfl, rfl⟩ := hv
  obtain ⟨b, o, rfl, hbl, _⟩ : ∃ b o, ao = some ⟨b, o, none⟩ ∧ b < w.heap.size ∧ ∀ i, i < l.length → ∃ kv, NodeAt w w.heap.size b (o + i * 4) (l.getD i nd0) kv := by
    rcases h3 with h | h
    · subst h; simp at hi
    · exact h
  have hcut : Nodes w w.heap.size (.slice (some ⟨b, o + a * 4, none⟩) (i + 1 - a) (cap - a)) m := by
    rw [← hm]
    exact Nodes.cutT (n := l.length) hR (by omega) (by omega)
  have CC : Sld (Calls Tryd.prog 11 #[.slice (some ⟨b, o + a * 4, none⟩) (i + 1 - a) (cap - a)] w fun e w' => ∃ rb rc, e = .returned (.slice (some ⟨rb, 0, none⟩) m.length rc) ∧ m.length ≤ rc ∧ rc ≤ maxLen ∧ PoMid w a m (.slice (some ⟨rb, 0, none⟩) m.length rc) 0 0 w') := ⟨by
    refine (copy_ap (.slice (some ⟨b, o + a * 4, none⟩) (i + 1 - a) (cap - a)) m w w.heap.size (Nat.le_refl _) hcut (by omega) (fun x hx => ?_)).mono fun e w' ⟨v', h4, h5⟩ => ?_
    · obtain ⟨j, hj, rfl⟩ := List.mem_iff_getElem.1 hx
      have := hk3 j hj
      simp [hj] at this
      omega
    · obtain ⟨q, hq1, hq2, hq3⟩ := h5.ex
      have hql : q.length = m.length := by rw [← hq1]; simp
      obtain ⟨rb, rc, hv, _, _⟩ := rw_some hq2.row (by omega)
      rw [hql] at hv
      subst hv
      have h8 : m.length ≤ rc ∧ rc ≤ maxLen := by
        rcases hq2.row.2 with ⟨h7, _⟩ | ⟨g', cap', cur, h7, _, _, h8, h9, _⟩
        · cases h7
        · injection h7 with _ _ h7c
          subst h7c
          rw [hql] at h8; exact ⟨h8, h9⟩
      exact ⟨rb, rc, h4, h8.1, h8.2, ⟨⟨q, by rw [hq1, dnN_zero], hq2, hq3⟩, h5.below⟩⟩⟩
  have HKM : Sld (∀ j, j < m.length → ∀ k ∈ (m.getD j nd0).kids, 0 ≤ k ∧ k ≤ 64) := ⟨hkm⟩
  have HK3 : Sld (∀ j, j < m.length → (m.getD j nd0).kids.length ≤ 3) := ⟨hk3⟩
  unfold maxLen at h2
  have hia : (a : Int) ≤ (i : Int) + 1 := by omega
  have hil : (i : Int) + 1 ≤ (l.length : Int) := by omega
  have hlc : (l.length : Int) ≤ (cap : Int) := by omega
  have hm64 : m.length ≤ 64 := by omega
  clear hml
  clear hcut hkm hk3 hpl hst hok hbr hb hm hkup hR h3 hF
  go_enter Tryd.func49, Tryd.ntmps49
  go_wp2_with fail
  refine CW.out.mono ?_
  rintro e w2 ⟨rfl, hw2⟩
  subst hw2
  go_wp2_with fail
  refine CC.out.mono ?_
  rintro e w3 ⟨rb, rc, rfl, hrc1, hrc2, hP⟩
  have HP : Sld (PoMid w2 a m (.slice (some ⟨rb, 0, none⟩) m.length rc) 0 0 w3) := ⟨hP⟩
  unfold maxLen at hrc2
  have haI : (a : Int) ≤ 64 := by omega
  clear hP
  go_wp2_with fail
  go_loopw [7] (fun ii wr => ∃ j : Nat, j ≤ m.length ∧ ii = .int .i64 j ∧ PoMid w2 a m (.slice (some ⟨rb, 0, none⟩) m.length rc) j 0 wr) (fun ii _ => m.length - (RowKit.intOf ii).toNat)
  case atStart => exact ⟨0, by omega, rfl, HP.out⟩
  case round =>
    obtain ⟨j, hj, rfl, hmid⟩ := hrel
    have HMID : Sld (PoMid w2 a m (.slice (some ⟨rb, 0, none⟩) m.length rc) j 0 wr) := ⟨hmid⟩
    clear hmid
    by_cases hjl : j < m.length
    · have hjlI : (j : Int) < (m.length : Int) := by omega
      go_wp2_with fail
      go_loopw [8] (fun kk wq => ∃ k : Nat, k ≤ (m.getD j nd0).kids.length ∧ kk = .int .i64 k ∧ PoMid w2 a m (.slice (some ⟨rb, 0, none⟩) m.length rc) j k wq) (fun kk _ => (m.getD j nd0).kids.length - (RowKit.intOf kk).toNat)
      case atStart => exact ⟨0, by omega, rfl, HMID.out⟩
      case round =>
        obtain ⟨k, hk, rfl, hmid⟩ := hrel
        have HM2 : Sld (PoMid w2 a m (.slice (some ⟨rb, 0, none⟩) m.length rc) j k wr) := ⟨hmid⟩
        have hk3 := HK3.out j hjl
        by_cases hkl : k < (m.getD j nd0).kids.length
        · obtain ⟨g, kcap, hc3, hcap1, hcap2, hkc, hkf, hgr, hnx⟩ := hmid.step hjl hkl rfl
          have HNX : Sld (PoMid w2 a m (.slice (some ⟨rb, 0, none⟩) m.length rc) j (k + 1) (wr.setCell ⟨g, k, none⟩ (.int .i64 ((m.getD j nd0).kids.getD k 0 - a)))) := ⟨hnx⟩
          have hq0 := HKM.out j hjl ((m.getD j nd0).kids.getD k 0) (gd_mem hkl)
          have hklI : (k : Int) < ((m.getD j nd0).kids.length : Int) := by omega
          unfold maxLen at hcap2
          have HKB : Sld (k < (m.getD j nd0).kids.length) := ⟨hkl⟩
          generalize (m.getD j nd0).kids.getD k 0 = qq at *
          generalize (m.getD j nd0).kids.length = KL at *
          have hw1 : IntKind.i64.wrap (qq - (a : Int)) = qq - (a : Int) := IntWalk.i64_in _ (by omega)
          clear hnx hmid
          go_wp2_with fail
          go_region
          go_wp2_with fail
          exact ⟨⟨k + 1, by have := HKB.out; omega, by go_num, HNX.out.drew⟩, by have := HKB.out; simp [RowKit.intOf]; omega⟩
        · obtain ⟨ka, kc, hc3⟩ := hmid.kidsAt hjl rfl
          have hke : k = (m.getD j nd0).kids.length := by omega
          have hnx := HM2.out
          rw [hke] at hnx
          have hdn := dnN_next (a : Int) m hjl (fun q hq => (HKM.out j hjl q hq).1)
          have HNX : Sld (PoMid w2 a m (.slice (some ⟨rb, 0, none⟩) m.length rc) (j + 1) 0 wr) := ⟨⟨by rw [← hdn]; exact hnx.ex, hnx.below⟩⟩
          subst hke
          generalize (m.getD j nd0).kids.length = KL at *
          clear hnx hdn hmid
          go_wp2_with fail
          exact ⟨⟨j + 1, by omega, by go_num, HNX.out⟩, by simp [RowKit.intOf]; omega⟩
    · have hje : j = m.length := by omega
      subst hje
      obtain ⟨q, hq1, hq2, hq3⟩ := HMID.out.ex
      rw [dnN_all] at hq1
      have HE : Sld (ExO w2 (.slice (some ⟨rb, 0, none⟩) m.length rc) (m.map (mvN 0 (-((a : Nat) : Int)))) wr) := ⟨⟨q, hq1, hq2, hq3⟩, HMID.out.below⟩
      clear hq1 hq2 hq3
      go_wp2_with fail
      go_ret
      refine ⟨some ⟨rb, 0, none⟩, rc, ?_, ?_⟩
      · first | rfl | simp
      · first | exact HE.out | simpa using HE.out
end Go.Proofs.YtkdcjkhpbbcncaaDoor
