/-
  What Kept says of a room that is as it was.
-/
import Derived.Test.YtaonednimkoeiaaDoorRmRd
import Derived.Test.YtaonednimkoeiaaDoorQTail
set_option linter.unusedSimpArgs false
set_option linter.unusedVariables false
namespace Go.Proofs.YtaonednimkoeiaaDoor
open Go.RowKit Go.Lib Go.Sort

set_option maxRecDepth 20000 in
set_option maxHeartbeats 2000000 in
theorem kept_any {w : World} {R : Nat} {l : List Nd} {wa : Option Addr} {wc fb fc : Nat} {ka : Option Addr} {kc : Nat} (h : RoomRd w R l wa wc fb fc ka kc) (hF : FitR l) :
    Calls Tryd.prog 28 #[.pointer (some ⟨R, 0, none⟩)] w fun e w' => e = .returned (.bool true) ∧ Below w.heap.size w w' := by
  have c0 := h.c0
  have c1 := h.c1
  obtain ⟨hf1, hf2⟩ := h.full.bound
  rw [List.length_append, exL_len] at hf1
  unfold maxLen at hf2
  obtain ⟨hw1, hw2⟩ := h.was.bound
  unfold maxLen at hw2
  obtain ⟨hk1, hk2⟩ := h.kcap
  unfold maxLen at hk2
  have hfl := hF.len
  have hcut : (l.length : Int) ≤ (fc : Int) := by omega
  have HF : Hid (FitR l) := hF
  have HR : Hid (RoomRd w R l wa wc fb fc ka kc) := h
  have g0 := cell_regrown c0
  have g1 := cell_regrown c1
  have cS : Hid (∀ d os, Calls Tryd.prog 14 #[.slice (some ⟨fb, 0, none⟩) l.length fc, .slice wa l.length wc] (grow (redrawn w d) os) fun e w'' => e = .returned (.bool true) ∧ ∃ p : Regrown, w'' = grow (redrawn w p.d) p.os) := fun d os =>
    Calls.regrown_of (sameR ((HR.out.full.prefix).below (below_regrown w d os) (below_regrown w d os).size) (HR.out.was.below (below_regrown w d os) (below_regrown w d os).size) true (by simp))
  have hne : ((l.length : Int) + 7 != (l.length : Int) + 7) = false := by simp
  clear h hF
  go_enter Tryd.func28, Tryd.ntmps28
  go_wp2_with fail
  refine wp_region_quiet_below (by kernel_rfl) (by kernel_rfl) ?_
  iterate 22 (go_big_quiet_step ((go_at_call 14; exact cS.out _ _)))
  refine wpQuiet_nil ?_
  intro _ hw'
  obtain ⟨⟨ds, oss⟩, hw''⟩ := hw'
  subst hw''
  have hb2 := below_regrown w ds oss
  have HR2 : Hid (RoomRd (grow (redrawn w ds) oss) R l wa wc fb fc ka kc) := HR.out.below hb2
  have HB2 : Hid (Below w.heap.size w (grow (redrawn w ds) oss)) := hb2
  clear hb2 c0 c1 g0 g1 cS HR
  generalize grow (redrawn w ds) oss = w2 at *
  go_wp2_with fail
  go_loopw [4] (fun i wr => ∃ k : Nat, k ≤ l.length ∧ i = .int .i64 k ∧ Below w2.heap.size w2 wr) (fun i _ => l.length - (RowKit.intOf i).toNat)
  case atStart => exact ⟨0, by omega, rfl, Below.refl _ _⟩
  case round =>
    obtain ⟨k, hk, rfl, hbr⟩ := hrel
    obtain ⟨wo, hwo⟩ : ∃ wo, wo = wr := ⟨_, rfl⟩
    subst hwo
    have HRo : Hid (RoomRd wo R l wa wc fb fc ka kc) := HR2.out.below hbr
    have HBo : Hid (Below w2.heap.size w2 wo) := hbr
    clear hbr
    by_cases hlt : k < l.length
    · obtain ⟨b, o, kva, kvc, rfl, hbl, c3⟩ : ∃ b o kva kvc, wa = some ⟨b, o, none⟩ ∧ b < wo.heap.size ∧ wo.cell? ⟨b, o + k * 4 + 3, none⟩ = some (.slice kva (l.getD k nd0).kids.length kvc) := by
        obtain ⟨ao', cap', e1, _, _, hc⟩ := HRo.out.was
        cases e1
        rcases hc with h | ⟨b, o, e, hb, hc⟩
        · subst h; simp at hlt
        · obtain ⟨kv, hn⟩ := hc k hlt
          obtain ⟨kva, kvc, e2, _⟩ := hn.kids
          exact ⟨b, o, kva, kvc, e, hb, by rw [← e2]; exact hn.c3⟩
      obtain ⟨kb, gi, ci, rfl, hkb, hkc, hgi, hci1, hci2, hsp⟩ := HRo.out.kids k hlt
      unfold maxLen at hci2
      obtain ⟨K, hK⟩ : ∃ K, (l.getD k nd0).kids.length = K := ⟨_, rfl⟩
      rw [hK] at c3 hkc hci1 hsp
      have HSP : Hid (∀ j, j < 7 → wo.cell? ⟨gi, K + j, none⟩ = some (.int .i64 (7000 + (j : Int)))) := hsp
      have c0 := HRo.out.c0
      have c2 := HRo.out.c2
      have hRl := HRo.out.lt
      clear hsp hK
      go_wp2_with fail
      go_loopw [6] (fun i wq => ∃ j : Nat, j ≤ 7 ∧ i = .int .i64 j ∧ Below wo.heap.size wo wq) (fun i _ => 7 - (RowKit.intOf i).toNat)
      case atStart => exact ⟨0, by omega, rfl, Below.refl _ _⟩
      case round =>
        obtain ⟨j, hj, rfl, hbq⟩ := hrel
        by_cases hjl : j < 7
        · have d2 : wr.cell? ⟨R, 2, none⟩ = some (.slice (some ⟨kb, 0, none⟩) l.length kc) := (hbq.cell (p := ⟨R, 2, none⟩) hRl).trans c2
          have dk : wr.cell? ⟨kb, k, none⟩ = some (.slice (some ⟨gi, 0, none⟩) (K + 7) ci) := (hbq.cell (p := ⟨kb, k, none⟩) hkb).trans hkc
          have dg : wr.cell? ⟨gi, K + j, none⟩ = some (.int .i64 (7000 + (j : Int))) := (hbq.cell (p := ⟨gi, K + j, none⟩) hgi).trans (HSP.out j hjl)
          have HBQ : Hid (Below wo.heap.size wo wr) := hbq
          have hKj : (K : Int) + (j : Int) < (K : Int) + 7 := by omega
          clear hbq
          go_wp2_with fail
          exact ⟨⟨j + 1, by omega, by go_num, HBQ.out⟩, by simp [RowKit.intOf]; omega⟩
        · have hj7 : j = 7 := by omega
          subst hj7
          have HBQ : Hid (Below w2.heap.size w2 wr) := HBo.out.trans (hbq.mono HBo.out.size)
          clear hbq
          go_wp2_with fail
          exact ⟨⟨k + 1, by omega, by go_num, HBQ.out⟩, by simp [RowKit.intOf]; omega⟩
    · have hke : k = l.length := by omega
      subst hke
      go_wp2_with fail
      go_loopw [7] (fun i wq => ∃ j : Nat, j ≤ 7 ∧ i = .int .i64 j ∧ Below wo.heap.size wo wq) (fun i _ => 7 - (RowKit.intOf i).toNat)
      case atStart => exact ⟨0, by omega, rfl, Below.refl _ _⟩
      case round =>
        obtain ⟨j, hj, rfl, hbq⟩ := hrel
        have HRr : Hid (RoomRd wr R l wa wc fb fc ka kc) := HRo.out.below hbq
        have HBQ : Hid (Below w2.heap.size w2 wr) := HBo.out.trans (hbq.mono HBo.out.size)
        have HBq : Hid (Below wo.heap.size wo wr) := hbq
        clear hbq
        by_cases hjl : j < 7
        · have d1 := HRr.out.c1
          have dg : wr.cell? ⟨fb, (l.length + j) * 4, none⟩ = some (.int .i64 (7000 + (j : Int))) := by
            obtain ⟨ao', cap', e1, _, _, hc⟩ := HRr.out.full
            have hlen : (l ++ exL 7).length = l.length + 7 := by rw [List.length_append, exL_len]
            simp only [Value.slice.injEq] at e1
            obtain ⟨ea, _, _⟩ := e1
            rcases hc with h | ⟨b, o, e, hb, hc⟩
            · rw [h] at hlen; simp at hlen
            · rw [e] at ea
              cases ea
              obtain ⟨kv, hn⟩ := hc (l.length + j) (by omega)
              have e2 : (l ++ exL 7).getD (l.length + j) nd0 = ⟨7000 + (j : Int), 0, ⟨#[]⟩, []⟩ := by
                simp only [List.getD_eq_getElem?_getD]
                rw [List.getElem?_append_right (by omega)]
                simp [exL, hjl]
              rw [e2] at hn
              have := hn.c0
              rw [Nat.zero_add] at this
              exact this
          have hlj : (l.length : Int) + (j : Int) < (l.length : Int) + 7 := by omega
          go_wp2_with fail
          exact ⟨⟨j + 1, by omega, by go_num, HBq.out⟩, by simp [RowKit.intOf]; omega⟩
        · have hj7 : j = 7 := by omega
          subst hj7
          go_wp2_with fail
          go_ret
          exact ⟨rfl, HB2.out.trans (HBQ.out.mono HB2.out.size)⟩
end Go.Proofs.YtaonednimkoeiaaDoor
