/-
  The walk of BoxMusts.
-/
import Derived.Test.YteaipdmbdcmmeabBxValW
import Derived.Test.YteaipdmbdcmmeabBxMstW
set_option linter.unusedSimpArgs false
set_option linter.unusedVariables false
namespace Go.Proofs.Yteaipdmbdcmmeab
open Go.RowKit Go.Sort

theorem cell_news_one (w : World) (v : Value) (t : TypeId) : ∀ j u, [v][j]? = some u → (w.alloc (.cells #[v] t)).cell? ((⟨w.heap.size, 0, none⟩ : Addr).add j) = some u := by
  intro j u hj
  match j, hj with
  | 0, hj => simp at hj; subst hj; simp [Addr.add]

theorem own_of_row {w : World} {base g n : Nat} {ts : List Tm} (h : w.rowIs g 33 n (fun j => tv (ts.getD j .nil))) (hg : base ≤ g) (hn : n ≤ maxLen) (hl : ts.length = n) : w.ownsRow base 33 1 (.slice (some ⟨g, 0, none⟩) n n) n (ts.map tv) := by
  obtain ⟨c, h1, h2, h3⟩ := h
  refine ⟨by simp [hl], .inr ⟨g, n, c, rfl, hg, h1, Nat.le_refl _, hn, by omega, ?_⟩⟩
  apply List.ext_getElem?
  intro j
  rw [Nat.mul_one, List.getElem?_take]
  by_cases hj : j < n
  · rw [if_pos hj, Array.getElem?_toList, h3 j hj]
    simp [show j < ts.length by omega]
  · rw [if_neg hj, List.getElem?_eq_none (by simp; omega)]

set_option maxRecDepth 20000 in
set_option maxHeartbeats 4000000 in
theorem boxMusts_walk (ao : Option Addr) (cap : Nat) (l : List Cl) (w : World) (hN : Cls w ao cap l) (hlen : l.length * 16 ≤ 140737488351232) :
    Calls Try.prog 4 #[.slice ao l.length cap] w fun e w' => e = .returned (.bool true) ∧ Below w.heap.size w w' := by
  have hm := hN.2.1
  have hl := hN.1
  unfold maxLen at hm
  have HN0 : Hid (Cls w ao cap l) := hN
  clear hN
  obtain ⟨i0, hi, hz0, hz1, hz2⟩ : ∃ i0, Try.prog.info? 33 = some i0 ∧ i0.zero = some .nilIface ∧ i0.size = 1 ∧ i0.bytes = 16 := by
    have h := Try.infoTerm
    cases hh : Try.prog.info? 33 with
    | none => rw [hh] at h; cases h
    | some i0 => rw [hh] at h; simp at h; exact ⟨i0, rfl, h.1, h.2.1, h.2.2⟩
  go_enter Try.func4, Try.ntmps4
  go_wp2_with fail
  refine (awk3_any _).mono ?_
  rintro e w1 ⟨rfl, hb1⟩
  go_wp2_with fail
  refine (values_row ao cap l w1 (HN0.out.below hb1) (by omega)).mono ?_
  rintro e w2 ⟨ts, rfl, hV, htl, hG, hb2⟩
  have hb12 : Below w.heap.size w w2 := hb1.trans (hb2.mono hb1.size)
  have HB12 : Hid (Below w.heap.size w w2) := hb12
  have HV : Hid (Vals l ts) := hV
  have hown := own_of_row (base := w1.heap.size) hG (Nat.le_refl _) (by unfold maxLen; omega) htl
  have hown2 := hown.alloc (.cells #[.nilIface] 33)
  have hs2 := hb12.size
  have hs3 := hb2.size
  have hs1 := hb1.size
  generalize w1.heap.size = G at *
  clear hV hG hb2 hb1 hb12
  go_wp2_with (at_builtin; refine wpList_append_lies _ rfl (.tmp 16) (.tmp 17) 24 rfl G 33 i0 .nilIface 1 16 Try.underlying24 hi hz0 hz1 hz2 rfl (by decide) _ _ _ rfl hown2 ⟨w2.heap.size, 0, none⟩ 1 1 [.nilIface] rfl rfl (cell_news_one _ _ _) (by simp [Value.oneCell']) (by omega) (by unfold maxLen; omega) (by omega) (by simp; omega) _ rfl ?_; intro g cap3 w3 hown3 hg3 hat hl3)
  have hb23 : Below G w2 w3 := ((Below.refl G w2).alloc hs3 _).grown hg3 (by simp; omega) (fun k hk => (hown2.lt k hk).1)
  have hb3 : Below w.heap.size w w3 := HB12.out.trans (hb23.mono hs1)
  have hcells : ∀ j, j ≤ l.length → w3.cell? ⟨g, j, none⟩ = some (tv (ts.getD j .nil)) := by
    obtain ⟨h1, h2⟩ := hown3
    rcases h2 with ⟨h2, _⟩ | ⟨g', cap', cur, h2, hgb, hgc, hn, hm', hcs, htk⟩
    · cases h2
    · cases h2
      intro j hj
      have hc : w3.cell? ⟨g, j, none⟩ = cur[j]? := by simp [World.cell?, hgc]
      rw [hc, ← Array.getElem?_toList]
      have e1 : cur.toList[j]? = (cur.toList.take ((l.length + 1) * 1))[j]? := by rw [List.getElem?_take, if_pos (by omega)]
      rw [e1, htk]
      by_cases hj2 : j < ts.length
      · rw [List.getElem?_append_left (by simpa using hj2)]
        simp [hj2]
      · have : j = ts.length := by omega
        subst this
        rw [List.getElem?_append_right (by simp)]
        simp [tv]
  have hcap3 : l.length + 1 ≤ cap3 ∧ cap3 ≤ maxLen := by
    obtain ⟨h1, h2⟩ := hown3
    rcases h2 with ⟨h2, _⟩ | ⟨g', cap', cur, h2, hgb, hgc, hn, hm', _⟩
    · cases h2
    · cases h2; exact ⟨hn, hm'⟩
  unfold maxLen at hcap3
  have HN : Hid (Cls w3 ao cap l) := HN0.out.below hb3
  have HB3 : Hid (Below w.heap.size w w3) := hb3
  have HG : Hid (∀ j, j ≤ l.length → w3.cell? ⟨g, j, none⟩ = some (tv (ts.getD j .nil))) := hcells
  clear hown hown2 hown3 hg3 hat hb23 hb3 hcells HN0 HB12 hs1 hs2 hs3
  go_wp2_with fail
  go_loopw [4] (fun i wr => ∃ k : Nat, k ≤ l.length + 1 ∧ i = .int .i64 k ∧ Below w3.heap.size w3 wr) (fun i _ => l.length + 1 - (RowKit.intOf i).toNat)
  case atStart => exact ⟨0, by omega, rfl, Below.refl _ _⟩
  case round =>
    obtain ⟨k, hk, rfl, hbr⟩ := hrel
    have HBR : Hid (Below w3.heap.size w3 wr) := hbr
    by_cases hlt : k < l.length + 1
    · have hv0 := HG.out k (by omega)
      have hglt := World.block_lt_of_cell? _ _ hv0
      have hgc : Hid (∀ V, Below wr.heap.size wr V → V.cell? ⟨g, k, none⟩ = some (tv (ts.getD k .nil))) := fun V hV => (hV.cell (p := ⟨g, k, none⟩) (Nat.lt_of_lt_of_le hglt HBR.out.size)).trans ((HBR.out.cell (p := ⟨g, k, none⟩) hglt).trans (HG.out k (by omega)))
      clear hv0 hglt hbr
      have hlt1 : (k : Int) < (l.length : Int) + 1 := by omega
      by_cases hkl : k < l.length
      · obtain ⟨b, o, rfl, hbl, hc⟩ := (HN.out.below HBR.out).at_ hkl
        have hC := hc k hkl
        obtain ⟨p, hp⟩ := HV.out.at_ k (by omega)
        have hK := HV.out.kn k (by omega)
        have hkk := mkT_kinds (l.getD k cl0) (ts.take k) p
        rw [← hp] at hkk
        clear hc hp
        generalize l.getD k cl0 = x at *
        obtain ⟨kd, op, n, nm, a, bb, c⟩ := x
        simp only at hkk
        have HC : Hid (∀ V, Below wr.heap.size wr V → V.cell? ⟨b, o + k * 7, none⟩ = some (.int .i64 kd) ∧ V.cell? ⟨b, o + k * 7 + 2, none⟩ = some (.int .i64 n) ∧ V.cell? ⟨b, o + k * 7 + 3, none⟩ = some (.string nm)) := fun V hV => by
          have := hC.below hV hbl
          exact ⟨this.c0, this.c2, this.c3⟩
        clear hC
        obtain ⟨tk, htk⟩ : ∃ tk, ts.getD k .nil = tk := ⟨_, rfl⟩
        rw [htk] at hkk hK hgc
        clear htk
        have hkl1 : (k : Int) < (l.length : Int) := by omega
        by_cases h1 : kd = 1
        · have ht := hkk.1 h1
          subst h1
          subst ht
          have v1 := hgc.out wr (Below.refl _ _)
          unfold tv at v1
          go_wp2_with fail
          refine (caught_lit_yes n _).mono ?_
          rintro e w5 ⟨rfl, hb5⟩
          have v2 := hgc.out w5 hb5
          unfold tv at v2
          clear v1
          go_wp2_with fail
          refine (caught_var_no _ _ (.inr ⟨_, _, rfl, by decide⟩)).mono ?_
          rintro e w6 ⟨⟨p6, rfl⟩, hb6⟩
          have hb56 := hb5.trans (hb6.mono hb5.size)
          obtain ⟨d0, d2, d3⟩ := HC.out w6 hb56
          clear v2
          go_wp2_with (go_at_call 13; refine (broken_any _ _).mono ?_; rintro e w7 ⟨rfl, hw7⟩; subst w7)
          exact ⟨⟨k + 1, by omega, by go_num, HBR.out.trans (hb56.mono HBR.out.size)⟩, by simp [RowKit.intOf]; omega⟩
        by_cases h2 : kd = 2
        · have ht := hkk.2.1 h2
          subst h2
          subst ht
          have v1 := hgc.out wr (Below.refl _ _)
          unfold tv at v1
          go_wp2_with fail
          refine (caught_lit_no _ _ (.inr ⟨_, _, rfl, by decide⟩)).mono ?_
          rintro e w5 ⟨⟨p5, rfl⟩, hb5⟩
          have v2 := hgc.out w5 hb5
          unfold tv at v2
          clear v1
          go_wp2_with fail
          refine (caught_var_yes nm _).mono ?_
          rintro e w6 ⟨rfl, hb6⟩
          have hb56 := hb5.trans (hb6.mono hb5.size)
          obtain ⟨d0, d2, d3⟩ := HC.out w6 hb56
          clear v2
          go_wp2_with (go_at_call 13; refine (broken_any _ _).mono ?_; rintro e w7 ⟨rfl, hw7⟩; subst w7)
          exact ⟨⟨k + 1, by omega, by go_num, HBR.out.trans (hb56.mono HBR.out.size)⟩, by simp [RowKit.intOf]; omega⟩
        · have nl := not_lit hK (hkk.2.2.1 h1)
          have nv := not_var hK (hkk.2.2.2 h2)
          have HNL : Hid (NotT 43 (tv tk)) := nl
          have HNV : Hid (NotT 45 (tv tk)) := nv
          clear nl nv hkk
          have e1 : (kd == 1) = false := by simpa using h1
          have e2 : (kd == 2) = false := by simpa using h2
          have v1 := hgc.out wr (Below.refl _ _)
          go_wp2_with fail
          refine (caught_lit_no _ _ HNL.out).mono ?_
          rintro e w5 ⟨⟨p5, rfl⟩, hb5⟩
          have v2 := hgc.out w5 hb5
          clear v1
          go_wp2_with fail
          refine (caught_var_no _ _ HNV.out).mono ?_
          rintro e w6 ⟨⟨p6, rfl⟩, hb6⟩
          have hb56 := hb5.trans (hb6.mono hb5.size)
          obtain ⟨d0, d2, d3⟩ := HC.out w6 hb56
          clear v2
          go_wp2_with (go_at_call 13; refine (broken_any _ _).mono ?_; rintro e w7 ⟨rfl, hw7⟩; subst w7)
          exact ⟨⟨k + 1, by omega, by go_num, HBR.out.trans (hb56.mono HBR.out.size)⟩, by simp [RowKit.intOf]; omega⟩
      · have hke : k = l.length := by omega
        subst hke
        have htn : ts.getD l.length .nil = .nil := getD_out (by omega)
        rw [htn] at hgc
        clear htn
        have v1 := hgc.out wr (Below.refl _ _)
        unfold tv at v1
        go_wp2_with fail
        refine (caught_lit_no _ _ (.inl rfl)).mono ?_
        rintro e w5 ⟨⟨p5, rfl⟩, hb5⟩
        have v2 := hgc.out w5 hb5
        unfold tv at v2
        clear v1
        go_wp2_with fail
        refine (caught_var_no _ _ (.inl rfl)).mono ?_
        rintro e w6 ⟨⟨p6, rfl⟩, hb6⟩
        have hb56 := hb5.trans (hb6.mono hb5.size)
        clear v2
        go_wp2_with (go_at_call 13; refine (broken_any _ _).mono ?_; rintro e w7 ⟨rfl, hw7⟩; subst w7)
        exact ⟨⟨l.length + 1, by omega, by go_num, HBR.out.trans (hb56.mono HBR.out.size)⟩, by first | (simp [RowKit.intOf]; done) | (simp [RowKit.intOf]; omega)⟩
    · have hke : k = l.length + 1 := by omega
      subst hke
      go_wp2_with fail
      go_ret
      exact ⟨rfl, HB3.out.trans (hbr.mono HB3.out.size)⟩
end Go.Proofs.Yteaipdmbdcmmeab
