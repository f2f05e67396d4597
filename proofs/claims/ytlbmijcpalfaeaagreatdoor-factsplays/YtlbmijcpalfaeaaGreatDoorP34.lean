/-
  DcF, PgC.
-/
import Derived.Test.YtlbmijcpalfaeaaGreatDoorP33
set_option linter.unusedSimpArgs false
set_option linter.unusedVariables false
namespace Go.Proofs.YtlbmijcpalfaeaaGreatDoor
open Go.RowKit Go.Lib Go.Sort

/-- The numbers of zs, each once, rising. -/
structure RkOk (zs ys : List Int) : Prop where
  up : ys.Pairwise fun a b => a < b
  mem : ∀ z, z ∈ ys ↔ z ∈ zs
theorem RkOk.skip {zs ys : List Int} {z : Int} (h : RkOk zs ys) (hz : z ∈ ys) : RkOk (zs ++ [z]) ys :=
  ⟨h.up, fun a => by
    rw [List.mem_append, List.mem_singleton, h.mem]
    constructor
    · exact .inl
    · rintro (h1 | rfl)
      · exact h1
      · exact (h.mem _).1 hz⟩
theorem RkOk.ins {zs ys : List Int} {z : Int} {k : Nat} (h : RkOk zs ys) (hk : k ≤ ys.length) (h1 : ∀ p, p < k → ys.getD p 0 < z) (h2 : k < ys.length → z < ys.getD k 0) : RkOk (zs ++ [z]) (ys.take k ++ z :: ys.drop k) := by
  have hp := List.pairwise_iff_getElem.1 h.up
  have hlo : ∀ a ∈ ys.take k, a < z := fun a ha => by
    obtain ⟨i, hi, e⟩ := List.getElem_of_mem ha
    rw [List.length_take] at hi
    have := h1 i (by omega)
    rw [List.getD_eq_getElem?_getD, List.getElem?_eq_getElem (by omega)] at this
    rw [List.getElem_take] at e
    simp only [Option.getD_some] at this
    omega
  have hhi : ∀ a ∈ ys.drop k, z < a := fun a ha => by
    obtain ⟨i, hi, e⟩ := List.getElem_of_mem ha
    rw [List.length_drop] at hi
    have h3 := h2 (by omega)
    rw [List.getD_eq_getElem?_getD, List.getElem?_eq_getElem (by omega)] at h3
    rw [List.getElem_drop] at e
    simp only [Option.getD_some] at h3
    by_cases e0 : i = 0
    · subst e0; simp only [Nat.add_zero] at e; omega
    · have := hp k (k + i) (by omega) (by omega) (by omega); omega
  refine ⟨?_, fun a => ?_⟩
  · rw [List.pairwise_append]
    refine ⟨h.up.sublist (List.take_sublist _ _), List.pairwise_cons.2 ⟨hhi, h.up.sublist (List.drop_sublist _ _)⟩, fun a ha b hb => ?_⟩
    rcases List.mem_cons.1 hb with rfl | hb
    · exact hlo a ha
    · have := hlo a ha; have := hhi b hb; omega
  · have e : a ∈ ys ↔ a ∈ ys.take k ∨ a ∈ ys.drop k := by rw [← List.mem_append, List.take_append_drop]
    rw [List.mem_append, List.mem_cons, List.mem_append, List.mem_singleton, ← h.mem, e]
    constructor
    · rintro (h1 | h1 | h1)
      · exact .inl (.inl h1)
      · exact .inr h1
      · exact .inl (.inr h1)
    · rintro ((h1 | h1) | h1)
      · exact .inl h1
      · exact .inr (.inr h1)
      · exact .inr (.inl h1)
theorem ownI_cell {w : World} {base g n cap : Nat} {ys : List Int} (h : OwnI w base (.slice (some ⟨g, 0, none⟩) n cap) ys) {i : Nat} (hi : i < ys.length) : w.cell? ⟨g, i, none⟩ = some (.int .i64 (ys.getD i 0)) ∧ w.frozen? ⟨g, i, none⟩ = false := by
  have hn : n = ys.length := by
    rcases h.2 with ⟨e, e2⟩ | ⟨_, _, _, e, _⟩
    · cases e
    · injection e
  subst hn
  obtain ⟨u, h1, h2⟩ := rw_cell h (i := i) (by omega)
  refine ⟨?_, rw_fro h _⟩
  rw [h1, ← h2]; simp [hi]
theorem ownI_slice {w : World} {base : Nat} {v : Value} {ys : List Int} (h : OwnI w base v ys) : ∃ va vc, v = .slice va ys.length vc ∧ ys.length ≤ vc ∧ vc ≤ 9223372036854775807 ∧ (0 < ys.length → ∃ g, va = some ⟨g, 0, none⟩ ∧ base ≤ g ∧ g < w.heap.size) := by
  rcases h.2 with ⟨rfl, e⟩ | ⟨g, cap, cur, rfl, hb, hg, h1, h2, _⟩
  · exact ⟨none, 0, by rw [e], by omega, by omega, fun h => by omega⟩
  · unfold maxLen at h2; exact ⟨_, _, rfl, h1, by omega, fun _ => ⟨g, rfl, hb, lt_of_block hg⟩⟩
theorem Tryz.infoI3 : (Tryz.prog.info? 3).map (fun i => (i.zero, i.size, i.bytes)) = some (some (.int .i64 0), 1, 8) := by kernel_rfl

set_option maxRecDepth 20000 in
set_option maxHeartbeats 8000000 in
theorem ranked_any (w : World) (za : Option Addr) (zc : Nat) (zs : List Int) (hz : Ints w w.heap.size (.slice za zs.length zc) zs) (hl : zs.length ≤ 4096) :
    Calls Tryz.prog 67 #[.slice za zs.length zc] w fun e w' => ∃ v ys, e = .returned v ∧ OwnI w' w.heap.size v ys ∧ RkOk zs ys ∧ Below w.heap.size w w' := by
  obtain ⟨i0, hi0, hz0, hz1, hz2⟩ := info_parts Tryz.infoI3
  have HZ := Sld.mk hz
  obtain ⟨_, hb1, hb2⟩ := hz.bnd
  clear hz
  go_enter Tryz.func67, Tryz.ntmps67
  go_wp2_with fail
  go_loopw [3, 4] (fun v i wr => ∃ (k : Nat) (ys : List Int), k ≤ zs.length ∧ i = .int .i64 k ∧ Sld (RkOk (zs.take k) ys) ∧ ys.length ≤ k ∧ Sld (OwnI wr w.heap.size v ys) ∧ Sld (Below w.heap.size w wr)) (fun _ i _ => zs.length - (RowKit.intOf i).toNat)
  case atStart => exact ⟨0, [], by omega, rfl, ⟨⟨List.Pairwise.nil, fun z => by simp⟩⟩, by simp, ⟨OwnI_nil _ _⟩, ⟨Below.refl _ _⟩⟩
  case round =>
    obtain ⟨k, ys, hk, rfl, HR, hyk, HO, HB⟩ := hrel
    obtain ⟨va, vc, hv, hv1, hv2, hv3⟩ := ownI_slice HO.out
    subst hv
    by_cases hlt : k < zs.length
    · obtain ⟨zb, zo, rfl, hzb, _⟩ := HZ.out.cellK hlt
      have HZC : Sld (∀ V, Below w.heap.size w V → V.cell? ⟨zb, zo + k, none⟩ = some (.int .i64 (zs.getD k 0))) := ⟨fun V hV => by
        obtain ⟨b, o, e, _, h⟩ := (HZ.out.below hV hV.size).cellK hlt
        injection e with e; injection e with e1 e2 _; subst e1; subst e2; exact h⟩
      have HT : Sld (zs.take (k + 1) = zs.take k ++ [zs.getD k 0]) := ⟨by rw [List.take_add_one, List.getElem?_eq_getElem hlt, List.getD_eq_getElem?_getD, List.getElem?_eq_getElem hlt]; rfl⟩
      generalize zs.getD k 0 = z at *
      obtain ⟨wo, hwo⟩ : ∃ wo, wo = wr := ⟨_, rfl⟩
      subst hwo
      go_wp2_with fail
      go_loopw [5] (fun q wq => ∃ j : Nat, j ≤ ys.length ∧ q = .int .i64 j ∧ Sld (∀ p, p < j → ys.getD p 0 < z) ∧ Sld (Below wo.heap.size wo wq)) (fun q _ => ys.length - (RowKit.intOf q).toNat)
      case atStart => exact ⟨0, by omega, rfl, ⟨fun p hp => by omega⟩, ⟨Below.refl _ _⟩⟩
      case round =>
        obtain ⟨j, hj, rfl, HLO, HQ⟩ := hrel
        have HBw : Sld (Below w.heap.size w wr) := ⟨HB.out.trans (HQ.out.mono HB.out.size)⟩
        have HOw : Sld (OwnI wr w.heap.size (.slice va ys.length vc) ys) := ⟨HO.out.below HQ.out⟩
        have d0 := HZC.out wr HBw.out
        by_cases hjl : j < ys.length
        · obtain ⟨g, rfl, hg1, hg2⟩ := hv3 (by omega)
          obtain ⟨e0, _⟩ := ownI_cell HOw.out hjl
          have hmem : ys.getD j 0 ∈ ys := by simp [hjl]
          obtain ⟨y, hy⟩ : ∃ y, ys.getD j 0 = y := ⟨_, rfl⟩
          have HY := Sld.mk hy
          rw [hy] at e0 hmem
          have HM := Sld.mk hmem
          clear hy hmem
          by_cases hyz : y < z
          · have HQ2 : Sld (Below wo.heap.size wo wr.drew) := ⟨HQ.out.drew⟩
            have HLO2 : Sld (∀ p, p < j + 1 → ys.getD p 0 < z) := ⟨fun p hp => by
              by_cases e : p = j
              · subst e; rw [HY.out]; exact hyz
              · exact HLO.out p (by omega)⟩
            go_wp2_with fail
            go_region
            go_wp2_with fail
            exact ⟨⟨j + 1, by omega, by go_num, HLO2, HQ2⟩, by simp [RowKit.intOf]; omega⟩
          · by_cases hyz2 : y = z
            · have HN : Sld (RkOk (zs.take (k + 1)) ys) := ⟨by rw [HT.out]; exact HR.out.skip (by rw [← hyz2]; exact HM.out)⟩
              have HOX : Sld (OwnI wr.drew.drew w.heap.size (.slice (some ⟨g, 0, none⟩) ys.length vc) ys) := ⟨HOw.out.below (((Below.refl _ _).drew).drew)⟩
              have HBX : Sld (Below w.heap.size w wr.drew.drew) := ⟨(HBw.out.drew).drew⟩
              have hbe : (y == z) = true := by simpa using hyz2
              clear hyz2
              go_wp2_with fail
              go_region
              go_wp2_with fail
              go_region
              go_wp2_with fail
              exact ⟨⟨k + 1, ys, by omega, by go_num, HN, by omega, HOX, HBX⟩, by simp [RowKit.intOf]; omega⟩
            · have HN : Sld (RkOk (zs.take (k + 1)) (ys.take j ++ z :: ys.drop j)) := ⟨by rw [HT.out]; exact HR.out.ins hj HLO.out (fun _ => by rw [HY.out]; omega)⟩
              have HOX : Sld (OwnI wr.drew.drew w.heap.size (.slice (some ⟨g, 0, none⟩) ys.length vc) ys) := ⟨HOw.out.below (((Below.refl _ _).drew).drew)⟩
              have HBX : Sld (Below w.heap.size w wr.drew.drew) := ⟨(HBw.out.drew).drew⟩
              have hbe : (y == z) = false := by simpa using hyz2
              clear hyz2
              go_wp2_with fail
              go_region
              go_wp2_with fail
              go_region
              generalize wr.drew.drew = wX at *
              have hrow : wX.ownsRow w.heap.size 3 1 (.slice (some ⟨g, 0, none⟩) ys.length vc) ys.length (ys.map (Value.int .i64)) := HOX.out
              have hsx := HBX.out.size
              clear HR HO HB HLO HQ HBw HOw d0
              go_wp2_with (at_builtin; refine wpList_append_lies _ rfl (.tmp 45) (.tmp 46) 24 rfl w.heap.size 3 i0 (.int .i64 0) 1 8 Tryz.underlying24 hi0 hz0 hz1 hz2 rfl (by decide) _ _ _ rfl (hrow.alloc _) ⟨wX.heap.size, 0, none⟩ 1 1 [.int .i64 0] rfl rfl (cell_news_one _ _ _) (by simp [Value.oneCell']) (by omega) (by unfold maxLen; omega) (by omega) (by simp; omega) _ rfl ?_; intro g6 cap6 w6 hown6 hg6 hat6 hl6)
              have HB6 : Sld (Below w.heap.size w w6) := ⟨(HBX.out.alloc HBX.out.size _).grown hg6 (by have := HBX.out.size; simp; omega) (fun q hq => (rw_block hrow hq).1)⟩
              have HO6 : Sld (w6.ownsRow w.heap.size 3 1 (.slice (some ⟨g6, 0, none⟩) (ys.length + 1) cap6) (ys.length + 1) ((moA (0 : Int) ys ys.length).map (Value.int .i64))) := ⟨by rw [moA_start, List.map_append]; exact hown6⟩
              have hg6b : w.heap.size ≤ g6 := (rw_block HO6.out (b := g6) rfl).1
              obtain ⟨hc61, hc62⟩ : ys.length + 1 ≤ cap6 ∧ cap6 ≤ maxLen := by
                rcases hown6.2 with ⟨h7, _⟩ | ⟨g', cap', cur, h7, _, _, h8, h9, _⟩
                · cases h7
                · injection h7 with _ _ h7c
                  subst h7c
                  exact ⟨h8, h9⟩
              unfold maxLen at hc62
              clear hown6 hg6 hat6 hl6 hrow HOX HBX
              go_loopw [6] (fun q wq => ∃ p : Nat, j ≤ p ∧ p ≤ ys.length ∧ q = .int .i64 p ∧ wq.ownsRow w.heap.size 3 1 (.slice (some ⟨g6, 0, none⟩) (ys.length + 1) cap6) (ys.length + 1) ((moA (0 : Int) ys p).map (Value.int .i64)) ∧ Below w.heap.size w wq) (fun q _ => (RowKit.intOf q).toNat)
              case atStart => exact ⟨ys.length, by omega, by omega, by go_num, HO6.out, HB6.out⟩
              case round =>
                obtain ⟨p, hp1, hp2, rfl, hO, hB⟩ := hrel
                by_cases hpj : j < p
                · obtain ⟨p, rfl⟩ : ∃ z, p = z + 1 := ⟨p - 1, by omega⟩
                  have hml := moA_len (0 : Int) ys (p + 1) hp2
                  have hpy : p < ys.length := by omega
                  have e0 : wr.cell? ⟨g6, p, none⟩ = some (.int .i64 (ys.getD p 0)) := by
                    obtain ⟨u, h1, h2⟩ := rw_cell hO (i := p) (by omega)
                    rw [h1, ← h2, List.getElem?_map, moA_at (0 : Int) ys p hpy]
                    simp [hpy]
                  have f0 := rw_fro hO (p + 1)
                  obtain ⟨u, e1, _⟩ := rw_cell hO (i := p + 1) (by omega)
                  have HST : Sld ((wr.setCell ⟨g6, p + 1, none⟩ (.int .i64 (ys.getD p 0))).ownsRow w.heap.size 3 1 (.slice (some ⟨g6, 0, none⟩) (ys.length + 1) cap6) (ys.length + 1) ((moA (0 : Int) ys p).map (Value.int .i64))) := ⟨by
                    have := rw_put hO (p + 1) (.int .i64 (ys.getD p 0))
                    rw [← List.map_set, moA_set (0 : Int) ys p (ys.getD p 0) (by simp [hpy])] at this
                    exact this⟩
                  have HBs : Sld (Below w.heap.size w (wr.setCell ⟨g6, p + 1, none⟩ (.int .i64 (ys.getD p 0)))) := ⟨hB.setCell hg6b _⟩
                  clear hO hB
                  generalize ys.getD p 0 = s at *
                  have hpI : ((p + 1 : Nat) : Int) = (p : Int) + 1 := by omega
                  rw [hpI]
                  go_wp2_with fail
                  all_goals exact ⟨⟨p, by omega, by omega, by go_num, HST.out, HBs.out⟩, by simp [RowKit.intOf]⟩
                · have hpe : p = j := by omega
                  subst hpe
                  have hml := moA_len (0 : Int) ys p hp2
                  have d2 := HZC.out wr hB
                  have f0 := rw_fro hO p
                  obtain ⟨u, e1, _⟩ := rw_cell hO (i := p) (by omega)
                  have HST : Sld ((wr.setCell ⟨g6, p, none⟩ (.int .i64 z)).ownsRow w.heap.size 3 1 (.slice (some ⟨g6, 0, none⟩) (ys.length + 1) cap6) (ys.length + 1) ((ys.take p ++ z :: ys.drop p).map (Value.int .i64))) := ⟨by
                    have := rw_put hO p (.int .i64 z)
                    rw [← List.map_set, moA_end (0 : Int) ys z p hp2] at this
                    exact this⟩
                  have HBs : Sld (Below w.heap.size w (wr.setCell ⟨g6, p, none⟩ (.int .i64 z))) := ⟨hB.setCell hg6b _⟩
                  have hln : (ys.take p ++ z :: ys.drop p).length = ys.length + 1 := by simp; omega
                  have HLN := Sld.mk hln
                  clear hO hB hln
                  go_wp2_with fail
                  exact ⟨⟨k + 1, ys.take p ++ z :: ys.drop p, by omega, by go_num, HN, by have := HLN.out; omega, ⟨by unfold OwnI; rw [HLN.out]; exact HST.out⟩, HBs⟩, by simp [RowKit.intOf]; omega⟩
        · have hje : j = ys.length := by omega
          have HN : Sld (RkOk (zs.take (k + 1)) (ys.take j ++ z :: ys.drop j)) := ⟨by rw [HT.out]; exact HR.out.ins hj HLO.out (fun h => absurd h hjl)⟩
          have HOX : Sld (OwnI wr.drew.drew w.heap.size (.slice va ys.length vc) ys) := ⟨HOw.out.below (((Below.refl _ _).drew).drew)⟩
          have HBX : Sld (Below w.heap.size w wr.drew.drew) := ⟨(HBw.out.drew).drew⟩
          have hjI : ¬ ((j : Int) < (ys.length : Int)) := by omega
          clear hje
          go_wp2_with fail
          go_region
          go_wp2_with fail
          go_region
          generalize wr.drew.drew = wX at *
          have hrow : wX.ownsRow w.heap.size 3 1 (.slice va ys.length vc) ys.length (ys.map (Value.int .i64)) := HOX.out
          have hsx := HBX.out.size
          clear HR HO HB HLO HQ HBw HOw d0
          go_wp2_with (at_builtin; refine wpList_append_lies _ rfl (.tmp 45) (.tmp 46) 24 rfl w.heap.size 3 i0 (.int .i64 0) 1 8 Tryz.underlying24 hi0 hz0 hz1 hz2 rfl (by decide) _ _ _ rfl (hrow.alloc _) ⟨wX.heap.size, 0, none⟩ 1 1 [.int .i64 0] rfl rfl (cell_news_one _ _ _) (by simp [Value.oneCell']) (by omega) (by unfold maxLen; omega) (by omega) (by simp; omega) _ rfl ?_; intro g6 cap6 w6 hown6 hg6 hat6 hl6)
          have HB6 : Sld (Below w.heap.size w w6) := ⟨(HBX.out.alloc HBX.out.size _).grown hg6 (by have := HBX.out.size; simp; omega) (fun q hq => (rw_block hrow hq).1)⟩
          have HO6 : Sld (w6.ownsRow w.heap.size 3 1 (.slice (some ⟨g6, 0, none⟩) (ys.length + 1) cap6) (ys.length + 1) ((moA (0 : Int) ys ys.length).map (Value.int .i64))) := ⟨by rw [moA_start, List.map_append]; exact hown6⟩
          have hg6b : w.heap.size ≤ g6 := (rw_block HO6.out (b := g6) rfl).1
          obtain ⟨hc61, hc62⟩ : ys.length + 1 ≤ cap6 ∧ cap6 ≤ maxLen := by
            rcases hown6.2 with ⟨h7, _⟩ | ⟨g', cap', cur, h7, _, _, h8, h9, _⟩
            · cases h7
            · injection h7 with _ _ h7c
              subst h7c
              exact ⟨h8, h9⟩
          unfold maxLen at hc62
          clear hown6 hg6 hat6 hl6 hrow HOX HBX
          go_loopw [6] (fun q wq => ∃ p : Nat, j ≤ p ∧ p ≤ ys.length ∧ q = .int .i64 p ∧ wq.ownsRow w.heap.size 3 1 (.slice (some ⟨g6, 0, none⟩) (ys.length + 1) cap6) (ys.length + 1) ((moA (0 : Int) ys p).map (Value.int .i64)) ∧ Below w.heap.size w wq) (fun q _ => (RowKit.intOf q).toNat)
          case atStart => exact ⟨ys.length, by omega, by omega, by go_num, HO6.out, HB6.out⟩
          case round =>
            obtain ⟨p, hp1, hp2, rfl, hO, hB⟩ := hrel
            by_cases hpj : j < p
            · obtain ⟨p, rfl⟩ : ∃ z, p = z + 1 := ⟨p - 1, by omega⟩
              have hml := moA_len (0 : Int) ys (p + 1) hp2
              have hpy : p < ys.length := by omega
              have e0 : wr.cell? ⟨g6, p, none⟩ = some (.int .i64 (ys.getD p 0)) := by
                obtain ⟨u, h1, h2⟩ := rw_cell hO (i := p) (by omega)
                rw [h1, ← h2, List.getElem?_map, moA_at (0 : Int) ys p hpy]
                simp [hpy]
              have f0 := rw_fro hO (p + 1)
              obtain ⟨u, e1, _⟩ := rw_cell hO (i := p + 1) (by omega)
              have HST : Sld ((wr.setCell ⟨g6, p + 1, none⟩ (.int .i64 (ys.getD p 0))).ownsRow w.heap.size 3 1 (.slice (some ⟨g6, 0, none⟩) (ys.length + 1) cap6) (ys.length + 1) ((moA (0 : Int) ys p).map (Value.int .i64))) := ⟨by
                have := rw_put hO (p + 1) (.int .i64 (ys.getD p 0))
                rw [← List.map_set, moA_set (0 : Int) ys p (ys.getD p 0) (by simp [hpy])] at this
                exact this⟩
              have HBs : Sld (Below w.heap.size w (wr.setCell ⟨g6, p + 1, none⟩ (.int .i64 (ys.getD p 0)))) := ⟨hB.setCell hg6b _⟩
              clear hO hB
              generalize ys.getD p 0 = s at *
              have hpI : ((p + 1 : Nat) : Int) = (p : Int) + 1 := by omega
              rw [hpI]
              go_wp2_with fail
              all_goals exact ⟨⟨p, by omega, by omega, by go_num, HST.out, HBs.out⟩, by simp [RowKit.intOf]⟩
            · have hpe : p = j := by omega
              subst hpe
              have hml := moA_len (0 : Int) ys p hp2
              have d2 := HZC.out wr hB
              have f0 := rw_fro hO p
              obtain ⟨u, e1, _⟩ := rw_cell hO (i := p) (by omega)
              have HST : Sld ((wr.setCell ⟨g6, p, none⟩ (.int .i64 z)).ownsRow w.heap.size 3 1 (.slice (some ⟨g6, 0, none⟩) (ys.length + 1) cap6) (ys.length + 1) ((ys.take p ++ z :: ys.drop p).map (Value.int .i64))) := ⟨by
                have := rw_put hO p (.int .i64 z)
                rw [← List.map_set, moA_end (0 : Int) ys z p hp2] at this
                exact this⟩
              have HBs : Sld (Below w.heap.size w (wr.setCell ⟨g6, p, none⟩ (.int .i64 z))) := ⟨hB.setCell hg6b _⟩
              have hln : (ys.take p ++ z :: ys.drop p).length = ys.length + 1 := by simp; omega
              have HLN := Sld.mk hln
              clear hO hB hln
              go_wp2_with fail
              exact ⟨⟨k + 1, ys.take p ++ z :: ys.drop p, by omega, by go_num, HN, by have := HLN.out; omega, ⟨by unfold OwnI; rw [HLN.out]; exact HST.out⟩, HBs⟩, by simp [RowKit.intOf]; omega⟩
    · have hke : k = zs.length := by omega
      subst hke
      have HE : Sld (RkOk zs ys) := ⟨by have := HR.out; rwa [List.take_length] at this⟩
      go_wp2_with fail
      go_ret
      exact ⟨_, ys, rfl, HO.out, HE.out, HB.out⟩
end Go.Proofs.YtlbmijcpalfaeaaGreatDoor

set_option linter.unusedSimpArgs false
set_option linter.unusedVariables false
namespace Go.Proofs.YtlbmijcpalfaeaaGreatDoor.Gt
open Go.RowKit Go.Lib

def G00 : Gs := ⟨.slice none 0 0, .map none, .slice none 0 0, .slice none 0 0, 0, 0, [], [], []⟩
theorem GrM.start (w : World) : GrM (w.alloc (.cells #[.slice none 0 0, .map none, .slice none 0 0, .int .i64 0, .int .i64 0, .slice none 0 0] 90)) w.heap.size G00 := by
  refine ⟨@TbM.mk G00.gr _ _ _ _ _ (Deep.blk_alloc_new _ _) (World.ownsRow_nil _ _ _ _) (.inl ⟨rfl, rfl⟩) TbI.nil (fun x hx => by cases hx), World.ownsRow_nil _ _ _ _, ?_, Nat.le_refl _⟩
  exact ⟨fun r hr => by
    simp [seRows, G00] at hr
    subst hr
    exact OwnI_nil _ _, by simp [seRows, G00]⟩
set_option maxHeartbeats 1000000 in
theorem gnew_any (w : World) : Calls Tryz.prog 40 #[] w fun e w' => e = .returned (.pointer (some ⟨w.heap.size, 0, none⟩)) ∧ w' = w.alloc (.cells #[.slice none 0 0, .map none, .slice none 0 0, .int .i64 0, .int .i64 0, .slice none 0 0] 90) := by
  go_enter Tryz.func40, Tryz.ntmps40
  go_wp2_with fail
  go_ret
  exact ⟨rfl, rfl⟩
set_option maxRecDepth 20000 in
set_option maxHeartbeats 2000000 in
theorem clone_any (w : World) (ra : Option Addr) (rc : Nat) (rs : List Int) (hr : Ints w w.heap.size (.slice ra rs.length rc) rs) (hrw : rs.length * 8 ≤ 140737488355328) : Calls Tryz.prog 43 #[.slice ra rs.length rc] w fun e w' => (∃ a n c, e = .returned (.slice a n c)) ∧ Below w.heap.size w w' := by
  obtain ⟨i0, hi0, hz0, hz1, hz2⟩ := info_parts Tryz.infoI3
  have hnil := eql_nil
  cases ra with
  | none =>
    go_enter Tryz.func43, Tryz.ntmps43
    go_wp2_with fail
    go_ret
    exact ⟨⟨_, _, _, rfl⟩, Below.refl _ _⟩
  | some ad =>
    have hb0 : Below w.heap.size w (w.alloc (.cells #[] 3)) := (Below.refl w.heap.size w).alloc (Nat.le_refl _) _
    have HR := Sld.mk (hr.below hb0 hb0.size)
    have HS : Sld (∀ j u, (rs.map (Value.int .i64))[j]? = some u → (w.alloc (.cells #[] 3)).cell? (ad.add j) = some u) := ⟨fun j u hu => by
      rw [List.getElem?_map] at hu
      obtain ⟨z, hz, rfl⟩ := Option.map_eq_some_iff.1 hu
      obtain ⟨hl', e'⟩ := List.getElem?_eq_some_iff.1 hz
      obtain ⟨b', o', e, _, hcell⟩ := HR.out.cellK hl'
      injection e with e
      subst e
      rw [Go.WideShapes.add_plain, hcell]
      simp [hl', e']⟩
    have HO : Sld ((w.alloc (.cells #[] 3)).ownsRow w.heap.size 3 1 (.slice (some ⟨w.heap.size, 0, none⟩) 0 0) 0 []) := ⟨World.ownsRow_made w #[] 0 (Nat.le_refl _) (Nat.zero_le _) (by simp)⟩
    have HL : Sld ((rs.map (Value.int .i64)).length = rs.length * 1) := ⟨by simp⟩
    have H1 : Sld (∀ u ∈ rs.map (Value.int .i64), u.oneCell' = true) := ⟨fun u hu => by
      obtain ⟨x, _, rfl⟩ := List.mem_map.1 hu; rfl⟩
    obtain ⟨_, hrc1, hrc2⟩ := hr.bnd
    have HM : Sld (0 + rs.length ≤ maxLen) := ⟨by unfold maxLen; omega⟩
    clear hr hb0
    go_enter Tryz.func43, Tryz.ntmps43
    go_wp2_with (at_builtin; refine wpList_append_own _ rfl _ _ 24 rfl w.heap.size 3 i0 (.int .i64 0) 1 8 Tryz.underlying24 hi0 hz0 hz1 hz2 rfl (by decide) _ _ _ rfl HO.out ad rs.length rc (rs.map (Value.int .i64)) rfl HL.out HS.out H1.out HM.out (by omega) (by simp) ?_; intro v' w1 hown hgrow _)
    obtain ⟨sa, sn, sc, rfl⟩ : ∃ a n c, v' = .slice a n c := by
      rcases hown.2 with ⟨rfl, _⟩ | ⟨g, cap, cur, rfl, _⟩
      · exact ⟨_, _, _, rfl⟩
      · exact ⟨_, _, _, rfl⟩
    go_ret
    exact ⟨⟨_, _, _, rfl⟩, ((Below.refl w.heap.size w).alloc (Nat.le_refl _) _).grown hgrow (by simp) (fun k hk => by have e : some w.heap.size = some k := hk; cases e; exact Nat.le_refl _)⟩
theorem Ints.far {w : World} {B : Nat} {ka : Option Addr} {n kc : Nat} {ks : List Int} (h : Ints w B (.slice ka n kc) ks) {b o : Nat} (hk : ka = some ⟨b, o, none⟩) (hn : ks ≠ []) : b < B := by
  obtain ⟨ao, cap, e, _, _, h2⟩ := h
  injection e with e _ _
  rcases h2 with h2 | ⟨b', o', h2, hl, _⟩
  · exact absurd h2 hn
  · rw [hk, h2] at e
    injection e with e
    injection e with e _ _
    omega
theorem seat_both {w : World} {p : Nat} {G : Gs} (h : GrM w p G) (hT : SpanCells w) (x : Nd) (ka : Option Addr) (kc : Nat) (hv : NdV w x ka kc) (hap : ∀ b o, ka = some ⟨b, o, none⟩ → x.kids ≠ [] → ¬ GrS p G b) (c : Int) (hc : c = -1 ∨ ∃ k : Nat, c = (k : Int) ∧ k < G.ss.length) (hB : GsB G) :
    Calls Tryz.prog 41 #[.pointer (some ⟨p, 0, none⟩), .agg #[.int .i64 x.op, .int .i64 x.n, .string x.name, .slice ka x.kids.length kc], .int .i64 c] w fun e w' => e = .returned (.tuple #[.int .i64 ((ptR G.L x).1 : Nat), .int .i64 (ptR G.L x).2.1]) ∧ ∃ G', GrT w p G G' w' ∧ SeatR G x c G' := by
  by_cases he : (ptR G.L x).2.1 = 0
  · cases hs : knG G.ss (ptR G.L x).1 with
    | true => exact seat_same h hT x ka kc hv c (.inr hs)
    | false => exact seat_new h hT x ka kc hv hap c hc hB he hs
  · exact seat_same h hT x ka kc hv c (.inl he)
end Go.Proofs.YtlbmijcpalfaeaaGreatDoor.Gt
