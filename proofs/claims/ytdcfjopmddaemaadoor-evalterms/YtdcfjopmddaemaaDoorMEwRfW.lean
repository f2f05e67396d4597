/-
  Value, Eval, Trap of the document, walked.
-/
import Derived.Test.YtdcfjopmddaemaaDoorMGF
import Derived.Test.YtdcfjopmddaemaaDoorMGH
set_option linter.unusedSimpArgs false
set_option linter.unusedVariables false
namespace Go.Proofs.YtdcfjopmddaemaaDoor
open Go.RowKit Go.Lib

theorem apR_zero {op : Int} {l : List Int} (h : (apR op l).2 ≠ 0) : (apR op l).1 = 0 := by
  unfold apR at h ⊢
  split
  · split <;> simp_all
  · split
    · split
      · rfl
      · simp_all
    · rfl
  · split <;> simp_all
  · rfl
theorem apR_in {op : Int} {l : List Int} (hl : ∀ x ∈ l, i6 x) : i6 (apR op l).1 := by
  have z : i6 0 := by unfold i6; omega
  unfold apR
  split
  · split
    · exact ap1_in _ _
    · exact z
  · split
    · split
      · exact z
      · exact ap2_in (hl _ (by simp)) (hl _ (by simp))
    · exact z
  · split
    · split <;> exact hl _ (by simp)
    · exact z
  · exact z
theorem getN_in {bs : List Bd} (h : BdOk bs) (nm : ByteArray) : ∀ k, i6 (getN bs nm k)
  | 0 => by simp [getN, i6]
  | k + 1 => by unfold getN; split; exact (h.getD k).1; exact getN_in h nm k
/-- All numbers are of 64 bits. -/
theorem vA_in {bs : List Bd} {l : List Nd} (h : KidsUp l) (hb : BdOk bs) (hn : ∀ x ∈ l, i6 x.n) : ∀ i, i < l.length → i6 ((vA bs l i).getD 0) := by
  intro i
  induction i using Nat.strongRecOn with
  | _ i ih =>
    intro hi
    rw [vA_at h hi]
    have hx : i6 (l.getD i nd0).n := hn _ (by simp [hi])
    have hk := h i hi
    generalize l.getD i nd0 = x at *
    unfold vlN
    split
    · exact hx
    · split
      · exact getN_in hb _ _
      · have z : i6 0 := by unfold i6; omega
        cases ha : argsO (vt bs l) x.kids with
        | none => exact z
        | some a =>
          rw [Option.bind_some]
          unfold apO
          split
          · refine apR_in (fun y hy => ?_)
            have key : ∀ (ks : List Int) (a : List Int), argsO (vt bs l) ks = some a → (∀ k ∈ ks, 0 ≤ k ∧ k < (i : Int)) → ∀ y ∈ a, i6 y := by
              intro ks
              induction ks with
              | nil => intro a h _ y hy; cases h; simp at hy
              | cons k ks ihk =>
                intro a h hks y hy
                simp only [argsO] at h
                rw [Option.bind_eq_some_iff] at h
                obtain ⟨v, h1, h2⟩ := h
                rw [Option.map_eq_some_iff] at h2
                obtain ⟨r, h3, rfl⟩ := h2
                rcases List.mem_cons.1 hy with rfl | hy
                · have hkk := hks k (by simp)
                  have := ih k.toNat (by omega) (by omega)
                  unfold vA at this
                  rw [h1] at this
                  exact this
                · exact ihk r h3 (fun k hk => hks k (by simp [hk])) y hy
            exact key _ a ha hk y hy
          · exact z

set_option maxRecDepth 20000 in
set_option maxHeartbeats 2000000 in
theorem refValue_any {ao : Option Addr} {cap : Nat} {l : List Nd} {eo : Option Addr} {ec : Nat} {bs : List Bd} {fr : List Nat} (hb : begL l = some fr) (hbs : BdOk bs) (hnum : ∀ x ∈ l, i6 x.n) : ∀ (i : Nat), i < l.length → ∀ (w : World), Rd w ao cap l → Bds w eo ec bs →
    Calls Tryd.prog 55 #[.slice ao l.length cap, .int .i64 i, .slice eo bs.length ec] w fun e w' => e = .returned (.tuple #[.int .i64 ((vA bs l i).getD 0), .bool (vA bs l i).isSome]) ∧ Below w.heap.size w w' := by
  intro i
  induction i using Nat.strongRecOn with
  | ind i IH =>
    intro hi w hR hB
    obtain ⟨i0, hi0, hz0, hz1, hz2⟩ := info_parts Tryd.infoL2
    have h64 := (begL_some hb).2.1
    have hbo := begOk_of (begL_some hb).2.2.1
    have hku := hbo.kidsUp i hi
    have hform := (hbo.at_ i hi).1
    have hva := vA_at (bs := bs) hbo.kidsUp hi
    have hk3 := formB_kids hform
    have HIN : Hid (∀ j, j < l.length → i6 ((vA bs l j).getD 0)) := vA_in hbo.kidsUp hbs hnum
    have HIH : Hid (∀ j, j < i → j < l.length → ∀ (w : World), Rd w ao cap l → Bds w eo ec bs → Calls Tryd.prog 55 #[.slice ao l.length cap, .int .i64 j, .slice eo bs.length ec] w fun e w' => e = .returned (.tuple #[.int .i64 ((vA bs l j).getD 0), .bool (vA bs l j).isSome]) ∧ Below w.heap.size w w') := IH
    clear IH hbs hnum
    have HR : Hid (Rd w ao cap l) := hR
    have HB : Hid (Bds w eo ec bs) := hB
    obtain ⟨ao', cap', h1, hl, hm, hc⟩ := hR
    cases h1
    unfold maxLen at hm
    obtain ⟨b, o, rfl, hbl, hc⟩ : ∃ b o, ao = some ⟨b, o, none⟩ ∧ b < w.heap.size ∧ ∀ i, i < l.length → ∃ kv, NodeAt w w.heap.size b (o + i * 4) (l.getD i nd0) kv := by
      rcases hc with h | h
      · subst h; simp at hi
      · exact h
    obtain ⟨kv, c0, c1, c2, c3, hki⟩ := hc i hi
    clear hc hB
    obtain ⟨ka, kc, rfl, hkl, ⟨hkm, _⟩, hkc⟩ := id hki
    unfold maxLen at hkm
    generalize l.getD i nd0 = x at *
    obtain ⟨op, n, nm, ks⟩ := x
    simp only at c0 c1 c2 c3 hki hku hk3 hva hkl hkc
    have HKC : Hid (ks = [] ∨ ∃ b o, ka = some ⟨b, o, none⟩ ∧ b < w.heap.size ∧ ∀ j, j < ks.length → w.cell? ⟨b, o + j, none⟩ = some (.int .i64 (ks.getD j 0))) := hkc
    have HKU : Hid (∀ k ∈ ks, 0 ≤ k ∧ k < (i : Int)) := hku
    have hb1 : Below w.heap.size w (w.alloc (.cells #[.int .i64 op, .int .i64 n, .string nm, .slice ka ks.length kc] 62)) := (Below.refl _ _).alloc (Nat.le_refl _) _
    have HB1 : Hid (Below w.heap.size w (w.alloc (.cells #[.int .i64 op, .int .i64 n, .string nm, .slice ka ks.length kc] 62))) := hb1
    have hE0 : (w.alloc (.cells #[.int .i64 op, .int .i64 n, .string nm, .slice ka ks.length kc] 62)).cell? ⟨w.heap.size, 0, none⟩ = some (.int .i64 op) := by simp
    have hE3 : (w.alloc (.cells #[.int .i64 op, .int .i64 n, .string nm, .slice ka ks.length kc] 62)).cell? ⟨w.heap.size, 3, none⟩ = some (.slice ka ks.length kc) := by simp
    have hsz1 : (w.alloc (.cells #[.int .i64 op, .int .i64 n, .string nm, .slice ka ks.length kc] 62)).heap.size = w.heap.size + 1 := by simp
    have hiI : (i : Int) < (l.length : Int) := by omega
    have HVA : Hid (vA bs l i = vlN bs (vt bs l) ⟨op, n, nm, ks⟩) := hva
    clear hva hkc hku hki hb1 hform
    by_cases o1 : op = 1
    · subst o1
      have e : vA bs l i = some n := by rw [HVA.out]; rfl
      rw [e]
      clear HVA e HIH HIN hE0 hE3
      go_enter Tryd.func55, Tryd.ntmps55
      go_wp2_with fail
      go_ret2
      exact ⟨rfl, HB1.out⟩
    · have g1 : (op == 1) = false := by simp [o1]
      by_cases o2 : op = 2
      · subst o2
        have e : vA bs l i = some (getB bs nm) := by rw [HVA.out]; rfl
        rw [e]
        clear HVA e HIH HIN hE0 hE3
        go_enter Tryd.func55, Tryd.ntmps55
        go_wp2_with fail
        refine (refGet_any eo ec bs nm _ (HB.out.below HB1.out)).mono ?_
        rintro e w2 ⟨rfl, rfl⟩
        go_wp2_with fail
        go_ret2
        exact ⟨rfl, HB1.out⟩
      · have g2 : (op == 2) = false := by simp [o2]
        have HV2 : Hid (vA bs l i = (argsO (vt bs l) ks).bind (apO op)) := by rw [Hid, HVA.out]; show (if op = 1 then _ else if op = 2 then _ else _) = _; rw [if_neg o1, if_neg o2]
        clear HVA o1 o2
        obtain ⟨Z, hZ⟩ : ∃ Z, vA bs l i = Z := ⟨_, rfl⟩
        rw [hZ]
        have HZ : Hid (Z = (argsO (vt bs l) ks).bind (apO op)) := hZ.symm.trans HV2.out
        clear hZ HV2
        go_enter Tryd.func55, Tryd.ntmps55
        go_wp2_with fail
        go_loopw [9, 10] (fun v q wr => ∃ j : Nat, j ≤ ks.length ∧ q = .int .i64 j ∧ (∀ k ∈ ks.take j, vA bs l k.toNat ≠ none) ∧ wr.ownsRow (w.heap.size + 1) 2 1 v j (((ks.take j).map fun k => (vA bs l k.toNat).getD 0).map (Value.int .i64)) ∧ Below (w.heap.size + 1) (w.alloc (.cells #[.int .i64 op, .int .i64 n, .string nm, .slice ka ks.length kc] 62)) wr) (fun _ q _ => ks.length - (RowKit.intOf q).toNat)
        case atStart => exact ⟨0, by omega, rfl, by simp, World.ownsRow_nil _ _ _ _, Below.refl _ _⟩
        case round =>
          obtain ⟨j, hj, rfl, hall, hown, hBr⟩ := hrel
          have hBw : Below w.heap.size w wr := HB1.out.trans (hBr.mono (by omega))
          have e0r : wr.cell? ⟨w.heap.size, 0, none⟩ = some (.int .i64 op) := (hBr.cell (p := ⟨w.heap.size, 0, none⟩) (by show w.heap.size < w.heap.size + 1; omega)).trans hE0
          have e3r : wr.cell? ⟨w.heap.size, 3, none⟩ = some (.slice ka ks.length kc) := (hBr.cell (p := ⟨w.heap.size, 3, none⟩) (by show w.heap.size < w.heap.size + 1; omega)).trans hE3
          have hszr : w.heap.size + 1 ≤ wr.heap.size := by have := hBr.size; omega
          have HBR : Hid (Below (w.heap.size + 1) (w.alloc (.cells #[.int .i64 op, .int .i64 n, .string nm, .slice ka ks.length kc] 62)) wr) := hBr
          have HBW : Hid (Below w.heap.size w wr) := hBw
          have HALL : Hid (∀ k ∈ ks.take j, vA bs l k.toNat ≠ none) := hall
          obtain ⟨va, vc, rfl⟩ := row_form' hown
          have HOWN : Hid (wr.ownsRow (w.heap.size + 1) 2 1 (.slice va j vc) j (((ks.take j).map fun k => (vA bs l k.toNat).getD 0).map (Value.int .i64))) := hown
          clear hBr hBw hall hown
          by_cases hjl : j < ks.length
          · obtain ⟨kb, ko, rfl, hkb, hkc⟩ : ∃ b o, ka = some ⟨b, o, none⟩ ∧ b < w.heap.size ∧ ∀ j, j < ks.length → w.cell? ⟨b, o + j, none⟩ = some (.int .i64 (ks.getD j 0)) := by
              rcases HKC.out with h | h
              · subst h; simp at hjl
              · exact h
            have hcj := (HBW.out.cell (p := ⟨kb, ko + j, none⟩) hkb).trans (hkc j hjl)
            obtain ⟨hy0, hy1⟩ := HKU.out (ks.getD j 0) (by simp [hjl])
            have HTK : Hid (ks.take (j + 1) = ks.take j ++ [ks.getD j 0]) := by
              rw [Hid, List.take_succ_eq_append_getElem hjl]; simp [hjl]
            have HMEM : Hid (ks.getD j 0 ∈ ks) := by rw [Hid]; simp [hjl]
            clear hkc HKC
            generalize ks.getD j 0 = y at *
            obtain ⟨y, rfl⟩ : ∃ z : Nat, y = (z : Int) := ⟨y.toNat, by omega⟩
            have HI := HIH.out y (by omega) (by omega) wr (HR.out.below HBW.out HBW.out.size) (HB.out.below HBW.out)
            have hjI : (j : Int) < (ks.length : Int) := by omega
            cases hv : vA bs l y with
            | none =>
              rw [hv] at HI
              have HZN : Hid (Z = none) := by
                rw [Hid, HZ.out, argsO_none _ (y : Int) HMEM.out (by rw [Int.toNat_natCast]; exact hv)]; rfl
              obtain rfl := HZN.out
              have HI2 : Hid (Calls Tryd.prog 55 #[.slice (some ⟨b, o, none⟩) l.length cap, .int .i64 y, .slice eo bs.length ec] wr fun e w' => e = .returned (.tuple #[.int .i64 0, .bool false]) ∧ Below wr.heap.size wr w') := HI
              clear HI hv HZ
              go_wp2_with fail
              refine HI2.out.mono ?_
              rintro e w' ⟨rfl, hb'⟩
              have HBE : Hid (Below w.heap.size w w') := HBW.out.trans (hb'.mono HBW.out.size)
              clear hb' HI2
              go_wp2_with fail
              go_ret2
              exact ⟨rfl, HBE.out⟩
            | some z =>
              rw [hv] at HI
              have HI2 : Hid (Calls Tryd.prog 55 #[.slice (some ⟨b, o, none⟩) l.length cap, .int .i64 y, .slice eo bs.length ec] wr fun e w' => e = .returned (.tuple #[.int .i64 z, .bool true]) ∧ Below wr.heap.size wr w') := HI
              have HVY : Hid (vA bs l y = some z) := hv
              clear HI hv
              go_wp2_with fail
              refine HI2.out.mono ?_
              rintro e w' ⟨rfl, hb'⟩
              have hown2 := ownsRow_below HOWN.out hb'
              have hsz2 := hb'.size
              have HB2 : Hid (Below wr.heap.size wr w') := hb'
              have e3' : w'.cell? ⟨w.heap.size, 3, none⟩ = some (.slice (some ⟨kb, ko, none⟩) ks.length kc) := (hb'.cell (p := ⟨w.heap.size, 3, none⟩) (by show w.heap.size < wr.heap.size; omega)).trans e3r
              clear hb' HI2 HOWN e0r e3r hcj
              go_wp2_with (at_builtin; refine wpList_append_lies _ rfl (.tmp 51) (.tmp 53) 105 rfl (w.heap.size + 1) 2 i0 (.int .i64 0) 1 8 Tryd.underlying105 hi0 hz0 hz1 hz2 rfl (by decide) _ _ _ (by simp [Act.eval, Act.put]) (hown2.alloc _) ⟨w'.heap.size, 0, none⟩ 1 1 [.int .i64 z] (by simp [Act.eval, Act.put]) rfl (cell_news_one w' _ _) (by simp [Value.oneCell']) (by omega) (by unfold maxLen; omega) (by omega) (by simp; omega) _ rfl ?_; intro g6 cap6 w6 hown6 hg6 hat6 hl6)
              have hB6 : Below (w.heap.size + 1) (w.alloc (.cells #[.int .i64 op, .int .i64 n, .string nm, .slice (some ⟨kb, ko, none⟩) ks.length kc] 62)) w6 := by
                have b1 := (HBR.out.trans (HB2.out.mono (by omega))).trans (((Below.refl w'.heap.size w').alloc (Nat.le_refl _) (.cells #[.int .i64 z] 2)).mono (by omega))
                exact b1.grown hg6 (by rw [World.size_alloc]; omega) (fun j hj => by have := (own_block' hown2 j hj).1; omega)
              refine ⟨⟨j + 1, by omega, by go_num, ?_, ?_, hB6⟩, by simp [RowKit.intOf]; omega⟩
              · rw [HTK.out]
                intro k hk
                rcases List.mem_append.1 hk with hk | hk
                · exact HALL.out k hk
                · simp at hk; subst hk; rw [Int.toNat_natCast, HVY.out]; simp
              · rw [HTK.out, List.map_append, List.map_append]
                simp only [List.map_cons, List.map_nil, Int.toNat_natCast, HVY.out, Option.getD_some]
                exact hown6
          · have hje : j = ks.length := by omega
            subst hje
            have hta : ks.take ks.length = ks := List.take_length
            have hal := HALL.out
            have how := HOWN.out
            rw [hta] at hal how
            have HZ2 : Hid (Z = apO op (ks.map fun k => (vA bs l k.toNat).getD 0)) := by
              rw [Hid, HZ.out, argsO_all ks (fun k hk => hal k hk)]; rfl
            have hAg : Ags wr (.slice va ks.length vc) (ks.map fun k => (vA bs l k.toNat).getD 0) := by
              refine ⟨va, vc, by rw [List.length_map], ?_⟩
              rcases how.2 with ⟨h0, h1⟩ | ⟨g, cp, cur, hve, _⟩
              · left; simp [List.length_eq_zero_iff.1 h1]
              · right
                have hva : va = some ⟨g, 0, none⟩ := by cases hve; rfl
                refine ⟨g, 0, hva, fun q x hq => ?_⟩
                have := how.cells (g := g) (by rw [hva]; rfl) q (.int .i64 x) (by rw [List.getElem?_map, hq]; rfl)
                have e0 : (⟨g, 0, none⟩ : Addr).add q = ⟨g, 0 + q, none⟩ := by rw [Go.WideShapes.add_plain]
                rw [e0] at this
                exact this
            have cA := refApply_any op _ _ wr hAg (fun x hx => by
              obtain ⟨k, hk, rfl⟩ := List.mem_map.1 hx
              have := HKU.out k hk
              exact HIN.out k.toNat (by omega))
            generalize (ks.map fun k => (vA bs l k.toNat).getD 0) = args at *
            have hz := @apR_zero op args
            unfold apO at HZ2
            generalize apR op args = R at *
            obtain ⟨r, er⟩ := R
            simp only at HZ2 cA hz
            have HCA : Hid (Calls Tryd.prog 75 #[.int .i64 op, .slice va ks.length vc] wr fun e w' => e = .returned (.tuple #[.int .i64 r, .int .i64 er]) ∧ ∃ m, w' = wr.drewN m) := cA
            have HZ3 : Hid (er ≠ 0 → r = 0) := hz
            clear HZ cA hal how hta HALL HOWN hAg HIN HIH hz
            go_wp2_with fail
            refine HCA.out.mono ?_
            rintro e w' ⟨rfl, m, rfl⟩
            go_wp2_with fail
            go_ret2
            refine ⟨?_, HBW.out.trans ⟨rfl, rfl, rfl, Nat.le_refl _, fun _ _ => rfl⟩⟩
            rw [HZ2.out]
            by_cases her : er = 0
            · rw [if_pos her, her]; rfl
            · rw [if_neg her, HZ3.out her, show (er == 0) = false by simp [her] ]; rfl

set_option maxRecDepth 20000 in
set_option maxHeartbeats 1000000 in
theorem refEval_any {w : World} {ao : Option Addr} {cap : Nat} {l : List Nd} {eo : Option Addr} {ec : Nat} {bs : List Bd} (h : EvIn w ao cap l eo ec bs) (hF : Fit l) (hbs : BdOk bs) (hnum : ∀ x ∈ l, i6 x.n) :
    Calls Tryd.prog 31 #[.slice ao l.length cap, .slice eo bs.length ec] w fun e w' => e = .returned (.tuple #[.int .i64 (evA bs l).1, .int .i64 (evA bs l).2]) ∧ Below w.heap.size w w' := by
  have hR := h.R
  have hcap := hR.bound
  unfold maxLen at hcap
  cases hb : begL l with
  | none =>
    have hE : evA bs l = (0, 1) := by unfold evA; rw [sndW_none hb]; rfl
    have hchk : chkE l = 1 := by unfold chkE; rw [sndW_none hb]; rfl
    rw [hE]
    clear h hE
    go_enter Tryd.func31, Tryd.ntmps31
    go_wp2_with fail
    refine (rchkR hR hF _ hchk).mono ?_
    rintro e w2 ⟨rfl, hb2⟩
    go_wp2_with fail
    go_ret2
    exact ⟨rfl, hb2⟩
  | some fr =>
    have hE : evA bs l = match vA bs l (l.length - 1) with | some v => (v, 0) | none => (0, 12) := by unfold evA; rw [sndW_some hb]; rfl
    have hchk : chkE l = 0 := by unfold chkE; rw [sndW_some hb]; rfl
    rw [hE]
    have h64 := (begL_some hb).2.1
    have hl0 := (begL_some hb).1
    have HV : Hid (∀ V, Below w.heap.size w V → Calls Tryd.prog 55 #[.slice ao l.length cap, .int .i64 ((l.length : Int) - 1), .slice eo bs.length ec] V fun e w' => e = .returned (.tuple #[.int .i64 ((vA bs l (l.length - 1)).getD 0), .bool (vA bs l (l.length - 1)).isSome]) ∧ Below V.heap.size V w') := fun V hV => by
      have := refValue_any (ao := ao) (cap := cap) (eo := eo) (ec := ec) hb hbs hnum (l.length - 1) (by omega) V (h.below hV).R (h.below hV).B
      rw [show (((l.length - 1 : Nat)) : Int) = (l.length : Int) - 1 by omega] at this
      exact this
    have HH : Hid (EvIn w ao cap l eo ec bs) := h
    clear h hE hb
    generalize vA bs l (l.length - 1) = V0 at *
    cases V0 with
    | none =>
      go_enter Tryd.func31, Tryd.ntmps31
      go_wp2_with fail
      refine (rchkR hR hF _ hchk).mono ?_
      rintro e w2 ⟨rfl, hb2⟩
      have HB2 : Hid (Below w.heap.size w w2) := hb2
      clear hb2
      go_wp2_with fail
      refine (HV.out w2 HB2.out).mono ?_
      rintro e w3 ⟨rfl, hb3⟩
      have HB3 : Hid (Below w.heap.size w w3) := HB2.out.trans (hb3.mono HB2.out.size)
      clear hb3
      go_wp2_with fail
      go_ret2
      exact ⟨rfl, HB3.out⟩
    | some v =>
      go_enter Tryd.func31, Tryd.ntmps31
      go_wp2_with fail
      refine (rchkR hR hF _ hchk).mono ?_
      rintro e w2 ⟨rfl, hb2⟩
      have HB2 : Hid (Below w.heap.size w w2) := hb2
      clear hb2
      go_wp2_with fail
      refine (HV.out w2 HB2.out).mono ?_
      rintro e w3 ⟨rfl, hb3⟩
      have HB3 : Hid (Below w.heap.size w w3) := HB2.out.trans (hb3.mono HB2.out.size)
      clear hb3
      go_wp2_with fail
      go_ret2
      exact ⟨rfl, HB3.out⟩

end Go.Proofs.YtdcfjopmddaemaaDoor
