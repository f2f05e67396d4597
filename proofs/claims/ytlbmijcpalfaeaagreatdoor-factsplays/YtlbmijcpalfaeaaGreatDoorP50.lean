/-
  StrMem, FaO, FcSd, ArLw.
-/
import Derived.Test.YtlbmijcpalfaeaaGreatDoorP49
import Derived.Lib.QuietBelow
set_option linter.unusedSimpArgs false
set_option linter.unusedVariables false
namespace Go.Proofs.YtlbmijcpalfaeaaGreatDoor
open Go.RowKit Go.Lib

/-- The slice reads as the texts qs. -/
def Strs (w : World) (ao : Option Addr) (cap : Nat) (qs : List ByteArray) : Prop :=
  qs.length ≤ cap ∧ cap ≤ maxLen ∧ (qs = [] ∨ ∃ b o, ao = some ⟨b, o, none⟩ ∧ b < w.heap.size ∧ ∀ j, j < qs.length → w.cell? ⟨b, o + j, none⟩ = some (.string (qs.getD j ⟨#[]⟩)))
theorem Strs.below {w w' : World} {ao : Option Addr} {cap : Nat} {qs : List ByteArray} (h : Strs w ao cap qs) (hb : Below w.heap.size w w') : Strs w' ao cap qs := by
  obtain ⟨h1, h2, h3⟩ := h
  refine ⟨h1, h2, ?_⟩
  rcases h3 with h3 | ⟨b, o, e, hlt, hc⟩
  · exact .inl h3
  · exact .inr ⟨b, o, e, Nat.lt_of_lt_of_le hlt hb.size, fun j hj => (hb.cell (p := ⟨b, o + j, none⟩) hlt).trans (hc j hj)⟩
theorem Strs.same {w w' : World} {ao : Option Addr} {cap : Nat} {qs : List ByteArray} (h : Strs w ao cap qs) (hs : w.heap.size ≤ w'.heap.size) (hb : ∀ b : Nat, b < w.heap.size → w'.heap[b]? = w.heap[b]?) : Strs w' ao cap qs := by
  obtain ⟨h1, h2, h3⟩ := h
  refine ⟨h1, h2, ?_⟩
  rcases h3 with h3 | ⟨b, o, e, hlt, hc⟩
  · exact .inl h3
  · exact .inr ⟨b, o, e, by omega, fun j hj => (World.cell?_of_block (a := ⟨b, o + j, none⟩) (hb b hlt)).trans (hc j hj)⟩

theorem Strs.cell {w : World} {ao : Option Addr} {cap : Nat} {qs : List ByteArray} (h : Strs w ao cap qs) {j : Nat} (hj : j < qs.length) : ∃ b o, ao = some ⟨b, o, none⟩ ∧ b < w.heap.size ∧ w.cell? ⟨b, o + j, none⟩ = some (.string (qs.getD j ⟨#[]⟩)) := by
  rcases h.2.2 with h | ⟨b, o, e, hlt, hc⟩
  · subst h; simp at hj
  · exact ⟨b, o, e, hlt, hc j hj⟩
theorem Rd.cell {w : World} {ao : Option Addr} {cap : Nat} {l : List Nd} (h : Rd w ao cap l) {k : Nat} (hk : k < l.length) : ∃ b o kv, ao = some ⟨b, o, none⟩ ∧ b < w.heap.size ∧ NodeAt w w.heap.size b (o + k * 4) (l.getD k nd0) kv := by
  obtain ⟨ao', cap', e1, _, _, hc⟩ := h
  cases e1
  rcases hc with h | ⟨b, o, e, hlt, hc⟩
  · subst h; simp at hk
  · obtain ⟨kv, hn⟩ := hc k hk
    exact ⟨b, o, kv, e, hlt, hn⟩

end Go.Proofs.YtlbmijcpalfaeaaGreatDoor

set_option linter.unusedSimpArgs false
set_option linter.unusedVariables false
namespace Go.Proofs.YtlbmijcpalfaeaaGreatDoor
open Go.RowKit Go.Lib

/-- Cells that hold these facts, more behind them. -/
def FcX (xs : List Value) (fs : List Fc) : Prop := ∀ j, j < fs.length → xs[j * 3]? = some (.bool (fs.getD j fc0).t) ∧ xs[j * 3 + 1]? = some (.bool (fs.getD j fc0).c) ∧ xs[j * 3 + 2]? = some (.int .i64 (fs.getD j fc0).n)
theorem FcX.nil (xs : List Value) : FcX xs [] := fun j hj => by simp at hj
theorem FcX.snoc {xs : List Value} {fs : List Fc} (h : FcX xs fs) (f : Fc) (hl : fs.length * 3 + 2 < xs.length) : FcX (((xs.set (fs.length * 3) (.bool f.t)).set (fs.length * 3 + 1) (.bool f.c)).set (fs.length * 3 + 2) (.int .i64 f.n)) (fs ++ [f]) := by
  intro j hj
  rw [List.length_append] at hj
  simp only [List.length_cons, List.length_nil] at hj
  rw [getD_snocF]
  by_cases e : j = fs.length
  · subst e
    rw [if_neg (by omega), if_pos rfl]
    refine ⟨?_, ?_, ?_⟩
    · rw [List.getElem?_set_ne (by omega), List.getElem?_set_ne (by omega), List.getElem?_set_self (by omega)]
    · rw [List.getElem?_set_ne (by omega), List.getElem?_set_self (by simp; omega)]
    · rw [List.getElem?_set_self (by simp; omega)]
  · rw [if_pos (by omega)]
    obtain ⟨h0, h1, h2⟩ := h j (by omega)
    refine ⟨?_, ?_, ?_⟩
    · rw [List.getElem?_set_ne (by omega), List.getElem?_set_ne (by omega), List.getElem?_set_ne (by omega)]; exact h0
    · rw [List.getElem?_set_ne (by omega), List.getElem?_set_ne (by omega), List.getElem?_set_ne (by omega)]; exact h1
    · rw [List.getElem?_set_ne (by omega), List.getElem?_set_ne (by omega), List.getElem?_set_ne (by omega)]; exact h2
theorem FcX.read {w : World} {base g n cap : Nat} {xs : List Value} {fs : List Fc} (h : FcX xs fs) (ho : w.ownsRow base 29 3 (.slice (some ⟨g, 0, none⟩) n cap) n xs) : FcR w g fs :=
  ⟨(rw_block ho (b := g) rfl).2.1, fun i hi => ⟨(rdr_own ho).cell (b := g) rfl (h i hi).1, (rdr_own ho).cell (b := g) rfl (h i hi).2.1, (rdr_own ho).cell (b := g) rfl (h i hi).2.2⟩⟩

/-- Between two rounds of Of. -/
structure OfM (W0 : World) (l : List Nd) (i : Nat) (wr : World) : Prop where
  ex : ∃ xs, wr.ownsRow W0.heap.size 29 3 (.slice (some ⟨W0.heap.size, 0, none⟩) l.length l.length) l.length xs ∧ FcX xs ((ft l).take i)
  below : Below W0.heap.size W0 wr
theorem OfM.up {W0 wr w' : World} {l : List Nd} {i : Nat} (h : OfM W0 l i wr) (hb : Below wr.heap.size wr w') : OfM W0 l i w' := by
  obtain ⟨xs, h1, h2⟩ := h.ex
  exact ⟨⟨xs, ownsRow_below h1 hb, h2⟩, h.below.trans (hb.mono h.below.size)⟩
theorem OfM.free {W0 wr : World} {l : List Nd} {i : Nat} (h : OfM W0 l i wr) (hi : i < l.length) : (∀ q, q < 3 → ∃ u, wr.cell? ⟨W0.heap.size, i * 3 + q, none⟩ = some u) ∧ ∀ o, wr.frozen? ⟨W0.heap.size, o, none⟩ = false := by
  obtain ⟨xs, h1, h2⟩ := h.ex
  have hl := h1.1
  refine ⟨fun q hq => ?_, fun o => rw_fro h1 o⟩
  obtain ⟨u, hu, _⟩ := rw_cell h1 (i := i * 3 + q) (by omega)
  exact ⟨u, hu⟩
theorem OfM.store {W0 wr : World} {l : List Nd} {i : Nat} (h : OfM W0 l i wr) (hi : i < l.length) (f : Fc) (hf : fA l i = f) :
    OfM W0 l (i + 1) (((wr.setCell ⟨W0.heap.size, i * 3, none⟩ (.bool f.t)).setCell ⟨W0.heap.size, i * 3 + 1, none⟩ (.bool f.c)).setCell ⟨W0.heap.size, i * 3 + 2, none⟩ (.int .i64 f.n)) := by
  obtain ⟨xs, h1, h2⟩ := h.ex
  have hl := h1.1
  have hfl := ft_len l
  have htl : ((ft l).take i).length = i := by simp; omega
  have e : (ft l).take (i + 1) = (ft l).take i ++ [f] := by
    rw [List.take_succ_eq_append_getElem (by omega), ← hf]
    unfold fA
    rw [List.getD_eq_getElem?_getD, List.getElem?_eq_getElem (by omega)]; rfl
  have p1 := own_put (i := i * 3) (u := .bool f.t) h1 (by omega)
  have p2 := own_put (i := i * 3 + 1) (u := .bool f.c) p1 (by simp; omega)
  have p3 := own_put (i := i * 3 + 2) (u := .int .i64 f.n) p2 (by simp; omega)
  have hs := h2.snoc f (by omega)
  rw [htl, ← e] at hs
  have hb := h.below
  have hB : ∀ (W : World) (o : Nat) (v : Value), Below W0.heap.size W0 W → Below W0.heap.size W0 (W.setCell ⟨W0.heap.size, o, none⟩ v) := fun W o v hW => hW.setCell (p := ⟨W0.heap.size, o, none⟩) (Nat.le_refl _) v
  exact ⟨⟨_, p3, hs⟩, hB _ _ _ (hB _ _ _ (hB _ _ _ hb))⟩
theorem fAt_take {fs : List Fc} {i : Nat} {k : Int} (h0 : 0 ≤ k) (h1 : k < (i : Int)) : fAt (fs.take i) k = fAt fs k := by
  unfold fAt
  rw [List.getD_eq_getElem?_getD, List.getD_eq_getElem?_getD, List.getElem?_take, if_pos (by omega)]
/-- What a place knows, told by those ahead of it. -/
theorem fA_told {l : List Nd} {fr : List Nat} (h : BegOk l fr) {i : Nat} (hi : i < l.length) : tdF ((ft l).take i) (l.getD i nd0) = fA l i := by
  rw [fA_at h hi]
  exact tdF_congr (h.at_ i hi).1 fun k hk => by
    have := h.kidsUp i hi k hk
    exact fAt_take this.1 this.2

set_option maxRecDepth 100000 in
set_option maxHeartbeats 8000000 in
theorem ofF_some {w : World} {ao : Option Addr} {cap : Nat} {l : List Nd} {fr : List Nat} (hT : SpanCells w) (hG : GrpCells w) (hR : Rd w ao cap l) (hbg : begL l = some fr) :
    Calls Tryz.prog 5 #[.slice ao l.length cap] w fun e w' => e = .returned (.tuple #[.agg #[.bool (ofR l).t, .bool (ofR l).c, .int .i64 (ofR l).n], .int .i64 0]) ∧ Below w.heap.size w w' := by
  obtain ⟨i0, hi, hz0, hz1, hz2⟩ := info_parts Tryz.infoFact
  obtain ⟨hl0, h64, hbr, _⟩ := begL_some hbg
  have hbo := begOk_of hbr
  obtain ⟨hc1, hc2⟩ := hR.bound
  unfold maxLen at hc2
  obtain ⟨w1, hw1⟩ : ∃ w1, w.alloc (.cells #[.bool false, .bool false, .int .i64 0] 29) = w1 := ⟨_, rfl⟩
  have hb1 : Below w.heap.size w w1 := by rw [← hw1]; exact (Below.refl _ _).alloc (Nat.le_refl _) _
  have hf1 : w1.heap[w.heap.size]? = some (.cells #[.bool false, .bool false, .int .i64 0] 29 (0, 0)) := by rw [← hw1, Deep.blk_alloc_new]
  have HW1 : Sld (w.alloc (.cells #[.bool false, .bool false, .int .i64 0] 29) = w1) := ⟨hw1⟩
  have HF1 : Sld (w1.heap[w.heap.size]? = some (.cells #[.bool false, .bool false, .int .i64 0] 29 (0, 0))) := ⟨hf1⟩
  have HB1 : Sld (Below w.heap.size w w1) := ⟨hb1⟩
  have ALL : Sld (∀ W, Below w1.heap.size w1 W → Rd W ao cap l ∧ GrpCells W ∧ Below w.heap.size w W) := ⟨fun W hW => by
    have hbb := hb1.trans (hW.mono hb1.size)
    exact ⟨hR.below hbb hbb.size, hG.below hbb, hbb⟩⟩
  have CK : Sld (Calls Tryz.prog 12 #[.slice ao l.length cap] w1 fun e w' => e = .returned (.int .i64 0) ∧ Below w1.heap.size w1 w') := ⟨check_some _ l fr _ _ (Nat.le_refl _) (hT.below hb1) (hR.below hb1 hb1.size) hbg⟩
  have HFM : Sld (∀ i, i < l.length → tdF ((ft l).take i) (l.getD i nd0) = fA l i ∧ (∀ k ∈ (l.getD i nd0).kids, 0 ≤ k ∧ k < (i : Int)) ∧ ((l.getD i nd0).op = 8 ∨ (l.getD i nd0).op = 9 → 1 < (l.getD i nd0).kids.length) ∧ (l.getD i nd0).kids.length ≤ 3) := ⟨fun i hi => ⟨fA_told hbo hi, hbo.kidsUp i hi, fun ho => by rw [arity_two (hbo.at_ i hi).1 ho]; omega, formB_kids (hbo.at_ i hi).1⟩⟩
  have hmk := fun (W : World) => run_make_full (P := Tryz.prog) W W.heap.size 34 29 i0 (.agg #[.bool false, .bool false, .int .i64 0]) 3 Tryz.underlying34 hi hz0 hz1 .i64 .i64 l.length (by rw [hz2]; omega) (by unfold maxLen; omega) (Nat.le_refl _)
  have HMK : Hid (∀ W : World, ∃ w', (Instr.makeSlice 34 (.int .i64 (l.length : Int)) (.int .i64 (l.length : Int))).run Tryz.prog W = .ok (.slice (some ⟨W.heap.size, 0, none⟩) l.length l.length) w' ∧ w'.ownsRow W.heap.size 29 3 (.slice (some ⟨W.heap.size, 0, none⟩) l.length l.length) l.length (madeCells (Value.agg #[.bool false, .bool false, .int .i64 0]).cells (l.length * 3)).toList ∧ W.grownBy w' none) := hmk
  have HFL : Sld ((ft l).length = l.length) := ⟨ft_len l⟩
  clear hmk hw1 hb1 hf1 hT hG hR hbg hbo hbr
  have hlI : (l.length : Int) ≤ 64 := by omega
  go_enter Tryz.func5, Tryz.ntmps5
  go_wp2_with fail
  rw [HW1.out]
  refine CK.out.mono ?_
  rintro e w2 ⟨rfl, hb2⟩
  obtain ⟨w3, hmk, hown3, hg3⟩ := HMK.out w2
  have HB2 : Sld (Below w1.heap.size w1 w2) := ⟨hb2⟩
  have HM0 : Sld (OfM w2 l 0 w3) := ⟨⟨⟨_, hown3, by rw [List.take_zero]; exact FcX.nil _⟩, (Below.refl _ _).grown hg3 (Nat.le_refl _) (by simp)⟩⟩
  have hs2 := hb2.size
  have hw1s : w.heap.size < w1.heap.size := lt_of_block HF1.out
  clear HMK hown3 hg3 hb2 CK
  go_wp2_with fail
  go_loopw [19] (fun i wr => ∃ k : Nat, k ≤ l.length ∧ i = .int .i64 k ∧ OfM w2 l k wr) (fun i _ => l.length - (RowKit.intOf i).toNat)
  case atStart => exact ⟨0, by omega, rfl, HM0.out⟩
  case round =>
    obtain ⟨k, hk, rfl, hM⟩ := hrel
    have hbw := hM.below
    have hb1w : Below w1.heap.size w1 wr := HB2.out.trans (hbw.mono hs2)
    obtain ⟨gR, gG, gB⟩ := ALL.out wr hb1w
    have HM : Sld (OfM w2 l k wr) := ⟨hM⟩
    have HGB : Sld (Below w.heap.size w wr) := ⟨gB⟩
    have hsr : w2.heap.size ≤ wr.heap.size := hbw.size
    clear hM hbw
    by_cases hlt : k < l.length
    · obtain ⟨b, o, kv, rfl, hbk, hna⟩ := Rd.cell gR hlt
      obtain ⟨hfm1, hfm2, hfm3, hfm4⟩ := HFM.out k hlt
      obtain ⟨c0, c1, c2, c3, hki⟩ := hna
      obtain ⟨wa, hwa⟩ : ∃ wa, wa = wr := ⟨_, rfl⟩
      obtain ⟨ka, kc, rfl, hkl, hkm, hkc⟩ := id hki
      have hltI : (k : Int) < (l.length : Int) := by omega
      obtain ⟨wn, hwn⟩ : ∃ wn, wr.alloc (.cells #[.int .i64 (l.getD k nd0).op, .int .i64 (l.getD k nd0).n, .string (l.getD k nd0).name, .slice ka (l.getD k nd0).kids.length kc] 41) = wn := ⟨_, rfl⟩
      have hbn : Below wr.heap.size wr wn := by rw [← hwn]; exact (Below.refl _ _).alloc (Nat.le_refl _) _
      have hMn := HM.out.up hbn
      obtain ⟨xs, hox, hfx⟩ := hMn.ex
      have htl : ((ft l).take k).length = k := by rw [List.length_take, HFL.out]; omega
      have CT : Sld (Calls Tryz.prog 13 #[.agg #[.int .i64 (l.getD k nd0).op, .int .i64 (l.getD k nd0).n, .string (l.getD k nd0).name, .slice ka (l.getD k nd0).kids.length kc], .slice (some ⟨w2.heap.size, 0, none⟩) l.length l.length] wn fun e w' => e = .returned (.agg #[.bool (fA l k).t, .bool (fA l k).c, .int .i64 (fA l k).n]) ∧ Below wn.heap.size wn w') := ⟨by
        have := told_any wn (l.getD k nd0) ka kc w2.heap.size l.length ((ft l).take k) (hki.below hbn hbn.size) (hfx.read hox) l.length (by omega) (Nat.le_refl _) (by unfold maxLen; omega) (fun q hq => by have := hfm2 q hq; omega) hfm3 (gG.below hbn) (by omega)
        rw [hfm1] at this
        exact this⟩
      have HWN : Sld (wr.alloc (.cells #[.int .i64 (l.getD k nd0).op, .int .i64 (l.getD k nd0).n, .string (l.getD k nd0).name, .slice ka (l.getD k nd0).kids.length kc] 41) = wn) := ⟨hwn⟩
      have hn1 : wn.heap[wr.heap.size]? = some (.cells #[.int .i64 (l.getD k nd0).op, .int .i64 (l.getD k nd0).n, .string (l.getD k nd0).name, .slice ka (l.getD k nd0).kids.length kc] 41 (0, 0)) := by rw [← hwn, Deep.blk_alloc_new]
      obtain ⟨y0, y1, y2, y3, _⟩ := blk4' hn1
      have HMN : Sld (OfM w2 l k wn) := ⟨hMn⟩
      have HST : Sld (∀ W, OfM w2 l k W → OfM w2 l (k + 1) (((W.setCell ⟨w2.heap.size, k * 3, none⟩ (.bool (fA l k).t)).setCell ⟨w2.heap.size, k * 3 + 1, none⟩ (.bool (fA l k).c)).setCell ⟨w2.heap.size, k * 3 + 2, none⟩ (.int .i64 (fA l k).n))) := ⟨fun W hW => hW.store hlt _ rfl⟩
      clear hwa wa hwn hbn hMn hox hfx htl hki hkc hfm1 hfm2 hfm3 hn1
      generalize fA l k = F at *
      obtain ⟨ftt, fcc, fnn⟩ := F
      simp only at CT HST
      generalize l.getD k nd0 = x at *
      obtain ⟨op, n, nm, ks⟩ := x
      simp only at CT HWN c0 c1 c2 c3 y0 y1 y2 y3 hkl
      unfold maxLen at hkm
      go_wp2_with fail
      rw [HWN.out]
      refine CT.out.mono ?_
      rintro e w5 ⟨rfl, hb5⟩
      have hM5 := HMN.out.up hb5
      obtain ⟨hfree, hfz⟩ := hM5.free hlt
      obtain ⟨u0, q0⟩ := hfree 0 (by omega)
      obtain ⟨u1, q1⟩ := hfree 1 (by omega)
      obtain ⟨u2, q2⟩ := hfree 2 (by omega)
      rw [Nat.add_zero] at q0
      have HM5 : Sld (OfM w2 l k w5) := ⟨hM5⟩
      clear hM5 hfree hb5 CT
      go_wp2_with fail
      exact ⟨⟨k + 1, by omega, by go_num, HST.out w5 HM5.out⟩, by simp [RowKit.intOf]; omega⟩
    · have hke : k = l.length := by omega
      subst hke
      obtain ⟨xs, hox, hfx⟩ := HM.out.ex
      have hrd := hfx.read hox
      have htl : (ft l).take l.length = ft l := by rw [← HFL.out, List.take_length]
      rw [htl] at hrd
      obtain ⟨f0, f1, f2⟩ := hrd.at_ (l.length - 1) (by rw [HFL.out]; omega)
      have hofR : ofR l = (ft l).getD (l.length - 1) fc0 := rfl
      rw [← hofR] at f0 f1 f2
      obtain ⟨F, hFE⟩ : ∃ F, ofR l = F := ⟨_, rfl⟩
      rw [hFE] at f0 f1 f2
      have HFE : Sld (ofR l = F) := ⟨hFE⟩
      clear hFE
      obtain ⟨ftt, fcc, fnn⟩ := F
      simp only at f0 f1 f2
      have hfw := (hb1w.block _ (lt_of_block HF1.out)).trans HF1.out
      obtain ⟨z0, z1, z2, zf⟩ := blk3 hfw
      have HFW : Sld (wr.heap[w.heap.size]? = some (.cells #[.bool false, .bool false, .int .i64 0] 29 (0, 0))) := ⟨hfw⟩
      obtain ⟨N1, hN1⟩ : ∃ N1 : Nat, l.length = N1 + 1 := ⟨l.length - 1, by omega⟩
      have e1 : l.length - 1 = N1 := by omega
      rw [e1] at f0 f1 f2
      rw [hN1] at hlI ⊢
      clear hofR hrd htl hox hfx hfw HM e1 hb1w gR gG gB
      go_wp2_with fail
      have hS := set3 HFW.out (.bool ftt) (.bool fcc) (.int .i64 fnn)
      have HBE := below_set3 HGB.out (Nat.le_refl w.heap.size) (.bool ftt) (.bool fcc) (.int .i64 fnn)
      generalize ((wr.setCell ⟨w.heap.size, 0, none⟩ (.bool ftt)).setCell ⟨w.heap.size, 1, none⟩ (.bool fcc)).setCell ⟨w.heap.size, 2, none⟩ (.int .i64 fnn) = W at *
      obtain ⟨x0, x1, x2, _⟩ := blk3 hS
      refine bodyPost_ret (v := .tuple #[.agg #[.bool ftt, .bool fcc, .int .i64 fnn], .int .i64 0]) (by simp [results, Tryz.results5, go_sem, x0, x1, x2]) rfl ⟨by rw [HFE.out], HBE⟩

set_option maxRecDepth 20000 in
set_option maxHeartbeats 1000000 in
theorem ofF_none {w : World} {ao : Option Addr} {cap : Nat} {l : List Nd} (hT : SpanCells w) (hR : Rd w ao cap l) (hbg : begL l = none) :
    Calls Tryz.prog 5 #[.slice ao l.length cap] w fun e w' => e = .returned (.tuple #[.agg #[.bool false, .bool false, .int .i64 0], .int .i64 1]) ∧ Below w.heap.size w w' := by
  obtain ⟨w1, hw1⟩ : ∃ w1, w.alloc (.cells #[.bool false, .bool false, .int .i64 0] 29) = w1 := ⟨_, rfl⟩
  have hb1 : Below w.heap.size w w1 := by rw [← hw1]; exact (Below.refl _ _).alloc (Nat.le_refl _) _
  have hf1 : w1.heap[w.heap.size]? = some (.cells #[.bool false, .bool false, .int .i64 0] 29 (0, 0)) := by rw [← hw1, Deep.blk_alloc_new]
  have HW1 : Sld (w.alloc (.cells #[.bool false, .bool false, .int .i64 0] 29) = w1) := ⟨hw1⟩
  have HF1 : Sld (w1.heap[w.heap.size]? = some (.cells #[.bool false, .bool false, .int .i64 0] 29 (0, 0))) := ⟨hf1⟩
  have HB1 : Sld (Below w.heap.size w w1) := ⟨hb1⟩
  have CK : Sld (Calls Tryz.prog 12 #[.slice ao l.length cap] w1 fun e w' => e = .returned (.int .i64 1) ∧ Below w1.heap.size w1 w') := ⟨check_none _ l _ _ (Nat.le_refl _) (hT.below hb1) (hR.below hb1 hb1.size) hbg⟩
  clear hw1 hb1 hf1 hT hR hbg
  go_enter Tryz.func5, Tryz.ntmps5
  go_wp2_with fail
  rw [HW1.out]
  refine CK.out.mono ?_
  rintro e w2 ⟨rfl, hb2⟩
  have hf2 := (hb2.block _ (lt_of_block HF1.out)).trans HF1.out
  obtain ⟨z0, z1, z2, zf⟩ := blk3 hf2
  have HFW : Sld (w2.heap[w.heap.size]? = some (.cells #[.bool false, .bool false, .int .i64 0] 29 (0, 0))) := ⟨hf2⟩
  have HB2 : Sld (Below w.heap.size w w2) := ⟨HB1.out.trans (hb2.mono HB1.out.size)⟩
  clear hb2 hf2
  go_wp2_with fail
  have hS := set3 HFW.out (.bool false) (.bool false) (.int .i64 0)
  have HBE := below_set3 HB2.out (Nat.le_refl w.heap.size) (.bool false) (.bool false) (.int .i64 0)
  generalize ((w2.setCell ⟨w.heap.size, 0, none⟩ (.bool false)).setCell ⟨w.heap.size, 1, none⟩ (.bool false)).setCell ⟨w.heap.size, 2, none⟩ (.int .i64 0) = W at *
  obtain ⟨x0, x1, x2, _⟩ := blk3 hS
  refine bodyPost_ret (v := .tuple #[.agg #[.bool false, .bool false, .int .i64 0], .int .i64 1]) (by simp [results, Tryz.results5, go_sem, x0, x1, x2]) rfl ⟨rfl, HBE⟩
end Go.Proofs.YtlbmijcpalfaeaaGreatDoor

set_option linter.unusedSimpArgs false
set_option linter.unusedVariables false
namespace Go.Proofs.YtlbmijcpalfaeaaGreatDoor
open Go.RowKit Go.Lib

/-- A value that reads as facts. -/
def FcS (w : World) (v : Value) (fs : List Fc) : Prop :=
  ∃ ao cap, v = .slice ao fs.length cap ∧ fs.length ≤ cap ∧ cap ≤ maxLen ∧ (fs = [] ∨ ∃ g, ao = some ⟨g, 0, none⟩ ∧ FcR w g fs)
theorem FcS.below {w w' : World} {v : Value} {fs : List Fc} (h : FcS w v fs) (hb : Below w.heap.size w w') : FcS w' v fs := by
  obtain ⟨ao, cap, e, h1, h2, h3⟩ := h
  exact ⟨ao, cap, e, h1, h2, h3.imp id fun ⟨g, e, h⟩ => ⟨g, e, h.below hb⟩⟩
theorem fcS_own {w : World} {base : Nat} {v : Value} {xs : List Value} {fs : List Fc} (h : w.ownsRow base 29 3 v fs.length xs) (hx : FcX xs fs) : FcS w v fs := by
  rcases id h.2 with ⟨rfl, h0⟩ | ⟨g, cap, cur, rfl, _, _, hn, hm, _⟩
  · have : fs = [] := List.length_eq_zero_iff.1 h0
    subst this
    exact ⟨none, 0, rfl, by simp, by simp [maxLen], .inl rfl⟩
  · exact ⟨_, cap, rfl, hn, hm, .inr ⟨g, rfl, hx.read h⟩⟩
end Go.Proofs.YtlbmijcpalfaeaaGreatDoor

set_option linter.unusedSimpArgs false
set_option linter.unusedVariables false
namespace Go.Proofs.YtlbmijcpalfaeaaGreatDoor
open Go.RowKit Go.Lib

theorem Ags.fresh (w : World) (l : List Int) (c : Nat) (t : TypeId) (h : l ≠ []) : Ags (w.alloc (.cells (l.map (Value.int .i64)).toArray t)) (.slice (some ⟨w.heap.size, 0, none⟩) l.length c) l := by
  refine ⟨_, _, rfl, .inr ⟨w.heap.size, 0, rfl, fun i x hx => ?_⟩⟩
  have hb : (w.alloc (.cells (l.map (Value.int .i64)).toArray t)).heap[w.heap.size]? = some (.cells (l.map (Value.int .i64)).toArray t) := by
    show (w.heap.push _)[w.heap.size]? = _
    simp
  unfold World.cell?
  rw [hb]
  simp [hx]
end Go.Proofs.YtlbmijcpalfaeaaGreatDoor
