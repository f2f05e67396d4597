/-
  TbR1.
-/
import Derived.Shelf.Unicode.DecodeSlow
import Derived.Laws.RangeAny
import Derived.Shelf.Small.Bits
import Derived.Shelf.Strconv.Itoa0
import Derived.Shelf.LaysM
import Derived.Shelf.Strconv.Clone
import Derived.Shelf.Unicode.DecodeAny
import Derived.Shelf.Slices.CompactS
import Derived.Ground.SlsfProg
import Derived.Shelf.SlSortCmp.Insertion
import Derived.Shelf.SlSortCmp.SiftDown1
import Derived.Shelf.SlSortCmp.HeapSort1
import Derived.Shelf.SlSortCmp.Insertion1
import Derived.Shelf.SlSortCmp.Median1
import Derived.Shelf.SlSortCmp.Pivot1
import Derived.Shelf.SlSortCmp.ReverseRange1
import Derived.Shelf.SlSortCmp.PartialInsertion1
import Derived.Shelf.SlSortCmp.PartitionEqual1
import Derived.Shelf.SlSortCmp.Partition1
import Derived.Shelf.SlSortCmp.Pdq1
import Derived.Shelf.SlSortCmp.Whole1
import Derived.Test.YtpacjofepiojdaaDoorProg
import Derived.WalkKit
import Derived.Deep.DeepFit
import Derived.Lib.OthersKept
import Derived.Lib.RuneCountTail
import Derived.Deep.AppendLies
import Derived.Deep.OwnRows
import Derived.Laws.AppendOwnNone
import Derived.Deep.QuietTactic
import Derived.BigQuiet
import Derived.Deep.RegionWith
import Derived.Laws.DeepStrings4
import Derived.Below
import Derived.Maps.OwnSet
import Derived.Maps.Keyed
import Derived.DeepKeys4
import Derived.Lib.QuietBelow
import Derived.StillTail
import Derived.Deep.RegionHeld3
import Derived.Laws.ResultCell
import Derived.Laws.CopyOwn
import Derived.Test.YtpacjofepiojdaaDoorP01
import Derived.Test.YtpacjofepiojdaaDoorP02
import Derived.Test.YtpacjofepiojdaaDoorP03
import Derived.Test.YtpacjofepiojdaaDoorP04
import Derived.Test.YtpacjofepiojdaaDoorP05
import Derived.Test.YtpacjofepiojdaaDoorP06
import Derived.Test.YtpacjofepiojdaaDoorP07
import Derived.Test.YtpacjofepiojdaaDoorP08
import Derived.Test.YtpacjofepiojdaaDoorP09
import Derived.Test.YtpacjofepiojdaaDoorP10
import Derived.Test.YtpacjofepiojdaaDoorP11
import Derived.Test.YtpacjofepiojdaaDoorP12
import Derived.Test.YtpacjofepiojdaaDoorP13
import Derived.Test.YtpacjofepiojdaaDoorP14
import Derived.Test.YtpacjofepiojdaaDoorP15
import Derived.Test.YtpacjofepiojdaaDoorP16
set_option linter.unusedSimpArgs false
set_option linter.unusedVariables false
namespace Go.Proofs.YtpacjofepiojdaaDoor
open Go.RowKit Go.Lib Go.Sort Go.Maps

/-- The document's table: a block, and the row that it owns. -/
structure RtM (w : World) (q : Nat) (lv : Value) (pl : List (Nd × Value)) (L : List Nd) : Prop where
  blk : w.heap[q]? = some (.cells #[lv] 59 (0, 0))
  own : OwnP w (q + 1) lv pl
  nodes : pl.map (·.1) = L
theorem RtM.lt {w : World} {q : Nat} {lv : Value} {pl : List (Nd × Value)} {L : List Nd} (h : RtM w q lv pl L) : q < w.heap.size := lt_of_block h.blk
theorem RtM.len {w : World} {q : Nat} {lv : Value} {pl : List (Nd × Value)} {L : List Nd} (h : RtM w q lv pl L) : pl.length = L.length := by rw [← h.nodes]; simp
theorem RtM.below {w w' : World} {q : Nat} {lv : Value} {pl : List (Nd × Value)} {L : List Nd} (h : RtM w q lv pl L) (hb : Below w.heap.size w w') : RtM w' q lv pl L :=
  ⟨(hb.block q h.lt).trans h.blk, ⟨rw_same h.own.row (fun b hv => hb.block b (rw_block h.own.row hv).2.1), fun y hy => rw_same (h.own.kids y hy) (fun b hv => hb.block b (rw_block (h.own.kids y hy) hv).2.1)⟩, h.nodes⟩
theorem RtM.form {w : World} {q : Nat} {lv : Value} {pl : List (Nd × Value)} {L : List Nd} (h : RtM w q lv pl L) : ∃ ao cap, lv = .slice ao L.length cap := by
  obtain ⟨ao, cap, hv⟩ := rw_form h.own.row
  exact ⟨ao, cap, by rw [hv, h.len]⟩
theorem RtM.c0 {w : World} {q : Nat} {lv : Value} {pl : List (Nd × Value)} {L : List Nd} (h : RtM w q lv pl L) : w.cell? ⟨q, 0, none⟩ = some lv := by simp [World.cell?, h.blk]
/-- An entry of it. -/
theorem RtM.at_ {w : World} {q : Nat} {lv : Value} {pl : List (Nd × Value)} {L : List Nd} (h : RtM w q lv pl L) {i : Nat} (hi : i < L.length) : ∃ g cap ka kc, lv = .slice (some ⟨g, 0, none⟩) L.length cap ∧ L.length ≤ cap ∧ cap ≤ maxLen ∧ w.cell? ⟨g, i * 4, none⟩ = some (.int .i64 (edA L i).op) ∧ w.cell? ⟨g, i * 4 + 1, none⟩ = some (.int .i64 (edA L i).n) ∧ w.cell? ⟨g, i * 4 + 2, none⟩ = some (.string (edA L i).name) ∧ w.cell? ⟨g, i * 4 + 3, none⟩ = some (.slice ka (edA L i).kids.length kc) ∧ OwnI w (q + 1) (.slice ka (edA L i).kids.length kc) (edA L i).kids := by
  have hl := h.len
  have hip : i < pl.length := by omega
  have hqi : pl[i]? = some (pl[i].1, pl[i].2) := by rw [List.getElem?_eq_getElem hip]
  have hx : pl[i].1 = edA L i := by
    have : (pl.map (·.1))[i]? = some pl[i].1 := by rw [List.getElem?_map, List.getElem?_eq_getElem hip]; rfl
    rw [h.nodes] at this
    unfold edA
    rw [List.getD_eq_getElem?_getD, this]; rfl
  obtain ⟨a0, a1, a2, a3⟩ := ndCells_at pl i _ _ hqi
  have ho := h.own.kids _ (List.getElem_mem hip)
  rw [hx] at a0 a1 a2 ho
  obtain ⟨ka, kc, hkv⟩ := rw_form (show w.ownsRow _ _ _ _ _ _ from ho)
  rw [hkv] at a3 ho
  rcases h.own.row.2 with ⟨_, h0⟩ | ⟨g, cap, cur, h7, _, _, h8, h9, _⟩
  · omega
  · have hr := rdr_own h.own.row
    rw [h7] at hr
    refine ⟨g, cap, ka, kc, by rw [h7, hl], by omega, h9, hr.cell (b := g) rfl a0, hr.cell (b := g) rfl a1, hr.cell (b := g) rfl a2, hr.cell (b := g) rfl a3, ho⟩

set_option maxRecDepth 20000 in
set_option maxHeartbeats 8000000 in
theorem rFind_any (w : World) (q : Nat) (lv : Value) (pl : List (Nd × Value)) (L : List Nd) (x : Nd) (ka : Option Addr) (kc : Nat) (h : RtM w q lv pl L) (hv : NdV w x ka kc) (hI : TbI L) :
    Calls Tryd.prog 65 #[.pointer (some ⟨q, 0, none⟩), .agg #[.int .i64 x.op, .int .i64 x.n, .string x.name, .slice ka x.kids.length kc]] w fun e w' => e = .returned (.tuple #[.int .i64 ((fdR L x).1 : Nat), .int .i64 (fdR L x).2]) ∧ Below w.heap.size w w' := by
  have hle := hI.le
  obtain ⟨w1, hw1⟩ : ∃ w1, w.alloc (.cells #[.int .i64 x.op, .int .i64 x.n, .string x.name, .slice ka x.kids.length kc] 63) = w1 := ⟨_, rfl⟩
  have hb1 : Below w.heap.size w w1 := by rw [← hw1]; exact (Below.refl _ _).alloc (Nat.le_refl _) _
  have hk1 : w1.heap[w.heap.size]? = some (.cells #[.int .i64 x.op, .int .i64 x.n, .string x.name, .slice ka x.kids.length kc] 63 (0, 0)) := by rw [← hw1, Deep.blk_alloc_new]
  obtain ⟨ao', cap', hve, hv1, hv2, hv3⟩ := hv.ints
  simp only [Value.slice.injEq, true_and] at hve
  obtain ⟨rfl, rfl⟩ := hve
  have hkm := hv2.1
  have HW1 : Sld (w.alloc (.cells #[.int .i64 x.op, .int .i64 x.n, .string x.name, .slice ka x.kids.length kc] 63) = w1) := ⟨hw1⟩
  obtain ⟨la, lc, rfl⟩ := h.form
  have ALL : Sld (∀ W, Below w1.heap.size w1 W → RtM W q (.slice la L.length lc) pl L ∧ Ints W W.heap.size (.slice ka x.kids.length kc) x.kids ∧ W.heap[w.heap.size]? = some (.cells #[.int .i64 x.op, .int .i64 x.n, .string x.name, .slice ka x.kids.length kc] 63 (0, 0)) ∧ W.cell? ⟨q, 0, none⟩ = some (.slice la L.length lc) ∧ Below w.heap.size w W) := ⟨fun W hW => by
    have hbb := hb1.trans (hW.mono hb1.size)
    exact ⟨h.below hbb, hv.ints.below hbb hbb.size, (hW.block _ (lt_of_block hk1)).trans hk1, (h.below hbb).c0, hbb⟩⟩
  have CF : Sld (∀ W, Calls Tryd.prog 41 #[.agg #[.int .i64 x.op, .int .i64 x.n, .string x.name, .slice ka x.kids.length kc]] W fun e w' => e = .returned (.bool (formB x)) ∧ Below W.heap.size W w') := ⟨fun W => form_any x.op x.n x.name ka x.kids.length kc W (by have := hv.nm; unfold maxLen; omega) (by omega)⟩
  have KID : Sld (∀ W, Below w1.heap.size w1 W → ∀ k, k < x.kids.length → ∃ b o, ka = some ⟨b, o, none⟩ ∧ W.cell? ⟨b, o + k, none⟩ = some (.int .i64 (x.kids.getD k 0))) := ⟨fun W hW k hk => by
    obtain ⟨ao2, cap2, hve, _, _, hc⟩ := (ALL.out W hW).2.1
    simp only [Value.slice.injEq, true_and] at hve
    obtain ⟨rfl, rfl⟩ := hve
    rcases hc with hc | ⟨b, o, h1, _, h3⟩
    · rw [hc] at hk; simp at hk
    · exact ⟨b, o, h1, h3 k hk⟩⟩
  unfold maxLen at hkm
  have hkcI : (x.kids.length : Int) ≤ (kc : Int) := by omega
  have hkmI : (kc : Int) ≤ 9223372036854775807 := by omega
  have hLI : (L.length : Int) ≤ 1048576 := by omega
  obtain ⟨_, _, _, y3, _⟩ := blk4 hk1
  clear hv1 hv2 hv3 hw1 hk1 h hb1 hkm
  cases hf : formB x with
  | false =>
    have hfd : fdR L x = (0, 1) := by unfold fdR shE; simp [hf]
    rw [hfd]
    go_enter Tryd.func65, Tryd.ntmps65
    go_wp2_with fail
    rw [HW1.out]
    refine (CF.out w1).mono ?_
    rintro e w2 ⟨rfl, hb2⟩
    rw [hf]
    have hB := (ALL.out w2 hb2).2.2.2.2
    clear hb2
    go_wp2_with fail
    go_ret2
    exact ⟨rfl, hB⟩
  | true =>
    have FD2 : Sld (∀ k, k < x.kids.length → hasT L (x.kids.getD k 0) = false → fdR L x = (0, 2)) := ⟨fun k hk hh => by
      have ha : x.kids.all (hasT L) = false := by
        rw [List.all_eq_false]
        exact ⟨x.kids.getD k 0, by simp [hk], by rw [hh]; simp⟩
      unfold fdR shE; simp [hf, ha]⟩
    have FD0 : Sld ((∀ k, k < x.kids.length → hasT L (x.kids.getD k 0) = true) → shE L x = 0) := ⟨fun hh => by
      have ha : x.kids.all (hasT L) = true := by
        rw [List.all_eq_true]
        intro y hy
        obtain ⟨j, hj, rfl⟩ := List.mem_iff_getElem.1 hy
        have := hh j hj
        simpa [hj] using this
      unfold shE; simp [hf, ha]⟩
    have HND : Sld (L.Nodup) := ⟨hI.nodup⟩
    have CSN : Sld (∀ W k2 c2 i, Ints W W.heap.size (.slice k2 (edA L i).kids.length c2) (edA L i).kids → Ints W W.heap.size (.slice ka x.kids.length kc) x.kids → Calls Tryd.prog 35 #[.agg #[.int .i64 (edA L i).op, .int .i64 (edA L i).n, .string (edA L i).name, .slice k2 (edA L i).kids.length c2], .agg #[.int .i64 x.op, .int .i64 x.n, .string x.name, .slice ka x.kids.length kc]] W fun e w' => e = .returned (.bool (ndEq (edA L i) x)) ∧ Below W.heap.size W w') := ⟨fun W k2 c2 i i1 i2 => sameNode_any (edA L i) x _ _ W _ (Nat.le_refl _) i1 i2⟩
    obtain ⟨FR, hFR⟩ : ∃ FR, fdR L x = FR := ⟨_, rfl⟩
    have HFR : Sld (fdR L x = FR) := ⟨hFR⟩
    rw [hFR]
    obtain ⟨F1, F2⟩ := FR
    clear hFR hI
    generalize hkn : x.kids.length = kn at *
    go_enter Tryd.func65, Tryd.ntmps65
    go_wp2_with fail
    rw [HW1.out]
    refine (CF.out w1).mono ?_
    rintro e w2 ⟨rfl, hb2⟩
    rw [hf]
    have HB2 : Sld (Below w1.heap.size w1 w2) := ⟨hb2⟩
    clear hb2 y3
    go_wp2_with fail
    go_loopw [6] (fun ii wr => ∃ k : Nat, k ≤ kn ∧ ii = .int .i64 k ∧ (∀ j, j < k → hasT L (x.kids.getD j 0) = true) ∧ Below w1.heap.size w1 wr) (fun ii _ => kn - (RowKit.intOf ii).toNat)
    case atStart => exact ⟨0, by omega, rfl, fun j hj => by omega, HB2.out⟩
    case round =>
      obtain ⟨k, hk, rfl, hj, hbr⟩ := hrel
      have HJ : Sld (∀ j, j < k → hasT L (x.kids.getD j 0) = true) := ⟨hj⟩
      have HBR : Sld (Below w1.heap.size w1 wr) := ⟨hbr⟩
      obtain ⟨_, _, g1, g2, hBw⟩ := ALL.out wr hbr
      have HBw : Sld (Below w.heap.size w wr) := ⟨hBw⟩
      obtain ⟨_, _, _, y3, _⟩ := blk4 g1
      clear hj g1 hBw
      by_cases hlt : k < kn
      · have hltI : (k : Int) < (kn : Int) := by omega
        obtain ⟨b, o, rfl, hc⟩ := KID.out wr hbr k hlt
        obtain ⟨K, hK⟩ : ∃ K, x.kids.getD k 0 = K := ⟨_, rfl⟩
        rw [hK] at hc
        have HKK : Sld (x.kids.getD k 0 = K) := ⟨hK⟩
        clear hK hbr
        have r1 : ∀ r, (wr.drewN r).cell? ⟨w.heap.size, 3, none⟩ = some (.slice (some ⟨b, o, none⟩) kn kc) := fun r => y3
        have r2 : ∀ r, (wr.drewN r).cell? ⟨b, o + k, none⟩ = some (.int .i64 K) := fun r => hc
        have r3 : ∀ r, (wr.drewN r).cell? ⟨q, 0, none⟩ = some (.slice la L.length lc) := fun r => g2
        by_cases hh : hasT L K = true
        · obtain ⟨kk, hkk, hkl⟩ := hasT_iff.1 hh
          subst hkk
          have hkl' : (kk : Int) < (L.length : Int) := by omega
          have HJ2 : Sld (∀ j, j < k + 1 → hasT L (x.kids.getD j 0) = true) := ⟨fun j hj => by
            rcases Nat.lt_or_ge j k with h1 | h1
            · exact HJ.out j h1
            · have : j = k := by omega
              subst this; rw [HKK.out]; exact hh⟩
          clear hh
          go_wp2_with fail
          go_quiet (fail)
          go_wp2_with fail
          exact ⟨⟨k + 1, by omega, by go_num, HJ2.out, by first | exact HBR.out | exact below_drewN' HBR.out _⟩, by simp [RowKit.intOf]; omega⟩
        · have hh' : hasT L K = false := by simpa using hh
          have e := HFR.out.symm.trans (FD2.out k hlt (by rw [HKK.out]; exact hh'))
          obtain ⟨e1, e2⟩ := Prod.mk.inj e
          subst e1 e2
          have hKK : K < 0 ∨ (0 ≤ K ∧ (L.length : Int) ≤ K) := by
            unfold hasT at hh'
            rcases Int.lt_or_le K 0 with h1 | h1
            · exact .inl h1
            · refine .inr ⟨h1, ?_⟩
              simp only [Bool.and_eq_false_iff, decide_eq_false_iff_not] at hh'
              omega
          clear hh hh' e FD2 FD0 HFR
          rcases hKK with hK0 | ⟨hK0, hK1⟩
          · go_wp2_with fail
            go_quiet (fail)
            go_wp2_with fail
            go_ret2
            exact ⟨rfl, by first | exact HBw.out | exact below_drewN' HBw.out _⟩
          · go_wp2_with fail
            go_quiet (fail)
            go_wp2_with fail
            go_ret2
            exact ⟨rfl, by first | exact HBw.out | exact below_drewN' HBw.out _⟩
      · have hke : k = kn := by omega
        subst hke
        have hs := FD0.out HJ.out
        have hfd : (F1, F2) = (match ixL L x with | some i => (i, 0) | none => (0, 11)) := by rw [← HFR.out]; unfold fdR; rw [if_pos hs]; cases ixL L x <;> rfl
        have HFD : Sld ((F1, F2) = (match ixL L x with | some i => ((i, 0) : Nat × Int) | none => (0, 11))) := ⟨hfd⟩
        clear hfd hs FD0 FD2 HFR hbr
        go_wp2_with fail
        go_loopw [7] (fun ii wq => ∃ i : Nat, i ≤ L.length ∧ ii = .int .i64 i ∧ (∀ j, j < i → edA L j ≠ x) ∧ Below w1.heap.size w1 wq) (fun ii _ => L.length - (RowKit.intOf ii).toNat)
        case atStart => exact ⟨0, by omega, rfl, fun j hj => by omega, HBR.out⟩
        case round =>
          obtain ⟨i, hi, rfl, hj, hbr⟩ := hrel
          have HJ3 : Sld (∀ j, j < i → edA L j ≠ x) := ⟨hj⟩
          have HBQ : Sld (Below w1.heap.size w1 wr) := ⟨hbr⟩
          obtain ⟨hRt, hIn, g1, c0, hBw⟩ := ALL.out wr hbr
          have HBw2 : Sld (Below w.heap.size w wr) := ⟨hBw⟩
          obtain ⟨n0, n1, n2, n3, _⟩ := blk4 g1
          clear hj g1 hBw y3 g2
          by_cases hlt2 : i < L.length
          · have hltI : (i : Int) < (L.length : Int) := by omega
            obtain ⟨g, cap, ka2, kc2, hlv, hc1, hc2, e0, e1, e2, e3, hO⟩ := hRt.at_ hlt2
            injection hlv with hlv1 _ hlv2
            subst hlv1 hlv2
            have CS : Sld (∀ W, Below wr.heap.size wr W → Calls Tryd.prog 35 #[.agg #[.int .i64 (edA L i).op, .int .i64 (edA L i).n, .string (edA L i).name, .slice ka2 (edA L i).kids.length kc2], .agg #[.int .i64 x.op, .int .i64 x.n, .string x.name, .slice ka k kc]] W fun e w' => e = .returned (.bool (ndEq (edA L i) x)) ∧ Below wr.heap.size wr w') := ⟨fun W hW => (CSN.out W ka2 kc2 i ((Ints_of_own hO (Nat.le_refl _)).below hW hW.size) (hIn.below hW hW.size)).mono fun e w' ⟨h1, h2⟩ => ⟨h1, hW.trans (h2.mono hW.size)⟩⟩
            unfold maxLen at hc2
            have hcI : (L.length : Int) ≤ (lc : Int) := by omega
            have hcM : (lc : Int) ≤ 9223372036854775807 := by omega
            have HEQ : Sld (ndEq (edA L i) x = true ↔ edA L i = x) := ⟨ndEq_iff _ _⟩
            obtain ⟨Bq, hBq⟩ : ∃ Bq, ndEq (edA L i) x = Bq := ⟨_, rfl⟩
            rw [hBq] at CS HEQ
            have HED : Sld (i < L.length → edA L i = x → ixL L x = some i) := ⟨fun h1 h2 => ixL_of HND.out h1 h2⟩
            clear hBq hO hRt hIn hbr CSN
            generalize hye : edA L i = y at *
            have HEY : Sld (edA L i = y) := ⟨hye⟩
            clear hye
            obtain ⟨yo, yn, ym, yk⟩ := y
            simp only at CS e0 e1 e2 e3
            generalize yk.length = yl at *
            go_wp2_with fail
            go_region_with (go_at_call 35; refine (CS.out _ (Below.refl _ _).drew).mono ?_; rintro e w5 ⟨rfl, hb5⟩)
            all_goals
              have hB5 := HBQ.out.trans (hb5.mono HBQ.out.size)
              have HB5 : Sld (Below w1.heap.size w1 w5) := ⟨hB5⟩
              have HW5 : Sld (Below w.heap.size w w5) := ⟨(ALL.out w5 hB5).2.2.2.2⟩
              clear hb5 hB5
              cases Bq with
              | true =>
                have e := HFD.out
                rw [HED.out hlt2 (HEQ.out.1 rfl)] at e
                obtain ⟨ee1, ee2⟩ := Prod.mk.inj e
                subst ee1 ee2
                clear e HFD HED HEQ
                go_wp2_with fail
                go_ret2
                exact ⟨rfl, HW5.out⟩
              | false =>
                have HJ4 : Sld (∀ j, j < i + 1 → edA L j ≠ x) := ⟨fun j hj => by
                  rcases Nat.lt_or_ge j i with h1 | h1
                  · exact HJ3.out j h1
                  · have : j = i := by omega
                    subst this
                    rw [HEY.out]
                    exact fun h => by have := HEQ.out.2 h; cases this⟩
                clear HFD HED HEQ
                go_wp2_with fail
                exact ⟨⟨i + 1, by omega, by go_num, HJ4.out, HB5.out⟩, by simp [RowKit.intOf]; omega⟩
          · have hie : i = L.length := by omega
            subst hie
            have hix : ixL L x = none := by
              rw [ixL_none]
              intro hm
              obtain ⟨j, hj, he⟩ := List.mem_iff_getElem.1 hm
              exact HJ3.out j hj (by unfold edA; simp [hj, he])
            have e := HFD.out
            rw [hix] at e
            obtain ⟨e1, e2⟩ := Prod.mk.inj e
            subst e1 e2
            clear hRt hIn hbr e HFD hix
            go_wp2_with fail
            go_ret2
            exact ⟨rfl, HBw2.out⟩
end Go.Proofs.YtpacjofepiojdaaDoor
