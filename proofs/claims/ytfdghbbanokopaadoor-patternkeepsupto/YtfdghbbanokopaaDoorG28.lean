/-
  PaFs, PaFt2, PaAw.
-/
import Derived.Shelf.Unicode.DecodeSlow
import Derived.Laws.RangeAny
import Derived.Shelf.Strconv.Itoa0
import Derived.Shelf.Unicode.DecodeAny
import Derived.Test.YtfdghbbanokopaaDoorProg
import Derived.WalkKit
import Derived.Deep.DeepFit
import Derived.Lib.OthersKept
import Derived.Lib.RuneCountTail
import Derived.Deep.AppendLies
import Derived.Deep.OwnRows
import Derived.Laws.AppendOwnNone
import Derived.Deep.QuietTactic
import Derived.BigQuiet
import Derived.Deep.RegionWith
import Derived.Laws.DeepStrings4
import Derived.Below
import Derived.Deep.RegionLaw
import Derived.Lib.QuietBelow
import Derived.StillTail
import Derived.Lib.MapLaws
import Derived.Sort.Walk0
import Derived.Lib.ItoaNum
import Derived.Maps.OwnSet
import Derived.StringKeys
import Derived.Deep.Slices
import Derived.Laws.ResultCell
import Derived.Deep.RegionHeld3
import Derived.Deep.DeepCutAuto
import Derived.Laws.IdiomStrings
import Derived.WalkSmall
import Derived.Laws.OwnMore
import Derived.Test.YtfdghbbanokopaaDoorG01
import Derived.Test.YtfdghbbanokopaaDoorG02
import Derived.Test.YtfdghbbanokopaaDoorG03
import Derived.Test.YtfdghbbanokopaaDoorG04
import Derived.Test.YtfdghbbanokopaaDoorG05
import Derived.Test.YtfdghbbanokopaaDoorG06
import Derived.Test.YtfdghbbanokopaaDoorG07
import Derived.Test.YtfdghbbanokopaaDoorG08
import Derived.Test.YtfdghbbanokopaaDoorG09
import Derived.Test.YtfdghbbanokopaaDoorG10
import Derived.Test.YtfdghbbanokopaaDoorG13
import Derived.Test.YtfdghbbanokopaaDoorG14
import Derived.Test.YtfdghbbanokopaaDoorG17
import Derived.Test.YtfdghbbanokopaaDoorG18
import Derived.Test.YtfdghbbanokopaaDoorG19
import Derived.Test.YtfdghbbanokopaaDoorG20
import Derived.Test.YtfdghbbanokopaaDoorG21
import Derived.Test.YtfdghbbanokopaaDoorG22
import Derived.Test.YtfdghbbanokopaaDoorG23
import Derived.Test.YtfdghbbanokopaaDoorG24
import Derived.Test.YtfdghbbanokopaaDoorG25
import Derived.Test.YtfdghbbanokopaaDoorG26
import Derived.Test.YtfdghbbanokopaaDoorG27
set_option linter.unusedSimpArgs false
set_option linter.unusedVariables false
namespace Go.Proofs.YtfdghbbanokopaaDoor
open Go.RowKit Go.Lib Go.Maps Go.Deep Go.Sort

/-- What Fits answers of a sound pattern and a sound expression. -/
def FitsP (w : World) (l x : List Nd) (e : Ending) (w' : World) : Prop :=
  Below w.heap.size w w' ∧ ((∃ v A, e = .returned (.tuple #[v, .int .i64 0]) ∧ PtM w' w.heap.size v A ∧ FtOk l x (psA A)) ∨ ((∀ qs, ¬ FtOk l x qs) ∧ e = .returned (.tuple #[.slice none 0 0, .int .i64 11])))
/-- On the way. -/
def FsSt (w : World) (l x : List Nd) (v : Value) (k a : Nat) (wr : World) : Prop := ∃ A, PtM wr w.heap.size v A ∧ FtI l x k a (psA A)
theorem neq_nil14 (ao : Option Addr) (n c : Nat) (w : World) : (binOp .neq 22 (.slice ao n c) (.slice none 0 0)).run Tryd.prog w = .ok (.bool ao.isSome) w := by
  cases ao <;> kernel_rfl
theorem sound_rd {w : World} {v : Value} {l : List Nd} {q : List (Nd × Value)} {base : Nat} (h : OwnP w base v q) (hq : q.map (·.1) = l) : ∃ ao cap, v = .slice ao l.length cap ∧ Rd w ao cap l := Rd_of_own ⟨q, hq, h⟩

set_option maxRecDepth 20000 in
set_option maxHeartbeats 4000000 in
theorem fits_walk {w : World} {ao bo : Option Addr} {cap cb n m h : Nat} {l x : List Nd} (hn : l.length = n + 1) (hm : x.length = m + 1) (hh : (hlsL l).length = h) (hT : Tabs w) (hN : Rd w ao cap l) (hnm : ∀ x ∈ l, x.name.size ≤ maxLen)
    (hX : Rd w bo cb x) (hp : patB l = true) (hs : sndB x = true) :
    Calls Tryd.prog 33 #[.slice ao (n + 1) cap, .slice bo (m + 1) cb] w fun e w' => FitsP w l x e w' := by
  have h16 := (patB_len hp).2
  rw [hn] at h16
  have hn15 : n ≤ 15 := by omega
  have h64 := (snd_len hs).2
  rw [hm] at h64
  have hm63 : m ≤ 63 := by omega
  have hlen6 : h ≤ 6 := by
    have h' := hp
    unfold patB at h'
    simp only [Bool.and_eq_true, decide_eq_true_eq] at h'
    omega
  clear h16 h64
  have HT : Hid (Tabs w) := hT
  have HN : Hid (Rd w ao cap l) := hN
  have HX : Hid (Rd w bo cb x) := hX
  have HNM : Hid (∀ x ∈ l, x.name.size ≤ maxLen) := hnm
  have HLn : Hid ((hlsL l).length = h) := hh
  have HND : Hid (l.length = n + 1) := hn
  have HXD : Hid (x.length = m + 1) := hm
  obtain ⟨fe, hfe⟩ := Option.isSome_iff_exists.1 hs
  obtain ⟨fr, hfr⟩ := Option.isSome_iff_exists.1 (patB_snd hp)
  have cR := read_ok hT.spans hN hnm hp
  rw [hn, hh] at cR
  have CC : Hid (∀ W, Below w.heap.size w W → Calls Tryd.prog 57 #[.slice bo (m + 1) cb] W fun e w' => e = .returned (.bool false) ∧ Below W.heap.size W w') := fun W hb => by
    have := unsound_any (hT.spans.below hb) (hX.below hb hb.size)
    rw [hs, hm] at this
    exact this
  clear hN hT hnm hp hs hn hm hh hX
  have hmk := run_make_row' (P := Tryd.prog) 44 22 (.slice none 0 0) 24 Tryd.underlying44 Tryd.infoNodes rfl .i64 .i64 h (by omega) (by omega)
  have HFE : Hid (begL x = some fe) := hfe
  have HFR : Hid (begL (l.map fillN) = some fr) := hfr
  clear hfe hfr
  go_enter Tryd.func33, Tryd.ntmps33
  go_wp2_with (go_at_call 55; refine cR.mono ?_; rintro e w1 ⟨va, vc, na, nc, M, rfl, hO, hb⟩; have HB1 : Hid (_) := hb; have HO : Hid (RdO w l (.slice va (n + 1) vc) (.slice na h nc) M w1) := hO; clear hO hb)
  have hs1 := HB1.out.size
  refine (CC.out _ (HB1.out.alloc hs1 _)).mono ?_
  rintro e w2 ⟨rfl, hb2⟩
  have e2 : w2.heap[w1.heap.size]? = some (.cells #[.slice va (n + 1) vc, .slice na h nc, .map (some M)] 90) := (hb2.block w1.heap.size (by simp)).trans (MapKept.heap_alloc w1 _).1
  have hb12 : Below w1.heap.size w1 w2 := ((Below.refl _ _).alloc (Nat.le_refl _) _).trans (hb2.mono (by simp))
  have HO2 : Hid (RdO w l (.slice va (n + 1) vc) (.slice na h nc) M w2) := HO.out.grow hs1 hb12
  have HB2 : Hid (Below w.heap.size w w2) := HB1.out.trans (hb12.mono hs1)
  have HE2 : Hid (_) := e2
  have hs2 := HB2.out.size
  have hl2 : w1.heap.size < w2.heap.size := lt_of_block e2
  have c1 : w2.cell? ⟨w1.heap.size, 1, none⟩ = some (.slice na h nc) := by rw [cell_of_heap e2]; rfl
  have HPT : Hid (PtM (w2.alloc (.cells (madeCells #[.slice none 0 0] h) 22)) w.heap.size (.slice (some ⟨w2.heap.size, 0, none⟩) h h) (List.replicate h (.slice none 0 0, []))) :=
    PtM.made h ⟨by simp, .inr ⟨w2.heap.size, h, _, rfl, hs2, heap_alloc_new w2 _, Nat.le_refl _, by unfold maxLen; omega, by rw [size_madeCells]; omega, by rw [toList_madeCells_one]; simp⟩⟩
  have HST : Hid (FsSt w l x (.slice (some ⟨w2.heap.size, 0, none⟩) h h) (n + 1) (m + 1) (w2.alloc (.cells (madeCells #[.slice none 0 0] h) 22))) := by
    refine ⟨_, HPT.out, ?_⟩
    have := FtI.start HFE.out HFR.out
    rw [HND.out, HXD.out, HLn.out] at this
    have e : psA (List.replicate h ((.slice none 0 0, []) : Pz)) = List.replicate h [] := by simp [psA]
    rw [e]; exact this
  have HBA : Hid (Below w2.heap.size w2 (w2.alloc (.cells (madeCells #[.slice none 0 0] h) 22))) := (Below.refl _ _).alloc (Nat.le_refl _) _
  clear HO hb12 hb2 e2 HB1 cR CC HPT
  go_wp2_with fail
  go_loopw [9, 10] (fun at_ i wr => ∃ k a : Nat, k ≤ n + 1 ∧ a ≤ m + 1 ∧ i = .int .i64 ((k : Int) - 1) ∧ at_ = .int .i64 ((a : Int) - 1) ∧ Below w2.heap.size w2 wr ∧ Hid (FsSt w l x (.slice (some ⟨w2.heap.size, 0, none⟩) h h) k a wr)) (fun _ i _ => (RowKit.intOf i + 1).toNat)
  case atStart => exact ⟨n + 1, m + 1, by omega, by omega, by first | rfl | go_num, by first | rfl | go_num, HBA.out, HST⟩
  case round =>
    obtain ⟨k, a, hk, ha, rfl, rfl, hbr, hst⟩ := hrel
    obtain ⟨A, hA, hF⟩ := hst.out
    have hsr := hbr.size
    have hbw := HB2.out.trans (hbr.mono hs2)
    have hsw := hbw.size
    by_cases hk0 : 0 < k
    · obtain ⟨j, rfl⟩ : ∃ j, k = j + 1 := ⟨k - 1, by omega⟩
      have ha0 := hF.pos HFR.out
      obtain ⟨c, rfl⟩ : ∃ c, a = c + 1 := ⟨a - 1, by omega⟩
      have hjl : j < l.length := by rw [HND.out]; omega
      have hcl : c < x.length := by rw [HXD.out]; omega
      obtain ⟨b, o, kv, rfl, hbk, hna⟩ := Rd.cell (HN.out.below hbw hsw) hjl
      obtain ⟨xb, xo, xkv, rfl, hxbk, hxna⟩ := Rd.cell (HX.out.below hbw hsw) hcl
      obtain ⟨q0, q1, q2, q3, q4⟩ := hna
      obtain ⟨y0, y1, y2, y3, y4⟩ := hxna
      obtain ⟨ka, kc, rfl, _⟩ := q4
      obtain ⟨xa, xc, rfl, _⟩ := y4
      have hjj : ((j + 1 : Nat) : Int) - 1 = (j : Int) := by omega
      have hcc : ((c + 1 : Nat) : Int) - 1 = (c : Int) := by omega
      rw [hjj, hcc]
      have hj0 : (0 : Int) ≤ (j : Int) := by omega
      have hj1 : (j : Int) < (n : Int) + 1 := by omega
      have hj2 : (j : Int) < ((n + 1 : Nat) : Int) := by omega
      have hc0 : (0 : Int) ≤ (c : Int) := by omega
      have hc1 : (c : Int) < (m : Int) + 1 := by omega
      have hc2 : (c : Int) < ((m + 1 : Nat) : Int) := by omega
      have HBR : Hid (Below w2.heap.size w2 wr) := hbr
      have HBW : Hid (Below w.heap.size w wr) := hbw
      have HA : Hid (PtM wr w.heap.size (.slice (some ⟨w2.heap.size, 0, none⟩) h h) A) := hA
      have HF : Hid (FtI l x (j + 1) (c + 1) (psA A)) := hF
      by_cases hop : (l.getD j nd0).op = 18
      · have hxm : l.getD j nd0 ∈ l := getD_mem hjl
        have hmem : (l.getD j nd0).name ∈ hlsL l := mem_hls hxm hop
        obtain ⟨z, hz⟩ : ∃ z, numL (hlsL l) (l.getD j nd0).name = z := ⟨_, rfl⟩
        have hzl : z < h := by rw [← hz, ← HLn.out]; exact numL_lt hmem
        have hnz : numZ (hlsL l) (l.getD j nd0).name = z := by rw [numZ_mem hmem, hz]
        have hAl : A.length = h := by
          obtain ⟨ao', cap', he⟩ := rw_form hA.row
          cases he; rfl
        obtain ⟨bb, hbb⟩ : ∃ bb, fe.getD c 0 = bb := ⟨_, rfl⟩
        obtain ⟨r, hr⟩ : ∃ r, partL x bb c = r := ⟨_, rfl⟩
        have hbc : bb ≤ c := by rw [← hbb]; exact (begOk_of (begL_some HFE.out).2.2.1).low c
        have hrl : r.length + bb = c + 1 := by rw [← hr, partL_len x bb c hcl hbc]; omega
        have hrs : sndB r = true := by
          obtain ⟨fo, hfo⟩ := part_snd HFE.out c hcl
          rw [hbb, hr] at hfo
          unfold sndB; rw [hfo]; rfl
        have HHO : Hid ((psA A).getD z [] = [] ∨ (psA A).getD z [] = r → FtI l x j bb ((psA A).set z r)) := fun hh => by
          have := HF.out.hole HFE.out hop
          rw [hz, hbb, hr] at this
          exact this hh
        have HCL : Hid ((psA A).getD z [] ≠ [] → (psA A).getD z [] ≠ r → ∀ qs, ¬ FtOk l x qs) := fun h1 h2 => by
          have := HF.out.clash HFE.out hop
          rw [hz, hbb, hr] at this
          exact this h1 h2
        have HAL : Hid ((psA A).getD z [] = [] ∨ sndB ((psA A).getD z []) = true) := HF.out.all z (by rw [psA_len, hAl]; exact hzl)
        have cP := part_q (.slice (some ⟨xb, xo, none⟩) x.length cb) x fe c bb wr wr.heap.size (Nat.le_refl _) (HT.out.spans.below hbw) (HX.out.below hbw hsw) HFE.out hcl hbb
        rw [hr, HXD.out] at cP
        obtain ⟨nM, hM⟩ := HO2.out.map
        have hnms : (l.getD j nd0).name.size ≤ maxLen := HNM.out _ hxm
        have hcR2 : wr.cell? ⟨w1.heap.size, 2, none⟩ = some (.map (some M)) := (hbr.cell (p := ⟨w1.heap.size, 2, none⟩) hl2).trans (by rw [cell_of_heap HE2.out]; rfl)
        have HCE : Hid (∀ W, Below wr.heap.size wr W → W.cell? ⟨w1.heap.size, 2, none⟩ = some (.map (some M)) ∧ W.cell? ⟨b, o + j * 4 + 2, none⟩ = some (.string (l.getD j nd0).name) ∧ (Instr.lookup 88 (.map (some M)) (.string (l.getD j nd0).name) false).run Tryd.prog W = .ok (.int .i64 (z : Nat)) W) := fun W hb => by
          refine ⟨(hb.cell (p := ⟨w1.heap.size, 2, none⟩) (by show w1.heap.size < wr.heap.size; omega)).trans hcR2, (hb.cell (p := ⟨b, o + j * 4 + 2, none⟩) hbk).trans q2, ?_⟩
          have := (hM.below (hbr.trans (hb.mono hsr))).look hnms
          rw [hnz] at this
          exact this
        have hmA : A.getD z (.slice none 0 0, []) ∈ A := getD_mem (by omega)
        have HEN : Hid (OwnP wr w.heap.size (A.getD z (.slice none 0 0, [])).1 (A.getD z (.slice none 0 0, [])).2 ∧ ((A.getD z (.slice none 0 0, [])).2 = [] → (A.getD z (.slice none 0 0, [])).1 = .slice none 0 0) ∧ (psA A).getD z [] = (A.getD z (.slice none 0 0, [])).2.map (·.1)) := ⟨hA.ownP hmA, hA.nils _ hmA, psA_at A z⟩
        have HPC : Hid (∀ W, Below wr.heap.size wr W → W.cell? ⟨w2.heap.size, z, none⟩ = some (A.getD z (.slice none 0 0, [])).1) := fun W hb => by
          obtain ⟨g, cap', he, hg, _, _, hc⟩ := row_cell hA.row (i := z) (by omega) (d := .slice none 0 0)
          cases he
          have e : (A.map (·.1)).getD z (.slice none 0 0) = (A.getD z (.slice none 0 0, [])).1 := by simp [show z < A.length by omega]
          rw [e] at hc
          exact (hb.cell (p := ⟨w2.heap.size, z, none⟩) hg).trans hc
        have HPF : Hid (∀ W, Below wr.heap.size wr W → W.frozen? ⟨w2.heap.size, z, none⟩ = false) := fun W hb => by
          obtain ⟨_, _, cap', cur, _, hc, _⟩ := rw_block hA.row (b := w2.heap.size) rfl
          exact frozen_of_heap ((hb.block _ (lt_of_block hc)).trans hc) _
        have HSE : Hid (∀ W v q, Below wr.heap.size wr W → q.map (·.1) = r → OwnP W wr.heap.size v q → KdAp q → ((psA A).getD z [] = [] ∨ (psA A).getD z [] = r) → FsSt w l x (.slice (some ⟨w2.heap.size, 0, none⟩) h h) j bb (W.setCell ⟨w2.heap.size, z, none⟩ v)) := fun W v q hb hq ho hk hh => by
          refine ⟨A.set z (v, q), HA.out.set hb hsw ho hk (by rintro rfl; simp at hq; exact snd_ne hrs (by first | exact hq.symm | exact hq)) (by omega), ?_⟩
          rw [psA_set]
          show FtI l x j bb ((psA A).set z (q.map (·.1)))
          rw [hq]
          exact HHO.out hh
        rw [hop] at q0
        clear hA hF hbr hbw hxm hmem hM hnms hcR2 q1 q2 q3 y0 y1 y2 y3 hop HF hnz hz hr hbb hmA HA HHO
        generalize (l.getD j nd0).name = nm at *
        have hzi : (z : Int) < (h : Int) := by omega
        have hz0 : (0 : Int) ≤ (z : Int) := by omega
        go_wp2_with fail
        refine cP.mono ?_
        rintro e w4 ⟨v4, rfl, ⟨q4, hq4, hO4, hA4⟩, hb4⟩
        obtain ⟨va4, vc4, rfl, hR4⟩ := sound_rd hO4 hq4
        have HQ4 : Hid (q4.map (·.1) = r) := hq4
        have HA4 : Hid (KdAp q4) := hA4
        have HRS : Hid (sndB r = true) := hrs
        have hrb : (c : Int) - (r.length : Int) = (bb : Int) - 1 := by omega
        have hwb : IntKind.i64.wrap ((bb : Int) - 1) = (bb : Int) - 1 := by rw [IntWalk.i64_in] <;> omega
        obtain ⟨k0, k1, k2⟩ := HCE.out w4 hb4
        go_wp2_with fail
        go_region_held3 (fun W => W.cell? ⟨w1.heap.size, 2, none⟩ = some (.map (some M)) ∧ W.cell? ⟨b, o + j * 4 + 2, none⟩ = some (.string nm) ∧ (Instr.lookup 88 (.map (some M)) (.string nm) false).run Tryd.prog W = .ok (.int .i64 (z : Nat)) W) (exact HCE.out _ (by repeat (first | assumption | exact Below.refl _ _ | refine Below.drew ?_))) (fail)
        have hbd : Below w4.heap.size w4 w4.drew := (Below.refl _ _).drew
        have hb5 : Below wr.heap.size wr w4.drew := hb4.drew
        have HO5 : Hid (OwnP w4.drew wr.heap.size (.slice va4 r.length vc4) q4) := ownP_below hO4 hbd
        have HR5 : Hid (Rd w4.drew va4 vc4 r) := hR4.below hbd hbd.size
        clear hO4 hR4 hb4 k0 k1 k2 hbd HCE hq4 hA4 hrs
        generalize w4.drew = w5 at *
        have HB5 : Hid (Below wr.heap.size wr w5) := hb5
        have hpc := HPC.out w5 hb5
        have hpf := HPF.out w5 hb5
        have hnq := neq_nil14
        by_cases hE : (A.getD z (.slice none 0 0, [])).2 = []
        · rw [HEN.out.2.1 hE] at hpc
          have HFIN : Hid (FsSt w l x (.slice (some ⟨w2.heap.size, 0, none⟩) h h) j bb (w5.setCell ⟨w2.heap.size, z, none⟩ (.slice va4 r.length vc4))) := HSE.out w5 _ q4 hb5 HQ4.out HO5.out HA4.out (.inl (by rw [HEN.out.2.2, hE]; rfl))
          have HBN : Hid (Below w2.heap.size w2 (w5.setCell ⟨w2.heap.size, z, none⟩ (.slice va4 r.length vc4))) := (HBR.out.trans (hb5.mono hsr)).setCell (p := ⟨w2.heap.size, z, none⟩) (Nat.le_refl _) _
          clear hb5 hE
          generalize r.length = rl at *
          go_wp2_with fail
          exact ⟨⟨j, bb, by omega, by omega, by first | rfl | go_num, by first | rfl | go_num, HBN.out, HFIN.out⟩, by simp [RowKit.intOf]; try omega⟩
        · obtain ⟨L, hL⟩ : ∃ L, (A.getD z (.slice none 0 0, [])).2.map (·.1) = L := ⟨_, rfl⟩
          obtain ⟨pa, pc, hpv, hRp⟩ := sound_rd HEN.out.1 hL
          have hLp : (psA A).getD z [] = L := by rw [HEN.out.2.2, hL]
          have hLne : L ≠ [] := by rw [← hL]; intro e; exact hE (List.map_eq_nil_iff.1 e)
          have hLs : sndB L = true := by
            have := HAL.out
            rw [hLp] at this
            exact this.resolve_left hLne
          rw [hpv] at hpc
          have hps : ∃ ad, pa = some ad := by
            obtain ⟨ao', cap', e, _, _, hc⟩ := id hRp
            cases e
            rcases hc with h | ⟨b', o', h, _⟩
            · exact absurd h hLne
            · exact ⟨_, h⟩
          obtain ⟨pad, rfl⟩ := hps
          have cS := same14_any (HT.out.below (HBW.out.trans (hb5.mono hsw))) (hRp.below hb5 hb5.size) HR5.out hLs HRS.out
          have HHE : Hid (decide (L = r) = true → (psA A).getD z [] = r) := fun e => by rw [hLp]; exact of_decide_eq_true e
          have HHN : Hid (decide (L = r) = false → ∀ qs, ¬ FtOk l x qs) := fun e => HCL.out (by rw [hLp]; exact hLne) (by rw [hLp]; exact of_decide_eq_false e)
          clear hE hL hRp hLp hLne hLs hpv hb5 HEN HCL HAL
          generalize L.length = Ll at *
          generalize decide (L = r) = R at *
          generalize r.length = rl at *
          cases R
          · go_wp2_with (go_at_call 59; refine cS.mono ?_; rintro e w6 ⟨rfl, hb6⟩; have HB6 : Hid (Below w.heap.size w w6) := HBW.out.trans ((HB5.out.trans (hb6.mono HB5.out.size)).mono hsw); clear hb6)
            go_ret2
            exact ⟨HB6.out, .inr ⟨HHN.out (by simp), rfl⟩⟩
          · go_wp2_with (go_at_call 59; refine cS.mono ?_; rintro e w6 ⟨rfl, hb6⟩; have HB6 : Hid (Below wr.heap.size wr w6) := HB5.out.trans (hb6.mono HB5.out.size); have HO6 : Hid (OwnP w6 wr.heap.size (.slice va4 rl vc4) q4) := ownP_below HO5.out hb6; have hpf6 := HPF.out w6 HB6.out; have hpc6 := HPC.out w6 HB6.out; clear hb6)
            refine ⟨⟨j, bb, by omega, by omega, by first | rfl | go_num, by first | rfl | go_num, (HBR.out.trans (HB6.out.mono hsr)).setCell (p := ⟨w2.heap.size, z, none⟩) (Nat.le_refl _) _, ?_⟩, by simp [RowKit.intOf]; try omega⟩
            exact HSE.out w6 _ q4 HB6.out HQ4.out HO6.out HA4.out (.inr (HHE.out (by simp)))
      · have HSK : Hid (hd (l.getD j nd0) = hd (x.getD c nd0) → ∀ w', Below wr.heap.size wr w' → FsSt w l x (.slice (some ⟨w2.heap.size, 0, none⟩) h h) j c w') := fun he w' hb => ⟨A, HA.out.below hb, HF.out.skip hop he⟩
        have HDF : Hid (hd (l.getD j nd0) ≠ hd (x.getD c nd0) → ∀ qs, ¬ FtOk l x qs) := fun he => HF.out.differ hop he
        have g18 : ((l.getD j nd0).op != 18) = true := by simpa using hop
        have cA : Hid (∀ W, Calls Tryd.prog 58 #[.agg #[.int .i64 (l.getD j nd0).op, .int .i64 (l.getD j nd0).n, .string (l.getD j nd0).name, .slice ka (l.getD j nd0).kids.length kc], .agg #[.int .i64 (x.getD c nd0).op, .int .i64 (x.getD c nd0).n, .string (x.getD c nd0).name, .slice xa (x.getD c nd0).kids.length xc] ] W fun e w' => e = .returned (.bool (decide (hd (l.getD j nd0) = hd (x.getD c nd0)))) ∧ Below W.heap.size W w') := fun W => alike_any _ _ _ _ _ _ _ _
        obtain ⟨R, hR⟩ : ∃ R, decide (hd (l.getD j nd0) = hd (x.getD c nd0)) = R := ⟨_, rfl⟩
        have HR : Hid (decide (hd (l.getD j nd0) = hd (x.getD c nd0)) = R) := hR
        rw [hR] at cA
        clear hA hF hbr hbw hop hR HF HA
        generalize (l.getD j nd0).kids.length = kl at *
        generalize (x.getD c nd0).kids.length = xl at *
        generalize hd (l.getD j nd0) = hl at *
        generalize hd (x.getD c nd0) = hx at *
        generalize (l.getD j nd0).name = nm at *
        generalize (l.getD j nd0).n = nn at *
        generalize (l.getD j nd0).op = oo at *
        generalize (x.getD c nd0).name = xnm at *
        generalize (x.getD c nd0).n = xnn at *
        generalize (x.getD c nd0).op = xoo at *
        have cA2 : Hid (∀ d os, Calls Tryd.prog 58 #[.agg #[.int .i64 oo, .int .i64 nn, .string nm, .slice ka kl kc], .agg #[.int .i64 xoo, .int .i64 xnn, .string xnm, .slice xa xl xc] ] (grow (redrawn wr d) os) fun e w'' => e = .returned (.bool R) ∧ ∃ p : Regrown, w'' = grow (redrawn wr p.d) p.os) := fun d os => Calls.regrown_of (cA.out _)
        have r0 := cell_regrown q0
        have r1 := cell_regrown q1
        have r2 := cell_regrown q2
        have r3 := cell_regrown q3
        have s0 := cell_regrown y0
        have s1 := cell_regrown y1
        have s2 := cell_regrown y2
        have s3 := cell_regrown y3
        cases R
        · go_wp2_with fail
          refine wp_region_quiet_below (by kernel_rfl) (by kernel_rfl) ?_
          iterate 10 (go_big_quiet_step ((go_at_call 58; exact cA2.out _ _)))
          refine wpQuiet_nil ?_
          intro _ hw'
          obtain ⟨⟨ds, oss⟩, hw''⟩ := hw'
          subst hw''
          have HB9 : Hid (Below w.heap.size w (grow (redrawn wr ds) oss)) := HBW.out.trans ((below_regrown wr ds oss).mono hsw)
          go_wp2_with fail
          go_ret2
          exact ⟨HB9.out, .inr ⟨HDF.out (of_decide_eq_false HR.out), rfl⟩⟩
        · go_wp2_with fail
          refine wp_region_quiet_below (by kernel_rfl) (by kernel_rfl) ?_
          iterate 10 (go_big_quiet_step ((go_at_call 58; exact cA2.out _ _)))
          refine wpQuiet_nil ?_
          intro _ hw'
          obtain ⟨⟨ds, oss⟩, hw''⟩ := hw'
          subst hw''
          have HB9 : Hid (Below wr.heap.size wr (grow (redrawn wr ds) oss)) := below_regrown wr ds oss
          go_wp2_with fail
          exact ⟨⟨j, c, by omega, by omega, by first | rfl | go_num, by first | rfl | go_num, HBR.out.trans (HB9.out.mono hsr), HSK.out (of_decide_eq_true HR.out) _ HB9.out⟩, by simp [RowKit.intOf]; try omega⟩
    · obtain rfl : k = 0 := by omega
      have HD : Hid (FitsP w l x (.returned (.tuple #[.slice (some ⟨w2.heap.size, 0, none⟩) h h, .int .i64 0])) wr) := ⟨hbw, .inl ⟨_, A, rfl, hA, hF.done HFE.out⟩⟩
      clear hA hF hbr hbw
      go_wp2_with fail
      go_ret2
      exact HD.out
end Go.Proofs.YtfdghbbanokopaaDoor

set_option linter.unusedSimpArgs false
set_option linter.unusedVariables false
namespace Go.Proofs.YtfdghbbanokopaaDoor
open Go.RowKit Go.Lib Go.Maps Go.Deep

/-- An answer with a list of lists of nodes of its own. -/
def AnP (w : World) (L : List (List Nd)) (c : Int) (e : Ending) (w' : World) : Prop := ∃ v A, e = .returned (.tuple #[v, .int .i64 c]) ∧ PtM w' w.heap.size v A ∧ psA A = L ∧ Below w.heap.size w w'
theorem PtM_nil (w : World) (base : Nat) : PtM w base (.slice none 0 0) [] := ⟨World.ownsRow_nil _ _ _ _, ⟨by simp [rwA], List.Pairwise.nil⟩, ⟨by simp [kdA], List.Pairwise.nil⟩, by simp⟩
theorem anP_nil {w w' : World} {c : Int} {e : Ending} (he : e = .returned (.tuple #[.slice none 0 0, .int .i64 c])) (hb : Below w.heap.size w w') : AnP w [] c e w' := ⟨_, [], he, PtM_nil _ _, rfl, hb⟩

set_option maxRecDepth 20000 in
set_option maxHeartbeats 2000000 in
theorem fits_bad1 {w : World} {ao bo : Option Addr} {cap cb : Nat} {l x : List Nd} (hT : SpanCells w) (hN : Rd w ao cap l) (hnm : ∀ x ∈ l, x.name.size ≤ maxLen) (hp : patB l = false) :
    Calls Tryd.prog 33 #[.slice ao l.length cap, .slice bo x.length cb] w fun e w' => AnP w [] 1 e w' := by
  have cR := read_bad hT hN hnm hp
  clear hN hT hnm hp
  go_enter Tryd.func33, Tryd.ntmps33
  go_wp2_with (go_at_call 55; refine cR.mono ?_; rintro e w1 ⟨rfl, hb⟩; have HB : Hid (_) := hb; clear hb)
  go_ret2
  exact anP_nil rfl (HB.out.alloc HB.out.size _)

set_option maxRecDepth 20000 in
set_option maxHeartbeats 2000000 in
theorem fits_bad2 {w : World} {ao bo : Option Addr} {cap cb : Nat} {l x : List Nd} (hT : SpanCells w) (hN : Rd w ao cap l) (hnm : ∀ x ∈ l, x.name.size ≤ maxLen) (hp : patB l = true) (hX : Rd w bo cb x) (hs : sndB x = false) :
    Calls Tryd.prog 33 #[.slice ao l.length cap, .slice bo x.length cb] w fun e w' => AnP w [] 1 e w' := by
  have cR := read_ok hT hN hnm hp
  have CC : Hid (∀ W, Below w.heap.size w W → Calls Tryd.prog 57 #[.slice bo x.length cb] W fun e w' => e = .returned (.bool true) ∧ Below W.heap.size W w') := fun W hb => by
    have := unsound_any (hT.below hb) (hX.below hb hb.size)
    rw [hs] at this
    exact this
  clear hN hT hnm hp hX hs
  go_enter Tryd.func33, Tryd.ntmps33
  go_wp2_with (go_at_call 55; refine cR.mono ?_; rintro e w1 ⟨va, vc, na, nc, M, rfl, hO, hb⟩; have HB1 : Hid (_) := hb; clear hO hb)
  have hs1 := HB1.out.size
  refine (CC.out _ (HB1.out.alloc hs1 _)).mono ?_
  rintro e w2 ⟨rfl, hb2⟩
  have HB2 : Hid (Below w.heap.size w w2) := (HB1.out.alloc hs1 _).trans (hb2.mono (by simp; omega))
  clear hb2
  go_wp2_with fail
  go_ret2
  exact anP_nil rfl HB2.out

/-- Fits, with one answer. -/
structure FtC (l x : List Nd) (L : List (List Nd)) (c : Int) : Prop where
  ways : (c = 0 ∧ patB l = true ∧ sndB x = true ∧ FtOk l x L) ∨ (c = 1 ∧ L = [] ∧ (patB l = false ∨ sndB x = false)) ∨ (c = 11 ∧ L = [] ∧ patB l = true ∧ sndB x = true ∧ ∀ qs, ¬ FtOk l x qs)
theorem fitsX (l x : List Nd) : ∃ L c, FtC l x L c ∧ ∀ (W : World) (ao bo : Option Addr) (cap cb : Nat), Tabs W → Rd W ao cap l → (∀ x ∈ l, x.name.size ≤ maxLen) → Rd W bo cb x →
    Calls Tryd.prog 33 #[.slice ao l.length cap, .slice bo x.length cb] W fun e w' => AnP W L c e w' := by
  cases hp : patB l with
  | false => exact ⟨[], 1, ⟨.inr (.inl ⟨rfl, rfl, .inl hp⟩)⟩, fun W ao bo cap cb hT hN hnm hX => fits_bad1 hT.spans hN hnm hp⟩
  | true =>
    cases hs : sndB x with
    | false => exact ⟨[], 1, ⟨.inr (.inl ⟨rfl, rfl, .inr hs⟩)⟩, fun W ao bo cap cb hT hN hnm hX => fits_bad2 hT.spans hN hnm hp hX hs⟩
    | true =>
      obtain ⟨n, hn⟩ : ∃ n, l.length = n + 1 := ⟨l.length - 1, by have := (patB_len hp).1; omega⟩
      obtain ⟨m, hm⟩ : ∃ m, x.length = m + 1 := ⟨x.length - 1, by have := (snd_len hs).1; omega⟩
      have cw : ∀ (W : World) (ao bo : Option Addr) (cap cb : Nat), Tabs W → Rd W ao cap l → (∀ x ∈ l, x.name.size ≤ maxLen) → Rd W bo cb x → Calls Tryd.prog 33 #[.slice ao l.length cap, .slice bo x.length cb] W fun e w' => FitsP W l x e w' := fun W ao bo cap cb hT hN hnm hX => by
        rw [hn, hm]; exact fits_walk hn hm rfl hT hN hnm hX hp hs
      obtain ⟨fe, hfe⟩ := Option.isSome_iff_exists.1 hs
      by_cases hq : ∃ qs, FtOk l x qs
      · obtain ⟨qs, hq⟩ := hq
        refine ⟨qs, 0, ⟨.inl ⟨rfl, hp, hs, hq⟩⟩, fun W ao bo cap cb hT hN hnm hX => (cw W ao bo cap cb hT hN hnm hX).mono ?_⟩
        rintro e w' ⟨hb, ⟨v, A, he, hA, hf⟩ | ⟨hno, _⟩⟩
        · exact ⟨v, A, he, hA, hf.one hfe hq, hb⟩
        · exact absurd hq (hno qs)
      · refine ⟨[], 11, ⟨.inr (.inr ⟨rfl, rfl, hp, hs, fun qs h => hq ⟨qs, h⟩⟩)⟩, fun W ao bo cap cb hT hN hnm hX => (cw W ao bo cap cb hT hN hnm hX).mono ?_⟩
        rintro e w' ⟨hb, ⟨v, A, he, hA, hf⟩ | ⟨hno, he⟩⟩
        · exact absurd ⟨_, hf⟩ hq
        · exact anP_nil he hb
/-- Holes, with one answer. -/
theorem holesX (l : List Nd) : ∃ ks c, ((c = 0 ∧ patB l = true ∧ ks = hlsL l) ∨ (c = 1 ∧ patB l = false ∧ ks = [])) ∧ ∀ (W : World) (ao : Option Addr) (cap : Nat), SpanCells W → Rd W ao cap l → (∀ x ∈ l, x.name.size ≤ maxLen) →
    Calls Tryd.prog 34 #[.slice ao l.length cap] W fun e w' => ∃ na nc, e = .returned (.tuple #[.slice na ks.length nc, .int .i64 c]) ∧ w'.ownsRow W.heap.size 9 1 (.slice na ks.length nc) ks.length (ks.map Value.string) ∧ Below W.heap.size W w' := by
  cases hp : patB l with
  | true => exact ⟨hlsL l, 0, .inl ⟨rfl, rfl, rfl⟩, fun W ao cap hT hN hnm => holes14_ok hT hN hnm hp⟩
  | false =>
    refine ⟨[], 1, .inr ⟨rfl, rfl, rfl⟩, fun W ao cap hT hN hnm => (holes14_bad hT hN hnm hp).mono ?_⟩
    rintro e w' ⟨he, hb⟩
    exact ⟨none, 0, he, World.ownsRow_nil _ _ _ _, hb⟩
end Go.Proofs.YtfdghbbanokopaaDoor

set_option linter.unusedSimpArgs false
set_option linter.unusedVariables false
namespace Go.Proofs.YtfdghbbanokopaaDoor
open Go.RowKit Go.Lib Go.Maps Go.Deep

def hole1 : Nd := ⟨18, 0, ⟨#[97]⟩, []⟩
theorem hole1_pat : patB [hole1] = true := by decide +kernel
theorem hole1_hls : hlsL [hole1] = [⟨#[97]⟩] := by decide +kernel
theorem Rd_hole1 (w : World) : Rd (w.alloc (.cells #[.int .i64 18, .int .i64 0, .string ⟨#[97]⟩, .slice none 0 0] 50)) (some ⟨w.heap.size, 0, none⟩) 1 [hole1] := by
  refine ⟨_, _, rfl, by simp, by unfold maxLen; omega, .inr ⟨_, _, rfl, by simp, fun i hi => ?_⟩⟩
  have : i = 0 := by simp at hi; omega
  subst this
  refine ⟨.slice none 0 0, ?_, ?_, ?_, ?_, ⟨none, 0, rfl, by simp [hole1], by simp [hole1, maxLen], .inl rfl⟩⟩ <;> simp [hole1, World.cell?_alloc_at]

set_option maxRecDepth 20000 in
set_option maxHeartbeats 2000000 in
theorem awake14_any (w : World) (hT : SpanCells w) :
    Calls Tryd.prog 27 #[] w fun e W' => e = .returned (.bool true) ∧ Below w.heap.size w W' := by
  have hb1 : Below w.heap.size w (w.alloc (.cells #[.int .i64 18, .int .i64 0, .string ⟨#[97]⟩, .slice none 0 0] 50)) := (Below.refl _ _).alloc (Nat.le_refl _) _
  have cE : Hid (Calls Tryd.prog 34 #[.slice (some ⟨w.heap.size, 0, none⟩) 1 1] (w.alloc (.cells #[.int .i64 18, .int .i64 0, .string ⟨#[97]⟩, .slice none 0 0] 50)) fun e w' => ∃ g nc, e = .returned (.tuple #[.slice (some ⟨g, 0, none⟩) 1 nc, .int .i64 0]) ∧ w'.cell? ⟨g, 0, none⟩ = some (.string ⟨#[97]⟩) ∧ Below w.heap.size w w') := by
    have := holes14_ok (l := [hole1]) (hT.below hb1) (Rd_hole1 w) (by simp [hole1]; decide) hole1_pat
    refine this.mono ?_
    rintro e w' ⟨na, nc, rfl, ho, hb⟩
    have ho := row_cell ho (i := 0) (by rw [hole1_hls]; simp) (d := .string ⟨#[97]⟩)
    obtain ⟨g, cap, he, _, _, _, hc⟩ := ho
    cases he
    rw [hole1_hls] at hc
    exact ⟨g, nc, rfl, hc, hb1.trans (hb.mono (by simp))⟩
  clear hb1
  go_enter Tryd.func27, Tryd.ntmps27
  go_wp2_with fail
  refine cE.out.mono ?_
  rintro e w2 ⟨g, nc, rfl, hc, hb2⟩
  have HB2 : Hid (_) := hb2
  clear hb2
  go_wp2_with fail
  go_ret
  exact ⟨rfl, HB2.out⟩

end Go.Proofs.YtfdghbbanokopaaDoor
