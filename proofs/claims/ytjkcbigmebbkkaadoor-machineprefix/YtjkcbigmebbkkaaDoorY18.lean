/-
  PaSm, MaS.
-/
import Derived.Shelf.Unicode.DecodeSlow
import Derived.Laws.RangeAny
import Derived.Shelf.Strconv.Itoa0
import Derived.Shelf.Unicode.DecodeAny
import Derived.Test.YtjkcbigmebbkkaaDoorProg
import Derived.WalkKit
import Derived.Deep.DeepFit
import Derived.Lib.OthersKept
import Derived.Lib.RuneCountTail
import Derived.Deep.AppendLies
import Derived.Deep.OwnRows
import Derived.Laws.AppendOwnNone
import Derived.Deep.QuietTactic
import Derived.BigQuiet
import Derived.Deep.RegionWith
import Derived.Laws.DeepStrings4
import Derived.Laws.CopyOwn
import Derived.Laws.MakeOwn
import Derived.Deep.RegionLaw
import Derived.Below
import Derived.Deep.RegionHeld3
import Derived.Lib.QuietBelow
import Derived.StillTail
import Derived.Lib.MapLaws
import Derived.Sort.Walk0
import Derived.Lib.ItoaNum
import Derived.Maps.OwnSet
import Derived.StringKeys
import Derived.Deep.Slices
import Derived.Laws.ResultCell
import Derived.Test.YtjkcbigmebbkkaaDoorY01
import Derived.Test.YtjkcbigmebbkkaaDoorY02
import Derived.Test.YtjkcbigmebbkkaaDoorY03
import Derived.Test.YtjkcbigmebbkkaaDoorY04
import Derived.Test.YtjkcbigmebbkkaaDoorY05
import Derived.Test.YtjkcbigmebbkkaaDoorY06
import Derived.Test.YtjkcbigmebbkkaaDoorY07
import Derived.Test.YtjkcbigmebbkkaaDoorY08
import Derived.Test.YtjkcbigmebbkkaaDoorY09
import Derived.Test.YtjkcbigmebbkkaaDoorY10
import Derived.Test.YtjkcbigmebbkkaaDoorY11
import Derived.Test.YtjkcbigmebbkkaaDoorY12
import Derived.Test.YtjkcbigmebbkkaaDoorY13
import Derived.Test.YtjkcbigmebbkkaaDoorY14
import Derived.Test.YtjkcbigmebbkkaaDoorY15
import Derived.Test.YtjkcbigmebbkkaaDoorY16
import Derived.Test.YtjkcbigmebbkkaaDoorY17
set_option linter.unusedSimpArgs false
set_option linter.unusedVariables false
namespace Go.Proofs.YtjkcbigmebbkkaaDoor
open Go.RowKit Go.Lib Go.Maps Go.Deep

theorem read_ok {w : World} {ao : Option Addr} {cap : Nat} {l : List Nd} (hT : SpanCells w) (hN : Rd w ao cap l) (hnm : ∀ x ∈ l, x.name.size ≤ maxLen) (hp : patB l = true) :
    Calls Tryd.prog 83 #[.slice ao l.length cap] w fun e w' => ∃ va vc na nc M, e = .returned (.tuple #[.agg #[.slice va l.length vc, .slice na (hlsL l).length nc, .map (some M)], .int .i64 0]) ∧ RdO w l (.slice va l.length vc) (.slice na (hlsL l).length nc) M w' ∧ Below w.heap.size w w' := by
  refine (read_any hT hN hnm).mono ?_
  rintro e w' ⟨hb, ⟨_, v, nv, M, rfl, hO⟩ | ⟨hf, _⟩⟩
  · obtain ⟨na, nc, rfl⟩ := row_form' hO.row
    obtain ⟨p, hp1, hc⟩ := hO.p
    obtain ⟨va, vc, hv⟩ := row_form' hc.row
    have hpl : p.length = l.length := by have := congrArg List.length hp1; simpa using this
    rw [hpl] at hv
    subst hv
    exact ⟨va, vc, na, nc, M, rfl, hO, hb⟩
  · rw [hp] at hf; cases hf
set_option maxRecDepth 20000 in
set_option maxHeartbeats 2000000 in
theorem holes14_ok {w : World} {ao : Option Addr} {cap : Nat} {l : List Nd} (hT : SpanCells w) (hN : Rd w ao cap l) (hnm : ∀ x ∈ l, x.name.size ≤ maxLen) (hp : patB l = true) :
    Calls Tryd.prog 59 #[.slice ao l.length cap] w fun e w' => ∃ na nc, e = .returned (.tuple #[.slice na (hlsL l).length nc, .int .i64 0]) ∧ w'.ownsRow w.heap.size 9 1 (.slice na (hlsL l).length nc) (hlsL l).length ((hlsL l).map Value.string) ∧ Below w.heap.size w w' := by
  have cR := read_ok hT hN hnm hp
  clear hN hT hnm hp
  have hhl := hlsL_len l
  obtain ⟨P, hP⟩ : ∃ P : Value → World → Prop, ∀ v W, P v W ↔ W.ownsRow w.heap.size 9 1 v (hlsL l).length ((hlsL l).map Value.string) := ⟨fun v W => _, fun v W => Iff.rfl⟩
  have HP : Hid (∀ v W, P v W ↔ W.ownsRow w.heap.size 9 1 v (hlsL l).length ((hlsL l).map Value.string)) := hP
  suffices hh : Calls Tryd.prog 59 #[.slice ao l.length cap] w fun e w' => ∃ na nc, e = .returned (.tuple #[.slice na (hlsL l).length nc, .int .i64 0]) ∧ P (.slice na (hlsL l).length nc) w' ∧ Below w.heap.size w w' from
    hh.mono fun e w' ⟨na, nc, h1, h2, h3⟩ => ⟨na, nc, h1, (HP.out _ _).1 h2, h3⟩
  clear hP
  go_enter Tryd.func59, Tryd.ntmps59
  go_wp2_with (go_at_call 83; refine cR.mono ?_; rintro e w1 ⟨va, vc, na, nc, M, rfl, hO, hb⟩; have HB : Hid (_) := hb; have HO : Hid (w1.ownsRow w.heap.size 9 1 (.slice na (hlsL l).length nc) (hlsL l).length ((hlsL l).map Value.string)) := hO.row; clear hO hb)
  go_ret2
  exact ⟨na, nc, rfl, (HP.out _ _).2 (ownsRow_below HO.out ((Below.refl _ _).alloc (Nat.le_refl _) _)), HB.out.alloc HB.out.size _⟩

end Go.Proofs.YtjkcbigmebbkkaaDoor

set_option linter.unusedSimpArgs false
set_option linter.unusedVariables false
namespace Go.Proofs.YtjkcbigmebbkkaaDoor
open Go.RowKit Go.Lib Go.Maps

theorem Tryd.infoCmd : (Tryd.prog.info? 68).map (fun i => (i.zero, i.size, i.bytes)) = some (some (.agg #[.int .i64 0, .int .i64 0, .int .i64 0, .int .i64 0, .int .i64 0, .string ⟨#[]⟩]), 6, 56) := by kernel_rfl
theorem cell_new6 {w : World} {a b c d e f : Value} {T : TypeId} : ∀ j v, [a, b, c, d, e, f][j]? = some v → (w.alloc (.cells #[a, b, c, d, e, f] T)).drew.cell? ((⟨w.heap.size, 0, none⟩ : Addr).add j) = some v := fun j v h => by
  have hb : (w.alloc (.cells #[a, b, c, d, e, f] T)).drew.heap[w.heap.size]? = some (.cells #[a, b, c, d, e, f] T (0, 0)) := (MapKept.heap_alloc w _).1
  exact World.news_of_block hb j v h
theorem cell_new6' {w : World} {a b c d e f : Value} {T : TypeId} : ∀ j v, [a, b, c, d, e, f][j]? = some v → (w.alloc (.cells #[a, b, c, d, e, f] T)).cell? ((⟨w.heap.size, 0, none⟩ : Addr).add j) = some v := fun j v h => by
  have hb : (w.alloc (.cells #[a, b, c, d, e, f] T)).heap[w.heap.size]? = some (.cells #[a, b, c, d, e, f] T (0, 0)) := (MapKept.heap_alloc w _).1
  exact World.news_of_block hb j v h
/-- The box of a node. -/
theorem nd_box (w : World) (op n : Int) (name : ByteArray) (kv : Value) : ∃ wA, w.alloc (.cells #[.int .i64 op, .int .i64 n, .string name, kv] 71) = wA ∧ Below w.heap.size w wA ∧ (∀ W, Below wA.heap.size wA W → W.cell? ⟨w.heap.size, 0, none⟩ = some (.int .i64 op) ∧ W.cell? ⟨w.heap.size, 1, none⟩ = some (.int .i64 n) ∧ W.cell? ⟨w.heap.size, 2, none⟩ = some (.string name) ∧ W.cell? ⟨w.heap.size, 3, none⟩ = some kv) ∧ wA.heap.size = w.heap.size + 1 := by
  refine ⟨_, rfl, (Below.refl _ _).alloc (Nat.le_refl _) _, fun W hb => ?_, by simp⟩
  have hk : W.heap[w.heap.size]? = some (.cells #[.int .i64 op, .int .i64 n, .string name, kv] 71 (0, 0)) := (hb.block _ (by simp)).trans (MapKept.heap_alloc w _).1
  refine ⟨?_, ?_, ?_, ?_⟩ <;> rw [cell_of_heap hk] <;> rfl
/-- Between two nodes. -/
def CpR (w1 : World) (l : List Nd) (j : Nat) (pv : Value) (wr : World) : Prop := ∃ k, k ≤ j ∧ CpM w1.heap.size l.length (cpF l j) pv w1.heap.size (w1.heap.size + 1) k wr ∧ Below w1.heap.size w1 wr

set_option maxRecDepth 20000 in
set_option maxHeartbeats 8000000 in
theorem compile_ok {w : World} {ao : Option Addr} {cap : Nat} {l : List Nd} (hT : SpanCells w) (hN : Rd w ao cap l) (hnm : ∀ x ∈ l, x.name.size ≤ maxLen) (hp : patB l = true) :
    Calls Tryd.prog 31 #[.slice ao l.length cap] w fun e w' => ∃ pa pc, e = .returned (.tuple #[.slice pa l.length pc, .int .i64 0]) ∧ w'.ownsRow w.heap.size 68 6 (.slice pa l.length pc) l.length (cmCells (cpF l l.length).prog) ∧ Below w.heap.size w w' := by
  obtain ⟨hl16, hk6, _⟩ := patB_beg hp
  obtain ⟨hc1, hc2⟩ := hN.bound
  unfold maxLen at hc2
  have cH := holes14_ok hT hN hnm hp
  obtain ⟨i0, hi, hz0, hz1, hz2⟩ := info_parts Tryd.infoCmd
  have hmk := run_make_row' (P := Tryd.prog) 61 3 (.int .i64 0) 8 Tryd.underlying61 Tryd.info3 rfl .i64 .i64 l.length (by omega) (by omega)
  have hmm := @run_makeMap Tryd.prog
  have HN : Hid (Rd w ao cap l) := hN
  have HM : Hid (∀ x ∈ l, x.name.size ≤ maxLen) := hnm
  have HP : Hid (patB l = true) := hp
  have HK6 : Hid ((hlsL l).length ≤ 6) := hk6
  have HCI : Hid (∀ j, j ≤ l.length → CpI l j (cpF l j)) := cp_inv hp
  clear hT hN hnm hp hk6
  go_enter Tryd.func31, Tryd.ntmps31
  go_wp2_with fail
  refine cH.mono ?_
  rintro e w1 ⟨na, nc, rfl, hrow, hb1⟩
  obtain ⟨na', nc', e1, hS⟩ := Strs_of_own hrow
  simp only [Value.slice.injEq] at e1
  obtain ⟨rfl, _, rfl⟩ := e1
  have HS : Hid (Strs w1 na nc (hlsL l)) := hS
  have HB1 : Hid (Below w.heap.size w w1) := hb1
  have HST : Hid (CpR w1 l 0 (.slice none 0 0) ((w1.alloc (.cells (madeCells #[.int .i64 0] l.length) 3)).alloc (.map #[] 0))) := ⟨0, Nat.le_refl _, CpM.start l (by omega), ((Below.refl _ _).alloc (Nat.le_refl _) _).alloc (by simp) _⟩
  have hw1 : IntKind.i64.wrap ((l.length : Int) - 1) = (l.length : Int) - 1 := by rw [IntKind.wrap_i64]; omega
  clear hrow hS hb1 cH
  go_wp2_with fail
  go_loopw [6, 9, 10] (fun pv rg i wr => ∃ j : Nat, j ≤ l.length ∧ i = .int .i64 ((l.length : Int) - 1 - j) ∧ rg = .int .i64 ((cpF l j).regs : Nat) ∧ CpR w1 l j pv wr) (fun pv rg i _ => (RowKit.intOf i + 1).toNat)
  case atStart => exact ⟨0, by omega, by simp, rfl, HST.out⟩
  case round =>
    obtain ⟨j, hj, rfl, rfl, k, hk, hM, hbw⟩ := hrel
    by_cases hlt : j < l.length
    · obtain ⟨i, hix⟩ : ∃ i, l.length - 1 - j = i := ⟨_, rfl⟩
      have hi2 : i < l.length := by omega
      have hii : (l.length : Int) - 1 - (j : Int) = (i : Int) := by omega
      obtain ⟨x, hx⟩ : ∃ x, l.getD i nd0 = x := ⟨_, rfl⟩
      have hmem : x ∈ l := by rw [← hx]; exact getD_mem hi2
      obtain ⟨hkd, hfm⟩ := pat_node HP.out hi2
      have hI := HCI.out j hj
      have hnx : cpF l (j + 1) = cpS (hlsL l) x i (cpF l j) := by show cpS _ _ _ _ = _; rw [hix, hx]
      rw [hx] at hkd hfm
      have hbW : Below w.heap.size w wr := HB1.out.trans (hbw.mono HB1.out.size)
      obtain ⟨b, o, kv, rfl, hbk, hna0⟩ := Rd.cell HN.out hi2
      have hna := hna0.below hbW (Nat.le_refl _) hbk
      rw [hx] at hna hna0
      have hki0 := hna0.kids
      clear hna0
      obtain ⟨pva, pvc, hpv⟩ := row_form' hM.prow
      rw [hI.plen] at hpv
      subst hpv
      obtain ⟨x0, x1, x2, x3, hki⟩ := hna
      obtain ⟨ka, kc, rfl, hkl, ⟨hkc, _⟩, _⟩ := hki
      obtain ⟨ka', kc', hke, _, _, hkk⟩ := hki0
      simp only [Value.slice.injEq] at hke
      obtain ⟨rfl, _, rfl⟩ := hke
      unfold maxLen at hkc
      have hnmx := HM.out x hmem
      have hat := hM.at_ hi2
      have hpr : 0 ≤ (cpF l j).place.getD i 0 ∧ (cpF l j).place.getD i 0 < ((cpF l j).regs : Int) := hI.pl _ (getD_mem (by rw [hI.len]; exact hi2))
      have hrg := hI.reg
      have hpln := hI.plen
      generalize cpF l j = s at *
      obtain ⟨pr, hpr2⟩ : ∃ pr, s.place.getD i 0 = pr := ⟨_, rfl⟩
      rw [hpr2] at hat hpr
      have hwr : IntKind.i64.wrap ((i : Int) - 1) = (i : Int) - 1 := by rw [IntKind.wrap_i64]; omega
      have hlast : (i : Int) - 1 = (l.length : Int) - 1 - ((j + 1 : Nat) : Int) := by omega
      obtain ⟨op, n, name, kids⟩ := x
      simp only at x0 x1 x2 x3 hkd hfm hnmx hkl hkk ⊢
      obtain ⟨wb, hwb, hbb, hcb, hsb⟩ := nd_box wr op n name (.slice ka kids.length kc)
      obtain ⟨d0, d1, d2, d3⟩ := hcb wb (Below.refl _ _)
      have hMb := hM.below hbb
      have hatb := hMb.at_ hi2
      rw [hpr2] at hatb
      obtain ⟨hatb, _⟩ := hatb
      have hszr := hbw.size
      have HBB : Hid (Below w1.heap.size w1 wb) := hbw.trans (hbb.mono (by omega))
      have HMB : Hid (_) := hMb
      have HII : Hid (_) := hii
      have HLAST : Hid (_) := hlast
      have hpn : s.prog.length ≤ 16 := by omega
      by_cases ho : op = 18
      · have hin : name ∈ hlsL l := mem_hls hmem ho
        have hnl := numL_lt hin
        have hlk := hMb.map.look2 hnmx
        subst ho
        obtain ⟨RG, hRG⟩ : ∃ RG, s.regs = RG := ⟨_, rfl⟩
        have hRG2 : RG ≤ 1000 := by omega
        have hbs : w1.heap.size ≤ wb.heap.size := by omega
        have HPL : Hid (s.prog.length = j) := hpln
        have hj16 : j ≤ 16 := by omega
        cases hf : s.first name with
        | some r =>
          obtain ⟨_, r0, r1⟩ := hI.fs _ _ hf
          have HNX : Hid (cpF l (j + 1) = ⟨s.place, s.first, s.regs, s.prog ++ [⟨2, pr, r, 0, 0, ⟨#[]⟩⟩]⟩) := by
            show _ = _
            rw [hnx]
            unfold cpS cpFst cpC
            simp only [if_pos]
            rw [if_neg (fun h => by rw [hf] at h; cases h.2), hpr2, hf]
          rw [hf] at hlk
          simp only [Option.getD_some, Option.isSome_some] at hlk
          have hbc : Below wb.heap.size wb (wb.alloc (.cells #[.int .i64 2, .int .i64 pr, .int .i64 r, .int .i64 0, .int .i64 0, .string ⟨#[]⟩] 68)) := (Below.refl _ _).alloc (Nat.le_refl _) _
          have hMc := hMb.below hbc
          have hrow := hMc.prow
          rw [hpln] at hrow
          have HMC : Hid (_) := hMc
          have HBC : Hid (Below w1.heap.size w1 (wb.alloc (.cells #[.int .i64 2, .int .i64 pr, .int .i64 r, .int .i64 0, .int .i64 0, .string ⟨#[]⟩] 68))) := HBB.out.trans (hbc.mono hbs)
          clear hM hMb hbw hbb hcb hat hI hnx hkd hfm hmem hkk hbW HCI hpln hin hnl HMB HBB hbc hMc hsb hszr
          rw [hii]
          go_wp2_with (first | (rw [hwb]) | (at_builtin; (refine wpList_append_lies _ rfl (.tmp 79) (.tmp 86) 54 rfl w1.heap.size 68 i0 (.agg #[.int .i64 0, .int .i64 0, .int .i64 0, .int .i64 0, .int .i64 0, .string ⟨#[]⟩]) 6 56 Tryd.underlying54 hi hz0 hz1 hz2 rfl (by decide) _ _ _ rfl hrow ⟨wb.heap.size, 0, none⟩ 1 1 [.int .i64 2, .int .i64 pr, .int .i64 r, .int .i64 0, .int .i64 0, .string ⟨#[]⟩] rfl rfl (cell_new6') (by simp [Value.oneCell']) (by omega) (by unfold maxLen; omega) (by omega) (by simp; omega) _ rfl ?_); intro g6 cap6 w6 hown6 hg6 hat6 hl6))
          obtain ⟨hM6, hb6⟩ := HMC.out.cmd ⟨2, pr, r, 0, 0, ⟨#[]⟩⟩ HPL.out hown6 hg6 HBC.out.size
          have HE : Hid (CpR w1 l (j + 1) (.slice (some ⟨g6, 0, none⟩) (j + 1) cap6) w6) := ⟨k, by omega, by rw [HNX.out]; exact ⟨hM6.prow, hM6.place, hM6.len, hM6.map, hM6.leM⟩, HBC.out.trans hb6⟩
          have HRG : Hid ((cpF l (j + 1)).regs = s.regs) := by show _ = _; rw [HNX.out]
          clear hM6 hb6 hown6 hg6 hat6 hl6 HMC HBC HNX
          go_wp2_with fail
          refine ⟨⟨j + 1, by omega, ?_, ?_, HE.out⟩, by simp [RowKit.intOf]; omega⟩
          · have := HLAST.out; congr 1
          · rw [HRG.out, hRG]
        | none =>
          have HNX : Hid (cpF l (j + 1) = ⟨s.place, fun t => if t = name then some pr else s.first t, s.regs, s.prog ++ [⟨3, pr, (numL (hlsL l) name : Nat), 0, 0, ⟨#[]⟩⟩]⟩) := by
            show _ = _
            rw [hnx]
            unfold cpS cpFst cpC
            simp only [if_pos]
            rw [if_pos ⟨trivial, hf⟩, hpr2, hf]
          rw [hf] at hlk
          simp only [Option.getD_none, Option.isSome_none] at hlk
          have hMd := hMb.below (Below.refl _ _).drew
          obtain ⟨W5, hup, hmp, hg5⟩ := hMd.map.put (by omega) hnmx (z := pr) (by omega)
          obtain ⟨hM5, hb5⟩ := hMd.put hmp hg5 hbs
          have hboxM : wr.heap.size ≠ w1.heap.size + 1 := by
            intro e
            have h1 : wb.heap[wr.heap.size]? = some (.cells #[.int .i64 18, .int .i64 n, .string name, .slice ka kids.length kc] 71 (0, 0)) := by rw [← hwb]; exact (MapKept.heap_alloc wr _).1
            rw [e] at h1
            exact hMb.map.isMap _ _ _ h1
          have e2 : W5.cell? ⟨wr.heap.size, 2, none⟩ = some (.string name) := by
            have h1 := hg5.block wr.heap.size (by show wr.heap.size < wb.heap.size; omega) (by simpa using hboxM)
            exact (World.cell?_of_block (a := ⟨wr.heap.size, 2, none⟩) h1).trans d2
          obtain ⟨eP, _⟩ := hM5.at_ hi2
          simp only at eP
          rw [hpr2] at eP
          have hbW5 : Below w1.heap.size w1 W5 := HBB.out.drew.trans hb5
          have hS5 := HS.out.below hbW5
          have HCI2 : Hid (∀ W, Below W5.heap.size W5 W → Calls Tryd.prog 60 #[.slice na (hlsL l).length nc, .string name] W fun e w' => e = .returned (.int .i64 ((numL (hlsL l) name : Nat) : Int)) ∧ Below W5.heap.size W5 w') := fun W hb => (index_str (s := name) (hS5.below hb)).mono fun e w' ⟨h1, h2⟩ => ⟨by rw [h1, numW_mem hin], hb.trans (h2.mono hb.size)⟩
          have HRW : Hid (∀ W, Below W5.heap.size W5 W → W.ownsRow w1.heap.size 68 6 (.slice pva j pvc) j (cmCells s.prog)) := fun W hb => by
            have := ownsRow_below hM5.prow hb
            simp only at this
            rwa [hpln] at this
          have HEF : Hid (∀ W, Below W5.heap.size W5 W → W.cell? ⟨w1.heap.size, i, none⟩ = some (.int .i64 pr) ∧ W.cell? ⟨wr.heap.size, 2, none⟩ = some (.string name)) := fun W hb => ⟨(hb.cell (p := ⟨w1.heap.size, i, none⟩) (World.block_lt_of_cell? _ _ eP)).trans eP, (hb.cell (p := ⟨wr.heap.size, 2, none⟩) (World.block_lt_of_cell? _ _ e2)).trans e2⟩
          have hnb := row_ne_ty hMb.prow (show wb.heap[wr.heap.size]? = some (.cells #[.int .i64 18, .int .i64 n, .string name, .slice ka kids.length kc] 71 (0, 0)) by rw [← hwb]; exact (MapKept.heap_alloc wr _).1) (by decide)
          have hnp : (Value.slice pva j pvc).ownBlock ≠ some w1.heap.size := by
            rcases ownBlock_ne hMb.prow hMb.place (by decide) with n | n
            · rw [n]; simp
            · exact n
          have HNB : Hid (∀ (W : World) (o : Obj) (w6 : World), Below W5.heap.size W5 W → (W.alloc o).grownBy w6 (Value.slice pva j pvc).ownBlock → w6.cell? ⟨w1.heap.size, i, none⟩ = some (.int .i64 pr) ∧ w6.cell? ⟨wr.heap.size, 2, none⟩ = some (.string name)) := fun W o w6 hb hg => by
            have l1 : w1.heap.size < W5.heap.size := World.block_lt_of_cell? _ _ eP
            have l2 : wr.heap.size < W5.heap.size := World.block_lt_of_cell? _ _ e2
            have l3 := hb.size
            have h1 := (hg.block wr.heap.size (by show wr.heap.size < (W.alloc o).heap.size; rw [World.size_alloc]; omega) (Ne.symm hnb)).trans (alloc_old _ _ _ (by omega))
            have h2 := (hg.block w1.heap.size (by show w1.heap.size < (W.alloc o).heap.size; rw [World.size_alloc]; omega) (Ne.symm hnp)).trans (alloc_old _ _ _ (by omega))
            obtain ⟨q1, q2⟩ := HEF.out W hb
            exact ⟨(World.cell?_of_block (a := ⟨w1.heap.size, i, none⟩) h2).trans q1, (World.cell?_of_block (a := ⟨wr.heap.size, 2, none⟩) h1).trans q2⟩
          obtain ⟨NL, hNL⟩ : ∃ NL, numL (hlsL l) name = NL := ⟨_, rfl⟩
          rw [hNL] at HNX HCI2
          have HM5 : Hid (_) := hM5
          have HB5 : Hid (_) := hbW5
          clear hM hMb hbw hbb hcb hat hI hnx hkd hfm hmem hkk hbW HCI hpln hin hnl HMB HBB hsb hszr hMd hmp hg5 hM5 hb5 hbW5 hS5 hboxM hNL hnb hnp
          rw [hii]
          go_wp2_with (rw [hwb])
          go_region
          go_wp2_with fail
          go_region_held3 (fun W => W.cell? ⟨w1.heap.size, i, none⟩ = some (.int .i64 pr) ∧ W.cell? ⟨wr.heap.size, 2, none⟩ = some (.string name)) (go_keep) (first | (go_at_call 60; refine (HCI2.out _ (Below.refl _ _).drew).mono ?_; rintro e w7 ⟨rfl, hb7⟩; obtain ⟨k0, k1⟩ := HEF.out w7 hb7) | (refine step_append_lies _ rfl (.tmp 95) (.tmp 105) 54 rfl w1.heap.size 68 i0 (.agg #[.int .i64 0, .int .i64 0, .int .i64 0, .int .i64 0, .int .i64 0, .string ⟨#[]⟩]) 6 56 Tryd.underlying54 hi hz0 hz1 hz2 rfl (by decide) _ _ _ (by simp [Act.eval, Act.put]) (HRW.out _ (hb7.alloc hb7.size _)) ⟨w7.heap.size, 0, none⟩ 1 1 [.int .i64 3, .int .i64 pr, .int .i64 (NL : Nat), .int .i64 0, .int .i64 0, .string ⟨#[]⟩] (by simp [Act.eval, Act.put]) rfl (cell_new6') (by simp [Value.oneCell']) (by omega) (by unfold maxLen; omega) (by omega) (by have := HB5.out.size; have := hb7.size; simp; omega) _ rfl ?_; intro g6 cap6 w6 hown6 hg6 hat6 hl6; obtain ⟨q0, q1⟩ := HNB.out _ _ w6 hb7 hg6))
          have hM7 := HM5.out.below (hb7.alloc hb7.size (.cells #[.int .i64 3, .int .i64 pr, .int .i64 (NL : Nat), .int .i64 0, .int .i64 0, .string ⟨#[]⟩] 68))
          have hb8 : Below w1.heap.size w1 (w7.alloc (.cells #[.int .i64 3, .int .i64 pr, .int .i64 (NL : Nat), .int .i64 0, .int .i64 0, .string ⟨#[]⟩] 68)) := (HB5.out.trans (hb7.mono HB5.out.size)).alloc (Nat.le_trans HB5.out.size hb7.size) _
          obtain ⟨hM9, hb9⟩ := hM7.cmd ⟨3, pr, (NL : Nat), 0, 0, ⟨#[]⟩⟩ HPL.out hown6 hg6 hb8.size
          have HE : Hid (CpR w1 l (j + 1) (.slice (some ⟨g6, 0, none⟩) (j + 1) cap6) w6) := ⟨k + 1, by omega, by rw [HNX.out]; exact ⟨hM9.prow, hM9.place, hM9.len, hM9.map, hM9.leM⟩, hb8.trans hb9⟩
          have HRG : Hid ((cpF l (j + 1)).regs = s.regs) := by show _ = _; rw [HNX.out]
          clear hM7 hb8 hM9 hb9 hown6 hg6 hat6 hl6 q0 q1 k0 k1 hb7 HNB HEF HRW HCI2 HM5 HB5 HNX eP e2
          go_wp2_with fail
          refine ⟨⟨j + 1, by omega, ?_, ?_, HE.out⟩, by simp [RowKit.intOf]; omega⟩
          · have := HLAST.out; congr 1
          · rw [HRG.out, hRG]
      · have HNX : Hid (cpF l (j + 1) = ⟨kidsC kids s.regs s.place, s.first, s.regs + kids.length, s.prog ++ [⟨1, pr, (s.regs : Nat), op, n, name⟩]⟩) := by
          show _ = _
          rw [hnx]
          unfold cpS cpFst cpC
          simp only [if_neg ho]
          rw [if_neg (fun h => ho h.1), hpr2]
        have g18 : (op == 18) = false := by rw [beq_eq_false_iff_ne]; exact ho
        obtain ⟨RG, hRG⟩ : ∃ RG, s.regs = RG := ⟨_, rfl⟩
        have hRG2 : RG ≤ 1000 := by omega
        have hrow := hMb.prow
        rw [hpln] at hrow
        have HPL : Hid (s.prog.length = j) := hpln
        rw [hRG] at HNX
        have hnb := row_ne_ty hMb.prow (show wb.heap[wr.heap.size]? = some (.cells #[.int .i64 op, .int .i64 n, .string name, .slice ka kids.length kc] 71 (0, 0)) by rw [← hwb]; exact (MapKept.heap_alloc wr _).1) (by decide)
        have hnp : (Value.slice pva j pvc).ownBlock ≠ some w1.heap.size := by
          rcases ownBlock_ne hMb.prow hMb.place (by decide) with n | n
          · rw [n]; simp
          · exact n
        have hpgl := hMb.pg.2
        have HNB : Hid (∀ (o : Obj) (w6 : World), (wb.alloc o).drew.grownBy w6 (Value.slice pva j pvc).ownBlock → w6.cell? ⟨w1.heap.size, i, none⟩ = some (.int .i64 pr) ∧ w6.cell? ⟨wr.heap.size, 0, none⟩ = some (.int .i64 op) ∧ w6.cell? ⟨wr.heap.size, 1, none⟩ = some (.int .i64 n) ∧ w6.cell? ⟨wr.heap.size, 2, none⟩ = some (.string name) ∧ w6.cell? ⟨wr.heap.size, 3, none⟩ = some (.slice ka kids.length kc)) := fun o w6 hg => by
          have h1 := (hg.block wr.heap.size (by show wr.heap.size < (wb.alloc o).heap.size; rw [World.size_alloc]; omega) (Ne.symm hnb)).trans (alloc_old _ _ _ (by omega))
          have h2 := (hg.block w1.heap.size (by show w1.heap.size < (wb.alloc o).heap.size; rw [World.size_alloc]; omega) (Ne.symm hnp)).trans (alloc_old _ _ _ (by omega))
          exact ⟨(World.cell?_of_block (a := ⟨w1.heap.size, i, none⟩) h2).trans hatb, (World.cell?_of_block (a := ⟨wr.heap.size, 0, none⟩) h1).trans d0, (World.cell?_of_block (a := ⟨wr.heap.size, 1, none⟩) h1).trans d1, (World.cell?_of_block (a := ⟨wr.heap.size, 2, none⟩) h1).trans d2, (World.cell?_of_block (a := ⟨wr.heap.size, 3, none⟩) h1).trans d3⟩
        have hbs : w1.heap.size ≤ wb.heap.size := by omega
        have hkl3 := formB_kids (hfm ho)
        simp only at hkl3
        have HKB : Hid (∀ k ∈ kids, 0 ≤ k ∧ k < (l.length : Int)) := fun k hk => by have := hkd k hk; omega
        have HKK : Hid (kids = [] ∨ ∃ b o, ka = some ⟨b, o, none⟩ ∧ b < w.heap.size ∧ ∀ j, j < kids.length → w.cell? ⟨b, o + j, none⟩ = some (.int .i64 (kids.getD j 0))) := hkk
        have HBW : Hid (Below w.heap.size w wr) := hbW
        clear hM hMb hbw hbb hcb hat hI hnx hkd hfm hnb hmem hkk hbW HCI hnp hpln
        rw [hii]
        go_wp2_with (rw [hwb])
        go_region_held3 (fun W => W.cell? ⟨w1.heap.size, i, none⟩ = some (.int .i64 pr) ∧ W.cell? ⟨wr.heap.size, 0, none⟩ = some (.int .i64 op) ∧ W.cell? ⟨wr.heap.size, 1, none⟩ = some (.int .i64 n) ∧ W.cell? ⟨wr.heap.size, 2, none⟩ = some (.string name)) (go_keep) (first | (refine step_append_lies _ rfl (.tmp 42) (.tmp 55) 54 rfl w1.heap.size 68 i0 (.agg #[.int .i64 0, .int .i64 0, .int .i64 0, .int .i64 0, .int .i64 0, .string ⟨#[]⟩]) 6 56 Tryd.underlying54 hi hz0 hz1 hz2 rfl (by decide) _ _ _ (by simp [Act.eval, Act.put]) (hrow.alloc _) ⟨wb.heap.size, 0, none⟩ 1 1 [.int .i64 1, .int .i64 pr, .int .i64 (RG : Nat), .int .i64 op, .int .i64 n, .string name] (by simp [Act.eval, Act.put]) rfl (cell_new6) (by simp [Value.oneCell']) (by omega) (by unfold maxLen; omega) (by omega) (by simp; omega) _ rfl ?_; intro g6 cap6 w6 hown6 hg6 hat6 hl6; obtain ⟨q0, q1, q2, q3, q4⟩ := HNB.out _ w6 hg6))
        have hMa := HMB.out.below ((Below.refl _ _).alloc (Nat.le_refl _) (.cells #[.int .i64 1, .int .i64 pr, .int .i64 (RG : Nat), .int .i64 op, .int .i64 n, .string name] 68)).drew
        have hba : Below w1.heap.size w1 (wb.alloc (.cells #[.int .i64 1, .int .i64 pr, .int .i64 (RG : Nat), .int .i64 op, .int .i64 n, .string name] 68)).drew := (HBB.out.alloc hbs _).drew
        obtain ⟨hM6, hb6⟩ := hMa.cmd ⟨1, pr, (RG : Nat), op, n, name⟩ HPL.out hown6 hg6 hba.size
        have HB6 : Hid (Below w1.heap.size w1 w6) := hba.trans hb6
        have HM6 : Hid (CpM w1.heap.size l.length ⟨kidsC (kids.take 0) RG s.place, s.first, RG + 0, s.prog ++ [⟨1, pr, (RG : Nat), op, n, name⟩]⟩ (.slice (some ⟨g6, 0, none⟩) (j + 1) cap6) w1.heap.size (w1.heap.size + 1) k w6) := ⟨hM6.prow, hM6.place, hM6.len, hM6.map, hM6.leM⟩
        clear hMa hba hM6 hb6 hown6 hg6 hat6 hl6 q0 q1 q2 q3 d0 d1 d2 d3 hrow HNB HMB HBB
        have hw3 := q4
        go_wp2_with fail
        clear q4 hw3
        obtain ⟨W0, hW0⟩ : ∃ W0, W0 = wr := ⟨wr, rfl⟩
        subst hW0
        go_loopw [9, 60] (fun rg i wr => ∃ t : Nat, t ≤ kids.length ∧ i = .int .i64 t ∧ rg = .int .i64 ((RG + t : Nat) : Int) ∧ CpM w1.heap.size l.length ⟨kidsC (kids.take t) RG s.place, s.first, RG + t, s.prog ++ [⟨1, pr, (RG : Nat), op, n, name⟩]⟩ (.slice (some ⟨g6, 0, none⟩) (j + 1) cap6) w1.heap.size (w1.heap.size + 1) k wr ∧ Below w1.heap.size w1 wr) (fun rg i _ => kids.length - (RowKit.intOf i).toNat)
        case atStart => exact ⟨0, by omega, rfl, rfl, HM6.out, HB6.out⟩
        case round =>
          obtain ⟨t, ht, rfl, rfl, hMq, hbq⟩ := hrel
          by_cases htl : t < kids.length
          · rcases HKK.out with hk0 | ⟨kb, ko, rfl, hkb, hkc2⟩
            · rw [hk0] at htl; simp at htl
            have hkt : kids.getD t 0 ∈ kids := getD_mem htl
            obtain ⟨z1, z2⟩ := HKB.out _ hkt
            obtain ⟨kd, hkd⟩ : ∃ kd : Nat, kids.getD t 0 = kd := ⟨(kids.getD t 0).toNat, by omega⟩
            have hwq : Below w.heap.size w wr := HB1.out.trans (hbq.mono HB1.out.size)
            have c0 := (hwq.cell (p := ⟨kb, ko + t, none⟩) hkb).trans (hkc2 t htl)
            rw [hkd] at c0 z2
            have hkdl : kd < l.length := by omega
            obtain ⟨_, pf⟩ := hMq.at_ hkdl
            obtain ⟨pc0, _⟩ := hMq.at_ hkdl
            obtain ⟨hMn, hbn⟩ := hMq.set hkdl ((RG + t : Nat) : Int)
            have hnk := kidsC_next htl RG s.place
            rw [hkd, Int.toNat_natCast] at hnk
            simp only at hMn
            rw [← hnk] at hMn
            have HMN : Hid (CpM w1.heap.size l.length ⟨kidsC (kids.take (t + 1)) RG s.place, s.first, RG + (t + 1), s.prog ++ [⟨1, pr, (RG : Nat), op, n, name⟩]⟩ (.slice (some ⟨g6, 0, none⟩) (j + 1) cap6) w1.heap.size (w1.heap.size + 1) k (wr.setCell ⟨w1.heap.size, kd, none⟩ (.int .i64 ((RG + t : Nat) : Int)))) := ⟨hMn.prow, hMn.place, hMn.len, hMn.map, hMn.leM⟩
            have HBN : Hid (Below w1.heap.size w1 (wr.setCell ⟨w1.heap.size, kd, none⟩ (.int .i64 ((RG + t : Nat) : Int)))) := hbq.trans hbn
            obtain ⟨RT, hRT⟩ : ∃ RT, RG + t = RT := ⟨_, rfl⟩
            rw [hRT] at HMN HBN
            rw [hRT]
            have HRT : Hid (RG + (t + 1) = RT + 1) := by show _ = _; omega
            have hRT2 : RT ≤ 2000 := by omega
            generalize (kidsC (kids.take t) RG s.place).getD kd 0 = old at *
            clear hMq hbq hMn hbn hnk hkc2 hkd z1 z2 hkt hwq hRT
            go_wp2_with fail
            refine ⟨⟨t + 1, by omega, by go_num, ?_, HMN.out, HBN.out⟩, by simp [RowKit.intOf]; omega⟩
            rw [HRT.out]; go_num
          · have hte : t = kids.length := by omega
            subst hte
            rw [List.take_length] at hMq
            have HE : Hid (CpR w1 l (j + 1) (.slice (some ⟨g6, 0, none⟩) (j + 1) cap6) wr) := ⟨k, by omega, by rw [HNX.out]; exact hMq, hbq⟩
            have HRG : Hid ((cpF l (j + 1)).regs = RG + kids.length) := by show _ = _; rw [HNX.out]
            obtain ⟨RT, hRT⟩ : ∃ RT, RG + kids.length = RT := ⟨_, rfl⟩
            rw [hRT] at HRG
            rw [hRT]
            clear hMq hbq hRT HNX
            go_wp2_with fail
            refine ⟨⟨j + 1, by omega, ?_, ?_, HE.out⟩, by simp [RowKit.intOf]; omega⟩
            · have := HLAST.out; congr 1
            · rw [HRG.out]
    · have hke : j = l.length := by omega
      subst hke
      have hO := hM.prow
      have hpl := (HCI.out l.length (Nat.le_refl _)).plen
      rw [hpl] at hO
      obtain ⟨pa, pc, rfl⟩ := row_form' hO
      have HO : Hid (_) := ownsRow_mono hO HB1.out.size
      have HB : Hid (_) := HB1.out.trans (hbw.mono HB1.out.size)
      clear hM hbw hO hpl
      go_wp2_with fail
      go_ret2
      exact ⟨pa, pc, rfl, HO.out, HB.out⟩

end Go.Proofs.YtjkcbigmebbkkaaDoor
