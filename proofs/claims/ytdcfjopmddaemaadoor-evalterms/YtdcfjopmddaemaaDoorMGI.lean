/-
  EwLwW, EtLwW, EvalTermsK, EvalTerms.
-/
import Derived.Test.YtdcfjopmddaemaaDoorMGF
import Derived.Test.YtdcfjopmddaemaaDoorMBxExpW
import Derived.Test.YtdcfjopmddaemaaDoorMGG
import Derived.Test.YtdcfjopmddaemaaDoorMEwRfW
import Derived.Deep.RegionHeld3
import Derived.Test.YtdcfjopmddaemaaDoorMFrame
import Derived.Test.YtdcfjopmddaemaaDoorMEtOpen
import Derived.Test.YtdcfjopmddaemaaDoorCards
import Derived.Test.YtdcfjopmddaemaaDoorTie
import Derived.SizedLaws
import Derived.WideKeyArgs
set_option linter.unusedSimpArgs false
set_option linter.unusedVariables false
namespace Go.Proofs.YtdcfjopmddaemaaDoor
open Go.RowKit Go.Lib

set_option maxHeartbeats 1000000 in
theorem copied8_any (ao : Option Addr) (cap : Nat) (l : List Bd) (hreach : l.length * 24 ≤ 140737488355328) (w : World) (hI : Bds w ao cap l) :
    Calls Tryd.prog 30 #[.slice ao l.length cap] w fun e W' => (∃ v, e = .returned v ∧ OwnB W' w.heap.size v l) ∧ Below w.heap.size w W' := by
  obtain ⟨i0, hi, hz0, hz1, hz2⟩ := info_parts Tryd.infoBind
  obtain ⟨⟨hl, hm, hn⟩, _⟩ := id hI
  have HI : Hid (Bds w ao cap l) := hI
  have HN : Hid (ao = none → l.length = 0 ∧ cap = 0) := fun h => by have := hn h; omega
  clear hI hn
  have HS : Hid (∀ ad, ao = some ad → ∀ j u, (bdCells l)[j]? = some u → (w.alloc (.cells #[] 156)).cell? (ad.add j) = some u) := (HI.out.below ((Below.refl w.heap.size w).alloc (Nat.le_refl _) _)).src
  have HO : Hid ((w.alloc (.cells #[] 156)).ownsRow w.heap.size 156 2 (.slice (some ⟨w.heap.size, 0, none⟩) 0 0) 0 []) := World.ownsRow_made w #[] 0 (Nat.le_refl _) (Nat.zero_le _) (by simp)
  have HL : Hid ((bdCells l).length = l.length * 2) := bdCells_length l
  go_enter Tryd.func30, Tryd.ntmps30
  go_wp2_with (at_builtin; refine append_srcE _ rfl _ _ 53 rfl w.heap.size 156 i0 (.agg #[.string ⟨#[]⟩, .int .i64 0]) 2 24 Tryd.underlying53 hi hz0 hz1 hz2 rfl (by decide) _ _ _ rfl HO.out ao l.length cap (bdCells l) rfl HN.out HL.out HS.out (bdCells_one l) (by omega) (by omega) (by simp) ?_; intro v' w1 hown hgrow)
  go_ret
  refine ⟨⟨_, rfl, ?_⟩, ((Below.refl w.heap.size w).alloc (Nat.le_refl _) _).grown hgrow (by simp) (fun k hk => by have e : some w.heap.size = some k := hk; cases e; exact Nat.le_refl _)⟩
  show World.ownsRow _ _ _ _ _ _ _
  simpa using hown
theorem copied8_rd {ao : Option Addr} {cap : Nat} {l : List Bd} (hreach : l.length * 24 ≤ 140737488355328) {w : World} (hI : Bds w ao cap l) :
    Calls Tryd.prog 30 #[.slice ao l.length cap] w fun e W' => ∃ ao' cap', e = .returned (.slice ao' l.length cap') ∧ Bds W' ao' cap' l ∧ Below w.heap.size w W' := by
  refine (copied8_any ao cap l hreach w hI).mono ?_
  rintro e W' ⟨⟨v, rfl, hO⟩, hb⟩
  obtain ⟨ao', cap', rfl, hB, _⟩ := hO.read
  exact ⟨ao', cap', rfl, hB, hb⟩

/-- A literal. -/
def litN (n : Int) : Nd := ⟨1, n, ⟨#[]⟩, []⟩
theorem litN_snd (n : Int) : begL [litN n] = some [0] := by
  have hf : formB (litN n) = true := by
    unfold formB fitB litN
    simp [aritI]
  refine begL_mk (by simp) (by simp) ?_ rfl
  show (stp [] (litN n)).bind _ = _
  unfold stp
  rw [if_pos hf]
  rfl
theorem litN_vA (bs : List Bd) (n : Int) : vA bs [litN n] 0 = some n := rfl
theorem litN_evA (bs : List Bd) (n : Int) : evA bs [litN n] = (n, 0) := by
  unfold evA
  rw [sndW_some (litN_snd n)]
  rfl
theorem Rd_lit (w : World) (n : Int) : Rd (w.alloc (.cells #[.int .i64 1, .int .i64 n, .string ⟨#[]⟩, .slice none 0 0] 62)) (some ⟨w.heap.size, 0, none⟩) 1 [litN n] := by
  refine ⟨_, 1, rfl, by simp, by decide, .inr ⟨w.heap.size, 0, rfl, by simp, fun i hi => ?_⟩⟩
  have : i = 0 := by simp at hi; omega
  subst this
  exact ⟨.slice none 0 0, by simp [litN], by simp [litN], by simp [litN], by simp [litN], ⟨none, 0, rfl, by simp [litN], by simp, .inl rfl⟩⟩

set_option maxHeartbeats 1000000 in
theorem awake8_any (w : World) (hT : SpanCells w) (hG : GrpCells w) :
    Calls Tryd.prog 28 #[] w fun e W' => e = .returned (.bool true) ∧ Below w.heap.size w W' := by
  have hb1 : Below w.heap.size w (w.alloc (.cells #[.int .i64 1, .int .i64 7, .string ⟨#[]⟩, .slice none 0 0] 62)) := (Below.refl _ _).alloc (Nat.le_refl _) _
  have cE : Hid (Calls Tryd.prog 53 #[.slice (some ⟨w.heap.size, 0, none⟩) 1 1, .slice none 0 0] (w.alloc (.cells #[.int .i64 1, .int .i64 7, .string ⟨#[]⟩, .slice none 0 0] 62)) fun e w' => e = .returned (.tuple #[.int .i64 7, .int .i64 0]) ∧ Below (w.heap.size + 1) (w.alloc (.cells #[.int .i64 1, .int .i64 7, .string ⟨#[]⟩, .slice none 0 0] 62)) w') := by
    have := eval_any (l := [litN 7]) (bs := []) (eo := none) (ec := 0) ⟨hT.below hb1, hG.below hb1, Rd_lit w 7, ⟨⟨by simp, by simp, fun _ => rfl⟩, .inl rfl⟩, by simp⟩
    rw [litN_evA] at this
    have e : (w.alloc (.cells #[.int .i64 1, .int .i64 7, .string ⟨#[]⟩, .slice none 0 0] 62)).heap.size = w.heap.size + 1 := by simp
    rw [e] at this
    exact this
  have HB1 : Hid (Below w.heap.size w (w.alloc (.cells #[.int .i64 1, .int .i64 7, .string ⟨#[]⟩, .slice none 0 0] 62))) := hb1
  clear hb1
  go_enter Tryd.func28, Tryd.ntmps28
  go_wp2_with fail
  refine cE.out.mono ?_
  rintro e w2 ⟨rfl, hb2⟩
  have HB2 : Hid (Below w.heap.size w w2) := HB1.out.trans (hb2.mono (by omega))
  clear hb2
  go_wp2_with fail
  go_ret
  exact ⟨rfl, HB2.out⟩
end Go.Proofs.YtdcfjopmddaemaaDoor

set_option linter.unusedSimpArgs false
set_option linter.unusedVariables false
namespace Go.Proofs.YtdcfjopmddaemaaDoor
open Go.RowKit Go.Lib

/-- All numbers within a term are of 64 bits. -/
def NuOk (t : Tm) : Prop := ∀ s ∈ subsT t, i6 (nT s)
theorem z6 : i6 0 := by unfold i6; omega
theorem nuOk_of {t : Tm} (h : ∀ q ∈ partsT t, NuOk q) (hn : i6 (nT t)) : NuOk t := by
  intro s hs
  rw [subsT_eq] at hs
  rcases List.mem_append.1 hs with hs | hs
  · obtain ⟨l, hl, hsl⟩ := List.mem_flatten.1 hs
    obtain ⟨q, hq, rfl⟩ := List.mem_map.1 hl
    exact h q hq s hsl
  · have e := List.mem_singleton.1 hs
    subst e
    exact hn
theorem mkT_n (x : Cl) (ts : List Tm) (p : Addr) : nT (mkT x ts p) = if x.kind = 1 then x.n else 0 := by
  unfold mkT
  repeat' split
  all_goals first | rfl | (simp_all [nT])
theorem Vals.nuOk {cs : List Cl} {ts : List Tm} (h : Vals cs ts) (hn : ∀ x ∈ cs, i6 x.n) : ∀ t ∈ ts, NuOk t :=
  h.all fun x hx ts ht p => nuOk_of (fun q hq => by
    rw [mkT_parts] at hq
    obtain ⟨k, _, rfl⟩ := List.mem_map.1 hq
    exact getT_all (P := NuOk) (nuOk_of (fun q hq => by simp [partsT] at hq) z6) ht k) (by
    rw [mkT_n]; split
    · exact hn x hx
    · exact z6)
theorem want_num {t : Tm} (h : NuOk t) : ∀ x ∈ wantT t, i6 x.n := by
  intro x hx
  unfold wantT at hx
  split at hx
  · have hm : shp x ∈ (flatT t).map shp := List.mem_map.2 ⟨x, hx, rfl⟩
    rw [shp_flat] at hm
    obtain ⟨s, hs, e⟩ := List.mem_map.1 hm
    unfold shT shp at e
    injection e with e1 e2
    injection e2 with e2 e3
    rw [← e2]
    exact h s hs
  · simp at hx

set_option maxRecDepth 20000 in
set_option maxHeartbeats 4000000 in
theorem terms_walk (w : World) (ao : Option Addr) (cap : Nat) (l : List Cl) (eo : Option Addr) (ec : Nat) (bs : List Bd) (T0 : SpanCells w) (G0 : GrpCells w) (hN : Cls w ao cap l) (hnm : ∀ x ∈ l, x.name.size ≤ maxLen) (hnum : ∀ x ∈ l, i6 x.n) (hlen : l.length * 64 ≤ 140737488351232) (hB : Bds w eo ec bs) (hbs : BdOk bs) (hreach : bs.length * 24 ≤ 140737488355328) :
    Calls Tryd.prog 6 #[.slice ao l.length cap, .slice eo bs.length ec] w fun e w' => e = .returned (.bool true) ∧ Below w.heap.size w w' := by
  have hm := hN.2.1
  have hl := hN.1
  unfold maxLen at hm
  have HN0 : Hid (Cls w ao cap l) := hN
  have HNM : Hid (∀ x ∈ l, x.name.size ≤ maxLen) := hnm
  have HT : Hid (SpanCells w) := T0
  have HG0 : Hid (GrpCells w) := G0
  have HBD : Hid (Bds w eo ec bs) := hB
  have HBO : Hid (BdOk bs) := hbs
  have HNU : Hid (∀ x ∈ l, i6 x.n) := hnum
  have CN : Hid (∀ V a c, Below w.heap.size w V → Bds V a c bs → Calls Tryd.prog 29 #[.nilIface, .slice a bs.length c] V fun e w' => e = .returned (.tuple #[.int .i64 0, .int .i64 1]) ∧ Below V.heap.size V w') := fun V a c hV hb => by
    have h := term_any8 .nil trivial a c bs hreach V (T0.below hV) (G0.below hV) hb
    rw [want_nil] at h
    exact h
  clear hN hnm T0 G0 hB hbs hnum
  go_enter Tryd.func6, Tryd.ntmps6
  go_wp2_with fail
  refine (awake8_any _ HT.out HG0.out).mono ?_
  rintro e w1 ⟨rfl, hb1⟩
  go_wp2_with fail
  refine (values_any ao cap l w1 (HN0.out.below hb1) (by omega)).mono ?_
  rintro e w2 ⟨ts, rfl, hV, htl, hG, hb2⟩
  have hb12 : Below w.heap.size w w2 := hb1.trans (hb2.mono hb1.size)
  have HV : Hid (Vals l ts) := hV
  have HG : Hid (∀ j, j < l.length → w2.cell? ⟨w1.heap.size, j, none⟩ = some (tv (ts.getD j .nil))) := hG
  have HB12 : Hid (Below w.heap.size w w2) := hb12
  generalize w1.heap.size = G at *
  clear hb12 hV hG hb1 hb2 w1
  go_wp2_with fail
  refine (exprs_any ao cap l ts w2 (HN0.out.below HB12.out) HV.out htl HNM.out (by omega)).mono ?_
  rintro e w3 ⟨v3, lpvs, rfl, hLs, hb3⟩
  have hlk : (ts.map wantT).length = l.length := by simp [htl]
  obtain ⟨la, lc, hv3⟩ := row_form hLs.row
  rw [hlk] at hv3
  subst hv3
  have HB3 : Hid (Below w.heap.size w w3) := HB12.out.trans (hb3.mono HB12.out.size)
  have HG3 : Hid (∀ j, j < l.length → w3.cell? ⟨G, j, none⟩ = some (tv (ts.getD j .nil)) ∧ G < w3.heap.size) := fun j hj => by
    have h := HG.out j hj
    have hlt := World.block_lt_of_cell? _ _ h
    exact ⟨(hb3.cell (p := ⟨G, j, none⟩) hlt).trans h, Nat.lt_of_lt_of_le hlt hb3.size⟩
  have HL3 : Hid (∀ i, i < l.length → ∃ lg lcap xa xc, Value.slice la l.length lc = .slice (some ⟨lg, 0, none⟩) l.length lcap ∧ lg < w3.heap.size ∧ w3.cell? ⟨lg, i, none⟩ = some (.slice xa (wantT (ts.getD i .nil)).length xc) ∧ Rd w3 xa xc (wantT (ts.getD i .nil))) := fun i hi => by
    obtain ⟨lg, lcap, h1, h2, h3⟩ := hLs.cell (i := i) (by omega)
    rw [hlk] at h1
    have h4 := hLs.each i (by omega)
    have e : (ts.map wantT).getD i [] = wantT (ts.getD i .nil) := by simp [show i < ts.length by omega]
    rw [e] at h4
    obtain ⟨xa, xc, h5, h6⟩ := Rd_of_own h4
    rw [h5] at h3
    exact ⟨lg, lcap, xa, xc, h1, h2, h3, h6⟩
  clear hLs hb3 HG
  go_wp2_with fail
  go_loopw [7] (fun i wr => ∃ k : Nat, k ≤ l.length ∧ i = .int .i64 k ∧ Below w3.heap.size w3 wr) (fun i _ => l.length - (RowKit.intOf i).toNat)
  case atStart => exact ⟨0, by omega, rfl, Below.refl _ _⟩
  case round =>
    obtain ⟨k, hk, rfl, hbr⟩ := hrel
    have HBR : Hid (Below w3.heap.size w3 wr) := hbr
    have BW : Hid (Below w.heap.size w wr) := HB3.out.trans (hbr.mono HB3.out.size)
    by_cases hlt : k < l.length
    · obtain ⟨hv, hGl⟩ := HG3.out k hlt
      obtain ⟨lg, lcap, xa, xc, hx, hlg, hcell, hR⟩ := HL3.out k hlt
      cases hx
      have htm : ts.getD k .nil ∈ ts := by simp [show k < ts.length by omega]
      have hOth := HV.out.othH _ htm
      have hFit : Fit (wantT (ts.getD k .nil)) := want_fit (HV.out.nmOk HNM.out _ htm)
      have hNum : ∀ x ∈ wantT (ts.getD k .nil), i6 x.n := want_num (HV.out.nuOk HNU.out _ htm)
      obtain ⟨t, ht⟩ : ∃ t, ts.getD k .nil = t := ⟨_, rfl⟩
      rw [ht] at hv hcell hR hOth hFit hNum
      clear ht htm
      have vr : wr.cell? ⟨G, k, none⟩ = some (tv t) := (hbr.cell (p := ⟨G, k, none⟩) hGl).trans hv
      have cr : wr.cell? ⟨lg, k, none⟩ = some (.slice xa (wantT t).length xc) := (hbr.cell (p := ⟨lg, k, none⟩) hlg).trans hcell
      have HRr : Hid (Rd wr xa xc (wantT t)) := hR.below hbr hbr.size
      have hlr : lg < wr.heap.size := Nat.lt_of_lt_of_le hlg hbr.size
      have hGr : G < wr.heap.size := Nat.lt_of_lt_of_le hGl hbr.size
      have CT : Hid (∀ V a c, Below w.heap.size w V → Bds V a c bs → Calls Tryd.prog 29 #[tv t, .slice a bs.length c] V fun e w' => e = .returned (.tuple #[.int .i64 (evA bs (wantT t)).1, .int .i64 (evA bs (wantT t)).2]) ∧ Below V.heap.size V w') := fun V a c hV hb => term_any8 t hOth a c bs hreach V (HT.out.below hV) (HG0.out.below hV) hb
      have CE : Hid (∀ V, Below w.heap.size w V → Rd V xa xc (wantT t) → Calls Tryd.prog 31 #[.slice xa (wantT t).length xc, .slice eo bs.length ec] V fun e w' => e = .returned (.tuple #[.int .i64 (evA bs (wantT t)).1, .int .i64 (evA bs (wantT t)).2]) ∧ Below V.heap.size V w') := fun V hV hR => refEval_any ⟨HT.out.below hV, HG0.out.below hV, hR, HBD.out.below hV, hreach⟩ hFit HBO.out hNum
      obtain ⟨v, hvv⟩ : ∃ v, tv t = v := ⟨_, rfl⟩
      rw [hvv] at vr CT
      generalize evA bs (wantT t) = A at *
      obtain ⟨x1, x2⟩ := A
      simp only at CT CE
      obtain ⟨L, hL⟩ : ∃ L, (wantT t).length = L := ⟨_, rfl⟩
      rw [hL] at cr CE
      have HCE : Hid (∀ w', Below wr.heap.size wr w' → w'.cell? ⟨G, k, none⟩ = some v) := fun w' hb => (hb.cell (p := ⟨G, k, none⟩) hGr).trans vr
      have Br := HBD.out.below BW.out
      have hkI : (k : Int) < (l.length : Int) := by omega
      clear hv hcell hR hvv hbr hFit hNum hL
      go_wp2_with fail
      go_region_held3 (fun W => W.cell? ⟨G, k, none⟩ = some v) (go_keep) (first | (go_at_call 30; refine (copied8_rd hreach (Br.below (Below.refl _ _).drew)).mono ?_; rintro e w4' ⟨a4, c4, rfl, D4, hb4'⟩; have hb4 : Below wr.heap.size wr w4' := (Below.refl wr.heap.size wr).drew.trans hb4'; have k0 := HCE.out w4' hb4) | (go_at_call 29; refine (CT.out w4' a4 c4 (BW.out.trans (Below.mono hb4 BW.out.size)) D4).mono ?_; rintro e w5' ⟨rfl, hb5⟩; have hb5w : Below wr.heap.size wr w5' := Below.trans hb4 (Below.mono hb5 hb4.size); have k0 := HCE.out w5' hb5w))
      all_goals
        have BW5 : Hid (Below w.heap.size w w5') := BW.out.trans (hb5w.mono BW.out.size)
        have HB5 : Hid (Below w3.heap.size w3 w5') := HBR.out.trans (hb5w.mono HBR.out.size)
        have cr5 : w5'.cell? ⟨lg, k, none⟩ = some (.slice xa L xc) := (hb5w.cell (p := ⟨lg, k, none⟩) hlr).trans cr
        have RR5 : Hid (Rd w5' xa xc (wantT t)) := HRr.out.below hb5w hb5w.size
        clear D4 hb4 hb4' hb5 k0 Br HCE vr cr hb5w
        go_wp2_with fail
        refine (CE.out w5' BW5.out RR5.out).mono ?_
        rintro e w6 ⟨rfl, hb6⟩
        have HB6 : Hid (Below w3.heap.size w3 w6) := HB5.out.trans (hb6.mono HB5.out.size)
        clear hb6 cr5
        go_wp2_with fail
        exact ⟨⟨k + 1, by omega, by go_num, HB6.out⟩, by simp [RowKit.intOf]; omega⟩
    · have hke : k = l.length := by omega
      subst hke
      clear hbr
      go_wp2_with fail
      refine (copied8_rd hreach (HBD.out.below BW.out)).mono ?_
      rintro e w5 ⟨a5, c5, rfl, hB5, hb5⟩
      have BW5 : Hid (Below w.heap.size w w5) := BW.out.trans (hb5.mono BW.out.size)
      have Q5 : Hid (Bds w5 a5 c5 bs) := hB5
      clear hb5 hB5
      go_wp2_with fail
      refine (CN.out w5 a5 c5 BW5.out Q5.out).mono ?_
      rintro e w6 ⟨rfl, hb6⟩
      have BW6 : Hid (Below w.heap.size w w6) := BW5.out.trans (hb6.mono BW5.out.size)
      clear hb6
      go_wp2_with fail
      go_ret
      exact ⟨rfl, BW6.out⟩
end Go.Proofs.YtdcfjopmddaemaaDoor

set_option linter.unusedVariables false
namespace Go.Proofs.YtdcfjopmddaemaaDoor.evalTerms
open Go.ChangeShapes Go.WideShapes Go.ChangeAt Go.RowKit Go.WideMaps Go.WideElems
open Go.ChangeMaps (open_string shut_string)

set_option maxRecDepth 100000 in
set_option maxHeartbeats 1000000 in
theorem contract (H : Type) (enc : TypeId × Value → H) (W : World) (base : Nat) (args : Array Value) (ds gs : List (DataW H)) (before : List MemPlace)
    (hval : ∀ (j : Nat) t v, Tryd.f6.params[j]? = some t → args[j]? = some v → Value.okWide Tryd.prog W .any base t v)
    (hW : DataW.Whole enc Tryd.prog Tryd.f6.params.toList Rows.evalTermsSpec.vars false W args.toList ds gs before)
    (hsz : (DataW.weightsEach Tryd.prog (Tryd.f6.params.toList ++ (OpenSpec.ofChange Rows.evalTermsSpec).bare.plain.varTypes Tryd.prog) (ds ++ gs)).all (· ≤ reachBytes) = true)
    (hL : laidMetH Tryd.prog Rows.evalTermsRow.laid W) :
    Calls Tryd.prog 6 args W fun e W' => ∃ v, e = .returned v ∧ Rows.evalTermsSpec.post enc Tryd.prog Tryd.f6 false true false false W args v W' := by
  have hW' := hW
  have hlt : ∀ x ∈ before, x.block < W.heap.size := fun x hx => by simpa using hW'.lt x hx
  obtain ⟨p, q, hA0, hV, rfl, hfz, hnd⟩ := hW
  have hA : DataW.TrodAll enc Tryd.prog W 0 (fun _ => true) true Tryd.f6.params.toList args.toList ds p := hA0
  rw [Tryd.params6 ] at hA hval
  obtain ⟨v0, vs0, d0, ds0, p0, q0, hargs0, rfl, rfl, h0, r0⟩ := trodAll_cons hA
  obtain ⟨v1, vs1, d1, ds1, p1, q1, rfl, rfl, rfl, h1, r1⟩ := trodAll_cons r0
  obtain ⟨rfl, rfl, rfl⟩ := trodAll_nil r1
  obtain rfl : args = #[v0, v1] := by cases args; simp_all
  obtain ⟨rfl, rfl⟩ := trodVars_none hV
  clear hA0
  simp only [List.append_nil] at hW' hsz
  have h0k := h0
  have ok0 : Value.okWide Tryd.prog W .any base 38 v0 := hval 0 38 v0 (by rfl) (by rfl)
  obtain ⟨a0, n0, c0, rfl⟩ := okWide_slice Tryd.underlying38 ok0
  obtain ⟨fu0, hf0⟩ := h0
  obtain ⟨ao0, cap0, l0, he0, R0, NM0, hF0⟩ := open_cellsN (v := .slice a0 n0 c0) hf0
  cases he0
  have F0 := hF0 fun n hn => of_decide_eq_true (List.all_eq_true.1 hsz n (DataW.weights_mem_each (j := 0) (t := 38) (by kernel_rfl) rfl n hn))
  have h1k := h1
  have ok1 : Value.okWide Tryd.prog W .any base 53 v1 := hval 1 53 v1 (by rfl) (by rfl)
  obtain ⟨a1, n1, c1, rfl⟩ := okWide_slice Tryd.underlying53 ok1
  obtain ⟨fu1, hf1⟩ := h1
  obtain ⟨ao1, cap1, l1, he1, R1, K1, hF1⟩ := open_binds (v := .slice a1 n1 c1) hf1
  cases he1
  have F1 := hF1 fun n hn => of_decide_eq_true (List.all_eq_true.1 hsz n (DataW.weights_mem_each (j := 1) (t := 53) (by kernel_rfl) rfl n hn))
  refine (terms_walk W a0 c0 l0 a1 c1 l1 (tabW2_of_laid hL).1 (tabW2_of_laid hL).2 R0 (fun x hx => (NM0 x hx).1) (fun x hx => (NM0 x hx).2) F0 R1 K1 (by have := F1; have := R1.1.1; omega)).mono fun e W' ⟨he, hg⟩ => ?_
  subst he
  exact ⟨_, rfl, post_below (pv := []) hW' (fun _ _ _ => trodAll_cons_mk (shut_bool Tryd.underlying4 _) trodAll_mk0) (fun sp hsp => trodAll_cons_mk (Trod_stays Tryd.laidOut (by kernel_rfl) (of_decide_eq_true (by kernel_rfl)) h0k (fun x hx => hg.same (hlt x (by simp [hx]))) (fun x hx => hsp x (by simp [hx]))) (trodAll_cons_mk (Trod_stays Tryd.laidOut (by kernel_rfl) (of_decide_eq_true (by kernel_rfl)) h1k (fun x hx => hg.same (hlt x (by simp [hx]))) (fun x hx => hsp x (by simp [hx]))) trodAll_mk0)) (fun _ _ => rfl) (by simp) (hg.frame _)⟩

end Go.Proofs.YtdcfjopmddaemaaDoor.evalTerms

set_option linter.unusedVariables false
namespace Go.Proofs.YtdcfjopmddaemaaDoor.evalTerms
open Go.ChangeShapes Go.WideShapes Go.ChangeAt Go.RowKit Go.WideMaps Go.WideElems
open Go.ChangeMaps (open_string shut_string)

theorem laid_met (os : Os) : laidMet Tryd.prog Rows.evalTermsRow.laid ((laidWorldW Tryd.prog os).forCall (fun _ _ => 0) ⟨#[], #[.slice none 0 0, .slice none 0 0], []⟩).memory :=
  laidMet_of_run' 8 (by kernel_rfl) (by kernel_rfl)
theorem reads (os : Os) {H : Type} (enc : TypeId × Value → H) : ∃ places, DataW.whole enc Tryd.prog ((laidWorldW Tryd.prog os).forCall (fun _ _ => 0) ⟨#[], #[.slice none 0 0, .slice none 0 0], []⟩).memory Tryd.f6.params.toList Rows.evalTermsSpec.vars false #[Value.slice none 0 0, Value.slice none 0 0].toList 8 = some ([.nil, .nil], [], places) :=
  ⟨[], by kernel_rfl⟩

set_option maxRecDepth 100000 in
theorem lifted (os : Os) (started : os.Started) (H : Type) (enc : TypeId × Value → H) (F : Stop.Interp) :
    ReturnsInHanded {} Tryd.checked os 6 .any ((OpenSpec.ofChange Rows.evalTermsSpec).preRow enc Tryd.prog Tryd.f6 Rows.evalTermsRow.domain false Rows.evalTermsRow.laid) (((OpenSpec.ofChange Rows.evalTermsSpec).at F).post enc Tryd.prog Tryd.f6 false true false false) := by
  obtain ⟨places, hx⟩ := reads os enc
  refine returnsInHanded_of_row (C := Tryd.checked) (s := OpenSpec.ofChange Rows.evalTermsSpec) own started (by kernel_rfl) Tryd.func6
    (witness_row_at (enc := enc) (C := Tryd.checked) false (laidWorldW Tryd.prog os) #[.slice none 0 0, .slice none 0 0] rfl (by kernel_rfl) (by kernel_rfl) (by kernel_rfl)
      (OpenSpec.preRow_of_cond 8 hx (by kernel_rfl) (fun k hk => by cases hk) (by kernel_rfl) (laid_met os))) ?_
  intro W base args ds gs before hval hW _ hcond hsz hL _ _
  exact contract H enc W base args ds gs before hval hW hsz hL

theorem said : Rows.EvalTermsSaid :=
  OpenClaim.holds_of_cond 6 Tryd.f6 rfl rfl rfl rfl rfl rfl rfl ⟨rfl, rfl, rfl, rfl, rfl⟩ rfl rfl rfl rfl rfl (by kernel_rfl) Tryd.func6 (by kernel_rfl)
    (of_decide_eq_true (by kernel_rfl)) (by unfold Func.isWrapper; first | (rw [if_pos (by decide +kernel)]; kernel_rfl) | (rw [if_neg (by decide +kernel)]; exact ⟨rfl, rfl⟩))
    (fun os started H enc _ F => by rw [OpenClaim.pre_eq_preRow]; exact lifted os started H enc F)

theorem plain (f : FuncId) (fn : Func) (hf : Tryd.pinned.checked.prog.funcNamed "sorrel/sorrellaw08.EvalTerms" = some f) (hfn : Tryd.pinned.checked.prog.funcs[f]? = some fn) :
    true = Tryd.pinned.checked.prog.looks [] ∧ ∀ (j : Nat) t, fn.params[j]? = some t → Tryd.pinned.checked.prog.wantsStandIn t = false := by
  obtain rfl : f = 6 := Option.some.inj ((show Tryd.prog.funcNamed "sorrel/sorrellaw08.EvalTerms" = some 6 by kernel_rfl).symm.trans hf) |>.symm
  obtain rfl : fn = Tryd.f6 := (Option.some.inj (Tryd.func6.symm.trans hfn)).symm
  refine ⟨by kernel_rfl, fun j t ht => ?_⟩
  rw [Tryd.params6 ] at ht
  have hm := Array.mem_of_getElem? ht
  simp only [List.mem_toArray, List.mem_cons, List.not_mem_nil, or_false] at hm
  rcases hm with rfl | rfl
  · exact (show Tryd.prog.wantsStandIn 38 = false by kernel_rfl)
  · exact (show Tryd.prog.wantsStandIn 53 = false by kernel_rfl)

/-- THE CARD. -/
theorem card : Rows.EvalTermsCardSaid :=
  Claim7.holds_tied_plain_at .later [] _ _ _ _ said (fun _ h => by cases h) (by kernel_rfl) (fun _ h => by cases h) evalTerms_row_tie rfl ⟨rfl, rfl⟩ (by kernel_rfl) rfl plain (by kernel_rfl)
end Go.Proofs.YtdcfjopmddaemaaDoor.evalTerms
namespace Go.Proofs.YtdcfjopmddaemaaDoor
/-- EvalTerms: the card. -/
theorem evalTerms_holds : Rows.EvalTermsCardSaid := evalTerms.card
end Go.Proofs.YtdcfjopmddaemaaDoor
