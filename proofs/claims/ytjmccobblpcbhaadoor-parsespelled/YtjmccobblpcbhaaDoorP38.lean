/-
  SpO, SpL, ParsespelledK.
-/
import Derived.Test.YtjmccobblpcbhaaDoorChecked
import GoSem.PinnedTables
import GoSem.Claim
import GoSem.ClaimJoined
import GoSem.ClaimMapViews
import Derived.JoinedTies
import Derived.KernelRfl
import GoSem.ClaimSeven
import Derived.LaidByTextLater
import Derived.SevenTiedAt
import Derived.LaidSub
import Derived.LaidOnce
import Derived.Shelf.Unicode.DecodeSlow
import Derived.Laws.RangeAny
import Derived.Shelf.Strings.Builder1
import Derived.Shelf.Small.Utf8
import Derived.Shelf.Small.Bits
import Derived.Shelf.Strings.BuilderF
import Derived.Shelf.Strings.BuilderK
import Derived.Shelf.Strings.BuilderRune
import Derived.Shelf.Utf8.AppendRune
import Derived.Shelf.Strconv.Itoa0
import Derived.Shelf.Strconv.Itoa1
import Derived.Shelf.LaysM
import Derived.Shelf.Strconv.Itoa2
import Derived.Shelf.Strconv.Itoa3
import Derived.Shelf.Strconv.Itoa4
import Derived.Shelf.Strings.Prefix
import Derived.Shelf.Unicode.DecodeAny
import Derived.Test.YtjmccobblpcbhaaDoorProg
import Derived.WalkKit
import Derived.Deep.DeepFit
import Derived.Lib.OthersKept
import Derived.Lib.RuneCountTail
import Derived.Lib.LaidU8
import Derived.MakeChecks
import Derived.ProofKit
import Derived.OpenShut
import Derived.Deep.DeepHandedRow
import Derived.Lib.Small
import Derived.Lib.Strings
import Derived.Lib.MapLaws
import Derived.Deep.AppendLies
import Derived.Deep.OwnRows
import Derived.Laws.AppendOwnNone
import Derived.Deep.QuietTactic
import Derived.BigQuiet
import Derived.Deep.RegionWith
import Derived.Laws.DeepStrings4
import Derived.Deep.RegionHeld3
import Derived.Laws.ResultCell
import Derived.Lib.QuietBelow
import Derived.Deep.Heap
import Derived.Laws.Rows
import Derived.Below
import Derived.StillTail
import Derived.Deep.RegionLaw
import Derived.Laws.OwnMore
import Derived.Sort.Walk0
import Derived.Lib.ItoaNum
import Derived.Maps.OwnSet
import Derived.StringKeys
import Derived.BigCall
import Derived.Lib.LaidTab
import Derived.Deep.Slices
import Derived.Laws.IdiomStrings
import Derived.SizedLaws
import Derived.Laws.Cover4
import Derived.WideKeyArgs
import Derived.Test.YtjmccobblpcbhaaDoorRows
import Derived.Test.YtjmccobblpcbhaaDoorCards
import Derived.Test.YtjmccobblpcbhaaDoorTie
import Derived.Test.YtjmccobblpcbhaaDoorP01
import Derived.Test.YtjmccobblpcbhaaDoorP02
import Derived.Test.YtjmccobblpcbhaaDoorP03
import Derived.Test.YtjmccobblpcbhaaDoorP04
import Derived.Test.YtjmccobblpcbhaaDoorP05
import Derived.Test.YtjmccobblpcbhaaDoorP06
import Derived.Test.YtjmccobblpcbhaaDoorP07
import Derived.Test.YtjmccobblpcbhaaDoorP08
import Derived.Test.YtjmccobblpcbhaaDoorP09
import Derived.Test.YtjmccobblpcbhaaDoorP10
import Derived.Test.YtjmccobblpcbhaaDoorP11
import Derived.Test.YtjmccobblpcbhaaDoorP12
import Derived.Test.YtjmccobblpcbhaaDoorP13
import Derived.Test.YtjmccobblpcbhaaDoorP14
import Derived.Test.YtjmccobblpcbhaaDoorP15
import Derived.Test.YtjmccobblpcbhaaDoorP16
import Derived.Test.YtjmccobblpcbhaaDoorP17
import Derived.Test.YtjmccobblpcbhaaDoorP18
import Derived.Test.YtjmccobblpcbhaaDoorP19
import Derived.Test.YtjmccobblpcbhaaDoorP20
import Derived.Test.YtjmccobblpcbhaaDoorP21
import Derived.Test.YtjmccobblpcbhaaDoorP22
import Derived.Test.YtjmccobblpcbhaaDoorP23
import Derived.Test.YtjmccobblpcbhaaDoorP24
import Derived.Test.YtjmccobblpcbhaaDoorP25
import Derived.Test.YtjmccobblpcbhaaDoorP26
import Derived.Test.YtjmccobblpcbhaaDoorP27
import Derived.Test.YtjmccobblpcbhaaDoorP28
import Derived.Test.YtjmccobblpcbhaaDoorP29
import Derived.Test.YtjmccobblpcbhaaDoorP30
import Derived.Test.YtjmccobblpcbhaaDoorP31
import Derived.Test.YtjmccobblpcbhaaDoorP32
import Derived.Test.YtjmccobblpcbhaaDoorP33
import Derived.Test.YtjmccobblpcbhaaDoorP34
import Derived.Test.YtjmccobblpcbhaaDoorP35
import Derived.Test.YtjmccobblpcbhaaDoorP36
import Derived.Test.YtjmccobblpcbhaaDoorP37
set_option linter.unusedSimpArgs false
set_option linter.unusedVariables false
namespace Go.Proofs.YtjmccobblpcbhaaDoor
open Go.RowKit Go.Lib Go.ChangeShapes Go.WideShapes Go.Deep

theorem Tryd.cells5 : Tryd.prog.cellsOf 5 = 1 := by kernel_rfl
theorem Tryd.bytes5 : Tryd.prog.bytesOf 5 = 1 := by kernel_rfl
theorem open_u8s {H : Type} {enc : TypeId × Value → H} {w : World} {fuel : Nat} {v : Value} {x : DataW H × List MemPlace} (h : DataW.trod enc Tryd.prog w 0 (fun _ => true) true fuel 38 [v] = some x) :
    ∃ (ao : Option Addr) (cap : Nat) (l : List Int), v = .slice ao l.length cap ∧ ((∀ n ∈ x.1.weights Tryd.prog 38, n ≤ reachBytes) → Rg8 w ao cap l) := by
  rcases open_ints Tryd.underlying38 Tryd.underlying5 Tryd.cells5 h with ⟨hcs, rfl⟩ | ⟨a, len, cap, zs, hcs, _, hl, hm, hz, rfl, hc, hwf⟩
  · simp only [List.cons.injEq, and_true] at hcs
    subst hcs
    exact ⟨none, 0, [], rfl, fun _ => ⟨by simp, by unfold maxLen; omega, fun _ => by simp, .inl rfl, by simp⟩⟩
  · simp only [List.cons.injEq, and_true] at hcs
    subst hcs
    simp only [if_true] at hz
    have hlen : (zs.take len).length = len := by simp; omega
    refine ⟨some a, cap, zs.take len, by rw [hlen], fun hw => ⟨by omega, ?_, by simp, ?_, ?_⟩⟩
    · have := hw ((((lits .u8 (zs.take len)).length : Nat) + (lits .u8 (zs.drop len)).length) * Tryd.prog.bytesOf 5) (by simp only [DataW.weights, Tryd.underlying38 ]; exact List.mem_cons_self ..)
      rw [Tryd.bytes5] at this
      simp only [lits, List.length_map, List.length_take, List.length_drop, reachBytes] at this
      unfold maxLen
      omega
    · by_cases h0 : len = 0
      · left; exact List.length_eq_zero_iff.1 (by omega)
      · right
        have hc0 := hc 0 (by omega)
        obtain ⟨b, o, sp⟩ := a
        have hsp : sp = none := by
          have e : (⟨b, o, sp⟩ : Addr).add 0 = ⟨b, o, sp⟩ := rfl
          rw [e] at hc0; exact spot_none hc0
        subst hsp
        refine ⟨b, o, rfl, World.block_lt_of_cell? _ _ hc0, fun j x hx => ?_⟩
        have hj : j < len := by have := (List.getElem?_eq_some_iff.1 hx).1; omega
        have := hc j (by omega)
        rw [Go.WideShapes.add_plain] at this
        rw [this]
        rw [List.getElem?_take, if_pos hj] at hx
        simp [hx]
    · intro x hx
      have h3 := hwf x (List.mem_of_mem_take hx)
      have := bounds_u8 h3
      exact ⟨this.1, by omega⟩
end Go.Proofs.YtjmccobblpcbhaaDoor

set_option linter.unusedSimpArgs false
set_option linter.unusedVariables false
namespace Go.Proofs.YtjmccobblpcbhaaDoor
open Go.RowKit Go.Lib

/-- Pattern, whatever it comes to. -/
theorem pattern_some {W : World} {s : ByteArray} (hz : s.size ≤ maxLen) (hT : Tabs W) :
    Calls Tryd.prog 25 #[.string s] W fun e w' => ∃ ao n cap p er, e = .returned (.tuple #[.slice ao n cap, .int .i64 p, .int .i64 er]) ∧ Below W.heap.size W w' := by
  have := pattern_any W s hz hT
  cases h : psRead s true 16 with
  | ok l => rw [h] at this; exact this.mono fun e w' ⟨⟨ao, cap, h1, h2⟩, h3⟩ => ⟨ao, _, cap, _, _, h1, h3⟩
  | bad p er => rw [h] at this; exact this.mono fun e w' ⟨h1, h2⟩ => ⟨none, 0, 0, _, _, h1, h2⟩
  | out => exact absurd h (psRead_in s true 16)

set_option maxRecDepth 20000 in
set_option maxHeartbeats 8000000 in
theorem parseSpelled_walk (w : World) (ao to : Option Addr) (cap tcap : Nat) (l : List Nd) (ts : List Int) (hT : Tabs w) (hR : Rd w ao cap l) (hR8 : Rg8 w to tcap ts) (hF : FitX l) :
    Calls Tryd.prog 4 #[.slice ao l.length cap, .slice to ts.length tcap] w fun e w' => e = .returned (.bool true) ∧ Below w.heap.size w w' := by
  have hnum : ∀ x ∈ l, num64 x.n := hF.fit5W.num
  have HR : SldW (∀ W, Below w.heap.size w W → Rd W ao cap l) := ⟨fun W hW => hR.below hW hW.size⟩
  have HR8 : SldW (∀ W, Below w.heap.size w W → Rg8 W to tcap ts) := ⟨fun W hW => hR8.below hW⟩
  have HT : SldW (∀ W, Below w.heap.size w W → Tabs W) := ⟨fun W hW => hT.below hW⟩
  have CA : SldW (Calls Tryd.prog 22 #[] w fun e w' => e = .returned (.bool true) ∧ Below w.heap.size w w') := ⟨pawake_any w hT⟩
  obtain ⟨X, hX⟩ : ∃ X, shS betT l = X := ⟨_, rfl⟩
  obtain ⟨E, hE⟩ : ∃ E, shE l = E := ⟨_, rfl⟩
  have CS : SldW (∀ W, Below w.heap.size w W → Calls Tryd.prog 23 #[.slice ao l.length cap] W fun e w' => e = .returned (.tuple #[.string X, .int .i64 E]) ∧ Below W.heap.size W w') := ⟨fun W hW => by
    have := refShow_any (HR.out W hW) hF.fit hnum
    rw [hX, hE] at this
    exact this⟩
  have CM : SldW (∀ W xo xc, Rd W xo xc l → Below w.heap.size w W → Calls Tryd.prog 14 #[.slice xo l.length xc, .slice ao l.length cap] W fun e w' => e = .returned (.bool true) ∧ Below W.heap.size W w') := ⟨fun W xo xc h hW => sameR h (HR.out W hW) true (by simp)⟩
  obtain ⟨hb1, hb2⟩ := hR.bound
  unfold maxLen at hb2
  have hle8 := hR8.le
  have hmx8 := hR8.mx
  unfold maxLen at hmx8
  clear hR8
  by_cases hok : okSh l = true
  · have hE0 : E = 0 := by rw [← hE]; unfold shE; rw [if_pos hok]
    have hXF : X = shF betT l := by rw [← hX]; unfold shS; rw [if_pos hok]
    obtain ⟨hsz, hl64, hl16⟩ := show_sz hok hnum
    rw [← hXF] at hsz
    subst hE0
    by_cases hlg : 16 < l.length
    · have hno : ∀ x ∈ l, x.op ≠ 18 := (hls_zero l).1 (Decidable.byContradiction fun hh => by have := hl16 hh; omega)
      have hlgi : (16 : Int) < (l.length : Int) := by omega
      have CL : SldW (∀ W, Below w.heap.size w W → Calls Tryd.prog 24 #[.string X, .slice to ts.length tcap] W fun e w' => ∃ x, e = .returned (.string x) ∧ Sm X x false 0 0 ∧ x.size ≤ 26000 ∧ X.size ≤ x.size ∧ Below W.heap.size W w') := ⟨fun W hW => spelled_any X false hsz (by rw [hXF]; exact toks_all hok hnum false (.inr hno)) to tcap ts W (HR8.out W hW)⟩
      have HRB : SldW (∀ x, Sm X x false 0 0 → X.size ≤ x.size → x.size ≤ 4096 → psRead x false 64 = .ok l) := ⟨fun x h1 h2 h3 => by
        have e1 := read_back hok hnum false (.inr hno) 64 (by rw [← hXF]; omega)
        rw [if_neg (by omega), ← hXF] at e1
        exact sim_read h1 h3 e1⟩
      clear hno hl16 hXF HR8
      clear hT hR hF hX hE hnum hok
      go_enter Tryd.func4, Tryd.ntmps4
      go_wp2_with fail
      refine CA.out.mono ?_
      rintro e w1 ⟨rfl, hq1⟩
      have HB1 : SldW (Below w.heap.size w w1) := ⟨hq1⟩
      clear hq1
      go_wp2_with fail
      refine (CS.out w1 HB1.out).mono ?_
      rintro e w2 ⟨rfl, hq2⟩
      have HB2 : SldW (Below w.heap.size w w2) := ⟨HB1.out.trans (hq2.mono HB1.out.size)⟩
      clear hq2
      go_wp2_with fail
      refine (CL.out w2 HB2.out).mono ?_
      rintro e w3 ⟨x, rfl, hsm, hxz, hxs, hq3⟩
      have HB3 : SldW (Below w.heap.size w w3) := ⟨HB2.out.trans (hq3.mono HB2.out.size)⟩
      clear hq3
      have HSM : SldW (Sm X x false 0 0) := ⟨hsm⟩
      clear hsm
      have hzm : x.size ≤ maxLen := by unfold maxLen; omega
      by_cases h4 : x.size ≤ 4096
      · have h4i : ¬ (4096 < (x.size : Int)) := by omega
        have e1 := HRB.out x HSM.out hxs h4
        have CQ : SldW (∀ W, Below w.heap.size w W → Calls Tryd.prog 25 #[.string x] W fun e w' => ∃ ao n cap p er, e = .returned (.tuple #[.slice ao n cap, .int .i64 p, .int .i64 er]) ∧ Below W.heap.size W w') := ⟨fun W hW => pattern_some hzm (HT.out W hW)⟩
        have CP : SldW (∀ W, Below w.heap.size w W → Calls Tryd.prog 26 #[.string x] W fun e w' => ∃ ao cap, e = .returned (.tuple #[.slice ao l.length cap, .int .i64 0, .int .i64 0]) ∧ Rd w' ao cap l ∧ Below W.heap.size W w') := ⟨fun W hW => parse_ok hzm (HT.out W hW) e1⟩
        clear e1
        go_wp2_with fail
        refine (CQ.out w3 HB3.out).mono ?_
        rintro e w4 ⟨xo, xn, xc, xp, xe, rfl, hq4⟩
        have HB4 : SldW (Below w.heap.size w w4) := ⟨HB3.out.trans (hq4.mono HB3.out.size)⟩
        clear hq4
        go_wp2_with fail
        refine (CP.out w4 HB4.out).mono ?_
        rintro e w5 ⟨yo, yc, rfl, hy, hq5⟩
        have HB5 : SldW (Below w.heap.size w w5) := ⟨HB4.out.trans (hq5.mono HB4.out.size)⟩
        have HY : SldW (Rd w5 yo yc l) := ⟨hy⟩
        clear hq5 hy
        go_wp2_with fail
        refine (CM.out w5 yo yc HY.out HB5.out).mono ?_
        rintro e w6 ⟨rfl, hq6⟩
        have HB6 : SldW (Below w.heap.size w w6) := ⟨HB5.out.trans (hq6.mono HB5.out.size)⟩
        clear hq6
        go_wp2_with fail
        go_ret
        exact ⟨rfl, HB6.out⟩
      · have h4i : (4096 : Int) < (x.size : Int) := by omega
        go_wp2_with fail
        go_ret
        exact ⟨rfl, HB3.out⟩
    · have hlgi : ¬ (16 : Int) < (l.length : Int) := by omega
      have CL : SldW (∀ W, Below w.heap.size w W → Calls Tryd.prog 24 #[.string X, .slice to ts.length tcap] W fun e w' => ∃ x, e = .returned (.string x) ∧ Sm X x true 0 0 ∧ x.size ≤ 26000 ∧ X.size ≤ x.size ∧ Below W.heap.size W w') := ⟨fun W hW => spelled_any X true hsz (by rw [hXF]; exact toks_all hok hnum true (.inl rfl)) to tcap ts W (HR8.out W hW)⟩
      have HRB : SldW (∀ x, Sm X x true 0 0 → X.size ≤ x.size → x.size ≤ 4096 → psRead x true 16 = .ok l) := ⟨fun x h1 h2 h3 => by
        have e1 := read_back hok hnum true (.inl rfl) 16 (by rw [← hXF]; omega)
        rw [if_neg (by omega), ← hXF] at e1
        exact sim_read h1 h3 e1⟩
      clear hl16 hXF HR8
      clear hT hR hF hX hE hnum hok
      go_enter Tryd.func4, Tryd.ntmps4
      go_wp2_with fail
      refine CA.out.mono ?_
      rintro e w1 ⟨rfl, hq1⟩
      have HB1 : SldW (Below w.heap.size w w1) := ⟨hq1⟩
      clear hq1
      go_wp2_with fail
      refine (CS.out w1 HB1.out).mono ?_
      rintro e w2 ⟨rfl, hq2⟩
      have HB2 : SldW (Below w.heap.size w w2) := ⟨HB1.out.trans (hq2.mono HB1.out.size)⟩
      clear hq2
      go_wp2_with fail
      refine (CL.out w2 HB2.out).mono ?_
      rintro e w3 ⟨x, rfl, hsm, hxz, hxs, hq3⟩
      have HB3 : SldW (Below w.heap.size w w3) := ⟨HB2.out.trans (hq3.mono HB2.out.size)⟩
      clear hq3
      have HSM : SldW (Sm X x true 0 0) := ⟨hsm⟩
      clear hsm
      have hzm : x.size ≤ maxLen := by unfold maxLen; omega
      by_cases h4 : x.size ≤ 4096
      · have h4i : ¬ (4096 < (x.size : Int)) := by omega
        have e1 := HRB.out x HSM.out hxs h4
        have CQ : SldW (∀ W, Below w.heap.size w W → Calls Tryd.prog 25 #[.string x] W fun e w' => ∃ ao cap, e = .returned (.tuple #[.slice ao l.length cap, .int .i64 0, .int .i64 0]) ∧ Rd w' ao cap l ∧ Below W.heap.size W w') := ⟨fun W hW => pattern_ok hzm (HT.out W hW) e1⟩
        clear e1
        go_wp2_with fail
        refine (CQ.out w3 HB3.out).mono ?_
        rintro e w4 ⟨yo, yc, rfl, hy, hq4⟩
        have HB4 : SldW (Below w.heap.size w w4) := ⟨HB3.out.trans (hq4.mono HB3.out.size)⟩
        have HY : SldW (Rd w4 yo yc l) := ⟨hy⟩
        clear hq4 hy
        go_wp2_with fail
        refine (CM.out w4 yo yc HY.out HB4.out).mono ?_
        rintro e w6 ⟨rfl, hq6⟩
        have HB6 : SldW (Below w.heap.size w w6) := ⟨HB4.out.trans (hq6.mono HB4.out.size)⟩
        clear hq6
        go_wp2_with fail
        go_ret
        exact ⟨rfl, HB6.out⟩
      · have h4i : (4096 : Int) < (x.size : Int) := by omega
        go_wp2_with fail
        go_ret
        exact ⟨rfl, HB3.out⟩
  · have hE1 : E = 1 := by rw [← hE]; unfold shE; rw [if_neg hok]
    subst hE1
    clear hT hR hF hX hE hnum hok
    go_enter Tryd.func4, Tryd.ntmps4
    go_wp2_with fail
    refine CA.out.mono ?_
    rintro e w1 ⟨rfl, hq1⟩
    have HB1 : SldW (Below w.heap.size w w1) := ⟨hq1⟩
    clear hq1
    go_wp2_with fail
    refine (CS.out w1 HB1.out).mono ?_
    rintro e w2 ⟨rfl, hq2⟩
    have HB2 : SldW (Below w.heap.size w w2) := ⟨HB1.out.trans (hq2.mono HB1.out.size)⟩
    clear hq2
    go_wp2_with fail
    go_ret
    exact ⟨rfl, HB2.out⟩
end Go.Proofs.YtjmccobblpcbhaaDoor

set_option linter.unusedVariables false
namespace Go.Proofs.YtjmccobblpcbhaaDoor.parsespelled
open Go.ChangeShapes Go.WideShapes Go.ChangeAt Go.RowKit Go.WideMaps Go.WideElems
open Go.ChangeMaps (open_string shut_string)

set_option maxRecDepth 100000 in
set_option maxHeartbeats 1000000 in
theorem contract (H : Type) (enc : TypeId × Value → H) (W : World) (base : Nat) (args : Array Value) (ds gs : List (DataW H)) (before : List MemPlace)
    (hval : ∀ (j : Nat) t v, Tryd.f4.params[j]? = some t → args[j]? = some v → Value.okWide Tryd.prog W .any base t v)
    (hW : DataW.Whole enc Tryd.prog Tryd.f4.params.toList Rows.parseSpelledSpec.vars false W args.toList ds gs before)
    (hsz : (DataW.weightsEach Tryd.prog (Tryd.f4.params.toList ++ (OpenSpec.ofChange Rows.parseSpelledSpec).bare.plain.varTypes Tryd.prog) (ds ++ gs)).all (· ≤ reachBytes) = true)
    (hL : laidMetH Tryd.prog Rows.parseSpelledRow.laid W) :
    Calls Tryd.prog 4 args W fun e W' => ∃ v, e = .returned v ∧ Rows.parseSpelledSpec.post enc Tryd.prog Tryd.f4 false true false false W args v W' := by
  have hW' := hW
  have hlt : ∀ x ∈ before, x.block < W.heap.size := fun x hx => by simpa using hW'.lt x hx
  obtain ⟨p, q, hA0, hV, rfl, hfz, hnd⟩ := hW
  have hA : DataW.TrodAll enc Tryd.prog W 0 (fun _ => true) true Tryd.f4.params.toList args.toList ds p := hA0
  rw [Tryd.params4 ] at hA hval
  obtain ⟨v0, vs0, d0, ds0, p0, q0, hargs0, rfl, rfl, h0, r0⟩ := trodAll_cons hA
  obtain ⟨v1, vs1, d1, ds1, p1, q1, rfl, rfl, rfl, h1, r1⟩ := trodAll_cons r0
  obtain ⟨rfl, rfl, rfl⟩ := trodAll_nil r1
  obtain rfl : args = #[v0, v1] := by cases args; simp_all
  obtain ⟨rfl, rfl⟩ := trodVars_none hV
  clear hA0
  simp only [List.append_nil] at hW' hsz
  have h0k := h0
  have ok0 : Value.okWide Tryd.prog W .any base 22 v0 := hval 0 22 v0 (by rfl) (by rfl)
  obtain ⟨a0, n0, c0, rfl⟩ := okWide_slice Tryd.underlying22 ok0
  obtain ⟨fu0, hf0⟩ := h0
  obtain ⟨ao0, cap0, l0, he0, R0, hF0⟩ := open_nodesX (v := .slice a0 n0 c0) hf0
  cases he0
  have F0 := hF0 fun n hn => of_decide_eq_true (List.all_eq_true.1 hsz n (DataW.weights_mem_each (j := 0) (t := 22) (by kernel_rfl) rfl n hn))
  have h1k := h1
  have ok1 : Value.okWide Tryd.prog W .any base 38 v1 := hval 1 38 v1 (by rfl) (by rfl)
  obtain ⟨a1, n1, c1, rfl⟩ := okWide_slice Tryd.underlying38 ok1
  obtain ⟨fu1, hf1⟩ := h1
  obtain ⟨ao1, cap1, l1, he1, hF1⟩ := open_u8s (v := .slice a1 n1 c1) hf1
  cases he1
  have R1 := hF1 fun n hn => of_decide_eq_true (List.all_eq_true.1 hsz n (DataW.weights_mem_each (j := 1) (t := 38) (by kernel_rfl) rfl n hn))
  refine (parseSpelled_walk W a0 a1 c0 c1 l0 l1 (tabs_of_laid hL)  R0 R1  F0).mono fun e W' ⟨he, hg⟩ => ?_
  subst he
  exact ⟨_, rfl, post_below (pv := []) hW' (fun _ _ _ => trodAll_cons_mk (shut_bool Tryd.underlying4 _) trodAll_mk0) (fun sp hsp => trodAll_cons_mk (Trod_stays Tryd.laidOut (by kernel_rfl) (of_decide_eq_true (by kernel_rfl)) h0k (fun x hx => hg.same (hlt x (by simp [hx]))) (fun x hx => hsp x (by simp [hx]))) (trodAll_cons_mk (Trod_stays Tryd.laidOut (by kernel_rfl) (of_decide_eq_true (by kernel_rfl)) h1k (fun x hx => hg.same (hlt x (by simp [hx]))) (fun x hx => hsp x (by simp [hx]))) trodAll_mk0)) (fun _ _ => rfl) (by simp) (hg.frame _)⟩

end Go.Proofs.YtjmccobblpcbhaaDoor.parsespelled
