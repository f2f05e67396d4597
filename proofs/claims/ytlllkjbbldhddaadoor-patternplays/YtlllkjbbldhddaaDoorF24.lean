/-
  PaLw, PaHl, PaNu, PaSzW.
-/
import Derived.Test.YtlllkjbbldhddaaDoorChecked
import GoSem.PinnedTables
import GoSem.Claim
import GoSem.ClaimJoined
import GoSem.ClaimMapViews
import Derived.JoinedTies
import Derived.KernelRfl
import Derived.Shelf.Unicode.DecodeSlow
import Derived.Laws.RangeAny
import Derived.Shelf.Unicode.DecodeAny
import Derived.Test.YtlllkjbbldhddaaDoorProg
import Derived.WalkKit
import Derived.Deep.DeepFit
import Derived.Lib.OthersKept
import Derived.Lib.RuneCountTail
import Derived.Lib.LaidU8
import Derived.MakeChecks
import Derived.ProofKit
import Derived.OpenShut
import Derived.Deep.DeepHandedRow
import Derived.Deep.AppendLies
import Derived.Deep.OwnRows
import Derived.Laws.AppendOwnNone
import Derived.Deep.QuietTactic
import Derived.BigQuiet
import Derived.Deep.RegionWith
import Derived.Laws.DeepStrings4
import Derived.Deep.Slices
import Derived.SizedLaws
import Derived.Lib.MapLaws
import Derived.Sort.Walk0
import Derived.Lib.ItoaNum
import Derived.Maps.OwnSet
import Derived.StringKeys
import Derived.Below
import Derived.Laws.ResultCell
import Derived.Deep.RegionHeld3
import Derived.Deep.RegionLaw
import Derived.Lib.QuietBelow
import Derived.StillTail
import Derived.Deep.DeepCutAuto
import Derived.Laws.IdiomStrings
import Derived.WalkSmall
import Derived.Laws.OwnMore
import Derived.Test.YtlllkjbbldhddaaDoorRows
import Derived.Test.YtlllkjbbldhddaaDoorF01
import Derived.Test.YtlllkjbbldhddaaDoorF02
import Derived.Test.YtlllkjbbldhddaaDoorF03
import Derived.Test.YtlllkjbbldhddaaDoorF04
import Derived.Test.YtlllkjbbldhddaaDoorF05
import Derived.Test.YtlllkjbbldhddaaDoorF06
import Derived.Test.YtlllkjbbldhddaaDoorF07
import Derived.Test.YtlllkjbbldhddaaDoorF08
import Derived.Test.YtlllkjbbldhddaaDoorF09
import Derived.Test.YtlllkjbbldhddaaDoorF10
import Derived.Test.YtlllkjbbldhddaaDoorF11
import Derived.Test.YtlllkjbbldhddaaDoorF12
import Derived.Test.YtlllkjbbldhddaaDoorF13
import Derived.Test.YtlllkjbbldhddaaDoorF14
import Derived.Test.YtlllkjbbldhddaaDoorF15
import Derived.Test.YtlllkjbbldhddaaDoorF16
import Derived.Test.YtlllkjbbldhddaaDoorF17
import Derived.Test.YtlllkjbbldhddaaDoorF18
import Derived.Test.YtlllkjbbldhddaaDoorF19
import Derived.Test.YtlllkjbbldhddaaDoorF20
import Derived.Test.YtlllkjbbldhddaaDoorF21
import Derived.Test.YtlllkjbbldhddaaDoorF22
import Derived.Test.YtlllkjbbldhddaaDoorF23
set_option linter.unusedSimpArgs false
set_option linter.unusedVariables false
namespace Go.Proofs.YtlllkjbbldhddaaDoor
open Go.RowKit Go.Lib Go.Maps Go.Deep Go.Sort

set_option maxRecDepth 20000 in
set_option maxHeartbeats 2000000 in
/-- The same lists? -/
theorem sameAll_any {w : World} {ao bo : Option Addr} {ca cb : Nat} {a b : List (List Nd)} (hA : Lst w w.heap.size (.slice ao a.length ca) a) (hB : Lst w w.heap.size (.slice bo b.length cb) b) :
    Calls Tryd.prog 42 #[.slice ao a.length ca, .slice bo b.length cb] w fun e w' => e = .returned (.bool (decide (a = b))) ∧ Below w.heap.size w w' := by
  have HA : Hid (Lst w w.heap.size (.slice ao a.length ca) a) := hA
  have HB : Hid (Lst w w.heap.size (.slice bo b.length cb) b) := hB
  obtain ⟨ao', ca', e1, hal, ham, _⟩ := hA
  cases e1
  obtain ⟨bo', cb', e1, hbl, hbm, _⟩ := hB
  cases e1
  unfold maxLen at ham hbm
  by_cases hl : a.length = b.length
  · rw [← hl]
    rw [← hl] at hbl
    have HL : Hid (a.length = b.length) := hl
    clear hl
    obtain ⟨n, hn⟩ : ∃ n, a.length = n := ⟨_, rfl⟩
    have HN : Hid (a.length = n) := hn
    rw [hn] at hal hbl ⊢
    obtain ⟨R, hR⟩ : ∃ R, decide (a = b) = R := ⟨_, rfl⟩
    have HR : Hid (decide (a = b) = R) := hR
    rw [hR]
    clear hn hR
    go_enter Tryd.func42, Tryd.ntmps42
    go_wp2_with fail
    go_loopw [5] (fun i wr => ∃ k : Nat, k ≤ n ∧ i = .int .i64 k ∧ Hid (a.take k = b.take k) ∧ Below w.heap.size w wr) (fun i _ => n - (RowKit.intOf i).toNat)
    case atStart => exact ⟨0, by omega, rfl, rfl, Below.refl _ _⟩
    case round =>
      obtain ⟨k, hk, rfl, hE, hbw⟩ := hrel
      have hsw := hbw.size
      by_cases hlt : k < n
      · have hka : k < a.length := by rw [HN.out]; exact hlt
        have hkb : k < b.length := by rw [← HL.out, HN.out]; exact hlt
        obtain ⟨b1, o1, p1, c1, rfl, hb1, hc1, hn1⟩ := HA.out.part hbw hka
        obtain ⟨b2, o2, p2, c2, rfl, hb2, hc2, hn2⟩ := HB.out.part hbw hkb
        obtain ⟨r, hr⟩ : ∃ r, decide (a.getD k [] = b.getD k []) = r := ⟨_, rfl⟩
        have cS : Hid (∀ d os, Calls Tryd.prog 15 #[.slice p1 (a.getD k []).length c1, .slice p2 (b.getD k []).length c2] (grow (redrawn wr d) os) fun e w'' => e = .returned (.bool r) ∧ ∃ p : Regrown, w'' = grow (redrawn wr p.d) p.os) := fun d os => Calls.regrown_of (sameR (Rd.below hn1 (below_regrown wr d os) (below_regrown wr d os).size) (Rd.below hn2 (below_regrown wr d os) (below_regrown wr d os).size) r hr)
        have HT1 : Hid (r = true → a.take (k + 1) = b.take (k + 1)) := fun h => by
          have h2 := of_decide_eq_true (hr.trans h)
          rw [List.take_succ_eq_append_getElem hka, List.take_succ_eq_append_getElem hkb, hE.out]
          simp [hka, hkb] at h2
          rw [h2]
        have HT2 : Hid (r = false → R = false) := fun h => by
          have h2 := of_decide_eq_false (hr.trans h)
          rw [← HR.out]
          exact decide_eq_false fun e => h2 (by rw [e])
        have g1 := cell_regrown hc1
        have g2 := cell_regrown hc2
        have HBW : Hid (_) := hbw
        have hk0 : (0 : Int) ≤ (k : Int) := by omega
        have hk1 : (k : Int) < (n : Int) := by omega
        clear hbw hn1 hn2 hr hc1 hc2
        generalize (a.getD k []).length = l1 at *
        generalize (b.getD k []).length = l2 at *
        cases r
        · go_wp2_with fail
          refine wp_region_quiet_below (by kernel_rfl) (by kernel_rfl) ?_
          iterate 10 (go_big_quiet_step ((go_at_call 15; exact cS.out _ _)))
          refine wpQuiet_nil ?_
          intro _ hw'
          obtain ⟨⟨ds, oss⟩, hw''⟩ := hw'
          subst hw''
          have HB9 : Hid (Below w.heap.size w (grow (redrawn wr ds) oss)) := HBW.out.trans ((below_regrown wr ds oss).mono hsw)
          go_wp2_with fail
          go_ret
          exact ⟨by rw [HT2.out (by simp)] <;> rfl, HB9.out⟩
        · go_wp2_with fail
          refine wp_region_quiet_below (by kernel_rfl) (by kernel_rfl) ?_
          iterate 10 (go_big_quiet_step ((go_at_call 15; exact cS.out _ _)))
          refine wpQuiet_nil ?_
          intro _ hw'
          obtain ⟨⟨ds, oss⟩, hw''⟩ := hw'
          subst hw''
          have HB9 : Hid (Below w.heap.size w (grow (redrawn wr ds) oss)) := HBW.out.trans ((below_regrown wr ds oss).mono hsw)
          go_wp2_with fail
          exact ⟨⟨k + 1, by omega, by go_num, HT1.out (by simp), HB9.out⟩, by simp [RowKit.intOf]; omega⟩
      · have hke : k = n := by omega
        subst hke
        have HRT : Hid (R = true) := by
          show R = true
          rw [← HR.out]
          have := hE.out
          rw [← HN.out, List.take_length] at this
          rw [HL.out, List.take_length] at this
          exact decide_eq_true this
        have HBW : Hid (_) := hbw
        clear hbw
        go_wp2_with fail
        go_ret
        exact ⟨by rw [HRT.out] <;> rfl, HBW.out⟩
  · have hR : decide (a = b) = false := decide_eq_false fun e => hl (by rw [e])
    rw [hR]
    have hne : ((a.length : Int) != (b.length : Int)) = true := by simp; omega
    have hne2 : ¬ ((a.length : Int) = (b.length : Int)) := by omega
    clear hR hl HA HB
    generalize a.length = n at *
    generalize b.length = m at *
    go_enter Tryd.func42, Tryd.ntmps42
    go_wp2_with fail
    go_ret
    exact ⟨rfl, Below.refl _ _⟩
end Go.Proofs.YtlllkjbbldhddaaDoor

set_option linter.unusedSimpArgs false
set_option linter.unusedVariables false
namespace Go.Proofs.YtlllkjbbldhddaaDoor
open Go.RowKit Go.Lib

theorem Tryd.infoStrO : (Tryd.prog.info? 9).map (fun i => (i.zero, i.size, i.bytes)) = some (some (.string ⟨#[]⟩), 1, 16) := by kernel_rfl
theorem ho_ext {a b : ByteArray} (h : a.data.toList = b.data.toList) : a = b := by
  apply ByteArray.ext
  exact Array.ext' h

structure HoMid (w : World) (v : Value) (hs : List ByteArray) (wr : World) : Prop where
  row : wr.ownsRow w.heap.size 9 1 v hs.length (hs.map Value.string)
  below : Below w.heap.size w wr
/-- Is it known already? -/
def knwO (x : Nd) (hs : List ByteArray) : Bool := decide (x.op ≠ 18) || hs.any (fun y => decide (y = x.name))
theorem addNm_knwO (hs : List ByteArray) (x : Nd) : addNm hs x = if knwO x hs = true then hs else hs ++ [x.name] := by
  unfold addNm knwO
  by_cases h : x.op = 18
  · have e : decide (x.op ≠ 18) = false := by simp [h]
    rw [if_pos h, e, Bool.false_or]
  · have e : decide (x.op ≠ 18) = true := by simp [h]
    rw [if_neg h, e, Bool.true_or, if_pos rfl]
theorem beq_toLisO (a b : ByteArray) : (a.toList == b.toList) = decide (a = b) := by
  rw [toList_data, toList_data]
  by_cases h : a = b
  · subst h; simp
  · have : a.data.toList ≠ b.data.toList := fun e => h (ho_ext e)
    rw [beq_eq_false_iff_ne.2 this]
    simp [h]
theorem any_takO (hs : List ByteArray) (nm : ByteArray) (k : Nat) (hk : k < hs.length) : (hs.take (k + 1)).any (fun y => decide (y = nm)) = ((hs.take k).any (fun y => decide (y = nm)) || decide (hs.getD k ⟨#[]⟩ = nm)) := by
  rw [List.take_succ_eq_append_getElem hk, List.any_append]
  simp [hk]

set_option maxRecDepth 20000 in
set_option maxHeartbeats 4000000 in
theorem refHolesO_any {w : World} {ao : Option Addr} {cap : Nat} {l : List Nd} (hN : Rd w ao cap l) (hlen : l.length * 56 ≤ 140737488355328) :
    Calls Tryd.prog 67 #[.slice ao l.length cap] w fun e w' => ∃ va vc, e = .returned (.slice va (hlsL l).length vc) ∧ HoMid w (.slice va (hlsL l).length vc) (hlsL l) w' := by
  obtain ⟨hb1, hb2⟩ := hN.bound
  unfold maxLen at hb2
  obtain ⟨i0, hi, hz0, hz1, hz2⟩ := info_parts Tryd.infoStrO
  have HN : Hid (Rd w ao cap l) := hN
  have HE : Hid (hlsL (l.take l.length) = hlsL l) := by show _ = _; rw [List.take_length]
  clear hN
  go_enter Tryd.func67, Tryd.ntmps67
  go_wp2_with fail
  go_loopw [3, 4] (fun v i wr => ∃ k : Nat, k ≤ l.length ∧ i = .int .i64 k ∧ HoMid w v (hlsL (l.take k)) wr) (fun _ i _ => l.length - (RowKit.intOf i).toNat)
  case atStart => exact ⟨0, by omega, rfl, by simpa [hlsL] using World.ownsRow_nil _ _ _ _, Below.refl _ _⟩
  case round =>
    obtain ⟨k, hk, rfl, hM⟩ := hrel
    obtain ⟨wa, hwa⟩ : ∃ wa, wa = wr := ⟨_, rfl⟩
    subst hwa
    have hbw := hM.below
    have hsw := hbw.size
    obtain ⟨va, vc, hv⟩ := row_form' hM.row
    subst hv
    by_cases hlt : k < l.length
    · obtain ⟨b, o, kv, rfl, hbk, hna⟩ := Rd.cell (HN.out.below hbw hsw) hlt
      have HX : Hid (hlsL (l.take (k + 1)) = if knwO (l.getD k nd0) (hlsL (l.take k)) = true then hlsL (l.take k) else hlsL (l.take k) ++ [(l.getD k nd0).name]) := by
        show _ = _
        rw [List.take_succ_eq_append_getElem hlt, hlsL_snoc, addNm_knwO]
        simp [hlt]
      have hhl := hlsL_len (l.take k)
      have hhl2 : (hlsL (l.take k)).length ≤ k := by simp at hhl; omega
      clear hhl
      generalize hlsL (l.take k) = hs at *
      obtain ⟨c0, c1, c2, c3, hki⟩ := hna
      generalize hx : l.getD k nd0 = x at *
      obtain ⟨op, n, nm, kids⟩ := x
      simp only at c0 c2 HX
      have HM : Hid (HoMid w (.slice va hs.length vc) hs wa) := hM
      obtain ⟨kw, hkw⟩ : ∃ kw, decide (op ≠ 18) = kw := ⟨_, rfl⟩
      have hkw' : (op != 18) = kw := by rw [← hkw]; by_cases e : op = 18 <;> simp [e]
      have HKW : Hid (decide (op ≠ 18) = kw) := hkw
      clear hM hx hki c1 c3 hkw
      have cell : Hid (∀ j, j < hs.length → ∃ g c, va = some ⟨g, 0, none⟩ ∧ vc = c ∧ g < wa.heap.size ∧ hs.length ≤ c ∧ c ≤ maxLen ∧ wa.cell? ⟨g, j, none⟩ = some (.string (hs.getD j ⟨#[]⟩))) := fun j hj => by
        obtain ⟨g, c, e, h1, h2, h3, h4⟩ := row_cell HM.out.row hj (d := .string ⟨#[]⟩)
        cases e
        refine ⟨g, vc, rfl, rfl, h1, h2, h3, ?_⟩
        rw [h4]; simp [hj]
      go_wp2_with fail
      go_loopw [5, 6] (fun v i wq => ∃ (j : Nat) (q : Bool), j ≤ hs.length ∧ i = .int .i64 j ∧ v = .bool q ∧ Hid (q = (kw || (hs.take j).any (fun y => decide (y = nm)))) ∧ Below wa.heap.size wa wq) (fun _ i _ => hs.length - (RowKit.intOf i).toNat)
      case atStart => exact ⟨0, kw, by omega, rfl, by first | rfl | (rw [hkw'] <;> rfl) | simp [hkw'], by show kw = _; simp, Below.refl _ _⟩
      case round =>
        obtain ⟨j, q, hj, rfl, rfl, hq, hbq⟩ := hrel
        by_cases hjl : j < hs.length
        · obtain ⟨g, c, rfl, rfl, hgl, hg1, hg2, hcj⟩ := cell.out j hjl
          unfold maxLen at hg2
          have e1 := (hbq.cell (p := ⟨g, j, none⟩) hgl).trans hcj
          have e2 := (hbq.cell (p := ⟨b, o + k * 4 + 2, none⟩) hbk).trans c2
          have HQ : Hid (_) := hq
          have HA := any_takO hs nm j hjl
          have HAH : Hid (_) := HA
          have HBQ : Hid (Below wa.heap.size wa wr) := hbq
          generalize hs.getD j ⟨#[]⟩ = y at *
          clear hcj hq HA hbq
          cases q with
          | true =>
            go_wp2_with fail
            go_quiet (fail)
            go_wp2_with fail
            refine ⟨⟨j + 1, true, by omega, by go_num, rfl, ?_, below_drewN' HBQ.out _⟩, by simp [RowKit.intOf]; omega⟩
            show true = _
            rw [HAH.out, ← Bool.or_assoc, ← HQ.out]; rfl
          | false =>
            obtain ⟨ee, hee⟩ : ∃ e, decide (y = nm) = e := ⟨_, rfl⟩
            go_wp2_with fail
            go_quiet (fail)
            go_wp2_with fail
            refine ⟨⟨j + 1, decide (y = nm), by omega, by go_num, ?_, ?_, below_drewN' HBQ.out _⟩, by simp [RowKit.intOf]; omega⟩
            · rw [← beq_toLisO] <;> rfl
            · show decide (y = nm) = _
              rw [HAH.out, ← Bool.or_assoc, ← HQ.out]; rfl
        · have hje : j = hs.length := by omega
          subst hje
          rw [List.take_length] at hq
          have HQ : Hid (q = knwO ⟨op, n, nm, kids⟩ hs) := by show q = _; rw [hq.out, ← HKW.out]; rfl
          have e2 := (hbq.cell (p := ⟨b, o + k * 4 + 2, none⟩) hbk).trans c2
          have HBQ : Hid (Below wa.heap.size wa wr) := hbq
          have HM2 : Hid (HoMid w (.slice va hs.length vc) hs wr) := ⟨ownsRow_below HM.out.row hbq, HM.out.below.trans (hbq.mono HM.out.below.size)⟩
          have hs2 := HM2.out.below.size
          clear hq hbq
          cases q with
          | true =>
            have HE2 : Hid (hlsL (l.take (k + 1)) = hs) := by show _ = _; rw [HX.out, ← HQ.out]; rfl
            go_wp2_with fail
            exact ⟨⟨k + 1, by omega, by go_num, by rw [HE2.out]; exact HM2.out⟩, by simp [RowKit.intOf]; omega⟩
          | false =>
            have HE2 : Hid (hlsL (l.take (k + 1)) = hs ++ [nm]) := by show _ = _; rw [HX.out, ← HQ.out]; rfl
            go_wp2_with (at_builtin; refine wpList_append_lies _ rfl (.tmp 40) (.tmp 46) 33 rfl w.heap.size 9 i0 (.string ⟨#[]⟩) 1 16 Tryd.underlying33 hi hz0 hz1 hz2 rfl (by decide) _ _ _ rfl (HM2.out.row.alloc _) ⟨wr.heap.size, 0, none⟩ 1 1 [.string nm] rfl rfl (cell_news_one _ _ _) (by simp [Value.oneCell']) (by omega) (by unfold maxLen; omega) (by omega) (by simp; omega) _ rfl ?_; intro g6 cap6 w6 hown6 hg6 hat6 hl6)
            refine ⟨⟨k + 1, by omega, by go_num, ?_⟩, by simp [RowKit.intOf]; omega⟩
            rw [HE2.out]
            refine ⟨?_, (HM2.out.below.alloc (by omega) _).grown hg6 (by simp; omega) (fun j hj => (own_block' HM2.out.row j hj).1)⟩
            have e3 : (hs ++ [nm]).length = hs.length + 1 := by simp
            rw [e3, List.map_append]; exact hown6
    · have hke : k = l.length := by omega
      subst hke
      rw [HE.out] at hM ⊢
      have HMe : Hid (HoMid w (.slice va (hlsL l).length vc) (hlsL l) wa) := hM
      clear hM
      go_wp2_with fail
      go_ret
      exact ⟨va, vc, rfl, HMe.out⟩
end Go.Proofs.YtlllkjbbldhddaaDoor

set_option linter.unusedSimpArgs false
set_option linter.unusedVariables false
namespace Go.Proofs.YtlllkjbbldhddaaDoor
open Go.RowKit Go.Lib

def numW (ks : List ByteArray) (s : ByteArray) : Int := if ks.any (fun y => decide (y = s)) = true then (numL ks s : Nat) else -1
theorem numW_mem {ks : List ByteArray} {s : ByteArray} (h : s ∈ ks) : numW ks s = (numL ks s : Nat) := by
  unfold numW
  rw [if_pos (List.any_eq_true.2 ⟨s, h, by simp⟩)]
theorem numL_stop : ∀ (ks : List ByteArray) (s : ByteArray) (k : Nat), (ks.take k).any (fun y => decide (y = s)) = false → (hk : k < ks.length) → ks[k] = s → numL ks s = k
  | y :: ks, s, 0, _, _, he => by simp at he; unfold numL; rw [if_pos he]
  | y :: ks, s, k + 1, h, hk, he => by
    simp only [List.take_succ_cons, List.any_cons, Bool.or_eq_false_iff] at h
    unfold numL
    rw [if_neg (of_decide_eq_false h.1), numL_stop ks s k h.2 (by simpa using hk) (by simpa using he)]

set_option maxRecDepth 20000 in
set_option maxHeartbeats 2000000 in
theorem number_any {w : World} {na : Option Addr} {nc : Nat} {ks : List ByteArray} {s : ByteArray} (hS : Strs w na nc ks) :
    Calls Tryd.prog 43 #[.slice na ks.length nc, .string s] w fun e w' => e = .returned (.int .i64 (numW ks s)) ∧ Below w.heap.size w w' := by
  have HS : Hid (Strs w na nc ks) := hS
  have hm := hS.1
  have hm2 := hS.2.1
  unfold maxLen at hm2
  obtain ⟨Z, hZ⟩ : ∃ Z, numW ks s = Z := ⟨_, rfl⟩
  have HZ : Hid (numW ks s = Z) := hZ
  rw [hZ]
  clear hS hZ
  go_enter Tryd.func43, Tryd.ntmps43
  go_wp2_with fail
  go_loopw [5] (fun i wr => ∃ k : Nat, k ≤ ks.length ∧ i = .int .i64 k ∧ Hid ((ks.take k).any (fun y => decide (y = s)) = false) ∧ Below w.heap.size w wr) (fun i _ => ks.length - (RowKit.intOf i).toNat)
  case atStart => exact ⟨0, by omega, rfl, by show _ = _; simp, Below.refl _ _⟩
  case round =>
    obtain ⟨k, hk, rfl, hA, hbw⟩ := hrel
    by_cases hlt : k < ks.length
    · obtain ⟨b, o, rfl, hb, hc⟩ := HS.out.cell hlt
      have hc := (hbw.cell (p := ⟨b, o + k, none⟩) hb).trans hc
      have HB : Hid (_) := hbw
      have hgk : ks.getD k ⟨#[]⟩ = ks[k] := by simp [hlt]
      by_cases he : ks.getD k ⟨#[]⟩ = s
      · have HR : Hid (Z = (k : Int)) := by
          show Z = _
          rw [← HZ.out, numW_mem (by rw [← he, hgk]; exact List.getElem_mem hlt), numL_stop ks s k hA.out hlt (by rw [← hgk]; exact he)]
        have hq : ((ks.getD k ⟨#[]⟩).toList == s.toList) = true := by rw [he]; simp
        rw [he] at hc
        clear hbw he hgk hq
        go_wp2_with fail
        go_ret
        exact ⟨by rw [HR.out] <;> rfl, HB.out⟩
      · have HR : Hid ((ks.take (k + 1)).any (fun y => decide (y = s)) = false) := by
          show _ = _
          rw [List.take_succ_eq_append_getElem hlt, List.any_append, hA.out]
          rw [hgk] at he
          simp [he]
        have hq : ((ks.getD k ⟨#[]⟩).toList == s.toList) = false := by rw [beq_toLisO]; exact decide_eq_false he
        clear hbw he hgk
        generalize ks.getD k ⟨#[]⟩ = y at *
        go_wp2_with fail
        exact ⟨⟨k + 1, by omega, by go_num, HR.out, HB.out⟩, by simp [RowKit.intOf]; omega⟩
    · have hke : k = ks.length := by omega
      subst hke
      rw [List.take_length] at hA
      have HR : Hid (Z = -1) := by
        show Z = _
        rw [← HZ.out]; unfold numW; rw [hA.out]; rfl
      have HB : Hid (_) := hbw
      clear hbw
      go_wp2_with fail
      go_ret
      exact ⟨by rw [HR.out] <;> rfl, HB.out⟩
end Go.Proofs.YtlllkjbbldhddaaDoor

set_option linter.unusedSimpArgs false
set_option linter.unusedVariables false
namespace Go.Proofs.YtlllkjbbldhddaaDoor
open Go.RowKit Go.Lib Go.Maps Go.Deep

/-- A list and a list of lists that stand. -/
structure StdP (w : World) (ao po : Option Addr) (ca cp : Nat) (a : List Nd) (ps : List (List Nd)) (W : World) : Prop where
  below : Below w.heap.size w W
  tabs : SpanCells W
  ra : Rd W ao ca a
  rp : RdP W po cp ps
theorem StdP.next {w W W' : World} {ao po : Option Addr} {ca cp : Nat} {a : List Nd} {ps : List (List Nd)} (h : StdP w ao po ca cp a ps W) (hb : Below W.heap.size W W') : StdP w ao po ca cp a ps W' :=
  ⟨h.below.trans (hb.mono h.below.size), h.tabs.below hb, h.ra.below hb hb.size, h.rp.below hb⟩
theorem size_le {l : List Nd} {ps : List (List Nd)} (hs : ∀ r ∈ ps, sndB r = true) (m : List Nd) : (flH ps (hlsL l) m).length ≤ 64 * m.length := by
  have key : ∀ m : List Nd, (flH ps (hlsL l) m).length ≤ 64 * m.length := by
    intro m
    induction m with
    | nil => simp [flH]
    | cons x m ih =>
      have e1 : flH ps (hlsL l) (x :: m) = flN ps (hlsL l) x ++ flH ps (hlsL l) m := by simp [flH]
      have h2 : (flN ps (hlsL l) x).length ≤ 64 := by
        unfold flN
        split
        · rw [hds_len]
          by_cases hn : numL (hlsL l) x.name < ps.length
          · exact (snd_len (hs _ (getD_mem hn))).2
          · rw [List.getD_eq_getElem?_getD, List.getElem?_eq_none (by omega)]; simp
        · simp
      rw [e1]; simp; omega
  exact key m
theorem any_no14 {ps : List (List Nd)} (h : ∀ l ∈ ps, sndB l = true) : ps.any (fun l => !sndB l) = false := by
  rw [List.any_eq_false]; intro l hl; simp [h l hl]
theorem patB_hls {l : List Nd} (h : patB l = true) : (hlsL l).length ≤ 6 := by
  unfold patB at h
  simp only [Bool.and_eq_true, decide_eq_true_eq] at h
  exact h.1.2
end Go.Proofs.YtlllkjbbldhddaaDoor
