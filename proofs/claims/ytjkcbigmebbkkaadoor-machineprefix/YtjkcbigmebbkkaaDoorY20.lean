/-
  MpW, MpO, MachineprefixK.
-/
import Derived.Test.YtjkcbigmebbkkaaDoorChecked
import GoSem.PinnedTables
import GoSem.Claim
import GoSem.ClaimJoined
import GoSem.ClaimMapViews
import Derived.JoinedTies
import Derived.KernelRfl
import GoSem.ClaimSeven
import Derived.LaidByTextLater
import Derived.SevenTiedAt
import Derived.LaidSub
import Derived.LaidOnce
import Derived.Shelf.Unicode.DecodeSlow
import Derived.Laws.RangeAny
import Derived.Shelf.Strconv.Itoa0
import Derived.Shelf.Unicode.DecodeAny
import Derived.Test.YtjkcbigmebbkkaaDoorProg
import Derived.WalkKit
import Derived.Deep.DeepFit
import Derived.Lib.OthersKept
import Derived.Lib.RuneCountTail
import Derived.Lib.LaidU8
import Derived.MakeChecks
import Derived.ProofKit
import Derived.OpenShut
import Derived.Deep.DeepHandedRow
import Derived.Deep.AppendLies
import Derived.Deep.OwnRows
import Derived.Laws.AppendOwnNone
import Derived.Deep.QuietTactic
import Derived.BigQuiet
import Derived.Deep.RegionWith
import Derived.Laws.DeepStrings4
import Derived.Deep.Slices
import Derived.SizedLaws
import Derived.Laws.CopyOwn
import Derived.Laws.MakeOwn
import Derived.Deep.RegionLaw
import Derived.Below
import Derived.Deep.RegionHeld3
import Derived.Lib.QuietBelow
import Derived.StillTail
import Derived.Lib.MapLaws
import Derived.Sort.Walk0
import Derived.Lib.ItoaNum
import Derived.Maps.OwnSet
import Derived.StringKeys
import Derived.Laws.ResultCell
import Derived.WideKeyArgs
import Derived.Test.YtjkcbigmebbkkaaDoorRows
import Derived.Test.YtjkcbigmebbkkaaDoorCards
import Derived.Test.YtjkcbigmebbkkaaDoorTie
import Derived.Test.YtjkcbigmebbkkaaDoorY01
import Derived.Test.YtjkcbigmebbkkaaDoorY02
import Derived.Test.YtjkcbigmebbkkaaDoorY03
import Derived.Test.YtjkcbigmebbkkaaDoorY04
import Derived.Test.YtjkcbigmebbkkaaDoorY05
import Derived.Test.YtjkcbigmebbkkaaDoorY06
import Derived.Test.YtjkcbigmebbkkaaDoorY07
import Derived.Test.YtjkcbigmebbkkaaDoorY08
import Derived.Test.YtjkcbigmebbkkaaDoorY09
import Derived.Test.YtjkcbigmebbkkaaDoorY10
import Derived.Test.YtjkcbigmebbkkaaDoorY11
import Derived.Test.YtjkcbigmebbkkaaDoorY12
import Derived.Test.YtjkcbigmebbkkaaDoorY13
import Derived.Test.YtjkcbigmebbkkaaDoorY14
import Derived.Test.YtjkcbigmebbkkaaDoorY15
import Derived.Test.YtjkcbigmebbkkaaDoorY16
import Derived.Test.YtjkcbigmebbkkaaDoorY17
import Derived.Test.YtjkcbigmebbkkaaDoorY18
import Derived.Test.YtjkcbigmebbkkaaDoorY19
set_option linter.unusedSimpArgs false
set_option linter.unusedVariables false
namespace Go.Proofs.YtjkcbigmebbkkaaDoor
open Go.RowKit Go.Lib Go.Maps

theorem Cms_own {w : World} {base : Nat} {a : Option Addr} {c n : Nat} {l : List Cm} (hn : l.length = n) (h : w.ownsRow base 68 6 (.slice a n c) n (cmCells l)) : Cms w a c l := by
  subst hn
  obtain ⟨a', c', e, hC⟩ := Cms_of_own h
  cases e
  exact hC
/-- What stands through the law. -/
structure Mp1 (wA : World) (q : Nat) (pa : Option Addr) (pc : Nat) (l : List Cm) (h : Int) (W : World) : Prop where
  c0 : W.cell? ⟨q, 0, none⟩ = some (.slice pa l.length pc)
  c1 : W.cell? ⟨q, 1, none⟩ = some (.int .i64 h)
  tabs : SpanCells W
  prog : Cms W pa pc l
  below : Below wA.heap.size wA W
theorem Mp1.next {wA W W' : World} {q : Nat} {pa : Option Addr} {pc : Nat} {l : List Cm} {h : Int} (H : Mp1 wA q pa pc l h W) (hq : q < wA.heap.size) (hb : Below W.heap.size W W') : Mp1 wA q pa pc l h W' := by
  have hs := H.below.size
  exact ⟨(hb.cell (p := ⟨q, 0, none⟩) (by show q < _; omega)).trans H.c0, (hb.cell (p := ⟨q, 1, none⟩) (by show q < _; omega)).trans H.c1, H.tabs.below hb, H.prog.below hb, H.below.trans (hb.mono hs)⟩

set_option maxRecDepth 20000 in
set_option maxHeartbeats 8000000 in
theorem machinePrefix_walk (w : World) (pa : Option Addr) (pc : Nat) (l : List Cm) (h : Int) (a1 : Option Addr) (n1 c1 : Nat) (a2 : Option Addr) (n2 c2 : Nat) (cl : Int) (T : SpanCells w) (hC : Cms w pa pc l) (hnc : pa = none → l.length = 0 ∧ pc = 0) (hF : l.length * 56 ≤ 140737488355328) :
    Calls Tryd.prog 6 #[.agg #[.slice pa l.length pc, .int .i64 h, .slice a1 n1 c1, .slice a2 n2 c2, .int .i64 cl]] w fun e w' => e = .returned (.bool true) ∧ Below w.heap.size w w' := by
  have hl1 := hC.1
  have hl2 := hC.2.1
  unfold maxLen at hl2
  have hbA : Below w.heap.size w (w.alloc (.cells #[.slice pa l.length pc, .int .i64 h, .slice a1 n1 c1, .slice a2 n2 c2, .int .i64 cl] 65)) := (Below.refl _ _).alloc (Nat.le_refl _) _
  have hkA : (w.alloc (.cells #[.slice pa l.length pc, .int .i64 h, .slice a1 n1 c1, .slice a2 n2 c2, .int .i64 cl] 65)).heap[w.heap.size]? = some (.cells #[.slice pa l.length pc, .int .i64 h, .slice a1 n1 c1, .slice a2 n2 c2, .int .i64 cl] 65 (0, 0)) := (MapKept.heap_alloc w _).1
  have hsA : (w.alloc (.cells #[.slice pa l.length pc, .int .i64 h, .slice a1 n1 c1, .slice a2 n2 c2, .int .i64 cl] 65)).heap.size = w.heap.size + 1 := by simp
  obtain ⟨wA, hwA⟩ : ∃ wA, w.alloc (.cells #[.slice pa l.length pc, .int .i64 h, .slice a1 n1 c1, .slice a2 n2 c2, .int .i64 cl] 65) = wA := ⟨_, rfl⟩
  rw [hwA] at hbA hkA hsA
  obtain ⟨Q, hQ⟩ : ∃ Q, w.heap.size = Q := ⟨_, rfl⟩
  have hq : Q < wA.heap.size := by omega
  have hM0 : Mp1 wA Q pa pc l h wA := ⟨by rw [cell_of_heap (hQ ▸ hkA)]; rfl, by rw [cell_of_heap (hQ ▸ hkA)]; rfl, T.below hbA, hC.below hbA, Below.refl _ _⟩
  have HNX : Hid (∀ W W', Mp1 wA Q pa pc l h W → Below W.heap.size W W' → Mp1 wA Q pa pc l h W') := fun W W' H hb => H.next hq hb
  have HBA : Hid (Below w.heap.size w wA) := hbA
  have HNC : Hid (pa = none → l.length = 0 ∧ pc = 0) := hnc
  have HM0 : Hid (_) := hM0
  have b0 := hM0.c0
  have b1 := hM0.c1
  have HBE : Hid (∀ W, Mp1 wA Q pa pc l h W → Below w.heap.size w W) := fun W H => hbA.trans (H.below.mono hbA.size)
  clear T hC hnc hbA hkA hsA hM0
  go_enter Tryd.func6, Tryd.ntmps6
  go_wp2_with (first | (rw [hwA]) | (rw [hQ]) | fail)
  go_region_held3 (fun W => W.cell? ⟨Q, 0, none⟩ = some (.slice pa l.length pc) ∧ W.cell? ⟨Q, 1, none⟩ = some (.int .i64 h)) (go_keep) (first | (go_at_call 30; refine (awake15_any (HM0.out.tabs.below (Below.refl _ _).drew)).mono ?_; rintro e w3 ⟨rfl, hb3⟩; have hM3 := HNX.out _ w3 (HNX.out _ _ HM0.out (Below.refl _ _).drew) hb3; have m0 := hM3.c0; have m1 := hM3.c1) | (go_at_call 36; refine (copied15_any pa pc l hF _ hM3.prog HNC.out).mono ?_; rintro e w4 ⟨a4, c4, rfl, hO4, hb4⟩; have hM4 := HNX.out _ w4 hM3 hb4; have k0 := hM4.c0; have k1 := hM4.c1) | (go_at_call 35; refine (mcheck_any hM4.tabs (Cms_own rfl hO4) h).mono ?_; rintro e w5 ⟨rfl, hb5⟩; have hM5 := HNX.out _ w5 hM4 hb5; have n0 := hM5.c0; have n1' := hM5.c1))
  have HM5 : Hid (Mp1 wA Q pa pc l h w5) := hM5
  clear hM3 hM4 hM5 m0 m1 k0 k1 hb3 hb4 hb5 hO4 n0 n1' b0 b1 hwA
  cases hck : ckA l h with
  | false =>
    have e1 : ckE l h = 1 := by unfold ckE; rw [hck]; rfl
    rw [e1]
    have cW := awake15_any HM5.out.tabs
    clear hck e1
    go_wp2_with fail
    refine cW.mono ?_
    rintro e w6 ⟨rfl, hb6⟩
    have HB6 : Hid (_) := HBE.out _ (HNX.out _ _ HM5.out hb6)
    clear cW hb6
    go_wp2_with fail
    go_ret
    exact ⟨rfl, HB6.out⟩
  | true =>
    have e1 : ckE l h = 0 := by unfold ckE; rw [hck]; rfl
    rw [e1]
    have HCK : Hid (ckA l h = true) := hck
    obtain ⟨h0, h6, h64⟩ := pre_ok hck
    have HPI : Hid (∀ i, i ≤ l.length → ((ckE (l.take i) h = 0) ↔ ((cntT (l.take i) : Int) = h))) := pre_iff hck
    clear hck e1
    rw [show ((0 : Int) != 0) = false from rfl]
    go_wp2_with fail
    go_loopw [3, 4] (fun tk i wr => ∃ k : Nat, k ≤ l.length + 1 ∧ i = .int .i64 k ∧ tk = .int .i64 (cntT (l.take k) : Nat) ∧ Mp1 wA Q pa pc l h wr) (fun tk i _ => l.length + 1 - (RowKit.intOf i).toNat)
    case atStart => exact ⟨0, by omega, rfl, by simp [cntT], HM5.out⟩
    case round =>
      obtain ⟨k, hk, rfl, rfl, hM⟩ := hrel
      have hcn : cntT (l.take k) ≤ 64 := by unfold cntT; have := List.countP_le_length (p := fun c : Cm => decide (c.kind = 3)) (l := l.take k); simp at this; omega
      by_cases hlt : k ≤ l.length
      · have b0 := hM.c0
        have b1 := hM.c1
        have HM : Hid (_) := hM
        have hkl : (l.take k).length = k := by simp; omega
        have HPK := HPI.out k hlt
        have hk1 : (k : Int) ≤ (pc : Int) := by omega
        have HCC : Hid (∀ W, Mp1 wA Q pa pc l h W → Calls Tryd.prog 36 #[.slice pa k pc] W fun e W' => ∃ a' c', e = .returned (.slice a' k c') ∧ W'.ownsRow W.heap.size 68 6 (.slice a' k c') k (cmCells (l.take k)) ∧ Below W.heap.size W W') := fun W hW => by
          have := copied15_any pa pc (l.take k) (by rw [hkl]; omega) W (hW.prog.take k hlt) (fun e => by obtain ⟨z1, z2⟩ := HNC.out e; rw [hkl]; omega)
          rwa [hkl] at this
        obtain ⟨CT, hCT⟩ : ∃ CT, cntT (l.take k) = CT := ⟨_, rfl⟩
        have HCT : Hid (cntT (l.take k) = CT) := hCT
        obtain ⟨CE, hCE⟩ : ∃ CE, ckE (l.take k) h = CE := ⟨_, rfl⟩
        have HCE : Hid (ckE (l.take k) h = CE) := hCE
        rw [hCT, hCE] at HPK
        have HKC : Hid (∀ W (a' : Option Addr) (c' base : Nat), Mp1 wA Q pa pc l h W → W.ownsRow base 68 6 (.slice a' k c') k (cmCells (l.take k)) → Calls Tryd.prog 35 #[.slice a' k c', .int .i64 h] W fun e w' => e = .returned (.int .i64 CE) ∧ Below W.heap.size W w') := fun W a' c' base hW hO => by
          have := mcheck_any hW.tabs (Cms_own hkl hO) h
          rwa [hkl, HCE.out] at this
        rw [hCT] at hcn
        rw [hCT]
        clear hM hkl hCT hCE
        go_wp2_with fail
        go_region_held3 (fun W => W.cell? ⟨Q, 0, none⟩ = some (.slice pa l.length pc) ∧ W.cell? ⟨Q, 1, none⟩ = some (.int .i64 h)) (go_keep) (first | (go_at_call 36; refine (HCC.out _ (HNX.out _ _ HM.out (Below.refl _ _).drew)).mono ?_; rintro e w4 ⟨a4, c4, rfl, hO4, hb4⟩; have hM4 := HNX.out _ w4 (HNX.out _ _ HM.out (Below.refl _ _).drew) hb4; have k0 := hM4.c0; have k1 := hM4.c1) | (go_at_call 35; refine (HKC.out _ _ _ _ hM4 hO4).mono ?_; rintro e w5 ⟨rfl, hb5⟩; have hM5 := HNX.out _ w5 hM4 hb5; have n0 := hM5.c0; have n1' := hM5.c1))
        have HM5' : Hid (Mp1 wA Q pa pc l h w5) := hM5
        have hbb : (CE == 0) = ((CT : Int) == h) := by
          rw [Bool.eq_iff_iff, beq_iff_eq, beq_iff_eq]; exact HPK
        rw [hbb]
        generalize hz : ((CT : Int) == h) = z at *
        first | rw [show (!(z == z)) = false by cases z <;> rfl] | rw [show ((!z) == z) = false by cases z <;> rfl] | rw [show (z != z) = false by cases z <;> rfl]
        clear hM4 hM5 k0 k1 hb4 hb5 hO4 n1' b0 b1 HPK hbb HKC
        by_cases hlt2 : k < l.length
        · obtain ⟨cm, hcm⟩ : ∃ cm, l.getD k cm0 = cm := ⟨_, rfl⟩
          rcases HM5'.out.prog.2.2 with h00 | ⟨b, o, hpa, hbl, hc⟩
          · rw [h00] at hlt2; simp at hlt2
          subst hpa
          have hA := hc k hlt2
          rw [hcm] at hA
          have HCA : Hid (∀ W, Mp1 wA Q (some ⟨b, o, none⟩) pc l h W → CmAt W b (o + k * 6) cm) := fun W hW => by
            rcases hW.prog.2.2 with h00 | ⟨b', o', hpa, _, hc⟩
            · rw [h00] at hlt2; simp at hlt2
            · injection hpa with hpa
              injection hpa with e1 e2
              subst e1; subst e2
              have := hc k hlt2
              rwa [hcm] at this
          have hct1 := cntT_take hlt2
          rw [hcm, HCT.out] at hct1
          have hag := fun hk3 => pre_again HCK.out k hlt2 hk3
          rw [hcm] at hag
          obtain ⟨kind, r, to, op, nn, name⟩ := cm
          simp only at hct1 hag
          by_cases hk3 : kind = 3
          · subst hk3
            have hC1 : cntT (l.take (k + 1)) = CT + 1 := by rw [hct1, if_pos rfl]
            have HC1 : Hid (_) := hC1
            have hkl : (l.take (k + 1)).length = k + 1 := by simp; omega
            have HAG : Hid (ckE (l.take (k + 1) ++ [⟨3, r, to, op, nn, name⟩]) h = 1) := hag rfl
            have HCC2 : Hid (∀ W, Mp1 wA Q (some ⟨b, o, none⟩) pc l h W → Calls Tryd.prog 36 #[.slice (some ⟨b, o, none⟩) (k + 1) pc] W fun e W' => ∃ a' c', e = .returned (.slice a' (k + 1) c') ∧ W'.ownsRow W.heap.size 68 6 (.slice a' (k + 1) c') (k + 1) (cmCells (l.take (k + 1))) ∧ Below W.heap.size W W') := fun W hW => by
              have := copied15_any (some ⟨b, o, none⟩) pc (l.take (k + 1)) (by rw [hkl]; omega) W (hW.prog.take (k + 1) (by omega)) (fun e => by cases e)
              rwa [hkl] at this
            have HKC2 : Hid (∀ W (a' : Option Addr) (c' base : Nat), Mp1 wA Q (some ⟨b, o, none⟩) pc l h W → W.ownsRow base 68 6 (.slice a' (k + 1 + 1) c') (k + 1 + 1) (cmCells (l.take (k + 1)) ++ [.int .i64 3, .int .i64 r, .int .i64 to, .int .i64 op, .int .i64 nn, .string name]) → Calls Tryd.prog 35 #[.slice a' (k + 1 + 1) c', .int .i64 h] W fun e w' => e = .returned (.int .i64 1) ∧ Below W.heap.size W w') := fun W a' c' base hW hO => by
              have hn2 : (l.take (k + 1) ++ [(⟨3, r, to, op, nn, name⟩ : Cm)]).length = k + 1 + 1 := by rw [List.length_append, hkl]; rfl
              have := mcheck_any hW.tabs (Cms_own (l := l.take (k + 1) ++ [⟨3, r, to, op, nn, name⟩]) hn2 (by rw [cmCells_app]; exact hO)) h
              rwa [hn2, HAG.out] at this
            obtain ⟨x0, x1, x2, x3, x4, x5⟩ := hA
            simp only at x0 x1 x2 x3 x4 x5
            obtain ⟨i0, hi, hz0, hz1, hz3⟩ := info_parts Tryd.infoCmd
            have hw1 : IntKind.i64.wrap ((k : Int) + 1) = (k : Int) + 1 := by rw [IntKind.wrap_i64]; omega
            have hk11 : ((k : Int) + 1) ≤ (pc : Int) := by omega
            have hk12 : (0 : Int) ≤ (k : Int) + 1 := by omega
            have hk13 : ((k : Int) + 1).toNat = k + 1 := by omega
            have hk14 : k + 1 ≤ pc := by omega
            have hb0 := HM5'.out.c0
            have HME : Hid (Mp1 wA Q (some ⟨b, o, none⟩) pc l h (w5.alloc (.cells #[.int .i64 3, .int .i64 r, .int .i64 to, .int .i64 op, .int .i64 nn, .string name] 68)).drew) := HNX.out _ _ HM5'.out ((Below.refl _ _).alloc (Nat.le_refl _) _).drew
            have HMD : Hid (Mp1 wA Q (some ⟨b, o, none⟩) pc l h w5.drew) := HNX.out _ _ HM5'.out (Below.refl _ _).drew
            have HEB : Hid ((w5.alloc (.cells #[.int .i64 3, .int .i64 r, .int .i64 to, .int .i64 op, .int .i64 nn, .string name] 68)).drew.heap[w5.heap.size]? = some (.cells #[.int .i64 3, .int .i64 r, .int .i64 to, .int .i64 op, .int .i64 nn, .string name] 68 (0, 0))) := (MapKept.heap_alloc w5 _).1
            have HEL : Hid (w5.heap.size < (w5.alloc (.cells #[.int .i64 3, .int .i64 r, .int .i64 to, .int .i64 op, .int .i64 nn, .string name] 68)).drew.heap.size) := lt_of_block HEB.out
            clear hct1 hag hC1 hkl hc hcm hbl HCT HCC
            go_wp2_with fail
            go_region_held3 (fun W => W.cell? ⟨Q, 0, none⟩ = some (.slice (some ⟨b, o, none⟩) l.length pc) ∧ W.cell? ⟨b, o + k * 6, none⟩ = some (.int .i64 3) ∧ W.cell? ⟨b, o + k * 6 + 1, none⟩ = some (.int .i64 r) ∧ W.cell? ⟨b, o + k * 6 + 2, none⟩ = some (.int .i64 to) ∧ W.cell? ⟨b, o + k * 6 + 3, none⟩ = some (.int .i64 op) ∧ W.cell? ⟨b, o + k * 6 + 4, none⟩ = some (.int .i64 nn) ∧ W.cell? ⟨b, o + k * 6 + 5, none⟩ = some (.string name)) (go_keep) (first | (go_at_call 36; refine (HCC2.out _ HME.out).mono ?_; rintro e w7 ⟨a7, c7, rfl, hO7, hb7⟩; have hM7 := HNX.out _ w7 HME.out hb7; have y0 := hM7.c0; obtain ⟨u0, u1, u2, u3, u4, u5'⟩ := HCA.out _ hM7; simp only at u0 u1 u2 u3 u4 u5') | (go_at_call 36; refine (HCC2.out _ HMD.out).mono ?_; rintro e w7 ⟨a7, c7, rfl, hO7, hb7⟩; have hM7 := HNX.out _ w7 HMD.out hb7; have y0 := hM7.c0; obtain ⟨u0, u1, u2, u3, u4, u5'⟩ := HCA.out _ hM7; simp only at u0 u1 u2 u3 u4 u5') | (refine step_append_lies _ rfl (.tmp 60) (.tmp 66) 54 rfl _ 68 i0 (.agg #[.int .i64 0, .int .i64 0, .int .i64 0, .int .i64 0, .int .i64 0, .string ⟨#[]⟩]) 6 56 Tryd.underlying54 hi hz0 hz1 hz3 rfl (by decide) _ _ _ (by simp [Act.eval, Act.put]) hO7 ⟨w5.heap.size, 0, none⟩ 1 1 [.int .i64 3, .int .i64 r, .int .i64 to, .int .i64 op, .int .i64 nn, .string name] (by simp [Act.eval, Act.put]) rfl (World.news_of_block ((hb7.block w5.heap.size HEL.out).trans HEB.out)) (by simp [Value.oneCell']) (by omega) (by unfold maxLen; omega) (by omega) hb7.size _ rfl ?_; intro g8 cap8 w8 hown8 hg8 hat8 hl8; have hM8 := HNX.out _ w8 HME.out (hb7.grown hg8 hb7.size (fun j hj => (own_lt hO7 hj).1)); have v0 := hM8.c0; obtain ⟨t0, t1, t2, t3, t4, t5⟩ := HCA.out _ hM8; simp only at t0 t1 t2 t3 t4 t5) | (refine step_append_lies _ rfl (.tmp 60) (.tmp 66) 54 rfl _ 68 i0 (.agg #[.int .i64 0, .int .i64 0, .int .i64 0, .int .i64 0, .int .i64 0, .string ⟨#[]⟩]) 6 56 Tryd.underlying54 hi hz0 hz1 hz3 rfl (by decide) _ _ _ (by simp [Act.eval, Act.put]) (ownsRow_below hO7 ((Below.refl w7.heap.size w7).alloc (Nat.le_refl _) _)) ⟨w7.heap.size, 0, none⟩ 1 1 [.int .i64 3, .int .i64 r, .int .i64 to, .int .i64 op, .int .i64 nn, .string name] (by simp [Act.eval, Act.put]) rfl (cell_new6') (by simp [Value.oneCell']) (by omega) (by unfold maxLen; omega) (by omega) (Nat.le_trans hb7.size (by simp)) _ rfl ?_; intro g8 cap8 w8 hown8 hg8 hat8 hl8; have hM8 := HNX.out _ w8 HMD.out ((hb7.alloc hb7.size _).grown hg8 (Nat.le_trans hb7.size (by simp)) (fun j hj => (own_lt hO7 hj).1)); have v0 := hM8.c0; obtain ⟨t0, t1, t2, t3, t4, t5⟩ := HCA.out _ hM8; simp only at t0 t1 t2 t3 t4 t5))
            all_goals
              have HM8 : Hid (Mp1 wA Q (some ⟨b, o, none⟩) pc l h w8) := hM8
              have cc := HKC2.out _ _ _ _ hM8 hown8
              have v1 := hM8.c1
              clear hM7 hM8 hown8 hg8 hat8 hl8 hO7 hb7 y0 u0 u1 u2 u3 u4 u5' t0 t1 t2 t3 t4 t5 x0 x1 x2 x3 x4 x5 HKC2 HCC2 hb0
              go_wp2_with fail
              refine cc.mono ?_
              rintro e w9 ⟨rfl, hb9⟩
              have HM9 : Hid (Mp1 wA Q (some ⟨b, o, none⟩) pc l h w9) := HNX.out _ _ HM8.out hb9
              clear cc hb9 v0 v1 HM8
              go_wp2_with fail
              exact ⟨⟨k + 1, by omega, by go_num, by rw [HC1.out]; go_num, HM9.out⟩, by simp [RowKit.intOf]; omega⟩
          · have hC1 : cntT (l.take (k + 1)) = CT := by rw [hct1, if_neg hk3]; omega
            have HC1 : Hid (_) := hC1
            have g3 : (kind == 3) = false := by rw [beq_eq_false_iff_ne]; exact hk3
            obtain ⟨x0, x1, x2, x3, x4, x5⟩ := hA
            simp only at x0
            have hb0 := HM5'.out.c0
            clear hct1 hag hC1 hc hcm hbl HCT HCC hk3
            go_wp2_with fail
            exact ⟨⟨k + 1, by omega, by go_num, by rw [HC1.out], HM5'.out⟩, by simp [RowKit.intOf]; omega⟩
        · have hke : k = l.length := by omega
          have hC1 : cntT (l.take (k + 1)) = CT := by
            rw [← HCT.out, List.take_of_length_le (by omega), List.take_of_length_le (by omega)]
          have HC1 : Hid (_) := hC1
          have hb0 := HM5'.out.c0
          have hnl : ¬ ((k : Int) < (l.length : Int)) := by omega
          clear hC1 HCT HCC
          go_wp2_with fail
          subst hke
          exact ⟨⟨l.length + 1, by omega, by go_num, by rw [HC1.out], HM5'.out⟩, by simp [RowKit.intOf]⟩
      · have hke : k = l.length + 1 := by omega
        subst hke
        have HB : Hid (_) := HBE.out _ hM
        have b0 := hM.c0
        clear hM
        go_wp2_with fail
        go_ret
        exact ⟨rfl, HB.out⟩
end Go.Proofs.YtjkcbigmebbkkaaDoor

set_option linter.unusedSimpArgs false
set_option linter.unusedVariables false
namespace Go.Proofs.YtjkcbigmebbkkaaDoor
open Go.RowKit Go.Lib Go.ChangeShapes Go.WideShapes Go.Deep

theorem Tryd.cellsCmd : Tryd.prog.cellsOf 68 = 6 := by kernel_rfl
theorem Tryd.cellsCmds : Tryd.prog.cellsOf 54 = 1 := by kernel_rfl
theorem Tryd.cellsClss : Tryd.prog.cellsOf 60 = 1 := by kernel_rfl
theorem Tryd.cellsPic : Tryd.prog.cellsOf 63 = 2 := by kernel_rfl
theorem Tryd.cellsAsk : Tryd.prog.cellsOf 65 = 5 := by kernel_rfl
theorem Tryd.bytesCmd : Tryd.prog.bytesOf 68 = 56 := by kernel_rfl
theorem len6m {α : Type} (l : List α) (h : l.length = 6) : ∃ a b c d e f, l = [a, b, c, d, e, f] := by
  match l, h with
  | [a, b, c, d, e, f], _ => exact ⟨a, b, c, d, e, f, rfl⟩
theorem len5m {α : Type} (l : List α) (h : l.length = 5) : ∃ a b c d e, l = [a, b, c, d, e] := by
  match l, h with
  | [a, b, c, d, e], _ => exact ⟨a, b, c, d, e, rfl⟩
theorem len2m {α : Type} (l : List α) (h : l.length = 2) : ∃ a b, l = [a, b] := by
  match l, h with
  | [a, b], _ => exact ⟨a, b, rfl⟩

section
variable {H : Type} {enc : TypeId × Value → H} {w : World}

/-- One command. -/
theorem open_cmd {fuel : Nat} {cs : List Value} {x : DataW H × List MemPlace} (h : DataW.trod enc Tryd.prog w 0 (fun _ => true) true fuel 68 cs = some x) :
    ∃ c : Cm, cs = [.int .i64 c.kind, .int .i64 c.r, .int .i64 c.to, .int .i64 c.op, .int .i64 c.n, .string c.name] := by
  obtain ⟨xs, n, _, rfl, hl, hxl, hall⟩ := DataW.trod_struct Tryd.underlying68 h
  rw [Tryd.cellsCmd] at hl
  obtain ⟨v0, v1, v2, v3, v4, v5, rfl⟩ := len6m cs hl
  obtain ⟨x0, x1, x2, x3, x4, x5, rfl⟩ := len6m xs hxl
  have g0 : DataW.trod enc Tryd.prog w 0 (fun _ => true) true n 3 (([v0, v1, v2, v3, v4, v5].drop 0).take (Tryd.prog.cellsOf 3)) = some x0 := hall 0 _ rfl
  have g1 : DataW.trod enc Tryd.prog w 0 (fun _ => true) true n 3 (([v0, v1, v2, v3, v4, v5].drop 1).take (Tryd.prog.cellsOf 3)) = some x1 := hall 1 _ rfl
  have g2 : DataW.trod enc Tryd.prog w 0 (fun _ => true) true n 3 (([v0, v1, v2, v3, v4, v5].drop 2).take (Tryd.prog.cellsOf 3)) = some x2 := hall 2 _ rfl
  have g3 : DataW.trod enc Tryd.prog w 0 (fun _ => true) true n 3 (([v0, v1, v2, v3, v4, v5].drop 3).take (Tryd.prog.cellsOf 3)) = some x3 := hall 3 _ rfl
  have g4 : DataW.trod enc Tryd.prog w 0 (fun _ => true) true n 2 (([v0, v1, v2, v3, v4, v5].drop 4).take (Tryd.prog.cellsOf 2)) = some x4 := hall 4 _ rfl
  have g5 : DataW.trod enc Tryd.prog w 0 (fun _ => true) true n 9 (([v0, v1, v2, v3, v4, v5].drop 5).take (Tryd.prog.cellsOf 9)) = some x5 := hall 5 _ rfl
  rw [Tryd.cells3] at g0 g1 g2 g3
  rw [Tryd.cells2] at g4
  rw [Tryd.cellsStr] at g5
  obtain ⟨z0, k0, _, _⟩ := DataW.trod_int Tryd.underlying3 g0
  obtain ⟨z1, k1, _, _⟩ := DataW.trod_int Tryd.underlying3 g1
  obtain ⟨z2, k2, _, _⟩ := DataW.trod_int Tryd.underlying3 g2
  obtain ⟨z3, k3, _, _⟩ := DataW.trod_int Tryd.underlying3 g3
  obtain ⟨z4, k4, _, _⟩ := DataW.trod_int Tryd.underlying2 g4
  obtain ⟨s, k5, _, _⟩ := DataW.trod_string Tryd.underlying9 g5
  simp at k0 k1 k2 k3 k4 k5
  subst k0; subst k1; subst k2; subst k3; subst k4; subst k5
  exact ⟨⟨z0, z1, z2, z3, z4, s⟩, rfl⟩

/-- A program. -/
theorem open_cmds {fuel : Nat} {v : Value} {x : DataW H × List MemPlace} (h : DataW.trod enc Tryd.prog w 0 (fun _ => true) true fuel 54 [v] = some x) :
    ∃ (ao : Option Addr) (cap : Nat) (l : List Cm), v = .slice ao l.length cap ∧ Cms w ao cap l ∧ (ao = none → l.length = 0 ∧ cap = 0) ∧ ((∀ n ∈ x.1.weights Tryd.prog 54, n ≤ reachBytes) → l.length * 56 ≤ 140737488355328) := by
  rcases open_slice Tryd.underlying54 h with ⟨hcs, rfl⟩ | ⟨a, len, cap, m, n, D, Pl, hcs, _, hl, hm, hmm, rfl, hx⟩
  · simp only [List.cons.injEq, and_true] at hcs
    subst hcs
    exact ⟨none, 0, [], rfl, ⟨by simp, by simp, .inl rfl⟩, fun _ => ⟨rfl, rfl⟩, fun _ => by simp⟩
  · simp only [List.cons.injEq, and_true] at hcs
    subst hcs
    simp only [if_true] at hmm
    subst hmm
    have each : ∀ i, i < m → ∃ c : Cm, w.cells? 0 (a.add (i * 6)) 6 = some [.int .i64 c.kind, .int .i64 c.r, .int .i64 c.to, .int .i64 c.op, .int .i64 c.n, .string c.name] := by
      intro i hi
      obtain ⟨cs', h1, h2⟩ := hx i hi
      rw [Tryd.cellsCmd] at h1
      obtain ⟨c, rfl⟩ := open_cmd h2
      exact ⟨c, h1⟩
    have : Inhabited Cm := ⟨cm0⟩
    obtain ⟨q, hq⟩ := choose_lt each
    have hlen : ((List.range len).map fun i => q i).length = len := by simp
    have hget : ∀ i, i < len → ((List.range len).map fun i => q i).getD i cm0 = q i := fun i hi => by simp [hi]
    refine ⟨some a, m, (List.range len).map fun i => q i, by rw [hlen], ⟨by rw [hlen]; exact hl, hm, ?_⟩, fun h => (by cases h), fun hw => ?_⟩
    · by_cases h0 : len = 0
      · left; subst h0; rfl
      · right
        have hc0 : w.cell? a = some (.int .i64 (q 0).kind) := by
          have := (World.cells?_some (hq 0 (by omega))).2.2 0 (by omega)
          rw [Nat.zero_mul] at this
          exact this
        obtain ⟨b, o, sp⟩ := a
        have hsp : sp = none := spot_none hc0
        subst hsp
        refine ⟨b, o, rfl, World.block_lt_of_cell? _ _ hc0, fun i hi => ?_⟩
        rw [hlen] at hi
        rw [hget i hi]
        have hcell := (World.cells?_some (hq i (by omega))).2.2
        rw [Go.WideShapes.add_plain] at hcell
        refine ⟨?_, ?_, ?_, ?_, ?_, ?_⟩
        · have := hcell 0 (by omega); rw [Go.WideShapes.add_plain] at this; exact this
        · have := hcell 1 (by omega); rw [Go.WideShapes.add_plain] at this; exact this
        · have := hcell 2 (by omega); rw [Go.WideShapes.add_plain] at this; exact this
        · have := hcell 3 (by omega); rw [Go.WideShapes.add_plain] at this; exact this
        · have := hcell 4 (by omega); rw [Go.WideShapes.add_plain] at this; exact this
        · have := hcell 5 (by omega); rw [Go.WideShapes.add_plain] at this; exact this
    · have := hw ((((List.range len).map D).length + ((List.range (m - len)).map fun j => D (len + j)).length) * Tryd.prog.bytesOf 68) (by simp only [DataW.weights, Tryd.underlying54 ]; exact List.mem_cons_self ..)
      rw [Tryd.bytesCmd] at this
      simp only [List.length_map, List.length_range, reachBytes] at this
      rw [hlen]; omega
/-- The whole argument. -/
theorem open_ask {fuel : Nat} {cs : List Value} {x : DataW H × List MemPlace} (h : DataW.trod enc Tryd.prog w 0 (fun _ => true) true fuel 65 cs = some x) :
    ∃ (ao : Option Addr) (cap : Nat) (l : List Cm) (z : Int) (a1 : Option Addr) (n1 c1 : Nat) (a2 : Option Addr) (n2 c2 : Nat) (cl : Int), cs = [.slice ao l.length cap, .int .i64 z, .slice a1 n1 c1, .slice a2 n2 c2, .int .i64 cl] ∧ Cms w ao cap l ∧ (ao = none → l.length = 0 ∧ cap = 0) ∧ ((∀ n ∈ x.1.weights Tryd.prog 65, n ≤ reachBytes) → l.length * 56 ≤ 140737488355328) := by
  obtain ⟨xs, n, _, rfl, hl, hxl, hall⟩ := DataW.trod_struct Tryd.underlying65 h
  rw [Tryd.cellsAsk] at hl
  obtain ⟨v0, v1, v2, v3, v4, rfl⟩ := len5m cs hl
  obtain ⟨x0, x1, x2, x3, rfl⟩ := len4 xs hxl
  have g0 : DataW.trod enc Tryd.prog w 0 (fun _ => true) true n 54 (([v0, v1, v2, v3, v4].drop 0).take (Tryd.prog.cellsOf 54)) = some x0 := hall 0 _ rfl
  have g1 : DataW.trod enc Tryd.prog w 0 (fun _ => true) true n 3 (([v0, v1, v2, v3, v4].drop 1).take (Tryd.prog.cellsOf 3)) = some x1 := hall 1 _ rfl
  have g2 : DataW.trod enc Tryd.prog w 0 (fun _ => true) true n 63 (([v0, v1, v2, v3, v4].drop 2).take (Tryd.prog.cellsOf 63)) = some x2 := hall 2 _ rfl
  have g3 : DataW.trod enc Tryd.prog w 0 (fun _ => true) true n 3 (([v0, v1, v2, v3, v4].drop 4).take (Tryd.prog.cellsOf 3)) = some x3 := hall 3 _ rfl
  rw [Tryd.cells3] at g1 g3
  rw [Tryd.cellsCmds] at g0
  rw [Tryd.cellsPic] at g2
  obtain ⟨z1, k1, _, _⟩ := DataW.trod_int Tryd.underlying3 g1
  obtain ⟨z3, k3, _, _⟩ := DataW.trod_int Tryd.underlying3 g3
  simp at k1 k3
  subst k1; subst k3
  obtain ⟨ao, cap, l, rfl, hC, hnc, hw⟩ := open_cmds (v := v0) g0
  obtain ⟨ys, n', _, hy, hl', hyl, hall'⟩ := DataW.trod_struct Tryd.underlying63 g2
  obtain ⟨y0, y1, rfl⟩ := len2m ys hyl
  have p0 : DataW.trod enc Tryd.prog w 0 (fun _ => true) true n' 60 (([v2, v3].drop 0).take (Tryd.prog.cellsOf 60)) = some y0 := hall' 0 _ rfl
  have p1 : DataW.trod enc Tryd.prog w 0 (fun _ => true) true n' 61 (([v2, v3].drop 1).take (Tryd.prog.cellsOf 61)) = some y1 := hall' 1 _ rfl
  rw [Tryd.cellsClss] at p0
  rw [Tryd.cellsInts] at p1
  obtain ⟨a1, n1, c1, e1⟩ : ∃ a1 n1 c1, v2 = .slice a1 n1 c1 := by
    rcases open_slice Tryd.underlying60 p0 with ⟨hcs, _⟩ | ⟨a, len, cap', m, nn, D, Pl, hcs, _⟩ <;> simp at hcs <;> exact ⟨_, _, _, hcs⟩
  obtain ⟨a2, n2, c2, e2⟩ : ∃ a2 n2 c2, v3 = .slice a2 n2 c2 := by
    rcases open_slice Tryd.underlying61 p1 with ⟨hcs, _⟩ | ⟨a, len, cap', m, nn, D, Pl, hcs, _⟩ <;> simp at hcs <;> exact ⟨_, _, _, hcs⟩
  subst e1; subst e2
  refine ⟨ao, cap, l, z1, a1, n1, c1, a2, n2, c2, z3, rfl, hC, hnc, fun hh => hw fun q hq => hh q ?_⟩
  simp only [DataW.weights, Tryd.underlying65 ]
  exact DataW.weights_mem_each (j := 0) (t := 54) (d := x0.1) rfl rfl q hq
end
end Go.Proofs.YtjkcbigmebbkkaaDoor

set_option linter.unusedVariables false
namespace Go.Proofs.YtjkcbigmebbkkaaDoor.machineprefix
open Go.ChangeShapes Go.WideShapes Go.ChangeAt Go.RowKit Go.WideMaps Go.WideElems
open Go.ChangeMaps (open_string shut_string)

set_option maxRecDepth 100000 in
set_option maxHeartbeats 1000000 in
theorem contract (H : Type) (enc : TypeId × Value → H) (W : World) (base : Nat) (args : Array Value) (ds gs : List (DataW H)) (before : List MemPlace)
    (hval : ∀ (j : Nat) t v, Tryd.f6.params[j]? = some t → args[j]? = some v → Value.okWide Tryd.prog W .any base t v)
    (hW : DataW.Whole enc Tryd.prog Tryd.f6.params.toList Rows.machinePrefixSpec.vars false W args.toList ds gs before)
    (hsz : (DataW.weightsEach Tryd.prog (Tryd.f6.params.toList ++ (OpenSpec.ofChange Rows.machinePrefixSpec).bare.plain.varTypes Tryd.prog) (ds ++ gs)).all (· ≤ reachBytes) = true)
    (hL : laidMetH Tryd.prog Rows.machinePrefixRow.laid W) :
    Calls Tryd.prog 6 args W fun e W' => ∃ v, e = .returned v ∧ Rows.machinePrefixSpec.post enc Tryd.prog Tryd.f6 false true false false W args v W' := by
  have hW' := hW
  have hlt : ∀ x ∈ before, x.block < W.heap.size := fun x hx => by simpa using hW'.lt x hx
  obtain ⟨p, q, hA0, hV, rfl, hfz, hnd⟩ := hW
  have hA : DataW.TrodAll enc Tryd.prog W 0 (fun _ => true) true Tryd.f6.params.toList args.toList ds p := hA0
  rw [Tryd.params6 ] at hA hval
  obtain ⟨v0, vs0, d0, ds0, p0, q0, hargs0, rfl, rfl, h0, r0⟩ := trodAll_cons hA
  obtain ⟨rfl, rfl, rfl⟩ := trodAll_nil r0
  obtain rfl : args = #[v0] := by cases args; simp_all
  obtain ⟨rfl, rfl⟩ := trodVars_none hV
  clear hA0
  simp only [List.append_nil] at hW' hsz
  have h0k := h0
  have ok0 : Value.okWide Tryd.prog W .any base 65 v0 := hval 0 65 v0 (by rfl) (by rfl)
  obtain ⟨cs0, rfl, _⟩ := okWide_struct Tryd.underlying65 ok0
  obtain ⟨fu0, hf0⟩ := h0
  have hg0 : DataW.trod enc Tryd.prog W 0 (fun _ => true) true fu0 65 cs0.toList = some (d0, p0) := hf0
  obtain ⟨ao0, cap0, l0, z0, a10, n10, c10, a20, n20, c20, cl0, he0, R0, hn0, hF0⟩ := open_ask hg0
  obtain rfl : cs0 = #[.slice ao0 l0.length cap0, .int .i64 z0, .slice a10 n10 c10, .slice a20 n20 c20, .int .i64 cl0] := Array.toList_inj.1 he0
  have F0 := hF0 fun n hn => of_decide_eq_true (List.all_eq_true.1 hsz n (DataW.weights_mem_each (j := 0) (t := 65) (by kernel_rfl) rfl n hn))
  refine (machinePrefix_walk W ao0 cap0 l0 z0 a10 n10 c10 a20 n20 c20 cl0 (spans_of_laid hL) R0 hn0 F0).mono fun e W' ⟨he, hg⟩ => ?_
  subst he
  exact ⟨_, rfl, post_below (pv := []) hW' (fun _ _ _ => trodAll_cons_mk (shut_bool Tryd.underlying4 _) trodAll_mk0) (fun sp hsp => trodAll_cons_mk (Trod_stays Tryd.laidOut (by kernel_rfl) (of_decide_eq_true (by kernel_rfl)) h0k (fun x hx => hg.same (hlt x (by simp [hx]))) (fun x hx => hsp x (by simp [hx]))) trodAll_mk0) (fun _ _ => rfl) (by simp) (hg.frame _)⟩

end Go.Proofs.YtjkcbigmebbkkaaDoor.machineprefix
