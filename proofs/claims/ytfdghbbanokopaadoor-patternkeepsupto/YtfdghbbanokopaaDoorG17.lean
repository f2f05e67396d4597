/-
  ApNodQ, BkQ, OrdPure, BytePure.
-/
import Derived.Test.YtfdghbbanokopaaDoorChecked
import GoSem.PinnedTables
import GoSem.Claim
import GoSem.ClaimJoined
import GoSem.ClaimMapViews
import Derived.JoinedTies
import Derived.KernelRfl
import Derived.Shelf.Unicode.DecodeSlow
import Derived.Laws.RangeAny
import Derived.Shelf.Strconv.Itoa0
import Derived.Shelf.Unicode.DecodeAny
import Derived.Test.YtfdghbbanokopaaDoorProg
import Derived.WalkKit
import Derived.Deep.DeepFit
import Derived.Lib.OthersKept
import Derived.Lib.RuneCountTail
import Derived.Lib.LaidU8
import Derived.MakeChecks
import Derived.ProofKit
import Derived.OpenShut
import Derived.Deep.DeepHandedRow
import Derived.Deep.AppendLies
import Derived.Deep.OwnRows
import Derived.Laws.AppendOwnNone
import Derived.Deep.QuietTactic
import Derived.BigQuiet
import Derived.Deep.RegionWith
import Derived.Laws.DeepStrings4
import Derived.Deep.Slices
import Derived.SizedLaws
import Derived.Below
import Derived.Deep.RegionLaw
import Derived.Lib.SlBytesRow
import Derived.Lib.QuietBelow
import Derived.StillTail
import Derived.Lib.MapLaws
import Derived.Sort.Walk0
import Derived.Test.YtfdghbbanokopaaDoorRows
import Derived.Test.YtfdghbbanokopaaDoorG01
import Derived.Test.YtfdghbbanokopaaDoorG02
import Derived.Test.YtfdghbbanokopaaDoorG03
import Derived.Test.YtfdghbbanokopaaDoorG04
import Derived.Test.YtfdghbbanokopaaDoorG05
import Derived.Test.YtfdghbbanokopaaDoorG06
import Derived.Test.YtfdghbbanokopaaDoorG07
import Derived.Test.YtfdghbbanokopaaDoorG08
import Derived.Test.YtfdghbbanokopaaDoorG09
import Derived.Test.YtfdghbbanokopaaDoorG10
import Derived.Test.YtfdghbbanokopaaDoorG11
import Derived.Test.YtfdghbbanokopaaDoorG12
import Derived.Test.YtfdghbbanokopaaDoorG13
import Derived.Test.YtfdghbbanokopaaDoorG14
import Derived.Test.YtfdghbbanokopaaDoorG15
import Derived.Test.YtfdghbbanokopaaDoorG16
set_option linter.unusedSimpArgs false
set_option linter.unusedVariables false
namespace Go.Proofs.YtfdghbbanokopaaDoor
open Go.RowKit

set_option maxRecDepth 100000 in
set_option maxHeartbeats 4000000 in
theorem apartNodesW_any (nn B cp : Nat) (A : Nat → Option Addr) (C len off : Nat → Nat) (X0 : Nat → List Value) (base : Nat) (w : World) (hap : RwsAp nn B A) (hoff0 : off 0 = 0) (hoffs : ∀ k, off (k + 1) = off k + len k) (hoffl : ∀ k, k < nn → off k + len k ≤ off nn) (hbase : base ≤ w.heap.size)
    (hrow : ∀ k, k < nn → (len k + 12) * 56 ≤ 140737488355328) (hnn : nn * 24 ≤ 140737488355328)
    (h0 : T1 VI w base 50 4 0 nn B A C len off X0 0 0 w) :
    Calls Tryd.prog 61 #[.slice (some ⟨B, 0, none⟩) nn cp] w fun e W' => e = .returned (.bool true) ∧ Below base w W' ∧ (∀ q, q < w.heap.size → (∀ k, k < nn → ∀ a, A k = some a → a.block ≠ q) → W'.heap[q]? = w.heap[q]?) := by
  obtain ⟨i0, hi, hz0, hz1, hz2⟩ := info_parts ap_infoN
  obtain ⟨m0, hm, hx0, hx1, hx2⟩ := info_parts ap_infoNs
  have H0 : Hid (T1 VI w base 50 4 0 nn B A C len off X0 0 0 w) := h0
  clear h0
  go_enter Tryd.func61, Tryd.ntmps61
  go_wp2_with fail
  go_loopw [3, 5] (fun nv i wr => ∃ (k a : Nat) (X : Nat → List Value), k ≤ nn ∧ i = .int .i64 k ∧ nv = .int .i64 (mI a) ∧ a = off k ∧ T1 VI w base 50 4 0 nn B A C len off X k 0 wr) (fun _ i _ => nn - (RowKit.intOf i).toNat)
  case atStart => exact ⟨0, 0, X0, by omega, rfl, by rw [mI_zero], by rw [hoff0], H0.out⟩
  case round =>
    obtain ⟨k, a, X, hk, rfl, rfl, ha, hP⟩ := hrel
    have HA0 : Hid (a = off k) := ha
    clear H0 ha
    have HP : Hid (T1 VI w base 50 4 0 nn B A C len off X k 0 wr) := hP
    clear hP
    by_cases hlt : k < nn
    · have hkI : (k : Int) < (nn : Int) := by omega
      have hoff := hoffl k hlt
      have hrk9 : (len k : Int) ≤ 2513169434905 := by have := hrow k hlt; omega
      go_wp2_with fail
      go_loopw [3, 6] (fun nv j wq => ∃ (t a : Nat) (X : Nat → List Value), t ≤ len k ∧ j = .int .i64 t ∧ nv = .int .i64 (mI a) ∧ a = off k + t ∧ T1 VI w base 50 4 0 nn B A C len off X k t wq) (fun _ j _ => len k - (RowKit.intOf j).toNat)
      case atStart => exact ⟨0, a, X, by omega, rfl, rfl, HA0.out, HP.out⟩
      case round =>
        obtain ⟨t, a', X', ht, rfl, rfl, ha', hP⟩ := hrel
        have HAA : Hid (a' = off k + t) := ha'
        have hw : wrap64 (mI a' + 1) = mI (a' + 1) := mI_succ a'
        clear HP ha'
        have hc := hP.cel k hlt
        by_cases htl : t < len k
        · have htI : (t : Int) < (len k : Int) := by omega
          obtain ⟨g, cap, hv, hg1, hg2⟩ := rw_some (hP.own k hlt) (by omega)
          have hA : A k = some ⟨g, 0, none⟩ := by simp at hv; exact hv.1
          have hoi := hP.own k hlt
          rw [hA] at hc hoi
          have f0 := rw_fro hoi (t * 4)
          obtain ⟨u0, c0, _⟩ := rw_cell hoi (i := t * 4) (by omega)
          have f1 := rw_fro hoi (t * 4 + 1)
          obtain ⟨u1, c1, _⟩ := rw_cell hoi (i := t * 4 + 1) (by omega)
          have f2 := rw_fro hoi (t * 4 + 2)
          obtain ⟨u2, c2, _⟩ := rw_cell hoi (i := t * 4 + 2) (by omega)
          have f3 := rw_fro hoi (t * 4 + 3)
          obtain ⟨u3, c3, _⟩ := rw_cell hoi (i := t * 4 + 3) (by omega)
          have HP : Hid (T1 VI w base 50 4 0 nn B A C len off X' k t wr) := hP
          clear hP hoi hv
          go_wp2_with fail
          refine ⟨⟨t + 1, a' + 1, _, by omega, by go_num, by first | rfl | rw [hw], by rw [HAA.out]; rfl, ((((HP.out.put hap hlt hA (by decide) (t * 4) (by omega) (.int .i64 (mI a'))).put hap hlt hA (by decide) (t * 4 + 1) (by omega) (.int .i64 0)).put hap hlt hA (by decide) (t * 4 + 2) (by omega) (.string ⟨#[]⟩)).put hap hlt hA (by decide) (t * 4 + 3) (by omega) (.slice none 0 0)).mark ?_⟩, by simp [RowKit.intOf]; omega⟩
          have hl := (HP.out.own k hlt).1
          have hl2 : t * 4 < (X' k).length := by omega
          rw [HAA.out]
          simp [hl2, VI]
        · have htk : t = len k := by omega
          subst htk
          have HP : Hid (T1 VI w base 50 4 0 nn B A C len off X' k (len k) wr) := hP
          have HS : Hid (a' = off (k + 1)) := by
            have e9 : off (k + 1) = off k + len k := hoffs k
            show _ = _
            rw [e9, HAA.out]
          clear hP
          go_wp2_with fail
          exact ⟨⟨k + 1, _, X', by omega, by go_num, rfl, HS.out, HP.out.next⟩, by simp [RowKit.intOf]; omega⟩
    · have hkn : k = nn := by omega
      subst hkn
      obtain ⟨nn, hnk⟩ : ∃ q, q = k := ⟨_, rfl⟩
      subst hnk
      have HMk : Hid (∀ k, k < nn → MkT VI 4 0 (X k) (off k) (len k)) := HP.out.mks
      have HAk : Hid (∀ k, k < nn → 0 < len k → ∃ g, A k = some ⟨g, 0, none⟩) := fun k hk hl => by
        obtain ⟨g, cap, hv, _⟩ := rw_some (HP.out.own k hk) hl
        simp at hv
        exact ⟨g, hv.1⟩
      have H2 : Hid (T2 VI w base 50 22 4 0 nn B A C len off X 0 (.slice none 0 0) [] wr) := HP.out.done
      clear HP
      go_wp2_with fail
      go_loopw [3, 4, 7] (fun nv vg i wr => ∃ (k a : Nat) (gs : List Value), k ≤ nn ∧ i = .int .i64 k ∧ nv = .int .i64 (mI a) ∧ a = off nn + 12 * k ∧ T2 VI w base 50 22 4 0 nn B A C len off X k vg gs wr) (fun _ _ i _ => nn - (RowKit.intOf i).toNat)
      case atStart => exact ⟨0, _, [], by omega, rfl, rfl, by have := HA0.out; omega, H2.out⟩
      case round =>
        obtain ⟨k, a2, gs, hk, rfl, rfl, ha2, hP⟩ := hrel
        clear H2
        have HA2 : Hid (a2 = off nn + 12 * k) := ha2
        clear ha2
        obtain ⟨ag, cg, rfl⟩ := rw_form hP.gro
        by_cases hlt : k < nn
        · have hkI : (k : Int) < (nn : Int) := by omega
          have hc := hP.cel k hlt
          have hrk := hrow k hlt
          obtain ⟨wo, hwo⟩ : ∃ wo, wo = wr := ⟨_, rfl⟩
          subst hwo
          have HP : Hid (T2 VI w base 50 22 4 0 nn B A C len off X k (.slice ag k cg) gs wo) := hP
          have H3 : Hid (T3 VI wo base 50 4 0 (A k) (C k) (len k) (X k) (off nn + 12 * k) 0 (.slice (A k) (len k) (C k)) [] wo) := T3.start (hP.own k (Nat.le_refl _) hlt)
          have hlx : (X k).length = len k * 4 := (hP.own k (Nat.le_refl _) hlt).1
          have hbo : base ≤ wo.heap.size := by have := hP.bel.size; omega
          clear hP
          go_wp2_with fail
          go_loopw [3, 8, 9] (fun nv vq j wq => ∃ (t a : Nat) (Z : List Value), t ≤ 12 ∧ j = .int .i64 t ∧ nv = .int .i64 (mI a) ∧ a = (off nn + 12 * k) + t ∧ T3 VI wo base 50 4 0 (A k) (C k) (len k) (X k) (off nn + 12 * k) t vq Z wq) (fun _ _ j _ => 12 - (RowKit.intOf j).toNat)
          case atStart => exact ⟨0, _, [], by omega, rfl, rfl, by have := HA2.out; omega, H3.out⟩
          case round =>
            obtain ⟨t, a3, Z, ht, rfl, rfl, ha3, hP3⟩ := hrel
            clear H3
            have HA3 : Hid (a3 = (off nn + 12 * k) + t) := ha3
            have hw3 : wrap64 (mI a3 + 1) = mI (a3 + 1) := mI_succ a3
            clear ha3
            obtain ⟨aq, cq, rfl⟩ := rw_form hP3.own
            have hown3 := hP3.own
            have hbr : base ≤ wr.heap.size := by have := hP3.gb.size; omega
            have HP3 : Hid (T3 VI wo base 50 4 0 (A k) (C k) (len k) (X k) (off nn + 12 * k) t (.slice aq (len k + t) cq) Z wr) := hP3
            clear hP3
            by_cases htl : t < 12
            · have htI : (t : Int) < 12 := by omega
              have Q : Hid ((len k + t + 1 ≤ maxLen) ∧ ((len k + t + 1) * 56 ≤ 140737488355328)) := ap_fitN hrk htl
              have Qb : Hid (∀ o, base ≤ (wr.alloc o).heap.size) := fun o => by rw [World.size_alloc]; exact Nat.le_succ_of_le hbr
              go_wp2_with (at_builtin; refine wpList_append_far _ rfl (.tmp 53) (.tmp 56) 22 rfl base 50 i0 (.agg #[.int .i64 0, .int .i64 0, .string ⟨#[]⟩, .slice none 0 0]) 4 56 Tryd.underlying22 hi hz0 hz1 hz2 rfl (by decide) _ _ _ rfl (hown3.alloc _) ⟨wr.heap.size, 0, none⟩ 1 1 [.int .i64 (mI a3), .int .i64 0, .string ⟨#[]⟩, .slice none 0 0] rfl (by simp) (by intro j u hj; rcases j with _ | _ | _ | _ | j <;> simp at hj <;> subst hj <;> simp [Go.WideShapes.add_plain]) (by simp [Value.oneCell']) (by decide) Q.out.1 Q.out.2 (Qb.out _) _ rfl ?_; intro g6 cap6 w6 hown6 hg6 hd6 hlt6)
              have hn : ([.int .i64 (mI a3), .int .i64 0, .string ⟨#[]⟩, .slice none 0 0] : List Value)[0]? = some (VI (off nn + 12 * k + t)) := by rw [HA3.out]; rfl
              exact ⟨⟨t + 1, a3 + 1, _, Nat.succ_le_of_lt htl, by go_num, by first | rfl | rw [hw3], by rw [HA3.out]; rfl, T3.step HP3.out hlx hown6 hg6 hd6 hn⟩, by simp [RowKit.intOf]; omega⟩
            · have ht12 : t = 12 := by omega
              subst ht12
              obtain ⟨h9, c9, hv9, _, _⟩ := rw_some hown3 (Nat.succ_pos _)
              have hq9 : aq = some ⟨h9, 0, none⟩ := by simp at hv9; exact hv9.1
              subst hq9
              have hgq : wr.ownsRow base 22 1 (.slice ag k cg) k gs := rw_same HP.out.gro fun b hb => HP3.out.gb.block b (rw_block HP.out.gro hb).2.1 (fun e' => (HP.out.rdr k hlt).ne HP.out.gro (by decide) e'.symm hb.symm)
              have Q : Hid ((k + 1 ≤ maxLen) ∧ ((k + 1) * 24 ≤ 140737488355328)) := ap_fit2 hnn hlt
              have Qb : Hid (∀ o, base ≤ (wr.alloc o).heap.size) := fun o => by rw [World.size_alloc]; exact Nat.le_succ_of_le hbr
              have HA4 : Hid (a3 = off nn + 12 * (k + 1)) := mI_nx HA3.out
              clear hv9 hown3
              go_wp2_with (at_builtin; refine wpList_append_far _ rfl (.tmp 60) (.tmp 62) 44 rfl base 22 m0 (.slice none 0 0) 1 24 Tryd.underlying44 hm hx0 hx1 hx2 rfl (by decide) _ _ _ rfl (hgq.alloc _) ⟨wr.heap.size, 0, none⟩ 1 1 [.slice (some ⟨h9, 0, none⟩) (len k + 12) cq] rfl (by simp) (by intro j u hj; rcases j with _ | j <;> simp at hj <;> subst hj <;> simp [Go.WideShapes.add_plain]) (by simp [Value.oneCell']) (by decide) Q.out.1 Q.out.2 (Qb.out _) _ rfl ?_; intro g7 cap7 w7 hown7 hg7 hd7 hlt7)
              exact ⟨⟨k + 1, a3, _, Nat.succ_le_of_lt hlt, by go_num, rfl, HA4.out, T2.step HP.out hap (by decide) hlt hbo HP3.out hown7 hg7 hd7⟩, by simp [RowKit.intOf]; omega⟩
        · have hkn : k = nn := by omega
          subst hkn
          obtain ⟨nn, hnk⟩ : ∃ q, q = k := ⟨_, rfl⟩
          subst hnk
          obtain ⟨wo, hwo⟩ : ∃ wo, wo = wr := ⟨_, rfl⟩
          subst hwo
          have HP : Hid (T2 VI w base 50 22 4 0 nn B A C len off X nn (.slice ag nn cg) gs wo) := hP
          clear hP
          go_wp2_with fail
          go_loopw [3, 10] (fun nv i wq => ∃ (k a : Nat), k ≤ nn ∧ i = .int .i64 k ∧ nv = .int .i64 (mI a) ∧ a = off k ∧ wq = wo) (fun _ i _ => nn - (RowKit.intOf i).toNat)
          case atStart => exact ⟨0, 0, by omega, rfl, by rw [mI_zero], by rw [hoff0], rfl⟩
          case round =>
            obtain ⟨k, a4, hk, rfl, rfl, ha4, rfl⟩ := hrel
            have HA4 : Hid (a4 = off k) := ha4
            clear ha4
            by_cases hlt : k < nn
            · have hkI : (k : Int) < (nn : Int) := by omega
              have hoff := hoffl k hlt
              have hrk9 : (len k : Int) ≤ 2513169434905 := by have := hrow k hlt; omega
              have hc := HP.out.cel k hlt
              go_wp2_with fail
              go_loopw [3, 11] (fun nv j wq => ∃ (t a : Nat), t ≤ len k ∧ j = .int .i64 t ∧ nv = .int .i64 (mI a) ∧ a = off k + t ∧ wq = wr) (fun _ j _ => len k - (RowKit.intOf j).toNat)
              case atStart => exact ⟨0, a4, Nat.zero_le _, rfl, rfl, HA4.out, rfl⟩
              case round =>
                obtain ⟨t, a5, ht, rfl, rfl, ha5, rfl⟩ := hrel
                have HA5 : Hid (a5 = off k + t) := ha5
                have hw5 : wrap64 (mI a5 + 1) = mI (a5 + 1) := mI_succ a5
                clear ha5
                by_cases htl : t < len k
                · have htI : (t : Int) < (len k : Int) := by omega
                  obtain ⟨g, hA⟩ := HAk.out k hlt (by omega)
                  have hcl : wr.cell? ⟨g, t * 4, none⟩ = some (.int .i64 (mI a5)) := by
                    rw [HA5.out]
                    exact (HP.out.rdr k hlt).cell (own_blk.2 ⟨_, hA, rfl⟩) (HMk.out k hlt t htl)
                  rw [hA] at hc
                  go_wp2_with fail
                  exact ⟨⟨t + 1, a5 + 1, Nat.succ_le_of_lt htl, by go_num, by first | rfl | rw [hw5], by rw [HA5.out]; rfl, by trivial⟩, by simp [RowKit.intOf]; omega⟩
                · have htk : t = len k := by omega
                  subst htk
                  have HS : Hid (a5 = off (k + 1)) := by
                    show _ = _
                    rw [hoffs, HA5.out]
                  go_wp2_with fail
                  exact ⟨⟨k + 1, _, Nat.succ_le_of_lt hlt, by go_num, rfl, HS.out, by trivial⟩, by simp [RowKit.intOf]; omega⟩
            · have hkn : k = nn := by omega
              subst hkn
              obtain ⟨nn, hnk⟩ : ∃ q, q = k := ⟨_, rfl⟩
              subst hnk
              go_wp2_with fail
              go_loopw [3, 12] (fun nv i wq => ∃ (k a : Nat), k ≤ nn ∧ i = .int .i64 k ∧ nv = .int .i64 (mI a) ∧ a = off nn + 12 * k ∧ wq = wr) (fun _ i _ => nn - (RowKit.intOf i).toNat)
              case atStart => exact ⟨0, a4, Nat.zero_le _, rfl, rfl, HA4.out, rfl⟩
              case round =>
                obtain ⟨k, a6, hk, rfl, rfl, ha6, rfl⟩ := hrel
                clear HA4
                have HA6 : Hid (a6 = off nn + 12 * k) := ha6
                clear ha6
                by_cases hlt : k < nn
                · have hkI : (k : Int) < (nn : Int) := by omega
                  have hc := HP.out.cel k hlt
                  have hrk := hrow k hlt
                  obtain ⟨G, cG, hvG, _, _⟩ := rw_some HP.out.gro (by omega)
                  have hag : ag = some ⟨G, 0, none⟩ := by simp at hvG; exact hvG.1
                  subst hag
                  obtain ⟨h, c, Y, hg1, hg2, hg4, _⟩ := HP.out.row k hlt
                  have hcG : wr.cell? ⟨G, k, none⟩ = some (.slice (some ⟨h, 0, none⟩) (len k + 12) c) := (rdr_own HP.out.gro).cell (b := G) rfl hg1
                  have HG2 : Hid (wr.ownsRow base 50 4 (.slice (some ⟨h, 0, none⟩) (len k + 12) c) (len k + 12) Y) := hg2
                  have HG4 : Hid (∀ j, j < 12 → Y[(len k + j) * 4 + 0]? = some (VI (off nn + 12 * k + j))) := hg4
                  clear hg1 hg2 hg4 hvG
                  go_wp2_with fail
                  go_loopw [3, 13] (fun nv j wq => ∃ (t a b : Nat), t ≤ 12 ∧ j = .int .i64 b ∧ nv = .int .i64 (mI a) ∧ b = len k + t ∧ a = off nn + 12 * k + t ∧ wq = wr) (fun _ j _ => len k + 12 - (RowKit.intOf j).toNat)
                  case atStart => exact ⟨0, a6, len k, Nat.zero_le _, rfl, rfl, rfl, HA6.out, rfl⟩
                  case round =>
                    obtain ⟨t, a7, b7, ht, rfl, rfl, hb7, ha7, rfl⟩ := hrel
                    have HA7 : Hid (a7 = off nn + 12 * k + t) := ha7
                    have HB7 : Hid (b7 = len k + t) := hb7
                    by_cases htl : t < 12
                    · have hbI : (b7 : Int) < (len k : Int) + 12 := by omega
                      have hbN : b7 < len k + 12 := by omega
                      have hb9 : (b7 : Int) + 1 ≤ 4611686018427387905 := by omega
                      have hw7 : wrap64 (mI a7 + 1) = mI (a7 + 1) := mI_succ a7
                      have hcl : wr.cell? ⟨h, b7 * 4, none⟩ = some (.int .i64 (mI a7)) := by
                        rw [HA7.out, HB7.out]
                        exact (rdr_own HG2.out).cell (b := h) rfl (HG4.out t htl)
                      clear ha7 hb7
                      go_wp2_with fail
                      exact ⟨⟨t + 1, a7 + 1, b7 + 1, Nat.succ_le_of_lt htl, by go_num, by first | rfl | rw [hw7], by rw [HB7.out]; rfl, by rw [HA7.out]; rfl, by trivial⟩, by simp [RowKit.intOf]; omega⟩
                    · have ht12 : t = 12 := by omega
                      subst ht12
                      have hbI : ¬ (b7 : Int) < (len k : Int) + 12 := by omega
                      have HA8 : Hid (a7 = off nn + 12 * (k + 1)) := mI_nx HA7.out
                      clear ha7 hb7
                      go_wp2_with fail
                      exact ⟨⟨k + 1, a7, Nat.succ_le_of_lt hlt, by go_num, rfl, HA8.out, by trivial⟩, by simp [RowKit.intOf]; omega⟩
                · have hkn : k = nn := by omega
                  subst hkn
                  go_wp2_with fail
                  go_ret
                  exact ⟨rfl, HP.out.bel, HP.out.oth⟩
end Go.Proofs.YtfdghbbanokopaaDoor

set_option linter.unusedSimpArgs false
set_option linter.unusedVariables false
namespace Go.Proofs.YtfdghbbanokopaaDoor
open Go.RowKit Go.Lib

theorem apN_listQ (w : World) (base : Nat) (hv : Value) (R : List Rw) (hbase : base ≤ w.heap.size) (hh : w.ownsRow base 22 1 hv R.length (R.map (·.1))) (hR : RwL w base 50 4 R) (hl : ∀ r ∈ R, r.2.1 * 56 ≤ 140737488351232) (hn : R.length * 24 ≤ 140737488355328) :
    Calls Tryd.prog 61 #[hv] w fun e W' => e = .returned (.bool true) ∧ Below base w W' ∧ Kpt R w W' := by
  rcases Nat.eq_zero_or_pos R.length with h0 | h0
  · have hR0 : R = [] := List.length_eq_zero_iff.1 h0
    subst hR0
    rcases hh.2 with ⟨rfl, _⟩ | ⟨g, cap, cur, rfl, _, hg, _, _, _, _⟩
    · exact (nodes_nil w).mono fun e W' ⟨h1, h2⟩ => ⟨h1, by rw [h2]; exact Below.refl _ _, by rw [h2]; exact fun _ _ _ => rfl⟩
    · refine (apartNodesW_any 0 g cap (fun k => vA (([] : List Rw).getD k rw0).1) _ _ _ _ base w (hR.rows hg (by decide)) rfl (fun _ => rfl) (fun k hk => by omega) hbase (fun k hk => by omega) (by omega) (hR.t1 (lt_of_block hg) (fun k hk => by simp at hk))).mono ?_
      rintro e W' ⟨h1, h2, h3⟩
      exact ⟨h1, h2, kpt_of hR h3⟩
  · obtain ⟨g, cap, rfl, _, hg⟩ := rw_some hh h0
    obtain ⟨_, _, cap', cur, _, hc, _⟩ := rw_block hh (b := g) rfl
    have hlk : ∀ k, k < R.length → (R.getD k rw0).2.1 ≤ 2513169434843 := fun k hk => by rw [gd_rw hk]; have := hl _ (List.getElem_mem hk); omega
    refine (apartNodesW_any R.length g cap _ _ _ _ _ base w (hR.rows hc (by decide)) rfl (fun _ => rfl) (fun k hk => offN_lt _ hk (Nat.le_refl _)) hbase (fun k hk => by have := hlk k hk; omega) (by omega) (hR.t1 hg (hdr_cell hh))).mono ?_
    rintro e W' ⟨h1, h2, h3⟩
    exact ⟨h1, h2, kpt_of hR h3⟩
set_option maxRecDepth 100000000 in
set_option maxHeartbeats 1000000 in
theorem bookINTQ_any (w : World) (base Q : Nat) (hn hi ht : Value) (RN RI RT : List Rw) (hbase : base ≤ w.heap.size) (h : BkG ht w base Q hn hi (RN.map (·.1)) (RI.map (·.1))) (hRN : RwL w base 50 4 RN) (hRI : RwL w base 3 1 RI) (hhT : w.ownsRow base 33 1 ht RT.length (RT.map (·.1))) (hRT : RwL w base 9 1 RT) (hlT : ∀ r ∈ RT, r.2.1 ≤ 100000000) (hnT : RT.length ≤ 100000000)
    (hlN : ∀ r ∈ RN, r.2.1 * 56 ≤ 140737488351232) (hnN : RN.length * 24 ≤ 140737488355328) (hlI : ∀ r ∈ RI, r.2.1 * 8 ≤ 140737488351232) (hnI : RI.length * 24 ≤ 140737488355328) :
    Calls Tryd.prog 38 #[.pointer (some ⟨Q, 0, none⟩)] w fun e W' => e = .returned (.bool true) ∧ Below base w W' := by
  have hQ := h.blk
  have hlt := lt_of_block hQ
  have hhN := h.hN
  have hhI := h.hI
  rw [List.length_map] at hhN hhI
  have c1 : w.cell? ⟨Q, 1, none⟩ = some hi := by simp [World.cell?, hQ]
  have cI : Hid (Calls Tryd.prog 60 #[hi] w fun e W' => e = .returned (.bool true) ∧ Hid (Below base w W' ∧ Kpt RI w W') ∧ W'.cell? ⟨Q, 0, none⟩ = some hn) := by
    refine (apI_listT w base hi RI hbase hhI hRI hlI hnI).mono ?_
    rintro e W' ⟨h1, h2, h3⟩
    have e1 := (h3 Q hlt fun r hr => own_typ (hRI.own r hr) hQ (by decide)).trans hQ
    exact ⟨h1, ⟨h2, h3⟩, by simp [World.cell?, e1]⟩
  have cN : Hid (∀ W, Below base w W → Kpt RI w W → Calls Tryd.prog 61 #[hn] W fun e W' => e = .returned (.bool true) ∧ Hid (Below base w W' ∧ Kpt (RN ++ RI) w W') ∧ W'.cell? ⟨Q, 2, none⟩ = some ht) := by
    intro W hb hk
    have hrow : ∀ {e : TypeId} {s n : Nat} {v : Value} {xs : List Value}, w.ownsRow base e s v n xs → e ≠ 3 → ∀ b, v.ownBlock = some b → W.heap[b]? = w.heap[b]? := fun {e s n v xs} ho hne b hv => by
      obtain ⟨_, hl, cap, cur, _, hc, _⟩ := rw_block ho hv
      exact hk b hl fun r hr => own_typ (hRI.own r hr) hc (fun h => hne h.symm)
    have hRN' : RwL W base 50 4 RN := hRN.keep fun r hr => hrow (hRN.own r hr) (by decide)
    have hhN' := rw_same hhN (hrow hhN (by decide))
    refine (apN_listQ W base hn RN (by have := hb.size; omega) hhN' hRN' hlN hnN).mono ?_
    rintro e W' ⟨h1, h2, h3⟩
    have e0 := (hk Q hlt fun r hr => own_typ (hRI.own r hr) hQ (by decide)).trans hQ
    have e1 := (h3 Q (lt_of_block e0) fun r hr => own_typ (hRN'.own r hr) e0 (by decide)).trans e0
    refine ⟨h1, ⟨hb.trans h2, fun q hq hr => ?_⟩, by simp [World.cell?, e1]⟩
    exact (h3 q (by have := hb.size; omega) fun r hr' => hr r (List.mem_append_left _ hr')).trans (hk q hq fun r hr' => hr r (List.mem_append_right _ hr'))
  have cT : Hid (∀ W, Below base w W → Kpt (RN ++ RI) w W → Calls Tryd.prog 62 #[ht] W fun e W' => e = .returned (.bool true) ∧ Hid (Below base w W') ∧ W'.cell? ⟨Q, 3, none⟩ = some (.slice none 0 0) ∧ W'.cell? ⟨Q, 4, none⟩ = some (.slice none 0 0) ∧ W'.cell? ⟨Q, 5, none⟩ = some (.slice none 0 0)) := by
    intro W hb hk
    have hne : ∀ r ∈ RN ++ RI, ∀ {b : Nat} {cs : Array Value} {e : TypeId} {fr : Nat × Nat}, w.heap[b]? = some (.cells cs e fr) → e ≠ 3 → e ≠ 50 → r.1.ownBlock ≠ some b := fun r hr {b cs e fr} hc h1 h2 => by
      rcases List.mem_append.1 hr with hr | hr
      · exact own_typ (hRN.own r hr) hc (fun h => h2 h.symm)
      · exact own_typ (hRI.own r hr) hc (fun h => h1 h.symm)
    have hrow : ∀ {e : TypeId} {s n : Nat} {v : Value} {xs : List Value}, w.ownsRow base e s v n xs → e ≠ 3 → e ≠ 50 → ∀ b, v.ownBlock = some b → W.heap[b]? = w.heap[b]? := fun {e s n v xs} ho h1 h2 b hv => by
      obtain ⟨_, hl, cap, cur, _, hc, _⟩ := rw_block ho hv
      exact hk b hl fun r hr => hne r hr hc h1 h2
    have hRT' : RwL W base 9 1 RT := hRT.keep fun r hr => hrow (hRT.own r hr) (by decide) (by decide)
    have hhT' := rw_same hhT (hrow hhT (by decide) (by decide))
    refine (apT_list W base ht RT (by have := hb.size; omega) hhT' hRT' hlT hnT).mono ?_
    rintro e W' ⟨h1, h2, h3⟩
    have e0 := (hk Q hlt fun r hr => hne r hr hQ (by decide) (by decide)).trans hQ
    have e1 := (h3 Q (lt_of_block e0) fun r hr => own_typ (hRT'.own r hr) e0 (by decide)).trans e0
    exact ⟨h1, hb.trans h2, by simp [World.cell?, e1], by simp [World.cell?, e1], by simp [World.cell?, e1]⟩
  clear h hQ hhN hhI hRN hRI hhT hRT
  go_enter Tryd.func38, Tryd.ntmps38
  go_wp2_with (first
    | (go_at_call 60; refine cI.out.mono ?_; rintro e w1 ⟨rfl, b1, d0⟩)
    | (go_at_call 61; refine (cN.out _ b1.out.1 b1.out.2).mono ?_; rintro e w2 ⟨rfl, b2, d2⟩)
    | (go_at_call 62; refine (cT.out _ b2.out.1 b2.out.2).mono ?_; rintro e w4 ⟨rfl, b4, d3, d4, d5⟩)
    | (go_at_call 63; refine (binds_nil _).mono ?_; rintro e w3 ⟨rfl, rfl⟩)
    | (go_at_call 64; refine (classes_nil _).mono ?_; rintro e w5 ⟨rfl, rfl⟩)
    | (go_at_call 65; refine (nums_nil _).mono ?_; rintro e w6 ⟨rfl, rfl⟩))
  go_ret
  exact ⟨rfl, b4.out⟩

variable {W3 W W' : World} {lo Q : Nat} {ht : Value} {VN VI : List Value}
theorem BkS.apartQ {RN RI RT : List Rw} (h : BkS W3 W lo Q ht (RN.map (·.1)) (RI.map (·.1))) (hlo : lo ≤ W3.heap.size) (hN : RwL W3 lo 50 4 RN) (hI : RwL W3 lo 3 1 RI) (hhT : W3.ownsRow lo 33 1 ht RT.length (RT.map (·.1))) (hT : RwL W3 lo 9 1 RT)
    (hlN : ∀ r ∈ RN, r.2.1 * 56 ≤ 140737488351232) (hnN : RN.length * 24 ≤ 140737488355328) (hlI : ∀ r ∈ RI, r.2.1 * 8 ≤ 140737488351232) (hnI : RI.length * 24 ≤ 140737488355328) (hlT : ∀ r ∈ RT, r.2.1 ≤ 100000000) (hnT : RT.length ≤ 100000000) :
    Calls Tryd.prog 38 #[.pointer (some ⟨Q, 0, none⟩)] W fun e W' => e = .returned (.bool true) ∧ Below lo W3 W' := by
  obtain ⟨hn, hi, h1, h2, h3, h4⟩ := h.ex
  refine (bookINTQ_any W lo Q hn hi ht RN RI RT (by have := h2.size; omega) h1 (h3.rwl hN (by decide) (by decide) (by decide)) (h3.rwl hI (by decide) (by decide) (by decide)) (h3.row hhT (by decide) (by decide) (by decide)) (h3.rwl hT (by decide) (by decide) (by decide)) hlT hnT hlN hnN hlI hnI).mono ?_
  rintro e W' ⟨he, hb⟩
  exact ⟨he, h2.trans hb⟩
end Go.Proofs.YtfdghbbanokopaaDoor

set_option linter.unusedSimpArgs false
set_option linter.unusedVariables false
namespace Go.Proofs.YtfdghbbanokopaaDoor
open Go.Lib

/-! ### an order -/
theorem cmp3_self (a : Int) : cmp3 a a = 0 := by simp [cmp3]
theorem cmp3_zero (a b : Int) : cmp3 a b = 0 ↔ a = b := by unfold cmp3; constructor <;> intro h <;> (repeat' split at *) <;> omega
theorem cmpL_self : ∀ l : List Int, cmpL l l = 0
  | [] => rfl
  | a :: l => by rw [cmpL, if_pos (cmp3_self a), cmpL_self l]
theorem cmpL_zero : ∀ l m : List Int, cmpL l m = 0 → l = m
  | [], [], _ => rfl
  | [], _ :: _, h => by simp [cmpL] at h
  | _ :: _, [], h => by simp [cmpL] at h
  | a :: l, b :: m, h => by
    rw [cmpL] at h
    split at h
    · rename_i e; rw [(cmp3_zero a b).1 e, cmpL_zero l m h]
    · rename_i e; exact absurd h e

/-! ### texts that are joined -/
theorem bad_false_iff (s : ByteArray) (pos : Nat) : bad s pos = false ↔ ¬ Utf8.decode s pos = (65533, 1) := by
  constructor
  · intro h e; simp [bad, e] at h
  · intro h
    cases hb : bad s pos
    · rfl
    · exact absurd (bad_eq hb) h
/-- Every place that is come to is good. -/
def Good (a : ByteArray) (pos : Nat) : Prop := ∃ f, a.size ≤ pos + f ∧ (chkF a f pos).2 = 0
theorem good_start (a : ByteArray) (h : (chk a).2 = 0) : Good a 0 := ⟨a.size, by omega, h⟩
theorem good_step (a : ByteArray) (pos : Nat) (hp : pos < a.size) (h : Good a pos) : bad a pos = false ∧ Good a (pos + (Utf8.decode a pos).2) := by
  obtain ⟨f, hf, hc⟩ := h
  obtain ⟨f, rfl⟩ : ∃ g, f = g + 1 := ⟨f - 1, by omega⟩
  have hv := width_pos a pos hp
  cases hb : bad a pos
  · rw [chkF_good a f pos hp hb] at hc
    exact ⟨rfl, f, by omega, hc⟩
  · rw [chkF_bad a f pos hp hb] at hc
    simp at hc
theorem ord_self (a : ByteArray) : ordI a a = 0 := cmpL_self _
end Go.Proofs.YtfdghbbanokopaaDoor

set_option linter.unusedSimpArgs false
set_option linter.unusedVariables false
namespace Go.Proofs.YtfdghbbanokopaaDoor
open Go.Lib

/-- The numbers that are characters. -/
def vr (r : Int) : Prop := (0 ≤ r ∧ r ≤ 127) ∨ (128 ≤ r ∧ r ≤ 2047) ∨ ((2048 ≤ r ∧ r < 55296) ∨ (57343 < r ∧ r ≤ 65535)) ∨ (65536 ≤ r ∧ r ≤ 1114111)

/-! ### a text without bad bytes -/
theorem bytes_good (s : ByteArray) : ∀ (f pos : Nat), s.size ≤ pos + f → pos ≤ s.size → Good s pos → s.data.toList.drop pos = (runesFrom s f pos).flatMap encodeRune
  | 0, pos, h1, h2, _ => by
    have : pos = s.size := by omega
    subst this
    rw [size_eq, List.drop_of_length_le (Nat.le_refl _)]; rfl
  | f + 1, pos, h1, h2, hg => by
    by_cases hp : pos < s.size
    · obtain ⟨hb, hg'⟩ := good_step s pos hp hg
      have hv := width_pos s pos hp
      have hv2 := dec_le s pos hp
      have hne : s.data.toList.drop pos ≠ [] := by
        intro e
        have := congrArg List.length e
        rw [List.length_drop, ← size_eq] at this
        simp at this; omega
      have he := encode_decode (s.data.toList.drop pos) hne (by
        rw [decodeL_drop]
        intro e
        exact (bad_false_iff s pos).1 hb (Prod.ext e.1 e.2))
      rw [decodeL_drop] at he
      rw [runesFrom_cons s f pos hp, List.flatMap_cons, he, ← bytes_good s f _ (by omega) hv2 hg', ← List.drop_drop, List.take_append_drop]
    · have : pos = s.size := by omega
      subst this
      rw [runesFrom_end s _ _ hp, size_eq, List.drop_of_length_le (Nat.le_refl _)]; rfl
theorem bytes_of_good (s : ByteArray) (h : (chk s).2 = 0) : s.data.toList = (rl s).flatMap encodeRune := by
  have := bytes_good s s.size 0 (by omega) (by omega) (good_start s h)
  simpa [rl] using this
theorem eq_good (a b : ByteArray) (ha : (chk a).2 = 0) (hb : (chk b).2 = 0) : (a.toList == b.toList) = decide (ordI a b = 0) := by
  rw [Bool.eq_iff_iff, beq_iff_eq, decide_eq_true_eq, toList_data, toList_data]
  constructor
  · intro h
    have : a = b := by
      apply ByteArray.ext; exact Array.ext' h
    rw [this]; exact ord_self b
  · intro h
    rw [bytes_of_good a ha, bytes_of_good b hb, cmpL_zero _ _ h]
end Go.Proofs.YtfdghbbanokopaaDoor
