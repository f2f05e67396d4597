/-
  ApIntQ.
-/
import Derived.Test.YtfdghbbanokopaaDoorProg
import Derived.Deep.OwnRows
import Derived.Deep.AppendLies
import Derived.WalkKit
import Derived.Below
import Derived.Test.YtfdghbbanokopaaDoorG06
import Derived.Test.YtfdghbbanokopaaDoorG07
import Derived.Test.YtfdghbbanokopaaDoorG08
import Derived.Test.YtfdghbbanokopaaDoorG09
set_option linter.unusedSimpArgs false
set_option linter.unusedVariables false
namespace Go.Proofs.YtfdghbbanokopaaDoor
open Go.RowKit

/-- The mark of a place: numbers from a million on, as 64 bits tell them. -/
def mI (n : Nat) : Int := wrap64 (1000000 + (n : Int))
def VI (n : Nat) : Value := .int .i64 (mI n)
theorem mI_zero : mI 0 = 1000000 := by unfold mI wrap64; omega
theorem mI_succ (n : Nat) : wrap64 (mI n + 1) = mI (n + 1) := by unfold mI wrap64; omega
theorem mI_nx {a c k : Nat} (h : a = (c + 12 * k) + 12) : a = c + 12 * (k + 1) := by omega

set_option maxRecDepth 100000 in
set_option maxHeartbeats 4000000 in
theorem apartIntsW_any (nn B cp : Nat) (A : Nat → Option Addr) (C len off : Nat → Nat) (X0 : Nat → List Value) (base : Nat) (w : World) (hap : RwsAp nn B A) (hoff0 : off 0 = 0) (hoffs : ∀ k, off (k + 1) = off k + len k) (hoffl : ∀ k, k < nn → off k + len k ≤ off nn) (hbase : base ≤ w.heap.size)
    (hrow : ∀ k, k < nn → (len k + 12) * 8 ≤ 140737488355328) (hnn : nn * 24 ≤ 140737488355328)
    (h0 : T1 VI w base 3 1 0 nn B A C len off X0 0 0 w) :
    Calls Tryd.prog 60 #[.slice (some ⟨B, 0, none⟩) nn cp] w fun e W' => e = .returned (.bool true) ∧ Below base w W' ∧ (∀ q, q < w.heap.size → (∀ k, k < nn → ∀ a, A k = some a → a.block ≠ q) → W'.heap[q]? = w.heap[q]?) := by
  obtain ⟨i0, hi, hz0, hz1, hz2⟩ := info_parts ap_infoI
  obtain ⟨m0, hm, hx0, hx1, hx2⟩ := info_parts ap_infoIs
  have H0 : Hid (T1 VI w base 3 1 0 nn B A C len off X0 0 0 w) := h0
  clear h0
  go_enter Tryd.func60, Tryd.ntmps60
  go_wp2_with fail
  go_loopw [3, 5] (fun nv i wr => ∃ (k a : Nat) (X : Nat → List Value), k ≤ nn ∧ i = .int .i64 k ∧ nv = .int .i64 (mI a) ∧ a = off k ∧ T1 VI w base 3 1 0 nn B A C len off X k 0 wr) (fun _ i _ => nn - (RowKit.intOf i).toNat)
  case atStart => exact ⟨0, 0, X0, by omega, rfl, by rw [mI_zero], by rw [hoff0], H0.out⟩
  case round =>
    obtain ⟨k, a, X, hk, rfl, rfl, ha, hP⟩ := hrel
    have HA0 : Hid (a = off k) := ha
    clear H0 ha
    have HP : Hid (T1 VI w base 3 1 0 nn B A C len off X k 0 wr) := hP
    clear hP
    by_cases hlt : k < nn
    · have hkI : (k : Int) < (nn : Int) := by omega
      have hoff := hoffl k hlt
      have hrk9 : (len k : Int) ≤ 17592186044404 := by have := hrow k hlt; omega
      go_wp2_with fail
      go_loopw [3, 6] (fun nv j wq => ∃ (t a : Nat) (X : Nat → List Value), t ≤ len k ∧ j = .int .i64 t ∧ nv = .int .i64 (mI a) ∧ a = off k + t ∧ T1 VI w base 3 1 0 nn B A C len off X k t wq) (fun _ j _ => len k - (RowKit.intOf j).toNat)
      case atStart => exact ⟨0, a, X, by omega, rfl, rfl, HA0.out, HP.out⟩
      case round =>
        obtain ⟨t, a', X', ht, rfl, rfl, ha', hP⟩ := hrel
        have HAA : Hid (a' = off k + t) := ha'
        have hw : wrap64 (mI a' + 1) = mI (a' + 1) := mI_succ a'
        clear HP ha'
        have hc := hP.cel k hlt
        by_cases htl : t < len k
        · have htI : (t : Int) < (len k : Int) := by omega
          obtain ⟨g, cap, hv, hg1, hg2⟩ := rw_some (hP.own k hlt) (by omega)
          have hA : A k = some ⟨g, 0, none⟩ := by simp at hv; exact hv.1
          have hoi := hP.own k hlt
          rw [hA] at hc hoi
          have f0 := rw_fro hoi t
          obtain ⟨u0, c0, _⟩ := rw_cell hoi (i := t) (by omega)
          have HP : Hid (T1 VI w base 3 1 0 nn B A C len off X' k t wr) := hP
          clear hP hoi hv
          go_wp2_with fail
          refine ⟨⟨t + 1, a' + 1, _, by omega, by go_num, by first | rfl | rw [hw], by rw [HAA.out]; rfl, (HP.out.put hap hlt hA (by decide) t (by omega) (.int .i64 (mI a'))).mark ?_⟩, by simp [RowKit.intOf]; omega⟩
          have hl := (HP.out.own k hlt).1
          have hl2 : t < (X' k).length := by omega
          rw [HAA.out]
          simp [hl2, VI]
        · have htk : t = len k := by omega
          subst htk
          have HP : Hid (T1 VI w base 3 1 0 nn B A C len off X' k (len k) wr) := hP
          have HS : Hid (a' = off (k + 1)) := by
            have e9 : off (k + 1) = off k + len k := hoffs k
            show _ = _
            rw [e9, HAA.out]
          clear hP
          go_wp2_with fail
          exact ⟨⟨k + 1, _, X', by omega, by go_num, rfl, HS.out, HP.out.next⟩, by simp [RowKit.intOf]; omega⟩
    · have hkn : k = nn := by omega
      subst hkn
      obtain ⟨nn, hnk⟩ : ∃ q, q = k := ⟨_, rfl⟩
      subst hnk
      have HMk : Hid (∀ k, k < nn → MkT VI 1 0 (X k) (off k) (len k)) := HP.out.mks
      have HAk : Hid (∀ k, k < nn → 0 < len k → ∃ g, A k = some ⟨g, 0, none⟩) := fun k hk hl => by
        obtain ⟨g, cap, hv, _⟩ := rw_some (HP.out.own k hk) hl
        simp at hv
        exact ⟨g, hv.1⟩
      have H2 : Hid (T2 VI w base 3 48 1 0 nn B A C len off X 0 (.slice none 0 0) [] wr) := HP.out.done
      clear HP
      go_wp2_with fail
      go_loopw [3, 4, 7] (fun nv vg i wr => ∃ (k a : Nat) (gs : List Value), k ≤ nn ∧ i = .int .i64 k ∧ nv = .int .i64 (mI a) ∧ a = off nn + 12 * k ∧ T2 VI w base 3 48 1 0 nn B A C len off X k vg gs wr) (fun _ _ i _ => nn - (RowKit.intOf i).toNat)
      case atStart => exact ⟨0, _, [], by omega, rfl, rfl, by have := HA0.out; omega, H2.out⟩
      case round =>
        obtain ⟨k, a2, gs, hk, rfl, rfl, ha2, hP⟩ := hrel
        clear H2
        have HA2 : Hid (a2 = off nn + 12 * k) := ha2
        clear ha2
        obtain ⟨ag, cg, rfl⟩ := rw_form hP.gro
        by_cases hlt : k < nn
        · have hkI : (k : Int) < (nn : Int) := by omega
          have hc := hP.cel k hlt
          have hrk := hrow k hlt
          obtain ⟨wo, hwo⟩ : ∃ wo, wo = wr := ⟨_, rfl⟩
          subst hwo
          have HP : Hid (T2 VI w base 3 48 1 0 nn B A C len off X k (.slice ag k cg) gs wo) := hP
          have H3 : Hid (T3 VI wo base 3 1 0 (A k) (C k) (len k) (X k) (off nn + 12 * k) 0 (.slice (A k) (len k) (C k)) [] wo) := T3.start (hP.own k (Nat.le_refl _) hlt)
          have hlx : (X k).length = len k * 1 := (hP.own k (Nat.le_refl _) hlt).1
          have hbo : base ≤ wo.heap.size := by have := hP.bel.size; omega
          clear hP
          go_wp2_with fail
          go_loopw [3, 8, 9] (fun nv vq j wq => ∃ (t a : Nat) (Z : List Value), t ≤ 12 ∧ j = .int .i64 t ∧ nv = .int .i64 (mI a) ∧ a = (off nn + 12 * k) + t ∧ T3 VI wo base 3 1 0 (A k) (C k) (len k) (X k) (off nn + 12 * k) t vq Z wq) (fun _ _ j _ => 12 - (RowKit.intOf j).toNat)
          case atStart => exact ⟨0, _, [], by omega, rfl, rfl, by have := HA2.out; omega, H3.out⟩
          case round =>
            obtain ⟨t, a3, Z, ht, rfl, rfl, ha3, hP3⟩ := hrel
            clear H3
            have HA3 : Hid (a3 = (off nn + 12 * k) + t) := ha3
            have hw3 : wrap64 (mI a3 + 1) = mI (a3 + 1) := mI_succ a3
            clear ha3
            obtain ⟨aq, cq, rfl⟩ := rw_form hP3.own
            have hown3 := hP3.own
            have hbr : base ≤ wr.heap.size := by have := hP3.gb.size; omega
            have HP3 : Hid (T3 VI wo base 3 1 0 (A k) (C k) (len k) (X k) (off nn + 12 * k) t (.slice aq (len k + t) cq) Z wr) := hP3
            clear hP3
            by_cases htl : t < 12
            · have htI : (t : Int) < 12 := by omega
              have Q : Hid ((len k + t + 1 ≤ maxLen) ∧ ((len k + t + 1) * 8 ≤ 140737488355328)) := ap_fitI hrk htl
              have Qb : Hid (∀ o, base ≤ (wr.alloc o).heap.size) := fun o => by rw [World.size_alloc]; exact Nat.le_succ_of_le hbr
              go_wp2_with (at_builtin; refine wpList_append_far _ rfl (.tmp 52) (.tmp 54) 48 rfl base 3 i0 (.int .i64 0) 1 8 Tryd.underlying48 hi hz0 hz1 hz2 rfl (by decide) _ _ _ rfl (hown3.alloc _) ⟨wr.heap.size, 0, none⟩ 1 1 [.int .i64 (mI a3)] rfl (by simp) (by intro j u hj; rcases j with _ | j <;> simp at hj <;> subst hj <;> simp [Go.WideShapes.add_plain]) (by simp [Value.oneCell']) (by decide) Q.out.1 Q.out.2 (Qb.out _) _ rfl ?_; intro g6 cap6 w6 hown6 hg6 hd6 hlt6)
              have hn : ([.int .i64 (mI a3)] : List Value)[0]? = some (VI (off nn + 12 * k + t)) := by rw [HA3.out]; rfl
              exact ⟨⟨t + 1, a3 + 1, _, Nat.succ_le_of_lt htl, by go_num, by first | rfl | rw [hw3], by rw [HA3.out]; rfl, T3.step HP3.out hlx hown6 hg6 hd6 hn⟩, by simp [RowKit.intOf]; omega⟩
            · have ht12 : t = 12 := by omega
              subst ht12
              obtain ⟨h9, c9, hv9, _, _⟩ := rw_some hown3 (Nat.succ_pos _)
              have hq9 : aq = some ⟨h9, 0, none⟩ := by simp at hv9; exact hv9.1
              subst hq9
              have hgq : wr.ownsRow base 48 1 (.slice ag k cg) k gs := rw_same HP.out.gro fun b hb => HP3.out.gb.block b (rw_block HP.out.gro hb).2.1 (fun e' => (HP.out.rdr k hlt).ne HP.out.gro (by decide) e'.symm hb.symm)
              have Q : Hid ((k + 1 ≤ maxLen) ∧ ((k + 1) * 24 ≤ 140737488355328)) := ap_fit2 hnn hlt
              have Qb : Hid (∀ o, base ≤ (wr.alloc o).heap.size) := fun o => by rw [World.size_alloc]; exact Nat.le_succ_of_le hbr
              have HA4 : Hid (a3 = off nn + 12 * (k + 1)) := mI_nx HA3.out
              clear hv9 hown3
              go_wp2_with (at_builtin; refine wpList_append_far _ rfl (.tmp 58) (.tmp 60) 62 rfl base 48 m0 (.slice none 0 0) 1 24 Tryd.underlying62 hm hx0 hx1 hx2 rfl (by decide) _ _ _ rfl (hgq.alloc _) ⟨wr.heap.size, 0, none⟩ 1 1 [.slice (some ⟨h9, 0, none⟩) (len k + 12) cq] rfl (by simp) (by intro j u hj; rcases j with _ | j <;> simp at hj <;> subst hj <;> simp [Go.WideShapes.add_plain]) (by simp [Value.oneCell']) (by decide) Q.out.1 Q.out.2 (Qb.out _) _ rfl ?_; intro g7 cap7 w7 hown7 hg7 hd7 hlt7)
              exact ⟨⟨k + 1, a3, _, Nat.succ_le_of_lt hlt, by go_num, rfl, HA4.out, T2.step HP.out hap (by decide) hlt hbo HP3.out hown7 hg7 hd7⟩, by simp [RowKit.intOf]; omega⟩
        · have hkn : k = nn := by omega
          subst hkn
          obtain ⟨nn, hnk⟩ : ∃ q, q = k := ⟨_, rfl⟩
          subst hnk
          obtain ⟨wo, hwo⟩ : ∃ wo, wo = wr := ⟨_, rfl⟩
          subst hwo
          have HP : Hid (T2 VI w base 3 48 1 0 nn B A C len off X nn (.slice ag nn cg) gs wo) := hP
          clear hP
          go_wp2_with fail
          go_loopw [3, 10] (fun nv i wq => ∃ (k a : Nat), k ≤ nn ∧ i = .int .i64 k ∧ nv = .int .i64 (mI a) ∧ a = off k ∧ wq = wo) (fun _ i _ => nn - (RowKit.intOf i).toNat)
          case atStart => exact ⟨0, 0, by omega, rfl, by rw [mI_zero], by rw [hoff0], rfl⟩
          case round =>
            obtain ⟨k, a4, hk, rfl, rfl, ha4, rfl⟩ := hrel
            have HA4 : Hid (a4 = off k) := ha4
            clear ha4
            by_cases hlt : k < nn
            · have hkI : (k : Int) < (nn : Int) := by omega
              have hoff := hoffl k hlt
              have hrk9 : (len k : Int) ≤ 17592186044404 := by have := hrow k hlt; omega
              have hc := HP.out.cel k hlt
              go_wp2_with fail
              go_loopw [3, 11] (fun nv j wq => ∃ (t a : Nat), t ≤ len k ∧ j = .int .i64 t ∧ nv = .int .i64 (mI a) ∧ a = off k + t ∧ wq = wr) (fun _ j _ => len k - (RowKit.intOf j).toNat)
              case atStart => exact ⟨0, a4, Nat.zero_le _, rfl, rfl, HA4.out, rfl⟩
              case round =>
                obtain ⟨t, a5, ht, rfl, rfl, ha5, rfl⟩ := hrel
                have HA5 : Hid (a5 = off k + t) := ha5
                have hw5 : wrap64 (mI a5 + 1) = mI (a5 + 1) := mI_succ a5
                clear ha5
                by_cases htl : t < len k
                · have htI : (t : Int) < (len k : Int) := by omega
                  obtain ⟨g, hA⟩ := HAk.out k hlt (by omega)
                  have hcl : wr.cell? ⟨g, t, none⟩ = some (.int .i64 (mI a5)) := by
                    rw [HA5.out]
                    exact (HP.out.rdr k hlt).cell (own_blk.2 ⟨_, hA, rfl⟩) (by have := HMk.out k hlt t htl; simpa [VI] using this)
                  rw [hA] at hc
                  go_wp2_with fail
                  exact ⟨⟨t + 1, a5 + 1, Nat.succ_le_of_lt htl, by go_num, by first | rfl | rw [hw5], by rw [HA5.out]; rfl, by trivial⟩, by simp [RowKit.intOf]; omega⟩
                · have htk : t = len k := by omega
                  subst htk
                  have HS : Hid (a5 = off (k + 1)) := by
                    show _ = _
                    rw [hoffs, HA5.out]
                  go_wp2_with fail
                  exact ⟨⟨k + 1, _, Nat.succ_le_of_lt hlt, by go_num, rfl, HS.out, by trivial⟩, by simp [RowKit.intOf]; omega⟩
            · have hkn : k = nn := by omega
              subst hkn
              obtain ⟨nn, hnk⟩ : ∃ q, q = k := ⟨_, rfl⟩
              subst hnk
              go_wp2_with fail
              go_loopw [3, 12] (fun nv i wq => ∃ (k a : Nat), k ≤ nn ∧ i = .int .i64 k ∧ nv = .int .i64 (mI a) ∧ a = off nn + 12 * k ∧ wq = wr) (fun _ i _ => nn - (RowKit.intOf i).toNat)
              case atStart => exact ⟨0, a4, Nat.zero_le _, rfl, rfl, HA4.out, rfl⟩
              case round =>
                obtain ⟨k, a6, hk, rfl, rfl, ha6, rfl⟩ := hrel
                clear HA4
                have HA6 : Hid (a6 = off nn + 12 * k) := ha6
                clear ha6
                by_cases hlt : k < nn
                · have hkI : (k : Int) < (nn : Int) := by omega
                  have hc := HP.out.cel k hlt
                  have hrk := hrow k hlt
                  obtain ⟨G, cG, hvG, _, _⟩ := rw_some HP.out.gro (by omega)
                  have hag : ag = some ⟨G, 0, none⟩ := by simp at hvG; exact hvG.1
                  subst hag
                  obtain ⟨h, c, Y, hg1, hg2, hg4, _⟩ := HP.out.row k hlt
                  have hcG : wr.cell? ⟨G, k, none⟩ = some (.slice (some ⟨h, 0, none⟩) (len k + 12) c) := (rdr_own HP.out.gro).cell (b := G) rfl hg1
                  have HG2 : Hid (wr.ownsRow base 3 1 (.slice (some ⟨h, 0, none⟩) (len k + 12) c) (len k + 12) Y) := hg2
                  have HG4 : Hid (∀ j, j < 12 → Y[(len k + j) * 1 + 0]? = some (VI (off nn + 12 * k + j))) := hg4
                  clear hg1 hg2 hg4 hvG
                  go_wp2_with fail
                  go_loopw [3, 13] (fun nv j wq => ∃ (t a b : Nat), t ≤ 12 ∧ j = .int .i64 b ∧ nv = .int .i64 (mI a) ∧ b = len k + t ∧ a = off nn + 12 * k + t ∧ wq = wr) (fun _ j _ => len k + 12 - (RowKit.intOf j).toNat)
                  case atStart => exact ⟨0, a6, len k, Nat.zero_le _, rfl, rfl, rfl, HA6.out, rfl⟩
                  case round =>
                    obtain ⟨t, a7, b7, ht, rfl, rfl, hb7, ha7, rfl⟩ := hrel
                    have HA7 : Hid (a7 = off nn + 12 * k + t) := ha7
                    have HB7 : Hid (b7 = len k + t) := hb7
                    by_cases htl : t < 12
                    · have hbI : (b7 : Int) < (len k : Int) + 12 := by omega
                      have hbN : b7 < len k + 12 := by omega
                      have hb9 : (b7 : Int) + 1 ≤ 4611686018427387905 := by omega
                      have hw7 : wrap64 (mI a7 + 1) = mI (a7 + 1) := mI_succ a7
                      have hcl : wr.cell? ⟨h, b7, none⟩ = some (.int .i64 (mI a7)) := by
                        rw [HA7.out, HB7.out]
                        exact (rdr_own HG2.out).cell (b := h) rfl (by have := HG4.out t htl; simpa [VI] using this)
                      clear ha7 hb7
                      go_wp2_with fail
                      exact ⟨⟨t + 1, a7 + 1, b7 + 1, Nat.succ_le_of_lt htl, by go_num, by first | rfl | rw [hw7], by rw [HB7.out]; rfl, by rw [HA7.out]; rfl, by trivial⟩, by simp [RowKit.intOf]; omega⟩
                    · have ht12 : t = 12 := by omega
                      subst ht12
                      have hbI : ¬ (b7 : Int) < (len k : Int) + 12 := by omega
                      have HA8 : Hid (a7 = off nn + 12 * (k + 1)) := mI_nx HA7.out
                      clear ha7 hb7
                      go_wp2_with fail
                      exact ⟨⟨k + 1, a7, Nat.succ_le_of_lt hlt, by go_num, rfl, HA8.out, by trivial⟩, by simp [RowKit.intOf]; omega⟩
                · have hkn : k = nn := by omega
                  subst hkn
                  go_wp2_with fail
                  go_ret
                  exact ⟨rfl, HP.out.bel, HP.out.oth⟩
end Go.Proofs.YtfdghbbanokopaaDoor
