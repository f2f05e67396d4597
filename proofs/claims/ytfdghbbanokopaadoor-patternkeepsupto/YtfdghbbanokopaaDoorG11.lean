/-
  ApTexW.
-/
import Derived.Test.YtfdghbbanokopaaDoorProg
import Derived.Deep.OwnRows
import Derived.Deep.AppendLies
import Derived.WalkKit
import Derived.Below
import Derived.Lib.SlBytesRow
import Derived.Lib.QuietBelow
import Derived.StillTail
import Derived.BigQuiet
import Derived.Test.YtfdghbbanokopaaDoorG06
import Derived.Test.YtfdghbbanokopaaDoorG07
import Derived.Test.YtfdghbbanokopaaDoorG08
import Derived.Test.YtfdghbbanokopaaDoorG09
import Derived.Test.YtfdghbbanokopaaDoorG10
set_option linter.unusedSimpArgs false
set_option linter.unusedVariables false
namespace Go.Proofs.YtfdghbbanokopaaDoor
open Go.RowKit Go.Lib Go.Sort

theorem text_rg (n : Nat) (hn : n ≤ 4611686018427387904) (W1 : World) : ∀ d os, Calls Tryd.prog 83 #[.int .i64 n] (grow (redrawn W1 d) os) fun e w'' => e = .returned (.string (txB n)) ∧ ∃ p : Regrown, w'' = grow (redrawn W1 p.d) p.os := fun d os => Calls.regrown_of (text_any n hn _)

def VT (n : Nat) : Value := .string (txB n)
theorem ap_infoT : (Tryd.prog.info? 9).map (fun i => (i.zero, i.size, i.bytes)) = some (some (.string ⟨#[]⟩), 1, 16) := by kernel_rfl
theorem ap_infoTs : (Tryd.prog.info? 33).map (fun i => (i.zero, i.size, i.bytes)) = some (some (.slice none 0 0), 1, 24) := by kernel_rfl
theorem ap_fitT {m t : Nat} (h : (m + 12) * 16 ≤ 140737488355328) (ht : t < 12) : m + t + 1 ≤ maxLen ∧ (m + t + 1) * 16 ≤ 140737488355328 := by
  unfold maxLen
  omega
theorem ap_nxT {a c k : Nat} (h : a = (c + 12 * k) + 12) : a = c + 12 * (k + 1) := by omega
theorem ap_nxT2 {a c k : Nat} (h : a = c + 12 * k + 12) : a = c + 12 * (k + 1) := by omega

theorem T2.far {V : Nat → Value} {w : World} {base : Nat} {e eL : TypeId} {size fld n B : Nat} {A : Nat → Option Addr} {C len off : Nat → Nat} {X : Nat → List Value} {i : Nat} {vg : Value} {gs : List Value} {wr wq : World} (h : T2 V w base e eL size fld n B A C len off X i vg gs wr) (hbase : base ≤ w.heap.size) (hb : Below wr.heap.size wr wq) : T2 V w base e eL size fld n B A C len off X i vg gs wq := by
  have hs := h.bel.size
  refine ⟨fun k hk hkn => ?_, fun k hk => ?_, fun k hk => ?_, ?_, h.gfr, fun k hk => ?_, h.bel.trans (hb.mono (by omega)), h.hB, fun q hq hk => ?_⟩
  · exact rw_same (h.own k hk hkn) fun b hbk => hb.block b (rw_block (h.own k hk hkn) hbk).2.1
  · exact (h.rdr k hk).same fun b hbk => hb.block b ((h.rdr k hk).lt hbk)
  · rw [World.cell?_of_block (w := wr) (hb.block B (by have := h.hB; omega))]
    exact h.cel k hk
  · exact rw_same h.gro fun b hbk => hb.block b (rw_block h.gro hbk).2.1
  · obtain ⟨hh, c, Y, h1, h2, h3, h4⟩ := h.row k hk
    exact ⟨hh, c, Y, h1, rw_same h2 fun b hbk => hb.block b (rw_block h2 hbk).2.1, h3, h4⟩
  · rw [hb.block q (by omega)]
    exact h.oth q hq hk
theorem T3.far {V : Nat → Value} {wr : World} {base : Nat} {e : TypeId} {size fld : Nat} {A : Option Addr} {c m : Nat} {xs : List Value} {from_ j : Nat} {vq : Value} {Z : List Value} {wq w2 : World} (h : T3 V wr base e size fld A c m xs from_ j vq Z wq) (hb : Below wq.heap.size wq w2) : T3 V wr base e size fld A c m xs from_ j vq Z w2 := by
  have hs := h.gb.size
  have hs2 := hb.size
  refine ⟨rw_same h.own fun b hbk => hb.block b (rw_block h.own hbk).2.1, h.mks, ⟨hb.os.trans h.gb.os, hb.tape.trans h.gb.tape, hb.output.trans h.gb.output, by omega, fun k hk hne => (hb.block k (by omega)).trans (h.gb.block k hk hne)⟩, h.blk, h.old.same fun b hbk => hb.block b (h.old.lt hbk), h.alt⟩

set_option maxRecDepth 100000 in
set_option maxHeartbeats 4000000 in
theorem apartTexts_any (nn B cp : Nat) (A : Nat → Option Addr) (C len off : Nat → Nat) (X0 : Nat → List Value) (base : Nat) (w : World) (hap : RwsAp nn B A) (hoff0 : off 0 = 0) (hoffs : ∀ k, off (k + 1) = off k + len k) (hoffl : ∀ k, k < nn → off k + len k ≤ off nn) (hbase : base ≤ w.heap.size)
    (hfit : off nn + 12 * nn ≤ 4611686018427387904) (hrow : ∀ k, k < nn → (len k + 12) * 16 ≤ 140737488355328) (hnn : nn * 24 ≤ 140737488355328)
    (h0 : T1 VT w base 9 1 0 nn B A C len off X0 0 0 w) :
    Calls Tryd.prog 62 #[.slice (some ⟨B, 0, none⟩) nn cp] w fun e W' => e = .returned (.bool true) ∧ Below base w W' ∧ (∀ q, q < w.heap.size → (∀ k, k < nn → ∀ a, A k = some a → a.block ≠ q) → W'.heap[q]? = w.heap[q]?) := by
  obtain ⟨i0, hi, hz0, hz1, hz2⟩ := info_parts ap_infoT
  obtain ⟨m0, hm, hx0, hx1, hx2⟩ := info_parts ap_infoTs
  have H0 : Hid (T1 VT w base 9 1 0 nn B A C len off X0 0 0 w) := h0
  clear h0
  go_enter Tryd.func62, Tryd.ntmps62
  go_wp2_with fail
  go_loopw [3, 5] (fun nv i wr => ∃ (k a : Nat) (X : Nat → List Value), k ≤ nn ∧ i = .int .i64 k ∧ nv = .int .i64 a ∧ a = off k ∧ T1 VT w base 9 1 0 nn B A C len off X k 0 wr) (fun _ i _ => nn - (RowKit.intOf i).toNat)
  case atStart => exact ⟨0, 0, X0, by omega, rfl, rfl, by rw [hoff0], H0.out⟩
  case round =>
    obtain ⟨k, a, X, hk, rfl, rfl, ha, hP⟩ := hrel
    clear H0
    have HP : Hid (T1 VT w base 9 1 0 nn B A C len off X k 0 wr) := hP
    clear hP
    by_cases hlt : k < nn
    · have hkI : (k : Int) < (nn : Int) := by omega
      have hoff := hoffl k hlt
      go_wp2_with fail
      go_loopw [3, 6] (fun nv j wq => ∃ (t a : Nat) (X : Nat → List Value), t ≤ len k ∧ j = .int .i64 t ∧ nv = .int .i64 a ∧ a = off k + t ∧ T1 VT w base 9 1 0 nn B A C len off X k t wq) (fun _ j _ => len k - (RowKit.intOf j).toNat)
      case atStart => exact ⟨0, a, X, by omega, rfl, rfl, by omega, HP.out⟩
      case round =>
        obtain ⟨t, a', X', ht, rfl, rfl, ha', hP⟩ := hrel
        clear HP
        have hc := hP.cel k hlt
        by_cases htl : t < len k
        · have htI : (t : Int) < (len k : Int) := by omega
          obtain ⟨g, cap, hv, hg1, hg2⟩ := rw_some (hP.own k hlt) (by omega)
          have hA : A k = some ⟨g, 0, none⟩ := by simp at hv; exact hv.1
          have hoi := hP.own k hlt
          rw [hA] at hc hoi
          have f0 := rw_fro hoi t
          obtain ⟨u0, c0, _⟩ := rw_cell hoi (i := t) (by omega)
          have HP : Hid (T1 VT w base 9 1 0 nn B A C len off X' k t wr) := hP
          clear hP hoi hv
          have HA1 : Hid (a' = off k + t) := ha'
          have ha9 : (a' : Int) + 1 ≤ 4611686018427387905 := by omega
          have CT : Hid (∀ d os, Calls Tryd.prog 83 #[.int .i64 a'] (grow (redrawn wr d) os) fun e w'' => e = .returned (.string (txB a')) ∧ ∃ p : Regrown, w'' = grow (redrawn wr p.d) p.os) := text_rg a' (by omega) wr
          clear ha'
          have g0 := cell_regrown hc
          go_wp2_with fail
          refine wp_region_quiet_then 8 (by kernel_rfl) (by kernel_rfl) ?_
          simp only [List.take_succ_cons, List.take_zero]
          iterate 8 (go_big_quiet_step ((go_at_call 83; exact CT.out _ _)))
          refine wpQuiet_nil ?_
          intro w' hw'
          obtain ⟨⟨dq, osq⟩, hw''⟩ := hw'
          subst hw''
          simp only [List.drop_succ_cons, List.drop_zero]
          have hb2 := below_regrown wr dq osq
          obtain ⟨w2, hw2⟩ : ∃ w2, grow (redrawn wr dq) osq = w2 := ⟨_, rfl⟩
          rw [hw2] at hb2 ⊢
          clear hw2
          clear g0
          have HP2 : Hid (T1 VT w base 9 1 0 nn B A C len off X' k t w2) := HP.out.far hbase hb2
          have c2 : w2.cell? ⟨g, t, none⟩ = some u0 := (hb2.cell (p := ⟨g, t, none⟩) hg2).trans c0
          have f2 : w2.frozen? ⟨g, t, none⟩ = false := (hb2.frozen (p := ⟨g, t, none⟩) hg2).trans f0
          clear hb2 HP CT c0 f0
          go_wp2_with fail
          refine ⟨⟨t + 1, a' + 1, _, by omega, by go_num, by go_num, by rw [HA1.out]; rfl, (HP2.out.put hap hlt hA (by decide) t (by omega) (.string (txB a'))).mark ?_⟩, by simp [RowKit.intOf]; omega⟩
          have hl := (HP2.out.own k hlt).1
          have hl2 : t < (X' k).length := by omega
          simp [hl2, VT, HA1.out]
        · have htk : t = len k := by omega
          subst htk
          have HP : Hid (T1 VT w base 9 1 0 nn B A C len off X' k (len k) wr) := hP
          have hsucc : a' = off (k + 1) := by
            have e9 : off (k + 1) = off k + len k := hoffs k
            rw [e9, ha']
          clear hP
          have HS : Hid (a' = off (k + 1)) := hsucc
          clear hsucc ha'
          go_wp2_with fail
          exact ⟨⟨k + 1, _, X', by omega, by go_num, rfl, HS.out, HP.out.next⟩, by simp [RowKit.intOf]; omega⟩
    · have hkn : k = nn := by omega
      subst hkn
      obtain ⟨nn, hnk⟩ : ∃ q, q = k := ⟨_, rfl⟩
      subst hnk
      have HMk : Hid (∀ k, k < nn → MkT VT 1 0 (X k) (off k) (len k)) := HP.out.mks
      have HAk : Hid (∀ k, k < nn → 0 < len k → ∃ g, A k = some ⟨g, 0, none⟩) := fun k hk hl => by
        obtain ⟨g, cap, hv, _⟩ := rw_some (HP.out.own k hk) hl
        simp at hv
        exact ⟨g, hv.1⟩
      have H2 : Hid (T2 VT w base 9 33 1 0 nn B A C len off X 0 (.slice none 0 0) [] wr) := HP.out.done
      clear HP
      go_wp2_with fail
      go_loopw [3, 4, 7] (fun nv vg i wr => ∃ (k a : Nat) (gs : List Value), k ≤ nn ∧ i = .int .i64 k ∧ nv = .int .i64 a ∧ a = off nn + 12 * k ∧ T2 VT w base 9 33 1 0 nn B A C len off X k vg gs wr) (fun _ _ i _ => nn - (RowKit.intOf i).toNat)
      case atStart => exact ⟨0, _, [], by omega, rfl, rfl, by omega, H2.out⟩
      case round =>
        obtain ⟨k, a2, gs, hk, rfl, rfl, ha2, hP⟩ := hrel
        clear H2
        have HA2 : Hid (a2 = off nn + 12 * k) := ha2
        clear ha2
        obtain ⟨ag, cg, rfl⟩ := rw_form hP.gro
        by_cases hlt : k < nn
        · have hkI : (k : Int) < (nn : Int) := by omega
          have hc := hP.cel k hlt
          have hrk := hrow k hlt
          obtain ⟨wo, hwo⟩ : ∃ wo, wo = wr := ⟨_, rfl⟩
          subst hwo
          have HP : Hid (T2 VT w base 9 33 1 0 nn B A C len off X k (.slice ag k cg) gs wo) := hP
          have H3 : Hid (T3 VT wo base 9 1 0 (A k) (C k) (len k) (X k) (off nn + 12 * k) 0 (.slice (A k) (len k) (C k)) [] wo) := T3.start (hP.own k (Nat.le_refl _) hlt)
          have hlx : (X k).length = len k * 1 := (hP.own k (Nat.le_refl _) hlt).1
          have hbo : base ≤ wo.heap.size := by have := hP.bel.size; omega
          clear hP
          go_wp2_with fail
          go_loopw [3, 8, 9] (fun nv vq j wq => ∃ (t a : Nat) (Z : List Value), t ≤ 12 ∧ j = .int .i64 t ∧ nv = .int .i64 a ∧ a = (off nn + 12 * k) + t ∧ T3 VT wo base 9 1 0 (A k) (C k) (len k) (X k) (off nn + 12 * k) t vq Z wq) (fun _ _ j _ => 12 - (RowKit.intOf j).toNat)
          case atStart => exact ⟨0, _, [], by omega, rfl, rfl, by have := HA2.out; omega, H3.out⟩
          case round =>
            obtain ⟨t, a3, Z, ht, rfl, rfl, ha3, hP3⟩ := hrel
            clear H3
            have HA3 : Hid (a3 = (off nn + 12 * k) + t) := ha3
            have ha9 : (a3 : Int) + 1 ≤ 4611686018427387905 := by omega
            clear ha3
            obtain ⟨aq, cq, rfl⟩ := rw_form hP3.own
            have hown3 := hP3.own
            have hbr : base ≤ wr.heap.size := by have := hP3.gb.size; omega
            have HP3 : Hid (T3 VT wo base 9 1 0 (A k) (C k) (len k) (X k) (off nn + 12 * k) t (.slice aq (len k + t) cq) Z wr) := hP3
            clear hP3
            by_cases htl : t < 12
            · have htI : (t : Int) < 12 := by omega
              have Q : Hid ((len k + t + 1 ≤ maxLen) ∧ ((len k + t + 1) * 16 ≤ 140737488355328)) := ap_fitT hrk htl
              have CT : Hid (Calls Tryd.prog 83 #[.int .i64 a3] wr fun e w' => e = .returned (.string (txB a3)) ∧ Below wr.heap.size wr w') := text_any a3 (by omega) wr
              go_wp2_with fail
              refine CT.out.mono ?_
              rintro e w2 ⟨rfl, hb2⟩
              have H32 : Hid (T3 VT wo base 9 1 0 (A k) (C k) (len k) (X k) (off nn + 12 * k) t (.slice aq (len k + t) cq) Z w2) := HP3.out.far hb2
              have hown2 := H32.out.own
              have Qb : Hid (∀ o, base ≤ (w2.alloc o).heap.size) := fun o => by rw [World.size_alloc]; have := hb2.size; show base ≤ w2.heap.size + 1; omega
              clear hb2 HP3 CT hown3
              go_wp2_with (at_builtin; refine wpList_append_far _ rfl (.tmp 53) (.tmp 56) 33 rfl base 9 i0 (.string ⟨#[]⟩) 1 16 Tryd.underlying33 hi hz0 hz1 hz2 rfl (by decide) _ _ _ rfl (hown2.alloc _) ⟨w2.heap.size, 0, none⟩ 1 1 [.string (txB a3)] rfl (by simp) (by intro j u hj; rcases j with _ | j <;> simp at hj <;> subst hj <;> simp [Go.WideShapes.add_plain]) (by simp [Value.oneCell']) (by decide) Q.out.1 Q.out.2 (Qb.out _) _ rfl ?_; intro g6 cap6 w6 hown6 hg6 hd6 hlt6)
              have hn : ([.string (txB a3)] : List Value)[0]? = some (VT (off nn + 12 * k + t)) := by rw [← HA3.out]; rfl
              exact ⟨⟨t + 1, a3 + 1, _, Nat.succ_le_of_lt htl, by go_num, by go_num, by rw [HA3.out]; rfl, T3.step H32.out hlx hown6 hg6 hd6 hn⟩, by simp [RowKit.intOf]; omega⟩
            · have ht12 : t = 12 := by omega
              subst ht12
              obtain ⟨h9, c9, hv9, _, _⟩ := rw_some hown3 (Nat.succ_pos _)
              have hq9 : aq = some ⟨h9, 0, none⟩ := by simp at hv9; exact hv9.1
              subst hq9
              have hgq : wr.ownsRow base 33 1 (.slice ag k cg) k gs := rw_same HP.out.gro fun b hb => HP3.out.gb.block b (rw_block HP.out.gro hb).2.1 (fun e' => (HP.out.rdr k hlt).ne HP.out.gro (by decide) e'.symm hb.symm)
              have Q : Hid ((k + 1 ≤ maxLen) ∧ ((k + 1) * 24 ≤ 140737488355328)) := ap_fit2 hnn hlt
              have Qb : Hid (∀ o, base ≤ (wr.alloc o).heap.size) := fun o => by rw [World.size_alloc]; exact Nat.le_succ_of_le hbr
              have HA4 : Hid (a3 = off nn + 12 * (k + 1)) := ap_nxT HA3.out
              clear hv9 hown3
              go_wp2_with (at_builtin; refine wpList_append_far _ rfl (.tmp 60) (.tmp 62) 61 rfl base 33 m0 (.slice none 0 0) 1 24 Tryd.underlying61 hm hx0 hx1 hx2 rfl (by decide) _ _ _ rfl (hgq.alloc _) ⟨wr.heap.size, 0, none⟩ 1 1 [.slice (some ⟨h9, 0, none⟩) (len k + 12) cq] rfl (by simp) (by intro j u hj; rcases j with _ | j <;> simp at hj <;> subst hj <;> simp [Go.WideShapes.add_plain]) (by simp [Value.oneCell']) (by decide) Q.out.1 Q.out.2 (Qb.out _) _ rfl ?_; intro g7 cap7 w7 hown7 hg7 hd7 hlt7)
              exact ⟨⟨k + 1, a3, _, Nat.succ_le_of_lt hlt, by go_num, rfl, HA4.out, T2.step HP.out hap (by decide) hlt hbo HP3.out hown7 hg7 hd7⟩, by simp [RowKit.intOf]; omega⟩
        · have hkn : k = nn := by omega
          subst hkn
          obtain ⟨nn, hnk⟩ : ∃ q, q = k := ⟨_, rfl⟩
          subst hnk
          obtain ⟨wo, hwo⟩ : ∃ wo, wo = wr := ⟨_, rfl⟩
          subst hwo
          have HP : Hid (T2 VT w base 9 33 1 0 nn B A C len off X nn (.slice ag nn cg) gs wo) := hP
          clear hP
          go_wp2_with fail
          go_loopw [3, 10] (fun nv i wq => ∃ (k a : Nat), k ≤ nn ∧ i = .int .i64 k ∧ nv = .int .i64 a ∧ a = off k ∧ Hid (T2 VT w base 9 33 1 0 nn B A C len off X nn (.slice ag nn cg) gs wq)) (fun _ i _ => nn - (RowKit.intOf i).toNat)
          case atStart => exact ⟨0, 0, by omega, rfl, rfl, by rw [hoff0], HP⟩
          case round =>
            obtain ⟨k, a4, hk, rfl, rfl, ha4, HPr⟩ := hrel
            clear HP
            have HA4 : Hid (a4 = off k) := ha4
            clear ha4
            by_cases hlt : k < nn
            · have hkI : (k : Int) < (nn : Int) := by omega
              have hoff := hoffl k hlt
              have hc := HPr.out.cel k hlt
              go_wp2_with fail
              go_loopw [3, 11] (fun nv j wq => ∃ (t a : Nat), t ≤ len k ∧ j = .int .i64 t ∧ nv = .int .i64 a ∧ a = off k + t ∧ Hid (T2 VT w base 9 33 1 0 nn B A C len off X nn (.slice ag nn cg) gs wq)) (fun _ j _ => len k - (RowKit.intOf j).toNat)
              case atStart => exact ⟨0, a4, Nat.zero_le _, rfl, rfl, HA4.out, HPr⟩
              case round =>
                clear HPr hc
                obtain ⟨t, a5, ht, rfl, rfl, ha5, HP⟩ := hrel
                have hc := HP.out.cel k hlt
                have HA5 : Hid (a5 = off k + t) := ha5
                have ha9 : (a5 : Int) + 1 ≤ 4611686018427387905 := by omega
                clear ha5
                by_cases htl : t < len k
                · have htI : (t : Int) < (len k : Int) := by omega
                  obtain ⟨g, hA⟩ := HAk.out k hlt (by omega)
                  have hcl : wr.cell? ⟨g, t, none⟩ = some (.string (txB a5)) := by
                    rw [HA5.out]
                    exact (HP.out.rdr k hlt).cell (own_blk.2 ⟨_, hA, rfl⟩) (by have := HMk.out k hlt t htl; simpa [VT] using this)
                  rw [hA] at hc
                  have CT : Hid (∀ d os, Calls Tryd.prog 83 #[.int .i64 a5] (grow (redrawn wr d) os) fun e w'' => e = .returned (.string (txB a5)) ∧ ∃ p : Regrown, w'' = grow (redrawn wr p.d) p.os) := text_rg a5 (by omega) wr
                  have g0 := cell_regrown hc
                  have g1 := cell_regrown hcl
                  go_wp2_with fail
                  refine wp_region_quiet_below (by kernel_rfl) (by kernel_rfl) ?_
                  iterate 10 (go_big_quiet_step ((go_at_call 83; exact CT.out _ _)))
                  refine wpQuiet_nil ?_
                  intro w' hw'
                  obtain ⟨⟨dq, osq⟩, hw''⟩ := hw'
                  subst hw''
                  have hb2 := below_regrown wr dq osq
                  obtain ⟨w2, hw2⟩ : ∃ w2, grow (redrawn wr dq) osq = w2 := ⟨_, rfl⟩
                  rw [hw2] at hb2 ⊢
                  clear hw2
                  clear g0 g1
                  have HP2 : Hid (T2 VT w base 9 33 1 0 nn B A C len off X nn (.slice ag nn cg) gs w2) := HP.out.far hbase hb2
                  clear hb2 HP CT hcl hc
                  go_wp2_with fail
                  exact ⟨⟨t + 1, a5 + 1, Nat.succ_le_of_lt htl, by go_num, by go_num, by rw [HA5.out]; rfl, HP2⟩, by simp [RowKit.intOf]; omega⟩
                · have htk : t = len k := by omega
                  subst htk
                  have HS : Hid (a5 = off (k + 1)) := by
                    show _ = _
                    rw [hoffs, HA5.out]
                  go_wp2_with fail
                  exact ⟨⟨k + 1, _, Nat.succ_le_of_lt hlt, by go_num, rfl, HS.out, HP⟩, by simp [RowKit.intOf]; omega⟩
            · have hkn : k = nn := by omega
              subst hkn
              obtain ⟨nn, hnk⟩ : ∃ q, q = k := ⟨_, rfl⟩
              subst hnk
              go_wp2_with fail
              go_loopw [3, 12] (fun nv i wq => ∃ (k a : Nat), k ≤ nn ∧ i = .int .i64 k ∧ nv = .int .i64 a ∧ a = off nn + 12 * k ∧ Hid (T2 VT w base 9 33 1 0 nn B A C len off X nn (.slice ag nn cg) gs wq)) (fun _ i _ => nn - (RowKit.intOf i).toNat)
              case atStart => exact ⟨0, a4, Nat.zero_le _, rfl, rfl, HA4.out, HPr⟩
              case round =>
                clear HPr
                obtain ⟨k, a6, hk, rfl, rfl, ha6, HP⟩ := hrel
                clear HA4
                have HA6 : Hid (a6 = off nn + 12 * k) := ha6
                clear ha6
                by_cases hlt : k < nn
                · have hkI : (k : Int) < (nn : Int) := by omega
                  have hc := HP.out.cel k hlt
                  have hrk := hrow k hlt
                  obtain ⟨G, cG, hvG, _, _⟩ := rw_some HP.out.gro (by omega)
                  have hag : ag = some ⟨G, 0, none⟩ := by simp at hvG; exact hvG.1
                  subst hag
                  obtain ⟨h, c, Y, hg1, hg2, hg4, _⟩ := HP.out.row k hlt
                  obtain ⟨wo, hwo⟩ : ∃ wo, wo = wr := ⟨_, rfl⟩
                  subst hwo
                  have hGl : G < wo.heap.size := (rw_block HP.out.gro (b := G) rfl).2.1
                  have hhl : h < wo.heap.size := (rw_block hg2 (b := h) rfl).2.1
                  have hBl : B < wo.heap.size := by have := HP.out.hB; have := HP.out.bel.size; omega
                  have hcG : wo.cell? ⟨G, k, none⟩ = some (.slice (some ⟨h, 0, none⟩) (len k + 12) c) := (rdr_own HP.out.gro).cell (b := G) rfl hg1
                  have HG2 : Hid (wo.ownsRow base 9 1 (.slice (some ⟨h, 0, none⟩) (len k + 12) c) (len k + 12) Y) := hg2
                  have HG4 : Hid (∀ j, j < 12 → Y[(len k + j) * 1 + 0]? = some (VT (off nn + 12 * k + j))) := hg4
                  clear hg1 hg2 hg4 hvG
                  go_wp2_with fail
                  go_loopw [3, 13] (fun nv j wq => ∃ (t a b : Nat), t ≤ 12 ∧ j = .int .i64 b ∧ nv = .int .i64 a ∧ b = len k + t ∧ a = off nn + 12 * k + t ∧ Below wo.heap.size wo wq) (fun _ j _ => len k + 12 - (RowKit.intOf j).toNat)
                  case atStart => exact ⟨0, a6, len k, Nat.zero_le _, rfl, rfl, rfl, HA6.out, Below.refl _ _⟩
                  case round =>
                    obtain ⟨t, a7, b7, ht, rfl, rfl, hb7, ha7, hBw⟩ := hrel
                    have HA7 : Hid (a7 = off nn + 12 * k + t) := ha7
                    have HB7 : Hid (b7 = len k + t) := hb7
                    by_cases htl : t < 12
                    · have hbI : (b7 : Int) < (len k : Int) + 12 := by omega
                      have hbN : b7 < len k + 12 := by omega
                      have hb9 : (b7 : Int) + 1 ≤ 4611686018427387905 := by omega
                      have ha9 : (a7 : Int) + 1 ≤ 4611686018427387905 := by omega
                      have hcl0 : wo.cell? ⟨h, b7, none⟩ = some (.string (txB a7)) := by
                        rw [HA7.out, HB7.out]
                        exact (rdr_own HG2.out).cell (b := h) rfl (by have := HG4.out t htl; simpa [VT] using this)
                      have hcl : wr.cell? ⟨h, b7, none⟩ = some (.string (txB a7)) := (hBw.cell (p := ⟨h, b7, none⟩) hhl).trans hcl0
                      have hcG9 : wr.cell? ⟨G, k, none⟩ = some (.slice (some ⟨h, 0, none⟩) (len k + 12) c) := (hBw.cell (p := ⟨G, k, none⟩) hGl).trans hcG
                      have CT : Hid (∀ d os, Calls Tryd.prog 83 #[.int .i64 a7] (grow (redrawn wr d) os) fun e w'' => e = .returned (.string (txB a7)) ∧ ∃ p : Regrown, w'' = grow (redrawn wr p.d) p.os) := text_rg a7 (by omega) wr
                      clear ha7 hb7 hcl0 hcG hc
                      have g0 := cell_regrown hcG9
                      have g1 := cell_regrown hcl
                      go_wp2_with fail
                      refine wp_region_quiet_below (by kernel_rfl) (by kernel_rfl) ?_
                      iterate 10 (go_big_quiet_step ((go_at_call 83; exact CT.out _ _)))
                      refine wpQuiet_nil ?_
                      intro w' hw'
                      obtain ⟨⟨dq, osq⟩, hw''⟩ := hw'
                      subst hw''
                      have hb2 := below_regrown wr dq osq
                      obtain ⟨w2, hw2⟩ : ∃ w2, grow (redrawn wr dq) osq = w2 := ⟨_, rfl⟩
                      rw [hw2] at hb2 ⊢
                      clear hw2
                      clear g0 g1
                      have HBW : Hid (Below wo.heap.size wo w2) := hBw.trans (hb2.mono hBw.size)
                      clear hb2 hBw CT hcl hcG9
                      go_wp2_with fail
                      exact ⟨⟨t + 1, a7 + 1, b7 + 1, Nat.succ_le_of_lt htl, by go_num, by go_num, by rw [HB7.out]; rfl, by rw [HA7.out]; rfl, HBW.out⟩, by simp [RowKit.intOf]; omega⟩
                    · have ht12 : t = 12 := by omega
                      subst ht12
                      have hbI : ¬ (b7 : Int) < (len k : Int) + 12 := by omega
                      have HA8 : Hid (a7 = off nn + 12 * (k + 1)) := ap_nxT2 HA7.out
                      have hcG9 : wr.cell? ⟨G, k, none⟩ = some (.slice (some ⟨h, 0, none⟩) (len k + 12) c) := (hBw.cell (p := ⟨G, k, none⟩) hGl).trans hcG
                      have HPF : Hid (T2 VT w base 9 33 1 0 nn B A C len off X nn (.slice (some ⟨G, 0, none⟩) nn cg) gs wr) := HP.out.far hbase hBw
                      clear ha7 hb7 hBw
                      go_wp2_with fail
                      exact ⟨⟨k + 1, a7, Nat.succ_le_of_lt hlt, by go_num, rfl, HA8.out, HPF⟩, by simp [RowKit.intOf]; omega⟩
                · have hkn : k = nn := by omega
                  subst hkn
                  go_wp2_with fail
                  go_ret
                  exact ⟨rfl, HP.out.bel, HP.out.oth⟩
end Go.Proofs.YtfdghbbanokopaaDoor
