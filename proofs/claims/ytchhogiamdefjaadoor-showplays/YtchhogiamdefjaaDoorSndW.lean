/-
  sound, walked.
-/
import Derived.Test.YtchhogiamdefjaaDoorSnW
import Derived.Test.YtchhogiamdefjaaDoorStrMem
set_option linter.unusedSimpArgs false
set_option linter.unusedVariables false
namespace Go.Proofs.YtchhogiamdefjaaDoor
open Go.RowKit Go.Lib Go.Maps

theorem snd_nil : sndB [] = false := by simp [sndB, begL]
theorem snd_big {l : List Nd} (h : 64 < l.length) : sndB l = false := by simp [sndB, begL, h]

set_option maxRecDepth 20000 in
set_option maxHeartbeats 4000000 in
theorem sound_any {w : World} {ao : Option Addr} {cap : Nat} {l : List Nd} (hT : SpanCells w) (hN : Rd w ao cap l) (hnm : ∀ x ∈ l, x.name.size ≤ maxLen) :
    Calls Tryd.prog 64 #[.slice ao l.length cap] w fun e w' => e = .returned (.bool (okSh l)) ∧ Below w.heap.size w w' := by
  obtain ⟨hb1, hb2⟩ := hN.bound
  unfold maxLen at hb2
  by_cases h64 : 64 < l.length
  · have HR : Hid (okSh l = false) := by show okSh l = false; unfold okSh; rw [snd_big (by simpa using h64)]; simp
    have g1 : (64 : Int) < (l.length : Int) := by omega
    generalize okSh l = R at *
    clear hN hnm hT
    go_enter Tryd.func64, Tryd.ntmps64
    go_wp2_with fail
    go_ret
    exact ⟨by rw [HR.out] <;> rfl, Below.refl _ _⟩
  · have g1 : ¬ (64 : Int) < (l.length : Int) := by omega
    have hlen : l.length * 56 ≤ 140737488355328 := by omega
    have cC := clone_any hN hlen
    have HN : Hid (Rd w ao cap l) := hN
    have HT : Hid (SpanCells w) := hT
    have HM : Hid (∀ x ∈ l, x.name.size ≤ maxLen) := hnm
    obtain ⟨R, hR⟩ : ∃ R, okSh l = R := ⟨_, rfl⟩
    have HR : Hid (R = (!(decide (6 < (hlsL l).length)) && (decide ((hlsL l).length = 0) || decide (l.length ≤ 16)) && sndB (l.map fillN))) := hR.symm
    rw [hR]
    clear hN hT hnm hR
    have hmm := @run_makeMap Tryd.prog
    go_enter Tryd.func64, Tryd.ntmps64
    go_wp2_with (go_at_call 95; refine cC.mono ?_; rintro e w1 ⟨v, p, rfl, hp, hcl, hbl⟩)
    have hs1 := hbl.size
    have HS0 : Hid (SnMid w l w1.heap.size v 0 (w1.alloc (.map #[] 0))) := ⟨⟨p, by simpa using hp, hcl.row.alloc _, fun q hq => (hcl.kids q hq).below ((Below.refl _ _).alloc hs1 _) (Nat.le_refl _)⟩, ⟨0, by omega, by simpa [hlsL] using CntM.made w1⟩, hbl.alloc hs1 _, hs1⟩
    clear cC hp hcl
    go_loopw [15] (fun i wr => ∃ k : Nat, k ≤ l.length ∧ i = .int .i64 k ∧ SnMid w l w1.heap.size v k wr) (fun i _ => l.length - (RowKit.intOf i).toNat)
    case atStart => exact ⟨0, by omega, rfl, HS0.out⟩
    case round =>
      obtain ⟨k, hk, rfl, hM⟩ := hrel
      have hbw := hM.below
      have hsw := hbw.size
      by_cases hlt : k < l.length
      · obtain ⟨b, o, kv, rfl, hbk, hna⟩ := Rd.cell (HN.out.below hbw hsw) hlt
        have HNM : Hid ((l.getD k nd0).name.size ≤ maxLen) := HM.out _ (by simp [hlt])
        obtain ⟨c0, c1, c2, c3, hki⟩ := hna
        obtain ⟨ka, kc, rfl, _⟩ := hki
        generalize hkl : (l.getD k nd0).kids.length = kl at *
        by_cases hop : (l.getD k nd0).op = 18
        · obtain ⟨g, cp, rfl, hg0, hgl, hgM, hg1, hg2, ⟨cv, hcv⟩, hfz⟩ := hM.at_ hlt
          unfold maxLen at hg2
          obtain ⟨n, hn, hC⟩ := hM.map
          obtain ⟨c, w5, hcn, hlook, hput, hC5, hg5⟩ := (hC.alloc (.cells #[.int .i64 18, .int .i64 (l.getD k nd0).n, .string (l.getD k nd0).name, .slice ka kl kc] 49)).more (by omega) HNM.out
          have hMl := hC.lt
          have HFI : Hid (SnMid w l w1.heap.size (.slice (some ⟨g, 0, none⟩) l.length cp) (k + 1) (w5.setCell ⟨g, k * 4, none⟩ (.int .i64 2))) := hM.fill hlt hop hn hC5 hg5
          have q0 : w5.cell? ⟨g, k * 4, none⟩ = some (.int .i64 cv) := by
            have e : w5.heap[g]? = wr.heap[g]? := (hg5.block g (by simp; omega) (by simpa using hgM)).trans (alloc_old _ _ _ hgl)
            rw [World.cell?_of_block (a := ⟨g, k * 4, none⟩) e]; exact hcv
          have q1 : w5.frozen? ⟨g, k * 4, none⟩ = false := by
            have e : w5.heap[g]? = wr.heap[g]? := (hg5.block g (by simp; omega) (by simpa using hgM)).trans (alloc_old _ _ _ hgl)
            have := hfz
            unfold World.frozen? at this ⊢
            rw [e]; exact this
          rw [hop] at c0
          have hc64 : (c : Int) ≤ 64 := by omega
          clear hM hC hC5 hg5 hcv hfz
          generalize (l.getD k nd0).name = nm at *
          generalize (l.getD k nd0).n = nn at *
          clear hop hkl
          go_wp2_with fail
          exact ⟨⟨k + 1, by omega, by go_num, HFI.out⟩, by simp [RowKit.intOf]; omega⟩
        · have HSK : Hid (SnMid w l w1.heap.size v (k + 1) (wr.alloc (.cells #[.int .i64 (l.getD k nd0).op, .int .i64 (l.getD k nd0).n, .string (l.getD k nd0).name, .slice ka kl kc] 49))) := hM.skip hlt hop _
          have g18 : ((l.getD k nd0).op == 18) = false := by rw [beq_eq_false_iff_ne]; exact hop
          clear hM hop hkl HNM
          generalize (l.getD k nd0).name = nm at *
          generalize (l.getD k nd0).n = nn at *
          generalize (l.getD k nd0).op = oo at *
          go_wp2_with fail
          exact ⟨⟨k + 1, by omega, by go_num, HSK.out⟩, by simp [RowKit.intOf]; omega⟩
      · have hke : k = l.length := by omega
        subst hke
        obtain ⟨⟨p, hp, hcl⟩, ⟨n, hn, hC⟩, _, hle⟩ := hM
        have hlenM := hC.len
        rw [List.take_length] at hlenM hp
        rw [List.drop_length, List.append_nil] at hp
        have hpl : p.length = l.length := by have := congrArg List.length hp; simpa using this
        have hNd := hcl.nodes (C := wr.heap.size) (Nat.le_refl _) hsw
        rw [hp] at hNd
        have hhl := hlsL_len l
        have cK := check_any v (l.map fillN) wr wr.heap.size (Nat.le_refl _) (HT.out.below hbw) hNd
        have HBW : Hid (Below w.heap.size w wr) := hbw
        clear hC hbw hcl hp
        generalize (hlsL l).length = nh at *
        by_cases h6 : 6 < nh
        · have gg : (6 : Int) < (nh : Int) := by omega
          have HR2 : Hid (R = false) := by show R = false; rw [HR.out]; simp [h6]
          clear HR
          go_wp2_with fail
          go_ret
          exact ⟨by rw [HR2.out] <;> rfl, HBW.out⟩
        · have gg : ¬ (6 : Int) < (nh : Int) := by omega
          by_cases h0 : nh = 0
          · subst h0
            have HR2 : Hid (R = sndB (l.map fillN)) := by show R = _; rw [HR.out]; simp
            clear HR
            generalize sndB (l.map fillN) = sb at *
            cases sb
            · rw [if_neg (by decide)] at cK
              go_wp2_with (go_at_call 8; refine cK.mono ?_; rintro e w6 ⟨rfl, hb6⟩)
              go_ret
              exact ⟨by rw [HR2.out] <;> rfl, HBW.out.trans (hb6.mono HBW.out.size)⟩
            · rw [if_pos rfl] at cK
              go_wp2_with (go_at_call 8; refine cK.mono ?_; rintro e w6 ⟨rfl, hb6⟩)
              go_ret
              exact ⟨by rw [HR2.out] <;> rfl, HBW.out.trans (hb6.mono HBW.out.size)⟩
          · have g0 : (0 : Int) < (nh : Int) := by omega
            by_cases h16 : 16 < l.length
            · have g16 : (16 : Int) < (l.length : Int) := by omega
              have HR2 : Hid (R = false) := by show R = false; rw [HR.out]; simp [h0, show ¬ l.length ≤ 16 by omega]
              clear HR
              go_wp2_with fail
              go_ret
              exact ⟨by rw [HR2.out] <;> rfl, HBW.out⟩
            · have g16 : ¬ (16 : Int) < (l.length : Int) := by omega
              have HR2 : Hid (R = sndB (l.map fillN)) := by show R = _; rw [HR.out]; simp [h6, show l.length ≤ 16 by omega]
              clear HR
              generalize sndB (l.map fillN) = sb at *
              cases sb
              · rw [if_neg (by decide)] at cK
                go_wp2_with (go_at_call 8; refine cK.mono ?_; rintro e w6 ⟨rfl, hb6⟩)
                go_ret
                exact ⟨by rw [HR2.out] <;> rfl, HBW.out.trans (hb6.mono HBW.out.size)⟩
              · rw [if_pos rfl] at cK
                go_wp2_with (go_at_call 8; refine cK.mono ?_; rintro e w6 ⟨rfl, hb6⟩)
                go_ret
                exact ⟨by rw [HR2.out] <;> rfl, HBW.out.trans (hb6.mono HBW.out.size)⟩
end Go.Proofs.YtchhogiamdefjaaDoor
