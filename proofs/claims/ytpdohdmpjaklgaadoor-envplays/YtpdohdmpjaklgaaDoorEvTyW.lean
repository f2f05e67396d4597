/-
  Text of the document, walked; EnvPlays.
-/
import Derived.Test.YtpdohdmpjaklgaaDoorEvTxW
import Derived.Test.YtpdohdmpjaklgaaDoorEvSetW
import Derived.Test.YtpdohdmpjaklgaaDoorEvSsW
set_option linter.unusedSimpArgs false
set_option linter.unusedVariables false
namespace Go.Proofs.YtpdohdmpjaklgaaDoor
open Go.RowKit Go.Lib Go.Sort

theorem ba_assoc (a b c : ByteArray) : a ++ b ++ c = a ++ (b ++ c) := ByteArray.append_assoc
theorem txB_next (l : List Bd) (k : Nat) (hk : k < l.length) (hk0 : 0 < k) : txB (l.take (k + 1)) = txB (l.take k) ++ ⟨#[44, 32]⟩ ++ wrB (l.getD k bd0) := by
  rw [List.take_succ_eq_append_getElem hk, txB_snoc, if_neg]
  · simp [hk]
  · intro h
    have h2 : (l.take k).length = 0 := by rw [h]; rfl
    rw [List.length_take] at h2; omega
theorem txB_one (l : List Bd) (hk : 0 < l.length) : txB (l.take 1) = wrB (l.getD 0 bd0) := by
  have := txB_snoc [] (l.getD 0 bd0)
  rw [if_pos rfl] at this
  rw [← this]
  congr 1
  rw [List.take_succ_eq_append_getElem hk]
  simp [hk]

set_option maxRecDepth 100000 in
set_option maxHeartbeats 4000000 in
theorem refTextE_any (ao : Option Addr) (cap : Nat) (l : List Bd) (w : World) (hI : Bds w ao cap l) (hok : BdOk l) :
    Calls Tryd.prog 15 #[.slice ao l.length cap] w (TxP w l) := by
  obtain ⟨⟨hl, hm, _⟩, _⟩ := id hI
  unfold maxLen at hm
  have HI : Hid (Bds w ao cap l) := hI
  have HK : Hid (BdOk l) := hok
  clear hI hok
  go_enter Tryd.func15, Tryd.ntmps15
  go_wp2
  go_loopw [4] (fun i wr => ∃ k : Nat, k ≤ l.length ∧ i = .int .i64 k ∧ Below w.heap.size w wr ∧ Hid (∀ j, j < k → nameB (l.getD j bd0).1 = true)) (fun i _ => l.length - (RowKit.intOf i).toNat)
  case atStart => exact ⟨0, by omega, rfl, Below.refl _ _, fun _ h => absurd h (by omega)⟩
  case round =>
    obtain ⟨k, hk, rfl, hB, HJ⟩ := hrel
    by_cases hlt : k < l.length
    · obtain ⟨b, o, rfl, hb, ⟨c0, c1⟩⟩ := (HI.out.below hB).at_ hlt
      have hkl2 : (k : Int) < (l.length : Int) := by omega
      have hsz := (HK.out.getD k).2
      obtain ⟨x, hx⟩ : ∃ x, l.getD k bd0 = x := ⟨_, rfl⟩
      rw [hx] at c0 c1 hsz
      have HX : Hid (l.getD k bd0 = x) := hx
      clear hx
      have HB : Hid (Below w.heap.size w wr) := hB
      obtain ⟨nm, n⟩ := x
      simp only at c0 c1 hsz
      have cN : Hid (∀ W, Calls Tryd.prog 19 #[.string nm] W fun e w' => e = .returned (.bool (nameB nm)) ∧ Below W.heap.size W w') := fun W => refName_any nm W hsz
      cases hn : nameB nm
      · rw [hn] at cN
        have HE : Hid (txE l = 7) := by
          show _ = _
          unfold txE
          rw [if_pos ((any_not l).1 ⟨k, hlt, by rw [HX.out]; exact hn⟩)]
        clear hn hB
        go_wp2_with (go_at_call 19; refine (cN.out _).mono ?_; rintro e w2 ⟨rfl, b2⟩)
        go_ret2
        exact txP_bad HE.out (by decide) (HB.out.trans (b2.mono HB.out.size))
      · rw [hn] at cN
        have HN : Hid (nameB nm = true) := hn
        clear hn hB
        go_wp2_with (go_at_call 19; refine (cN.out _).mono ?_; rintro e w2 ⟨rfl, b2⟩)
        go_roundw
        case rel => exact ⟨k + 1, by omega, by simp, HB.out.trans (b2.mono HB.out.size), fun j hj => by
          by_cases h : j < k
          · exact HJ.out j h
          · obtain rfl : j = k := by omega
            rw [HX.out]; exact HN.out⟩
        case measure => simp [RowKit.intOf]; omega
    · obtain rfl : k = l.length := by omega
      have hn : l.any (fun x => !nameB x.1) = false := by
        cases hx : l.any (fun x => !nameB x.1)
        · rfl
        · obtain ⟨k, hk, h⟩ := (any_not l).2 hx
          rw [HJ.out k hk] at h; cases h
      have HB : Hid (Below w.heap.size w wr) := hB
      have hle : ¬ ((l.length : Int) < (l.length : Int)) := by omega
      obtain ⟨wo, hwo⟩ : ∃ wo, wo = wr := ⟨_, rfl⟩
      subst hwo
      by_cases h64 : 64 < l.length
      · have HE : Hid (txE l = 10) := by show _ = _; unfold txE; rw [hn, if_neg (by simp), if_pos h64]
        have hg : (64 : Int) < (l.length : Int) := by omega
        clear hn hB
        go_wp2
        go_ret2
        exact txP_bad HE.out (by decide) HB.out
      · have HE : Hid (txE l = 0) := by show _ = _; unfold txE; rw [hn, if_neg (by simp), if_neg h64]
        have hg : ¬ (64 : Int) < (l.length : Int) := by omega
        have HN : Hid (Nice l) := nice_of l HK.out hn
        clear hn hB
        go_wp2
        go_loopw [5, 6] (fun v i wr => ∃ k : Nat, k ≤ l.length ∧ v = .string (txB (l.take k)) ∧ i = .int .i64 k ∧ Below wo.heap.size wo wr) (fun _ i _ => l.length - (RowKit.intOf i).toNat)
        case atStart => exact ⟨0, by omega, by simp [txB, txL, Lib.join, List.intercalate], rfl, Below.refl _ _⟩
        case round =>
          obtain ⟨k, hk, rfl, rfl, hB2⟩ := hrel
          by_cases hlt : k < l.length
          · obtain ⟨b, o, rfl, hb, ⟨c0, c1⟩⟩ := ((HI.out.below HB.out).below hB2).at_ hlt
            have hkl2 : (k : Int) < (l.length : Int) := by omega
            obtain ⟨x, hx⟩ : ∃ x, l.getD k bd0 = x := ⟨_, rfl⟩
            have hxn : nameB x.1 = true ∧ i6 x.2 := by rw [← hx]; exact HN.out _ (by simp [hlt])
            have hsS := txB_size _ (nice_take HN.out k)
            have hsS2 : (l.take k).length ≤ 64 := by simp; omega
            have htake : (k = 0 → txB (l.take (k + 1)) = wrB x ∧ txB (l.take k) = ⟨#[]⟩) ∧ (0 < k → txB (l.take (k + 1)) = txB (l.take k) ++ ⟨#[44, 32]⟩ ++ wrB x) := by
              refine ⟨fun h => ?_, fun h => ?_⟩
              · subst h; exact ⟨by rw [← hx]; exact txB_one l hlt, by simp [txB, txL, Lib.join, List.intercalate]⟩
              · rw [← hx]; exact txB_next l k hlt h
            rw [hx] at c0 c1
            clear hx
            obtain ⟨nm, n⟩ := x
            simp only at c0 c1 hxn
            have h64' := name_size nm hxn.1
            have hi20 := itoa_len n hxn.2.1 hxn.2.2
            obtain ⟨T, hTt⟩ : ∃ T, tx8 (itoa n) = T := ⟨_, rfl⟩
            have hTs : T.size ≤ 20 := by rw [← hTt, tx8_size]; exact hi20
            have HWR : Hid (wrB (nm, n) = nm ++ ⟨#[61]⟩ ++ T) := by show _ = _; unfold wrB; rw [hTt]
            have cT : Hid (∀ d os, Calls Tryd.prog 28 #[.int .i64 n] (grow (redrawn wr d) os) fun e w'' => e = .returned (.string T) ∧ ∃ p : Regrown, w'' = grow (redrawn wr p.d) p.os) := fun d os => Calls.regrown_of (by
              rw [← hTt]; exact refText_any n _ hxn.2)
            have HTK : Hid ((k = 0 → txB (l.take (k + 1)) = wrB (nm, n) ∧ txB (l.take k) = ⟨#[]⟩) ∧ (0 < k → txB (l.take (k + 1)) = txB (l.take k) ++ ⟨#[44, 32]⟩ ++ wrB (nm, n))) := htake
            clear hTt hi20 hxn htake
            have hS0 : (txB (l.take k)).size ≤ 102 * 64 := by omega
            clear hsS hsS2
            generalize txB (l.take k) = S at *
            have g0 := cell_regrown c0
            have g1 := cell_regrown c1
            have HB2 : Hid (Below wo.heap.size wo wr) := hB2
            clear hB2
            have e61 : (⟨#[61]⟩ : ByteArray).size = 1 := rfl
            have e2 : (⟨#[44, 32]⟩ : ByteArray).size = 2 := rfl
            obtain ⟨U, hU⟩ : ∃ U, (if k = 0 then S else S ++ ⟨#[44, 32]⟩) = U := ⟨_, rfl⟩
            have hUs : U.size ≤ 102 * 64 + 2 := by rw [← hU]; split <;> simp [ByteArray.size_append] <;> omega
            have HU : Hid (U ++ nm ++ ⟨#[61]⟩ ++ T = txB (l.take (k + 1))) := by
              show _ = _
              rw [← hU]
              by_cases h : k = 0
              · rw [if_pos h, (HTK.out.1 h).1, (HTK.out.1 h).2, HWR.out]
                rw [show (⟨#[]⟩ : ByteArray) ++ nm = nm from ByteArray.empty_append]
              · rw [if_neg h, HTK.out.2 (by omega), HWR.out]
                simp [ba_assoc]
            have q1 : ∀ W, (Op.stringOp .add U nm).run Tryd.prog W = .ok (.string (U ++ nm)) W := fun W => add_ok U nm (by omega) W
            have hs3 : (U ++ nm).size ≤ 7000 := by rw [ByteArray.size_append]; omega
            have q2 : ∀ W, (Op.stringOp .add (U ++ nm) ⟨#[61]⟩).run Tryd.prog W = .ok (.string (U ++ nm ++ ⟨#[61]⟩)) W := fun W => add_ok _ _ (by omega) W
            have hs4 : (U ++ nm ++ (⟨#[61]⟩ : ByteArray)).size ≤ 7001 := by rw [ByteArray.size_append]; omega
            have q3 : ∀ W, (Op.stringOp .add (U ++ nm ++ ⟨#[61]⟩) T).run Tryd.prog W = .ok (.string (U ++ nm ++ ⟨#[61]⟩ ++ T)) W := fun W => add_ok _ T (by omega) W
            have q0 : S.size + (⟨#[44, 32]⟩ : ByteArray).size ≤ 9223372036854775807 := by omega
            have q0' : ∀ W, (Op.stringOp .add S ⟨#[44, 32]⟩).run Tryd.prog W = .ok (.string (S ++ ⟨#[44, 32]⟩)) W := fun W => add_ok S _ q0 W
            by_cases h0 : k = 0
            · rw [if_pos h0] at hU
              subst hU
              subst h0
              rw [Nat.zero_mul, Nat.add_zero] at g0 g1
              go_wp2_with fail
              refine wp_region_quiet_below (by kernel_rfl) (by kernel_rfl) ?_
              iterate 16 (go_big_quiet_step ((go_at_call 28; exact cT.out _ _)))
              refine wpQuiet_nil ?_
              intro _ hw'
              obtain ⟨⟨ds, oss⟩, hw''⟩ := hw'
              subst hw''
              have b4 := HB2.out.trans ((below_regrown wr ds oss).mono HB2.out.size)
              generalize grow (redrawn wr ds) oss = w6 at *
              go_wp2
              go_roundw
              case rel => exact ⟨1, by omega, by rw [HU.out], by simp, b4⟩
              case measure => simp [RowKit.intOf]; omega
            · rw [if_neg h0] at hU
              subst hU
              have hk0 : ((0 : Int) < (k : Int)) := by omega
              clear h0
              go_wp2_with fail
              refine wp_region_quiet_below (by kernel_rfl) (by kernel_rfl) ?_
              iterate 16 (go_big_quiet_step ((go_at_call 28; exact cT.out _ _)))
              refine wpQuiet_nil ?_
              intro _ hw'
              obtain ⟨⟨ds, oss⟩, hw''⟩ := hw'
              subst hw''
              have b4 := HB2.out.trans ((below_regrown wr ds oss).mono HB2.out.size)
              generalize grow (redrawn wr ds) oss = w6 at *
              go_wp2
              go_roundw
              case rel => exact ⟨k + 1, by omega, by rw [HU.out], by simp, b4⟩
              case measure => simp [RowKit.intOf]; omega
          · obtain rfl : k = l.length := by omega
            have HB2 : Hid (Below wo.heap.size wo wr) := hB2
            have HTT : Hid (txB (l.take l.length) = txB l) := by show _ = _; rw [List.take_length]
            rw [HTT.out]
            go_wp2
            go_ret2
            exact txP_ok (w := w) HE.out (HB.out.trans (HB2.out.mono HB.out.size))
end Go.Proofs.YtpdohdmpjaklgaaDoor
