/-
  ArithBack, walked.
-/
import Derived.Test.YteoomihembloaaaDoorArBkP
import Derived.Test.YteoomihembloaaaDoorArAwk
import Derived.Laws.Cover4
set_option linter.unusedSimpArgs false
set_option linter.unusedVariables false
namespace Go.Proofs.YteoomihembloaaaDoor
open Go.RowKit Go.Lib

/-- The three noughts, as the law's text holds them. -/
def zs3 : ByteArray := ⟨#[48, 217, 160, 239, 188, 144]⟩
theorem zs3_step (pos : Nat) (h : pos = 0 ∨ pos = 1 ∨ pos = 3) : ∃ z v : Nat, Utf8.decode zs3 pos = (z, v) ∧ isZ (z : Int) ∧ (pos + v = 1 ∨ pos + v = 3 ∨ pos + v = 6) ∧ 1 ≤ v := by
  rcases h with rfl | rfl | rfl
  · exact ⟨48, 1, by decide, .inl rfl, by omega, by omega⟩
  · exact ⟨1632, 2, by decide, .inr (.inl rfl), by omega, by omega⟩
  · exact ⟨65296, 3, by decide, .inr (.inr rfl), by omega, by omega⟩
theorem txt_rep (z : Int) (i : Nat) : txt z (List.replicate (i + 1) 0) = txt z (List.replicate i 0) ++ Utf8.encode z := by
  have e : List.replicate (i + 1) 0 = List.replicate i 0 ++ [0] := by rw [List.replicate_succ']
  rw [e, txt_append]
  simp only [txt]
  rw [app_nil]
  simp
theorem txt_snoc (z : Int) (ds : List Nat) (d : Nat) : txt z (ds ++ [d]) = txt z ds ++ Utf8.encode (z + (d : Int)) := by
  rw [txt_append]
  simp only [txt]
  rw [app_nil]

theorem rep_D (k u j : Nat) : ∀ d ∈ List.replicate k 0 ++ (dgs u).take j, isD d := by
  intro d hd
  rcases List.mem_append.1 hd with h | h
  · have := List.eq_of_mem_replicate h; subst this; unfold isD; omega
  · exact dgs_D _ d (List.mem_of_mem_take h)
/-- The byte of a digit. -/
theorem dgs_at (u j : Nat) (hj : j < (dgs u).length) (D : ByteArray) (hD : D = tx8 (decDigits u)) : ∃ d : Nat, (dgs u)[j]? = some d ∧ ∀ h : j < D.size, (D[j]'h).toNat = 48 + d := by
  have hl : j < (decDigits u).length := by unfold dgs at hj; rw [List.length_map] at hj; exact hj
  have hm := dec_mem u ((decDigits u)[j]'hl) (List.getElem_mem hl)
  refine ⟨((decDigits u)[j]'hl).toNat - 48, ?_, fun h => ?_⟩
  · unfold dgs
    rw [List.getElem?_map, List.getElem?_eq_getElem hl]
    rfl
  · subst hD
    have e1 : (tx8 (decDigits u))[j]'h = (decDigits u)[j]'hl := rfl
    rw [e1]
    omega

set_option maxRecDepth 100000 in
set_option maxHeartbeats 8000000 in
theorem back.walk (n u : Int) (w : World) (hTT : Tb4 w ∧ Tabs w) (hn : i6 n) (hu0 : 0 ≤ u) (hu1 : u ≤ 255) :
    Calls Tryd.prog 5 #[.int .i64 n, .int .u8 u] w fun e w' => e = .returned (.bool true) ∧ Below w.heap.size w w' := by
  obtain ⟨h4, hT⟩ := hTT
  have HT4 : Hid (∀ W, Below w.heap.size w W → Tb4 W ∧ Tabs W) := fun W h => ⟨h4.below h, hT.below h⟩
  have cw : Hid (∀ W, Tb4 W ∧ Tabs W → Calls Tryd.prog 9 #[] W fun e w' => e = .returned (.bool true) ∧ Below W.heap.size W w') := fun W h => awake_any W h.1.g
  have cR : Hid (∀ X W, Tb4 W ∧ Tabs W → X.size ≤ 5000 → Calls Tryd.prog 12 #[.string X] W fun e w' => e = .returned (.tuple #[.int .i64 (rdA X).1, .int .i64 (rdA X).2]) ∧ Below W.heap.size W w') := fun X W h hX => read_any X W h.2 (by unfold maxLen; omega)
  have cT : Hid (∀ W, Tb4 W ∧ Tabs W → Calls Tryd.prog 14 #[.int .i64 n] W fun e w' => e = .returned (.string (tx8 (itoa n))) ∧ Below W.heap.size W w') := fun W h => text_any n W h.1.p hn
  have hlen : (tx8 (itoa n)).size ≤ 20 := by rw [tx8_size]; exact itoa_len n hn.1 hn.2
  have HT0 : Hid (rdA (tx8 (itoa n)) = (n, 0)) := text_back n hn
  have HBL : Hid (rdA (tx8 (itoa n) ++ ⟨#[32]⟩) = (0, 6)) := blank_bad n hn
  have HPL : Hid (rdA (⟨#[43]⟩ ++ tx8 (itoa n)) = (0, 6)) := plus_bad _ (by omega)
  have HTF := text_form n
  generalize tx8 (itoa n) = T at *
  have hb : Below w.heap.size w w := Below.refl _ _
  clear h4 hT
  have c0 : Hid (∀ W, Tb4 W ∧ Tabs W → Calls Tryd.prog 12 #[.string T] W fun e w' => e = .returned (.tuple #[.int .i64 n, .int .i64 0]) ∧ Below W.heap.size W w') := fun W h => by
    have := cR.out T W h (by omega); rw [HT0.out] at this; exact this
  have cP : Hid (∀ W, Tb4 W ∧ Tabs W → Calls Tryd.prog 12 #[.string (⟨#[43]⟩ ++ T)] W fun e w' => e = .returned (.tuple #[.int .i64 0, .int .i64 6]) ∧ Below W.heap.size W w') := fun W h => by
    have := cR.out (⟨#[43]⟩ ++ T) W h (by rw [ByteArray.size_append]; have : (⟨#[43]⟩ : ByteArray).size = 1 := rfl; omega); rw [HPL.out] at this; exact this
  have cB : Hid (∀ W, Tb4 W ∧ Tabs W → Calls Tryd.prog 12 #[.string (T ++ ⟨#[32]⟩)] W fun e w' => e = .returned (.tuple #[.int .i64 0, .int .i64 6]) ∧ Below W.heap.size W w') := fun W h => by
    have := cR.out (T ++ ⟨#[32]⟩) W h (by rw [ByteArray.size_append]; have : (⟨#[32]⟩ : ByteArray).size = 1 := rfl; omega); rw [HBL.out] at this; exact this
  have hAP : ∀ (W : World), (Op.stringOp .add ⟨#[43]⟩ T).run Tryd.prog W = .ok (.string (⟨#[43]⟩ ++ T)) W := fun W => add_ok _ _ (by have : (⟨#[43]⟩ : ByteArray).size = 1 := rfl; omega) W
  have hAB : ∀ (W : World), (Op.stringOp .add T ⟨#[32]⟩).run Tryd.prog W = .ok (.string (T ++ ⟨#[32]⟩)) W := fun W => add_ok _ _ (by have : (⟨#[32]⟩ : ByteArray).size = 1 := rfl; omega) W
  generalize (⟨#[43]⟩ ++ T : ByteArray) = TP at *
  generalize (T ++ ⟨#[32]⟩ : ByteArray) = TB at *
  clear HBL HPL
  by_cases hneg : n < 0
  · rw [if_pos hneg] at HTF
    have hD : T.extract 1 T.size = txt 48 (dgs n.natAbs) := by
      rw [HTF]; exact app_tail (tx8 [45]) _
    have hT1 : 1 ≤ T.size := by rw [HTF, ByteArray.size_append]; have : (tx8 [45]).size = 1 := rfl; omega
    obtain ⟨D, hDD⟩ : ∃ D, txt 48 (dgs n.natAbs) = D := ⟨_, rfl⟩
    have HDD : Hid (txt 48 (dgs n.natAbs) = D) := hDD
    rw [hDD] at hD
    have HN : Hid (i6 n) := hn
    clear HTF hDD hn
    go_enter Tryd.func5, Tryd.ntmps5
    go_wp2_with (first
      | (go_at_call 9; refine (cw.out _ (HT4.out _ hb)).mono ?_; rintro e w2 ⟨rfl, hc⟩; replace hb := hb.trans (hc.mono hb.size); clear hc)
      | (go_at_call 14; refine (cT.out _ (HT4.out _ hb)).mono ?_; rintro e w2 ⟨rfl, hc⟩; replace hb := hb.trans (hc.mono hb.size); clear hc)
      | (go_at_call 12; refine (c0.out _ (HT4.out _ hb)).mono ?_; rintro e w2 ⟨rfl, hc⟩; replace hb := hb.trans (hc.mono hb.size); clear hc))
    change Code.wp _ _ _ _ (w2.iter zs3 0)
    have HZ6 : zs3.size = 6 := rfl
    have HZS : Hid (∀ pos, pos = 0 ∨ pos = 1 ∨ pos = 3 → ∃ z v : Nat, Utf8.decode zs3 pos = (z, v) ∧ isZ (z : Int) ∧ (pos + v = 1 ∨ pos + v = 3 ∨ pos + v = 6) ∧ 1 ≤ v) := zs3_step
    generalize zs3 = Z at *
    clear cw cT c0
    obtain ⟨w0, hw0⟩ : ∃ w0, w0 = w2 := ⟨_, rfl⟩
    subst hw0
    go_loopw [] (fun wr => ∃ pos : Nat, It w0 Z pos wr ∧ (pos = 0 ∨ pos = 1 ∨ pos = 3 ∨ pos = 6)) (fun wr => 6 - wr.iterPos w0.heap.size)
    case atStart => exact ⟨0, It.start w0 Z, .inl rfl⟩
    case round =>
      obtain ⟨pos, hI, hpos⟩ := hrel
      have hm := hI.pos
      by_cases hp : pos = 6
      · subst hp
        have hnx : ∀ ty, (Instr.next (.pointer (some ⟨w0.heap.size, 0, none⟩)) true ty).run Tryd.prog wr = _ := fun ty => run_next_end_at wr w0.heap.size Z 6 ty hI.at_ (by omega)
        have hbr : Below w.heap.size w wr := hb.trans (hI.below.mono hb.size)
        have hlD : 0 < (dgs n.natAbs).length := List.length_pos_iff.2 (dgs_ne _)
        obtain ⟨d, hd, hbj⟩ := dgs_at n.natAbs 0 hlD D (by rw [dec_txt]; exact HDD.out.symm)
        have hjD : 0 < D.size := by
          rw [← HDD.out, ← dec_txt, tx8_size]; exact List.length_pos_iff.2 (dec_ne _)
        have hD0 : (D[0]'hjD).toNat = 48 + d := hbj hjD
        have hd9 : d ≤ 9 := dgs_D _ d (List.mem_of_getElem? hd)
        have hdn : n = 0 ∨ d ≠ 0 := by
          rcases dgs_first n.natAbs with h | h
          · left; omega
          · right; intro e; apply h; rw [List.head?_eq_getElem?, hd, e]
        clear hbj hd hI hm
        by_cases hn0 : n = 0
        · omega
        · have hn00 : (n == 0) = false := by rw [beq_eq_false_iff_ne]; exact hn0
          have hd0 : d ≠ 0 := hdn.resolve_left hn0
          have hd00 : ((48 + d : Nat) : Int) ≠ 48 := by omega
          clear hdn hn0
          go_wp2_with fail
          go_at_call 12
          refine (cP.out _ (HT4.out _ hbr)).mono ?_
          rintro e w3 ⟨rfl, hc3⟩
          have hb3 := hbr.trans (hc3.mono hbr.size)
          go_wp2_with fail
          go_at_call 12
          refine (cB.out _ (HT4.out _ hb3)).mono ?_
          rintro e w4 ⟨rfl, hc4⟩
          have hb4 := hb3.trans (hc4.mono hb3.size)
          go_wp2_with fail
          go_ret
          exact ⟨ret_bool (by rw [bne_iff_ne]; omega), hb4⟩
      · obtain ⟨z, v, hd, hz, hpv, hv⟩ := HZS.out pos (by omega)
        have hnx : ∀ ty, (Instr.next (.pointer (some ⟨w0.heap.size, 0, none⟩)) true ty).run Tryd.prog wr = _ := fun ty => run_next_any_at wr w0.heap.size Z pos ty hI.at_ (by omega)
        rw [hd] at hnx
        have hI1 := hI.next (pos + v)
        have HZ : Hid (isZ (z : Int)) := hz
        have hz1 : (z : Int) ≤ 65296 := by unfold isZ at hz; omega
        have HPV : Hid ((pos + v = 1 ∨ pos + v = 3 ∨ pos + v = 6) ∧ 1 ≤ v ∧ pos < 6) := ⟨hpv, hv, by omega⟩
        clear hz hd HZS hpv hpos hp hv
        go_wp2_with fail
        generalize wr.iterAt w0.heap.size Z (pos + v) = W1 at *
        go_loop [12, 13] (fun x i => ∃ k : Nat, (k : Int) ≤ u % 30 ∧ i = .int .i64 (k : Int) ∧ x = .string (txt z (List.replicate k 0))) (fun _ i => 31 - iOf i)
        case atStart => exact ⟨0, by omega, rfl, rfl⟩
        case round =>
          obtain ⟨k, hk, rfl, rfl⟩ := hrel
          have hXs : (txt z (List.replicate k 0)).size ≤ 90 := by
            have := (txt_size z HZ.out (List.replicate k 0) (fun d hd => by have := List.eq_of_mem_replicate hd; subst this; unfold isD; omega)).2
            rw [List.length_replicate] at this; omega
          have hE := encode_size_le (z : Int)
          by_cases hkk : (k : Int) < u % 30
          · have HX : Hid (txt z (List.replicate (k + 1) 0) = txt z (List.replicate k 0) ++ Utf8.encode z) := txt_rep z k
            generalize txt z (List.replicate k 0) = X at *
            go_wp2_with fail
            exact ⟨⟨k + 1, by omega, by simp, by rw [HX.out]⟩, by simp only [iOf]; omega⟩
          · clear hXs hE
            obtain ⟨L, hL⟩ : ∃ L, (dgs n.natAbs).length = L := ⟨_, rfl⟩
            have HL : Hid ((dgs n.natAbs).length = L) := hL
            have hDs : D.size = L := by
              rw [← HDD.out, ← dec_txt, tx8_size, ← hL]; unfold dgs; rw [List.length_map]
            have hL20 : L ≤ 20 := by rw [← hDs]; rw [← hD, tail_size]; omega
            clear hL
            go_wp2_with fail
            go_loop [12, 14] (fun x i => ∃ j : Nat, j ≤ L ∧ i = .int .i64 (j : Int) ∧ x = .string (txt z (List.replicate k 0 ++ (dgs n.natAbs).take j))) (fun _ i => L + 1 - iOf i)
            case atStart => exact ⟨0, by omega, rfl, by simp⟩
            case round =>
              obtain ⟨j, hj, rfl, rfl⟩ := hrel
              have hXs : (txt z (List.replicate k 0 ++ (dgs n.natAbs).take j)).size ≤ 200 := by
                have := (txt_size z HZ.out (List.replicate k 0 ++ (dgs n.natAbs).take j) (rep_D k _ j)).2
                rw [List.length_append, List.length_replicate, List.length_take, HL.out] at this
                omega
              by_cases hjl : j < L
              · obtain ⟨d, hd, hbj⟩ := dgs_at n.natAbs j (by rw [HL.out]; exact hjl) D (by rw [dec_txt]; exact HDD.out.symm)
                have hjD : j < D.size := by omega
                have hbj' : (D[j]'hjD).toNat = 48 + d := hbj hjD
                have hd9 : d ≤ 9 := dgs_D _ d (List.mem_of_getElem? hd)
                have HX : Hid (txt z (List.replicate k 0 ++ (dgs n.natAbs).take (j + 1)) = txt z (List.replicate k 0 ++ (dgs n.natAbs).take j) ++ Utf8.encode (z + (d : Int))) := by
                  show _ = _
                  rw [← txt_snoc, List.append_assoc, List.take_succ_eq_append_getElem (by rw [HL.out]; exact hjl)]
                  have e2 : (dgs n.natAbs)[j]'(by rw [HL.out]; exact hjl) = d := (List.getElem?_eq_some_iff.1 hd).2
                  rw [e2]
                generalize txt z (List.replicate k 0 ++ (dgs n.natAbs).take j) = X at *
                have hAdd : ∀ (r : Int) (W : World), (Op.stringOp .add X (Utf8.encode r)).run Tryd.prog W = .ok (.string (X ++ Utf8.encode r)) W := fun r W => add_ok _ _ (by have := encode_size_le r; omega) W
                clear hbj hd
                go_wp2_with fail
                refine ⟨⟨j + 1, by omega, by simp, ?_⟩, by simp only [iOf]; omega⟩
                rw [HX.out]
                congr 3
                first | omega | (simp only [RowKit.wrap32]; omega)
              · obtain rfl : j = L := by omega
                have hRB := read_back n HN.out z HZ.out k (by omega) ⟨#[226, 136, 146]⟩ (.inr rfl)
                rw [if_pos hneg] at hRB
                have eT : (dgs n.natAbs).take j = dgs n.natAbs := List.take_of_length_le (by rw [HL.out]; exact Nat.le_refl _)
                rw [eT] at hXs ⊢
                generalize txt z (List.replicate k 0 ++ dgs n.natAbs) = X at *
                have hAdd : ∀ (W : World), (Op.stringOp .add ⟨#[226, 136, 146]⟩ X).run Tryd.prog W = .ok (.string (⟨#[226, 136, 146]⟩ ++ X)) W := fun W => add_ok _ _ (by have : (⟨#[226, 136, 146]⟩ : ByteArray).size = 3 := rfl; omega) W
                have hYs : (⟨#[226, 136, 146]⟩ ++ X : ByteArray).size ≤ 5000 := by rw [ByteArray.size_append]; have : (⟨#[226, 136, 146]⟩ : ByteArray).size = 3 := rfl; omega
                generalize (⟨#[226, 136, 146]⟩ ++ X : ByteArray) = Y at *
                have cY : Hid (∀ W, Tb4 W ∧ Tabs W → Calls Tryd.prog 12 #[.string Y] W fun e w' => e = .returned (.tuple #[.int .i64 n, .int .i64 0]) ∧ Below W.heap.size W w') := fun W h => by
                  have := cR.out Y W h hYs; rw [hRB] at this; exact this
                have hTW := HT4.out _ (hb.trans (hI1.below.mono hb.size))
                have HTW : Hid (Tb4 W1 ∧ Tabs W1) := hTW
                clear hRB eT hYs hTW
                go_wp2_with (go_at_call 12; refine (cY.out _ HTW.out).mono ?_; rintro e w3 ⟨rfl, hc⟩)
                have hJ := hI1.call hc
                have hm2 := hJ.pos
                obtain ⟨p1, p2, p3⟩ := HPV.out
                exact ⟨⟨pos + v, hJ, by omega⟩, by rw [hm, hm2]; omega⟩
  · rw [if_neg hneg] at HTF
    have HDD : Hid (txt 48 (dgs n.natAbs) = T) := HTF.symm
    have HN : Hid (i6 n) := hn
    clear HTF hn
    go_enter Tryd.func5, Tryd.ntmps5
    go_wp2_with (first
      | (go_at_call 9; refine (cw.out _ (HT4.out _ hb)).mono ?_; rintro e w2 ⟨rfl, hc⟩; replace hb := hb.trans (hc.mono hb.size); clear hc)
      | (go_at_call 14; refine (cT.out _ (HT4.out _ hb)).mono ?_; rintro e w2 ⟨rfl, hc⟩; replace hb := hb.trans (hc.mono hb.size); clear hc)
      | (go_at_call 12; refine (c0.out _ (HT4.out _ hb)).mono ?_; rintro e w2 ⟨rfl, hc⟩; replace hb := hb.trans (hc.mono hb.size); clear hc))
    change Code.wp _ _ _ _ (w2.iter zs3 0)
    have HZ6 : zs3.size = 6 := rfl
    have HZS : Hid (∀ pos, pos = 0 ∨ pos = 1 ∨ pos = 3 → ∃ z v : Nat, Utf8.decode zs3 pos = (z, v) ∧ isZ (z : Int) ∧ (pos + v = 1 ∨ pos + v = 3 ∨ pos + v = 6) ∧ 1 ≤ v) := zs3_step
    generalize zs3 = Z at *
    clear cw cT c0
    obtain ⟨w0, hw0⟩ : ∃ w0, w0 = w2 := ⟨_, rfl⟩
    subst hw0
    go_loopw [] (fun wr => ∃ pos : Nat, It w0 Z pos wr ∧ (pos = 0 ∨ pos = 1 ∨ pos = 3 ∨ pos = 6)) (fun wr => 6 - wr.iterPos w0.heap.size)
    case atStart => exact ⟨0, It.start w0 Z, .inl rfl⟩
    case round =>
      obtain ⟨pos, hI, hpos⟩ := hrel
      have hm := hI.pos
      by_cases hp : pos = 6
      · subst hp
        have hnx : ∀ ty, (Instr.next (.pointer (some ⟨w0.heap.size, 0, none⟩)) true ty).run Tryd.prog wr = _ := fun ty => run_next_end_at wr w0.heap.size Z 6 ty hI.at_ (by omega)
        have hbr : Below w.heap.size w wr := hb.trans (hI.below.mono hb.size)
        have hlD : 0 < (dgs n.natAbs).length := List.length_pos_iff.2 (dgs_ne _)
        obtain ⟨d, hd, hbj⟩ := dgs_at n.natAbs 0 hlD T (by rw [dec_txt]; exact HDD.out.symm)
        have hjD : 0 < T.size := by
          rw [← HDD.out, ← dec_txt, tx8_size]; exact List.length_pos_iff.2 (dec_ne _)
        have hD0 : (T[0]'hjD).toNat = 48 + d := hbj hjD
        have hd9 : d ≤ 9 := dgs_D _ d (List.mem_of_getElem? hd)
        have hdn : n = 0 ∨ d ≠ 0 := by
          rcases dgs_first n.natAbs with h | h
          · left; omega
          · right; intro e; apply h; rw [List.head?_eq_getElem?, hd, e]
        clear hbj hd hI hm
        by_cases hn0 : n = 0
        · subst hn0
          go_wp2_with fail
          go_at_call 12
          refine (cP.out _ (HT4.out _ hbr)).mono ?_
          rintro e w3 ⟨rfl, hc3⟩
          have hb3 := hbr.trans (hc3.mono hbr.size)
          go_wp2_with fail
          go_at_call 12
          refine (cB.out _ (HT4.out _ hb3)).mono ?_
          rintro e w4 ⟨rfl, hc4⟩
          have hb4 := hb3.trans (hc4.mono hb3.size)
          go_wp2_with fail
          go_ret
          exact ⟨rfl, hb4⟩
        · have hn00 : (n == 0) = false := by rw [beq_eq_false_iff_ne]; exact hn0
          have hd0 : d ≠ 0 := hdn.resolve_left hn0
          have hd00 : ((48 + d : Nat) : Int) ≠ 48 := by omega
          clear hdn hn0
          go_wp2_with fail
          go_at_call 12
          refine (cP.out _ (HT4.out _ hbr)).mono ?_
          rintro e w3 ⟨rfl, hc3⟩
          have hb3 := hbr.trans (hc3.mono hbr.size)
          go_wp2_with fail
          go_at_call 12
          refine (cB.out _ (HT4.out _ hb3)).mono ?_
          rintro e w4 ⟨rfl, hc4⟩
          have hb4 := hb3.trans (hc4.mono hb3.size)
          go_wp2_with fail
          go_ret
          exact ⟨ret_bool (by rw [bne_iff_ne]; omega), hb4⟩
      · obtain ⟨z, v, hd, hz, hpv, hv⟩ := HZS.out pos (by omega)
        have hnx : ∀ ty, (Instr.next (.pointer (some ⟨w0.heap.size, 0, none⟩)) true ty).run Tryd.prog wr = _ := fun ty => run_next_any_at wr w0.heap.size Z pos ty hI.at_ (by omega)
        rw [hd] at hnx
        have hI1 := hI.next (pos + v)
        have HZ : Hid (isZ (z : Int)) := hz
        have hz1 : (z : Int) ≤ 65296 := by unfold isZ at hz; omega
        have HPV : Hid ((pos + v = 1 ∨ pos + v = 3 ∨ pos + v = 6) ∧ 1 ≤ v ∧ pos < 6) := ⟨hpv, hv, by omega⟩
        clear hz hd HZS hpv hpos hp hv
        go_wp2_with fail
        generalize wr.iterAt w0.heap.size Z (pos + v) = W1 at *
        go_loop [12, 13] (fun x i => ∃ k : Nat, (k : Int) ≤ u % 30 ∧ i = .int .i64 (k : Int) ∧ x = .string (txt z (List.replicate k 0))) (fun _ i => 31 - iOf i)
        case atStart => exact ⟨0, by omega, rfl, rfl⟩
        case round =>
          obtain ⟨k, hk, rfl, rfl⟩ := hrel
          have hXs : (txt z (List.replicate k 0)).size ≤ 90 := by
            have := (txt_size z HZ.out (List.replicate k 0) (fun d hd => by have := List.eq_of_mem_replicate hd; subst this; unfold isD; omega)).2
            rw [List.length_replicate] at this; omega
          have hE := encode_size_le (z : Int)
          by_cases hkk : (k : Int) < u % 30
          · have HX : Hid (txt z (List.replicate (k + 1) 0) = txt z (List.replicate k 0) ++ Utf8.encode z) := txt_rep z k
            generalize txt z (List.replicate k 0) = X at *
            go_wp2_with fail
            exact ⟨⟨k + 1, by omega, by simp, by rw [HX.out]⟩, by simp only [iOf]; omega⟩
          · clear hXs hE
            obtain ⟨L, hL⟩ : ∃ L, (dgs n.natAbs).length = L := ⟨_, rfl⟩
            have HL : Hid ((dgs n.natAbs).length = L) := hL
            have hDs : T.size = L := by
              rw [← HDD.out, ← dec_txt, tx8_size, ← hL]; unfold dgs; rw [List.length_map]
            have hL20 : L ≤ 20 := by rw [← hDs]; exact hlen
            clear hL
            go_wp2_with fail
            go_loop [12, 14] (fun x i => ∃ j : Nat, j ≤ L ∧ i = .int .i64 (j : Int) ∧ x = .string (txt z (List.replicate k 0 ++ (dgs n.natAbs).take j))) (fun _ i => L + 1 - iOf i)
            case atStart => exact ⟨0, by omega, rfl, by simp⟩
            case round =>
              obtain ⟨j, hj, rfl, rfl⟩ := hrel
              have hXs : (txt z (List.replicate k 0 ++ (dgs n.natAbs).take j)).size ≤ 200 := by
                have := (txt_size z HZ.out (List.replicate k 0 ++ (dgs n.natAbs).take j) (rep_D k _ j)).2
                rw [List.length_append, List.length_replicate, List.length_take, HL.out] at this
                omega
              by_cases hjl : j < L
              · obtain ⟨d, hd, hbj⟩ := dgs_at n.natAbs j (by rw [HL.out]; exact hjl) T (by rw [dec_txt]; exact HDD.out.symm)
                have hjD : j < T.size := by omega
                have hbj' : (T[j]'hjD).toNat = 48 + d := hbj hjD
                have hd9 : d ≤ 9 := dgs_D _ d (List.mem_of_getElem? hd)
                have HX : Hid (txt z (List.replicate k 0 ++ (dgs n.natAbs).take (j + 1)) = txt z (List.replicate k 0 ++ (dgs n.natAbs).take j) ++ Utf8.encode (z + (d : Int))) := by
                  show _ = _
                  rw [← txt_snoc, List.append_assoc, List.take_succ_eq_append_getElem (by rw [HL.out]; exact hjl)]
                  have e2 : (dgs n.natAbs)[j]'(by rw [HL.out]; exact hjl) = d := (List.getElem?_eq_some_iff.1 hd).2
                  rw [e2]
                generalize txt z (List.replicate k 0 ++ (dgs n.natAbs).take j) = X at *
                have hAdd : ∀ (r : Int) (W : World), (Op.stringOp .add X (Utf8.encode r)).run Tryd.prog W = .ok (.string (X ++ Utf8.encode r)) W := fun r W => add_ok _ _ (by have := encode_size_le r; omega) W
                clear hbj hd
                go_wp2_with fail
                refine ⟨⟨j + 1, by omega, by simp, ?_⟩, by simp only [iOf]; omega⟩
                rw [HX.out]
                congr 3
                first | omega | (simp only [RowKit.wrap32]; omega)
              · obtain rfl : j = L := by omega
                have hRB := read_back n HN.out z HZ.out k (by omega) ⟨#[226, 136, 146]⟩ (.inr rfl)
                rw [if_neg (by omega)] at hRB
                have eT : (dgs n.natAbs).take j = dgs n.natAbs := List.take_of_length_le (by rw [HL.out]; exact Nat.le_refl _)
                rw [eT] at hXs ⊢
                generalize txt z (List.replicate k 0 ++ dgs n.natAbs) = X at *
                have hYs : X.size ≤ 5000 := by omega
                have cY : Hid (∀ W, Tb4 W ∧ Tabs W → Calls Tryd.prog 12 #[.string X] W fun e w' => e = .returned (.tuple #[.int .i64 n, .int .i64 0]) ∧ Below W.heap.size W w') := fun W h => by
                  have := cR.out X W h hYs; rw [hRB] at this; exact this
                have hTW := HT4.out _ (hb.trans (hI1.below.mono hb.size))
                have HTW : Hid (Tb4 W1 ∧ Tabs W1) := hTW
                clear hRB eT hYs hTW
                go_wp2_with (go_at_call 12; refine (cY.out _ HTW.out).mono ?_; rintro e w3 ⟨rfl, hc⟩)
                have hJ := hI1.call hc
                have hm2 := hJ.pos
                obtain ⟨p1, p2, p3⟩ := HPV.out
                exact ⟨⟨pos + v, hJ, by omega⟩, by rw [hm, hm2]; omega⟩
end Go.Proofs.YteoomihembloaaaDoor
