/-
  ExRMkW, JnCt.
-/
import Derived.Test.YtaennaoakopgfaaDoorMExJoiW
import Derived.Test.YtaennaoakopgfaaDoorMGJn
import Derived.Test.YtaennaoakopgfaaDoorMGSh
set_option linter.unusedSimpArgs false
set_option linter.unusedVariables false
namespace Go.Proofs.YtaennaoakopgfaaDoor
open Go.RowKit Go.Lib

theorem snd_kids0 {l : List Nd} {fr : List Nat} (h : begL l = some fr) : ∀ x ∈ l, x.kids.length * 8 ≤ 140737488351232 ∧ ∀ k ∈ x.kids, 0 ≤ k ∧ k ≤ 9000 := by
  intro x hx
  obtain ⟨h1, h2⟩ := snd_bounds h
  refine ⟨by have := h2 x hx; omega, fun k hk => ?_⟩
  have := begR_kids (begL_some h).2.2.1 low_nil x hx k hk
  simp at this
  omega

set_option maxHeartbeats 4000000 in
theorem refMake_any (op n : Int) (nm : ByteArray) (vs : Value) (ps : List (List Nd)) (w : World) (B : Nat) (hBw : B ≤ w.heap.size) (hN : Lst w B vs ps) (hlen : ps.length * 24 ≤ 140737488355328) (hF : ∀ l ∈ ps, Fit l) (hnm : nm.size ≤ maxLen) :
    Calls Tryd.prog 31 #[.int .i64 op, .int .i64 n, .string nm, vs] w fun e w' => MakePost w op n nm ps e w' := by
  have HN : Hid (Lst w B vs ps) := hN
  obtain ⟨ao, cap0, rfl, hl, hm, hc⟩ := hN
  unfold maxLen at hm
  have HC : Hid (ps = [] ∨ ∃ b o, ao = some ⟨b, o, none⟩ ∧ b < B ∧ ∀ i, i < ps.length → ∃ pv, w.cell? ⟨b, o + i, none⟩ = some pv ∧ Nodes w B pv (ps.getD i [])) := hc
  clear hc
  have HFF : Hid (∀ l ∈ ps, Fit l) := hF
  have HNM : Hid (nm.size ≤ maxLen) := hnm
  clear hF hnm
  go_enter Tryd.func31, Tryd.ntmps31
  go_wp2_with fail
  go_loopw [10, 11] (fun s i wr => ∃ (k tot : Nat), k ≤ ps.length ∧ i = .int .i64 k ∧ s = .int .i64 (1 + (tot : Int)) ∧ Hid ((accS (ps.take k)).1.length = tot) ∧ tot ≤ 64 * k ∧ Hid (∀ l ∈ ps.take k, sndB l = true) ∧ Below w.heap.size w wr) (fun _ i _ => ps.length - (RowKit.intOf i).toNat)
  case atStart => exact ⟨0, 0, by omega, rfl, rfl, rfl, by omega, by intro l hl; simp at hl, Below.refl _ _⟩
  case round =>
    obtain ⟨k, tot, hk, rfl, rfl, htot, htk, hall, hB⟩ := hrel
    have hsz := hB.size
    by_cases hlt : k < ps.length
    · obtain ⟨b, o, rfl, hbl, hc⟩ : ∃ b o, ao = some ⟨b, o, none⟩ ∧ b < B ∧ ∀ i, i < ps.length → ∃ pv, w.cell? ⟨b, o + i, none⟩ = some pv ∧ Nodes w B pv (ps.getD i []) := by
        rcases HC.out with h | h
        · subst h; simp at hlt
        · exact h
      obtain ⟨pv, hpc, hpn⟩ := hc k hlt
      clear hc HC
      have hpc : wr.cell? ⟨b, o + k, none⟩ = some pv := (hB.cell (p := ⟨b, o + k, none⟩) (by show b < w.heap.size; omega)).trans hpc
      have hpn := hpn.below (hB.mono hBw) (Nat.le_refl _)
      have HMEM : Hid (ps.getD k [] ∈ ps) := by show ps.getD k [] ∈ ps; simp [hlt]
      have HS : Hid (ps.take (k + 1) = ps.take k ++ [ps.getD k []]) := by show ps.take (k + 1) = _; rw [List.take_succ_eq_append_getElem hlt]; simp [hlt]
      have HT2 : Hid ((accS (ps.take (k + 1))).1.length = tot + (ps.getD k []).length) := by
        show (accS (ps.take (k + 1))).1.length = _
        rw [HS.out, accS_snoc]; simp [htot.out]
      have hFk := (HFF.out _ HMEM.out).name
      generalize ps.getD k [] = l at *
      obtain ⟨pa, pc, rfl, hpn'⟩ := id hpn
      clear hpn'
      have cC : Hid (Calls Tryd.prog 12 #[.slice pa l.length pc] wr fun e w' => e = .returned (.int .i64 (chkE l)) ∧ Below wr.heap.size wr w') := refCheck_any _ l wr B (by omega) hpn hFk
      cases hs : sndB l with
      | false =>
        have HS0 : Hid (sndB l = false) := hs
        rw [chkE_no hs] at cC
        clear hs
        go_wp2_with fail
        refine cC.out.mono ?_
        rintro e w2 ⟨rfl, hb2⟩
        go_wp2_with fail
        go_ret2
        exact ⟨hB.trans (hb2.mono hsz), .inl ⟨⟨l, HMEM.out, HS0.out⟩, rfl⟩⟩
      | true =>
        have HS0 : Hid (sndB l = true) := hs
        rw [chkE_yes hs] at cC
        obtain ⟨fr, hfr⟩ := snd_some hs
        have hl64 := (snd_bounds hfr).1
        clear hs hfr
        go_wp2_with fail
        refine cC.out.mono ?_
        rintro e w2 ⟨rfl, hb2⟩
        have hpc2 : w2.cell? ⟨b, o + k, none⟩ = some (.slice pa l.length pc) := (hb2.cell (p := ⟨b, o + k, none⟩) (by show b < wr.heap.size; omega)).trans hpc
        clear hpc hpn cC
        go_wp2_with fail
        refine ⟨⟨k + 1, tot + l.length, by omega, by go_num, by go_num, HT2.out, by omega, ?_, hB.trans (hb2.mono hsz)⟩, by simp [RowKit.intOf]; omega⟩
        intro l' hl'
        rw [HS.out] at hl'
        rcases List.mem_append.1 hl' with h | h
        · exact hall.out l' h
        · simp at h; subst h; exact HS0.out
    · have hke : k = ps.length := by omega
      subst hke
      have hall2 : ∀ l ∈ ps, sndB l = true := by have := hall.out; rw [List.take_length] at this; exact this
      have HALL : Hid (∀ l ∈ ps, sndB l = true) := hall2
      have htot2 : (accS ps).1.length = tot := by have := htot.out; rw [List.take_length] at this; exact this
      have HTOT : Hid ((accS ps).1.length = tot) := htot2
      clear hall hall2 htot htot2
      have hmk := run_make_row' (P := Tryd.prog) 59 3 (.int .i64 0) 8 Tryd.underlying59 Tryd.info3 rfl .i64 .i64 ps.length (by omega) (by omega)
      have hkl2 : ps.length ≤ maxLen := by unfold maxLen; omega
      have cF : Hid (∀ W ka, Calls Tryd.prog 36 #[.agg #[.int .i64 op, .int .i64 n, .string nm, .slice ka ps.length ps.length]] W fun e w' => e = .returned (.bool (fitB op n nm ps.length)) ∧ Below W.heap.size W w') := fun W ka => form_any op n nm ka ps.length ps.length W HNM.out hkl2
      clear hkl2
      cases hf : fitB op n nm ps.length with
      | false =>
        have HF : Hid (fitB op n nm ps.length = false) := hf
        rw [hf] at cF
        clear hf
        go_wp2_with (go_at_call 36; refine (cF.out _ _).mono ?_; rintro e w2 ⟨rfl, hb2⟩)
        go_ret2
        refine ⟨?_, .inr (.inl ⟨HALL.out, HF.out, rfl⟩)⟩
        exact ((hB.alloc hsz _).alloc (by simp; omega) _).trans (hb2.mono (by simp; omega))
      | true =>
        have HF : Hid (fitB op n nm ps.length = true) := hf
        have hp3 : ps.length ≤ 3 := by
          unfold fitB at hf
          simp only [Bool.and_eq_true, decide_eq_true_eq] at hf
          have := aritI_le op
          omega
        rw [hf] at cF
        clear hf
        have HPS : Hid (∀ l ∈ ps, l.length ≤ 1000 ∧ ∀ x ∈ l, x.kids.length * 8 ≤ 140737488351232 ∧ ∀ k ∈ x.kids, 0 ≤ k ∧ k ≤ 9000) := fun l hl => by
          obtain ⟨fr, hfr⟩ := snd_some (HALL.out l hl)
          exact ⟨by have := (snd_bounds hfr).1; omega, snd_kids0 hfr⟩
        by_cases hlg : 64 < 1 + tot
        · have hlg2 : (64 : Int) < 1 + (tot : Int) := by omega
          go_wp2_with (go_at_call 36; refine (cF.out _ _).mono ?_; rintro e w2 ⟨rfl, hb2⟩)
          go_ret2
          refine ⟨?_, .inr (.inr (.inl ⟨HALL.out, HF.out, by rw [HTOT.out]; exact hlg, rfl⟩))⟩
          exact ((hB.alloc hsz _).alloc (by simp; omega) _).trans (hb2.mono (by simp; omega))
        · have hlg2 : ¬ (64 : Int) < 1 + (tot : Int) := by omega
          go_wp2_with fail
          refine (cF.out _ _).mono ?_
          rintro e w2 ⟨rfl, hb2⟩
          have hB2 : Below w.heap.size w w2 := ((hB.alloc hsz _).alloc (by simp; omega) _).trans (hb2.mono (by simp; omega))
          have hz2 : wr.heap.size + 2 ≤ w2.heap.size := by have := hb2.size; simp at this; omega
          have d0 : w2.cell? ⟨wr.heap.size + 1, 0, none⟩ = some (.int .i64 op) := by rw [hb2.cell (p := ⟨wr.heap.size + 1, 0, none⟩) (by simp)]; simp
          have d1 : w2.cell? ⟨wr.heap.size + 1, 1, none⟩ = some (.int .i64 n) := by rw [hb2.cell (p := ⟨wr.heap.size + 1, 1, none⟩) (by simp)]; simp
          have d2 : w2.cell? ⟨wr.heap.size + 1, 2, none⟩ = some (.string nm) := by rw [hb2.cell (p := ⟨wr.heap.size + 1, 2, none⟩) (by simp)]; simp
          have d3 : w2.cell? ⟨wr.heap.size + 1, 3, none⟩ = some (.slice (some ⟨wr.heap.size, 0, none⟩) ps.length ps.length) := by rw [hb2.cell (p := ⟨wr.heap.size + 1, 3, none⟩) (by simp)]; simp
          have hsz2 := hB2.size
          clear hmk cF hb2
          go_wp2_with fail
          refine (joined_any op n nm _ _ _ _ ps _ B (by omega) (HN.out.below (hB2.mono hBw) (Nat.le_refl _)) hp3 (fun l hl => ⟨Nat.le_trans (HPS.out l hl).1 (by omega), (HPS.out l hl).2⟩)).mono ?_
          rintro e w3 ⟨v3, rfl, hO3, hb3⟩
          obtain ⟨va, vn, vc, rfl⟩ := hO3.form
          have HO3 : Hid (OwnN w3 w.heap.size (.slice va vn vc) (joinL op n nm ps)) := OwnN_mono hO3 hsz2
          clear hO3
          go_wp2_with fail
          go_ret2
          exact ⟨hB2.trans (hb3.mono hsz2), .inr (.inr (.inr ⟨HALL.out, HF.out, by rw [HTOT.out]; omega, _, rfl, HO3.out⟩))⟩
end Go.Proofs.YtaennaoakopgfaaDoor

set_option linter.unusedSimpArgs false
set_option linter.unusedVariables false
namespace Go.Proofs.YtaennaoakopgfaaDoor
open Go.RowKit Go.Lib Go.Sort

theorem snd_fit {l : List Nd} (h : sndB l = true) : Fit l := by
  obtain ⟨_, h2, h3, _⟩ := (snd_iff l).1 h
  refine ⟨by omega, fun x hx => ?_, fun x hx => ?_⟩
  · have := formB_kids (h3 x hx); omega
  · have hf := h3 x hx
    unfold formB fitB at hf
    simp only [Bool.and_eq_true] at hf
    have hn := hf.2
    unfold maxLen
    split at hn
    · have := name_size _ hn; omega
    · by_cases hz : x.name.size = 0
      · omega
      · rw [empty_no _ hz] at hn; cases hn
def J3 (W : World) (l : List Nd) (e : Ending) (w' : World) : Prop := ∃ (ao : Option Addr) (cap p : Nat), e = .returned (.tuple #[.slice ao (JL l).length cap, .int .i64 (p : Int), .int .i64 (JE l)]) ∧ Rd w' ao cap (JL l) ∧ Below W.heap.size W w'
def J2 (W : World) (l : List Nd) (e : Ending) (w' : World) : Prop := ∃ (ao : Option Addr) (cap : Nat), e = .returned (.tuple #[.slice ao (JL l).length cap, .int .i64 (JE l)]) ∧ Rd w' ao cap (JL l) ∧ Below W.heap.size W w'
theorem parseJ (W : World) (S : ByteArray) (l : List Nd) (p : Nat) (hT : Tabs W) (hS : S.size ≤ 4096) (h : psRead S false 64 = if 64 < l.length then .bad p 10 else .ok l) :
    Calls Tryd.prog 24 #[.string S] W fun e w' => J3 W l e w' := by
  refine (parseT W S (by unfold maxLen; omega) hT).mono ?_
  rintro e w' ⟨ao, cap, rfl, hr, hb⟩
  obtain ⟨e1, e2⟩ := pl3_if l p
  rw [h] at hr ⊢
  rw [e1] at hr
  refine ⟨ao, cap, (pl3 (if 64 < l.length then .bad p 10 else .ok l)).2.1, ?_, hr, hb⟩
  rw [e1, e2]
theorem makeJ {w w' : World} {e : Ending} {op : Int} {ps : List (List Nd)} {l : List Nd} (h : MakePost w op 0 ⟨#[]⟩ ps e w') (hs : ∀ p ∈ ps, sndB p = true) (hf : fitB op 0 ⟨#[]⟩ ps.length = true) (hl : joinL op 0 ⟨#[]⟩ ps = l) : J2 w l e w' := by
  have hlen : l.length = 1 + (accS ps).1.length := by rw [← hl]; simp [joinL]; omega
  rcases h.ways with ⟨⟨p, h1, h2⟩, _⟩ | ⟨_, h2, _⟩ | ⟨_, _, h3, rfl⟩ | ⟨_, _, h3, v, rfl, hO⟩
  · rw [hs p h1] at h2; cases h2
  · rw [hf] at h2; cases h2
  · have e1 : JL l = [] := by unfold JL; rw [if_pos (by omega)]
    have e2 : JE l = 10 := by unfold JE; rw [if_pos (by omega)]
    refine ⟨none, 0, ?_, ?_, h.below⟩
    · rw [e1, e2]; rfl
    · rw [e1]; exact rd_nil _
  · have e1 : JL l = l := by unfold JL; rw [if_neg (by omega)]
    have e2 : JE l = 0 := by unfold JE; rw [if_neg (by omega)]
    rw [hl] at hO
    obtain ⟨ao, cap, rfl, hR⟩ := Rd_of_own hO
    refine ⟨ao, cap, ?_, ?_, h.below⟩
    · rw [e1, e2]
    · rw [e1]; exact hR
theorem J2.lower {W : World} {ob : Obj} {l : List Nd} {e : Ending} {w' : World} (h : J2 (W.alloc ob) l e w') : J2 W l e w' := by
  obtain ⟨ao, cap, he, hr, hb⟩ := h
  exact ⟨ao, cap, he, hr, ((Below.refl _ _).alloc (Nat.le_refl _) _).trans (hb.mono (by simp))⟩
structure Gd (l : List Nd) : Prop where
  kids : KidsIn l
  snd : sndB l = true
theorem make1 (op : Int) (ho : op = 3 ∨ op = 4) (W : World) {ao : Option Addr} {ac : Nat} {a : List Nd} (ha : Rd W ao ac a) (ga : Gd a) :
    Calls Tryd.prog 31 #[.int .i64 op, .int .i64 0, .string ⟨#[]⟩, .slice (some ⟨W.heap.size, 0, none⟩) 1 1] (W.alloc (.cells #[.slice ao a.length ac] 22)) fun e w' => J2 W (jn1 op a) e w' := by
  refine (refMake_any op 0 ⟨#[]⟩ _ [a] _ (W.heap.size + 1) (by simp) (lst1 _ ha) (by simp) (fun l hl => by rw [List.mem_singleton.1 hl]; exact snd_fit ga.snd) (by show (0 : Nat) ≤ maxLen; unfold maxLen; omega)).mono fun e w' h => ?_
  refine J2.lower (makeJ h (fun p hp => by rw [List.mem_singleton.1 hp]; exact ga.snd) ?_ (join1 op ga.kids.up ga.kids.ne))
  show fitB op 0 ⟨#[]⟩ 1 = true
  rcases ho with rfl | rfl <;> decide +kernel
theorem make2 (W : World) {ao bo : Option Addr} {ac bc : Nat} {a b : List Nd} (ha : Rd W ao ac a) (hb : Rd W bo bc b) (ga : Gd a) (gb : Gd b) :
    Calls Tryd.prog 31 #[.int .i64 7, .int .i64 0, .string ⟨#[]⟩, .slice (some ⟨W.heap.size, 0, none⟩) 2 2] (W.alloc (.cells #[.slice ao a.length ac, .slice bo b.length bc] 22)) fun e w' => J2 W (jn2 7 a b) e w' := by
  have two : ∀ l ∈ [a, b], sndB l = true := fun l hl => by
    rcases List.mem_cons.1 hl with rfl | hl
    · exact ga.snd
    · rw [List.mem_singleton.1 hl]; exact gb.snd
  refine (refMake_any 7 0 ⟨#[]⟩ _ [a, b] _ (W.heap.size + 1) (by simp) (lst2 _ ha hb) (by simp) (fun l hl => snd_fit (two l hl)) (by show (0 : Nat) ≤ maxLen; unfold maxLen; omega)).mono fun e w' h => ?_
  exact J2.lower (makeJ h two (show fitB 7 0 ⟨#[]⟩ 2 = true by decide +kernel) (join2 7 ga.kids.up gb.kids.up ga.kids.ne gb.kids.ne))
theorem make3 (W : World) {ao bo : Option Addr} {ac bc : Nat} {a b : List Nd} (ha : Rd W ao ac a) (hb : Rd W bo bc b) (ga : Gd a) (gb : Gd b) :
    Calls Tryd.prog 31 #[.int .i64 17, .int .i64 0, .string ⟨#[]⟩, .slice (some ⟨W.heap.size, 0, none⟩) 3 3] (W.alloc (.cells #[.slice ao a.length ac, .slice bo b.length bc, .slice ao a.length ac] 22)) fun e w' => J2 W (jn3 17 a b a) e w' := by
  have three : ∀ l ∈ [a, b, a], sndB l = true := fun l hl => by
    rcases List.mem_cons.1 hl with rfl | hl
    · exact ga.snd
    · rcases List.mem_cons.1 hl with rfl | hl
      · exact gb.snd
      · rw [List.mem_singleton.1 hl]; exact ga.snd
  refine (refMake_any 17 0 ⟨#[]⟩ _ [a, b, a] _ (W.heap.size + 1) (by simp) (lst3 _ ha hb ha) (by simp) (fun l hl => snd_fit (three l hl)) (by show (0 : Nat) ≤ maxLen; unfold maxLen; omega)).mono fun e w' h => ?_
  exact J2.lower (makeJ h three (show fitB 17 0 ⟨#[]⟩ 3 = true by decide +kernel) (join3 17 ga.kids.up gb.kids.up ga.kids.up ga.kids.ne gb.kids.ne ga.kids.ne))
theorem opn_le {s : ByteArray} {m : Nat} (h : ∀ p, p ≤ s.size → opn s p ≤ m) (hm : ¬ 99 < m) : ∀ p, p ≤ s.size → opn s p + ((1 : Nat) : Int) ≤ 100 := fun p hp => by have := h p hp; omega
end Go.Proofs.YtaennaoakopgfaaDoor
