/-
  ExRefW, ExRdW, ApFar.
-/
import Derived.Test.YtlbmijcpalfaeaaGreatDoorP05
import Derived.Test.YtlbmijcpalfaeaaGreatDoorP06
set_option linter.unusedSimpArgs false
set_option linter.unusedVariables false
namespace Go.Proofs.YtlbmijcpalfaeaaGreatDoor
open Go.RowKit Go.Lib

theorem below_drewN' {B : Nat} {w w' : World} (h : Below B w w') (n : Nat) : Below B w (w'.drewN n) := ⟨h.os, h.tape, h.output, h.size, h.block⟩

theorem arit_spec (op : Int) : (aritI op = 0 ∧ (op = 1 ∨ op = 2)) ∨ (aritI op = 1 ∧ (op = 3 ∨ op = 4)) ∨ (aritI op = 2 ∧ 5 ≤ op ∧ op ≤ 16) ∨ (aritI op = 3 ∧ op = 17) ∨ (aritI op = -1 ∧ (op < 1 ∨ 17 < op)) := by
  unfold aritI
  by_cases h1 : op = 1 ∨ op = 2
  · simp [h1]
  by_cases h2 : op = 3 ∨ op = 4
  · simp [h1, h2]
  by_cases h3 : 5 ≤ op ∧ op ≤ 16
  · simp [h1, h2, h3]
  by_cases h4 : op = 17
  · simp [h4]
  · simp [h1, h2, h3, h4]; omega

set_option maxHeartbeats 400000 in
theorem refArity_any (op : Int) (w : World) :
    Calls Tryz.prog 36 #[.int .i64 op] w fun e w' => e = .returned (.int .i64 (aritI op)) ∧ w' = w := by
  have HS : Hid (_) := arit_spec op
  generalize aritI op = r at *
  go_enter Tryz.func36, Tryz.ntmps36
  go_wp2
  all_goals
    go_ret
    have hs := HS.out
    simp only [beq_iff_eq, beq_eq_false_iff_ne, ne_eq] at *
    exact ⟨ret_int (by omega), trivial⟩

set_option maxHeartbeats 1000000 in
theorem form_any (op n : Int) (nm : ByteArray) (ka : Option Addr) (kl kc : Nat) (w : World) (hs : nm.size ≤ maxLen) (hkl : kl ≤ maxLen) :
    Calls Tryz.prog 24 #[.agg #[.int .i64 op, .int .i64 n, .string nm, .slice ka kl kc]] w fun e w' => e = .returned (.bool (fitB op n nm kl)) ∧ Below w.heap.size w w' := by
  have ca : Hid (∀ W, Calls Tryz.prog 36 #[.int .i64 op] W fun e w' => e = .returned (.int .i64 (aritI op)) ∧ w' = W) := refArity_any op
  have HF : Hid (fitB op n nm kl = (decide (0 ≤ aritI op) && decide ((kl : Int) = aritI op) && (decide (n = 0) || decide (op = 1)) && (if op = 2 then nameB nm else nm.toList.isEmpty))) := rfl
  generalize aritI op = r at *
  generalize fitB op n nm kl = q at *
  unfold maxLen at hkl
  by_cases h1 : r < 0
  · have hq : Hid (q = false) := by show q = false; rw [HF.out]; have : ¬ 0 ≤ r := by omega
                                    simp [this]
    clear HF
    go_enter Tryz.func24, Tryz.ntmps24
    go_wp2_with fail
    go_quiet ((go_at_call 36; exact Calls.quiet_of_same (ca.out _)))
    go_wp2
    go_ret
    exact ⟨ret_bool hq.out.symm, below_drewN' ((Below.refl _ _).alloc (Nat.le_refl _) _) _⟩
  · have hr : decide (r < 0) = false := by simpa using h1
    by_cases h2 : r = (kl : Int)
    · subst h2
      have hne : ((kl : Int) != (kl : Int)) = false := by simp
      by_cases h3 : op = 1
      · subst h3
        have hq : Hid (q = nm.toList.isEmpty) := by show q = _; rw [HF.out]; simp
        clear HF
        go_enter Tryz.func24, Tryz.ntmps24
        go_wp2_with fail
        go_quiet ((go_at_call 36; exact Calls.quiet_of_same (ca.out _)))
        go_wp2
        go_ret
        exact ⟨ret_bool hq.out.symm, below_drewN' ((Below.refl _ _).alloc (Nat.le_refl _) _) _⟩
      · have h3' : (op != 1) = true := by simpa using h3
        by_cases h4 : n = 0
        · subst h4
          by_cases h5 : op = 2
          · subst h5
            have hq : Hid (q = nameB nm) := by show q = _; rw [HF.out]; simp
            clear HF
            go_enter Tryz.func24, Tryz.ntmps24
            go_wp2_with fail
            go_quiet ((go_at_call 36; exact Calls.quiet_of_same (ca.out _)))
            go_wp2_with (go_at_call 37; refine (refName_any nm _ hs).mono ?_; rintro e w2 ⟨rfl, hb2⟩)
            go_ret
            exact ⟨ret_bool hq.out.symm, (below_drewN' ((Below.refl _ _).alloc (Nat.le_refl _) _) _).trans (hb2.mono (by simp))⟩
          · have h5' : (op == 2) = false := by simpa using h5
            have hq : Hid (q = nm.toList.isEmpty) := by show q = _; rw [HF.out]; simp [h5]
            clear HF
            go_enter Tryz.func24, Tryz.ntmps24
            go_wp2_with fail
            go_quiet ((go_at_call 36; exact Calls.quiet_of_same (ca.out _)))
            go_wp2
            go_ret
            exact ⟨ret_bool hq.out.symm, below_drewN' ((Below.refl _ _).alloc (Nat.le_refl _) _) _⟩
        · have h4' : (n != 0) = true := by simpa using h4
          have hq : Hid (q = false) := by show q = _; rw [HF.out]; simp [h3, h4]
          clear HF
          go_enter Tryz.func24, Tryz.ntmps24
          go_wp2_with fail
          go_quiet ((go_at_call 36; exact Calls.quiet_of_same (ca.out _)))
          go_wp2
          go_ret
          exact ⟨ret_bool hq.out.symm, below_drewN' ((Below.refl _ _).alloc (Nat.le_refl _) _) _⟩
    · have h2' : (r != (kl : Int)) = true := by simpa using h2
      have hq : Hid (q = false) := by show q = _; rw [HF.out]; have : ¬ (kl : Int) = r := fun h => h2 h.symm
                                      simp [this]
      clear HF
      go_enter Tryz.func24, Tryz.ntmps24
      go_wp2_with fail
      go_quiet ((go_at_call 36; exact Calls.quiet_of_same (ca.out _)))
      go_wp2
      go_ret
      exact ⟨ret_bool hq.out.symm, below_drewN' ((Below.refl _ _).alloc (Nat.le_refl _) _) _⟩

/-- What walk answers. -/
def stI (l : List Nd) (i : Nat) : Int := match (sts l).getD i none with
  | some a => (a : Int) - 1
  | none => -2
theorem stI_some {l : List Nd} {i a : Nat} (h : (sts l).getD i none = some a) : stI l i = (a : Int) - 1 := by unfold stI; rw [h]
theorem stI_none {l : List Nd} {i : Nat} (h : (sts l).getD i none = none) : stI l i = -2 := by unfold stI; rw [h]

set_option maxHeartbeats 400000 in
theorem walk_neg (vs : Value) (at_ : Int) (w : World) (h : at_ < 0) :
    Calls Tryz.prog 25 #[vs, .int .i64 at_] w fun e w' => e = .returned (.int .i64 (-2)) ∧ w' = w := by
  go_enter Tryz.func25, Tryz.ntmps25
  go_wp2_with fail
  go_ret
  exact ⟨rfl, rfl⟩

set_option maxHeartbeats 1000000 in
theorem walk_any (vs : Value) (l : List Nd) (w : World) (B : Nat) (hN : Nodes w B vs l) : ∀ (i : Nat), i < l.length →
    Calls Tryz.prog 25 #[vs, .int .i64 i] w fun e w' => e = .returned (.int .i64 (stI l i)) ∧ w' = w := by
  intro i
  induction i using Nat.strongRecOn with
  | ind i IH =>
    intro hi
    obtain ⟨ao, cap0, rfl, hl, hm, hc⟩ := hN
    unfold maxLen at hm
    obtain ⟨b, o, rfl, hbl, hc'⟩ : ∃ b o, ao = some ⟨b, o, none⟩ ∧ b < B ∧ ∀ i, i < l.length → ∃ kv, NodeAt w B b (o + i * 4) (l.getD i nd0) kv := by
      rcases hc with h | h
      · subst h; simp at hi
      · exact h
    clear hc
    obtain ⟨kv, c0, c1, c2, c3, hki⟩ := hc' i hi
    clear hc' c0 c1 c2
    have hst := sts_at l i hi
    generalize (l.getD i nd0).kids = kids at *
    obtain ⟨ka, kc, rfl, hkl, ⟨hkm, _⟩, hkc⟩ := hki
    unfold maxLen at hkm
    have HKC : Hid (kids = [] ∨ ∃ b o, ka = some ⟨b, o, none⟩ ∧ b < B ∧ ∀ j, j < kids.length → w.cell? ⟨b, o + j, none⟩ = some (.int .i64 (kids.getD j 0))) := hkc
    clear hkc
    have HST : Hid ((sts l).getD i none = chainO (sts l) kids.reverse i) := hst
    clear hst
    have HIH : Hid (∀ j, j < i → j < l.length → Calls Tryz.prog 25 #[.slice (some ⟨b, o, none⟩) l.length cap0, .int .i64 j] w fun e w' => e = .returned (.int .i64 (stI l j)) ∧ w' = w) := IH
    clear IH
    have HLO : Hid (LowO (sts l)) := sts_low l
    have HSN : Hid ((sts l).getD i none = none → stI l i = -2) := stI_none
    have HSS : Hid (∀ a, (sts l).getD i none = some a → stI l i = (a : Int) - 1) := fun a => stI_some
    generalize hR : stI l i = R at *
    clear hR
    go_enter Tryz.func25, Tryz.ntmps25
    go_wp2_with fail
    go_loop [5, 7] (fun nx q => ∃ (c m : Nat) (y z : Int), nx = .int .i64 y ∧ q = .int .i64 z ∧ Hid (y = (c : Int) - 1) ∧ Hid (z = (m : Int) - 1) ∧ c ≤ i ∧ m ≤ kids.length ∧ Hid (chainO (sts l) (kids.take m).reverse c = (sts l).getD i none)) (fun _ q => (RowKit.intOf q + 1).toNat)
    case atStart => exact ⟨i, kids.length, _, _, rfl, rfl, rfl, rfl, Nat.le_refl _, Nat.le_refl _, by rw [List.take_length]; exact HST.out.symm⟩
    case round =>
      obtain ⟨c, m, y, z, rfl, rfl, hy, hz, hci, hmk, hch⟩ := hrel
      cases m with
      | zero =>
        have hz1 : z = -1 := by have := hz.out; omega
        subst hz1
        have hR : Hid (R = y) := by
          show R = y
          rw [HSS.out c (by rw [← hch.out]; simp [chainO]), hy.out]
        go_wp2_with fail
        go_ret
        exact ⟨ret_int hR.out.symm, rfl⟩
      | succ m =>
        have hz1 : z = (m : Int) := by have := hz.out; omega
        subst hz1
        have hmlt : m < kids.length := by omega
        obtain ⟨kb, ko, rfl, hkb, hkc⟩ : ∃ b o, ka = some ⟨b, o, none⟩ ∧ b < B ∧ ∀ j, j < kids.length → w.cell? ⟨b, o + j, none⟩ = some (.int .i64 (kids.getD j 0)) := by
          rcases HKC.out with h | h
          · subst h; simp at hmlt
          · exact h
        have hcm := hkc m hmlt
        clear hkc HKC
        have hch2 : chainO (sts l) (kids.take (m + 1)).reverse c = if c = 0 ∨ kids.getD m 0 ≠ (c : Int) - 1 then none else ((sts l).getD (c - 1) none).bind fun b => chainO (sts l) (kids.take m).reverse b := by
          rw [List.take_succ_eq_append_getElem hmlt, List.reverse_append]
          simp [chainO, hmlt]
        generalize kids.getD m 0 = x at *
        have HCH : Hid ((sts l).getD i none = if c = 0 ∨ x ≠ (c : Int) - 1 then none else ((sts l).getD (c - 1) none).bind fun b => chainO (sts l) (kids.take m).reverse b) := by show (sts l).getD i none = _; rw [← hch.out, hch2]
        clear hch hch2 hz HST
        by_cases hxy : x = y
        · subst hxy
          by_cases hc0 : c = 0
          · have hR : Hid (R = -2) := HSN.out (by rw [HCH.out, if_pos (.inl hc0)])
            have hx1 : x < 0 := by have := hy.out; omega
            go_wp2_with (go_at_call 25; refine (walk_neg _ _ _ hx1).mono ?_; rintro e w' ⟨rfl, rfl⟩)
            go_ret
            exact ⟨ret_int hR.out.symm, rfl⟩
          · obtain ⟨c, rfl⟩ : ∃ d, c = d + 1 := ⟨c - 1, by omega⟩
            have hx1 : x = (c : Int) := by have := hy.out; omega
            subst hx1
            have hih := HIH.out c (by omega) (by omega)
            have HIC : Hid (Calls Tryz.prog 25 #[.slice (some ⟨b, o, none⟩) l.length cap0, .int .i64 c] w fun e w' => e = .returned (.int .i64 (stI l c)) ∧ w' = w) := hih
            clear hih
            rw [if_neg (by omega), Nat.add_sub_cancel] at HCH
            cases hs : (sts l).getD c none with
            | none =>
              rw [hs] at HCH
              rw [stI_none hs] at HIC
              have hR : Hid (R = -2) := HSN.out (by rw [HCH.out]; rfl)
              clear hs
              go_wp2_with fail
              refine HIC.out.mono ?_
              rintro e w' ⟨rfl, rfl⟩
              go_wp2_with fail
              go_ret
              exact ⟨ret_int hR.out.symm, rfl⟩
            | some a =>
              rw [hs] at HCH
              rw [stI_some hs] at HIC
              have hac := HLO.out _ _ hs
              clear hs
              have hne : (((a : Int) - 1) == -2) = false := by rw [beq_eq_false_iff_ne]; omega
              go_wp2_with fail
              refine HIC.out.mono ?_
              rintro e w' ⟨rfl, rfl⟩
              go_wp2_with fail
              refine ⟨⟨a, m, _, _, rfl, rfl, rfl, rfl, by omega, by omega, ?_⟩, by simp [RowKit.intOf]⟩
              exact HCH.out.symm
        · have hR : Hid (R = -2) := HSN.out (by
            rw [HCH.out, if_pos (.inr (fun h => hxy (h.trans hy.out.symm)))])
          have hne : (x != y) = true := by simpa using hxy
          go_wp2_with fail
          go_ret
          exact ⟨ret_int hR.out.symm, rfl⟩

/-- Errno of a look at soundness. -/
def chkE (l : List Nd) : Int := if sndB l = true then 0 else 1
theorem chkE_no {l : List Nd} (h : sndB l = false) : chkE l = 1 := by unfold chkE; rw [h]; rfl
theorem chkE_yes {l : List Nd} (h : sndB l = true) : chkE l = 0 := by unfold chkE; rw [h]; rfl
theorem snd_no {l : List Nd} (h : ¬ (0 < l.length ∧ l.length ≤ 64 ∧ (∀ x ∈ l, formB x = true) ∧ (sts l).getD (l.length - 1) none = some 0)) : sndB l = false := by
  cases hs : sndB l
  · rfl
  · exact absurd ((snd_iff l).1 hs) h

set_option maxHeartbeats 1000000 in
theorem refCheck_any (vs : Value) (l : List Nd) (w : World) (B : Nat) (hBw : B ≤ w.heap.size) (hN : Nodes w B vs l) (hnm : ∀ x ∈ l, x.name.size ≤ maxLen) :
    Calls Tryz.prog 14 #[vs] w fun e w' => e = .returned (.int .i64 (chkE l)) ∧ Below w.heap.size w w' := by
  have hN0 := hN
  obtain ⟨ao, cap0, rfl, hl, hm, hc⟩ := hN
  unfold maxLen at hm
  by_cases h0 : l.length = 0
  · have hb : Hid (chkE l = 1) := chkE_no (snd_no (by omega))
    generalize chkE l = r at *
    have hz : l = [] := List.length_eq_zero_iff.1 h0
    subst hz
    clear hN0
    go_enter Tryz.func14, Tryz.ntmps14
    go_wp2_with fail
    go_ret
    exact ⟨ret_int hb.out.symm, Below.refl _ _⟩
  by_cases h64 : 64 < l.length
  · have hb : Hid (chkE l = 1) := chkE_no (snd_no (by omega))
    generalize chkE l = r at *
    have g1 : ((l.length : Int) == 0) = false := by rw [beq_eq_false_iff_ne]; omega
    have g2 : (64 : Int) < (l.length : Int) := by omega
    clear hN0
    go_enter Tryz.func14, Tryz.ntmps14
    go_wp2_with fail
    go_ret
    exact ⟨ret_int hb.out.symm, Below.refl _ _⟩
  obtain ⟨b, o, rfl, hbl, hc'⟩ : ∃ b o, ao = some ⟨b, o, none⟩ ∧ b < B ∧ ∀ i, i < l.length → ∃ kv, NodeAt w B b (o + i * 4) (l.getD i nd0) kv := by
    rcases hc with h | h
    · subst h; simp at h0
    · exact h
  have HC : Hid (∀ i, i < l.length → ∃ kv, NodeAt w B b (o + i * 4) (l.getD i nd0) kv) := hc'
  clear hc hc'
  have HN0 : Hid (Nodes w B (.slice (some ⟨b, o, none⟩) l.length cap0) l) := hN0
  clear hN0
  have HNM : Hid (∀ x ∈ l, x.name.size ≤ maxLen) := hnm
  clear hnm
  have g1 : ((l.length : Int) == 0) = false := by rw [beq_eq_false_iff_ne]; omega
  have g2 : ¬ (64 : Int) < (l.length : Int) := by omega
  go_enter Tryz.func14, Tryz.ntmps14
  go_wp2_with fail
  go_loopw [3] (fun i wr => ∃ k : Nat, k ≤ l.length ∧ i = .int .i64 k ∧ Hid (∀ x ∈ l.take k, formB x = true) ∧ Below w.heap.size w wr) (fun i _ => l.length - (RowKit.intOf i).toNat)
  case atStart => exact ⟨0, by omega, rfl, by intro x hx; simp at hx, Below.refl _ _⟩
  case round =>
    obtain ⟨k, hk, rfl, hall, hB⟩ := hrel
    have hsz := hB.size
    by_cases hlt : k < l.length
    · obtain ⟨kv, hNA⟩ := HC.out k hlt
      have hNA := hNA.below (hB.mono hBw) (Nat.le_refl _) hbl
      have hxm : l.getD k nd0 ∈ l := by simp [hlt]
      have hns := HNM.out _ hxm
      have HS : Hid (formB (l.getD k nd0) = false → chkE l = 1) := fun h => chkE_no (snd_no (fun hh => by rw [hh.2.2.1 _ hxm] at h; cases h))
      have HS2 : Hid (l.take (k + 1) = l.take k ++ [l.getD k nd0]) := by show l.take (k + 1) = _; rw [List.take_succ_eq_append_getElem hlt]; simp [hlt]
      clear hxm
      generalize l.getD k nd0 = x at *
      obtain ⟨op, n, nm, kids⟩ := x
      obtain ⟨c0, c1, c2, c3, hki⟩ := hNA
      simp only at c0 c1 c2 c3 hki hns
      obtain ⟨ka, kc, rfl, hkl, ⟨hkm, _⟩, _⟩ := hki
      have hkl2 : kids.length ≤ maxLen := by omega
      unfold maxLen at hkm
      have cF : Hid (∀ W, Calls Tryz.prog 24 #[.agg #[.int .i64 op, .int .i64 n, .string nm, .slice ka kids.length kc]] W fun e w' => e = .returned (.bool (formB ⟨op, n, nm, kids⟩)) ∧ Below W.heap.size W w') := fun W => form_any op n nm ka kids.length kc W hns hkl2
      generalize hfb : formB ⟨op, n, nm, kids⟩ = q at *
      cases q with
      | false =>
        have hv : Hid (chkE l = 1) := HS.out rfl
        clear HS hfb
        go_wp2_with (go_at_call 24; refine (cF.out _).mono ?_; rintro e w2 ⟨rfl, hb2⟩)
        go_ret
        exact ⟨ret_int hv.out.symm, hB.trans (hb2.mono hsz)⟩
      | true =>
        have HFB : Hid (formB ⟨op, n, nm, kids⟩ = true) := hfb
        clear HS hfb
        go_wp2_with (go_at_call 24; refine (cF.out _).mono ?_; rintro e w2 ⟨rfl, hb2⟩)
        refine ⟨⟨k + 1, by omega, by go_num, ?_, hB.trans (hb2.mono hsz)⟩, by simp [RowKit.intOf]; omega⟩
        intro y hy
        rw [HS2.out] at hy
        rcases List.mem_append.1 hy with hy | hy
        · exact hall.out y hy
        · simp at hy; subst hy; exact HFB.out
    · have hke : k = l.length := by omega
      subst hke
      have hall2 : ∀ x ∈ l, formB x = true := by have := hall.out; rw [List.take_length] at this; exact this
      obtain ⟨N, hN⟩ : ∃ N, l.length = N + 1 := ⟨l.length - 1, by omega⟩
      have cW := walk_any _ l wr B (HN0.out.below (hB.mono hBw) (Nat.le_refl _)) N (by omega)
      have HW : Hid (Calls Tryz.prog 25 #[.slice (some ⟨b, o, none⟩) l.length cap0, .int .i64 N] wr fun e w' => e = .returned (.int .i64 (stI l N)) ∧ w' = wr) := cW
      clear cW
      have hN1 : l.length - 1 = N := by omega
      have HNN : Hid (l.length = N + 1) := hN
      have hidx : (l.length : Int) - 1 = (N : Int) := by omega
      by_cases hs : (sts l).getD N none = some 0
      · have hv : Hid (chkE l = 0) := chkE_yes ((snd_iff l).2 ⟨by omega, by omega, hall2, by rw [hN1]; exact hs⟩)
        rw [stI_some hs] at HW
        clear hs hall hall2 hN hN1
        go_wp2_with fail
        refine HW.out.mono ?_
        rintro e w2 ⟨rfl, rfl⟩
        go_wp2_with fail
        go_ret
        exact ⟨ret_int hv.out.symm, hB⟩
      · have hv : Hid (chkE l = 1) := chkE_no (snd_no (fun hh => hs (by rw [← hN1]; exact hh.2.2.2)))
        have hne : (stI l N != -1) = true := by
          rw [bne_iff_ne]
          cases h : (sts l).getD N none with
          | none => rw [stI_none h]; decide
          | some a =>
            rw [stI_some h]
            intro h2
            apply hs
            rw [h]
            have : a = 0 := by omega
            rw [this]
        generalize stI l N = y at *
        clear hs hall hall2 hN hN1
        go_wp2_with fail
        refine HW.out.mono ?_
        rintro e w2 ⟨rfl, rfl⟩
        go_wp2_with fail
        go_ret
        exact ⟨ret_int hv.out.symm, hB⟩
end Go.Proofs.YtlbmijcpalfaeaaGreatDoor

set_option linter.unusedSimpArgs false
set_option linter.unusedVariables false
namespace Go.Proofs.YtlbmijcpalfaeaaGreatDoor
open Go.RowKit Go.Lib

/-- Within the reach. -/
structure Fit (l : List Nd) : Prop where
  len : l.length * 56 ≤ 140737488355328
  kids : ∀ x ∈ l, x.kids.length * 8 ≤ 140737488355328
  name : ∀ x ∈ l, x.name.size ≤ maxLen

/-- The slice reads as l, anywhere in memory. -/
def Rd (w : World) (ao : Option Addr) (cap : Nat) (l : List Nd) : Prop := Nodes w w.heap.size (.slice ao l.length cap) l
theorem Rd.below {w w' : World} {ao : Option Addr} {cap : Nat} {l : List Nd} (h : Rd w ao cap l) (hb : Below w.heap.size w w') (hs : w.heap.size ≤ w'.heap.size) : Rd w' ao cap l := Nodes.below h hb hs
theorem Rd_of_own {w : World} {base : Nat} {v : Value} {l : List Nd} (h : OwnN w base v l) : ∃ ao cap, v = .slice ao l.length cap ∧ Rd w ao cap l := by
  have hN := Nodes_of_own h (Nat.le_refl _)
  obtain ⟨ao, cap, rfl, _⟩ := id hN
  exact ⟨ao, cap, rfl, hN⟩
theorem Rd.bound {w : World} {ao : Option Addr} {cap : Nat} {l : List Nd} (h : Rd w ao cap l) : l.length ≤ cap ∧ cap ≤ maxLen := by
  obtain ⟨ao', cap', h1, h2, h3, _⟩ := h
  cases h1; exact ⟨h2, h3⟩

theorem copyR {w : World} {ao : Option Addr} {cap : Nat} {l : List Nd} (h : Rd w ao cap l) (hF : Fit l) :
    Calls Tryz.prog 6 #[.slice ao l.length cap] w fun e w' => ∃ ao' cap', e = .returned (.slice ao' l.length cap') ∧ Rd w' ao' cap' l ∧ Below w.heap.size w w' := by
  refine (copy_any _ l w _ (Nat.le_refl _) h hF.len hF.kids).mono ?_
  rintro e w' ⟨v', rfl, hO, hb⟩
  obtain ⟨ao', cap', rfl, hR⟩ := Rd_of_own hO
  exact ⟨ao', cap', rfl, hR, hb⟩
theorem rchkR {w : World} {ao : Option Addr} {cap : Nat} {l : List Nd} (h : Rd w ao cap l) (hF : Fit l) (r : Int) (hr : chkE l = r) :
    Calls Tryz.prog 14 #[.slice ao l.length cap] w fun e w' => e = .returned (.int .i64 r) ∧ Below w.heap.size w w' := by
  rw [← hr]; exact refCheck_any _ l w _ (Nat.le_refl _) h hF.name
end Go.Proofs.YtlbmijcpalfaeaaGreatDoor

set_option linter.unusedSimpArgs false
set_option linter.unusedVariables false
namespace Go.Proofs.YtlbmijcpalfaeaaGreatDoor
open Go.RowKit

section
variable {P : Program} (w : World)

theorem run_append_far (t ty : TypeId) (base : Nat) (e : TypeId) (i : TypeInfo) (z : Value) (size bytes : Nat) (ht : P.underlying t = some (.slice e)) (hi : P.info? e = some i) (hz : i.zero = some z)
    (hsize : i.size = size) (hby : i.bytes = bytes) (hzs : z.cells.size = size) (hsz : 0 < size)
    (v : Value) (n : Nat) (xs : List Value) (hown : w.ownsRow base e size v n xs)
    (ad : Addr) (m c : Nat) (news : List Value) (hl : news.length = m * size) (hnews : ∀ j u, news[j]? = some u → w.cell? (ad.add j) = some u) (h1 : ∀ u ∈ news, u.oneCell' = true)
    (hm : 0 < m) (h63 : n + m ≤ maxLen) (hbytes : (n + m) * bytes ≤ 140737488355328) (hbase : base ≤ w.heap.size) (H : Nat) (hH : w.heap.size = H) :
    ∃ g cap w', (Builtin.append_ #[t, t] ty #[v, .slice (some ad) m c]).run P w = .ok (.slice (some ⟨g, 0, none⟩) (n + m) cap) w' ∧
      w'.ownsRow base e size (.slice (some ⟨g, 0, none⟩) (n + m) cap) (n + m) (xs ++ news) ∧ w.grownBy w' v.ownBlock ∧ ((v.ownBlock = some g) ∨ (g = H ∧ w.grownBy w' none)) ∧ g < w'.heap.size := by
  obtain ⟨g, cap, w', hr, h2, h3, h4, h5⟩ := run_append_lies (P := P) w t ty base e i z size bytes ht hi hz hsize hby hzs hsz v n xs hown ad m c news hl hnews h1 hm h63 hbytes hbase H hH
  refine ⟨g, cap, w', hr, h2, h3, ?_, h5⟩
  have hsmall : n + m ≤ 9223372036854775807 := by simp only [maxLen] at h63; omega
  rcases hown.2 with ⟨rfl, rfl⟩ | ⟨g0, cap0, cur, rfl, hbg, hg, hnc, hcm, hcs, htake⟩
  · rcases h4 with h4 | h4
    · cases h4
    · exact .inr ⟨h4, h3⟩
  · subst hsize
    subst hby
    by_cases hroom : n + m ≤ cap0
    · have hfit : n * i.size + news.length ≤ cur.size := by rw [hl, hcs, ← Nat.add_mul]; exact Nat.mul_le_mul_right _ hroom
      have hr2 := run_append_room (P := P) w t ty e i ht hi g0 n cap0 cur hg ad m c news hl hnews h1 hroom hfit
      rw [hr] at hr2
      simp only [Result.ok.injEq, Value.slice.injEq, Option.some.injEq, Addr.mk.injEq, true_and, and_true] at hr2
      exact .inl (by rw [hr2.1.1]; rfl)
    · have holds : ∀ j u, xs[j]? = some u → w.cell? ((⟨g0, 0, none⟩ : Addr).add j) = some u := hown.cells (g := g0) rfl
      have hr2 := run_append_grow (P := P) w t ty e i z ht hi hz ⟨g0, 0, none⟩ n cap0 xs hown.1 holds ad m c news hl hnews (by omega) (by omega) (growslice_fits (by omega) hbytes)
      rw [hr] at hr2
      simp only [Result.ok.injEq, Value.slice.injEq, Option.some.injEq, Addr.mk.injEq, true_and, and_true] at hr2
      refine .inr ⟨by omega, ?_⟩
      rw [hr2.2]
      exact ⟨rfl, rfl, rfl, by simp, fun k hk _ => Deep.blk_alloc_lt w.drew _ _ hk⟩

end
end Go.Proofs.YtlbmijcpalfaeaaGreatDoor
