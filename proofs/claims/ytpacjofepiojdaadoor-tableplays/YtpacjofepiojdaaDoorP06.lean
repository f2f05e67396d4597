/-
  RefNm, ExRefW, ExRdW.
-/
import Derived.Shelf.Unicode.DecodeSlow
import Derived.Laws.RangeAny
import Derived.Shelf.Small.Bits
import Derived.Shelf.Strconv.Itoa0
import Derived.Shelf.LaysM
import Derived.Shelf.Strconv.Clone
import Derived.Shelf.Unicode.DecodeAny
import Derived.Shelf.Slices.CompactS
import Derived.Ground.SlsfProg
import Derived.Shelf.SlSortCmp.Insertion
import Derived.Shelf.SlSortCmp.SiftDown1
import Derived.Shelf.SlSortCmp.HeapSort1
import Derived.Shelf.SlSortCmp.Insertion1
import Derived.Shelf.SlSortCmp.Median1
import Derived.Shelf.SlSortCmp.Pivot1
import Derived.Shelf.SlSortCmp.ReverseRange1
import Derived.Shelf.SlSortCmp.PartialInsertion1
import Derived.Shelf.SlSortCmp.PartitionEqual1
import Derived.Shelf.SlSortCmp.Partition1
import Derived.Shelf.SlSortCmp.Pdq1
import Derived.Shelf.SlSortCmp.Whole1
import Derived.Test.YtpacjofepiojdaaDoorProg
import Derived.WalkKit
import Derived.Deep.DeepFit
import Derived.Lib.OthersKept
import Derived.Lib.RuneCountTail
import Derived.Deep.AppendLies
import Derived.Deep.OwnRows
import Derived.Laws.AppendOwnNone
import Derived.Deep.QuietTactic
import Derived.BigQuiet
import Derived.Deep.RegionWith
import Derived.Laws.DeepStrings4
import Derived.Test.YtpacjofepiojdaaDoorP01
import Derived.Test.YtpacjofepiojdaaDoorP02
import Derived.Test.YtpacjofepiojdaaDoorP03
import Derived.Test.YtpacjofepiojdaaDoorP04
import Derived.Test.YtpacjofepiojdaaDoorP05
set_option linter.unusedSimpArgs false
set_option linter.unusedVariables false
namespace Go.Proofs.YtpacjofepiojdaaDoor
open Go.RowKit Go.Lib

theorem behind_any (r : Int) (w : World) :
    Calls Tryd.prog 106 #[.int .i32 r] w fun e w' => e = .returned (.bool (onB r)) ∧ Below w.heap.size w w' := by
  have c1 : Hid (∀ W, Calls Tryd.prog 105 #[.int .i32 r] W fun e w' => e = .returned (.int .i64 (kd r)) ∧ Below W.heap.size W w') := fun W => by
    have := refKind_any r W; rw [← kd_eq] at this; exact this
  cases h1 : (kd r == 1)
  · cases h2 : (kd r == 2)
    · go_enter Tryd.func106, Tryd.ntmps106
      go_wp2_with (go_at_call 105; refine (c1.out _).mono ?_; rintro e w' ⟨rfl, hb1⟩)
      go_ret
      exact ⟨ret_bool (by simp [onB, h1, h2]), hb1⟩
    · go_enter Tryd.func106, Tryd.ntmps106
      go_wp2_with (go_at_call 105; refine (c1.out _).mono ?_; rintro e w' ⟨rfl, hb1⟩)
      go_ret
      exact ⟨ret_bool (by simp [onB, h1, h2]), hb1⟩
  · go_enter Tryd.func106, Tryd.ntmps106
    go_wp2_with (go_at_call 105; refine (c1.out _).mono ?_; rintro e w' ⟨rfl, hb1⟩)
    go_ret
    exact ⟨ret_bool (by simp [onB, h1]), hb1⟩

theorem good_of_on (s : ByteArray) (p : Nat) (h : onB (Utf8.decode s p).1 = true) : bad s p = false := by
  cases hb : bad s p
  · rfl
  · rw [bad_eq hb] at h; exact absurd h (by decide)
theorem refKind_kd (r : Int) (w : World) :
    Calls Tryd.prog 105 #[.int .i32 r] w fun e w' => e = .returned (.int .i64 (kd r)) ∧ Below w.heap.size w w' := by
  rw [kd_eq]; exact refKind_any r w

/-! ### Name -/
set_option maxHeartbeats 1000000 in
theorem refName_any (s : ByteArray) (w : World) (hs : s.size ≤ maxLen) :
    Calls Tryd.prog 78 #[.string s] w fun e w' => e = .returned (.bool (nameB s)) ∧ Below w.heap.size w w' := by
  have hs0 := hs
  unfold maxLen at hs
  go_enter Tryd.func78, Tryd.ntmps78
  go_wp2
  go_loopw [3, 4] (fun c p w' => ∃ (q f n : Nat), c = .int .i64 n ∧ p = .int .i64 q ∧ Below w.heap.size w w' ∧ Hid (nmF s f q n = nameB s) ∧ s.size ≤ q + f ∧ q ≤ s.size ∧ n ≤ q) (fun _ p _ => s.size - (RowKit.intOf p).toNat)
  case atStart => exact ⟨0, s.size, 0, rfl, rfl, Below.refl _ _, rfl, by omega, by omega, by omega⟩
  case round =>
    obtain ⟨q, f, n, rfl, rfl, hB, HN, hf, hqS, hn⟩ := hrel
    have z := hB.size
    by_cases hp : q < s.size
    · obtain ⟨f, rfl⟩ : ∃ g, f = g + 1 := ⟨f - 1, by omega⟩
      have hw := width_pos s q hp
      have hw2 := dec_le s q hp
      have c3 : Hid (∀ W, Calls Tryd.prog 104 #[.string s, .int .i64 q] W fun e w' => e = .returned (.int .i32 (rn s q)) ∧ Below W.heap.size W w') := fun W => refRune_any s q W hs0 hqS
      have c4 : Hid (∀ W, Calls Tryd.prog 106 #[.int .i32 (rn s q)] W fun e w' => e = .returned (.bool (onB (Utf8.decode s q).1)) ∧ Below W.heap.size W w') := fun W => by
        rw [← onB_rn s q hp]; exact behind_any _ W
      have c6 : Hid (∀ W, Calls Tryd.prog 105 #[.int .i32 (rn s q)] W fun e w' => e = .returned (.int .i64 (kd (Utf8.decode s q).1)) ∧ Below W.heap.size W w') := fun W => by
        rw [← kd_rn s q hp]; exact refKind_kd _ W
      have c5 : Hid (∀ W, Calls Tryd.prog 107 #[.string s, .int .i64 q] W fun e w' => e = .returned (.int .i64 (wd s q)) ∧ Below W.heap.size W w') := fun W => refWidth_in s q W hp hs0
      have HX : Hid (nmF s (f + 1) q n = nmS (Utf8.decode s q).1 n (nmF s f (q + (Utf8.decode s q).2) (n + 1))) := nmF_step s f q n hp
      have HG : Hid (onB (Utf8.decode s q).1 = true → wd s q = (Utf8.decode s q).2) := fun ho => by simp [wd, good_of_on s q ho]
      generalize rn s q = rr at *
      generalize wd s q = u at *
      generalize (Utf8.decode s q).2 = v at *
      generalize ((Utf8.decode s q).1 : Int) = r at *
      cases ho : onB r
      · rw [ho] at c4
        have hv : Hid (nameB s = false) := by show nameB s = false; rw [← HN.out, HX.out]; simp [nmS, ho]
        clear c5 HG
        by_cases h0 : n = 0
        · subst h0
          generalize kd r = kk at c6
          go_wp2_with (first | (go_at_call 104; refine (c3.out _).mono ?_; rintro e w3 ⟨rfl, hb3⟩) | (go_at_call 105; refine (c6.out _).mono ?_; rintro e w6 ⟨rfl, hb6⟩) | (go_at_call 106; refine (c4.out _).mono ?_; rintro e w4 ⟨rfl, hb4⟩))
          · go_ret
            have z3 := hb3.size
            have z6 := hb6.size
            exact ⟨ret_bool hv.out.symm, ((hB.trans (hb3.mono z)).trans (hb6.mono (by omega))).trans (hb4.mono (by omega))⟩
          · go_ret
            have z3 := hb3.size
            exact ⟨ret_bool hv.out.symm, (hB.trans (hb3.mono z)).trans (hb6.mono (by omega))⟩
        · have hn0 : ((n : Int) == 0) = false := by simp; omega
          go_wp2_with (first | (go_at_call 104; refine (c3.out _).mono ?_; rintro e w3 ⟨rfl, hb3⟩) | (go_at_call 106; refine (c4.out _).mono ?_; rintro e w4 ⟨rfl, hb4⟩))
          go_ret
          have z3 := hb3.size
          exact ⟨ret_bool hv.out.symm, (hB.trans (hb3.mono z)).trans (hb4.mono (by omega))⟩
      · rw [ho] at c4
        rw [HG.out ho] at c5
        by_cases h0 : n = 0
        · subst h0
          by_cases hk : kd r = 1
          · have hx : Hid (nmF s f (q + v) 1 = nameB s) := by show _ = _; rw [← HN.out, HX.out]; simp [nmS, ho, hk]
            rw [hk] at c6
            clear hk
            go_wp2_with (first | (go_at_call 104; refine (c3.out _).mono ?_; rintro e w3 ⟨rfl, hb3⟩) | (go_at_call 105; refine (c6.out _).mono ?_; rintro e w6 ⟨rfl, hb6⟩) | (go_at_call 106; refine (c4.out _).mono ?_; rintro e w4 ⟨rfl, hb4⟩) | (go_at_call 107; refine (c5.out _).mono ?_; rintro e w5 ⟨rfl, hb5⟩))
            have z3 := hb3.size
            have z6 := hb6.size
            have z4 := hb4.size
            exact ⟨⟨q + v, f, 1, rfl, by go_num, (((hB.trans (hb3.mono z)).trans (hb6.mono (by omega))).trans (hb4.mono (by omega))).trans (hb5.mono (by omega)), hx, by omega, by omega, by omega⟩, by simp [RowKit.intOf]; omega⟩
          · have hv : Hid (nameB s = false) := by show nameB s = false; rw [← HN.out, HX.out]; simp [nmS, hk]
            have hne : (kd r != 1) = true := by simpa using hk
            generalize kd r = kk at *
            go_wp2_with (first | (go_at_call 104; refine (c3.out _).mono ?_; rintro e w3 ⟨rfl, hb3⟩) | (go_at_call 105; refine (c6.out _).mono ?_; rintro e w6 ⟨rfl, hb6⟩))
            go_ret
            have z3 := hb3.size
            exact ⟨ret_bool hv.out.symm, (hB.trans (hb3.mono z)).trans (hb6.mono (by omega))⟩
        · have hn0 : ((n : Int) == 0) = false := by simp; omega
          have hx : Hid (nmF s f (q + v) (n + 1) = nameB s) := by show _ = _; rw [← HN.out, HX.out]; simp [nmS, ho, h0]
          go_wp2_with (first | (go_at_call 104; refine (c3.out _).mono ?_; rintro e w3 ⟨rfl, hb3⟩) | (go_at_call 106; refine (c4.out _).mono ?_; rintro e w4 ⟨rfl, hb4⟩) | (go_at_call 107; refine (c5.out _).mono ?_; rintro e w5 ⟨rfl, hb5⟩))
          have z3 := hb3.size
          have z4 := hb4.size
          exact ⟨⟨q + v, f, n + 1, by go_num, by go_num, ((hB.trans (hb3.mono z)).trans (hb4.mono (by omega))).trans (hb5.mono (by omega)), hx, by omega, by omega, by omega⟩, by simp [RowKit.intOf]; omega⟩
    · go_wp2
      all_goals go_ret
      all_goals exact ⟨ret_bool (by rw [← HN.out, nmF_end s f q n hp, Bool.eq_iff_iff]; simp; try omega), hB⟩
end Go.Proofs.YtpacjofepiojdaaDoor

set_option linter.unusedSimpArgs false
set_option linter.unusedVariables false
namespace Go.Proofs.YtpacjofepiojdaaDoor
open Go.RowKit Go.Lib

theorem below_drewN' {B : Nat} {w w' : World} (h : Below B w w') (n : Nat) : Below B w (w'.drewN n) := ⟨h.os, h.tape, h.output, h.size, h.block⟩

theorem arit_spec (op : Int) : (aritI op = 0 ∧ (op = 1 ∨ op = 2)) ∨ (aritI op = 1 ∧ (op = 3 ∨ op = 4)) ∨ (aritI op = 2 ∧ 5 ≤ op ∧ op ≤ 16) ∨ (aritI op = 3 ∧ op = 17) ∨ (aritI op = -1 ∧ (op < 1 ∨ 17 < op)) := by
  unfold aritI
  by_cases h1 : op = 1 ∨ op = 2
  · simp [h1]
  by_cases h2 : op = 3 ∨ op = 4
  · simp [h1, h2]
  by_cases h3 : 5 ≤ op ∧ op ≤ 16
  · simp [h1, h2, h3]
  by_cases h4 : op = 17
  · simp [h4]
  · simp [h1, h2, h3, h4]; omega

set_option maxHeartbeats 400000 in
theorem refArity_any (op : Int) (w : World) :
    Calls Tryd.prog 37 #[.int .i64 op] w fun e w' => e = .returned (.int .i64 (aritI op)) ∧ w' = w := by
  have HS : Hid (_) := arit_spec op
  generalize aritI op = r at *
  go_enter Tryd.func37, Tryd.ntmps37
  go_wp2
  all_goals
    go_ret
    have hs := HS.out
    simp only [beq_iff_eq, beq_eq_false_iff_ne, ne_eq] at *
    exact ⟨ret_int (by omega), trivial⟩

set_option maxHeartbeats 1000000 in
theorem form_any (op n : Int) (nm : ByteArray) (ka : Option Addr) (kl kc : Nat) (w : World) (hs : nm.size ≤ maxLen) (hkl : kl ≤ maxLen) :
    Calls Tryd.prog 41 #[.agg #[.int .i64 op, .int .i64 n, .string nm, .slice ka kl kc]] w fun e w' => e = .returned (.bool (fitB op n nm kl)) ∧ Below w.heap.size w w' := by
  have ca : Hid (∀ W, Calls Tryd.prog 37 #[.int .i64 op] W fun e w' => e = .returned (.int .i64 (aritI op)) ∧ w' = W) := refArity_any op
  have HF : Hid (fitB op n nm kl = (decide (0 ≤ aritI op) && decide ((kl : Int) = aritI op) && (decide (n = 0) || decide (op = 1)) && (if op = 2 then nameB nm else nm.toList.isEmpty))) := rfl
  generalize aritI op = r at *
  generalize fitB op n nm kl = q at *
  unfold maxLen at hkl
  by_cases h1 : r < 0
  · have hq : Hid (q = false) := by show q = false; rw [HF.out]; have : ¬ 0 ≤ r := by omega
                                    simp [this]
    clear HF
    go_enter Tryd.func41, Tryd.ntmps41
    go_wp2_with fail
    go_quiet ((go_at_call 37; exact Calls.quiet_of_same (ca.out _)))
    go_wp2
    go_ret
    exact ⟨ret_bool hq.out.symm, below_drewN' ((Below.refl _ _).alloc (Nat.le_refl _) _) _⟩
  · have hr : decide (r < 0) = false := by simpa using h1
    by_cases h2 : r = (kl : Int)
    · subst h2
      have hne : ((kl : Int) != (kl : Int)) = false := by simp
      by_cases h3 : op = 1
      · subst h3
        have hq : Hid (q = nm.toList.isEmpty) := by show q = _; rw [HF.out]; simp
        clear HF
        go_enter Tryd.func41, Tryd.ntmps41
        go_wp2_with fail
        go_quiet ((go_at_call 37; exact Calls.quiet_of_same (ca.out _)))
        go_wp2
        go_ret
        exact ⟨ret_bool hq.out.symm, below_drewN' ((Below.refl _ _).alloc (Nat.le_refl _) _) _⟩
      · have h3' : (op != 1) = true := by simpa using h3
        by_cases h4 : n = 0
        · subst h4
          by_cases h5 : op = 2
          · subst h5
            have hq : Hid (q = nameB nm) := by show q = _; rw [HF.out]; simp
            clear HF
            go_enter Tryd.func41, Tryd.ntmps41
            go_wp2_with fail
            go_quiet ((go_at_call 37; exact Calls.quiet_of_same (ca.out _)))
            go_wp2_with (go_at_call 78; refine (refName_any nm _ hs).mono ?_; rintro e w2 ⟨rfl, hb2⟩)
            go_ret
            exact ⟨ret_bool hq.out.symm, (below_drewN' ((Below.refl _ _).alloc (Nat.le_refl _) _) _).trans (hb2.mono (by simp))⟩
          · have h5' : (op == 2) = false := by simpa using h5
            have hq : Hid (q = nm.toList.isEmpty) := by show q = _; rw [HF.out]; simp [h5]
            clear HF
            go_enter Tryd.func41, Tryd.ntmps41
            go_wp2_with fail
            go_quiet ((go_at_call 37; exact Calls.quiet_of_same (ca.out _)))
            go_wp2
            go_ret
            exact ⟨ret_bool hq.out.symm, below_drewN' ((Below.refl _ _).alloc (Nat.le_refl _) _) _⟩
        · have h4' : (n != 0) = true := by simpa using h4
          have hq : Hid (q = false) := by show q = _; rw [HF.out]; simp [h3, h4]
          clear HF
          go_enter Tryd.func41, Tryd.ntmps41
          go_wp2_with fail
          go_quiet ((go_at_call 37; exact Calls.quiet_of_same (ca.out _)))
          go_wp2
          go_ret
          exact ⟨ret_bool hq.out.symm, below_drewN' ((Below.refl _ _).alloc (Nat.le_refl _) _) _⟩
    · have h2' : (r != (kl : Int)) = true := by simpa using h2
      have hq : Hid (q = false) := by show q = _; rw [HF.out]; have : ¬ (kl : Int) = r := fun h => h2 h.symm
                                      simp [this]
      clear HF
      go_enter Tryd.func41, Tryd.ntmps41
      go_wp2_with fail
      go_quiet ((go_at_call 37; exact Calls.quiet_of_same (ca.out _)))
      go_wp2
      go_ret
      exact ⟨ret_bool hq.out.symm, below_drewN' ((Below.refl _ _).alloc (Nat.le_refl _) _) _⟩

/-- What walk answers. -/
def stI (l : List Nd) (i : Nat) : Int := match (sts l).getD i none with
  | some a => (a : Int) - 1
  | none => -2
theorem stI_some {l : List Nd} {i a : Nat} (h : (sts l).getD i none = some a) : stI l i = (a : Int) - 1 := by unfold stI; rw [h]
theorem stI_none {l : List Nd} {i : Nat} (h : (sts l).getD i none = none) : stI l i = -2 := by unfold stI; rw [h]

set_option maxHeartbeats 400000 in
theorem walk_neg (vs : Value) (at_ : Int) (w : World) (h : at_ < 0) :
    Calls Tryd.prog 42 #[vs, .int .i64 at_] w fun e w' => e = .returned (.int .i64 (-2)) ∧ w' = w := by
  go_enter Tryd.func42, Tryd.ntmps42
  go_wp2_with fail
  go_ret
  exact ⟨rfl, rfl⟩

set_option maxHeartbeats 1000000 in
theorem walk_any (vs : Value) (l : List Nd) (w : World) (B : Nat) (hN : Nodes w B vs l) : ∀ (i : Nat), i < l.length →
    Calls Tryd.prog 42 #[vs, .int .i64 i] w fun e w' => e = .returned (.int .i64 (stI l i)) ∧ w' = w := by
  intro i
  induction i using Nat.strongRecOn with
  | ind i IH =>
    intro hi
    obtain ⟨ao, cap0, rfl, hl, hm, hc⟩ := hN
    unfold maxLen at hm
    obtain ⟨b, o, rfl, hbl, hc'⟩ : ∃ b o, ao = some ⟨b, o, none⟩ ∧ b < B ∧ ∀ i, i < l.length → ∃ kv, NodeAt w B b (o + i * 4) (l.getD i nd0) kv := by
      rcases hc with h | h
      · subst h; simp at hi
      · exact h
    clear hc
    obtain ⟨kv, c0, c1, c2, c3, hki⟩ := hc' i hi
    clear hc' c0 c1 c2
    have hst := sts_at l i hi
    generalize (l.getD i nd0).kids = kids at *
    obtain ⟨ka, kc, rfl, hkl, ⟨hkm, _⟩, hkc⟩ := hki
    unfold maxLen at hkm
    have HKC : Hid (kids = [] ∨ ∃ b o, ka = some ⟨b, o, none⟩ ∧ b < B ∧ ∀ j, j < kids.length → w.cell? ⟨b, o + j, none⟩ = some (.int .i64 (kids.getD j 0))) := hkc
    clear hkc
    have HST : Hid ((sts l).getD i none = chainO (sts l) kids.reverse i) := hst
    clear hst
    have HIH : Hid (∀ j, j < i → j < l.length → Calls Tryd.prog 42 #[.slice (some ⟨b, o, none⟩) l.length cap0, .int .i64 j] w fun e w' => e = .returned (.int .i64 (stI l j)) ∧ w' = w) := IH
    clear IH
    have HLO : Hid (LowO (sts l)) := sts_low l
    have HSN : Hid ((sts l).getD i none = none → stI l i = -2) := stI_none
    have HSS : Hid (∀ a, (sts l).getD i none = some a → stI l i = (a : Int) - 1) := fun a => stI_some
    generalize hR : stI l i = R at *
    clear hR
    go_enter Tryd.func42, Tryd.ntmps42
    go_wp2_with fail
    go_loop [5, 7] (fun nx q => ∃ (c m : Nat) (y z : Int), nx = .int .i64 y ∧ q = .int .i64 z ∧ Hid (y = (c : Int) - 1) ∧ Hid (z = (m : Int) - 1) ∧ c ≤ i ∧ m ≤ kids.length ∧ Hid (chainO (sts l) (kids.take m).reverse c = (sts l).getD i none)) (fun _ q => (RowKit.intOf q + 1).toNat)
    case atStart => exact ⟨i, kids.length, _, _, rfl, rfl, rfl, rfl, Nat.le_refl _, Nat.le_refl _, by rw [List.take_length]; exact HST.out.symm⟩
    case round =>
      obtain ⟨c, m, y, z, rfl, rfl, hy, hz, hci, hmk, hch⟩ := hrel
      cases m with
      | zero =>
        have hz1 : z = -1 := by have := hz.out; omega
        subst hz1
        have hR : Hid (R = y) := by
          show R = y
          rw [HSS.out c (by rw [← hch.out]; simp [chainO]), hy.out]
        go_wp2_with fail
        go_ret
        exact ⟨ret_int hR.out.symm, rfl⟩
      | succ m =>
        have hz1 : z = (m : Int) := by have := hz.out; omega
        subst hz1
        have hmlt : m < kids.length := by omega
        obtain ⟨kb, ko, rfl, hkb, hkc⟩ : ∃ b o, ka = some ⟨b, o, none⟩ ∧ b < B ∧ ∀ j, j < kids.length → w.cell? ⟨b, o + j, none⟩ = some (.int .i64 (kids.getD j 0)) := by
          rcases HKC.out with h | h
          · subst h; simp at hmlt
          · exact h
        have hcm := hkc m hmlt
        clear hkc HKC
        have hch2 : chainO (sts l) (kids.take (m + 1)).reverse c = if c = 0 ∨ kids.getD m 0 ≠ (c : Int) - 1 then none else ((sts l).getD (c - 1) none).bind fun b => chainO (sts l) (kids.take m).reverse b := by
          rw [List.take_succ_eq_append_getElem hmlt, List.reverse_append]
          simp [chainO, hmlt]
        generalize kids.getD m 0 = x at *
        have HCH : Hid ((sts l).getD i none = if c = 0 ∨ x ≠ (c : Int) - 1 then none else ((sts l).getD (c - 1) none).bind fun b => chainO (sts l) (kids.take m).reverse b) := by show (sts l).getD i none = _; rw [← hch.out, hch2]
        clear hch hch2 hz HST
        by_cases hxy : x = y
        · subst hxy
          by_cases hc0 : c = 0
          · have hR : Hid (R = -2) := HSN.out (by rw [HCH.out, if_pos (.inl hc0)])
            have hx1 : x < 0 := by have := hy.out; omega
            go_wp2_with (go_at_call 42; refine (walk_neg _ _ _ hx1).mono ?_; rintro e w' ⟨rfl, rfl⟩)
            go_ret
            exact ⟨ret_int hR.out.symm, rfl⟩
          · obtain ⟨c, rfl⟩ : ∃ d, c = d + 1 := ⟨c - 1, by omega⟩
            have hx1 : x = (c : Int) := by have := hy.out; omega
            subst hx1
            have hih := HIH.out c (by omega) (by omega)
            have HIC : Hid (Calls Tryd.prog 42 #[.slice (some ⟨b, o, none⟩) l.length cap0, .int .i64 c] w fun e w' => e = .returned (.int .i64 (stI l c)) ∧ w' = w) := hih
            clear hih
            rw [if_neg (by omega), Nat.add_sub_cancel] at HCH
            cases hs : (sts l).getD c none with
            | none =>
              rw [hs] at HCH
              rw [stI_none hs] at HIC
              have hR : Hid (R = -2) := HSN.out (by rw [HCH.out]; rfl)
              clear hs
              go_wp2_with fail
              refine HIC.out.mono ?_
              rintro e w' ⟨rfl, rfl⟩
              go_wp2_with fail
              go_ret
              exact ⟨ret_int hR.out.symm, rfl⟩
            | some a =>
              rw [hs] at HCH
              rw [stI_some hs] at HIC
              have hac := HLO.out _ _ hs
              clear hs
              have hne : (((a : Int) - 1) == -2) = false := by rw [beq_eq_false_iff_ne]; omega
              go_wp2_with fail
              refine HIC.out.mono ?_
              rintro e w' ⟨rfl, rfl⟩
              go_wp2_with fail
              refine ⟨⟨a, m, _, _, rfl, rfl, rfl, rfl, by omega, by omega, ?_⟩, by simp [RowKit.intOf]⟩
              exact HCH.out.symm
        · have hR : Hid (R = -2) := HSN.out (by
            rw [HCH.out, if_pos (.inr (fun h => hxy (h.trans hy.out.symm)))])
          have hne : (x != y) = true := by simpa using hxy
          go_wp2_with fail
          go_ret
          exact ⟨ret_int hR.out.symm, rfl⟩

/-- Errno of a look at soundness. -/
def chkE (l : List Nd) : Int := if sndB l = true then 0 else 1
theorem chkE_no {l : List Nd} (h : sndB l = false) : chkE l = 1 := by unfold chkE; rw [h]; rfl
theorem chkE_yes {l : List Nd} (h : sndB l = true) : chkE l = 0 := by unfold chkE; rw [h]; rfl
theorem snd_no {l : List Nd} (h : ¬ (0 < l.length ∧ l.length ≤ 64 ∧ (∀ x ∈ l, formB x = true) ∧ (sts l).getD (l.length - 1) none = some 0)) : sndB l = false := by
  cases hs : sndB l
  · rfl
  · exact absurd ((snd_iff l).1 hs) h

set_option maxHeartbeats 1000000 in
theorem refCheck_any (vs : Value) (l : List Nd) (w : World) (B : Nat) (hBw : B ≤ w.heap.size) (hN : Nodes w B vs l) (hnm : ∀ x ∈ l, x.name.size ≤ maxLen) :
    Calls Tryd.prog 10 #[vs] w fun e w' => e = .returned (.int .i64 (chkE l)) ∧ Below w.heap.size w w' := by
  have hN0 := hN
  obtain ⟨ao, cap0, rfl, hl, hm, hc⟩ := hN
  unfold maxLen at hm
  by_cases h0 : l.length = 0
  · have hb : Hid (chkE l = 1) := chkE_no (snd_no (by omega))
    generalize chkE l = r at *
    have hz : l = [] := List.length_eq_zero_iff.1 h0
    subst hz
    clear hN0
    go_enter Tryd.func10, Tryd.ntmps10
    go_wp2_with fail
    go_ret
    exact ⟨ret_int hb.out.symm, Below.refl _ _⟩
  by_cases h64 : 64 < l.length
  · have hb : Hid (chkE l = 1) := chkE_no (snd_no (by omega))
    generalize chkE l = r at *
    have g1 : ((l.length : Int) == 0) = false := by rw [beq_eq_false_iff_ne]; omega
    have g2 : (64 : Int) < (l.length : Int) := by omega
    clear hN0
    go_enter Tryd.func10, Tryd.ntmps10
    go_wp2_with fail
    go_ret
    exact ⟨ret_int hb.out.symm, Below.refl _ _⟩
  obtain ⟨b, o, rfl, hbl, hc'⟩ : ∃ b o, ao = some ⟨b, o, none⟩ ∧ b < B ∧ ∀ i, i < l.length → ∃ kv, NodeAt w B b (o + i * 4) (l.getD i nd0) kv := by
    rcases hc with h | h
    · subst h; simp at h0
    · exact h
  have HC : Hid (∀ i, i < l.length → ∃ kv, NodeAt w B b (o + i * 4) (l.getD i nd0) kv) := hc'
  clear hc hc'
  have HN0 : Hid (Nodes w B (.slice (some ⟨b, o, none⟩) l.length cap0) l) := hN0
  clear hN0
  have HNM : Hid (∀ x ∈ l, x.name.size ≤ maxLen) := hnm
  clear hnm
  have g1 : ((l.length : Int) == 0) = false := by rw [beq_eq_false_iff_ne]; omega
  have g2 : ¬ (64 : Int) < (l.length : Int) := by omega
  go_enter Tryd.func10, Tryd.ntmps10
  go_wp2_with fail
  go_loopw [3] (fun i wr => ∃ k : Nat, k ≤ l.length ∧ i = .int .i64 k ∧ Hid (∀ x ∈ l.take k, formB x = true) ∧ Below w.heap.size w wr) (fun i _ => l.length - (RowKit.intOf i).toNat)
  case atStart => exact ⟨0, by omega, rfl, by intro x hx; simp at hx, Below.refl _ _⟩
  case round =>
    obtain ⟨k, hk, rfl, hall, hB⟩ := hrel
    have hsz := hB.size
    by_cases hlt : k < l.length
    · obtain ⟨kv, hNA⟩ := HC.out k hlt
      have hNA := hNA.below (hB.mono hBw) (Nat.le_refl _) hbl
      have hxm : l.getD k nd0 ∈ l := by simp [hlt]
      have hns := HNM.out _ hxm
      have HS : Hid (formB (l.getD k nd0) = false → chkE l = 1) := fun h => chkE_no (snd_no (fun hh => by rw [hh.2.2.1 _ hxm] at h; cases h))
      have HS2 : Hid (l.take (k + 1) = l.take k ++ [l.getD k nd0]) := by show l.take (k + 1) = _; rw [List.take_succ_eq_append_getElem hlt]; simp [hlt]
      clear hxm
      generalize l.getD k nd0 = x at *
      obtain ⟨op, n, nm, kids⟩ := x
      obtain ⟨c0, c1, c2, c3, hki⟩ := hNA
      simp only at c0 c1 c2 c3 hki hns
      obtain ⟨ka, kc, rfl, hkl, ⟨hkm, _⟩, _⟩ := hki
      have hkl2 : kids.length ≤ maxLen := by omega
      unfold maxLen at hkm
      have cF : Hid (∀ W, Calls Tryd.prog 41 #[.agg #[.int .i64 op, .int .i64 n, .string nm, .slice ka kids.length kc]] W fun e w' => e = .returned (.bool (formB ⟨op, n, nm, kids⟩)) ∧ Below W.heap.size W w') := fun W => form_any op n nm ka kids.length kc W hns hkl2
      generalize hfb : formB ⟨op, n, nm, kids⟩ = q at *
      cases q with
      | false =>
        have hv : Hid (chkE l = 1) := HS.out rfl
        clear HS hfb
        go_wp2_with (go_at_call 41; refine (cF.out _).mono ?_; rintro e w2 ⟨rfl, hb2⟩)
        go_ret
        exact ⟨ret_int hv.out.symm, hB.trans (hb2.mono hsz)⟩
      | true =>
        have HFB : Hid (formB ⟨op, n, nm, kids⟩ = true) := hfb
        clear HS hfb
        go_wp2_with (go_at_call 41; refine (cF.out _).mono ?_; rintro e w2 ⟨rfl, hb2⟩)
        refine ⟨⟨k + 1, by omega, by go_num, ?_, hB.trans (hb2.mono hsz)⟩, by simp [RowKit.intOf]; omega⟩
        intro y hy
        rw [HS2.out] at hy
        rcases List.mem_append.1 hy with hy | hy
        · exact hall.out y hy
        · simp at hy; subst hy; exact HFB.out
    · have hke : k = l.length := by omega
      subst hke
      have hall2 : ∀ x ∈ l, formB x = true := by have := hall.out; rw [List.take_length] at this; exact this
      obtain ⟨N, hN⟩ : ∃ N, l.length = N + 1 := ⟨l.length - 1, by omega⟩
      have cW := walk_any _ l wr B (HN0.out.below (hB.mono hBw) (Nat.le_refl _)) N (by omega)
      have HW : Hid (Calls Tryd.prog 42 #[.slice (some ⟨b, o, none⟩) l.length cap0, .int .i64 N] wr fun e w' => e = .returned (.int .i64 (stI l N)) ∧ w' = wr) := cW
      clear cW
      have hN1 : l.length - 1 = N := by omega
      have HNN : Hid (l.length = N + 1) := hN
      have hidx : (l.length : Int) - 1 = (N : Int) := by omega
      by_cases hs : (sts l).getD N none = some 0
      · have hv : Hid (chkE l = 0) := chkE_yes ((snd_iff l).2 ⟨by omega, by omega, hall2, by rw [hN1]; exact hs⟩)
        rw [stI_some hs] at HW
        clear hs hall hall2 hN hN1
        go_wp2_with fail
        refine HW.out.mono ?_
        rintro e w2 ⟨rfl, rfl⟩
        go_wp2_with fail
        go_ret
        exact ⟨ret_int hv.out.symm, hB⟩
      · have hv : Hid (chkE l = 1) := chkE_no (snd_no (fun hh => hs (by rw [← hN1]; exact hh.2.2.2)))
        have hne : (stI l N != -1) = true := by
          rw [bne_iff_ne]
          cases h : (sts l).getD N none with
          | none => rw [stI_none h]; decide
          | some a =>
            rw [stI_some h]
            intro h2
            apply hs
            rw [h]
            have : a = 0 := by omega
            rw [this]
        generalize stI l N = y at *
        clear hs hall hall2 hN hN1
        go_wp2_with fail
        refine HW.out.mono ?_
        rintro e w2 ⟨rfl, rfl⟩
        go_wp2_with fail
        go_ret
        exact ⟨ret_int hv.out.symm, hB⟩
end Go.Proofs.YtpacjofepiojdaaDoor

set_option linter.unusedSimpArgs false
set_option linter.unusedVariables false
namespace Go.Proofs.YtpacjofepiojdaaDoor
open Go.RowKit Go.Lib

/-- Within the reach. -/
structure Fit (l : List Nd) : Prop where
  len : l.length * 56 ≤ 140737488355328
  kids : ∀ x ∈ l, x.kids.length * 8 ≤ 140737488355328
  name : ∀ x ∈ l, x.name.size ≤ maxLen

/-- The slice reads as l, anywhere in memory. -/
def Rd (w : World) (ao : Option Addr) (cap : Nat) (l : List Nd) : Prop := Nodes w w.heap.size (.slice ao l.length cap) l
theorem Rd.below {w w' : World} {ao : Option Addr} {cap : Nat} {l : List Nd} (h : Rd w ao cap l) (hb : Below w.heap.size w w') (hs : w.heap.size ≤ w'.heap.size) : Rd w' ao cap l := Nodes.below h hb hs
theorem Rd_of_own {w : World} {base : Nat} {v : Value} {l : List Nd} (h : OwnN w base v l) : ∃ ao cap, v = .slice ao l.length cap ∧ Rd w ao cap l := by
  have hN := Nodes_of_own h (Nat.le_refl _)
  obtain ⟨ao, cap, rfl, _⟩ := id hN
  exact ⟨ao, cap, rfl, hN⟩
end Go.Proofs.YtpacjofepiojdaaDoor
