/-
  RunesSpans: what Span tells is a name, and ends where the next character belongs to none.
-/
import Derived.Test.YthmcgfiaimnplaaDoorSpanPure
set_option linter.unusedSimpArgs false
set_option linter.unusedVariables false
namespace Go.Proofs.YthmcgfiaimnplaaDoor.spans
open Go.RowKit Go.Lib

theorem span_letter (s : ByteArray) (pos e : Nat) (W : World) (hT : Tabs W) (hp : pos < s.size) (hs : s.size ≤ maxLen) (hk : kd (Utf8.decode s pos).1 = 1) (he : spF s s.size pos = e) :
    Calls Tryd.prog 12 #[.string s, .int .i64 pos] W fun x w' => x = .returned (.tuple #[.int .i64 e, .int .i64 0]) ∧ Below W.heap.size W w' := by
  have h := span_in s pos W hT (by omega) hs
  have hv : spanP s pos = ((e : Int), 0) := by unfold spanP; rw [kd_rn s pos hp, if_pos hk, he]
  rw [hv] at h
  exact h
theorem span_other (s : ByteArray) (pos : Nat) (W : World) (hT : Tabs W) (hp : pos < s.size) (hs : s.size ≤ maxLen) (hk : ¬ kd (Utf8.decode s pos).1 = 1) :
    Calls Tryd.prog 12 #[.string s, .int .i64 pos] W fun x w' => x = .returned (.tuple #[.int .i64 0, .int .i64 11]) ∧ Below W.heap.size W w' := by
  have h := span_in s pos W hT (by omega) hs
  have hv : spanP s pos = (0, 11) := by unfold spanP; rw [kd_rn s pos hp, if_neg hk]
  rw [hv] at h
  exact h

set_option maxRecDepth 100000 in
set_option maxHeartbeats 4000000 in
theorem walk (s : ByteArray) (w : World) (hT : Tabs w) (hs : s.size ≤ 1152921504606846976) :
    Calls Tryd.prog 8 #[.string s] w fun e w' => e = .returned (.bool true) ∧ Below w.heap.size w w' := by
  have hsm : s.size ≤ maxLen := by unfold maxLen; omega
  have HSM : Hid (s.size ≤ maxLen) := hsm
  clear hsm
  go_enter Tryd.func8, Tryd.ntmps8
  go_wp2_with (go_at_call 9; refine (awake_any _ hT).mono ?_; rintro e w0 ⟨rfl, B0⟩; have hT0 := hT.below B0)
  go_loopw [3] (fun _ w' => ∃ pos : Nat, It w0 s pos w' ∧ pos ≤ s.size) (fun _ w' => s.size - w'.iterPos w0.heap.size)
  case atStart => exact ⟨0, It.start w0 s, by omega⟩
  case round =>
    obtain ⟨pos, hI, hps⟩ := hrel
    have hm := hI.pos
    by_cases hp : pos < s.size
    · have hnx : ∀ ty, (Instr.next (.pointer (some ⟨w0.heap.size, 0, none⟩)) true ty).run Tryd.prog wr = _ := fun ty => run_next_any_at wr w0.heap.size s pos ty hI.at_ hp
      have hw := width_pos s pos hp
      have hw2 := dec_le s pos hp
      have hI1 := hI.next (pos + (Utf8.decode s pos).2)
      have hT1 := hI1.tabs hT0
      by_cases hk : kd (Utf8.decode s pos).1 = 1
      · have hle := spF_le s s.size pos hps
        have hins := fun h => spF_inside s pos (spF s s.size pos) hps rfl h
        have hgt : pos < spF s s.size pos := by
          obtain ⟨g, hg⟩ : ∃ g, s.size = g + 1 := ⟨s.size - 1, by omega⟩
          have e1 : spF s s.size pos = spF s g (pos + (Utf8.decode s pos).2) := by rw [hg]; exact spF_on s g pos hp (on_of_letter _ hk)
          have := spF_le s g _ hw2
          omega
        clear hins
        obtain ⟨hle1, hle2⟩ := hle
        have cS : Hid (∀ W, Tabs W → Calls Tryd.prog 12 #[.string s, .int .i64 pos] W fun x w' => x = .returned (.tuple #[.int .i64 (spF s s.size pos : Nat), .int .i64 0]) ∧ Below W.heap.size W w') := fun W h => span_letter s pos _ W h hp HSM.out hk rfl
        have cK : Hid (∀ W, SpanCells W → Calls Tryd.prog 18 #[.int .i32 (Utf8.decode s pos).1] W fun x w' => x = .returned (.int .i64 1) ∧ Below W.heap.size W w') := fun W h => by
          have := kind_any (Utf8.decode s pos).1 W h; rw [hk] at this; exact this
        have hnm := name_span s pos _ hp hk rfl
        have HST : Hid (spF s s.size pos < s.size → onB (Utf8.decode s (spF s s.size pos)).1 = false) := spF_stop s s.size pos (by omega)
        have cN : Hid (∀ W, Tabs W → Calls Tryd.prog 20 #[.string (s.extract pos (spF s s.size pos))] W fun x w' => x = .returned (.bool (decide ((rl (s.extract pos (spF s s.size pos))).length ≤ 16))) ∧ Below W.heap.size W w') := fun W h => by
          have := name_any (s.extract pos (spF s s.size pos)) W h; rw [hnm] at this; exact this
        clear hnm hk
        obtain ⟨e, he⟩ : ∃ e, spF s s.size pos = e := ⟨_, rfl⟩
        rw [he] at hgt hle1 hle2 cS HST cN
        have HE : Hid (spF s s.size pos = e) := he
        clear he
        generalize (Utf8.decode s pos).2 = v at *
        generalize ((Utf8.decode s pos).1 : Int) = r at *
        have z1 : (pos : Int) < (e : Int) := by omega
        have z2 : (e : Int) ≤ (s.size : Int) := by omega
        have hMz := mid_size s pos e hle2
        have hd1 : decide (e ≤ pos) = false := by simp; omega
        have hd2 : decide (s.size < e) = false := by simp; omega
        have HDM : Hid (∀ q, pos + q < e → onB (Utf8.decode s (pos + q)).1 = true → pos + q + (Utf8.decode s (pos + q)).2 ≤ e → Utf8.decode (s.extract pos e) q = Utf8.decode s (pos + q)) := fun q h1 h2 h3 => span_dec s pos e q hle2 h1 h2 h3
        have hTz := tail_size s e
        have hDT := dec_tail s e 0
        rw [Nat.add_zero] at hDT
        have HDT : Hid (Utf8.decode (s.extract e s.size) 0 = Utf8.decode s e) := hDT
        clear hDT
        obtain ⟨M, hM⟩ : ∃ M, s.extract pos e = M := ⟨_, rfl⟩
        rw [hM] at cN hMz HDM
        go_wp2_with (first | (go_at_call 12; refine (cS.out _ hT1).mono ?_; rintro x w2 ⟨rfl, hb2⟩; have hT2 := hT1.below hb2) | (go_at_call 18; refine (cK.out _ hT2.spans).mono ?_; rintro x w3 ⟨rfl, hb3⟩; have hT3 := hT2.below hb3))
        clear cS cK
        have hI3 := (hI1.call hb2).call hb3
        go_loopw [7] (fun c w' => ∃ (q f n : Nat), c = .int .i64 n ∧ It w3 M q w' ∧ Hid (n + (runesFrom M f q).length = (rl M).length) ∧ Hid (spF s s.size (pos + q) = e) ∧ M.size ≤ q + f ∧ pos + q ≤ e ∧ n ≤ q) (fun _ w' => M.size - w'.iterPos w3.heap.size)
        case atStart => exact ⟨0, M.size, 0, rfl, It.start w3 M, by show _ = _; rw [Nat.zero_add]; rfl, HE, by omega, by omega, by omega⟩
        case round =>
          obtain ⟨q, f, n, rfl, hJ, HN, HQ, hf, hqe, hn⟩ := hrel
          have hmJ := hJ.pos
          have hI4 := hI3.call hJ.below
          have hm4 := hI4.pos
          by_cases hq : q < M.size
          · have hqs : pos + q < s.size := by omega
            obtain ⟨ho, hfit, hnxt⟩ := spF_inside s (pos + q) e (by omega) HQ.out (by omega)
            have hd := HDM.out q (by omega) ho hfit
            have hwq := width_pos s (pos + q) hqs
            have hnx2 : ∀ ty, (Instr.next (.pointer (some ⟨w3.heap.size, 0, none⟩)) true ty).run Tryd.prog wr = _ := fun ty => run_next_any_at wr w3.heap.size M q ty hJ.at_ hq
            rw [hd] at hnx2
            obtain ⟨f, rfl⟩ : ∃ g, f = g + 1 := ⟨f - 1, by omega⟩
            have hrc := runesFrom_cons M f q hq
            rw [hd] at hrc
            have HN' : Hid (n + 1 + (runesFrom M f (q + (Utf8.decode s (pos + q)).2)).length = (rl M).length) := by
              have := HN.out
              rw [hrc, List.length_cons] at this
              show _ = _
              omega
            have HQ' : Hid (spF s s.size (pos + (q + (Utf8.decode s (pos + q)).2)) = e) := by show _ = _; rw [← Nat.add_assoc]; exact hnxt
            have cS2 : Hid (∀ W, Tabs W → kd (Utf8.decode s (pos + q)).1 = 1 → Calls Tryd.prog 12 #[.string s, .int .i64 ((pos : Int) + (q : Int))] W fun x w' => x = .returned (.tuple #[.int .i64 (e : Nat), .int .i64 0]) ∧ Below W.heap.size W w') := fun W h hk => by
              have := span_letter s (pos + q) e W h hqs HSM.out hk HQ.out
              rw [Int.natCast_add] at this
              exact this
            have hJ1 := hJ.next (q + (Utf8.decode s (pos + q)).2)
            have hTJ := hJ1.tabs hT3
            have hko := kd_on _ ho
            have cK2 : Hid (∀ W, SpanCells W → Calls Tryd.prog 18 #[.int .i32 (Utf8.decode s (pos + q)).1] W fun x w' => x = .returned (.int .i64 (kd (Utf8.decode s (pos + q)).1)) ∧ Below W.heap.size W w') := kind_any _
            clear hnxt hd hrc ho HN HQ HDM HDT HE HST cN hnx
            generalize (Utf8.decode s (pos + q)).2 = vq at *
            generalize ((Utf8.decode s (pos + q)).1 : Int) = x at *
            rcases hko with hk1 | hk2
            · rw [hk1] at cK2
              have cS3 : Hid (∀ W, Tabs W → Calls Tryd.prog 12 #[.string s, .int .i64 ((pos : Int) + (q : Int))] W fun x w' => x = .returned (.tuple #[.int .i64 (e : Nat), .int .i64 0]) ∧ Below W.heap.size W w') := fun W h => cS2.out W h hk1
              clear hk1 cS2
              go_wp2_with fail
              refine (cK2.out _ hTJ.spans).mono ?_
              rintro y w5 ⟨rfl, hb5⟩
              have hT5 := hTJ.below hb5
              go_wp2_with fail
              refine (cS3.out _ hT5).mono ?_
              rintro y w6 ⟨rfl, hb6⟩
              go_wp2
              have hJ6 := (hJ1.call hb5).call hb6
              exact ⟨⟨q + vq, f, n + 1, by go_num, hJ6, HN', HQ', by omega, by omega, by omega⟩, by rw [hJ6.pos, hmJ]; omega⟩
            · have q1 : (kd x == 1) = false := by rcases hk2 with h | h <;> simp [h]
              have q2 : (kd x != 1 && (kd x != 2 && kd x != 5)) = false := by rcases hk2 with h | h <;> simp [h]
              rcases hk2 with h | h
              all_goals
                rw [h] at cK2
                clear cS2 q1 q2 h
                go_wp2_with fail
                refine (cK2.out _ hTJ.spans).mono ?_
                rintro y w5 ⟨rfl, hb5⟩
                go_wp2
                have hJ6 := hJ1.call hb5
                exact ⟨⟨q + vq, f, n + 1, by go_num, hJ6, HN', HQ', by omega, by omega, by omega⟩, by rw [hJ6.pos, hmJ]; omega⟩
          · have hnx2 : ∀ ty, (Instr.next (.pointer (some ⟨w3.heap.size, 0, none⟩)) true ty).run Tryd.prog wr = _ := fun ty => run_next_end_at wr w3.heap.size M q ty hJ.at_ hq
            have hnl : n = (rl M).length := by have := HN.out; rw [runesFrom_end M f q hq] at this; simpa using this
            rw [← hnl] at cN
            have hTJ := hJ.tabs hT3
            clear hnl HN HQ HDM HE hnx
            obtain ⟨bb, hbb, hbz⟩ : ∃ bb : Bool, decide (n ≤ 16) = bb ∧ decide ((n : Int) ≤ 16) = bb := ⟨_, rfl, decide_eq_decide.2 (by omega)⟩
            rw [hbb] at cN
            clear hbb
            go_wp2_with fail
            refine (cN.out _ hTJ).mono ?_
            rintro y w5 ⟨rfl, hb5⟩
            have hI5 := hI4.call hb5
            have hT5 := hTJ.below hb5
            obtain ⟨T, hTT⟩ : ∃ T, s.extract e s.size = T := ⟨_, rfl⟩
            rw [hTT] at hTz HDT
            go_wp2_with fail
            go_loopw [14] (fun _ w' => It w5 T 0 w') (fun _ _ => 0)
            case atStart => exact It.start w5 T
            case round =>
              have hK := hrel
              by_cases ht : 0 < T.size
              · have hnx3 : ∀ ty, (Instr.next (.pointer (some ⟨w5.heap.size, 0, none⟩)) true ty).run Tryd.prog wr = _ := fun ty => run_next_any_at wr w5.heap.size T 0 ty hK.at_ ht
                rw [HDT.out] at hnx3
                have hoff := HST.out (by omega)
                have hK1 := hK.next (Utf8.decode s e).2
                have hTK := hK1.tabs hT5
                have cK3 : Hid (∀ W, SpanCells W → Calls Tryd.prog 18 #[.int .i32 (Utf8.decode s e).1] W fun x w' => x = .returned (.int .i64 (kd (Utf8.decode s e).1)) ∧ Below W.heap.size W w') := kind_any _
                obtain ⟨k1, k2, k5⟩ := kd_off _ hoff
                clear hoff HST HDT
                generalize (Utf8.decode s e).2 = ve at *
                generalize ((Utf8.decode s e).1 : Int) = re at *
                generalize kd re = kk at *
                go_wp2_with fail
                refine (cK3.out _ hTK.spans).mono ?_
                rintro y w6 ⟨rfl, hb6⟩
                go_wp2
                have hI6 := hI5.call (hK1.call hb6).below
                exact ⟨⟨pos + v, hI6, by omega⟩, by rw [hI6.pos, hm]; omega⟩
              · have hnx3 : ∀ ty, (Instr.next (.pointer (some ⟨w5.heap.size, 0, none⟩)) true ty).run Tryd.prog wr = _ := fun ty => run_next_end_at wr w5.heap.size T 0 ty hK.at_ ht
                clear HST HDT
                go_wp2
                have hI6 := hI5.call hK.below
                exact ⟨⟨pos + v, hI6, by omega⟩, by rw [hI6.pos, hm]; omega⟩
      · have cS : Hid (∀ W, Tabs W → Calls Tryd.prog 12 #[.string s, .int .i64 pos] W fun x w' => x = .returned (.tuple #[.int .i64 0, .int .i64 11]) ∧ Below W.heap.size W w') := fun W h => span_other s pos W h hp HSM.out hk
        have cK : Hid (∀ W, SpanCells W → Calls Tryd.prog 18 #[.int .i32 (Utf8.decode s pos).1] W fun x w' => x = .returned (.int .i64 (kd (Utf8.decode s pos).1)) ∧ Below W.heap.size W w') := kind_any _
        have hk1 : (kd ((Utf8.decode s pos).1 : Int) == 1) = false := by simpa using hk
        clear hk
        generalize (Utf8.decode s pos).2 = v at *
        generalize ((Utf8.decode s pos).1 : Int) = r at *
        generalize kd r = kk at *
        go_wp2_with fail
        refine (cS.out _ hT1).mono ?_
        rintro x w2 ⟨rfl, hb2⟩
        have hT2 := hT1.below hb2
        go_wp2_with fail
        refine (cK.out _ hT2.spans).mono ?_
        rintro x w3 ⟨rfl, hb3⟩
        go_wp2
        have hI3 := (hI1.call hb2).call hb3
        exact ⟨⟨pos + v, hI3, by omega⟩, by rw [hI3.pos, hm]; omega⟩
    · have hnx : ∀ ty, (Instr.next (.pointer (some ⟨w0.heap.size, 0, none⟩)) true ty).run Tryd.prog wr = _ := fun ty => run_next_end_at wr w0.heap.size s pos ty hI.at_ hp
      go_wp2
      go_ret
      exact ⟨rfl, B0.trans (hI.below.mono B0.size)⟩
end Go.Proofs.YthmcgfiaimnplaaDoor.spans
