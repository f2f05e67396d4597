/-
  NumW, PkW.
-/
import Derived.Shelf.Unicode.DecodeSlow
import Derived.Laws.RangeAny
import Derived.Shelf.Strings.Builder1
import Derived.Shelf.Small.Utf8
import Derived.Shelf.Small.Bits
import Derived.Shelf.Strings.BuilderF
import Derived.Shelf.Strings.BuilderK
import Derived.Shelf.Strings.BuilderRune
import Derived.Shelf.Utf8.AppendRune
import Derived.Shelf.Strconv.Itoa0
import Derived.Shelf.Strconv.Itoa1
import Derived.Shelf.LaysM
import Derived.Shelf.Strconv.Itoa2
import Derived.Shelf.Strconv.Itoa3
import Derived.Shelf.Strconv.Itoa4
import Derived.Shelf.Strings.Prefix
import Derived.Shelf.Unicode.DecodeAny
import Derived.Test.YtjmccobblpcbhaaDoorProg
import Derived.WalkKit
import Derived.Deep.DeepFit
import Derived.Lib.OthersKept
import Derived.Lib.RuneCountTail
import Derived.Laws.DeepStrings4
import Derived.Lib.Small
import Derived.Lib.Strings
import Derived.Lib.MapLaws
import Derived.Deep.RegionHeld3
import Derived.Laws.ResultCell
import Derived.Test.YtjmccobblpcbhaaDoorM01
import Derived.Test.YtjmccobblpcbhaaDoorM02
import Derived.Test.YtjmccobblpcbhaaDoorM03
import Derived.Test.YtjmccobblpcbhaaDoorM04
import Derived.Test.YtjmccobblpcbhaaDoorM16
import Derived.Test.YtjmccobblpcbhaaDoorM18
set_option linter.unusedSimpArgs false
set_option linter.unusedVariables false
namespace Go.Proofs.YtjmccobblpcbhaaDoor
open Go.RowKit Go.Lib

set_option maxHeartbeats 1000000 in
theorem number_out (s : ByteArray) (at_ : Int) (w : World) (h : at_ < 0 ∨ (s.size : Int) < at_) :
    Calls Tryd.prog 153 #[.string s, .int .i64 at_] w fun e w' => e = .returned (.tuple #[.int .u64 0, .int .i64 0, .int .i64 2]) ∧ Below w.heap.size w w' := by
  have hd : decide (at_ < 0 ∨ (s.size : Int) < at_) = true := by simpa using h
  have c1 : Hid (∀ W, Calls Tryd.prog 167 #[.string s, .int .i64 at_] W fun e w' => e = .returned (.bool true) ∧ w' = W) := fun W => by
    have := outside_any s at_ W; rw [hd] at this; exact this
  clear hd h
  go_enter Tryd.func153, Tryd.ntmps153
  go_wp2_with (go_at_call 167; refine (c1.out _).mono ?_; rintro e w2 ⟨rfl, hw⟩; obtain rfl := hw.symm)
  go_ret3
  exact ⟨rfl, Below.refl _ _⟩

theorem digZFirst (s : ByteArray) (pos : Nat) (h : pos ≤ s.size) : digZ ((decodeGo (s.extract pos s.size)).1 : Int) = digZ (rn s pos) := by
  by_cases hp : pos < s.size
  · rw [decGo_tail s pos hp, digZ_rn s pos hp]
  · have h0 : (s.extract pos s.size).size = 0 := by rw [tail_size]; omega
    simp only [decodeGo, h0, if_true, rn, hp, if_false]
    decide

set_option maxHeartbeats 1000000 in
theorem number_none (s : ByteArray) (pos : Nat) (w : World) (hT : Tabs w) (h : pos ≤ s.size) (hs : s.size ≤ maxLen) (hz : digZ (rn s pos) = 0) :
    Calls Tryd.prog 153 #[.string s, .int .i64 pos] w fun e w' => e = .returned (.tuple #[.int .u64 0, .int .i64 0, .int .i64 11]) ∧ Below w.heap.size w w' := by
  unfold maxLen at hs
  have hd : decide ((pos : Int) < 0 ∨ (s.size : Int) < pos) = false := by simp; omega
  have c1 : Hid (∀ W, Calls Tryd.prog 167 #[.string s, .int .i64 pos] W fun e w' => e = .returned (.bool false) ∧ w' = W) := fun W => by
    have := outside_any s pos W; rw [hd] at this; exact this
  clear hd
  have c2 : Hid (∀ W, Tabs W → Calls Tryd.prog 80 #[.string (s.extract pos s.size)] W fun e w' => e = .returned (.int .i32 (decodeGo (s.extract pos s.size)).1) ∧ Below W.heap.size W w') := first_any _
  rw [← digZFirst s pos h] at hz
  generalize ((decodeGo (s.extract pos s.size)).1 : Int) = r at *
  have hk : ¬ kd r = 2 := fun e => (kd_two r).1 e hz
  have hk' : ((spn r).2.2 != 2) = true := by simpa [kd] using hk
  have hpz : (pos : Int) ≤ (s.size : Int) := by omega
  have c3 : Hid (∀ W, SpanCells W → Calls Tryd.prog 134 #[.int .i32 r] W fun e w' => e = .returned (.agg #[.int .i32 (spn r).1, .int .i32 (spn r).2.1, .int .i64 (spn r).2.2]) ∧ Below W.heap.size W w') := spanOf_any r
  clear hk hz
  generalize spn r = p at *
  obtain ⟨a, b, c⟩ := p
  simp only at hk' c3
  go_enter Tryd.func153, Tryd.ntmps153
  go_wp2_with (first | (go_at_call 167; refine (c1.out _).mono ?_; rintro e w2 ⟨rfl, hw⟩; obtain rfl := hw.symm) | (go_at_call 80; refine (c2.out _ hT).mono ?_; rintro e w3 ⟨rfl, hb3⟩; have hT3 := hT.below hb3) | (go_at_call 134; refine (c3.out _ hT3.spans).mono ?_; rintro e w4 ⟨rfl, hb4⟩))
  go_ret3
  exact ⟨rfl, (hb3.trans (hb4.mono hb3.size)).alloc (by have := hb3.size; have := hb4.size; omega) _⟩

set_option maxHeartbeats 1000000 in
theorem number_some (s : ByteArray) (pos : Nat) (w : World) (hT : Tabs w) (h : pos ≤ s.size) (hs : s.size ≤ maxLen) (z : Int) (hz : digZ (rn s pos) = z) (h0 : z ≠ 0) :
    Calls Tryd.prog 153 #[.string s, .int .i64 pos] w fun e w' => e = .returned (.tuple #[.int .u64 (nuF s z s.size pos 0).1, .int .i64 (nuF s z s.size pos 0).2.1, .int .i64 (nuF s z s.size pos 0).2.2]) ∧ Below w.heap.size w w' := by
  unfold maxLen at hs
  have hd : decide ((pos : Int) < 0 ∨ (s.size : Int) < pos) = false := by simp; omega
  have c1 : Hid (∀ W, Calls Tryd.prog 167 #[.string s, .int .i64 pos] W fun e w' => e = .returned (.bool false) ∧ w' = W) := fun W => by
    have := outside_any s pos W; rw [hd] at this; exact this
  clear hd
  have c2 : Hid (∀ W, Tabs W → Calls Tryd.prog 80 #[.string (s.extract pos s.size)] W fun e w' => e = .returned (.int .i32 (decodeGo (s.extract pos s.size)).1) ∧ Below W.heap.size W w') := first_any _
  rw [← digZFirst s pos h] at hz
  generalize ((decodeGo (s.extract pos s.size)).1 : Int) = r at *
  subst hz
  have hc := digZ_cases r h0
  have hsp := spn_digit r h0
  have c3 : Hid (∀ W, SpanCells W → Calls Tryd.prog 134 #[.int .i32 r] W fun e w' => e = .returned (.agg #[.int .i32 (spn r).1, .int .i32 (spn r).2.1, .int .i64 (spn r).2.2]) ∧ Below W.heap.size W w') := spanOf_any r
  rw [hsp] at c3
  simp only at c3
  clear hsp h0
  generalize digZ r = z at *
  have HZ : Hid (z = 48 ∨ z = 1632 ∨ z = 65296) := hc
  have hz0 : 0 ≤ z := by omega
  have hz1 : z ≤ 65296 := by omega
  clear hc
  have hpz : (pos : Int) ≤ (s.size : Int) := by omega
  have hSz := tail_size s pos
  have HD : Hid (∀ i, Utf8.decode (s.extract pos s.size) i = Utf8.decode s (pos + i)) := dec_tail s pos
  go_enter Tryd.func153, Tryd.ntmps153
  go_wp2_with (first | (go_at_call 167; refine (c1.out _).mono ?_; rintro e w2 ⟨rfl, hw⟩; obtain rfl := hw.symm) | (go_at_call 80; refine (c2.out _ hT).mono ?_; rintro e w3 ⟨rfl, hb3⟩; have hT3 := hT.below hb3) | (go_at_call 134; refine (c3.out _ hT3.spans).mono ?_; rintro e w4 ⟨rfl, hb4⟩))
  clear c1 c2 c3
  have hB4 : Below w.heap.size w w4 := hb3.trans (hb4.mono hb3.size)
  have hsz : (w4.alloc (.cells #[.int .i32 z, .int .i32 (z + 9), .int .i64 2] 179)).heap.size = w4.heap.size + 1 := by simp
  have HSZ : Hid ((w4.alloc (.cells #[.int .i32 z, .int .i32 (z + 9), .int .i64 2] 179)).heap.size = w4.heap.size + 1) := hsz
  clear hsz
  generalize s.extract pos s.size = S at *
  go_loopw [8] (fun c w' => ∃ (q f n : Nat), It (w4.alloc (.cells #[.int .i32 z, .int .i32 (z + 9), .int .i64 2] 179)) S q w' ∧ c = .int .u64 n ∧ n ≤ 18446744073709551615 ∧ Hid (nuF s z f (pos + q) n = nuF s z s.size pos 0) ∧ s.size ≤ pos + q + f ∧ q ≤ S.size) (fun _ w' => S.size - w'.iterPos (w4.heap.size + 1))
  case atStart => exact ⟨0, s.size, 0, It.start _ S, rfl, by omega, rfl, by omega, by omega⟩
  case round =>
    obtain ⟨q, f, n, hI, rfl, hn, HN, hf, hqS⟩ := hrel
    have hm := hI.pos
    have hat := hI.at_
    rw [HSZ.out] at hm hat
    have z4 := hB4.size
    have e0 : wr.cell? ⟨w4.heap.size, 0, none⟩ = some (.int .i32 z) := by rw [hI.below.cell (p := ⟨w4.heap.size, 0, none⟩) (by rw [HSZ.out]; exact Nat.lt_succ_self _)]; simp
    have e1 : wr.cell? ⟨w4.heap.size, 1, none⟩ = some (.int .i32 (z + 9)) := by rw [hI.below.cell (p := ⟨w4.heap.size, 1, none⟩) (by rw [HSZ.out]; exact Nat.lt_succ_self _)]; simp
    have e2 : wr.cell? ⟨w4.heap.size, 2, none⟩ = some (.int .i64 2) := by rw [hI.below.cell (p := ⟨w4.heap.size, 2, none⟩) (by rw [HSZ.out]; exact Nat.lt_succ_self _)]; simp
    by_cases hp : q < S.size
    · have hps : pos + q < s.size := by omega
      have hnx : ∀ ty, (Instr.next (.pointer (some ⟨w4.heap.size + 1, 0, none⟩)) true ty).run Tryd.prog wr = _ := fun ty => run_next_any_at wr (w4.heap.size + 1) S q ty hat hp
      rw [HD.out q] at hnx
      obtain ⟨f, rfl⟩ : ∃ g, f = g + 1 := ⟨f - 1, by omega⟩
      have hw := width_pos s (pos + q) hps
      have hw2 := dec_le s (pos + q) hps
      have hI1 := hI.next (q + (Utf8.decode s (pos + q)).2)
      rw [HSZ.out] at hI1
      have g0 : (wr.iterAt (w4.heap.size + 1) S (q + (Utf8.decode s (pos + q)).2)).cell? ⟨w4.heap.size, 0, none⟩ = some (.int .i32 z) := by rw [hI1.below.cell (p := ⟨w4.heap.size, 0, none⟩) (by rw [HSZ.out]; exact Nat.lt_succ_self _)]; simp
      have g1 : (wr.iterAt (w4.heap.size + 1) S (q + (Utf8.decode s (pos + q)).2)).cell? ⟨w4.heap.size, 1, none⟩ = some (.int .i32 (z + 9)) := by rw [hI1.below.cell (p := ⟨w4.heap.size, 1, none⟩) (by rw [HSZ.out]; exact Nat.lt_succ_self _)]; simp
      have g2 : (wr.iterAt (w4.heap.size + 1) S (q + (Utf8.decode s (pos + q)).2)).cell? ⟨w4.heap.size, 2, none⟩ = some (.int .i64 2) := by rw [hI1.below.cell (p := ⟨w4.heap.size, 2, none⟩) (by rw [HSZ.out]; exact Nat.lt_succ_self _)]; simp
      have hx1 : Hid (¬ digZ (Utf8.decode s (pos + q)).1 = z → nuF s z (f + 1) (pos + q) n = (n, pos + q, 0)) := nuF_off s z (f + 1) (pos + q) n
      have hx2 : Hid (digZ (Utf8.decode s (pos + q)).1 = z → 18446744073709551615 < n * 10 + (digV (Utf8.decode s (pos + q)).1).toNat → nuF s z (f + 1) (pos + q) n = (0, 0, 10)) := nuF_large s z f (pos + q) n hps
      have hx3 : Hid (digZ (Utf8.decode s (pos + q)).1 = z → ¬ 18446744073709551615 < n * 10 + (digV (Utf8.decode s (pos + q)).1).toNat → nuF s z (f + 1) (pos + q) n = nuF s z f (pos + q + (Utf8.decode s (pos + q)).2) (n * 10 + (digV (Utf8.decode s (pos + q)).1).toNat)) := nuF_on s z f (pos + q) n hps
      generalize (Utf8.decode s (pos + q)).2 = v at *
      generalize ((Utf8.decode s (pos + q)).1 : Int) = r2 at *
      have c4 : Hid (∀ W, Calls Tryd.prog 150 #[.agg #[.int .i32 z, .int .i32 (z + 9), .int .i64 2], .int .i32 r2] W fun e w' => e = .returned (.bool (hasB z (z + 9) r2)) ∧ Below W.heap.size W w') := has_any z (z + 9) 2 r2
      have hdz := digZ_has z r2 HZ.out
      have HDZ : Hid (hasB z (z + 9) r2 = true ↔ digZ r2 = z) := hdz
      clear hdz
      cases ho : hasB z (z + 9) r2
      · rw [ho] at c4
        go_wp2_with (go_at_call 150; refine (c4.out _).mono ?_; rintro e w6 ⟨rfl, hb6⟩)
        go_ret3
        have hv : nuF s z s.size pos 0 = (n, pos + q, 0) := by rw [← HN.out, hx1.out (fun e => by have := HDZ.out.2 e; rw [ho] at this; cases this)]
        have hB5 := (hI1.call hb6).below
        exact ⟨ret3 (by rw [hv]) (by rw [hv]; simp only; omega) (by rw [hv]), hB4.trans ((((Below.refl _ _).alloc (Nat.le_refl _) _).trans (hB5.mono (by rw [HSZ.out]; omega))).mono z4)⟩
      · rw [ho] at c4
        have hd := HDZ.out.1 ho
        have hdv := digV_eq r2 (by rw [hd]; have := HZ.out; omega)
        rw [hd] at hdv
        have hb : z ≤ r2 ∧ r2 ≤ z + 9 := by simpa [hasB] using ho
        obtain ⟨hb1, hb2⟩ := hb
        have HDV : Hid (digV r2 = r2 - z) := hdv.1
        clear hdv
        have HD2 : Hid (digZ r2 = z) := hd
        clear hd
        by_cases hl : (18446744073709551615 - (r2 - z)) / 10 < (n : Int)
        · go_wp2_with fail
          refine (c4.out _).mono ?_
          rintro e w6 ⟨rfl, hb6⟩
          have hI6 := hI1.call hb6
          have k0 : w6.cell? ⟨w4.heap.size, 0, none⟩ = some (.int .i32 z) := by rw [hI6.below.cell (p := ⟨w4.heap.size, 0, none⟩) (by rw [HSZ.out]; exact Nat.lt_succ_self _)]; simp
          clear e0 e1 e2 g0 g1 g2
          go_wp2
          go_ret3
          have hv : nuF s z s.size pos 0 = (0, 0, 10) := by rw [← HN.out, hx2.out HD2.out (by rw [HDV.out]; omega)]
          exact ⟨ret3 (by rw [hv]; rfl) (by rw [hv]; rfl) (by rw [hv]), hB4.trans ((((Below.refl _ _).alloc (Nat.le_refl _) _).trans (hI6.below.mono (by rw [HSZ.out]; omega))).mono z4)⟩
        · have hle : (n : Int) * 10 + (r2 - z) ≤ 18446744073709551615 := by omega
          go_wp2_with fail
          refine (c4.out _).mono ?_
          rintro e w6 ⟨rfl, hb6⟩
          have hI6 := hI1.call hb6
          have hm6 := hI6.pos
          rw [HSZ.out] at hm6
          have k0 : w6.cell? ⟨w4.heap.size, 0, none⟩ = some (.int .i32 z) := by rw [hI6.below.cell (p := ⟨w4.heap.size, 0, none⟩) (by rw [HSZ.out]; exact Nat.lt_succ_self _)]; simp
          clear e0 e1 e2 g0 g1 g2
          have hnat : ((r2 - z).toNat : Int) = r2 - z := by omega
          have HNat : Hid (((r2 - z).toNat : Int) = r2 - z) := hnat
          clear hnat
          have hx : Hid (nuF s z f (pos + (q + v)) (n * 10 + (r2 - z).toNat) = nuF s z s.size pos 0) := by
            show _ = _
            rw [← HN.out, hx3.out HD2.out (by rw [HDV.out]; omega), HDV.out, Nat.add_assoc]
          go_wp2
          have hnn := HNat.out
          refine ⟨⟨q + v, f, n * 10 + (r2 - z).toNat, hI6, congrArg (Value.int .u64) (by omega), by omega, hx, by omega, by omega⟩, ?_⟩
          rw [hm6, hm]; omega
    · have hnx : ∀ ty, (Instr.next (.pointer (some ⟨w4.heap.size + 1, 0, none⟩)) true ty).run Tryd.prog wr = _ := fun ty => run_next_end_at wr (w4.heap.size + 1) S q ty hat hp
      go_wp2
      go_ret3
      have hv : nuF s z s.size pos 0 = (n, pos + q, 0) := by rw [← HN.out, nuF_end s z f (pos + q) n (by omega)]
      exact ⟨ret3 (by rw [hv]) (by rw [hv]; simp only; omega) (by rw [hv]), hB4.trans ((((Below.refl _ _).alloc (Nat.le_refl _) _).trans (hI.below.mono (by rw [HSZ.out]; omega))).mono z4)⟩

theorem number_any (s : ByteArray) (at_ : Int) (w : World) (hT : Tabs w) (hs : s.size ≤ maxLen) :
    Calls Tryd.prog 153 #[.string s, .int .i64 at_] w fun e w' => e = .returned (.tuple #[.int .u64 (numI s at_).1, .int .i64 (numI s at_).2.1, .int .i64 (numI s at_).2.2]) ∧ Below w.heap.size w w' := by
  by_cases h : at_ < 0 ∨ (s.size : Int) < at_
  · have hv : numI s at_ = (0, 0, 2) := by simp [numI, h]
    rw [hv]
    exact number_out s at_ w h
  · have hv : numI s at_ = numP s at_.toNat := by simp [numI, h]
    rw [hv]
    by_cases hz : digZ (rn s at_.toNat) = 0
    · have hv2 : numP s at_.toNat = (0, 0, 11) := by simp [numP, hz]
      rw [hv2]
      have := number_none s at_.toNat w hT (by omega) hs hz
      rw [Int.toNat_of_nonneg (by omega)] at this
      exact this
    · have hv2 : numP s at_.toNat = nuF s (digZ (rn s at_.toNat)) s.size at_.toNat 0 := by simp [numP, hz]
      rw [hv2]
      have := number_some s at_.toNat w hT (by omega) hs _ rfl hz
      rw [Int.toNat_of_nonneg (by omega)] at this
      exact this
end Go.Proofs.YtjmccobblpcbhaaDoor

set_option linter.unusedSimpArgs false
set_option linter.unusedVariables false
namespace Go.Proofs.YtjmccobblpcbhaaDoor
open Go.RowKit Go.Lib

set_option maxHeartbeats 1000000 in
theorem plain_any (r : Int) (w : World) :
    Calls Tryd.prog 169 #[.int .i32 r] w fun e w' => e = .returned (.int .i32 (psPlain r)) ∧ w' = w := by
  go_enter Tryd.func169, Tryd.ntmps169
  go_wp2
  all_goals go_ret
  all_goals exact ⟨by first | (congr 2; unfold psPlain; simp_all; done) | (congr 2; unfold psPlain; simp_all; omega), rfl⟩

/-- The text, and whether holes may stand in it. -/
structure TxAt (w : World) (B : Nat) (s : ByteArray) (pat : Bool) : Prop where
  text : w.cell? ⟨B, 0, none⟩ = some (.string s)
  pat_ : w.cell? ⟨B, 1, none⟩ = some (.bool pat)
theorem TxAt.lt {w : World} {B : Nat} {s : ByteArray} {pat : Bool} (h : TxAt w B s pat) : B < w.heap.size := World.block_lt_of_cell? w _ h.text
theorem TxAt.below {w w' : World} {B : Nat} {s : ByteArray} {pat : Bool} (h : TxAt w B s pat) (hb : Below w.heap.size w w') : TxAt w' B s pat :=
  ⟨(hb.cell (p := ⟨B, 0, none⟩) h.lt).trans h.text, (hb.cell (p := ⟨B, 1, none⟩) h.lt).trans h.pat_⟩

set_option maxHeartbeats 2000000 in
theorem signAt_any (w : World) (B : Nat) (s : ByteArray) (pat : Bool) (p : Nat) (r : Int) (hX : TxAt w B s pat) (hp : p ≤ s.size) (hs : s.size ≤ maxLen) :
    Calls Tryd.prog 154 #[.pointer (some ⟨B, 0, none⟩), .int .i64 p, .int .i32 r] w fun e w' => e = .returned (.tuple #[.int .i32 (psSign s pat p r).1, .int .i64 (psSign s pat p r).2]) ∧ w' = w := by
  obtain ⟨c0, c1⟩ := hX
  unfold maxLen at hs
  obtain ⟨X, hX⟩ : ∃ X, psSign s pat p r = X := ⟨_, rfl⟩
  rw [hX]
  have HX : Hid (psSign s pat p r = X) := hX
  clear hX
  have h1 : psTwo s p 61 = hasPrefix (s.extract p s.size).data.toList [61, 61] := rfl
  have h2 : psTwo s p 60 = hasPrefix (s.extract p s.size).data.toList [60, 60] := rfl
  have h3 : psTwo s p 62 = hasPrefix (s.extract p s.size).data.toList [62, 62] := rfl
  obtain ⟨t, ht⟩ : ∃ t, s.extract p s.size = t := ⟨_, rfl⟩
  rw [ht] at h1 h2 h3
  have HR : Hid (∀ q W, Calls Tryd.prog 168 #[.string t, .string q] W fun e w' => e = .returned (.bool (hasPrefix t.data.toList q.data.toList)) ∧ w' = W) := fun q W => Tryd.strings_HasPrefix _ _ _
  cases e1 : hasPrefix t.data.toList [61, 61] with
  | true =>
    have HE : Hid (X = (8801, 2)) := by rw [Hid, ← HX.out]; unfold psSign; rw [h1, e1, if_pos rfl]
    clear h1 h2 h3
    go_enter Tryd.func154, Tryd.ntmps154
    go_wp2_with (go_at_call 168; refine (HR.out _ _).mono ?_; rintro e w' ⟨rfl, rfl⟩)
    go_ret2
    exact ⟨by rw [HE.out]; rfl, rfl⟩
  | false =>
    cases e2 : hasPrefix t.data.toList [60, 60] with
    | true =>
      have HE : Hid (X = (8810, 2)) := by rw [Hid, ← HX.out]; unfold psSign; rw [h1, e1, h2, e2]; rfl
      clear h1 h2 h3
      go_enter Tryd.func154, Tryd.ntmps154
      go_wp2_with (go_at_call 168; refine (HR.out _ _).mono ?_; rintro e w' ⟨rfl, rfl⟩)
      go_ret2
      exact ⟨by rw [HE.out]; rfl, rfl⟩
    | false =>
      cases e3 : hasPrefix t.data.toList [62, 62] with
      | true =>
        have HE : Hid (X = (8811, 2)) := by rw [Hid, ← HX.out]; unfold psSign; rw [h1, e1, h2, e2, h3, e3]; rfl
        clear h1 h2 h3
        go_enter Tryd.func154, Tryd.ntmps154
        go_wp2_with (go_at_call 168; refine (HR.out _ _).mono ?_; rintro e w' ⟨rfl, rfl⟩)
        go_ret2
        exact ⟨by rw [HE.out]; rfl, rfl⟩
      | false =>
        have HE : Hid (X = if r = 61 ∨ r = 62 ∨ r = 59 ∨ r = 44 then (0, 0) else if r = 64 ∧ pat = false then (0, 0) else (psPlain r, runeLen r)) := by
          rw [Hid, ← HX.out]; unfold psSign; rw [h1, e1, h2, e2, h3, e3]; rfl
        clear h1 h2 h3 HX
        have cP : Hid (∀ W, Calls Tryd.prog 169 #[.int .i32 r] W fun e w' => e = .returned (.int .i32 (psPlain r)) ∧ w' = W) := plain_any r
        have cL : Hid (∀ W, Calls Tryd.prog 170 #[.int .i32 r] W fun e w' => e = .returned (.int .i64 (runeLen r)) ∧ w' = W) := fun W => Tryd.utf8_RuneLen r W
        generalize psPlain r = pr at *
        generalize runeLen r = lr at *
        by_cases hq : r = 61 ∨ r = 62 ∨ r = 59 ∨ r = 44
        · have HE2 : Hid (X = (0, 0)) := by rw [Hid, HE.out, if_pos hq]
          clear HE
          rcases hq with rfl | rfl | rfl | rfl
          all_goals
            go_enter Tryd.func154, Tryd.ntmps154
            go_wp2_with (go_at_call 168; refine (HR.out _ _).mono ?_; rintro e w' ⟨rfl, rfl⟩)
            go_ret2
            exact ⟨by rw [HE2.out]; rfl, rfl⟩
        · have hq1 : (r == 61) = false := by simp; omega
          have hq2 : (r == 62) = false := by simp; omega
          have hq3 : (r == 59) = false := by simp; omega
          have hq4 : (r == 44) = false := by simp; omega
          by_cases hat : r = 64
          · cases pat with
            | false =>
              have HE2 : Hid (X = (0, 0)) := by rw [Hid, HE.out, if_neg hq, if_pos ⟨hat, rfl⟩]
              clear HE hq
              subst hat
              go_enter Tryd.func154, Tryd.ntmps154
              go_wp2_with (go_at_call 168; refine (HR.out _ _).mono ?_; rintro e w' ⟨rfl, rfl⟩)
              go_ret2
              exact ⟨by rw [HE2.out]; rfl, rfl⟩
            | true =>
              have HE2 : Hid (X = (pr, lr)) := by rw [Hid, HE.out, if_neg hq, if_neg (by simp)]
              clear HE hq
              subst hat
              go_enter Tryd.func154, Tryd.ntmps154
              go_wp2_with (first | (go_at_call 168; refine (HR.out _ _).mono ?_; rintro e w' ⟨rfl, rfl⟩) | (go_at_call 169; refine (cP.out _).mono ?_; rintro e w' ⟨rfl, rfl⟩) | (go_at_call 170; refine (cL.out _).mono ?_; rintro e w' ⟨rfl, rfl⟩))
              go_ret2
              exact ⟨by rw [HE2.out]; rfl, rfl⟩
          · have HE2 : Hid (X = (pr, lr)) := by rw [Hid, HE.out, if_neg hq, if_neg (fun h => hat h.1)]
            have hq5 : (r == 64) = false := by simpa using hat
            clear HE hq hat
            go_enter Tryd.func154, Tryd.ntmps154
            go_wp2_with (first | (go_at_call 168; refine (HR.out _ _).mono ?_; rintro e w' ⟨rfl, rfl⟩) | (go_at_call 169; refine (cP.out _).mono ?_; rintro e w' ⟨rfl, rfl⟩) | (go_at_call 170; refine (cL.out _).mono ?_; rintro e w' ⟨rfl, rfl⟩))
            go_ret2
            exact ⟨by rw [HE2.out]; rfl, rfl⟩
end Go.Proofs.YtjmccobblpcbhaaDoor
