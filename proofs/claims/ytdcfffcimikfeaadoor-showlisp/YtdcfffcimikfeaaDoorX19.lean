/-
  NumW, PkW, PkAtW, PkSt, PkJnW, PkRnW, PkHoW, PkOpW, PsNam, PkRdW.
-/
import Derived.Shelf.Unicode.DecodeSlow
import Derived.Laws.RangeAny
import Derived.Shelf.Strings.Builder1
import Derived.Shelf.Small.Utf8
import Derived.Shelf.Small.Bits
import Derived.Shelf.Strings.BuilderF
import Derived.Shelf.Strings.BuilderK
import Derived.Shelf.Strings.BuilderRune
import Derived.Shelf.Utf8.AppendRune
import Derived.Shelf.Strconv.Itoa0
import Derived.Shelf.Strconv.Itoa1
import Derived.Shelf.LaysM
import Derived.Shelf.Strconv.Itoa2
import Derived.Shelf.Strconv.Itoa3
import Derived.Shelf.Strconv.Itoa4
import Derived.Shelf.Strings.Prefix
import Derived.Shelf.Unicode.DecodeAny
import Derived.Shelf.Slices.CompactS
import Derived.Ground.SlsfProg
import Derived.Shelf.SlSortCmp.Insertion
import Derived.Shelf.SlSortCmp.SiftDown1
import Derived.Shelf.SlSortCmp.HeapSort1
import Derived.Shelf.SlSortCmp.Insertion1
import Derived.Shelf.SlSortCmp.Median1
import Derived.Shelf.SlSortCmp.Pivot1
import Derived.Shelf.SlSortCmp.ReverseRange1
import Derived.Shelf.SlSortCmp.PartialInsertion1
import Derived.Shelf.SlSortCmp.PartitionEqual1
import Derived.Shelf.SlSortCmp.Partition1
import Derived.Shelf.SlSortCmp.Pdq1
import Derived.Shelf.SlSortCmp.Whole1
import Derived.Test.YtdcfffcimikfeaaDoorProg
import Derived.WalkKit
import Derived.Deep.DeepFit
import Derived.Lib.OthersKept
import Derived.Lib.RuneCountTail
import Derived.Lib.MapLaws
import Derived.Sort.Walk0
import Derived.Laws.DeepStrings4
import Derived.Lib.ItoaNum
import Derived.Deep.AppendLies
import Derived.Deep.OwnRows
import Derived.Laws.AppendOwnNone
import Derived.Deep.QuietTactic
import Derived.BigQuiet
import Derived.Deep.RegionWith
import Derived.Maps.OwnSet
import Derived.StringKeys
import Derived.Lib.QuietBelow
import Derived.StillTail
import Derived.Lib.Small
import Derived.Lib.Strings
import Derived.Deep.RegionHeld3
import Derived.Laws.ResultCell
import Derived.Deep.Heap
import Derived.Laws.Rows
import Derived.Deep.RegionLaw
import Derived.Laws.OwnMore
import Derived.Test.YtdcfffcimikfeaaDoorX01
import Derived.Test.YtdcfffcimikfeaaDoorX02
import Derived.Test.YtdcfffcimikfeaaDoorX03
import Derived.Test.YtdcfffcimikfeaaDoorX04
import Derived.Test.YtdcfffcimikfeaaDoorX05
import Derived.Test.YtdcfffcimikfeaaDoorX06
import Derived.Test.YtdcfffcimikfeaaDoorX07
import Derived.Test.YtdcfffcimikfeaaDoorX08
import Derived.Test.YtdcfffcimikfeaaDoorX09
import Derived.Test.YtdcfffcimikfeaaDoorX12
import Derived.Test.YtdcfffcimikfeaaDoorX13
import Derived.Test.YtdcfffcimikfeaaDoorX14
import Derived.Test.YtdcfffcimikfeaaDoorX17
import Derived.Test.YtdcfffcimikfeaaDoorX18
set_option linter.unusedSimpArgs false
set_option linter.unusedVariables false
namespace Go.Proofs.YtdcfffcimikfeaaDoor
open Go.RowKit Go.Lib

set_option maxHeartbeats 1000000 in
theorem number_out (s : ByteArray) (at_ : Int) (w : World) (h : at_ < 0 ∨ (s.size : Int) < at_) :
    Calls Tryd.prog 71 #[.string s, .int .i64 at_] w fun e w' => e = .returned (.tuple #[.int .u64 0, .int .i64 0, .int .i64 2]) ∧ Below w.heap.size w w' := by
  have hd : decide (at_ < 0 ∨ (s.size : Int) < at_) = true := by simpa using h
  have c1 : Hid (∀ W, Calls Tryd.prog 108 #[.string s, .int .i64 at_] W fun e w' => e = .returned (.bool true) ∧ w' = W) := fun W => by
    have := outside_any s at_ W; rw [hd] at this; exact this
  clear hd h
  go_enter Tryd.func71, Tryd.ntmps71
  go_wp2_with (go_at_call 108; refine (c1.out _).mono ?_; rintro e w2 ⟨rfl, hw⟩; obtain rfl := hw.symm)
  go_ret3
  exact ⟨rfl, Below.refl _ _⟩

theorem digZFirst (s : ByteArray) (pos : Nat) (h : pos ≤ s.size) : digZ ((decodeGo (s.extract pos s.size)).1 : Int) = digZ (rn s pos) := by
  by_cases hp : pos < s.size
  · rw [decGo_tail s pos hp, digZ_rn s pos hp]
  · have h0 : (s.extract pos s.size).size = 0 := by rw [tail_size]; omega
    simp only [decodeGo, h0, if_true, rn, hp, if_false]
    decide

set_option maxHeartbeats 1000000 in
theorem number_none (s : ByteArray) (pos : Nat) (w : World) (hT : Tabs w) (h : pos ≤ s.size) (hs : s.size ≤ maxLen) (hz : digZ (rn s pos) = 0) :
    Calls Tryd.prog 71 #[.string s, .int .i64 pos] w fun e w' => e = .returned (.tuple #[.int .u64 0, .int .i64 0, .int .i64 11]) ∧ Below w.heap.size w w' := by
  unfold maxLen at hs
  have hd : decide ((pos : Int) < 0 ∨ (s.size : Int) < pos) = false := by simp; omega
  have c1 : Hid (∀ W, Calls Tryd.prog 108 #[.string s, .int .i64 pos] W fun e w' => e = .returned (.bool false) ∧ w' = W) := fun W => by
    have := outside_any s pos W; rw [hd] at this; exact this
  clear hd
  have c2 : Hid (∀ W, Tabs W → Calls Tryd.prog 81 #[.string (s.extract pos s.size)] W fun e w' => e = .returned (.int .i32 (decodeGo (s.extract pos s.size)).1) ∧ Below W.heap.size W w') := first_any _
  rw [← digZFirst s pos h] at hz
  generalize ((decodeGo (s.extract pos s.size)).1 : Int) = r at *
  have hk : ¬ kd r = 2 := fun e => (kd_two r).1 e hz
  have hk' : ((spn r).2.2 != 2) = true := by simpa [kd] using hk
  have hpz : (pos : Int) ≤ (s.size : Int) := by omega
  have c3 : Hid (∀ W, SpanCells W → Calls Tryd.prog 109 #[.int .i32 r] W fun e w' => e = .returned (.agg #[.int .i32 (spn r).1, .int .i32 (spn r).2.1, .int .i64 (spn r).2.2]) ∧ Below W.heap.size W w') := spanOf_any r
  clear hk hz
  generalize spn r = p at *
  obtain ⟨a, b, c⟩ := p
  simp only at hk' c3
  go_enter Tryd.func71, Tryd.ntmps71
  go_wp2_with (first | (go_at_call 108; refine (c1.out _).mono ?_; rintro e w2 ⟨rfl, hw⟩; obtain rfl := hw.symm) | (go_at_call 81; refine (c2.out _ hT).mono ?_; rintro e w3 ⟨rfl, hb3⟩; have hT3 := hT.below hb3) | (go_at_call 109; refine (c3.out _ hT3.spans).mono ?_; rintro e w4 ⟨rfl, hb4⟩))
  go_ret3
  exact ⟨rfl, (hb3.trans (hb4.mono hb3.size)).alloc (by have := hb3.size; have := hb4.size; omega) _⟩

set_option maxHeartbeats 1000000 in
theorem number_some (s : ByteArray) (pos : Nat) (w : World) (hT : Tabs w) (h : pos ≤ s.size) (hs : s.size ≤ maxLen) (z : Int) (hz : digZ (rn s pos) = z) (h0 : z ≠ 0) :
    Calls Tryd.prog 71 #[.string s, .int .i64 pos] w fun e w' => e = .returned (.tuple #[.int .u64 (nuF s z s.size pos 0).1, .int .i64 (nuF s z s.size pos 0).2.1, .int .i64 (nuF s z s.size pos 0).2.2]) ∧ Below w.heap.size w w' := by
  unfold maxLen at hs
  have hd : decide ((pos : Int) < 0 ∨ (s.size : Int) < pos) = false := by simp; omega
  have c1 : Hid (∀ W, Calls Tryd.prog 108 #[.string s, .int .i64 pos] W fun e w' => e = .returned (.bool false) ∧ w' = W) := fun W => by
    have := outside_any s pos W; rw [hd] at this; exact this
  clear hd
  have c2 : Hid (∀ W, Tabs W → Calls Tryd.prog 81 #[.string (s.extract pos s.size)] W fun e w' => e = .returned (.int .i32 (decodeGo (s.extract pos s.size)).1) ∧ Below W.heap.size W w') := first_any _
  rw [← digZFirst s pos h] at hz
  generalize ((decodeGo (s.extract pos s.size)).1 : Int) = r at *
  subst hz
  have hc := digZ_cases r h0
  have hsp := spn_digit r h0
  have c3 : Hid (∀ W, SpanCells W → Calls Tryd.prog 109 #[.int .i32 r] W fun e w' => e = .returned (.agg #[.int .i32 (spn r).1, .int .i32 (spn r).2.1, .int .i64 (spn r).2.2]) ∧ Below W.heap.size W w') := spanOf_any r
  rw [hsp] at c3
  simp only at c3
  clear hsp h0
  generalize digZ r = z at *
  have HZ : Hid (z = 48 ∨ z = 1632 ∨ z = 65296) := hc
  have hz0 : 0 ≤ z := by omega
  have hz1 : z ≤ 65296 := by omega
  clear hc
  have hpz : (pos : Int) ≤ (s.size : Int) := by omega
  have hSz := tail_size s pos
  have HD : Hid (∀ i, Utf8.decode (s.extract pos s.size) i = Utf8.decode s (pos + i)) := dec_tail s pos
  go_enter Tryd.func71, Tryd.ntmps71
  go_wp2_with (first | (go_at_call 108; refine (c1.out _).mono ?_; rintro e w2 ⟨rfl, hw⟩; obtain rfl := hw.symm) | (go_at_call 81; refine (c2.out _ hT).mono ?_; rintro e w3 ⟨rfl, hb3⟩; have hT3 := hT.below hb3) | (go_at_call 109; refine (c3.out _ hT3.spans).mono ?_; rintro e w4 ⟨rfl, hb4⟩))
  clear c1 c2 c3
  have hB4 : Below w.heap.size w w4 := hb3.trans (hb4.mono hb3.size)
  have hsz : (w4.alloc (.cells #[.int .i32 z, .int .i32 (z + 9), .int .i64 2] 158)).heap.size = w4.heap.size + 1 := by simp
  have HSZ : Hid ((w4.alloc (.cells #[.int .i32 z, .int .i32 (z + 9), .int .i64 2] 158)).heap.size = w4.heap.size + 1) := hsz
  clear hsz
  generalize s.extract pos s.size = S at *
  go_loopw [8] (fun c w' => ∃ (q f n : Nat), It (w4.alloc (.cells #[.int .i32 z, .int .i32 (z + 9), .int .i64 2] 158)) S q w' ∧ c = .int .u64 n ∧ n ≤ 18446744073709551615 ∧ Hid (nuF s z f (pos + q) n = nuF s z s.size pos 0) ∧ s.size ≤ pos + q + f ∧ q ≤ S.size) (fun _ w' => S.size - w'.iterPos (w4.heap.size + 1))
  case atStart => exact ⟨0, s.size, 0, It.start _ S, rfl, by omega, rfl, by omega, by omega⟩
  case round =>
    obtain ⟨q, f, n, hI, rfl, hn, HN, hf, hqS⟩ := hrel
    have hm := hI.pos
    have hat := hI.at_
    rw [HSZ.out] at hm hat
    have z4 := hB4.size
    have e0 : wr.cell? ⟨w4.heap.size, 0, none⟩ = some (.int .i32 z) := by rw [hI.below.cell (p := ⟨w4.heap.size, 0, none⟩) (by rw [HSZ.out]; exact Nat.lt_succ_self _)]; simp
    have e1 : wr.cell? ⟨w4.heap.size, 1, none⟩ = some (.int .i32 (z + 9)) := by rw [hI.below.cell (p := ⟨w4.heap.size, 1, none⟩) (by rw [HSZ.out]; exact Nat.lt_succ_self _)]; simp
    have e2 : wr.cell? ⟨w4.heap.size, 2, none⟩ = some (.int .i64 2) := by rw [hI.below.cell (p := ⟨w4.heap.size, 2, none⟩) (by rw [HSZ.out]; exact Nat.lt_succ_self _)]; simp
    by_cases hp : q < S.size
    · have hps : pos + q < s.size := by omega
      have hnx : ∀ ty, (Instr.next (.pointer (some ⟨w4.heap.size + 1, 0, none⟩)) true ty).run Tryd.prog wr = _ := fun ty => run_next_any_at wr (w4.heap.size + 1) S q ty hat hp
      rw [HD.out q] at hnx
      obtain ⟨f, rfl⟩ : ∃ g, f = g + 1 := ⟨f - 1, by omega⟩
      have hw := width_pos s (pos + q) hps
      have hw2 := dec_le s (pos + q) hps
      have hI1 := hI.next (q + (Utf8.decode s (pos + q)).2)
      rw [HSZ.out] at hI1
      have g0 : (wr.iterAt (w4.heap.size + 1) S (q + (Utf8.decode s (pos + q)).2)).cell? ⟨w4.heap.size, 0, none⟩ = some (.int .i32 z) := by rw [hI1.below.cell (p := ⟨w4.heap.size, 0, none⟩) (by rw [HSZ.out]; exact Nat.lt_succ_self _)]; simp
      have g1 : (wr.iterAt (w4.heap.size + 1) S (q + (Utf8.decode s (pos + q)).2)).cell? ⟨w4.heap.size, 1, none⟩ = some (.int .i32 (z + 9)) := by rw [hI1.below.cell (p := ⟨w4.heap.size, 1, none⟩) (by rw [HSZ.out]; exact Nat.lt_succ_self _)]; simp
      have g2 : (wr.iterAt (w4.heap.size + 1) S (q + (Utf8.decode s (pos + q)).2)).cell? ⟨w4.heap.size, 2, none⟩ = some (.int .i64 2) := by rw [hI1.below.cell (p := ⟨w4.heap.size, 2, none⟩) (by rw [HSZ.out]; exact Nat.lt_succ_self _)]; simp
      have hx1 : Hid (¬ digZ (Utf8.decode s (pos + q)).1 = z → nuF s z (f + 1) (pos + q) n = (n, pos + q, 0)) := nuF_off s z (f + 1) (pos + q) n
      have hx2 : Hid (digZ (Utf8.decode s (pos + q)).1 = z → 18446744073709551615 < n * 10 + (digV (Utf8.decode s (pos + q)).1).toNat → nuF s z (f + 1) (pos + q) n = (0, 0, 10)) := nuF_large s z f (pos + q) n hps
      have hx3 : Hid (digZ (Utf8.decode s (pos + q)).1 = z → ¬ 18446744073709551615 < n * 10 + (digV (Utf8.decode s (pos + q)).1).toNat → nuF s z (f + 1) (pos + q) n = nuF s z f (pos + q + (Utf8.decode s (pos + q)).2) (n * 10 + (digV (Utf8.decode s (pos + q)).1).toNat)) := nuF_on s z f (pos + q) n hps
      generalize (Utf8.decode s (pos + q)).2 = v at *
      generalize ((Utf8.decode s (pos + q)).1 : Int) = r2 at *
      have c4 : Hid (∀ W, Calls Tryd.prog 110 #[.agg #[.int .i32 z, .int .i32 (z + 9), .int .i64 2], .int .i32 r2] W fun e w' => e = .returned (.bool (hasB z (z + 9) r2)) ∧ Below W.heap.size W w') := has_any z (z + 9) 2 r2
      have hdz := digZ_has z r2 HZ.out
      have HDZ : Hid (hasB z (z + 9) r2 = true ↔ digZ r2 = z) := hdz
      clear hdz
      cases ho : hasB z (z + 9) r2
      · rw [ho] at c4
        go_wp2_with (go_at_call 110; refine (c4.out _).mono ?_; rintro e w6 ⟨rfl, hb6⟩)
        go_ret3
        have hv : nuF s z s.size pos 0 = (n, pos + q, 0) := by rw [← HN.out, hx1.out (fun e => by have := HDZ.out.2 e; rw [ho] at this; cases this)]
        have hB5 := (hI1.call hb6).below
        exact ⟨ret3 (by rw [hv]) (by rw [hv]; simp only; omega) (by rw [hv]), hB4.trans ((((Below.refl _ _).alloc (Nat.le_refl _) _).trans (hB5.mono (by rw [HSZ.out]; omega))).mono z4)⟩
      · rw [ho] at c4
        have hd := HDZ.out.1 ho
        have hdv := digV_eq r2 (by rw [hd]; have := HZ.out; omega)
        rw [hd] at hdv
        have hb : z ≤ r2 ∧ r2 ≤ z + 9 := by simpa [hasB] using ho
        obtain ⟨hb1, hb2⟩ := hb
        have HDV : Hid (digV r2 = r2 - z) := hdv.1
        clear hdv
        have HD2 : Hid (digZ r2 = z) := hd
        clear hd
        by_cases hl : (18446744073709551615 - (r2 - z)) / 10 < (n : Int)
        · go_wp2_with fail
          refine (c4.out _).mono ?_
          rintro e w6 ⟨rfl, hb6⟩
          have hI6 := hI1.call hb6
          have k0 : w6.cell? ⟨w4.heap.size, 0, none⟩ = some (.int .i32 z) := by rw [hI6.below.cell (p := ⟨w4.heap.size, 0, none⟩) (by rw [HSZ.out]; exact Nat.lt_succ_self _)]; simp
          clear e0 e1 e2 g0 g1 g2
          go_wp2
          go_ret3
          have hv : nuF s z s.size pos 0 = (0, 0, 10) := by rw [← HN.out, hx2.out HD2.out (by rw [HDV.out]; omega)]
          exact ⟨ret3 (by rw [hv]; rfl) (by rw [hv]; rfl) (by rw [hv]), hB4.trans ((((Below.refl _ _).alloc (Nat.le_refl _) _).trans (hI6.below.mono (by rw [HSZ.out]; omega))).mono z4)⟩
        · have hle : (n : Int) * 10 + (r2 - z) ≤ 18446744073709551615 := by omega
          go_wp2_with fail
          refine (c4.out _).mono ?_
          rintro e w6 ⟨rfl, hb6⟩
          have hI6 := hI1.call hb6
          have hm6 := hI6.pos
          rw [HSZ.out] at hm6
          have k0 : w6.cell? ⟨w4.heap.size, 0, none⟩ = some (.int .i32 z) := by rw [hI6.below.cell (p := ⟨w4.heap.size, 0, none⟩) (by rw [HSZ.out]; exact Nat.lt_succ_self _)]; simp
          clear e0 e1 e2 g0 g1 g2
          have hnat : ((r2 - z).toNat : Int) = r2 - z := by omega
          have HNat : Hid (((r2 - z).toNat : Int) = r2 - z) := hnat
          clear hnat
          have hx : Hid (nuF s z f (pos + (q + v)) (n * 10 + (r2 - z).toNat) = nuF s z s.size pos 0) := by
            show _ = _
            rw [← HN.out, hx3.out HD2.out (by rw [HDV.out]; omega), HDV.out, Nat.add_assoc]
          go_wp2
          have hnn := HNat.out
          refine ⟨⟨q + v, f, n * 10 + (r2 - z).toNat, hI6, congrArg (Value.int .u64) (by omega), by omega, hx, by omega, by omega⟩, ?_⟩
          rw [hm6, hm]; omega
    · have hnx : ∀ ty, (Instr.next (.pointer (some ⟨w4.heap.size + 1, 0, none⟩)) true ty).run Tryd.prog wr = _ := fun ty => run_next_end_at wr (w4.heap.size + 1) S q ty hat hp
      go_wp2
      go_ret3
      have hv : nuF s z s.size pos 0 = (n, pos + q, 0) := by rw [← HN.out, nuF_end s z f (pos + q) n (by omega)]
      exact ⟨ret3 (by rw [hv]) (by rw [hv]; simp only; omega) (by rw [hv]), hB4.trans ((((Below.refl _ _).alloc (Nat.le_refl _) _).trans (hI.below.mono (by rw [HSZ.out]; omega))).mono z4)⟩

theorem number_any (s : ByteArray) (at_ : Int) (w : World) (hT : Tabs w) (hs : s.size ≤ maxLen) :
    Calls Tryd.prog 71 #[.string s, .int .i64 at_] w fun e w' => e = .returned (.tuple #[.int .u64 (numI s at_).1, .int .i64 (numI s at_).2.1, .int .i64 (numI s at_).2.2]) ∧ Below w.heap.size w w' := by
  by_cases h : at_ < 0 ∨ (s.size : Int) < at_
  · have hv : numI s at_ = (0, 0, 2) := by simp [numI, h]
    rw [hv]
    exact number_out s at_ w h
  · have hv : numI s at_ = numP s at_.toNat := by simp [numI, h]
    rw [hv]
    by_cases hz : digZ (rn s at_.toNat) = 0
    · have hv2 : numP s at_.toNat = (0, 0, 11) := by simp [numP, hz]
      rw [hv2]
      have := number_none s at_.toNat w hT (by omega) hs hz
      rw [Int.toNat_of_nonneg (by omega)] at this
      exact this
    · have hv2 : numP s at_.toNat = nuF s (digZ (rn s at_.toNat)) s.size at_.toNat 0 := by simp [numP, hz]
      rw [hv2]
      have := number_some s at_.toNat w hT (by omega) hs _ rfl hz
      rw [Int.toNat_of_nonneg (by omega)] at this
      exact this
end Go.Proofs.YtdcfffcimikfeaaDoor

set_option linter.unusedSimpArgs false
set_option linter.unusedVariables false
namespace Go.Proofs.YtdcfffcimikfeaaDoor
open Go.RowKit Go.Lib

/-- The text, and whether holes may stand in it. -/
structure TxAt (w : World) (B : Nat) (s : ByteArray) (pat : Bool) : Prop where
  text : w.cell? ⟨B, 0, none⟩ = some (.string s)
  pat_ : w.cell? ⟨B, 1, none⟩ = some (.bool pat)
theorem TxAt.lt {w : World} {B : Nat} {s : ByteArray} {pat : Bool} (h : TxAt w B s pat) : B < w.heap.size := World.block_lt_of_cell? w _ h.text
theorem TxAt.below {w w' : World} {B : Nat} {s : ByteArray} {pat : Bool} (h : TxAt w B s pat) (hb : Below w.heap.size w w') : TxAt w' B s pat :=
  ⟨(hb.cell (p := ⟨B, 0, none⟩) h.lt).trans h.text, (hb.cell (p := ⟨B, 1, none⟩) h.lt).trans h.pat_⟩

end Go.Proofs.YtdcfffcimikfeaaDoor

set_option linter.unusedSimpArgs false
set_option linter.unusedVariables false
namespace Go.Proofs.YtdcfffcimikfeaaDoor
open Go.RowKit Go.Lib
open Go.Sort (grow)

/-- What the parser gives up with. -/
def fltV (p : Nat) (e : Int) : Value := .iface 111 (.agg #[.int .i64 p, .int .i64 e])
/-- How a call ends. -/
def Ends {α : Type} (x : Pr α) (e : Ending) (Q : α → Prop) : Prop := match x with
  | .ok a => Q a
  | .bad p er => e = .panicked [{ v := fltV p er, recovered := false }]
  | .out => True

/-- Five cells. -/
structure Tk5 (w : World) (F : Nat) (a b c d e : Value) : Prop where
  blk : w.heap[F]? = some (.cells #[a, b, c, d, e] 114 (0, 0))
theorem Tk5.lt {w : World} {F : Nat} {a b c d e : Value} (h : Tk5 w F a b c d e) : F < w.heap.size := lt_of_block h.blk
theorem Tk5.below {w w' : World} {F : Nat} {a b c d e : Value} (h : Tk5 w F a b c d e) (hb : Below w.heap.size w w') : Tk5 w' F a b c d e := ⟨(hb.block _ h.lt).trans h.blk⟩
theorem Tk5.cells {w : World} {F : Nat} {a b c d e : Value} (h : Tk5 w F a b c d e) : w.cell? ⟨F, 0, none⟩ = some a ∧ w.cell? ⟨F, 1, none⟩ = some b ∧ w.cell? ⟨F, 2, none⟩ = some c ∧ w.cell? ⟨F, 3, none⟩ = some d ∧ w.cell? ⟨F, 4, none⟩ = some e := by
  simp [World.cell?, h.blk]
theorem Tk5.frozen {w : World} {F : Nat} {a b c d e : Value} (h : Tk5 w F a b c d e) (i : Nat) : w.frozen? ⟨F, i, none⟩ = false := by simp [World.frozen?, h.blk]
theorem Tk5.set {w : World} {F i : Nat} {a b c d e u : Value} (h : Tk5 w F a b c d e) : (w.setCell ⟨F, i, none⟩ u).heap[F]? = some (.cells (#[a, b, c, d, e].setIfInBounds i u) 114 (0, 0)) := heap_setCell_same w F i _ _ u h.blk

def set5 (w : World) (R : Nat) (v0 v1 v2 v3 v4 : Value) : World := ((((w.setCell ⟨R, 0, none⟩ v0).setCell ⟨R, 1, none⟩ v1).setCell ⟨R, 2, none⟩ v2).setCell ⟨R, 3, none⟩ v3).setCell ⟨R, 4, none⟩ v4
end Go.Proofs.YtdcfffcimikfeaaDoor

set_option linter.unusedSimpArgs false
set_option linter.unusedVariables false
namespace Go.Proofs.YtdcfffcimikfeaaDoor
open Go.RowKit Go.Lib

def psCs (s : ByteArray) (pat : Bool) (t : Tk) (v : Value) (brk : Nat) : Array Value := #[.string s, .bool pat, .int .i32 t.what, .int .i64 t.from_, .int .i64 t.to, .int .u64 t.n, .int .i64 t.err, v, .int .i64 brk]
/-- Block B is the parser in the state st; v holds its nodes. -/
structure PsM (w : World) (B : Nat) (s : ByteArray) (pat : Bool) (st : Ps) (v : Value) : Prop where
  blk : w.heap[B]? = some (.cells (psCs s pat st.now v st.brk) 119 (0, 0))
  own : OwnN w (B + 1) v st.nodes
theorem PsM.lt {w : World} {B : Nat} {s : ByteArray} {pat : Bool} {st : Ps} {v : Value} (h : PsM w B s pat st v) : B < w.heap.size := lt_of_block h.blk
theorem PsM.below {w w' : World} {B : Nat} {s : ByteArray} {pat : Bool} {st : Ps} {v : Value} (h : PsM w B s pat st v) (hb : Below w.heap.size w w') : PsM w' B s pat st v :=
  ⟨(hb.block _ h.lt).trans h.blk, h.own.below hb⟩
theorem PsM.cell {w : World} {B : Nat} {s : ByteArray} {pat : Bool} {st : Ps} {v : Value} (h : PsM w B s pat st v) (i : Nat) : w.cell? ⟨B, i, none⟩ = (psCs s pat st.now v st.brk)[i]? := by simp [World.cell?, h.blk]
theorem PsM.frozen {w : World} {B : Nat} {s : ByteArray} {pat : Bool} {st : Ps} {v : Value} (h : PsM w B s pat st v) (i : Nat) : w.frozen? ⟨B, i, none⟩ = false := by simp [World.frozen?, h.blk]

/-- The tables lie below the parser, since the world w0. -/
structure PEnv (w0 : World) (B : Nat) (w : World) : Prop where
  tabs : Tabs w0
  le : w0.heap.size ≤ B
  bel : Below w0.heap.size w0 w
theorem PEnv.next {w0 : World} {B : Nat} {w w' : World} (h : PEnv w0 B w) (hb : Below B w w') : PEnv w0 B w' := ⟨h.tabs, h.le, h.bel.trans (hb.mono h.le)⟩

theorem Ends.mono {α : Type} {x : Pr α} {e : Ending} {Q Q' : α → Prop} (h : Ends x e Q) (hq : ∀ a, x = .ok a → Q a → Q' a) : Ends x e Q' := by
  cases x with
  | ok a => exact hq a rfl h
  | bad p er => exact h
  | out => trivial
theorem Ends.map {α β : Type} {x : Pr α} {e : Ending} {f : α → β} {Q : β → Prop} (h : Ends x e (fun a => Q (f a))) : Ends (x.bind fun a => .ok (f a)) e Q := by
  cases x with
  | ok a => exact h
  | bad p er => exact h
  | out => trivial

end Go.Proofs.YtdcfffcimikfeaaDoor

set_option linter.unusedSimpArgs false
set_option linter.unusedVariables false
namespace Go.Proofs.YtdcfffcimikfeaaDoor
open Go.RowKit Go.Lib Go.Sort

/-- What is known where a rule begins. -/
structure RB (w0 w : World) (B : Nat) (s : ByteArray) (pat : Bool) (st : Ps) (v : Value) : Prop where
  env : PEnv w0 B w
  mem : PsM w B s pat st v
  ok : StN s st
theorem RB.next {w0 w w' : World} {B : Nat} {s : ByteArray} {pat : Bool} {st st' : Ps} {v v' : Value} (h : RB w0 w B s pat st v) (hb : RowKit.Below B w w') (hm : PsM w' B s pat st' v') (ho : StN s st') : RB w0 w' B s pat st' v' := ⟨h.env.next hb, hm, ho⟩
theorem RB.to {w0 w : World} {B : Nat} {s : ByteArray} {pat : Bool} {st : Ps} {v : Value} (h : RB w0 w B s pat st v) (he : st.now.err = 0) : st.now.to ≤ s.size := (h.ok.st.tk.good he).2.1
theorem RB.len {w0 w : World} {B : Nat} {s : ByteArray} {pat : Bool} {st : Ps} {v : Value} (h : RB w0 w B s pat st v) (hs : s.size ≤ 4096) : st.nodes.length ≤ 100000 := by
  have := h.ok.st.few
  have := h.ok.st.tk.in_
  omega
end Go.Proofs.YtdcfffcimikfeaaDoor

set_option linter.unusedSimpArgs false
set_option linter.unusedVariables false
namespace Go.Proofs.YtdcfffcimikfeaaDoor
open Go.RowKit Go.Lib Go.Sort

/-- The whole rule, with fuel enough. -/
def psFuel (s : ByteArray) : Nat := 13 * s.size + 12
end Go.Proofs.YtdcfffcimikfeaaDoor

set_option linter.unusedSimpArgs false
set_option linter.unusedVariables false
namespace Go.Proofs.YtdcfffcimikfeaaDoor
open Go.RowKit Go.Lib Go.Sort Go.Maps

/-- Between two nodes: the holes ahead of k are counted. -/
structure HoMid (w : World) (l : List Nd) (M : Nat) (k : Nat) (wr : World) : Prop where
  map : ∃ n, n ≤ k ∧ CntM wr M n (hlsL (l.take k))
  below : RowKit.Below w.heap.size w wr
  le : w.heap.size ≤ M
theorem HoMid.skip {w : World} {l : List Nd} {M k : Nat} {wr : World} (h : HoMid w l M k wr) (hk : k < l.length) (hop : (l.getD k nd0).op ≠ 18) (o : Obj) : HoMid w l M (k + 1) (wr.alloc o) := by
  obtain ⟨⟨n, hn, hm⟩, hb, hle⟩ := h
  refine ⟨⟨n, by omega, ?_⟩, hb.alloc hb.size _, hle⟩
  have e : hlsL (l.take (k + 1)) = hlsL (l.take k) := by
    rw [List.take_succ_eq_append_getElem hk, hlsL_snoc]
    have e : l.getD k nd0 = l[k] := by simp [hk]
    rw [e] at hop
    simp [addNm, hop]
  rw [e]; exact hm.alloc _
theorem HoMid.fill {w : World} {l : List Nd} {M k : Nat} {wr w' : World} {o : Obj} {n : Nat} (h : HoMid w l M k wr) (hk : k < l.length) (hop : (l.getD k nd0).op = 18) (hn : n ≤ k)
    (hm : CntM w' M (n + 1) (if (hlsL (l.take k)).any (fun y => decide (y = (l.getD k nd0).name)) = true then hlsL (l.take k) else hlsL (l.take k) ++ [(l.getD k nd0).name])) (hg : (wr.alloc o).grownBy w' (some M)) : HoMid w l M (k + 1) w' := by
  obtain ⟨_, hb, hle⟩ := h
  have hs := hb.size
  have hbA : Below w.heap.size w (wr.alloc o) := hb.alloc hs _
  have e : l.getD k nd0 = l[k] := by simp [hk]
  refine ⟨⟨n + 1, by omega, ?_⟩, hbA.grown hg (by simp; omega) (fun k hk => by cases hk; exact hle), hle⟩
  have e2 : hlsL (l.take (k + 1)) = addNm (hlsL (l.take k)) (l.getD k nd0) := by rw [List.take_succ_eq_append_getElem hk, hlsL_snoc, e]
  have e3 : addNm (hlsL (l.take k)) (l.getD k nd0) = if (hlsL (l.take k)).any (fun y => decide (y = (l.getD k nd0).name)) = true then hlsL (l.take k) else hlsL (l.take k) ++ [(l.getD k nd0).name] := by unfold addNm; rw [if_pos hop]
  rw [e2, e3]
  exact hm

end Go.Proofs.YtdcfffcimikfeaaDoor

set_option linter.unusedSimpArgs false
set_option linter.unusedVariables false
namespace Go.Proofs.YtdcfffcimikfeaaDoor
open Go.RowKit Go.Lib Go.Sort

/-- Seven cells. -/
def Tn7 (w : World) (R : Nat) (a : Array Value) : Prop := w.heap[R]? = some (.cells a 116 (0, 0))
theorem Tn7.cells {w : World} {R : Nat} {a b c d e f g : Value} (h : Tn7 w R #[a, b, c, d, e, f, g]) : w.cell? ⟨R, 0, none⟩ = some a ∧ w.cell? ⟨R, 1, none⟩ = some b ∧ w.cell? ⟨R, 2, none⟩ = some c ∧ w.cell? ⟨R, 3, none⟩ = some d ∧ w.cell? ⟨R, 4, none⟩ = some e ∧ w.cell? ⟨R, 5, none⟩ = some f ∧ w.cell? ⟨R, 6, none⟩ = some g := by
  unfold Tn7 at h
  simp [World.cell?, h]
theorem Tn7.frozen {w : World} {R : Nat} {a : Array Value} (h : Tn7 w R a) (i : Nat) : w.frozen? ⟨R, i, none⟩ = false := by
  unfold Tn7 at h
  simp [World.frozen?, h]
/-- What open comes to. -/
def psOpen (s : ByteArray) : Pr Unit := if 4096 < s.size then .bad 0 3 else if (chk s).2 = 0 then .ok () else .bad (chk s).1 (chk s).2

end Go.Proofs.YtdcfffcimikfeaaDoor

set_option linter.unusedSimpArgs false
set_option linter.unusedVariables false
namespace Go.Proofs.YtdcfffcimikfeaaDoor
open Go.Lib

def SzOk (s : ByteArray) (st : Ps) : Prop := ∀ x ∈ st.nodes, x.name.size ≤ s.size
theorem SzOk.add {s : ByteArray} {st : Ps} {x : Nd} (h : SzOk s st) (hx : x.name.size ≤ s.size) : SzOk s (psAdd x st).2 := by
  intro y hy
  have hy : y ∈ st.nodes ++ [x] := hy
  rcases List.mem_append.1 hy with h1 | h1
  · exact h y h1
  · rw [List.mem_singleton.1 h1]; exact hx
theorem SzOk.nx {s : ByteArray} {pat : Bool} {most : Nat} {st st1 : Ps} (h : SzOk s st) (hn : psNx s pat most st = .ok st1) : SzOk s st1 := by
  obtain ⟨t, _, h2⟩ := Pr.bind_ok hn
  cases h2; exact h
theorem SzOk.ex {s : ByteArray} {pat : Bool} {c : Int} {st st1 : Ps} (h : SzOk s st) (hn : psEx s pat c st = .ok st1) : SzOk s st1 := by
  unfold psEx at hn
  split at hn
  · split at hn
    · exact h.nx hn
    · cases hn
  · cases hn
end Go.Proofs.YtdcfffcimikfeaaDoor

set_option linter.unusedSimpArgs false
set_option linter.unusedVariables false
namespace Go.Proofs.YtdcfffcimikfeaaDoor
open Go.RowKit Go.Lib Go.Sort

def st00 : Ps := ⟨⟨0, 0, 0, 0, 0⟩, [], 0⟩
/-- What read comes to. -/
def psRead (s : ByteArray) (pat : Bool) (most : Nat) : Pr (List Nd) :=
  (psOpen s).bind fun _ => (psNx s pat mx63 st00).bind fun st1 => (psRun s pat (psFuel s) .cond st1).bind fun r => (psEx s pat 0 r.2).bind fun st3 =>
    if most < st3.nodes.length then .bad s.size 10 else if 6 < (hlsL st3.nodes).length then .bad s.size 10 else .ok st3.nodes
/-- The results, where nothing is stored yet, at N. -/
def Res0 (w : World) (N : Nat) : Prop := w.heap[N]? = some (.cells #[.slice none 0 0] 22 (0, 0)) ∧ w.heap[N + 1]? = some (.cells #[.int .i64 0] 3 (0, 0)) ∧ w.heap[N + 1 + 1]? = some (.cells #[.int .i64 0] 24 (0, 0))
theorem Res0.below {w w' : World} {N L : Nat} (h : Res0 w N) (hb : Below L w w') (hL : N + 3 ≤ L) : Res0 w' N := ⟨(hb.block _ (by omega)).trans h.1, (hb.block _ (by omega)).trans h.2.1, (hb.block _ (by omega)).trans h.2.2⟩
end Go.Proofs.YtdcfffcimikfeaaDoor
