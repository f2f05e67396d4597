/-
  The reader of environments, walked: goTo, ended, comma, minus, name, number.
-/
import Derived.Test.YtpdohdmpjaklgaaDoorEvRdP
import Derived.Test.YtpdohdmpjaklgaaDoorEvSmW
import Derived.Test.YtpdohdmpjaklgaaDoorQTail
set_option linter.unusedSimpArgs false
set_option linter.unusedVariables false
namespace Go.Proofs.YtpdohdmpjaklgaaDoor
open Go.RowKit Go.Lib Go.Sort

/-- Block R is a reader of s at the place a. -/
structure RdE (w : World) (R : Nat) (s : ByteArray) (a : Nat) : Prop where
  blk : w.heap[R]? = some (.cells #[.string s, .int .i64 (a : Int)] 57 (0, 0))
theorem RdE.lt {w : World} {R : Nat} {s : ByteArray} {a : Nat} (h : RdE w R s a) : R < w.heap.size := lt_of_block h.blk
theorem RdE.below {w w' : World} {R : Nat} {s : ByteArray} {a : Nat} (h : RdE w R s a) (hb : Below w.heap.size w w') : RdE w' R s a := ⟨(hb.block _ h.lt).trans h.blk⟩
theorem RdE.cells {w : World} {R : Nat} {s : ByteArray} {a : Nat} (h : RdE w R s a) : w.cell? ⟨R, 0, none⟩ = some (.string s) ∧ w.cell? ⟨R, 1, none⟩ = some (.int .i64 (a : Int)) := by
  constructor <;> simp [World.cell?, h.blk]
theorem RdE.frozen {w : World} {R : Nat} {s : ByteArray} {a : Nat} (h : RdE w R s a) (i : Nat) : w.frozen? ⟨R, i, none⟩ = false := by simp [World.frozen?, h.blk]
theorem RdE.at_ {w : World} {R : Nat} {s : ByteArray} {a : Nat} (h : RdE w R s a) (b : Nat) : RdE (w.setCell ⟨R, 1, none⟩ (.int .i64 (b : Int))) R s b := ⟨by simpa using heap_setCell_same w R 1 _ _ (.int .i64 (b : Int)) h.blk⟩
theorem grE_below {w w' : World} (h : RowKit.Below w.heap.size w w') (row : Option Nat) : w.grownBy w' row := ⟨h.os, h.tape, h.output, h.size, fun k hk _ => h.block k hk⟩
theorem grE_set {w0 w : World} {B o : Nat} {u : Value} (h : w0.grownBy w (some B)) : w0.grownBy (w.setCell ⟨B, o, none⟩ u) (some B) :=
  ⟨h.os, h.tape, h.output, by simpa [World.setCell] using h.size, fun k hk hne => (Below.heap_setCell _ _ _ _ (fun e => hne (by rw [e]))).trans (h.block k hk hne)⟩
theorem grE_trans {w w1 w2 : World} {R : Nat} (h : w.grownBy w1 (some R)) (hb : Below w1.heap.size w1 w2) : w.grownBy w2 (some R) := h.trans (grE_below hb _)
theorem belowE_gr {w w' : World} {B : Nat} (h : w.grownBy w' (some B)) (hB : B ≤ w.heap.size) : RowKit.Below B w w' := ⟨h.os, h.tape, h.output, h.size, fun k hk => h.block k (by omega) (by intro e; cases e; omega)⟩
/-- Tables that lie ahead of the reader. -/
structure TbR (w : World) (R : Nat) : Prop where
  t : Tabs w
  lt : 0 < R
  lt2 : 3 < R
  lt3 : 4 < R
theorem TbR.below {w w' : World} {R : Nat} (h : TbR w R) (hb : Below w.heap.size w w') : TbR w' R := ⟨h.t.below hb, h.lt, h.lt2, h.lt3⟩

set_option maxRecDepth 100000 in
set_option maxHeartbeats 2000000 in
theorem goTo_any (w : World) (R : Nat) (s : ByteArray) (b a : Nat) (hT : SpanCells w) (hM : RdE w R s b) (hs : s.size ≤ 4096) (ha : a ≤ s.size) :
    Calls Tryd.prog 54 #[.pointer (some ⟨R, 0, none⟩), .int .i64 (a : Int)] w fun x w' => x = .returned (.tuple #[]) ∧ RdE w' R s (skE s a) ∧ w.grownBy w' (some R) := by
  obtain ⟨c0, c1⟩ := hM.cells
  have hl := hM.lt
  obtain ⟨T, hTT⟩ : ∃ T, skE s a = T := ⟨_, rfl⟩
  have HT0 : Hid (psSkip s s.size a = T) := hTT
  rw [hTT]
  clear hTT
  have HM : Hid (RdE w R s b) := hM
  have HT : Hid (SpanCells w) := hT
  clear hM hT
  obtain ⟨t, ht⟩ : ∃ t, s.extract a s.size = t := ⟨_, rfl⟩
  have hts : t.size = s.size - a := by rw [← ht]; exact tail_size s a
  have hdt : ∀ q, Utf8.decode t q = Utf8.decode s (a + q) := fun q => by rw [← ht]; exact dec_tail s a q
  have HD : Hid (∀ q, Utf8.decode t q = Utf8.decode s (a + q)) := hdt
  have hai : (a : Int) ≤ (s.size : Int) := by omega
  clear hdt
  go_enter Tryd.func54, Tryd.ntmps54
  go_wp2_with fail
  go_loopw [] (fun wr => ∃ pos f : Nat, It w t pos wr ∧ Hid (psSkip s f (a + pos) = T) ∧ s.size ≤ a + pos + f ∧ pos ≤ t.size) (fun wr => t.size - wr.iterPos w.heap.size)
  case atStart => exact ⟨0, s.size, It.start w t, by rw [Nat.add_zero]; exact HT0.out, by omega, by omega⟩
  case round =>
    obtain ⟨pos, f, hI, HN, hf, hpt⟩ := hrel
    have hm := hI.pos
    have hMr := HM.out.below hI.below
    by_cases hp : pos < t.size
    · have hnx : ∀ ty, (Instr.next (.pointer (some ⟨w.heap.size, 0, none⟩)) true ty).run Tryd.prog wr = _ := fun ty => run_next_any_at wr w.heap.size t pos ty hI.at_ hp
      obtain ⟨f, rfl⟩ : ∃ g, f = g + 1 := ⟨f - 1, by omega⟩
      have hw := width_pos t pos hp
      have hw2 := dec_le t pos hp
      have hd := HD.out pos
      have hps : a + pos < s.size := by omega
      have hon := skip_on s f (a + pos) hps
      have hoff := skip_off s (f + 1) (a + pos) hps
      rw [← hd] at hon hoff
      generalize (Utf8.decode t pos).2 = v at *
      generalize ((Utf8.decode t pos).1 : Int) = r at *
      have hI1 := hI.next (pos + v)
      have hT1 := HT.out.below hI1.below
      have hM1 := HM.out.below hI1.below
      clear hd
      by_cases hk : kd r = 3
      · have HX : Hid (psSkip s f (a + (pos + v)) = T) := by show _ = T; rw [← HN.out, hon hk, Nat.add_assoc]
        clear hon hoff
        go_wp2_with (go_at_call 45; refine (kind_any _ _ hT1).mono ?_; rw [hk]; rintro e w2 ⟨rfl, hb2⟩)
        have hI2 := hI1.call hb2
        refine ⟨⟨pos + v, f, hI2, HX.out, by omega, by omega⟩, ?_⟩
        rw [hI2.pos, hm]; omega
      · have HX : Hid (a + pos = T) := by show _ = T; rw [← HN.out, hoff hk]
        have gk : (kd r == 3) = false := by simp [hk]
        have cK : Hid (Calls Tryd.prog 45 #[.int .i32 r] (wr.iterAt w.heap.size t (pos + v)) fun e w' => e = .returned (.int .i64 (kd r)) ∧ Below (wr.iterAt w.heap.size t (pos + v)).heap.size (wr.iterAt w.heap.size t (pos + v)) w') := kind_any r _ hT1
        generalize kd r = kk at *
        clear hon hoff hk
        have h63 : (a : Int) + pos ≤ 4096 := by omega
        go_wp2_with (go_at_call 45; refine cK.out.mono ?_; rintro e w2 ⟨rfl, hb2⟩; have hM2 := hM1.below hb2; have k1 := hM2.cells.2; have kf := hM2.frozen 1)
        refine bodyPost_ret (results_none rfl _ _ _) rfl ?_
        have HR8 := hM2.at_ (a + pos)
        rw [show ((a + pos : Nat) : Int) = (a : Int) + pos by omega] at HR8
        refine ⟨rfl, by rw [← HX.out]; exact HR8, grE_set (grE_below ((hI1.call hb2).below) _)⟩
    · have hnx : ∀ ty, (Instr.next (.pointer (some ⟨w.heap.size, 0, none⟩)) true ty).run Tryd.prog wr = _ := fun ty => run_next_end_at wr w.heap.size t pos ty hI.at_ hp
      have HX : Hid (s.size = T) := by show _ = T; rw [← HN.out, skip_end s f _ (by omega)]; omega
      obtain ⟨d0, d1⟩ := hMr.cells
      have df := hMr.frozen 1
      go_wp2_with fail
      go_end0
      exact ⟨rfl, by rw [← HX.out]; exact hMr.at_ s.size, grE_set (grE_below hI.below _)⟩

set_option maxRecDepth 100000 in
set_option maxHeartbeats 2000000 in
theorem ended_any (w : World) (R : Nat) (s : ByteArray) (a : Nat) (hM : RdE w R s a) :
    Calls Tryd.prog 55 #[.pointer (some ⟨R, 0, none⟩)] w fun x w' => x = .returned (.bool (decide (a = s.size))) ∧ Below w.heap.size w w' := by
  obtain ⟨c0, c1⟩ := hM.cells
  have hl := hM.lt
  have g0 := cell_regrown c0
  have g1 := cell_regrown c1
  have e : decide (a = s.size) = ((a : Int) == (s.size : Int)) := by
    by_cases h : a = s.size
    · simp [h]
    · rw [decide_eq_false h]; symm; simp; omega
  rw [e]
  clear e
  go_enter Tryd.func55, Tryd.ntmps55
  go_wp2_with fail
  refine wp_region_quiet_below (by kernel_rfl) (by kernel_rfl) ?_
  iterate 11 (go_big_quiet_step (fail))
  refine wpQuiet_nil ?_
  intro _ hw'
  obtain ⟨⟨ds, oss⟩, hw''⟩ := hw'
  subst hw''
  have b4 := below_regrown w ds oss
  generalize grow (redrawn w ds) oss = w6 at *
  go_wp2_with fail
  go_ret
  exact ⟨rfl, b4⟩

set_option maxHeartbeats 1000000 in
theorem hasPrefix_any (s p : ByteArray) (w : World) (hs : s.size ≤ maxLen) (hp : p.size ≤ 16) :
    Calls Tryd.prog 71 #[.string s, .string p] w fun e w' => e = .returned (.bool (preB s p)) ∧ w' = w := by
  have c := hasPre_any s p w hs hp
  generalize preB s p = R at *
  have cH : Hid (Calls Tryd.prog 84 #[.string s, .string p] w fun e w' => e = .returned (.bool R) ∧ w' = w) := c
  clear c
  go_enter Tryd.func71, Tryd.ntmps71
  go_wp2_with (go_at_call 84; refine cH.out.mono ?_; rintro e w2 ⟨rfl, hw⟩; obtain rfl := hw.symm)
  go_ret
  exact ⟨rfl, rfl⟩
theorem get_at (s : ByteArray) (i : Nat) (h : i < s.size) : s.data.toList[i]? = some (s.get! i) := by
  have h' : i < s.data.size := h
  show s.data.toList[i]? = some s.data[i]!
  rw [Array.getElem?_toList, getElem!_pos s.data i h']
  exact Array.getElem?_eq_getElem h'
theorem get_tail (s : ByteArray) (p : Nat) (h : p < s.size) : (s.extract p s.size).get! 0 = s.get! p := by
  have h1 := get_at (s.extract p s.size) 0 (by rw [tail_size]; omega)
  rw [extract_data, List.getElem?_take, if_pos (by omega), List.getElem?_drop, Nat.add_zero, get_at s p h] at h1
  simpa using h1.symm
theorem head_one (s : ByteArray) (h : 1 ≤ s.size) : (s.extract 0 1).toList = [s.get! 0] := by
  rw [toList_data]
  have : (s.extract 0 1).data.toList = s.data.toList.take 1 := by simp [extract_data]
  rw [this]
  obtain ⟨d⟩ := s
  obtain ⟨l⟩ := d
  cases l with
  | nil => exact absurd h (by decide)
  | cons a l => rfl
theorem preB_one (s : ByteArray) (p : Nat) (hp : p ≤ s.size) (c : UInt8) : preB (s.extract p s.size) ⟨#[c]⟩ = byB s p c := by
  unfold preB byB
  have h1 : (⟨#[c]⟩ : ByteArray).size = 1 := rfl
  rw [h1, tail_size]
  by_cases h : p < s.size
  · rw [decide_eq_true h, decide_eq_true (by omega), head_one _ (by rw [tail_size]; omega), get_tail s p h]
    simp [toList_data]
  · rw [decide_eq_false h, decide_eq_false (by omega)]; rfl

theorem idx0 (w : World) : (Instr.index 147 (.agg #[.string ⟨#[45]⟩, .string ⟨#[226, 136, 146]⟩]) (.int .i64 0)).run Tryd.prog w = .ok (.string ⟨#[45]⟩) w := by kernel_rfl
theorem idx1 (w : World) : (Instr.index 147 (.agg #[.string ⟨#[45]⟩, .string ⟨#[226, 136, 146]⟩]) (.int .i64 1)).run Tryd.prog w = .ok (.string ⟨#[226, 136, 146]⟩) w := by kernel_rfl
set_option maxRecDepth 100000 in
set_option maxHeartbeats 2000000 in
theorem minus_any (s : ByteArray) (c : Nat) (hc : c ≤ s.size) (w : World) (hs : s.size ≤ 4096) :
    Calls Tryd.prog 85 #[.string (s.extract c s.size)] w fun e w' => e = .returned (.int .i64 (mwd s c : Int)) ∧ w' = w := by
  obtain ⟨t, ht⟩ : ∃ t, s.extract c s.size = t := ⟨_, rfl⟩
  have hts : t.size ≤ maxLen := by rw [← ht, tail_size]; unfold maxLen; omega
  have hrt : rn t 0 = rn s c := by rw [← ht, rn_tail s c 0 hc, Nat.add_zero]
  have p1 := pre_45 t
  have p2 := pre_8722 t
  rw [hrt] at p1 p2
  rw [ht]
  have c1 : Hid (∀ W, Calls Tryd.prog 71 #[.string t, .string ⟨#[45]⟩] W fun e w' => e = .returned (.bool (decide (rn s c = 45))) ∧ w' = W) := fun W => by rw [← p1]; exact hasPrefix_any t _ W hts (by decide)
  have c2 : Hid (∀ W, Calls Tryd.prog 71 #[.string t, .string ⟨#[226, 136, 146]⟩] W fun e w' => e = .returned (.bool (decide (rn s c = 8722))) ∧ w' = W) := fun W => by rw [← p2]; exact hasPrefix_any t _ W hts (by decide)
  have e3 : (⟨#[226, 136, 146]⟩ : ByteArray).size = 3 := rfl
  have e1 : (⟨#[45]⟩ : ByteArray).size = 1 := rfl
  unfold mwd
  clear p1 p2 hrt ht
  have i0 := idx0
  have i1 := idx1
  by_cases h1 : rn s c = 45
  · rw [if_pos h1]
    rw [decide_eq_true h1] at c1
    clear h1
    go_enter Tryd.func85, Tryd.ntmps85
    go_wp2
    go_loopw [6] (fun i wr => i = .int .i64 0 ∧ wr = w) (fun _ _ => 0)
    case atStart => exact ⟨rfl, rfl⟩
    case round =>
      obtain ⟨rfl, hwr⟩ := hrel
      obtain rfl := hwr.symm
      go_wp2_with (go_at_call 71; refine (c1.out _).mono ?_; rintro e w2 ⟨rfl, hw⟩; obtain rfl := hw.symm)
      go_ret
      exact ⟨rfl, rfl⟩
  · rw [if_neg h1]
    rw [decide_eq_false h1] at c1
    by_cases h2 : rn s c = 8722
    · rw [if_pos h2]
      rw [decide_eq_true h2] at c2
      clear h1 h2
      go_enter Tryd.func85, Tryd.ntmps85
      go_wp2
      go_loopw [6] (fun i wr => ∃ k : Nat, k ≤ 1 ∧ i = .int .i64 k ∧ wr = w) (fun i _ => 2 - (RowKit.intOf i).toNat)
      case atStart => exact ⟨0, by omega, rfl, rfl⟩
      case round =>
        obtain ⟨k, hk, rfl, hwr⟩ := hrel
        obtain rfl := hwr.symm
        obtain rfl | rfl : k = 0 ∨ k = 1 := by omega
        · go_wp2_with (go_at_call 71; refine (c1.out _).mono ?_; rintro e w2 ⟨rfl, hw⟩; obtain rfl := hw.symm)
          go_roundw
          case rel => exact ⟨1, by omega, by simp, by first | rfl | trivial⟩
          case measure => simp [RowKit.intOf]
        · go_wp2_with (go_at_call 71; refine (c2.out _).mono ?_; rintro e w2 ⟨rfl, hw⟩; obtain rfl := hw.symm)
          go_ret
          exact ⟨rfl, rfl⟩
    · rw [if_neg h2]
      rw [decide_eq_false h2] at c2
      clear h1 h2
      go_enter Tryd.func85, Tryd.ntmps85
      go_wp2
      go_loopw [6] (fun i wr => ∃ k : Nat, k ≤ 2 ∧ i = .int .i64 k ∧ wr = w) (fun i _ => 3 - (RowKit.intOf i).toNat)
      case atStart => exact ⟨0, by omega, rfl, rfl⟩
      case round =>
        obtain ⟨k, hk, rfl, hwr⟩ := hrel
        obtain rfl := hwr.symm
        obtain rfl | rfl | rfl : k = 0 ∨ k = 1 ∨ k = 2 := by omega
        · go_wp2_with (go_at_call 71; refine (c1.out _).mono ?_; rintro e w2 ⟨rfl, hw⟩; obtain rfl := hw.symm)
          go_roundw
          case rel => exact ⟨1, by omega, by simp, by first | rfl | trivial⟩
          case measure => simp [RowKit.intOf]
        · go_wp2_with (go_at_call 71; refine (c2.out _).mono ?_; rintro e w2 ⟨rfl, hw⟩; obtain rfl := hw.symm)
          go_roundw
          case rel => exact ⟨2, by omega, by simp, by first | rfl | trivial⟩
          case measure => simp [RowKit.intOf]
        · go_wp2
          go_ret
          exact ⟨rfl, rfl⟩
end Go.Proofs.YtpdohdmpjaklgaaDoor
