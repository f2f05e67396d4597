/-
  EvRdW, EvRvW, EvRuW, EvRsW.
-/
import Derived.Test.YtpdohdmpjaklgaaDoorMEvRdP
import Derived.Test.YtpdohdmpjaklgaaDoorMEvSmW
import Derived.Test.YtpdohdmpjaklgaaDoorMQTail
import Derived.Laws.ResultCell
import Derived.Test.YtpdohdmpjaklgaaDoorMEvSetW
set_option linter.unusedSimpArgs false
set_option linter.unusedVariables false
namespace Go.Proofs.YtpdohdmpjaklgaaDoor
open Go.RowKit Go.Lib Go.Sort

/-- Block R is a reader of s at the place a. -/
structure RdE (w : World) (R : Nat) (s : ByteArray) (a : Nat) : Prop where
  blk : w.heap[R]? = some (.cells #[.string s, .int .i64 (a : Int)] 57 (0, 0))
theorem RdE.lt {w : World} {R : Nat} {s : ByteArray} {a : Nat} (h : RdE w R s a) : R < w.heap.size := lt_of_block h.blk
theorem RdE.below {w w' : World} {R : Nat} {s : ByteArray} {a : Nat} (h : RdE w R s a) (hb : Below w.heap.size w w') : RdE w' R s a := ⟨(hb.block _ h.lt).trans h.blk⟩
theorem RdE.cells {w : World} {R : Nat} {s : ByteArray} {a : Nat} (h : RdE w R s a) : w.cell? ⟨R, 0, none⟩ = some (.string s) ∧ w.cell? ⟨R, 1, none⟩ = some (.int .i64 (a : Int)) := by
  constructor <;> simp [World.cell?, h.blk]
theorem RdE.frozen {w : World} {R : Nat} {s : ByteArray} {a : Nat} (h : RdE w R s a) (i : Nat) : w.frozen? ⟨R, i, none⟩ = false := by simp [World.frozen?, h.blk]
theorem RdE.at_ {w : World} {R : Nat} {s : ByteArray} {a : Nat} (h : RdE w R s a) (b : Nat) : RdE (w.setCell ⟨R, 1, none⟩ (.int .i64 (b : Int))) R s b := ⟨by simpa using heap_setCell_same w R 1 _ _ (.int .i64 (b : Int)) h.blk⟩
theorem grE_below {w w' : World} (h : RowKit.Below w.heap.size w w') (row : Option Nat) : w.grownBy w' row := ⟨h.os, h.tape, h.output, h.size, fun k hk _ => h.block k hk⟩
theorem grE_set {w0 w : World} {B o : Nat} {u : Value} (h : w0.grownBy w (some B)) : w0.grownBy (w.setCell ⟨B, o, none⟩ u) (some B) :=
  ⟨h.os, h.tape, h.output, by simpa [World.setCell] using h.size, fun k hk hne => (Below.heap_setCell _ _ _ _ (fun e => hne (by rw [e]))).trans (h.block k hk hne)⟩
theorem grE_trans {w w1 w2 : World} {R : Nat} (h : w.grownBy w1 (some R)) (hb : Below w1.heap.size w1 w2) : w.grownBy w2 (some R) := h.trans (grE_below hb _)
theorem belowE_gr {w w' : World} {B : Nat} (h : w.grownBy w' (some B)) (hB : B ≤ w.heap.size) : RowKit.Below B w w' := ⟨h.os, h.tape, h.output, h.size, fun k hk => h.block k (by omega) (by intro e; cases e; omega)⟩
/-- Tables that lie ahead of the reader. -/
structure TbR (w : World) (R : Nat) : Prop where
  t : Tabs w
  lt : 0 < R
  lt2 : 3 < R
  lt3 : 4 < R
theorem TbR.below {w w' : World} {R : Nat} (h : TbR w R) (hb : Below w.heap.size w w') : TbR w' R := ⟨h.t.below hb, h.lt, h.lt2, h.lt3⟩

set_option maxRecDepth 100000 in
set_option maxHeartbeats 2000000 in
theorem goTo_any (w : World) (R : Nat) (s : ByteArray) (b a : Nat) (hT : SpanCells w) (hM : RdE w R s b) (hs : s.size ≤ 4096) (ha : a ≤ s.size) :
    Calls Tryd.prog 54 #[.pointer (some ⟨R, 0, none⟩), .int .i64 (a : Int)] w fun x w' => x = .returned (.tuple #[]) ∧ RdE w' R s (skE s a) ∧ w.grownBy w' (some R) := by
  obtain ⟨c0, c1⟩ := hM.cells
  have hl := hM.lt
  obtain ⟨T, hTT⟩ : ∃ T, skE s a = T := ⟨_, rfl⟩
  have HT0 : Hid (psSkip s s.size a = T) := hTT
  rw [hTT]
  clear hTT
  have HM : Hid (RdE w R s b) := hM
  have HT : Hid (SpanCells w) := hT
  clear hM hT
  obtain ⟨t, ht⟩ : ∃ t, s.extract a s.size = t := ⟨_, rfl⟩
  have hts : t.size = s.size - a := by rw [← ht]; exact tail_size s a
  have hdt : ∀ q, Utf8.decode t q = Utf8.decode s (a + q) := fun q => by rw [← ht]; exact dec_tail s a q
  have HD : Hid (∀ q, Utf8.decode t q = Utf8.decode s (a + q)) := hdt
  have hai : (a : Int) ≤ (s.size : Int) := by omega
  clear hdt
  go_enter Tryd.func54, Tryd.ntmps54
  go_wp2_with fail
  go_loopw [] (fun wr => ∃ pos f : Nat, It w t pos wr ∧ Hid (psSkip s f (a + pos) = T) ∧ s.size ≤ a + pos + f ∧ pos ≤ t.size) (fun wr => t.size - wr.iterPos w.heap.size)
  case atStart => exact ⟨0, s.size, It.start w t, by rw [Nat.add_zero]; exact HT0.out, by omega, by omega⟩
  case round =>
    obtain ⟨pos, f, hI, HN, hf, hpt⟩ := hrel
    have hm := hI.pos
    have hMr := HM.out.below hI.below
    by_cases hp : pos < t.size
    · have hnx : ∀ ty, (Instr.next (.pointer (some ⟨w.heap.size, 0, none⟩)) true ty).run Tryd.prog wr = _ := fun ty => run_next_any_at wr w.heap.size t pos ty hI.at_ hp
      obtain ⟨f, rfl⟩ : ∃ g, f = g + 1 := ⟨f - 1, by omega⟩
      have hw := width_pos t pos hp
      have hw2 := dec_le t pos hp
      have hd := HD.out pos
      have hps : a + pos < s.size := by omega
      have hon := skip_on s f (a + pos) hps
      have hoff := skip_off s (f + 1) (a + pos) hps
      rw [← hd] at hon hoff
      generalize (Utf8.decode t pos).2 = v at *
      generalize ((Utf8.decode t pos).1 : Int) = r at *
      have hI1 := hI.next (pos + v)
      have hT1 := HT.out.below hI1.below
      have hM1 := HM.out.below hI1.below
      clear hd
      by_cases hk : kd r = 3
      · have HX : Hid (psSkip s f (a + (pos + v)) = T) := by show _ = T; rw [← HN.out, hon hk, Nat.add_assoc]
        clear hon hoff
        go_wp2_with (go_at_call 45; refine (kind_any _ _ hT1).mono ?_; rw [hk]; rintro e w2 ⟨rfl, hb2⟩)
        have hI2 := hI1.call hb2
        refine ⟨⟨pos + v, f, hI2, HX.out, by omega, by omega⟩, ?_⟩
        rw [hI2.pos, hm]; omega
      · have HX : Hid (a + pos = T) := by show _ = T; rw [← HN.out, hoff hk]
        have gk : (kd r == 3) = false := by simp [hk]
        have cK : Hid (Calls Tryd.prog 45 #[.int .i32 r] (wr.iterAt w.heap.size t (pos + v)) fun e w' => e = .returned (.int .i64 (kd r)) ∧ Below (wr.iterAt w.heap.size t (pos + v)).heap.size (wr.iterAt w.heap.size t (pos + v)) w') := kind_any r _ hT1
        generalize kd r = kk at *
        clear hon hoff hk
        have h63 : (a : Int) + pos ≤ 4096 := by omega
        go_wp2_with (go_at_call 45; refine cK.out.mono ?_; rintro e w2 ⟨rfl, hb2⟩; have hM2 := hM1.below hb2; have k1 := hM2.cells.2; have kf := hM2.frozen 1)
        refine bodyPost_ret (results_none rfl _ _ _) rfl ?_
        have HR8 := hM2.at_ (a + pos)
        rw [show ((a + pos : Nat) : Int) = (a : Int) + pos by omega] at HR8
        refine ⟨rfl, by rw [← HX.out]; exact HR8, grE_set (grE_below ((hI1.call hb2).below) _)⟩
    · have hnx : ∀ ty, (Instr.next (.pointer (some ⟨w.heap.size, 0, none⟩)) true ty).run Tryd.prog wr = _ := fun ty => run_next_end_at wr w.heap.size t pos ty hI.at_ hp
      have HX : Hid (s.size = T) := by show _ = T; rw [← HN.out, skip_end s f _ (by omega)]; omega
      obtain ⟨d0, d1⟩ := hMr.cells
      have df := hMr.frozen 1
      go_wp2_with fail
      go_end0
      exact ⟨rfl, by rw [← HX.out]; exact hMr.at_ s.size, grE_set (grE_below hI.below _)⟩

set_option maxRecDepth 100000 in
set_option maxHeartbeats 2000000 in
theorem ended_any (w : World) (R : Nat) (s : ByteArray) (a : Nat) (hM : RdE w R s a) :
    Calls Tryd.prog 55 #[.pointer (some ⟨R, 0, none⟩)] w fun x w' => x = .returned (.bool (decide (a = s.size))) ∧ Below w.heap.size w w' := by
  obtain ⟨c0, c1⟩ := hM.cells
  have hl := hM.lt
  have g0 := cell_regrown c0
  have g1 := cell_regrown c1
  have e : decide (a = s.size) = ((a : Int) == (s.size : Int)) := by
    by_cases h : a = s.size
    · simp [h]
    · rw [decide_eq_false h]; symm; simp; omega
  rw [e]
  clear e
  go_enter Tryd.func55, Tryd.ntmps55
  go_wp2_with fail
  refine wp_region_quiet_below (by kernel_rfl) (by kernel_rfl) ?_
  iterate 11 (go_big_quiet_step (fail))
  refine wpQuiet_nil ?_
  intro _ hw'
  obtain ⟨⟨ds, oss⟩, hw''⟩ := hw'
  subst hw''
  have b4 := below_regrown w ds oss
  generalize grow (redrawn w ds) oss = w6 at *
  go_wp2_with fail
  go_ret
  exact ⟨rfl, b4⟩

set_option maxHeartbeats 1000000 in
theorem hasPrefix_any (s p : ByteArray) (w : World) (hs : s.size ≤ maxLen) (hp : p.size ≤ 16) :
    Calls Tryd.prog 71 #[.string s, .string p] w fun e w' => e = .returned (.bool (preB s p)) ∧ w' = w := by
  have c := hasPre_any s p w hs hp
  generalize preB s p = R at *
  have cH : Hid (Calls Tryd.prog 84 #[.string s, .string p] w fun e w' => e = .returned (.bool R) ∧ w' = w) := c
  clear c
  go_enter Tryd.func71, Tryd.ntmps71
  go_wp2_with (go_at_call 84; refine cH.out.mono ?_; rintro e w2 ⟨rfl, hw⟩; obtain rfl := hw.symm)
  go_ret
  exact ⟨rfl, rfl⟩
theorem get_at (s : ByteArray) (i : Nat) (h : i < s.size) : s.data.toList[i]? = some (s.get! i) := by
  have h' : i < s.data.size := h
  show s.data.toList[i]? = some s.data[i]!
  rw [Array.getElem?_toList, getElem!_pos s.data i h']
  exact Array.getElem?_eq_getElem h'
theorem get_tail (s : ByteArray) (p : Nat) (h : p < s.size) : (s.extract p s.size).get! 0 = s.get! p := by
  have h1 := get_at (s.extract p s.size) 0 (by rw [tail_size]; omega)
  rw [extract_data, List.getElem?_take, if_pos (by omega), List.getElem?_drop, Nat.add_zero, get_at s p h] at h1
  simpa using h1.symm
theorem head_one (s : ByteArray) (h : 1 ≤ s.size) : (s.extract 0 1).toList = [s.get! 0] := by
  rw [toList_data]
  have : (s.extract 0 1).data.toList = s.data.toList.take 1 := by simp [extract_data]
  rw [this]
  obtain ⟨d⟩ := s
  obtain ⟨l⟩ := d
  cases l with
  | nil => exact absurd h (by decide)
  | cons a l => rfl
theorem preB_one (s : ByteArray) (p : Nat) (hp : p ≤ s.size) (c : UInt8) : preB (s.extract p s.size) ⟨#[c]⟩ = byB s p c := by
  unfold preB byB
  have h1 : (⟨#[c]⟩ : ByteArray).size = 1 := rfl
  rw [h1, tail_size]
  by_cases h : p < s.size
  · rw [decide_eq_true h, decide_eq_true (by omega), head_one _ (by rw [tail_size]; omega), get_tail s p h]
    simp [toList_data]
  · rw [decide_eq_false h, decide_eq_false (by omega)]; rfl

theorem idx0 (w : World) : (Instr.index 147 (.agg #[.string ⟨#[45]⟩, .string ⟨#[226, 136, 146]⟩]) (.int .i64 0)).run Tryd.prog w = .ok (.string ⟨#[45]⟩) w := by kernel_rfl
theorem idx1 (w : World) : (Instr.index 147 (.agg #[.string ⟨#[45]⟩, .string ⟨#[226, 136, 146]⟩]) (.int .i64 1)).run Tryd.prog w = .ok (.string ⟨#[226, 136, 146]⟩) w := by kernel_rfl
set_option maxRecDepth 100000 in
set_option maxHeartbeats 2000000 in
theorem minus_any (s : ByteArray) (c : Nat) (hc : c ≤ s.size) (w : World) (hs : s.size ≤ 4096) :
    Calls Tryd.prog 85 #[.string (s.extract c s.size)] w fun e w' => e = .returned (.int .i64 (mwd s c : Int)) ∧ w' = w := by
  obtain ⟨t, ht⟩ : ∃ t, s.extract c s.size = t := ⟨_, rfl⟩
  have hts : t.size ≤ maxLen := by rw [← ht, tail_size]; unfold maxLen; omega
  have hrt : rn t 0 = rn s c := by rw [← ht, rn_tail s c 0 hc, Nat.add_zero]
  have p1 := pre_45 t
  have p2 := pre_8722 t
  rw [hrt] at p1 p2
  rw [ht]
  have c1 : Hid (∀ W, Calls Tryd.prog 71 #[.string t, .string ⟨#[45]⟩] W fun e w' => e = .returned (.bool (decide (rn s c = 45))) ∧ w' = W) := fun W => by rw [← p1]; exact hasPrefix_any t _ W hts (by decide)
  have c2 : Hid (∀ W, Calls Tryd.prog 71 #[.string t, .string ⟨#[226, 136, 146]⟩] W fun e w' => e = .returned (.bool (decide (rn s c = 8722))) ∧ w' = W) := fun W => by rw [← p2]; exact hasPrefix_any t _ W hts (by decide)
  have e3 : (⟨#[226, 136, 146]⟩ : ByteArray).size = 3 := rfl
  have e1 : (⟨#[45]⟩ : ByteArray).size = 1 := rfl
  unfold mwd
  clear p1 p2 hrt ht
  have i0 := idx0
  have i1 := idx1
  by_cases h1 : rn s c = 45
  · rw [if_pos h1]
    rw [decide_eq_true h1] at c1
    clear h1
    go_enter Tryd.func85, Tryd.ntmps85
    go_wp2
    go_loopw [6] (fun i wr => i = .int .i64 0 ∧ wr = w) (fun _ _ => 0)
    case atStart => exact ⟨rfl, rfl⟩
    case round =>
      obtain ⟨rfl, hwr⟩ := hrel
      obtain rfl := hwr.symm
      go_wp2_with (go_at_call 71; refine (c1.out _).mono ?_; rintro e w2 ⟨rfl, hw⟩; obtain rfl := hw.symm)
      go_ret
      exact ⟨rfl, rfl⟩
  · rw [if_neg h1]
    rw [decide_eq_false h1] at c1
    by_cases h2 : rn s c = 8722
    · rw [if_pos h2]
      rw [decide_eq_true h2] at c2
      clear h1 h2
      go_enter Tryd.func85, Tryd.ntmps85
      go_wp2
      go_loopw [6] (fun i wr => ∃ k : Nat, k ≤ 1 ∧ i = .int .i64 k ∧ wr = w) (fun i _ => 2 - (RowKit.intOf i).toNat)
      case atStart => exact ⟨0, by omega, rfl, rfl⟩
      case round =>
        obtain ⟨k, hk, rfl, hwr⟩ := hrel
        obtain rfl := hwr.symm
        obtain rfl | rfl : k = 0 ∨ k = 1 := by omega
        · go_wp2_with (go_at_call 71; refine (c1.out _).mono ?_; rintro e w2 ⟨rfl, hw⟩; obtain rfl := hw.symm)
          go_roundw
          case rel => exact ⟨1, by omega, by simp, by first | rfl | trivial⟩
          case measure => simp [RowKit.intOf]
        · go_wp2_with (go_at_call 71; refine (c2.out _).mono ?_; rintro e w2 ⟨rfl, hw⟩; obtain rfl := hw.symm)
          go_ret
          exact ⟨rfl, rfl⟩
    · rw [if_neg h2]
      rw [decide_eq_false h2] at c2
      clear h1 h2
      go_enter Tryd.func85, Tryd.ntmps85
      go_wp2
      go_loopw [6] (fun i wr => ∃ k : Nat, k ≤ 2 ∧ i = .int .i64 k ∧ wr = w) (fun i _ => 3 - (RowKit.intOf i).toNat)
      case atStart => exact ⟨0, by omega, rfl, rfl⟩
      case round =>
        obtain ⟨k, hk, rfl, hwr⟩ := hrel
        obtain rfl := hwr.symm
        obtain rfl | rfl | rfl : k = 0 ∨ k = 1 ∨ k = 2 := by omega
        · go_wp2_with (go_at_call 71; refine (c1.out _).mono ?_; rintro e w2 ⟨rfl, hw⟩; obtain rfl := hw.symm)
          go_roundw
          case rel => exact ⟨1, by omega, by simp, by first | rfl | trivial⟩
          case measure => simp [RowKit.intOf]
        · go_wp2_with (go_at_call 71; refine (c2.out _).mono ?_; rintro e w2 ⟨rfl, hw⟩; obtain rfl := hw.symm)
          go_roundw
          case rel => exact ⟨2, by omega, by simp, by first | rfl | trivial⟩
          case measure => simp [RowKit.intOf]
        · go_wp2
          go_ret
          exact ⟨rfl, rfl⟩
end Go.Proofs.YtpdohdmpjaklgaaDoor

set_option linter.unusedSimpArgs false
set_option linter.unusedVariables false
namespace Go.Proofs.YtpdohdmpjaklgaaDoor
open Go.RowKit Go.Lib Go.Sort

/-- The tables stand, whatever becomes of block R. -/
def TS (w : World) (R : Nat) : Prop := ∀ W, w.grownBy W (some R) → Tabs W
theorem TS.gr {w w' : World} {R : Nat} (h : TS w R) (hg : w.grownBy w' (some R)) : TS w' R := fun W hW => h W (hg.trans hW)
theorem TS.bl {w w' : World} {R : Nat} (h : TS w R) (hb : Below w.heap.size w w') : TS w' R := h.gr (grE_below hb _)
theorem TS.now {w : World} {R : Nat} (h : TS w R) : Tabs w := h w (World.grownBy.refl _ _)

theorem preRegrown (s : ByteArray) (a : Nat) (ha : a ≤ s.size) (hs : s.size ≤ 4096) (c : UInt8) (w : World) (B : Bool) (hB : byB s a c = B) : ∀ d os, Calls Tryd.prog 71 #[.string (s.extract a s.size), .string ⟨#[c]⟩] (grow (redrawn w d) os) fun e w'' => e = .returned (.bool B) ∧ ∃ p : Regrown, w'' = grow (redrawn w p.d) p.os := fun d os => Calls.regrown_of (by
  rw [← hB, ← preB_one s a ha c]
  exact (hasPrefix_any _ _ _ (by rw [tail_size]; unfold maxLen; omega) (by show 1 ≤ 16; omega)).mono fun e w' ⟨h1, h2⟩ => ⟨h1, by rw [h2]; exact Below.refl _ _⟩)

def comR (s : ByteArray) (a n : Nat) : Int × Nat := if byB s a 44 = false then (6, a) else if n = 64 then (10, a) else (0, skE s (a + 1))
set_option maxRecDepth 100000 in
set_option maxHeartbeats 2000000 in
theorem comma_any (w : World) (R : Nat) (s : ByteArray) (a n : Nat) (hT : TS w R) (hM : RdE w R s a) (hs : s.size ≤ 4096) (ha : a ≤ s.size) :
    Calls Tryd.prog 57 #[.pointer (some ⟨R, 0, none⟩), .int .i64 (n : Int)] w fun x w' => x = .returned (.int .i64 (comR s a n).1) ∧ RdE w' R s (comR s a n).2 ∧ w.grownBy w' (some R) := by
  obtain ⟨c0, c1⟩ := hM.cells
  have hl := hM.lt
  have g0 := cell_regrown c0
  have g1 := cell_regrown c1
  have HM : Hid (RdE w R s a) := hM
  have HT : Hid (TS w R) := hT
  have hai : (a : Int) ≤ (s.size : Int) := by omega
  clear hM hT c0 c1
  unfold comR
  cases hb : byB s a 44
  · rw [if_pos rfl]
    have cP : Hid (∀ d os, Calls Tryd.prog 71 #[.string (s.extract a s.size), .string ⟨#[44]⟩] (grow (redrawn w d) os) fun e w'' => e = .returned (.bool false) ∧ ∃ p : Regrown, w'' = grow (redrawn w p.d) p.os) := preRegrown s a ha hs 44 w false hb
    clear hb
    go_enter Tryd.func57, Tryd.ntmps57
    go_wp2_with fail
    refine wp_region_quiet_below (by kernel_rfl) (by kernel_rfl) ?_
    iterate 11 (go_big_quiet_step ((go_at_call 71; exact cP.out _ _)))
    refine wpQuiet_nil ?_
    intro _ hw'
    obtain ⟨⟨ds, oss⟩, hw''⟩ := hw'
    subst hw''
    have b4 := below_regrown w ds oss
    generalize grow (redrawn w ds) oss = w6 at *
    go_wp2_with fail
    go_ret
    exact ⟨rfl, HM.out.below b4, grE_below b4 _⟩
  · rw [if_neg (by simp)]
    have hal : a + 1 ≤ s.size := by
      unfold byB at hb
      simp at hb; omega
    have cP : Hid (∀ d os, Calls Tryd.prog 71 #[.string (s.extract a s.size), .string ⟨#[44]⟩] (grow (redrawn w d) os) fun e w'' => e = .returned (.bool true) ∧ ∃ p : Regrown, w'' = grow (redrawn w p.d) p.os) := preRegrown s a ha hs 44 w true hb
    clear hb
    by_cases hn : n = 64
    · rw [if_pos hn]
      have hn2 : ((n : Int) == 64) = true := by simp; omega
      clear hn
      go_enter Tryd.func57, Tryd.ntmps57
      go_wp2_with fail
      refine wp_region_quiet_below (by kernel_rfl) (by kernel_rfl) ?_
      iterate 11 (go_big_quiet_step ((go_at_call 71; exact cP.out _ _)))
      refine wpQuiet_nil ?_
      intro _ hw'
      obtain ⟨⟨ds, oss⟩, hw''⟩ := hw'
      subst hw''
      have b4 := below_regrown w ds oss
      generalize grow (redrawn w ds) oss = w6 at *
      go_wp2_with fail
      go_ret
      exact ⟨rfl, HM.out.below b4, grE_below b4 _⟩
    · rw [if_neg hn]
      have hn2 : ((n : Int) == 64) = false := by simp; omega
      clear hn
      go_enter Tryd.func57, Tryd.ntmps57
      go_wp2_with fail
      refine wp_region_quiet_below (by kernel_rfl) (by kernel_rfl) ?_
      iterate 11 (go_big_quiet_step ((go_at_call 71; exact cP.out _ _)))
      refine wpQuiet_nil ?_
      intro _ hw'
      obtain ⟨⟨ds, oss⟩, hw''⟩ := hw'
      subst hw''
      have b4 := below_regrown w ds oss
      have M6 := HM.out.below b4
      have T6 := HT.out.bl b4
      generalize grow (redrawn w ds) oss = w6 at *
      obtain ⟨k0, k1⟩ := M6.cells
      have ea : ((a + 1 : Nat) : Int) = (a : Int) + 1 := by omega
      have cG := goTo_any w6 R s a (a + 1) T6.now.spans M6 hs hal
      rw [ea] at cG
      have CG : Hid (Calls Tryd.prog 54 #[.pointer (some ⟨R, 0, none⟩), .int .i64 ((a : Int) + 1)] w6 fun x w' => x = .returned (.tuple #[]) ∧ RdE w' R s (skE s (a + 1)) ∧ w6.grownBy w' (some R)) := cG
      have HM6 : Hid (RdE w6 R s a) := M6
      clear cG M6 T6
      have h63 : (a : Int) + 1 ≤ 4096 := by omega
      go_wp2_with (go_at_call 54; refine CG.out.mono ?_; rintro e w7 ⟨rfl, h7, h8⟩)
      go_ret
      exact ⟨rfl, h7, (grE_below b4 _).trans h8⟩

def namR (s : ByteArray) (a : Nat) : ByteArray × Int × Nat :=
  if kd (rn s a) = 1 then (if nameB (s.extract a (spF s s.size a)) = false then (⟨#[]⟩, 7, a) else (s.extract a (spF s s.size a), 0, skE s (spF s s.size a))) else (⟨#[]⟩, 6, a)
set_option maxRecDepth 100000 in
set_option maxHeartbeats 4000000 in
theorem nameR_any (w : World) (R : Nat) (s : ByteArray) (a : Nat) (hT : TS w R) (hM : RdE w R s a) (hs : s.size ≤ 4096) (ha : a ≤ s.size) :
    Calls Tryd.prog 70 #[.pointer (some ⟨R, 0, none⟩)] w fun x w' => x = .returned (.tuple #[.string (namR s a).1, .int .i64 (namR s a).2.1]) ∧ RdE w' R s (namR s a).2.2 ∧ w.grownBy w' (some R) := by
  obtain ⟨c0, c1⟩ := hM.cells
  have hl := hM.lt
  have g0 := cell_regrown c0
  have g1 := cell_regrown c1
  have hsp : spanI s (a : Int) = spanP s a := by unfold spanI; rw [if_neg (by omega), Int.toNat_natCast]
  have cS : ∀ d os, Calls Tryd.prog 83 #[.string s, .int .i64 (a : Int)] (grow (redrawn w d) os) fun e w'' => e = .returned (.tuple #[.int .i64 (spanP s a).1, .int .i64 (spanP s a).2]) ∧ ∃ p : Regrown, w'' = grow (redrawn w p.d) p.os := fun d os => Calls.regrown_of (by
    rw [← hsp]; exact span_any s a _ (hT.now.below (below_regrown w d os)) (by unfold maxLen; omega))
  have HM : Hid (RdE w R s a) := hM
  have HT : Hid (TS w R) := hT
  clear hM hT hsp c0 c1
  unfold namR
  by_cases hk : kd (rn s a) = 1
  · rw [if_pos hk]
    have e1 : spanP s a = (((spF s s.size a : Nat) : Int), 0) := by unfold spanP; rw [if_pos hk]
    rw [e1] at cS
    have hle := spF_le s s.size a ha
    obtain ⟨E, hE⟩ : ∃ E, spF s s.size a = E := ⟨_, rfl⟩
    rw [hE] at cS hle ⊢
    have hsE : E ≤ s.size ∧ a ≤ E := by omega
    have hsE1 : (a : Int) ≤ (E : Int) := by omega
    have hsE2 : (E : Int) ≤ (s.size : Int) := by omega
    obtain ⟨nm, hnm⟩ : ∃ nm, s.extract a E = nm := ⟨_, rfl⟩
    rw [hnm]
    have hnz : nm.size ≤ maxLen := by rw [← hnm, mid_size s a E hsE.1]; unfold maxLen; omega
    have CS : Hid (∀ d os, Calls Tryd.prog 83 #[.string s, .int .i64 (a : Int)] (grow (redrawn w d) os) fun e w'' => e = .returned (.tuple #[.int .i64 (E : Int), .int .i64 0]) ∧ ∃ p : Regrown, w'' = grow (redrawn w p.d) p.os) := cS
    clear cS e1 hE hk
    obtain ⟨X, hX⟩ : ∃ X : ByteArray × Int × Nat, (if nameB nm = false then (⟨#[]⟩, 7, a) else (nm, 0, skE s E)) = X := ⟨_, rfl⟩
    rw [hX]
    have HX : Hid ((if nameB nm = false then (⟨#[]⟩, 7, a) else (nm, 0, skE s E)) = X) := hX
    clear hX
    go_enter Tryd.func70, Tryd.ntmps70
    go_wp2_with fail
    refine wp_region_quiet_below (by kernel_rfl) (by kernel_rfl) ?_
    iterate 14 (go_big_quiet_step ((go_at_call 83; exact CS.out _ _)))
    refine wpQuiet_nil ?_
    intro _ hw'
    obtain ⟨⟨ds, oss⟩, hw''⟩ := hw'
    subst hw''
    have b4 := below_regrown w ds oss
    have M6 := HM.out.below b4
    have T6 := HT.out.bl b4
    have HB4 : Hid (Below w.heap.size w (grow (redrawn w ds) oss)) := b4
    clear g0 g1 CS b4
    generalize grow (redrawn w ds) oss = w6 at *
    obtain ⟨k0, k1⟩ := M6.cells
    have g0 := cell_regrown k0
    have g1 := cell_regrown k1
    have HM6 : Hid (RdE w6 R s a) := M6
    have HT6 : Hid (TS w6 R) := T6
    clear M6 T6 k0 k1
    go_wp2_with fail
    refine wp_region_quiet_below (by kernel_rfl) (by kernel_rfl) ?_
    iterate 11 (go_big_quiet_step (fail))
    refine wpQuiet_nil ?_
    intro _ hw'
    obtain ⟨⟨ds, oss⟩, hw''⟩ := hw'
    subst hw''
    have b5 := below_regrown w6 ds oss
    have M7 := HM6.out.below b5
    have T7 := HT6.out.bl b5
    have G7 := (grE_below HB4.out (some R)).trans (grE_below b5 (some R))
    clear g0 g1 b5
    generalize grow (redrawn w6 ds) oss = w7 at *
    have cN : Hid (Calls Tryd.prog 22 #[.string nm] w7 fun e w' => e = .returned (.bool (nameB nm)) ∧ Below w7.heap.size w7 w') := name_any nm w7 T7.now
    have HM7 : Hid (RdE w7 R s a) := M7
    have HT7 : Hid (TS w7 R) := T7
    have HG7 : Hid (w.grownBy w7 (some R)) := G7
    clear M7 T7 G7
    cases hn : nameB nm
    · have eX : X = (⟨#[]⟩, 7, a) := by rw [← HX.out, hn]; rfl
      rw [hn] at cN
      clear hn
      go_wp2_with (go_at_call 22; refine cN.out.mono ?_; rintro e w8 ⟨rfl, b8⟩)
      go_ret2
      first | exact ⟨rfl, HM7.out.below b8, grE_trans HG7.out b8⟩ | (rw [eX]; exact ⟨rfl, HM7.out.below b8, grE_trans HG7.out b8⟩)
    · have eX : X = (nm, 0, skE s E) := by rw [← HX.out, hn]; rfl
      rw [hn] at cN
      clear hn
      have CG : Hid (∀ W, RdE W R s a → TS W R → Calls Tryd.prog 54 #[.pointer (some ⟨R, 0, none⟩), .int .i64 (E : Int)] W fun x w' => x = .returned (.tuple #[]) ∧ RdE w' R s (skE s E) ∧ W.grownBy w' (some R)) := fun W h1 h2 => goTo_any W R s a E h2.now.spans h1 hs hsE.1
      go_wp2_with (first | (go_at_call 54; refine (CG.out _ (HM7.out.below b8) (HT7.out.bl b8)).mono ?_; rintro e w9 ⟨rfl, h9, h10⟩) | (go_at_call 22; refine cN.out.mono ?_; rintro e w8 ⟨rfl, b8⟩))
      go_ret2
      first | exact ⟨rfl, h9, (grE_trans HG7.out b8).trans h10⟩ | (rw [eX]; exact ⟨rfl, h9, (grE_trans HG7.out b8).trans h10⟩)
  · rw [if_neg hk]
    have e1 : spanP s a = (0, 11) := by unfold spanP; rw [if_neg hk]
    rw [e1] at cS
    have CS : Hid (∀ d os, Calls Tryd.prog 83 #[.string s, .int .i64 (a : Int)] (grow (redrawn w d) os) fun e w'' => e = .returned (.tuple #[.int .i64 0, .int .i64 11]) ∧ ∃ p : Regrown, w'' = grow (redrawn w p.d) p.os) := cS
    clear cS e1 hk
    go_enter Tryd.func70, Tryd.ntmps70
    go_wp2_with fail
    refine wp_region_quiet_below (by kernel_rfl) (by kernel_rfl) ?_
    iterate 14 (go_big_quiet_step ((go_at_call 83; exact CS.out _ _)))
    refine wpQuiet_nil ?_
    intro _ hw'
    obtain ⟨⟨ds, oss⟩, hw''⟩ := hw'
    subst hw''
    have b4 := below_regrown w ds oss
    generalize grow (redrawn w ds) oss = w6 at *
    go_wp2_with fail
    go_ret2
    exact ⟨rfl, HM.out.below b4, grE_below b4 _⟩

set_option maxRecDepth 100000 in
set_option maxHeartbeats 8000000 in
theorem numberR_any (w : World) (R : Nat) (s : ByteArray) (c : Nat) (hT : TS w R) (hM : RdE w R s c) (hs : s.size ≤ 4096) (hc : c ≤ s.size) :
    Calls Tryd.prog 72 #[.pointer (some ⟨R, 0, none⟩)] w fun x w' => x = .returned (.tuple #[.int .i64 (numE s c).1, .int .i64 (numE s c).2.2]) ∧ RdE w' R s (numE s c).2.1 ∧ w.grownBy w' (some R) := by
  obtain ⟨c0, c1⟩ := hM.cells
  have hl := hM.lt
  have g0 := cell_regrown c0
  have g1 := cell_regrown c1
  obtain ⟨hd, _⟩ := mwd_in s c hc
  have hci : (c : Int) ≤ (s.size : Int) := by omega
  have hm3 : mwd s c ≤ 3 := by unfold mwd; split <;> (try split) <;> omega
  have hcE := numE s c
  have hE : numE s c = if digZ (rn s (c + mwd s c)) = 0 then (0, c, 6)
      else if (rdA (s.extract c (dgA s (c + mwd s c)))).2 = 0 then ((rdA (s.extract c (dgA s (c + mwd s c)))).1, skE s (dgA s (c + mwd s c)), 0)
      else (0, c + mwd s c, 10) := rfl
  have hrel := num_rel s c hs hc
  have hni : ∀ d : Nat, d ≤ s.size → numI s (d : Int) = numP s d := fun d hd => by unfold numI; rw [if_neg (by omega), Int.toNat_natCast]
  have hga : c + mwd s c ≤ dgA s (c + mwd s c) ∧ dgA s (c + mwd s c) ≤ s.size := dgE_in s _ s.size _ hd
  have hnP := hni _ hd
  have cM : Hid (∀ d os, Calls Tryd.prog 85 #[.string (s.extract c s.size)] (grow (redrawn w d) os) fun e w'' => e = .returned (.int .i64 (mwd s c : Int)) ∧ ∃ p : Regrown, w'' = grow (redrawn w p.d) p.os) := fun d os => Calls.regrown_of ((minus_any s c hc _ hs).mono fun e w' ⟨h1, h2⟩ => ⟨h1, by rw [h2]; exact Below.refl _ _⟩)
  rw [hE]
  clear hE hcE hni c0 c1
  have hz1 : digZ (rn s (c + mwd s c)) = 0 → numP s (c + mwd s c) = (0, 0, 11) := fun h => by unfold numP; rw [if_pos h]
  generalize mwd s c = k at *
  have hdI : (c : Int) + (k : Int) = ((c + k : Nat) : Int) := by omega
  obtain ⟨D, hD⟩ : ∃ D, c + k = D := ⟨_, rfl⟩
  have hcD : c ≤ D := by omega
  rw [hD] at hdI hd hrel hnP hz1 hga ⊢
  have HDI : Hid ((c : Int) + (k : Int) = (D : Int)) := hdI
  have hk1 : (c : Int) + (k : Int) ≤ 5000 := by omega
  have cN : Hid (∀ W, Tabs W → Calls Tryd.prog 86 #[.string s, .int .i64 ((c : Int) + (k : Int))] W fun e w' => e = .returned (.tuple #[.int .u64 (numP s D).1, .int .i64 (numP s D).2.1, .int .i64 (numP s D).2.2]) ∧ Below W.heap.size W w') := fun W hW => by
    rw [HDI.out, ← hnP]; exact number_any s D W hW (by unfold maxLen; omega)
  have HM : Hid (RdE w R s c) := hM
  have HT : Hid (TS w R) := hT
  clear hM hT hdI hnP hD
  by_cases hz : digZ (rn s D) = 0
  · rw [if_pos hz]
    rw [hz1 hz] at cN
    clear hz hz1 hrel
    go_enter Tryd.func72, Tryd.ntmps72
    go_wp2_with fail
    refine wp_region_quiet_below (by kernel_rfl) (by kernel_rfl) ?_
    iterate 16 (go_big_quiet_step ((go_at_call 85; exact cM.out _ _)))
    refine wpQuiet_nil ?_
    intro _ hw'
    obtain ⟨⟨ds, oss⟩, hw''⟩ := hw'
    subst hw''
    have b4 := below_regrown w ds oss
    have M6 := HM.out.below b4
    have T6 := HT.out.bl b4
    clear g0 g1
    generalize grow (redrawn w ds) oss = w6 at *
    obtain ⟨k0, k1⟩ := M6.cells
    go_wp2_with (go_at_call 86; refine (cN.out _ T6.now).mono ?_; rintro e w7 ⟨rfl, b7⟩)
    go_ret2
    exact ⟨rfl, M6.below b7, (grE_below b4 _).trans (grE_below b7 _)⟩
  · rw [if_neg hz]
    obtain ⟨g, hg⟩ : ∃ g, dgA s D = g := ⟨_, rfl⟩
    rw [hg] at hga hrel ⊢
    have hgc : c ≤ g ∧ g ≤ s.size := by omega
    have hgc1 : (c : Int) ≤ (g : Int) := by omega
    have hgc2 : (g : Int) ≤ (s.size : Int) := by omega
    have hr := hrel hz
    clear hrel hz hz1
    obtain ⟨t, ht⟩ : ∃ t, s.extract c g = t := ⟨_, rfl⟩
    have hts : t.size ≤ maxLen := by rw [← ht, mid_size s c g hgc.2]; unfold maxLen; omega
    rw [ht] at hr ⊢
    rcases hr with ⟨v, hv⟩ | ⟨hv, hbad⟩
    · rw [hv] at cN
      have cR : ∀ W, Tabs W → ∀ d os, Calls Tryd.prog 87 #[.string t] (grow (redrawn W d) os) fun e w'' => e = .returned (.tuple #[.int .i64 (rdA t).1, .int .i64 (rdA t).2]) ∧ ∃ p : Regrown, w'' = grow (redrawn W p.d) p.os := fun W hW d os => Calls.regrown_of (read_any t _ (hW.below (below_regrown W d os)) hts)
      have CG : Hid (∀ W, RdE W R s c → TS W R → Calls Tryd.prog 54 #[.pointer (some ⟨R, 0, none⟩), .int .i64 (g : Int)] W fun x w' => x = .returned (.tuple #[]) ∧ RdE w' R s (skE s g) ∧ W.grownBy w' (some R)) := fun W h1 h2 => goTo_any W R s c g h2.now.spans h1 hs hgc.2
      generalize rdA t = X at *
      obtain ⟨xn, xe⟩ := X
      simp only at cR ⊢
      have CR : Hid (∀ W, Tabs W → ∀ d os, Calls Tryd.prog 87 #[.string t] (grow (redrawn W d) os) fun e w'' => e = .returned (.tuple #[.int .i64 xn, .int .i64 xe]) ∧ ∃ p : Regrown, w'' = grow (redrawn W p.d) p.os) := cR
      clear cR hv
      by_cases hx : xe = 0
      · rw [if_pos hx]
        have hx2 : (xe == 0) = true := by simp [hx]
        have hx3 : (xe != 0) = false := by simp [hx]
        have HX0 : Hid (xe = 0) := hx
        clear hx
        go_enter Tryd.func72, Tryd.ntmps72
        go_wp2_with fail
        refine wp_region_quiet_below (by kernel_rfl) (by kernel_rfl) ?_
        iterate 16 (go_big_quiet_step ((go_at_call 85; exact cM.out _ _)))
        refine wpQuiet_nil ?_
        intro _ hw'
        obtain ⟨⟨ds, oss⟩, hw''⟩ := hw'
        subst hw''
        have b4 := below_regrown w ds oss
        have M6 := HM.out.below b4
        have T6 := HT.out.bl b4
        have HG6 : Hid (w.grownBy (grow (redrawn w ds) oss) (some R)) := grE_below b4 _
        clear g0 g1 b4
        generalize grow (redrawn w ds) oss = w6 at *
        obtain ⟨k0, k1⟩ := M6.cells
        go_wp2_with (go_at_call 86; refine (cN.out _ T6.now).mono ?_; rintro e w7 ⟨rfl, b7⟩)
        have M7 := M6.below b7
        have T7 := T6.bl b7
        have HG7 : Hid (w.grownBy w7 (some R)) := grE_trans HG6.out b7
        obtain ⟨m0, m1⟩ := M7.cells
        have g0 := cell_regrown m0
        have g1 := cell_regrown m1
        have CR7 : Hid (∀ d os, Calls Tryd.prog 87 #[.string t] (grow (redrawn w7 d) os) fun e w'' => e = .returned (.tuple #[.int .i64 xn, .int .i64 xe]) ∧ ∃ p : Regrown, w'' = grow (redrawn w7 p.d) p.os) := CR.out w7 T7.now
        have HM7 : Hid (RdE w7 R s c) := M7
        have HT7 : Hid (TS w7 R) := T7
        clear M7 T7 M6 T6 k0 k1 m0 m1 b7
        refine wp_region_quiet_below (by kernel_rfl) (by kernel_rfl) ?_
        iterate 16 (go_big_quiet_step ((go_at_call 87; exact CR7.out _ _)))
        refine wpQuiet_nil ?_
        intro _ hw'
        obtain ⟨⟨ds, oss⟩, hw''⟩ := hw'
        subst hw''
        have b8 := below_regrown w7 ds oss
        have M8 := HM7.out.below b8
        have T8 := HT7.out.bl b8
        have HG8 : Hid (w.grownBy (grow (redrawn w7 ds) oss) (some R)) := grE_trans HG7.out b8
        clear g0 g1 b8
        generalize grow (redrawn w7 ds) oss = w8 at *
        go_wp2_with (go_at_call 54; refine (CG.out _ M8 T8).mono ?_; rintro e w9 ⟨rfl, h9, h10⟩)
        go_ret2
        exact ⟨rfl, h9, HG8.out.trans h10⟩
      · rw [if_neg hx]
        have hx2 : (xe == 0) = false := by simp [hx]
        have hx3 : (xe != 0) = true := by simp [hx]
        clear hx
        go_enter Tryd.func72, Tryd.ntmps72
        go_wp2_with fail
        refine wp_region_quiet_below (by kernel_rfl) (by kernel_rfl) ?_
        iterate 16 (go_big_quiet_step ((go_at_call 85; exact cM.out _ _)))
        refine wpQuiet_nil ?_
        intro _ hw'
        obtain ⟨⟨ds, oss⟩, hw''⟩ := hw'
        subst hw''
        have b4 := below_regrown w ds oss
        have M6 := HM.out.below b4
        have T6 := HT.out.bl b4
        have HG6 : Hid (w.grownBy (grow (redrawn w ds) oss) (some R)) := grE_below b4 _
        clear g0 g1 b4
        generalize grow (redrawn w ds) oss = w6 at *
        obtain ⟨k0, k1⟩ := M6.cells
        go_wp2_with (go_at_call 86; refine (cN.out _ T6.now).mono ?_; rintro e w7 ⟨rfl, b7⟩)
        have M7 := M6.below b7
        have T7 := T6.bl b7
        have HG7 : Hid (w.grownBy w7 (some R)) := grE_trans HG6.out b7
        obtain ⟨m0, m1⟩ := M7.cells
        have g0 := cell_regrown m0
        have g1 := cell_regrown m1
        have CR7 : Hid (∀ d os, Calls Tryd.prog 87 #[.string t] (grow (redrawn w7 d) os) fun e w'' => e = .returned (.tuple #[.int .i64 xn, .int .i64 xe]) ∧ ∃ p : Regrown, w'' = grow (redrawn w7 p.d) p.os) := CR.out w7 T7.now
        have HM7 : Hid (RdE w7 R s c) := M7
        have HT7 : Hid (TS w7 R) := T7
        clear M7 T7 M6 T6 k0 k1 m0 m1 b7
        refine wp_region_quiet_below (by kernel_rfl) (by kernel_rfl) ?_
        iterate 16 (go_big_quiet_step ((go_at_call 87; exact CR7.out _ _)))
        refine wpQuiet_nil ?_
        intro _ hw'
        obtain ⟨⟨ds, oss⟩, hw''⟩ := hw'
        subst hw''
        have b8 := below_regrown w7 ds oss
        have M8 := HM7.out.below b8
        have HG8 : Hid (w.grownBy (grow (redrawn w7 ds) oss) (some R)) := grE_trans HG7.out b8
        clear g0 g1 b8
        generalize grow (redrawn w7 ds) oss = w8 at *
        obtain ⟨m0, m1⟩ := M8.cells
        have mf := M8.frozen 1
        have M9 : Hid (RdE (w8.setCell ⟨R, 1, none⟩ (.int .i64 ((c : Int) + (k : Int)))) R s D) := by rw [HDI.out]; exact M8.at_ D
        go_wp2_with fail
        go_ret2
        exact ⟨rfl, M9.out, grE_set HG8.out⟩
    · rw [hv] at cN
      rw [if_neg hbad]
      clear hbad hv
      go_enter Tryd.func72, Tryd.ntmps72
      go_wp2_with fail
      refine wp_region_quiet_below (by kernel_rfl) (by kernel_rfl) ?_
      iterate 16 (go_big_quiet_step ((go_at_call 85; exact cM.out _ _)))
      refine wpQuiet_nil ?_
      intro _ hw'
      obtain ⟨⟨ds, oss⟩, hw''⟩ := hw'
      subst hw''
      have b4 := below_regrown w ds oss
      have M6 := HM.out.below b4
      have T6 := HT.out.bl b4
      have HG6 : Hid (w.grownBy (grow (redrawn w ds) oss) (some R)) := grE_below b4 _
      clear g0 g1 b4
      generalize grow (redrawn w ds) oss = w6 at *
      obtain ⟨k0, k1⟩ := M6.cells
      go_wp2_with (go_at_call 86; refine (cN.out _ T6.now).mono ?_; rintro e w7 ⟨rfl, b7⟩; have M7 := M6.below b7; obtain ⟨m0, m1⟩ := M7.cells; have mf := M7.frozen 1)
      have M9 : Hid (RdE (w7.setCell ⟨R, 1, none⟩ (.int .i64 ((c : Int) + (k : Int)))) R s D) := by rw [HDI.out]; exact M7.at_ D
      go_ret2
      exact ⟨rfl, M9.out, grE_set (grE_trans HG6.out b7)⟩
end Go.Proofs.YtpdohdmpjaklgaaDoor

set_option linter.unusedSimpArgs false
set_option linter.unusedVariables false
namespace Go.Proofs.YtpdohdmpjaklgaaDoor
open Go.RowKit Go.Lib Go.Sort

/-- What binding leaves. -/
def BindP (w : World) (R : Nat) (s : ByteArray) (a : Nat) (x : Ending) (w' : World) : Prop :=
  (∃ y : Bd, x = .returned (.tuple #[bdV y, .int .i64 (bindP s a).2.2]) ∧ ((bindP s a).2.2 = 0 → y = (bindP s a).1)) ∧ RdE w' R s (bindP s a).2.1 ∧ w.grownBy w' (some R)

/-- Both cells of the result set. -/
def set2B (w : World) (G : Nat) (v0 v1 : Value) : World := (w.setCell ⟨G, 0, none⟩ v0).setCell ⟨G, 1, none⟩ v1
theorem set2B_blk {w : World} {G : Nat} {x0 x1 v0 v1 : Value} (h : w.heap[G]? = some (.cells #[x0, x1] 38 (0, 0))) : (set2B w G v0 v1).heap[G]? = some (.cells #[v0, v1] 38 (0, 0)) := by
  have h1 := heap_setCell_same w G 0 _ _ v0 h
  have h2 := heap_setCell_same _ G 1 _ _ v1 h1
  simpa [set2B] using h2
theorem set2B_oth {w : World} {G k : Nat} {v0 v1 : Value} (h : k ≠ G) : (set2B w G v0 v1).heap[k]? = w.heap[k]? := by
  unfold set2B
  rw [Below.heap_setCell _ _ _ _ h, Below.heap_setCell _ _ _ _ h]
theorem set2B_size {w : World} {G : Nat} {v0 v1 : Value} : (set2B w G v0 v1).heap.size = w.heap.size := by simp [set2B, World.setCell]
theorem bind_rd {w : World} {R G : Nat} {s : ByteArray} {p : Nat} {v0 v1 : Value} (h : RdE w R s p) (hne : R ≠ G) : RdE (set2B w G v0 v1) R s p := ⟨(set2B_oth hne).trans h.blk⟩
theorem bind_gr {w w2 : World} {R : Nat} {v0 v1 : Value} (h : w.grownBy w2 (some R)) : w.grownBy (set2B w2 w.heap.size v0 v1) (some R) :=
  ⟨h.os, h.tape, h.output, by rw [set2B_size]; exact h.size, fun k hk hne => (set2B_oth (by omega)).trans (h.block k hk hne)⟩

set_option maxRecDepth 100000 in
set_option maxHeartbeats 8000000 in
theorem binding_any (w : World) (R : Nat) (s : ByteArray) (a : Nat) (hT : TS w R) (hM : RdE w R s a) (hs : s.size ≤ 4096) (ha : a ≤ s.size) :
    Calls Tryd.prog 56 #[.pointer (some ⟨R, 0, none⟩)] w (BindP w R s a) := by
  have hl := hM.lt
  obtain ⟨W1, hW1⟩ : ∃ W1, w.alloc (.cells #[.string ⟨#[]⟩, .int .i64 0] 38) = W1 := ⟨_, rfl⟩
  have b1 : Below w.heap.size w W1 := by rw [← hW1]; exact (Below.refl _ _).alloc (Nat.le_refl _) _
  have hB1 : W1.heap[w.heap.size]? = some (.cells #[.string ⟨#[]⟩, .int .i64 0] 38 (0, 0)) := by rw [← hW1]; exact heap_alloc_new w _
  have hlt1 : w.heap.size < W1.heap.size := lt_of_block hB1
  have cNm : Hid (Calls Tryd.prog 70 #[.pointer (some ⟨R, 0, none⟩)] W1 fun x w' => x = .returned (.tuple #[.string (namR s a).1, .int .i64 (namR s a).2.1]) ∧ RdE w' R s (namR s a).2.2 ∧ W1.grownBy w' (some R)) := nameR_any W1 R s a (hT.bl b1) (hM.below b1) hs ha
  have HW : Hid (w.alloc (.cells #[.string ⟨#[]⟩, .int .i64 0] 38) = W1) := hW1
  have HB : Hid (W1.heap[w.heap.size]? = some (.cells #[.string ⟨#[]⟩, .int .i64 0] 38 (0, 0))) := hB1
  have HT1 : Hid (TS W1 R) := hT.bl b1
  have HG1 : Hid (w.grownBy W1 (some R)) := grE_below b1 _
  have hRne : R ≠ w.heap.size := by omega
  /- the result's block stands as long as only R is written -/
  have HK : Hid (∀ W, W1.grownBy W (some R) → W.heap[w.heap.size]? = some (.cells #[.string ⟨#[]⟩, .int .i64 0] 38 (0, 0))) := fun W hg => (hg.block _ hlt1 (fun e => hRne (by cases e; rfl))).trans HB.out
  have HM : Hid (RdE w R s a) := hM
  clear hW1 hB1 hT hM b1
  unfold BindP
  have hE0 : bindP s a = if kd (rn s a) = 1 then
    (if nameB (s.extract a (spF s s.size a)) = false then (bd0, a, 7)
    else if byB s (skE s (spF s s.size a)) 61 = false then (bd0, skE s (spF s s.size a), 6)
    else ((s.extract a (spF s s.size a), (numE s (skE s (skE s (spF s s.size a) + 1))).1), (numE s (skE s (skE s (spF s s.size a) + 1))).2))
  else (bd0, a, 6) := rfl
  by_cases hk : kd (rn s a) = 1
  · unfold namR at cNm
    rw [if_pos hk] at cNm hE0
    have hle := spF_le s s.size a ha
    obtain ⟨E, hE⟩ : ∃ E, spF s s.size a = E := ⟨_, rfl⟩
    rw [hE] at cNm hle hE0
    obtain ⟨nm, hnm⟩ : ∃ nm, s.extract a E = nm := ⟨_, rfl⟩
    rw [hnm] at cNm hE0
    cases hn : nameB nm
    · rw [hn, if_pos rfl] at cNm hE0
      rw [hE0]
      clear hn hk hE0
      go_enter Tryd.func56, Tryd.ntmps56
      go_wp2_with fail
      rw [HW.out]
      refine cNm.out.mono ?_
      rintro e w2 ⟨rfl, M2, G2⟩
      have hr2 := HK.out w2 G2
      have q0 : w2.cell? ⟨w.heap.size, 0, none⟩ = some (.string ⟨#[]⟩) := by simp [World.cell?, hr2]
      have q1 : w2.cell? ⟨w.heap.size, 1, none⟩ = some (.int .i64 0) := by simp [World.cell?, hr2]
      have f0 : w2.frozen? ⟨w.heap.size, 0, none⟩ = false := by simp [World.frozen?, hr2]
      have f1 : w2.frozen? ⟨w.heap.size, 1, none⟩ = false := by simp [World.frozen?, hr2]
      have hr4 := set2B_blk (v0 := .string ⟨#[]⟩) (v1 := .int .i64 0) hr2
      have M4 : Hid (RdE (set2B w2 w.heap.size (.string ⟨#[]⟩) (.int .i64 0)) R s a) := bind_rd M2 hRne
      have G4 : Hid (w.grownBy (set2B w2 w.heap.size (.string ⟨#[]⟩) (.int .i64 0)) (some R)) := bind_gr (HG1.out.trans G2)
      go_wp2_with fail
      show bodyPost _ _ _ _ _ (set2B w2 w.heap.size (.string ⟨#[]⟩) (.int .i64 0))
      generalize set2B w2 w.heap.size (.string ⟨#[]⟩) (.int .i64 0) = w4 at *
      refine bodyPost_ret (v := .tuple #[bdV bd0, .int .i64 7]) ?_ rfl ⟨⟨bd0, rfl, fun h => absurd h (by decide)⟩, M4.out, G4.out⟩
      rw [results_cell_tmp rfl]
      simp [go_sem, World.cell?, hr4, bd0]
    · rw [hn, if_neg (by simp)] at cNm hE0
      simp only at cNm
      obtain ⟨b, hb⟩ : ∃ b, skE s E = b := ⟨_, rfl⟩
      have hbi := skE_in (s := s) (a := E) hle.2
      rw [hb] at cNm hE0 hbi
      have hbI : (b : Int) ≤ (s.size : Int) := by omega
      cases he : byB s b 61
      · rw [he, if_pos rfl] at hE0
        rw [hE0]
        have cP : Hid (∀ W, ∀ d os, Calls Tryd.prog 71 #[.string (s.extract b s.size), .string ⟨#[61]⟩] (grow (redrawn W d) os) fun e w'' => e = .returned (.bool false) ∧ ∃ p : Regrown, w'' = grow (redrawn W p.d) p.os) := fun W => preRegrown s b hbi.2 hs 61 W false he
        clear hn hk hE0 he
        go_enter Tryd.func56, Tryd.ntmps56
        go_wp2_with fail
        rw [HW.out]
        refine cNm.out.mono ?_
        rintro e w2 ⟨rfl, M2, G2⟩
        obtain ⟨k0, k1⟩ := M2.cells
        have g0 := cell_regrown k0
        have g1 := cell_regrown k1
        have CP : Hid (∀ d os, Calls Tryd.prog 71 #[.string (s.extract b s.size), .string ⟨#[61]⟩] (grow (redrawn w2 d) os) fun e w'' => e = .returned (.bool false) ∧ ∃ p : Regrown, w'' = grow (redrawn w2 p.d) p.os) := cP.out w2
        have HM2 : Hid (RdE w2 R s b) := M2
        have HG2 : Hid (W1.grownBy w2 (some R)) := G2
        clear M2 G2 k0 k1 cP
        go_wp2_with fail
        refine wp_region_quiet_below (by kernel_rfl) (by kernel_rfl) ?_
        iterate 11 (go_big_quiet_step ((go_at_call 71; exact CP.out _ _)))
        refine wpQuiet_nil ?_
        intro _ hw'
        obtain ⟨⟨ds, oss⟩, hw''⟩ := hw'
        subst hw''
        have b3 := below_regrown w2 ds oss
        have M3 := HM2.out.below b3
        have G3 := grE_trans HG2.out b3
        clear g0 g1 b3 CP
        generalize grow (redrawn w2 ds) oss = w3 at *
        have hr2 := HK.out w3 G3
        have q0 : w3.cell? ⟨w.heap.size, 0, none⟩ = some (.string ⟨#[]⟩) := by simp [World.cell?, hr2]
        have q1 : w3.cell? ⟨w.heap.size, 1, none⟩ = some (.int .i64 0) := by simp [World.cell?, hr2]
        have f0 : w3.frozen? ⟨w.heap.size, 0, none⟩ = false := by simp [World.frozen?, hr2]
        have f1 : w3.frozen? ⟨w.heap.size, 1, none⟩ = false := by simp [World.frozen?, hr2]
        have hr4 := set2B_blk (v0 := .string ⟨#[]⟩) (v1 := .int .i64 0) hr2
        have M4 : Hid (RdE (set2B w3 w.heap.size (.string ⟨#[]⟩) (.int .i64 0)) R s b) := bind_rd M3 hRne
        have G4 : Hid (w.grownBy (set2B w3 w.heap.size (.string ⟨#[]⟩) (.int .i64 0)) (some R)) := bind_gr (HG1.out.trans G3)
        go_wp2_with fail
        show bodyPost _ _ _ _ _ (set2B w3 w.heap.size (.string ⟨#[]⟩) (.int .i64 0))
        generalize set2B w3 w.heap.size (.string ⟨#[]⟩) (.int .i64 0) = w4 at *
        refine bodyPost_ret (v := .tuple #[bdV bd0, .int .i64 6]) ?_ rfl ⟨⟨bd0, rfl, fun h => absurd h (by decide)⟩, M4.out, G4.out⟩
        rw [results_cell_tmp rfl]
        simp [go_sem, World.cell?, hr4, bd0]
      · rw [he, if_neg (by simp)] at hE0
        rw [hE0]
        have hb1 : b + 1 ≤ s.size := by unfold byB at he; simp at he; omega
        have cP : Hid (∀ W, ∀ d os, Calls Tryd.prog 71 #[.string (s.extract b s.size), .string ⟨#[61]⟩] (grow (redrawn W d) os) fun e w'' => e = .returned (.bool true) ∧ ∃ p : Regrown, w'' = grow (redrawn W p.d) p.os) := fun W => preRegrown s b hbi.2 hs 61 W true he
        obtain ⟨c, hc⟩ : ∃ c, skE s (b + 1) = c := ⟨_, rfl⟩
        have hci := skE_in (s := s) hb1
        rw [hc] at hci ⊢
        obtain ⟨N, hN⟩ : ∃ N, numE s c = N := ⟨_, rfl⟩
        have cU : ∀ W, TS W R → RdE W R s c → Calls Tryd.prog 72 #[.pointer (some ⟨R, 0, none⟩)] W fun x w' => x = .returned (.tuple #[.int .i64 (numE s c).1, .int .i64 (numE s c).2.2]) ∧ RdE w' R s (numE s c).2.1 ∧ W.grownBy w' (some R) := fun W h1 h2 => numberR_any W R s c h1 h2 hs hci.2
        rw [hN] at cU ⊢
        obtain ⟨nv, np, ne⟩ := N
        simp only at cU ⊢
        have CU : Hid (∀ W, TS W R → RdE W R s c → Calls Tryd.prog 72 #[.pointer (some ⟨R, 0, none⟩)] W fun x w' => x = .returned (.tuple #[.int .i64 nv, .int .i64 ne]) ∧ RdE w' R s np ∧ W.grownBy w' (some R)) := cU
        have CG : Hid (∀ W, RdE W R s b → TS W R → Calls Tryd.prog 54 #[.pointer (some ⟨R, 0, none⟩), .int .i64 ((b : Int) + 1)] W fun x w' => x = .returned (.tuple #[]) ∧ RdE w' R s c ∧ W.grownBy w' (some R)) := fun W h1 h2 => by
          rw [← hc, show (b : Int) + 1 = ((b + 1 : Nat) : Int) by omega]
          exact goTo_any W R s b (b + 1) h2.now.spans h1 hs hb1
        have h63 : (b : Int) + 1 ≤ 4096 := by omega
        clear hn hk hE0 he cU hN hc hci
        go_enter Tryd.func56, Tryd.ntmps56
        go_wp2_with fail
        rw [HW.out]
        refine cNm.out.mono ?_
        rintro e w2 ⟨rfl, M2, G2⟩
        obtain ⟨k0, k1⟩ := M2.cells
        have g0 := cell_regrown k0
        have g1 := cell_regrown k1
        have CP : Hid (∀ d os, Calls Tryd.prog 71 #[.string (s.extract b s.size), .string ⟨#[61]⟩] (grow (redrawn w2 d) os) fun e w'' => e = .returned (.bool true) ∧ ∃ p : Regrown, w'' = grow (redrawn w2 p.d) p.os) := cP.out w2
        have HM2 : Hid (RdE w2 R s b) := M2
        have HG2 : Hid (W1.grownBy w2 (some R)) := G2
        clear M2 G2 k0 k1 cP
        go_wp2_with fail
        refine wp_region_quiet_below (by kernel_rfl) (by kernel_rfl) ?_
        iterate 11 (go_big_quiet_step ((go_at_call 71; exact CP.out _ _)))
        refine wpQuiet_nil ?_
        intro _ hw'
        obtain ⟨⟨ds, oss⟩, hw''⟩ := hw'
        subst hw''
        have b3 := below_regrown w2 ds oss
        have M3 := HM2.out.below b3
        have G3 := grE_trans HG2.out b3
        clear g0 g1 b3 CP
        generalize grow (redrawn w2 ds) oss = w3 at *
        obtain ⟨k0, k1⟩ := M3.cells
        have HM3 : Hid (RdE w3 R s b) := M3
        have HG3 : Hid (W1.grownBy w3 (some R)) := G3
        clear M3 G3
        go_wp2_with fail
        refine (CG.out _ HM3.out (HT1.out.gr HG3.out)).mono ?_
        rintro e w5 ⟨rfl, M5, G5⟩
        have HG5 : Hid (W1.grownBy w5 (some R)) := HG3.out.trans G5
        have HM5 : Hid (RdE w5 R s c) := M5
        clear M5 G5 k0 k1
        go_wp2_with fail
        refine (CU.out _ (HT1.out.gr HG5.out) HM5.out).mono ?_
        rintro e w6 ⟨rfl, M6, G6⟩
        have G3 := HG5.out.trans G6
        have hr2 := HK.out w6 G3
        have q0 : w6.cell? ⟨w.heap.size, 0, none⟩ = some (.string ⟨#[]⟩) := by simp [World.cell?, hr2]
        have q1 : w6.cell? ⟨w.heap.size, 1, none⟩ = some (.int .i64 0) := by simp [World.cell?, hr2]
        have f0 : w6.frozen? ⟨w.heap.size, 0, none⟩ = false := by simp [World.frozen?, hr2]
        have f1 : w6.frozen? ⟨w.heap.size, 1, none⟩ = false := by simp [World.frozen?, hr2]
        have hr4 := set2B_blk (v0 := .string nm) (v1 := .int .i64 nv) hr2
        have M4 : Hid (RdE (set2B w6 w.heap.size (.string nm) (.int .i64 nv)) R s np) := bind_rd M6 hRne
        have G4 : Hid (w.grownBy (set2B w6 w.heap.size (.string nm) (.int .i64 nv)) (some R)) := bind_gr (HG1.out.trans G3)
        go_wp2_with fail
        show bodyPost _ _ _ _ _ (set2B w6 w.heap.size (.string nm) (.int .i64 nv))
        generalize set2B w6 w.heap.size (.string nm) (.int .i64 nv) = w4 at *
        refine bodyPost_ret (v := .tuple #[bdV (nm, nv), .int .i64 ne]) ?_ rfl ⟨⟨(nm, nv), rfl, fun h => rfl⟩, M4.out, G4.out⟩
        rw [results_cell_tmp rfl]
        simp [go_sem, World.cell?, hr4]
  · unfold namR at cNm
    rw [if_neg hk] at cNm hE0
    rw [hE0]
    clear hk hE0
    go_enter Tryd.func56, Tryd.ntmps56
    go_wp2_with fail
    rw [HW.out]
    refine cNm.out.mono ?_
    rintro e w2 ⟨rfl, M2, G2⟩
    have hr2 := HK.out w2 G2
    have q0 : w2.cell? ⟨w.heap.size, 0, none⟩ = some (.string ⟨#[]⟩) := by simp [World.cell?, hr2]
    have q1 : w2.cell? ⟨w.heap.size, 1, none⟩ = some (.int .i64 0) := by simp [World.cell?, hr2]
    have f0 : w2.frozen? ⟨w.heap.size, 0, none⟩ = false := by simp [World.frozen?, hr2]
    have f1 : w2.frozen? ⟨w.heap.size, 1, none⟩ = false := by simp [World.frozen?, hr2]
    have hr4 := set2B_blk (v0 := .string ⟨#[]⟩) (v1 := .int .i64 0) hr2
    have M4 : Hid (RdE (set2B w2 w.heap.size (.string ⟨#[]⟩) (.int .i64 0)) R s a) := bind_rd M2 hRne
    have G4 : Hid (w.grownBy (set2B w2 w.heap.size (.string ⟨#[]⟩) (.int .i64 0)) (some R)) := bind_gr (HG1.out.trans G2)
    go_wp2_with fail
    show bodyPost _ _ _ _ _ (set2B w2 w.heap.size (.string ⟨#[]⟩) (.int .i64 0))
    generalize set2B w2 w.heap.size (.string ⟨#[]⟩) (.int .i64 0) = w4 at *
    refine bodyPost_ret (v := .tuple #[bdV bd0, .int .i64 6]) ?_ rfl ⟨⟨bd0, rfl, fun h => absurd h (by decide)⟩, M4.out, G4.out⟩
    rw [results_cell_tmp rfl]
    simp [go_sem, World.cell?, hr4, bd0]
end Go.Proofs.YtpdohdmpjaklgaaDoor

set_option linter.unusedSimpArgs false
set_option linter.unusedVariables false
namespace Go.Proofs.YtpdohdmpjaklgaaDoor
open Go.RowKit Go.Lib Go.Sort

theorem numE_in (s : ByteArray) (c : Nat) (hc : c ≤ s.size) : (numE s c).2.1 ≤ s.size := by
  have hd := (mwd_in s c hc).1
  have hg := (dgE_in s (digZ (rn s (c + mwd s c))) s.size _ hd).2
  unfold numE
  split
  · exact hc
  · split
    · exact (skE_in hg).2
    · exact hd
theorem bindP_in (s : ByteArray) (a : Nat) (ha : a ≤ s.size) : (bindP s a).2.1 ≤ s.size := by
  have h1 := (spF_le s s.size a ha).2
  have h2 := (skE_in h1).2
  unfold bindP
  split
  · split
    · exact ha
    · split
      · exact h2
      · rename_i h
        have hb : skE s (spF s s.size a) + 1 ≤ s.size := by unfold byB at h; simp at h; omega
        exact numE_in s _ (skE_in hb).2
  · exact ha
theorem OwnB.gr {w w' : World} {base R : Nat} {v : Value} {l : List Bd} (h : OwnB w base v l) (hg : w.grownBy w' (some R)) (hR : R < base) : OwnB w' base v l :=
  World.ownsRow.kept h hg (by
    cases hv : v.ownBlock
    · exact .inl rfl
    · rename_i k
      have := h.blk k hv
      exact .inr (by simp; omega))
theorem gr_row {w w4 w5 : World} {R : Nat} {o : Option Nat} (h : w.grownBy w4 (some R)) (hg : w4.grownBy w5 o) (ho : ∀ k, o = some k → w.heap.size ≤ k) : w.grownBy w5 (some R) :=
  ⟨hg.os.trans h.os, hg.tape.trans h.tape, hg.output.trans h.output, Nat.le_trans h.size hg.size, fun k hk hne => (hg.block k (by have := h.size; omega) (fun e => by have := ho k e.symm; omega)).trans (h.block k hk hne)⟩
theorem ownsRow_blkE {w : World} {base : Nat} {e : TypeId} {s n : Nat} {v : Value} {xs : List Value} (h : w.ownsRow base e s v n xs) : ∀ k, v.ownBlock = some k → base ≤ k := by
  intro k hk
  rcases h.2 with ⟨rfl, _⟩ | ⟨g, cp, cur, rfl, hb, _⟩
  · cases hk
  · cases hk; exact hb
theorem news2 (W : World) (a b : Value) (T : TypeId) (k : Nat) (hk : W.heap.size = k) : ∀ (j : Nat) u, [a, b][j]? = some u → (W.alloc (.cells #[a, b] T)).cell? ((⟨k, 0, none⟩ : Addr).add j) = some u := by
  subst hk
  intro j u hj
  rcases j with _ | _ | j
  · simp at hj; subst hj; simp [Go.WideShapes.add_plain]
  · simp at hj; subst hj; simp [Go.WideShapes.add_plain]
  · simp at hj
def lenV : Value → Nat
  | .slice _ n _ => n
  | _ => 0
/-- What bindings leaves. -/
def BndP (w : World) (R : Nat) (s : ByteArray) (X : List Bd × Nat × Int) (x : Ending) (w' : World) : Prop :=
  (∃ v, x = .returned (.tuple #[v, .int .i64 X.2.2]) ∧ OwnB w' w.heap.size v X.1) ∧ (∃ p : Nat, RdE w' R s p ∧ (X.2.2 ≠ 0 → p = X.2.1)) ∧ w.grownBy w' (some R)
theorem bnd_bad {w w' : World} {R : Nat} {s : ByteArray} {X : List Bd × Nat × Int} {p : Nat} {er : Int} (hX : X = ([], p, er)) (hM : RdE w' R s p) (hg : w.grownBy w' (some R)) : BndP w R s X (.returned (.tuple #[.slice none 0 0, .int .i64 er])) w' := by
  subst hX
  exact ⟨⟨_, rfl, OwnB_nil _ _⟩, ⟨p, hM, fun _ => rfl⟩, hg⟩

set_option maxRecDepth 100000 in
set_option maxHeartbeats 8000000 in
theorem bindings_any (w : World) (R : Nat) (s : ByteArray) (a0 : Nat) (hT : TS w R) (hM : RdE w R s a0) (hs : s.size ≤ 4096) :
    Calls Tryd.prog 30 #[.pointer (some ⟨R, 0, none⟩)] w (BndP w R s (if skE s 0 = s.size then ([], 0, 0) else evF s 64 (skE s 0) [])) := by
  have hl := hM.lt
  obtain ⟨i0, hi, hz0, hz1, hz2⟩ := info_parts Tryd.infoBind
  have cG : Hid (Calls Tryd.prog 54 #[.pointer (some ⟨R, 0, none⟩), .int .i64 0] w fun x w' => x = .returned (.tuple #[]) ∧ RdE w' R s (skE s 0) ∧ w.grownBy w' (some R)) := goTo_any w R s a0 0 hT.now.spans hM hs (Nat.zero_le _)
  have hk0 := (skE_in (s := s) (a := 0) (Nat.zero_le _)).2
  have HT : Hid (TS w R) := hT
  have cE : Hid (∀ W a, RdE W R s a → Calls Tryd.prog 55 #[.pointer (some ⟨R, 0, none⟩)] W fun x w' => x = .returned (.bool (decide (a = s.size))) ∧ Below W.heap.size W w') := fun W a h => ended_any W R s a h
  clear hT hM
  obtain ⟨A, hA⟩ : ∃ A, skE s 0 = A := ⟨_, rfl⟩
  rw [hA] at cG hk0 ⊢
  clear hA
  by_cases hA : A = s.size
  · rw [if_pos hA]
    have cE1 : Hid (∀ W, RdE W R s A → Calls Tryd.prog 55 #[.pointer (some ⟨R, 0, none⟩)] W fun x w' => x = .returned (.bool true) ∧ Below W.heap.size W w') := fun W h => by
      have := cE.out W A h; rw [decide_eq_true hA] at this; exact this
    clear hA cE
    go_enter Tryd.func30, Tryd.ntmps30
    go_wp2_with (first | (go_at_call 55; refine (cE1.out _ M2).mono ?_; rintro e w3 ⟨rfl, b3⟩) | (go_at_call 54; refine cG.out.mono ?_; rintro e w2 ⟨rfl, M2, G2⟩))
    go_ret2
    exact ⟨⟨_, rfl, OwnB_nil _ _⟩, ⟨A, M2.below b3, fun h => absurd rfl h⟩, grE_trans G2 b3⟩
  · rw [if_neg hA]
    have cE1 : Hid (∀ W, RdE W R s A → Calls Tryd.prog 55 #[.pointer (some ⟨R, 0, none⟩)] W fun x w' => x = .returned (.bool false) ∧ Below W.heap.size W w') := fun W h => by
      have := cE.out W A h; rw [decide_eq_false hA] at this; exact this
    clear hA
    obtain ⟨X, hX⟩ : ∃ X, evF s 64 A [] = X := ⟨_, rfl⟩
    have HX : Hid (evF s 64 A [] = X) := hX
    rw [hX]
    clear hX
    go_enter Tryd.func30, Tryd.ntmps30
    go_wp2_with (first | (go_at_call 55; refine (cE1.out _ M2).mono ?_; rintro e w3 ⟨rfl, b3⟩) | (go_at_call 54; refine cG.out.mono ?_; rintro e w2 ⟨rfl, M2, G2⟩))
    have M3 := M2.below b3
    have G3 := grE_trans G2 b3
    clear M2 G2 b3 cE1 cG
    go_loopw [4] (fun v wr => ∃ (l : List Bd) (f a : Nat), RdE wr R s a ∧ a ≤ s.size ∧ OwnB wr w.heap.size v l ∧ l.length + f = 64 ∧ 0 < f ∧ Hid (evF s f a l = X) ∧ w.grownBy wr (some R)) (fun v _ => 64 - lenV v)
    case atStart => exact ⟨[], 64, A, M3, hk0, OwnB_nil _ _, rfl, by omega, HX.out, G3⟩
    case round =>
      obtain ⟨l, f, a, Mr, ha, Or, hlf, hf0, HE, Gr⟩ := hrel
      obtain ⟨f, rfl⟩ : ∃ g, f = g + 1 := ⟨f - 1, by omega⟩
      have hst : evF s (f + 1) a l = if (bindP s a).2.2 = 0 then
          (if (bindP s a).2.1 = s.size then (l ++ [(bindP s a).1], 0, 0)
          else if byB s (bindP s a).2.1 44 = false then ([], (bindP s a).2.1, 6)
          else if (l ++ [(bindP s a).1]).length = 64 then ([], (bindP s a).2.1, 10)
          else evF s f (skE s ((bindP s a).2.1 + 1)) (l ++ [(bindP s a).1]))
        else ([], (bindP s a).2.1, (bindP s a).2.2) := rfl
      have hpi := bindP_in s a ha
      have cB := binding_any wr R s a (HT.out.gr Gr) Mr hs ha
      unfold BindP at cB
      generalize bindP s a = Y at *
      obtain ⟨y0, yp, ye⟩ := Y
      simp only at cB hst hpi
      rw [HE.out] at hst
      have HST : Hid (X = if ye = 0 then (if yp = s.size then (l ++ [y0], 0, 0) else if byB s yp 44 = false then ([], yp, 6) else if (l ++ [y0]).length = 64 then ([], yp, 10) else evF s f (skE s (yp + 1)) (l ++ [y0])) else ([], yp, ye)) := hst
      have CB : Hid (Calls Tryd.prog 56 #[.pointer (some ⟨R, 0, none⟩)] wr fun x w' => (∃ y : Bd, x = .returned (.tuple #[bdV y, .int .i64 ye]) ∧ (ye = 0 → y = y0)) ∧ RdE w' R s yp ∧ wr.grownBy w' (some R)) := cB
      have HOr : Hid (OwnB wr w.heap.size _ l) := Or
      obtain ⟨va, vc, hv⟩ := Or.form
      subst hv
      have HGr : Hid (w.grownBy wr (some R)) := Gr
      have hgs := Gr.size
      clear cB hst HE Mr Or Gr
      by_cases hye : ye = 0
      · have hye1 : (ye != 0) = false := by simp [hye]
        have HY0 : Hid (ye = 0) := hye
        clear hye
        go_wp2_with fail
        refine CB.out.mono ?_
        rintro e w5 ⟨⟨y, rfl, hy⟩, M5, G5⟩
        obtain rfl := hy HY0.out
        obtain ⟨ynm, yn⟩ := y
        simp only [bdV]
        have hws5 := G5.size
        have b6 : Below w5.heap.size w5 ((w5.alloc (.cells #[.string ynm, .int .i64 yn] 38)).alloc (.cells #[.string ynm, .int .i64 yn] 38)) := ((Below.refl _ _).alloc (Nat.le_refl _) _).alloc (by simp) _
        have HO7 : Hid (((w5.alloc (.cells #[.string ynm, .int .i64 yn] 38)).alloc (.cells #[.string ynm, .int .i64 yn] 38)).ownsRow w.heap.size 38 2 (.slice va l.length vc) l.length (bdCells l)) := (HOr.out.gr G5 hl).below b6
        have HM6 : Hid (RdE ((w5.alloc (.cells #[.string ynm, .int .i64 yn] 38)).alloc (.cells #[.string ynm, .int .i64 yn] 38)) R s yp) := M5.below b6
        have HG6 : Hid (w.grownBy ((w5.alloc (.cells #[.string ynm, .int .i64 yn] 38)).alloc (.cells #[.string ynm, .int .i64 yn] 38)) (some R)) := grE_trans (HGr.out.trans G5) b6
        have hl64 : l.length ≤ 63 := by omega
        clear M5 G5 b6 hy
        have cEE : Hid (∀ W, RdE W R s yp → Calls Tryd.prog 55 #[.pointer (some ⟨R, 0, none⟩)] W fun x w' => x = .returned (.bool (decide (yp = s.size))) ∧ Below W.heap.size W w') := fun W h => cE.out W yp h
        have cCC : Hid (∀ W, TS W R → RdE W R s yp → Calls Tryd.prog 57 #[.pointer (some ⟨R, 0, none⟩), .int .i64 ((l.length : Int) + 1)] W fun x w' => x = .returned (.int .i64 (comR s yp (l.length + 1)).1) ∧ RdE w' R s (comR s yp (l.length + 1)).2 ∧ W.grownBy w' (some R)) := fun W h1 h2 => comma_any W R s yp (l.length + 1) h1 h2 hs hpi
        by_cases hend : yp = s.size
        · rw [decide_eq_true hend] at cEE
          have hXX : X = (l ++ [(ynm, yn)], 0, 0) := by rw [HST.out, if_pos HY0.out, if_pos hend]
          have HXX : Hid (X = (l ++ [(ynm, yn)], 0, 0)) := hXX
          clear hend hXX
          go_wp2_with (first | (at_builtin; refine wpList_append_own _ rfl _ _ 22 rfl w.heap.size 38 i0 (.agg #[.string ⟨#[]⟩, .int .i64 0]) 2 24 Tryd.underlying22 hi hz0 hz1 hz2 rfl (by decide) _ _ _ rfl HO7.out ⟨w5.heap.size + 1, 0, none⟩ 1 1 [.string ynm, .int .i64 yn] rfl (by simp) (news2 _ _ _ _ _ (by simp)) (by simp [Value.oneCell']) (by unfold maxLen; omega) (by omega) (by simp; omega) ?_; intro v' w8 hown hgrow _; have HO8 : Hid (OwnB w8 w.heap.size v' (l ++ [(ynm, yn)])) := (bd_snoc hown); obtain ⟨va8, vc8, hv8⟩ := HO8.out.form; subst hv8; have HG8 : Hid (w.grownBy w8 (some R)) := (gr_row HG6.out hgrow (fun k hk => ownsRow_blkE HO7.out k hk)); have HM8 : Hid (RdE w8 R s yp) := ⟨(hgrow.block R (HM6.out.lt) (fun e => absurd (ownsRow_blkE HO7.out R e.symm) (by omega))).trans HM6.out.blk⟩; clear hown hgrow) | (go_at_call 55; refine (cEE.out _ HM8.out).mono ?_; rintro e w9 ⟨rfl, b9⟩))
          go_ret2
          rw [HXX.out]
          have hO9 := HO8.out.below b9
          rw [show (l ++ [(ynm, yn)]).length = l.length + 1 by simp] at hO9
          exact ⟨⟨_, rfl, hO9⟩, ⟨yp, HM8.out.below b9, fun h => absurd rfl h⟩, grE_trans HG8.out b9⟩
        · rw [decide_eq_false hend] at cEE
          have hlen1 : (l ++ [(ynm, yn)]).length = l.length + 1 := by simp
          have hcast : (((l ++ [(ynm, yn)]).length : Nat) : Int) = (l.length : Int) + 1 := by rw [hlen1]; omega
          have hST := HST.out
          rw [if_pos HY0.out, if_neg hend] at hST
          clear hend
          cases hcm : byB s yp 44
          · have e1 : comR s yp (l.length + 1) = (6, yp) := by unfold comR; rw [if_pos hcm]
            rw [hcm, if_pos rfl] at hST
            rw [e1] at cCC
            simp only at cCC
            have HXX : Hid (X = ([], yp, 6)) := hST
            clear hST hcm e1
            go_wp2_with (first | (at_builtin; refine wpList_append_own _ rfl _ _ 22 rfl w.heap.size 38 i0 (.agg #[.string ⟨#[]⟩, .int .i64 0]) 2 24 Tryd.underlying22 hi hz0 hz1 hz2 rfl (by decide) _ _ _ rfl HO7.out ⟨w5.heap.size + 1, 0, none⟩ 1 1 [.string ynm, .int .i64 yn] rfl (by simp) (news2 _ _ _ _ _ (by simp)) (by simp [Value.oneCell']) (by unfold maxLen; omega) (by omega) (by simp; omega) ?_; intro v' w8 hown hgrow _; have HO8 : Hid (OwnB w8 w.heap.size v' (l ++ [(ynm, yn)])) := (bd_snoc hown); obtain ⟨va8, vc8, hv8⟩ := HO8.out.form; subst hv8; have HG8 : Hid (w.grownBy w8 (some R)) := (gr_row HG6.out hgrow (fun k hk => ownsRow_blkE HO7.out k hk)); have HM8 : Hid (RdE w8 R s yp) := ⟨(hgrow.block R (HM6.out.lt) (fun e => absurd (ownsRow_blkE HO7.out R e.symm) (by omega))).trans HM6.out.blk⟩; clear hown hgrow) | (go_at_call 57; refine (cCC.out _ (HT.out.gr HG9.out) HM9.out).mono ?_; rintro e w10 ⟨rfl, M10, G10⟩) | (go_at_call 55; refine (cEE.out _ HM8.out).mono ?_; rintro e w9 ⟨rfl, b9⟩; have HM9 : Hid (RdE w9 R s yp) := (HM8.out.below b9); have HG9 : Hid (w.grownBy w9 (some R)) := (grE_trans HG8.out b9); have HO9 : Hid (OwnB w9 w.heap.size _ (l ++ [(ynm, yn)])) := (HO8.out.below b9)))
            go_ret2
            exact bnd_bad HXX.out M10 (HG9.out.trans G10)
          · rw [hcm, if_neg (by simp), hlen1] at hST
            by_cases h64 : l.length + 1 = 64
            · have e1 : comR s yp (l.length + 1) = (10, yp) := by unfold comR; rw [if_neg (by simp [hcm]), if_pos h64]
              rw [if_pos h64] at hST
              rw [e1] at cCC
              simp only at cCC
              have HXX : Hid (X = ([], yp, 10)) := hST
              clear hST hcm e1 h64
              go_wp2_with (first | (at_builtin; refine wpList_append_own _ rfl _ _ 22 rfl w.heap.size 38 i0 (.agg #[.string ⟨#[]⟩, .int .i64 0]) 2 24 Tryd.underlying22 hi hz0 hz1 hz2 rfl (by decide) _ _ _ rfl HO7.out ⟨w5.heap.size + 1, 0, none⟩ 1 1 [.string ynm, .int .i64 yn] rfl (by simp) (news2 _ _ _ _ _ (by simp)) (by simp [Value.oneCell']) (by unfold maxLen; omega) (by omega) (by simp; omega) ?_; intro v' w8 hown hgrow _; have HO8 : Hid (OwnB w8 w.heap.size v' (l ++ [(ynm, yn)])) := (bd_snoc hown); obtain ⟨va8, vc8, hv8⟩ := HO8.out.form; subst hv8; have HG8 : Hid (w.grownBy w8 (some R)) := (gr_row HG6.out hgrow (fun k hk => ownsRow_blkE HO7.out k hk)); have HM8 : Hid (RdE w8 R s yp) := ⟨(hgrow.block R (HM6.out.lt) (fun e => absurd (ownsRow_blkE HO7.out R e.symm) (by omega))).trans HM6.out.blk⟩; clear hown hgrow) | (go_at_call 57; refine (cCC.out _ (HT.out.gr HG9.out) HM9.out).mono ?_; rintro e w10 ⟨rfl, M10, G10⟩) | (go_at_call 55; refine (cEE.out _ HM8.out).mono ?_; rintro e w9 ⟨rfl, b9⟩; have HM9 : Hid (RdE w9 R s yp) := (HM8.out.below b9); have HG9 : Hid (w.grownBy w9 (some R)) := (grE_trans HG8.out b9); have HO9 : Hid (OwnB w9 w.heap.size _ (l ++ [(ynm, yn)])) := (HO8.out.below b9)))
              go_ret2
              exact bnd_bad HXX.out M10 (HG9.out.trans G10)
            · have e1 : comR s yp (l.length + 1) = (0, skE s (yp + 1)) := by unfold comR; rw [if_neg (by simp [hcm]), if_neg h64]
              rw [if_neg h64] at hST
              rw [e1] at cCC
              simp only at cCC
              have HXX : Hid (X = evF s f (skE s (yp + 1)) (l ++ [(ynm, yn)])) := hST
              have hy1 : yp + 1 ≤ s.size := by unfold byB at hcm; simp at hcm; omega
              have hsk := (skE_in hy1).2
              clear hST hcm e1
              go_wp2_with (first | (at_builtin; refine wpList_append_own _ rfl _ _ 22 rfl w.heap.size 38 i0 (.agg #[.string ⟨#[]⟩, .int .i64 0]) 2 24 Tryd.underlying22 hi hz0 hz1 hz2 rfl (by decide) _ _ _ rfl HO7.out ⟨w5.heap.size + 1, 0, none⟩ 1 1 [.string ynm, .int .i64 yn] rfl (by simp) (news2 _ _ _ _ _ (by simp)) (by simp [Value.oneCell']) (by unfold maxLen; omega) (by omega) (by simp; omega) ?_; intro v' w8 hown hgrow _; have HO8 : Hid (OwnB w8 w.heap.size v' (l ++ [(ynm, yn)])) := (bd_snoc hown); obtain ⟨va8, vc8, hv8⟩ := HO8.out.form; subst hv8; have HG8 : Hid (w.grownBy w8 (some R)) := (gr_row HG6.out hgrow (fun k hk => ownsRow_blkE HO7.out k hk)); have HM8 : Hid (RdE w8 R s yp) := ⟨(hgrow.block R (HM6.out.lt) (fun e => absurd (ownsRow_blkE HO7.out R e.symm) (by omega))).trans HM6.out.blk⟩; clear hown hgrow) | (go_at_call 57; refine (cCC.out _ (HT.out.gr HG9.out) HM9.out).mono ?_; rintro e w10 ⟨rfl, M10, G10⟩) | (go_at_call 55; refine (cEE.out _ HM8.out).mono ?_; rintro e w9 ⟨rfl, b9⟩; have HM9 : Hid (RdE w9 R s yp) := (HM8.out.below b9); have HG9 : Hid (w.grownBy w9 (some R)) := (grE_trans HG8.out b9); have HO9 : Hid (OwnB w9 w.heap.size _ (l ++ [(ynm, yn)])) := (HO8.out.below b9)))
              have HO10 := HO9.out.gr G10 hl
              rw [show (l ++ [(ynm, yn)]).length = l.length + 1 by simp] at HO10
              refine ⟨⟨l ++ [(ynm, yn)], f, skE s (yp + 1), M10, hsk, HO10, by simp; omega, by omega, HXX.out.symm, HG9.out.trans G10⟩, ?_⟩
              simp [lenV]
              omega
      · have hye1 : (ye != 0) = true := by simp [hye]
        have HXX : Hid (X = ([], yp, ye)) := by show _ = _; rw [HST.out, if_neg hye]
        clear hye
        go_wp2_with fail
        refine CB.out.mono ?_
        rintro e w5 ⟨⟨y, rfl, hy⟩, M5, G5⟩
        obtain ⟨ynm, yn⟩ := y
        simp only [bdV]
        go_wp2_with fail
        go_ret2
        have b6 : Below w5.heap.size w5 (w5.alloc (.cells #[.string ynm, .int .i64 yn] 38)) := (Below.refl _ _).alloc (Nat.le_refl _) _
        exact bnd_bad HXX.out (M5.below b6) (grE_trans (HGr.out.trans G5) b6)

/-- What Read leaves. -/
def ReadE (w : World) (s : ByteArray) (x : Ending) (w' : World) : Prop :=
  (∃ v, x = .returned (.tuple #[v, .int .i64 ((evR s).2.1 : Int), .int .i64 (evR s).2.2]) ∧ OwnB w' w.heap.size v (evR s).1) ∧ Below w.heap.size w w'
theorem evF_zero (s : ByteArray) : ∀ (f a : Nat) (l : List Bd), (evF s f a l).2.2 = 0 → (evF s f a l).2.1 = 0
  | 0, _, _, _ => rfl
  | f + 1, a, l, h => by
    unfold evF at h ⊢
    split
    · rename_i h0
      rw [if_pos h0] at h
      split
      · rfl
      · rename_i h1
        rw [if_neg h1] at h
        split
        · rename_i h2; rw [if_pos h2] at h; exact absurd h (by simp)
        · rename_i h2
          rw [if_neg h2] at h
          split
          · rename_i h3; rw [if_pos h3] at h; exact absurd h (by simp)
          · rename_i h3; rw [if_neg h3] at h; exact evF_zero s f _ _ h
    · rename_i h0
      rw [if_neg h0] at h
      exact absurd h h0

theorem evF_nil (s : ByteArray) : ∀ (f a : Nat) (l : List Bd), (evF s f a l).2.2 ≠ 0 → (evF s f a l).1 = []
  | 0, _, _, _ => rfl
  | f + 1, a, l, h => by
    unfold evF at h ⊢
    split
    · rename_i h0
      rw [if_pos h0] at h
      split
      · rename_i h1; rw [if_pos h1] at h; exact absurd rfl h
      · rename_i h1
        rw [if_neg h1] at h
        split
        · rfl
        · rename_i h2
          rw [if_neg h2] at h
          split
          · rfl
          · rename_i h3; rw [if_neg h3] at h; exact evF_nil s f _ _ h
    · rfl

set_option maxRecDepth 100000 in
set_option maxHeartbeats 4000000 in
theorem readE_any (s : ByteArray) (w : World) (hT : Tabs w) (hsz : s.size ≤ maxLen) :
    Calls Tryd.prog 17 #[.string s] w (ReadE w s) := by
  have hsz' := hsz
  unfold maxLen at hsz'
  unfold ReadE
  by_cases h4 : 4096 < s.size
  · have e : evR s = ([], 0, 3) := by unfold evR; rw [if_pos h4]
    rw [e]
    have hg : (4096 : Int) < (s.size : Int) := by omega
    clear e h4
    go_enter Tryd.func17, Tryd.ntmps17
    go_wp2_with fail
    go_ret3
    exact ⟨⟨_, rfl, OwnB_nil _ _⟩, Below.refl _ _⟩
  · have hg : ¬ (4096 : Int) < (s.size : Int) := by omega
    have cC := utfCheck_any s w hT
    have hE : evR s = if (chk s).2 = 0 then (if skE s 0 = s.size then ([], 0, 0) else evF s 64 (skE s 0) []) else ([], (chk s).1, (chk s).2) := by unfold evR; rw [if_neg h4]
    by_cases hc : (chk s).2 = 0
    · rw [if_pos hc] at hE
      have hs : s.size ≤ 4096 := by omega
      obtain ⟨X, hX⟩ : ∃ X, (if skE s 0 = s.size then ([], 0, 0) else evF s 64 (skE s 0) []) = X := ⟨_, rfl⟩
      have hX0 : X.2.2 = 0 → X.2.1 = 0 := by
        rw [← hX]; split
        · exact fun _ => rfl
        · exact evF_zero s _ _ _
      have hXl : X.2.2 ≠ 0 → X.1 = [] := by
        rw [← hX]; split
        · exact fun _ => rfl
        · exact evF_nil s _ _ _
      have cB : ∀ W R a, TS W R → RdE W R s a → Calls Tryd.prog 30 #[.pointer (some ⟨R, 0, none⟩)] W (BndP W R s X) := fun W R a h1 h2 => by rw [← hX]; exact bindings_any W R s a h1 h2 hs
      rw [hX] at hE
      rw [hE]
      obtain ⟨c1, c2, hcc⟩ : ∃ c1 c2, chk s = (c1, c2) := ⟨(chk s).1, (chk s).2, rfl⟩
      rw [hcc] at cC hc
      simp only at cC hc
      subst hc
      obtain ⟨XL, xp, xe⟩ := X
      simp only at hX0 hXl ⊢
      have CB : Hid (∀ W R a, TS W R → RdE W R s a → Calls Tryd.prog 30 #[.pointer (some ⟨R, 0, none⟩)] W (BndP W R s (XL, xp, xe))) := cB
      have CC : Hid (Calls Tryd.prog 29 #[.string s] w fun e w' => e = .returned (.tuple #[.int .i64 (c1 : Int), .int .i64 0]) ∧ Below w.heap.size w w') := cC
      have HT : Hid (Tabs w) := hT
      clear cB cC hE hX hT
      have HX0 : Hid (xe = 0 → xp = 0) := hX0
      have HXL : Hid (xe ≠ 0 → XL = []) := hXl
      clear hX0 hXl
      by_cases hxe : xe = 0
      · have hxe1 : (xe != 0) = false := by simp [hxe]
        have hxp := HX0.out hxe
        have HXE : Hid (xe = 0) := hxe
        subst hxp
        clear hxe
        go_enter Tryd.func17, Tryd.ntmps17
        go_wp2_with fail
        refine CC.out.mono ?_
        rintro e w2 ⟨rfl, b2⟩
        have T2 := HT.out.below b2
        have M3 : RdE (w2.alloc (.cells #[.string s, .int .i64 0] 57)) w2.heap.size s 0 := ⟨heap_alloc_new w2 _⟩
        have S3 : TS (w2.alloc (.cells #[.string s, .int .i64 0] 57)) w2.heap.size := fun W hW => T2.below (((Below.refl _ w2).alloc (Nat.le_refl _) _).trans (belowE_gr hW (by simp)))
        have hb2 := b2.size
        go_wp2_with (go_at_call 30; refine (CB.out _ _ _ S3 M3).mono ?_; rintro e w4 ⟨⟨v, rfl, hO⟩, ⟨p, hM4, hp⟩, hG4⟩; obtain ⟨va, vc, rfl⟩ := hO.form)
        go_ret3
        have b4 : Below w2.heap.size w2 w4 := ((Below.refl _ w2).alloc (Nat.le_refl _) _).trans (belowE_gr hG4 (by simp))
        refine ⟨⟨_, by rw [HXE.out]; rfl, hO.mono (by simp; omega)⟩, b2.trans (b4.mono hb2)⟩
      · have hxe1 : (xe != 0) = true := by simp [hxe]
        have HXE : Hid (xe ≠ 0) := hxe
        clear hxe
        go_enter Tryd.func17, Tryd.ntmps17
        go_wp2_with fail
        refine CC.out.mono ?_
        rintro e w2 ⟨rfl, b2⟩
        have T2 := HT.out.below b2
        have M3 : RdE (w2.alloc (.cells #[.string s, .int .i64 0] 57)) w2.heap.size s 0 := ⟨heap_alloc_new w2 _⟩
        have S3 : TS (w2.alloc (.cells #[.string s, .int .i64 0] 57)) w2.heap.size := fun W hW => T2.below (((Below.refl _ w2).alloc (Nat.le_refl _) _).trans (belowE_gr hW (by simp)))
        have hb2 := b2.size
        go_wp2_with fail
        refine (CB.out _ _ _ S3 M3).mono ?_
        rintro e w4 ⟨⟨v, rfl, hO⟩, ⟨p, hM4, hp⟩, hG4⟩
        obtain rfl := hp HXE.out
        obtain ⟨va, vc, rfl⟩ := hO.form
        have b4 : Hid (Below w2.heap.size w2 w4) := ((Below.refl _ w2).alloc (Nat.le_refl _) _).trans (belowE_gr hG4 (by simp))
        obtain ⟨k0, k1⟩ := hM4.cells
        have g1 := cell_regrown k1
        simp only
        clear hO hM4 hG4 hp k0 k1 M3 S3
        go_wp2_with fail
        refine wp_region_quiet_below (by kernel_rfl) (by kernel_rfl) ?_
        iterate 6 (go_big_quiet_step (fail))
        refine wpQuiet_nil ?_
        intro _ hw'
        obtain ⟨⟨ds, oss⟩, hw''⟩ := hw'
        subst hw''
        have b5 := below_regrown w4 ds oss
        generalize grow (redrawn w4 ds) oss = w5 at *
        go_wp2_with fail
        go_ret3
        have hb4 := b4.out.size
        refine ⟨⟨_, rfl, ?_⟩, b2.trans ((b4.out.trans (b5.mono hb4)).mono hb2)⟩
        rw [HXL.out HXE.out]
        exact OwnB_nil _ _
    · rw [if_neg hc] at hE
      rw [hE]
      obtain ⟨c1, c2, hcc⟩ : ∃ c1 c2, chk s = (c1, c2) := ⟨(chk s).1, (chk s).2, rfl⟩
      rw [hcc] at cC hc ⊢
      simp only at cC hc ⊢
      have hc1 : (c2 != 0) = true := by simp [hc]
      have CC : Hid (Calls Tryd.prog 29 #[.string s] w fun e w' => e = .returned (.tuple #[.int .i64 (c1 : Int), .int .i64 c2]) ∧ Below w.heap.size w w') := cC
      clear cC hE hcc hc
      go_enter Tryd.func17, Tryd.ntmps17
      go_wp2_with (go_at_call 29; refine CC.out.mono ?_; rintro e w2 ⟨rfl, b2⟩)
      go_ret3
      exact ⟨⟨_, rfl, OwnB_nil _ _⟩, b2⟩
end Go.Proofs.YtpdohdmpjaklgaaDoor
