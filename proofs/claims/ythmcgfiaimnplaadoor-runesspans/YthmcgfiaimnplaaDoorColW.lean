/-
  What Column answers, the program's and the document's, for every text and place.
-/
import Derived.Test.YthmcgfiaimnplaaDoorCheckW
set_option linter.unusedSimpArgs false
set_option linter.unusedVariables false
namespace Go.Proofs.YthmcgfiaimnplaaDoor
open Go.RowKit Go.Lib

/-- Line, column and error of a place. -/
def colI (s : ByteArray) (at_ : Int) : Nat × Nat × Int := if at_ < 0 ∨ (s.size : Int) < at_ then (0, 0, 2) else ((colE (s.extract 0 at_.toNat)).1, (colE (s.extract 0 at_.toNat)).2, 0)

theorem head_size (s : ByteArray) (k : Nat) (h : k ≤ s.size) : (s.extract 0 k).size = k := by simp [ByteArray.size_extract]; omega
theorem head_get! (s : ByteArray) (k j : Nat) (h : k ≤ s.size) (hj : j < k) : (s.extract 0 k).get! j = s.get! j := by
  have h1 : j < (s.extract 0 k).size := by rw [head_size s k h]; exact hj
  rw [Utf8W.get!_of_lt _ j h1, Utf8W.get!_of_lt s j (by omega)]
  simp [ByteArray.getElem_extract]
theorem lnF_head (s : ByteArray) (k : Nat) (h : k ≤ s.size) : ∀ j, j ≤ k → lnF (s.extract 0 k) j = lnF s j
  | 0, _ => rfl
  | j + 1, hj => by
    simp only [lnF]
    rw [head_get! s k j h (by omega), lnF_head s k h j (by omega)]
theorem lnF_le (s : ByteArray) : ∀ j, 1 ≤ (lnF s j).1 ∧ (lnF s j).1 ≤ j + 1 ∧ (lnF s j).2 ≤ j
  | 0 => by simp [lnF]
  | j + 1 => by
    have := lnF_le s j
    simp only [lnF]
    split
    · simp only; omega
    · omega
theorem mid_eq (s : ByteArray) (a k : Nat) (h : k ≤ s.size) : s.extract a k = (s.extract 0 k).extract a (s.extract 0 k).size := by
  rw [head_size s k h]
  apply ByteArray.ext
  apply Array.ext'
  rw [extract_data, extract_data, extract_data]
  simp only [List.drop_zero, Nat.sub_zero]
  rw [List.drop_take, List.take_take]
  congr 1
  omega

set_option maxHeartbeats 1000000 in
theorem column_out (s : ByteArray) (at_ : Int) (w : World) (h : at_ < 0 ∨ (s.size : Int) < at_) :
    Calls Tryd.prog 16 #[.string s, .int .i64 at_] w fun e w' => e = .returned (.tuple #[.int .i64 0, .int .i64 0, .int .i64 2]) ∧ Below w.heap.size w w' := by
  have hd : decide (at_ < 0 ∨ (s.size : Int) < at_) = true := by simpa using h
  have c1 : Hid (∀ W, Calls Tryd.prog 26 #[.string s, .int .i64 at_] W fun e w' => e = .returned (.bool true) ∧ w' = W) := fun W => by
    have := outside_any s at_ W; rw [hd] at this; exact this
  clear hd h
  go_enter Tryd.func16, Tryd.ntmps16
  go_wp2_with (go_at_call 26; refine (c1.out _).mono ?_; rintro e w2 ⟨rfl, hw⟩; obtain rfl := hw.symm)
  go_ret3
  exact ⟨rfl, Below.refl _ _⟩

set_option maxHeartbeats 1000000 in
theorem column_in (s : ByteArray) (pos : Nat) (w : World) (h : pos ≤ s.size) (hs : s.size ≤ 1152921504606846976) :
    Calls Tryd.prog 16 #[.string s, .int .i64 pos] w fun e w' => e = .returned (.tuple #[.int .i64 (colE (s.extract 0 pos)).1, .int .i64 (colE (s.extract 0 pos)).2, .int .i64 0]) ∧ Below w.heap.size w w' := by
  have hd : decide ((pos : Int) < 0 ∨ (s.size : Int) < pos) = false := by simp; omega
  have c1 : Hid (∀ W, Calls Tryd.prog 26 #[.string s, .int .i64 pos] W fun e w' => e = .returned (.bool false) ∧ w' = W) := fun W => by
    have := outside_any s pos W; rw [hd] at this; exact this
  clear hd
  have hSz := head_size s pos h
  have hpz : (pos : Int) ≤ (s.size : Int) := by omega
  obtain ⟨P, hP⟩ : ∃ P, s.extract 0 pos = P := ⟨_, rfl⟩
  rw [hP] at hSz ⊢
  go_enter Tryd.func16, Tryd.ntmps16
  go_wp2_with (go_at_call 26; refine (c1.out _).mono ?_; rintro e w2 ⟨rfl, hw⟩; obtain rfl := hw.symm)
  clear c1 hP
  go_loopw [4, 5] (fun a b w' => ∃ (q f l c : Nat), a = .int .i64 l ∧ b = .int .i64 c ∧ It w P q w' ∧ Hid (coF P f q l c = colE P) ∧ P.size ≤ q + f ∧ q ≤ P.size ∧ l ≤ q + 1 ∧ c ≤ q + 1) (fun _ _ w' => P.size - w'.iterPos w.heap.size)
  case atStart => exact ⟨0, P.size, 1, 1, rfl, rfl, It.start w P, rfl, by omega, by omega, by omega, by omega⟩
  case round =>
    obtain ⟨q, f, l, c, rfl, rfl, hI, HN, hf, hq, hl, hc⟩ := hrel
    have hm := hI.pos
    by_cases hp : q < P.size
    · have hnx : ∀ ty, (Instr.next (.pointer (some ⟨w.heap.size, 0, none⟩)) true ty).run Tryd.prog wr = _ := fun ty => run_next_any_at wr w.heap.size P q ty hI.at_ hp
      obtain ⟨f, rfl⟩ : ∃ g, f = g + 1 := ⟨f - 1, by omega⟩
      have hw := width_pos P q hp
      have hw2 := dec_le P q hp
      have hI1 := hI.next (q + (Utf8.decode P q).2)
      by_cases hr : (Utf8.decode P q).1 = 10
      · have hx : Hid (coF P f (q + (Utf8.decode P q).2) (l + 1) 1 = colE P) := (coF_nl P f q l c hp hr).symm.trans HN.out
        have hri : (((Utf8.decode P q).1 : Int) == 10) = true := by simp; omega
        clear hr
        generalize (Utf8.decode P q).2 = v at *
        generalize ((Utf8.decode P q).1 : Int) = r at *
        go_wp2
        exact ⟨⟨q + v, f, l + 1, 1, by go_num, rfl, hI1, hx, by omega, by omega, by omega, by omega⟩, by rw [hI1.pos, hm]; omega⟩
      · have hx : Hid (coF P f (q + (Utf8.decode P q).2) l (c + 1) = colE P) := (coF_on P f q l c hp hr).symm.trans HN.out
        have hri : (((Utf8.decode P q).1 : Int) == 10) = false := by simp; omega
        clear hr
        generalize (Utf8.decode P q).2 = v at *
        generalize ((Utf8.decode P q).1 : Int) = r at *
        go_wp2
        exact ⟨⟨q + v, f, l, c + 1, rfl, by go_num, hI1, hx, by omega, by omega, by omega, by omega⟩, by rw [hI1.pos, hm]; omega⟩
    · have hnx : ∀ ty, (Instr.next (.pointer (some ⟨w.heap.size, 0, none⟩)) true ty).run Tryd.prog wr = _ := fun ty => run_next_end_at wr w.heap.size P q ty hI.at_ hp
      go_wp2
      go_ret3
      have hc' : colE P = (l, c) := HN.out.symm.trans (coF_end P f q l c hp)
      exact ⟨ret3 (by rw [hc']) (by rw [hc']) rfl, hI.below⟩

theorem column_any (s : ByteArray) (at_ : Int) (w : World) (hs : s.size ≤ 1152921504606846976) :
    Calls Tryd.prog 16 #[.string s, .int .i64 at_] w fun e w' => e = .returned (.tuple #[.int .i64 (colI s at_).1, .int .i64 (colI s at_).2.1, .int .i64 (colI s at_).2.2]) ∧ Below w.heap.size w w' := by
  by_cases h : at_ < 0 ∨ (s.size : Int) < at_
  · have hv : colI s at_ = (0, 0, 2) := by simp [colI, h]
    rw [hv]
    exact column_out s at_ w h
  · have hv : colI s at_ = ((colE (s.extract 0 at_.toNat)).1, (colE (s.extract 0 at_.toNat)).2, 0) := by simp [colI, h]
    rw [hv]
    have := column_in s at_.toNat w (by omega) hs
    rw [Int.toNat_of_nonneg (by omega)] at this
    exact this

/-! ### the document's -/
set_option maxHeartbeats 1000000 in
theorem refColumn_out (s : ByteArray) (at_ : Int) (w : World) (h : at_ < 0 ∨ (s.size : Int) < at_) :
    Calls Tryd.prog 17 #[.string s, .int .i64 at_] w fun e w' => e = .returned (.tuple #[.int .i64 0, .int .i64 0, .int .i64 2]) ∧ Below w.heap.size w w' := by
  by_cases h0 : at_ < 0
  · go_enter Tryd.func17, Tryd.ntmps17
    go_wp2
    go_ret3
    exact ⟨rfl, Below.refl _ _⟩
  · have h1 : (s.size : Int) < at_ := by omega
    clear h
    go_enter Tryd.func17, Tryd.ntmps17
    go_wp2
    go_ret3
    exact ⟨rfl, Below.refl _ _⟩

set_option maxHeartbeats 1000000 in
theorem refColumn_in (s : ByteArray) (pos : Nat) (w : World) (h : pos ≤ s.size) (hs : s.size ≤ 1152921504606846976) :
    Calls Tryd.prog 17 #[.string s, .int .i64 pos] w fun e w' => e = .returned (.tuple #[.int .i64 (colE (s.extract 0 pos)).1, .int .i64 (colE (s.extract 0 pos)).2, .int .i64 0]) ∧ Below w.heap.size w w' := by
  have hE : Hid (colE (s.extract 0 pos) = ((lnF s pos).1, 1 + (rl (s.extract (lnF s pos).2 pos)).length)) := by
    show _ = _
    rw [colE_eq, head_size s pos h, lnF_head s pos h pos (Nat.le_refl _), mid_eq s (lnF s pos).2 pos h, rl_tail, head_size s pos h]
  have hpz : (pos : Int) ≤ (s.size : Int) := by omega
  have hd0 : decide ((pos : Int) < 0) = false := by simp
  have hd1 : decide (s.size < pos) = false := by simp; omega
  go_enter Tryd.func17, Tryd.ntmps17
  go_wp2
  go_loopw [4, 7, 8] (fun a b i w' => w' = w ∧ ∃ k : Nat, k ≤ pos ∧ i = .int .i64 k ∧ a = .int .i64 (lnF s k).1 ∧ b = .int .i64 (lnF s k).2) (fun _ _ i _ => pos - (RowKit.intOf i).toNat)
  case atStart => exact ⟨rfl, 0, by omega, rfl, rfl, rfl⟩
  case round =>
    obtain ⟨hwr, k, hk, rfl, rfl, rfl⟩ := hrel
    obtain rfl := hwr.symm
    obtain ⟨hl1, hl2, hl3⟩ := lnF_le s k
    by_cases hlt : k < pos
    · have hks : k < s.size := by omega
      have hst : Hid (lnF s (k + 1) = if s.get! k = 10 then ((lnF s k).1 + 1, k + 1) else lnF s k) := rfl
      have hg : s.get! k = s[k]'hks := Utf8W.get!_of_lt s k hks
      rw [hg] at hst
      clear hg
      have hbt := byte_ten (s[k]'hks)
      have HBT : Hid (s[k]'hks = 10 ↔ (s[k]'hks).toNat = 10) := hbt
      clear hbt
      generalize lnF s k = L at *
      obtain ⟨l, m⟩ := L
      simp only at hl1 hl2 hl3
      have hkz : (k : Int) < (s.size : Int) := by omega
      go_wp2
      · have ht : s[k]'hks = 10 := HBT.out.2 (by have : (((s[k]'hks).toNat : Int) == 10) = true := by assumption
                                                 simp at this; omega)
        have e : lnF s (k + 1) = (l + 1, k + 1) := by rw [hst.out, if_pos ht]
        exact ⟨⟨trivial, k + 1, by omega, by go_num, by rw [e]; go_num, by rw [e]; go_num⟩, by simp [RowKit.intOf]; omega⟩
      · have ht : ¬ s[k]'hks = 10 := fun hx => by
          have h2 : (((s[k]'hks).toNat : Int) == 10) = false := by assumption
          have := HBT.out.1 hx
          simp at h2; omega
        have e : lnF s (k + 1) = (l, m) := by rw [hst.out, if_neg ht]
        exact ⟨⟨trivial, k + 1, by omega, by go_num, by rw [e], by rw [e]⟩, by simp [RowKit.intOf]; omega⟩
    · obtain rfl : k = pos := by omega
      generalize hL : lnF s k = L at *
      obtain ⟨l, m⟩ := L
      simp only at hl1 hl2 hl3
      clear hL
      have HE := hE
      clear hE
      have hmz : (m : Int) ≤ (k : Int) := by omega
      go_wp2
      have hSz : (s.extract m k).size ≤ k := by simp [ByteArray.size_extract]; omega
      generalize s.extract m k = S at *
      go_loopw [5] (fun b w' => ∃ (q f c : Nat), b = .int .i64 c ∧ It w S q w' ∧ Hid (c + (runesFrom S f q).length = 1 + (rl S).length) ∧ S.size ≤ q + f ∧ q ≤ S.size ∧ c ≤ q + 1) (fun _ w' => S.size - w'.iterPos w.heap.size)
      case atStart => exact ⟨0, S.size, 1, rfl, It.start w S, rfl, by omega, by omega, by omega⟩
      case round =>
        obtain ⟨q, f, c, rfl, hI, HN, hf, hq, hc⟩ := hrel
        have hm := hI.pos
        by_cases hp : q < S.size
        · have hnx : ∀ ty, (Instr.next (.pointer (some ⟨w.heap.size, 0, none⟩)) true ty).run Tryd.prog wr = _ := fun ty => run_next_any_at wr w.heap.size S q ty hI.at_ hp
          obtain ⟨f, rfl⟩ : ∃ g, f = g + 1 := ⟨f - 1, by omega⟩
          have hw := width_pos S q hp
          have hw2 := dec_le S q hp
          have hI1 := hI.next (q + (Utf8.decode S q).2)
          have HX : Hid (runesFrom S (f + 1) q = ((Utf8.decode S q).1 : Int) :: runesFrom S f (q + (Utf8.decode S q).2)) := runesFrom_cons S f q hp
          generalize (Utf8.decode S q).2 = v at *
          generalize ((Utf8.decode S q).1 : Int) = r at *
          go_wp2
          exact ⟨⟨q + v, f, c + 1, by go_num, hI1, by have h1 := HN.out
                                                      rw [HX.out, List.length_cons] at h1
                                                      show _ = _
                                                      omega, by omega, by omega, by omega⟩, by rw [hI1.pos, hm]; omega⟩
        · have hnx : ∀ ty, (Instr.next (.pointer (some ⟨w.heap.size, 0, none⟩)) true ty).run Tryd.prog wr = _ := fun ty => run_next_end_at wr w.heap.size S q ty hI.at_ hp
          go_wp2
          go_ret3
          have h1 := HN.out
          rw [runesFrom_end S f q hp, List.length_nil] at h1
          exact ⟨ret3 (by rw [HE.out]) (by rw [HE.out]; simp only; omega) rfl, hI.below⟩

theorem refColumn_any (s : ByteArray) (at_ : Int) (w : World) (hs : s.size ≤ 1152921504606846976) :
    Calls Tryd.prog 17 #[.string s, .int .i64 at_] w fun e w' => e = .returned (.tuple #[.int .i64 (colI s at_).1, .int .i64 (colI s at_).2.1, .int .i64 (colI s at_).2.2]) ∧ Below w.heap.size w w' := by
  by_cases h : at_ < 0 ∨ (s.size : Int) < at_
  · have hv : colI s at_ = (0, 0, 2) := by simp [colI, h]
    rw [hv]
    exact refColumn_out s at_ w h
  · have hv : colI s at_ = ((colE (s.extract 0 at_.toNat)).1, (colE (s.extract 0 at_.toNat)).2, 0) := by simp [colI, h]
    rw [hv]
    have := refColumn_in s at_.toNat w (by omega) hs
    rw [Int.toNat_of_nonneg (by omega)] at this
    exact this
end Go.Proofs.YthmcgfiaimnplaaDoor
