/-
  The document's Text, walked; Text of the program.
-/
import Derived.Test.YtpdohdmpjaklgaaDoorMArRfR
import Derived.Test.YtpdohdmpjaklgaaDoorMArFrame
import Derived.Lib.Strings
set_option linter.unusedSimpArgs false
set_option linter.unusedVariables false
namespace Go.Proofs.YtpdohdmpjaklgaaDoor
open Go.RowKit Go.Lib

def tx8 (l : List UInt8) : ByteArray := ⟨l.toArray⟩
theorem tx8_size (l : List UInt8) : (tx8 l).size = l.length := by simp [tx8, ByteArray.size]
theorem tx8_append (a b : List UInt8) : tx8 (a ++ b) = tx8 a ++ tx8 b := by
  apply ByteArray.ext
  simp [tx8]
theorem add_ok (a b : ByteArray) (h : a.size + b.size ≤ 9223372036854775807) (w : World) : (Op.stringOp .add a b).run Tryd.prog w = .ok (.string (a ++ b)) w := run_string_add_sum w a b h
theorem dec_len : ∀ (n u : Nat), u < 10 ^ (n + 1) → (decDigits u).length ≤ n + 1
  | 0, u, h => by rw [decDigits]; simp at h; simp [h]
  | n + 1, u, h => by
    rw [decDigits]
    split
    · simp
    · have := dec_len n (u / 10) (by rw [Nat.div_lt_iff_lt_mul (by omega)]; rw [Nat.pow_succ] at h; exact h)
      simp; omega
theorem itoa_len (n : Int) (h0 : -9223372036854775808 ≤ n) (h1 : n ≤ 9223372036854775807) : (itoa n).length ≤ 20 := by
  unfold itoa
  split
  · have := dec_len 18 n.natAbs (by omega)
    simp; omega
  · have := dec_len 18 n.toNat (by omega)
    omega
theorem dec_step (u : Nat) (s D : List UInt8) (h : decDigits u ++ s = D) : (u < 10 → UInt8.ofNat (48 + u % 10) :: s = D) ∧ (10 ≤ u → decDigits (u / 10) ++ (UInt8.ofNat (48 + u % 10) :: s) = D) := by
  constructor
  · intro h1
    rw [decDigits, dif_pos h1] at h
    rw [Nat.mod_eq_of_lt h1]
    exact h
  · intro h1
    rw [decDigits, dif_neg (by omega)] at h
    rw [← h]; simp
def mS : Value → Nat
  | .string b => if b.size = 0 then 1 else 0
  | _ => 0
theorem mS_tx8 (s : List UInt8) : mS (.string (tx8 s)) = if s.length = 0 then 1 else 0 := by
  show (if (tx8 s).size = 0 then 1 else 0) = _
  rw [tx8_size]
/-- Between two digits. -/
def DcInv (D : List UInt8) (u : Nat) (s : List UInt8) : Prop := (if 0 < u ∨ s = [] then decDigits u ++ s = D else s = D) ∧ s.length ≤ D.length
theorem dc_start (u : Nat) : DcInv (decDigits u) u [] := ⟨by rw [if_pos (.inr rfl), List.append_nil], Nat.zero_le _⟩
theorem dc_next {D : List UInt8} {u : Nat} {s : List UInt8} (h : DcInv D u s) (hc : 0 < u ∨ s = []) : DcInv D (u / 10) (UInt8.ofNat (48 + u % 10) :: s) := by
  have h1 := h.1
  rw [if_pos hc] at h1
  obtain ⟨a, b⟩ := dec_step u s D h1
  by_cases hu : u < 10
  · have e := a hu
    refine ⟨?_, by rw [← e]; exact Nat.le_refl _⟩
    rw [if_neg (by simp; omega)]; exact e
  · have e := b (by omega)
    refine ⟨?_, by rw [← e]; simp⟩
    rw [if_pos (.inl (by omega))]; exact e
theorem dc_end {D : List UInt8} {u : Nat} {s : List UInt8} (h : DcInv D u s) (hu : u = 0) (hs : s ≠ []) : s = D := by
  have h1 := h.1
  rw [if_neg (by simp [hu, hs])] at h1; exact h1

theorem dig_conv (d : Nat) (hd : d < 10) (w : World) :
    (convert 78 9 (.slice (some ⟨w.heap.size, 0, none⟩) 1 1)).run Tryd.prog (w.alloc (.cells #[.int .u8 (48 + (d : Int))] 5)) = .ok (.string (tx8 [UInt8.ofNat (48 + d)])) (w.alloc (.cells #[.int .u8 (48 + (d : Int))] 5)) := by
  have e : (UInt8.ofNat (48 + d)).toNat = 48 + d := by simp [UInt8.toNat_ofNat]; omega
  have h := run_convert_bytes_back (P := Tryd.prog) (w.alloc (.cells #[.int .u8 (48 + (d : Int))] 5)) 78 9 5 ⟨w.heap.size, 0, none⟩ 1 [UInt8.ofNat (48 + d)] Tryd.underlying78 Tryd.underlying5 Tryd.underlying9
  refine h ?_
  intro j hj
  have : j = 0 := by simp at hj; omega
  subst this
  have e2 : ((⟨w.heap.size, 0, none⟩ : Addr).add 0) = ⟨w.heap.size, 0, none⟩ := rfl
  rw [e2]
  have e3 : ([UInt8.ofNat (48 + d)] : List UInt8)[0] = UInt8.ofNat (48 + d) := rfl
  rw [e3, e, World.cell?_alloc_at _ _ _ _ rfl]
  simp
theorem empty_tx8 (s : List UInt8) : (tx8 s).toList.isEmpty = decide (s = []) := by
  rw [toList_data]; simp [tx8]
  cases s <;> simp

theorem text_any (n : Int) (w : World) (hT : Pows w) (hn : i6 n) :
    Calls Tryd.prog 26 #[.int .i64 n] w fun e w' => e = .returned (.string (tx8 (itoa n))) ∧ Below w.heap.size w w' := by
  have cf : Hid (∀ W, Pows W → Calls Tryd.prog 48 #[.int .i64 n, .int .i64 10] W fun e w' => e = .returned (.string (tx8 (itoa n))) ∧ Below W.heap.size W w') := fun W hW => by
    refine (Tryd.strconv_FormatInt_10 n hn.1 hn.2 W hW).mono ?_
    rintro e w' ⟨he, k, os, rfl⟩
    exact ⟨he, below_grow k os⟩
  go_enter Tryd.func26, Tryd.ntmps26
  go_wp2_with (go_at_call 48; refine (cf.out _ hT).mono ?_; rintro e w2 ⟨rfl, hb2⟩)
  go_ret
  exact ⟨rfl, hb2⟩

set_option maxRecDepth 20000 in
set_option maxHeartbeats 2000000 in
theorem refText_any (n : Int) (w : World) (hn : i6 n) :
    Calls Tryd.prog 28 #[.int .i64 n] w fun e w' => e = .returned (.string (tx8 (itoa n))) ∧ Below w.heap.size w w' := by
  have hn' := hn
  unfold i6 at hn'
  obtain ⟨u, hu⟩ : ∃ u : Nat, n.natAbs = u := ⟨_, rfl⟩
  have cs : Hid (∀ W, Calls Tryd.prog 52 #[.int .i64 n] W fun e w' => e = .returned (.int .u64 (u : Int)) ∧ w' = W) := fun W => by
    have := size_any n W hn; rw [hu] at this; exact this
  have HS : Hid (DcInv (decDigits u) u []) := dc_start u
  have hu2 : u ≤ 9223372036854775808 := by omega
  have hD : (decDigits u).length ≤ 20 := by have := dec_len 19 u (by omega); omega
  have HI : Hid (tx8 (itoa n) = if n < 0 then tx8 [45] ++ tx8 (decDigits u) else tx8 (decDigits u)) := by
    show _ = _
    unfold itoa
    by_cases h : n < 0
    · rw [if_pos h, if_pos h, ← tx8_append, hu]; rfl
    · rw [if_neg h, if_neg h]
      have : n.toNat = u := by omega
      rw [this]
  generalize tx8 (itoa n) = RT at *
  generalize decDigits u = D at *
  clear hu hn
  go_enter Tryd.func28, Tryd.ntmps28
  go_wp2_with (go_at_call 52; refine (cs.out _).mono ?_; rintro e w2 ⟨rfl, hw⟩; obtain rfl := hw.symm; clear hw)
  go_loopw [3, 4] (fun vs vu wr => ∃ (u : Nat) (s : List UInt8), vs = .string (tx8 s) ∧ vu = .int .u64 (u : Int) ∧ u ≤ 9223372036854775808 ∧ Hid (DcInv D u s) ∧ Below w.heap.size w wr) (fun vs vu _ => 2 * (RowKit.intOf vu).toNat + mS vs)
  case atStart =>
    exact ⟨u, [], rfl, rfl, by omega, HS.out, Below.refl _ _⟩
  case round =>
    obtain ⟨u0, hu0e⟩ : ∃ u0, u0 = u := ⟨_, rfl⟩
    subst hu0e
    obtain ⟨u, s, rfl, rfl, hu, hI, hbw⟩ := hrel
    have hsl := hI.out.2
    have hm := mS_tx8 s
    by_cases hc : 0 < u ∨ s = []
    · have HNX : Hid (DcInv D (u / 10) (UInt8.ofNat (48 + u % 10) :: s)) := dc_next hI.out hc
      have hAd : ∀ W : World, (Op.stringOp .add (tx8 [UInt8.ofNat (48 + u % 10)]) (tx8 s)).run Tryd.prog W = .ok (.string (tx8 (UInt8.ofNat (48 + u % 10) :: s))) W := fun W => by
        have e : tx8 (UInt8.ofNat (48 + u % 10) :: s) = tx8 [UInt8.ofNat (48 + u % 10)] ++ tx8 s := by rw [← tx8_append]; rfl
        rw [e]; exact add_ok _ _ (by rw [tx8_size, tx8_size]; simp; omega) W
      have hm2 := mS_tx8 (UInt8.ofNat (48 + u % 10) :: s)
      have hcv : (convert 78 9 (.slice (some ⟨wr.heap.size, 0, none⟩) 1 1)).run Tryd.prog (wr.alloc (.cells #[.int .u8 (48 + (u : Int) % 10)] 5)) = .ok (.string (tx8 [UInt8.ofNat (48 + u % 10)])) (wr.alloc (.cells #[.int .u8 (48 + (u : Int) % 10)] 5)) := by
        have := dig_conv (u % 10) (by omega) wr
        rw [Int.natCast_emod] at this; exact this
      have HBW : Hid (Below w.heap.size w (wr.alloc (.cells #[.int .u8 (48 + (u : Int) % 10)] 5))) := hbw.alloc hbw.size _
      generalize UInt8.ofNat (48 + u % 10) = dg at *
      have hm3 : mS (.string (tx8 (dg :: s))) = 0 := by rw [hm2]; simp
      clear hI hbw hm2
      by_cases hu0 : 0 < u
      · have gu : (0 : Int) < (u : Int) := by omega
        have hms : 2 * (u / 10) + mS (.string (tx8 (dg :: s))) < 2 * u + mS (.string (tx8 s)) := by omega
        have HMS : Hid (2 * (u / 10) + mS (.string (tx8 (dg :: s))) < 2 * u + mS (.string (tx8 s))) := hms
        clear hc hms hm hm3
        go_wp2_with fail
        refine ⟨⟨u / 10, dg :: s, rfl, by go_num, by omega, HNX.out, HBW.out⟩, ?_⟩
        have e1 : (RowKit.intOf (Value.int IntKind.u64 ((u : Int) / 10))).toNat = u / 10 := by simp [RowKit.intOf]; omega
        have e2 : (RowKit.intOf (Value.int IntKind.u64 (u : Int))).toNat = u := by simp [RowKit.intOf]
        rw [e1, e2]; exact HMS.out
      · have gu : ¬ (0 : Int) < (u : Int) := by omega
        have hs0 : s = [] := by
          rcases hc with h | h
          · omega
          · exact h
        have ge : (tx8 s).toList.isEmpty = true := by rw [empty_tx8]; simp [hs0]
        have hms : 2 * (u / 10) + mS (.string (tx8 (dg :: s))) < 2 * u + mS (.string (tx8 s)) := by rw [hm, hm3, hs0]; simp; omega
        have HMS : Hid (2 * (u / 10) + mS (.string (tx8 (dg :: s))) < 2 * u + mS (.string (tx8 s))) := hms
        clear hc hs0 hms hm hm3
        go_wp2_with fail
        refine ⟨⟨u / 10, dg :: s, rfl, by go_num, by omega, HNX.out, HBW.out⟩, ?_⟩
        have e1 : (RowKit.intOf (Value.int IntKind.u64 ((u : Int) / 10))).toNat = u / 10 := by simp [RowKit.intOf]; omega
        have e2 : (RowKit.intOf (Value.int IntKind.u64 (u : Int))).toNat = u := by simp [RowKit.intOf]
        rw [e1, e2]; exact HMS.out
    · have hu0 : u = 0 := by omega
      have hs0 : s ≠ [] := fun e => hc (.inr e)
      have HD : Hid (s = D) := dc_end hI.out hu0 hs0
      subst hu0
      have ge : (tx8 s).toList.isEmpty = false := by rw [empty_tx8]; simp [hs0]
      have hA : ∀ W : World, (Op.stringOp .add ⟨#[45]⟩ (tx8 s)).run Tryd.prog W = .ok (.string (tx8 [45] ++ tx8 s)) W := add_ok (tx8 [45]) (tx8 s) (by rw [tx8_size, tx8_size]; simp; omega)
      clear hc hI hs0
      by_cases hng : n < 0
      · have HR : Hid (RT = tx8 [45] ++ tx8 D) := by show RT = _; rw [HI.out, if_pos hng]
        go_wp2_with fail
        go_ret
        exact ⟨by rw [HR.out, ← HD.out] <;> rfl, hbw⟩
      · have HR : Hid (RT = tx8 D) := by show RT = _; rw [HI.out, if_neg hng]
        go_wp2_with fail
        go_ret
        exact ⟨by rw [HR.out, ← HD.out] <;> rfl, hbw⟩
end Go.Proofs.YtpdohdmpjaklgaaDoor
