/-
  RunesDigits: a number that is written in each script's digits is read.
-/
import Derived.Test.YthmcgfiaimnplabDoorDigPure
import Derived.Test.YthmcgfiaimnplabDoorNumW
import Derived.Laws.Cover4
set_option linter.unusedSimpArgs false
set_option linter.unusedVariables false
namespace Go.Proofs.YthmcgfiaimnplabDoor.digits
open Go.RowKit Go.Lib

/-- The three noughts, as the law's text holds them. -/
def zs : ByteArray := ⟨#[48, 217, 160, 239, 188, 144]⟩
theorem zs_step (pos : Nat) (h : pos = 0 ∨ pos = 1 ∨ pos = 3) : ∃ z v : Nat, Utf8.decode zs pos = (z, v) ∧ isZ (z : Int) ∧ (pos + v = 1 ∨ pos + v = 3 ∨ pos + v = 6) ∧ 1 ≤ v := by
  rcases h with rfl | rfl | rfl
  · exact ⟨48, 1, by decide, .inl rfl, by omega, by omega⟩
  · exact ⟨1632, 2, by decide, .inr (.inl rfl), by omega, by omega⟩
  · exact ⟨65296, 3, by decide, .inr (.inr rfl), by omega, by omega⟩

theorem pow_len (k n : Nat) (h : 10 ^ k ≤ n) (hn : n ≤ 18446744073709551615) : k ≤ 19 := by
  cases Nat.lt_or_ge k 20 with
  | inl h' => omega
  | inr h' =>
    have := Nat.pow_le_pow_right (n := 10) (by omega) h'
    have e : (10 : Nat) ^ 20 = 100000000000000000000 := by decide
    omega

/-- A fact kept shut: nothing unfolds it. -/
structure Box (p : Prop) : Prop where
  out : p

/-- 1 for the empty text: a part of a loop's measure. -/
def emptyOf : Value → Nat
  | .string s => if s.size = 0 then 1 else 0
  | _ => 0
theorem txt_ne (z : Int) (hz : isZ z) (d : Nat) (ds : List Nat) (h : ∀ x ∈ d :: ds, isD x) : (txt z (d :: ds)).size ≠ 0 := by
  have := (txt_size z hz (d :: ds) h).1
  simp at this; omega

theorem val_step (m P V : Nat) : m * P + V = m / 10 * (P * 10) + (m % 10 * P + V) := by
  have h := Nat.div_add_mod m 10
  have h1 : m * P = (10 * (m / 10) + m % 10) * P := by rw [h]
  have e : 10 * (m / 10) * P = m / 10 * (P * 10) := by rw [Nat.mul_comm P 10, ← Nat.mul_assoc, Nat.mul_comm (m / 10) 10]
  rw [h1, Nat.add_mul, e]; omega
theorem val_cons (N m : Nat) (ds : List Nat) (h : N = m * 10 ^ ds.length + val ds) : N = m / 10 * 10 ^ ((m % 10) :: ds).length + val ((m % 10) :: ds) := by
  rw [h, val_step, List.length_cons, Nat.pow_succ, val]

set_option maxRecDepth 100000 in
set_option maxHeartbeats 4000000 in
theorem walk (n u : Int) (B : ByteArray) (w : World) (hT : Tabs w) (hn0 : 0 ≤ n) (hn1 : n ≤ 18446744073709551615) (hu0 : 0 ≤ u) (hu1 : u ≤ 255) (hB : B.size ≤ 1152921504606846976) :
    Calls Tryd.prog 3 #[.int .u64 n, .int .u8 u, .string B] w fun e w' => e = .returned (.bool true) ∧ Below w.heap.size w w' := by
  obtain ⟨N, rfl⟩ := Int.eq_ofNat_of_zero_le hn0
  have hN : N ≤ 18446744073709551615 := by omega
  go_enter Tryd.func3, Tryd.ntmps3
  go_wp2_with (go_at_call 4; refine (awake_any _ hT).mono ?_; rintro e w0 ⟨rfl, B0⟩; have hT0 := hT.below B0)
  change Code.wp _ _ _ _ (w0.iter zs 0)
  have hzs := zs_step
  have HZ6 : zs.size = 6 := rfl
  have HZS : Hid (∀ pos, pos = 0 ∨ pos = 1 ∨ pos = 3 → ∃ z v : Nat, Utf8.decode zs pos = (z, v) ∧ isZ (z : Int) ∧ (pos + v = 1 ∨ pos + v = 3 ∨ pos + v = 6) ∧ 1 ≤ v) := hzs
  clear hzs
  generalize zs = Z at *
  go_loopw [8] (fun _ w' => ∃ pos : Nat, It w0 Z pos w' ∧ (pos = 0 ∨ pos = 1 ∨ pos = 3 ∨ pos = 6)) (fun _ w' => 6 - w'.iterPos w0.heap.size)
  case atStart => exact ⟨0, It.start w0 Z, .inl rfl⟩
  case round =>
    obtain ⟨pos, hI, hpos⟩ := hrel
    have hm := hI.pos
    by_cases hp : pos = 6
    · subst hp
      have hnx : ∀ ty, (Instr.next (.pointer (some ⟨w0.heap.size, 0, none⟩)) true ty).run Tryd.prog wr = _ := fun ty => run_next_end_at wr w0.heap.size Z 6 ty hI.at_ (by omega)
      go_wp2
      go_ret
      exact ⟨rfl, B0.trans (hI.below.mono B0.size)⟩
    · obtain ⟨z, v, hd, hz, hpv, hv⟩ := HZS.out pos (by omega)
      have hnx : ∀ ty, (Instr.next (.pointer (some ⟨w0.heap.size, 0, none⟩)) true ty).run Tryd.prog wr = _ := fun ty => run_next_any_at wr w0.heap.size Z pos ty hI.at_ (by omega)
      rw [hd] at hnx
      have hI1 := hI.next (pos + v)
      have hT1 := hI1.tabs hT0
      have HZ : Hid (isZ (z : Int)) := hz
      have hz1 : (z : Int) ≤ 65296 := by unfold isZ at hz; omega
      have HPV : Hid ((pos + v = 1 ∨ pos + v = 3 ∨ pos + v = 6) ∧ 1 ≤ v ∧ pos < 6) := ⟨hpv, hv, by omega⟩
      clear hz hd HZS hpv hpos hp hv
      go_wp2
      generalize wr.iterAt w0.heap.size Z (pos + v) = W1 at *
      go_loop [9, 10] (fun t mm => ∃ (ds : List Nat) (m : Nat), t = .string (txt z ds) ∧ mm = .int .u64 m ∧ Hid (N = m * 10 ^ ds.length + val ds) ∧ Hid (∀ d ∈ ds, isD d) ∧ ds.length ≤ 20 ∧ m ≤ 18446744073709551615) (fun t mm => (RowKit.intOf mm).toNat + emptyOf t)
      case atStart => exact ⟨[], N, rfl, rfl, by show N = N * 1 + 0; omega, by show ∀ d ∈ ([] : List Nat), isD d; simp, by simp, hN⟩
      case round =>
        obtain ⟨ds, m, rfl, rfl, HV, HD, hlen, hm1⟩ := hrel
        have hsz := txt_size z HZ.out ds HD.out
        obtain ⟨hsz1, hsz2⟩ := hsz
        by_cases hm0 : 0 < m
        · have hm0' : (0 : Int) < (m : Int) := by omega
          have hpl : ds.length ≤ 19 := by
            refine pow_len ds.length N ?_ hN
            have := HV.out
            have h1 : 10 ^ ds.length ≤ m * 10 ^ ds.length := Nat.le_mul_of_pos_left _ hm0
            omega
          have hE := encode_size_le ((z : Int) + (m : Int) % 10)
          have HD' : Hid (∀ d ∈ (m % 10) :: ds, isD d) := by
            intro d hd
            rcases List.mem_cons.1 hd with h | h
            · rw [h]; unfold isD; omega
            · exact HD.out d h
          have HV' : Hid (N = m / 10 * 10 ^ ((m % 10) :: ds).length + val ((m % 10) :: ds)) := val_cons N m ds HV.out
          have hte : Hid (txt z ((m % 10) :: ds) = Utf8.encode ((z : Int) + (m : Int) % 10) ++ txt z ds) := rfl
          have hne := txt_ne z HZ.out (m % 10) ds HD'.out
          rw [hte.out] at hne
          have HNE : Hid (¬ (Utf8.encode ((z : Int) + (m : Int) % 10) ++ txt z ds).size = 0) := hne
          clear hne HV HD
          go_wp2
          refine ⟨⟨(m % 10) :: ds, m / 10, congrArg Value.string hte.out.symm, congrArg (Value.int .u64) (by omega), HV', HD', by simp; omega, by omega⟩, ?_⟩
          simp only [emptyOf, RowKit.intOf]
          rw [if_neg HNE.out]
          omega
        · by_cases hde : ds = []
          · have hE := encode_size_le ((z : Int) + (m : Int) % 10)
            have HD' : Hid (∀ d ∈ (m % 10) :: ds, isD d) := by
              intro d hd
              rcases List.mem_cons.1 hd with h | h
              · rw [h]; unfold isD; omega
              · exact HD.out d h
            have HV' : Hid (N = m / 10 * 10 ^ ((m % 10) :: ds).length + val ((m % 10) :: ds)) := val_cons N m ds HV.out
            have hte : Hid (txt z ((m % 10) :: ds) = Utf8.encode ((z : Int) + (m : Int) % 10) ++ txt z ds) := rfl
            have hne := txt_ne z HZ.out (m % 10) ds HD'.out
            rw [hte.out] at hne
            have HNE : Hid (¬ (Utf8.encode ((z : Int) + (m : Int) % 10) ++ txt z ds).size = 0) := hne
            have hz0 : (txt (z : Int) ds).size = 0 := by rw [hde]; rfl
            have hem : (txt (z : Int) ds).toList.isEmpty = true := empty_yes _ hz0
            have HZ0 : Hid ((txt (z : Int) ds).size = 0) := hz0
            have hlen0 : ds.length = 0 := by rw [hde]; rfl
            have HL0 : Hid (ds.length = 0) := hlen0
            have hmle : (m : Int) ≤ 0 := by omega
            clear hne HV HD hde hz0 hlen0
            go_wp2
            have hl0 := HL0.out
            refine ⟨⟨(m % 10) :: ds, m / 10, congrArg Value.string hte.out.symm, congrArg (Value.int .u64) (by omega), HV', HD', by simp; omega, by omega⟩, ?_⟩
            simp only [emptyOf, RowKit.intOf]
            rw [if_neg HNE.out, if_pos HZ0.out]
            omega
          · have hm00 : m = 0 := by omega
            have hne : (txt (z : Int) ds).size ≠ 0 := by
              cases ds with
              | nil => exact absurd rfl hde
              | cons d ds => exact txt_ne z HZ.out d ds HD.out
            have hem : (txt (z : Int) ds).toList.isEmpty = false := empty_no _ hne
            have HVal : Hid (N = val ds) := by have := HV.out; rw [hm00] at this; simp at this; exact this
            have HL : Hid (ds ≠ []) := hde
            have hmle : (m : Int) ≤ 0 := by omega
            clear HV hne hm00 hde
            go_wp2
            go_loop [9, 11] (fun t i => ∃ (k : Nat) (es : List Nat), t = .string (txt z es) ∧ i = .int .i64 k ∧ k ≤ 20 ∧ Hid (N = val es) ∧ Hid (∀ d ∈ es, isD d) ∧ Hid (es ≠ []) ∧ es.length ≤ 20 + k) (fun _ i => 20 - (RowKit.intOf i).toNat)
            case atStart => exact ⟨0, ds, rfl, rfl, by omega, HVal, HD, HL, by omega⟩
            case round =>
              obtain ⟨k, es, rfl, rfl, hk, HV2, HD2, HL2, hlen2⟩ := hrel
              have hsz2 := txt_size z HZ.out es HD2.out
              obtain ⟨hsz21, hsz22⟩ := hsz2
              clear HD HVal HL hsz1 hsz2 hem
              by_cases hku : (k : Int) < u % 20
              · have hE := encode_size_le (z : Int)
                have HD' : Hid (∀ d ∈ 0 :: es, isD d) := by
                  intro d hd
                  rcases List.mem_cons.1 hd with h | h
                  · rw [h]; unfold isD; omega
                  · exact HD2.out d h
                have HV' : Hid (N = val (0 :: es)) := by show N = val (0 :: es); rw [val, Nat.zero_mul, Nat.zero_add]; exact HV2.out
                have hte : Hid (txt z (0 :: es) = Utf8.encode (z : Int) ++ txt z es) := by show _ = _; rw [txt]; simp
                go_wp2
                exact ⟨⟨k + 1, 0 :: es, congrArg Value.string hte.out.symm, by go_num, by omega, HV', HD', by show _ ≠ _; simp, by simp; omega⟩, by simp [RowKit.intOf]; omega⟩
              · have hNv : val es = N := HV2.out.symm
                have hmore := num_more z HZ.out es HD2.out HL2.out
                obtain ⟨na, nb, hmore⟩ := hmore
                rw [hNv] at hmore
                have hread : Hid ((B.size = 0 ∨ ¬ digZ (Utf8.decode B 0).1 = (z : Int)) → numI (txt z es ++ B) 0 = (N, (txt z es).size, 0)) := fun h => by
                  rw [num_read z HZ.out B h es HD2.out HL2.out, hNv, if_pos hN]
                have hsE9 := encode_size_le ((z : Int) + 9)
                have hsE0 := encode_size_le (z : Int)
                have hmx : (txt (z : Int) es ++ Utf8.encode ((z : Int) + 9) ++ Utf8.encode ((z : Int) + 9) ++ Utf8.encode (z : Int)).size ≤ maxLen := by
                  unfold maxLen
                  simp only [ByteArray.size_append]; omega
                have hmy : (txt (z : Int) es ++ B).size ≤ maxLen := by
                  unfold maxLen
                  simp only [ByteArray.size_append]; omega
                have C1 : Hid ((B.size = 0 ∨ ¬ digZ (Utf8.decode B 0).1 = (z : Int)) → ∀ W, Tabs W → Calls Tryd.prog 5 #[.string (txt z es ++ B), .int .i64 0] W fun e w' => e = .returned (.tuple #[.int .u64 N, .int .i64 (txt z es).size, .int .i64 0]) ∧ Below W.heap.size W w') := fun h W hT => by
                  have := number_any (txt z es ++ B) 0 W hT hmy
                  rw [hread.out h] at this
                  exact this
                have C2 : Hid (∀ W, Tabs W → Calls Tryd.prog 5 #[.string (txt z es ++ Utf8.encode ((z : Int) + 9) ++ Utf8.encode ((z : Int) + 9) ++ Utf8.encode (z : Int)), .int .i64 0] W fun e w' => e = .returned (.tuple #[.int .u64 na, .int .i64 nb, .int .i64 (if N * 1000 + 990 ≤ 18446744073709551615 then 0 else 10)]) ∧ Below W.heap.size W w') := fun W hT => by
                  have := number_any (txt z es ++ Utf8.encode ((z : Int) + 9) ++ Utf8.encode ((z : Int) + 9) ++ Utf8.encode (z : Int)) 0 W hT hmx
                  rw [hmore] at this
                  exact this
                have hzz := HZ.out
                have HH : Hid (∀ r : Int, hasB (z : Int) ((z : Int) + 9) r = true ↔ digZ r = z) := fun r => digZ_has z r hzz
                have hz48 : (48 : Int) ≤ (z : Int) := by unfold isZ at hzz; omega
                clear hzz hmore hread hmx hmy HV2 HD2 HL2 HZ hNv
                generalize txt (z : Int) es = TX at *
                obtain ⟨E9, hE9⟩ : ∃ E, Utf8.encode ((z : Int) + 9) = E := ⟨_, rfl⟩
                obtain ⟨E0, hE0⟩ : ∃ E, Utf8.encode (z : Int) = E := ⟨_, rfl⟩
                rw [hE9, hE0] at C2
                rw [hE9] at hsE9
                rw [hE0] at hsE0
                have hTX : TX.size ≤ 200 := by omega
                have HSE9 : Box (E9.size ≤ 4) := ⟨hsE9⟩
                have HSE0 : Box (E0.size ≤ 4) := ⟨hsE0⟩
                have HE9 : Box (Utf8.encode ((z : Int) + 9) = E9) := ⟨hE9⟩
                have HE0 : Box (Utf8.encode (z : Int) = E0) := ⟨hE0⟩
                clear hsE9 hsE0 hE9 hE0
                go_wp2
                clear hsz21 hsz22 hlen hlen2 hk hku hm0 hmle hm1 hu0 hu1
                go_loopw [12] (fun nx w' => nx = .int .i64 0 ∧ It W1 B 0 w') (fun _ _ => 0)
                case atStart => exact ⟨rfl, It.start W1 B⟩
                case round =>
                  obtain ⟨rfl, hJ⟩ := hrel
                  have hTJ := hJ.tabs hT1
                  by_cases hb0 : 0 < B.size
                  · have hnx2 : ∀ ty, (Instr.next (.pointer (some ⟨W1.heap.size, 0, none⟩)) true ty).run Tryd.prog wr = _ := fun ty => run_next_any_at wr W1.heap.size B 0 ty hJ.at_ hb0
                    have hJ1 := hJ.next (Utf8.decode B 0).2
                    have hTJ1 := hJ1.tabs hT1
                    have hrg := decode_le B 0
                    have HH0 : Hid (hasB (z : Int) ((z : Int) + 9) (Utf8.decode B 0).1 = true ↔ digZ (Utf8.decode B 0).1 = (z : Int)) := HH.out _
                    clear HH
                    generalize (Utf8.decode B 0).2 = vb at *
                    generalize (Utf8.decode B 0).1 = rb at *
                    by_cases hin : (z : Int) ≤ (rb : Int) ∧ (rb : Int) ≤ (z : Int) + 9
                    · obtain ⟨hin1, hin2⟩ := hin
                      clear C1 C2 HH0
                      go_wp2
                      have hI2 := hI1.call hJ1.below
                      exact ⟨⟨pos + v, hI2, by have := HPV.out; omega⟩, by rw [hI2.pos, hm]; have := HPV.out; omega⟩
                    · have c1 := C1.out (.inr (fun e => hin (by have := HH0.out.2 e; simpa [hasB] using this)))
                      have C1' : Hid (∀ W, Tabs W → Calls Tryd.prog 5 #[.string (TX ++ B), .int .i64 0] W fun e w' => e = .returned (.tuple #[.int .u64 N, .int .i64 TX.size, .int .i64 0]) ∧ Below W.heap.size W w') := c1
                      clear c1 C1 HH0
                      by_cases hlo : (z : Int) ≤ (rb : Int)
                      · have hhi : (z : Int) + 9 < (rb : Int) := by omega
                        clear hin
                        by_cases hl : N * 1000 + 990 ≤ 18446744073709551615
                        · rw [if_pos hl] at C2
                          have HQ : Box ((N : Int) ≤ 18446744073709551 ∧ (N : Int) * 1000 ≤ 18446744073709550625) := ⟨by omega, by omega⟩
                          clear hl
                          go_wp2_with fail
                          refine (C1'.out _ hTJ1).mono ?_
                          rintro e w3 ⟨rfl, hb3⟩
                          have hT3 := hTJ1.below hb3
                          have hE9 := HE9.out
                          have hE0 := HE0.out
                          have hsE9 := HSE9.out
                          have hsE0 := HSE0.out
                          go_wp2_with fail
                          refine (C2.out _ hT3).mono ?_
                          rintro e w4 ⟨rfl, hb4⟩
                          clear hsE9 hsE0 hTX hB hE9 hE0
                          obtain ⟨hq1, hq2⟩ := HQ.out
                          obtain ⟨K, hK⟩ : ∃ K : Int, (N : Int) * 1000 = K := ⟨_, rfl⟩
                          rw [hK] at hq2
                          have hK0 : 0 ≤ K := by omega
                          go_wp2
                          have hI2 := ((hI1.call hJ1.below).call hb3).call hb4
                          exact ⟨⟨pos + v, hI2, by have := HPV.out; omega⟩, by rw [hI2.pos, hm]; have := HPV.out; omega⟩
                        · rw [if_neg hl] at C2
                          by_cases hq : (18446744073709551 : Int) < (N : Int)
                          · have HQ : Box ((18446744073709551 : Int) < (N : Int)) := ⟨hq⟩
                            clear hl hq
                            go_wp2_with fail
                            refine (C1'.out _ hTJ1).mono ?_
                            rintro e w3 ⟨rfl, hb3⟩
                            have hT3 := hTJ1.below hb3
                            have hE9 := HE9.out
                            have hE0 := HE0.out
                            have hsE9 := HSE9.out
                            have hsE0 := HSE0.out
                            go_wp2_with fail
                            refine (C2.out _ hT3).mono ?_
                            rintro e w4 ⟨rfl, hb4⟩
                            clear hsE9 hsE0 hTX hB hE9 hE0
                            have hq := HQ.out
                            go_wp2
                            have hI2 := ((hI1.call hJ1.below).call hb3).call hb4
                            exact ⟨⟨pos + v, hI2, by have := HPV.out; omega⟩, by rw [hI2.pos, hm]; have := HPV.out; omega⟩
                          · have HQ : Box ((N : Int) ≤ 18446744073709551 ∧ (18446744073709550625 : Int) < (N : Int) * 1000 ∧ (N : Int) * 1000 ≤ 18446744073709551615) := ⟨by omega, by omega, by omega⟩
                            clear hl hq
                            go_wp2_with fail
                            refine (C1'.out _ hTJ1).mono ?_
                            rintro e w3 ⟨rfl, hb3⟩
                            have hT3 := hTJ1.below hb3
                            have hE9 := HE9.out
                            have hE0 := HE0.out
                            have hsE9 := HSE9.out
                            have hsE0 := HSE0.out
                            go_wp2_with fail
                            refine (C2.out _ hT3).mono ?_
                            rintro e w4 ⟨rfl, hb4⟩
                            clear hsE9 hsE0 hTX hB hE9 hE0
                            obtain ⟨hq1, hq2, hq3⟩ := HQ.out
                            obtain ⟨K, hK⟩ : ∃ K : Int, (N : Int) * 1000 = K := ⟨_, rfl⟩
                            rw [hK] at hq2 hq3
                            have hK0 : 0 ≤ K := by omega
                            go_wp2
                            have hI2 := ((hI1.call hJ1.below).call hb3).call hb4
                            exact ⟨⟨pos + v, hI2, by have := HPV.out; omega⟩, by rw [hI2.pos, hm]; have := HPV.out; omega⟩
                      · clear hin
                        by_cases hl : N * 1000 + 990 ≤ 18446744073709551615
                        · rw [if_pos hl] at C2
                          have HQ : Box ((N : Int) ≤ 18446744073709551 ∧ (N : Int) * 1000 ≤ 18446744073709550625) := ⟨by omega, by omega⟩
                          clear hl
                          go_wp2_with fail
                          refine (C1'.out _ hTJ1).mono ?_
                          rintro e w3 ⟨rfl, hb3⟩
                          have hT3 := hTJ1.below hb3
                          have hE9 := HE9.out
                          have hE0 := HE0.out
                          have hsE9 := HSE9.out
                          have hsE0 := HSE0.out
                          go_wp2_with fail
                          refine (C2.out _ hT3).mono ?_
                          rintro e w4 ⟨rfl, hb4⟩
                          clear hsE9 hsE0 hTX hB hE9 hE0
                          obtain ⟨hq1, hq2⟩ := HQ.out
                          obtain ⟨K, hK⟩ : ∃ K : Int, (N : Int) * 1000 = K := ⟨_, rfl⟩
                          rw [hK] at hq2
                          have hK0 : 0 ≤ K := by omega
                          go_wp2
                          have hI2 := ((hI1.call hJ1.below).call hb3).call hb4
                          exact ⟨⟨pos + v, hI2, by have := HPV.out; omega⟩, by rw [hI2.pos, hm]; have := HPV.out; omega⟩
                        · rw [if_neg hl] at C2
                          by_cases hq : (18446744073709551 : Int) < (N : Int)
                          · have HQ : Box ((18446744073709551 : Int) < (N : Int)) := ⟨hq⟩
                            clear hl hq
                            go_wp2_with fail
                            refine (C1'.out _ hTJ1).mono ?_
                            rintro e w3 ⟨rfl, hb3⟩
                            have hT3 := hTJ1.below hb3
                            have hE9 := HE9.out
                            have hE0 := HE0.out
                            have hsE9 := HSE9.out
                            have hsE0 := HSE0.out
                            go_wp2_with fail
                            refine (C2.out _ hT3).mono ?_
                            rintro e w4 ⟨rfl, hb4⟩
                            clear hsE9 hsE0 hTX hB hE9 hE0
                            have hq := HQ.out
                            go_wp2
                            have hI2 := ((hI1.call hJ1.below).call hb3).call hb4
                            exact ⟨⟨pos + v, hI2, by have := HPV.out; omega⟩, by rw [hI2.pos, hm]; have := HPV.out; omega⟩
                          · have HQ : Box ((N : Int) ≤ 18446744073709551 ∧ (18446744073709550625 : Int) < (N : Int) * 1000 ∧ (N : Int) * 1000 ≤ 18446744073709551615) := ⟨by omega, by omega, by omega⟩
                            clear hl hq
                            go_wp2_with fail
                            refine (C1'.out _ hTJ1).mono ?_
                            rintro e w3 ⟨rfl, hb3⟩
                            have hT3 := hTJ1.below hb3
                            have hE9 := HE9.out
                            have hE0 := HE0.out
                            have hsE9 := HSE9.out
                            have hsE0 := HSE0.out
                            go_wp2_with fail
                            refine (C2.out _ hT3).mono ?_
                            rintro e w4 ⟨rfl, hb4⟩
                            clear hsE9 hsE0 hTX hB hE9 hE0
                            obtain ⟨hq1, hq2, hq3⟩ := HQ.out
                            obtain ⟨K, hK⟩ : ∃ K : Int, (N : Int) * 1000 = K := ⟨_, rfl⟩
                            rw [hK] at hq2 hq3
                            have hK0 : 0 ≤ K := by omega
                            go_wp2
                            have hI2 := ((hI1.call hJ1.below).call hb3).call hb4
                            exact ⟨⟨pos + v, hI2, by have := HPV.out; omega⟩, by rw [hI2.pos, hm]; have := HPV.out; omega⟩
                  · have hnx2 : ∀ ty, (Instr.next (.pointer (some ⟨W1.heap.size, 0, none⟩)) true ty).run Tryd.prog wr = _ := fun ty => run_next_end_at wr W1.heap.size B 0 ty hJ.at_ hb0
                    have c1 := C1.out (.inl (by omega))
                    have C1' : Hid (∀ W, Tabs W → Calls Tryd.prog 5 #[.string (TX ++ B), .int .i64 0] W fun e w' => e = .returned (.tuple #[.int .u64 N, .int .i64 TX.size, .int .i64 0]) ∧ Below W.heap.size W w') := c1
                    clear c1 C1 HH
                    by_cases hl : N * 1000 + 990 ≤ 18446744073709551615
                    · rw [if_pos hl] at C2
                      have HQ : Box ((N : Int) ≤ 18446744073709551 ∧ (N : Int) * 1000 ≤ 18446744073709550625) := ⟨by omega, by omega⟩
                      clear hl
                      go_wp2_with fail
                      refine (C1'.out _ hTJ).mono ?_
                      rintro e w3 ⟨rfl, hb3⟩
                      have hT3 := hTJ.below hb3
                      have hE9 := HE9.out
                      have hE0 := HE0.out
                      have hsE9 := HSE9.out
                      have hsE0 := HSE0.out
                      go_wp2_with fail
                      refine (C2.out _ hT3).mono ?_
                      rintro e w4 ⟨rfl, hb4⟩
                      clear hsE9 hsE0 hTX hB hE9 hE0
                      obtain ⟨hq1, hq2⟩ := HQ.out
                      obtain ⟨K, hK⟩ : ∃ K : Int, (N : Int) * 1000 = K := ⟨_, rfl⟩
                      rw [hK] at hq2
                      have hK0 : 0 ≤ K := by omega
                      go_wp2
                      have hI2 := ((hI1.call hJ.below).call hb3).call hb4
                      exact ⟨⟨pos + v, hI2, by have := HPV.out; omega⟩, by rw [hI2.pos, hm]; have := HPV.out; omega⟩
                    · rw [if_neg hl] at C2
                      by_cases hq : (18446744073709551 : Int) < (N : Int)
                      · have HQ : Box ((18446744073709551 : Int) < (N : Int)) := ⟨hq⟩
                        clear hl hq
                        go_wp2_with fail
                        refine (C1'.out _ hTJ).mono ?_
                        rintro e w3 ⟨rfl, hb3⟩
                        have hT3 := hTJ.below hb3
                        have hE9 := HE9.out
                        have hE0 := HE0.out
                        have hsE9 := HSE9.out
                        have hsE0 := HSE0.out
                        go_wp2_with fail
                        refine (C2.out _ hT3).mono ?_
                        rintro e w4 ⟨rfl, hb4⟩
                        clear hsE9 hsE0 hTX hB hE9 hE0
                        have hq := HQ.out
                        go_wp2
                        have hI2 := ((hI1.call hJ.below).call hb3).call hb4
                        exact ⟨⟨pos + v, hI2, by have := HPV.out; omega⟩, by rw [hI2.pos, hm]; have := HPV.out; omega⟩
                      · have HQ : Box ((N : Int) ≤ 18446744073709551 ∧ (18446744073709550625 : Int) < (N : Int) * 1000 ∧ (N : Int) * 1000 ≤ 18446744073709551615) := ⟨by omega, by omega, by omega⟩
                        clear hl hq
                        go_wp2_with fail
                        refine (C1'.out _ hTJ).mono ?_
                        rintro e w3 ⟨rfl, hb3⟩
                        have hT3 := hTJ.below hb3
                        have hE9 := HE9.out
                        have hE0 := HE0.out
                        have hsE9 := HSE9.out
                        have hsE0 := HSE0.out
                        go_wp2_with fail
                        refine (C2.out _ hT3).mono ?_
                        rintro e w4 ⟨rfl, hb4⟩
                        clear hsE9 hsE0 hTX hB hE9 hE0
                        obtain ⟨hq1, hq2, hq3⟩ := HQ.out
                        obtain ⟨K, hK⟩ : ∃ K : Int, (N : Int) * 1000 = K := ⟨_, rfl⟩
                        rw [hK] at hq2 hq3
                        have hK0 : 0 ≤ K := by omega
                        go_wp2
                        have hI2 := ((hI1.call hJ.below).call hb3).call hb4
                        exact ⟨⟨pos + v, hI2, by have := HPV.out; omega⟩, by rw [hI2.pos, hm]; have := HPV.out; omega⟩
end Go.Proofs.YthmcgfiaimnplabDoor.digits
