/-
  Mask, of a list of names: the program's, and the document's.
-/
import Derived.Test.YthecbkmpoamacaaRuE
import Derived.Laws.Bits64b
set_option linter.unusedSimpArgs false
set_option linter.unusedVariables false
namespace Go.Proofs.Ythecbkmpoamacaa
open Go.RowKit

/-- A list of texts, read. -/
def Txs (w : World) (ao : Option Addr) (cap : Nat) (qs : List ByteArray) : Prop :=
  (qs.length ≤ cap ∧ cap ≤ maxLen) ∧ (qs = [] ∨ ∃ b o, ao = some ⟨b, o, none⟩ ∧ b < w.heap.size ∧ ∀ j, j < qs.length → w.cell? ⟨b, o + j, none⟩ = some (.string (qs.getD j ⟨#[]⟩)))
theorem Txs.below {w w' : World} {ao : Option Addr} {cap : Nat} {qs : List ByteArray} (h : Txs w ao cap qs) (hb : Below w.heap.size w w') : Txs w' ao cap qs :=
  ⟨h.1, h.2.imp id fun ⟨b, o, e, hl, hc⟩ => ⟨b, o, e, Nat.lt_of_lt_of_le hl hb.size, fun j hj => (hb.cell (p := ⟨b, o + j, none⟩) hl).trans (hc j hj)⟩⟩

/-- The mask of a list of names behind a mask, and the error. -/
def mkR : Nat → List ByteArray → Nat × Int
  | m, [] => (m, 0)
  | m, s :: r => if (chR s).2 = 0 then mkR (m ||| (chR s).1) r else (0, (chR s).2)
theorem mkR_more {m : Nat} {qs : List ByteArray} {k : Nat} (hk : k < qs.length) (h : (chR (qs.getD k ⟨#[]⟩)).2 = 0) : mkR m (qs.drop k) = mkR (m ||| (chR (qs.getD k ⟨#[]⟩)).1) (qs.drop (k + 1)) := by
  rw [List.drop_eq_getElem_cons hk, mkR, show qs[k] = qs.getD k ⟨#[]⟩ by simp [hk], if_pos h]
theorem mkR_bad {m : Nat} {qs : List ByteArray} {k : Nat} (hk : k < qs.length) (h : (chR (qs.getD k ⟨#[]⟩)).2 ≠ 0) : mkR m (qs.drop k) = (0, (chR (qs.getD k ⟨#[]⟩)).2) := by
  rw [List.drop_eq_getElem_cons hk, mkR, show qs[k] = qs.getD k ⟨#[]⟩ by simp [hk], if_neg h]
theorem or_full {m : Nat} (h : m < 2 ^ 44) : m ||| 17592186044415 = 17592186044415 := by
  refine Nat.eq_of_testBit_eq fun i => ?_
  rw [Nat.testBit_or, show 17592186044415 = 2 ^ 44 - 1 by decide, Nat.testBit_two_pow_sub_one]
  by_cases hi : i < 44
  · simp [hi]
  · have : m.testBit i = false := Nat.testBit_lt_two_pow (Nat.lt_of_lt_of_le h (Nat.pow_le_pow_right (by decide) (by omega)))
    simp [hi, this]

set_option maxRecDepth 20000 in
set_option maxHeartbeats 2000000 in
theorem mask_any (w : World) (ao : Option Addr) (cap : Nat) (qs : List ByteArray) (hI : Txs w ao cap qs) :
    Calls Try.prog 5 #[.slice ao qs.length cap] w fun e w' => e = .returned (.tuple #[.int .u64 ((mkR 0 qs).1 : Nat), .int .i64 (mkR 0 qs).2]) ∧ Below w.heap.size w w' := by
  obtain ⟨⟨hl, hm⟩, _⟩ := id hI
  unfold maxLen at hm
  have HI : Hid (Txs w ao cap qs) := hI
  clear hI
  go_enter Try.func5, Try.ntmps5
  go_wp2_with fail
  go_loopw [4, 11] (fun m i wr => ∃ k z : Nat, k ≤ qs.length ∧ i = .int .i64 k ∧ m = .int .u64 z ∧ Hid (z < 2 ^ 44 ∧ mkR 0 qs = mkR z (qs.drop k)) ∧ Below w.heap.size w wr) (fun m i _ => qs.length - (RowKit.intOf i).toNat)
  case atStart => exact ⟨0, 0, by omega, rfl, rfl, ⟨by decide, rfl⟩, Below.refl _ _⟩
  case round =>
    obtain ⟨k, z, hk, rfl, rfl, hz, hbw⟩ := hrel
    have HB : Hid (Below w.heap.size w wr) := hbw
    by_cases hlt : k < qs.length
    · obtain ⟨b, o, rfl, hbl, hc⟩ : ∃ b o, ao = some ⟨b, o, none⟩ ∧ b < w.heap.size ∧ ∀ j, j < qs.length → w.cell? ⟨b, o + j, none⟩ = some (.string (qs.getD j ⟨#[]⟩)) := by
        rcases HI.out.2 with h | h
        · subst h; simp at hlt
        · exact h
      have h1 : wr.cell? ⟨b, o + k, none⟩ = some (.string (qs.getD k ⟨#[]⟩)) := (hbw.cell (p := ⟨b, o + k, none⟩) hbl).trans (hc k hlt)
      have cN := chosenBy_any wr (qs.getD k ⟨#[]⟩)
      clear hbw hc
      by_cases he : (chR (qs.getD k ⟨#[]⟩)).2 = 0
      · have hM : Hid (mkR 0 qs = mkR (z ||| (chR (qs.getD k ⟨#[]⟩)).1) (qs.drop (k + 1))) := by show _ = _; rw [hz.out.2]; exact mkR_more hlt he
        have hy := chR_lt (qs.getD k ⟨#[]⟩)
        generalize qs.getD k ⟨#[]⟩ = s at *
        rw [he] at cN
        generalize (chR s).1 = y at *
        have hzy : Hid (z ||| y < 2 ^ 44) := Nat.or_lt_two_pow hz.out.1 hy
        have hbt : bits .or .u64 (z : Int) (y : Int) = ((z ||| y : Nat) : Int) := bits_or_u64_nat z y (Nat.lt_of_lt_of_le hz.out.1 (by decide)) (Nat.lt_of_lt_of_le hy (by decide))
        generalize z ||| y = x at *
        clear hy
        go_wp2_with (go_at_call 9; refine cN.mono ?_; rintro e w3 ⟨rfl, hb3⟩)
        exact ⟨⟨k + 1, x, by omega, by go_num, rfl, ⟨hzy.out, hM.out⟩, HB.out.trans (hb3.mono HB.out.size)⟩, by simp [RowKit.intOf]; omega⟩
      · have hM : Hid (mkR 0 qs = (0, (chR (qs.getD k ⟨#[]⟩)).2)) := by show _ = _; rw [hz.out.2]; exact mkR_bad hlt he
        generalize qs.getD k ⟨#[]⟩ = s at *
        generalize (chR s).1 = y at *
        generalize (chR s).2 = x at *
        go_wp2_with (go_at_call 9; refine cN.mono ?_; rintro e w3 ⟨rfl, hb3⟩)
        go_ret2
        exact ⟨by rw [hM.out] <;> rfl, HB.out.trans (hb3.mono HB.out.size)⟩
    · have hke : k = qs.length := by omega
      subst hke
      have hM : Hid (mkR 0 qs = (z, 0)) := by show _ = _; rw [hz.out.2, List.drop_length]; rfl
      clear hbw
      go_wp2_with fail
      go_ret2
      exact ⟨by rw [hM.out] <;> rfl, HB.out⟩

set_option maxRecDepth 20000 in
set_option maxHeartbeats 2000000 in
theorem rmask_any (w : World) (ao : Option Addr) (cap : Nat) (qs : List ByteArray) (hI : Txs w ao cap qs) :
    Calls Try.prog 6 #[.slice ao qs.length cap] w fun e w' => e = .returned (.tuple #[.int .u64 ((mkR 0 qs).1 : Nat), .int .i64 (mkR 0 qs).2]) ∧ Below w.heap.size w w' := by
  obtain ⟨⟨hl, hm⟩, _⟩ := id hI
  unfold maxLen at hm
  have HI : Hid (Txs w ao cap qs) := hI
  clear hI
  go_enter Try.func6, Try.ntmps6
  go_wp2_with fail
  go_loopw [4, 5] (fun m i wr => ∃ k z : Nat, k ≤ qs.length ∧ i = .int .i64 k ∧ m = .int .u64 z ∧ Hid (z < 2 ^ 44 ∧ mkR 0 qs = mkR z (qs.drop k)) ∧ Below w.heap.size w wr) (fun m i _ => qs.length - (RowKit.intOf i).toNat)
  case atStart => exact ⟨0, 0, by omega, rfl, rfl, ⟨by decide, rfl⟩, Below.refl _ _⟩
  case round =>
    obtain ⟨k, z, hk, rfl, rfl, hz, hbw⟩ := hrel
    have HB : Hid (Below w.heap.size w wr) := hbw
    by_cases hlt : k < qs.length
    · obtain ⟨b, o, rfl, hbl, hc⟩ : ∃ b o, ao = some ⟨b, o, none⟩ ∧ b < w.heap.size ∧ ∀ j, j < qs.length → w.cell? ⟨b, o + j, none⟩ = some (.string (qs.getD j ⟨#[]⟩)) := by
        rcases HI.out.2 with h | h
        · subst h; simp at hlt
        · exact h
      have h1 : wr.cell? ⟨b, o + k, none⟩ = some (.string (qs.getD k ⟨#[]⟩)) := (hbw.cell (p := ⟨b, o + k, none⟩) hbl).trans (hc k hlt)
      have cN := rnamed_any wr (qs.getD k ⟨#[]⟩)
      clear hbw hc
      by_cases ha : qs.getD k ⟨#[]⟩ = sAll
      · have hM : Hid (mkR 0 qs = mkR 17592186044415 (qs.drop (k + 1))) := by
          show _ = _
          have e : chR (qs.getD k ⟨#[]⟩) = (17592186044415, 0) := by unfold chR; rw [if_pos ha]
          rw [hz.out.2, mkR_more hlt (by rw [e]), e]
          show mkR (z ||| 17592186044415) _ = _
          rw [or_full hz.out.1]
        rw [ha] at h1
        clear ha cN
        unfold sAll at h1
        have e0 : ((⟨#[97, 108, 108]⟩ : ByteArray).toList == (⟨#[97, 108, 108]⟩ : ByteArray).toList) = true := by simp
        go_wp2_with fail
        exact ⟨⟨k + 1, 17592186044415, by omega, by go_num, rfl, ⟨by decide, hM.out⟩, HB.out⟩, by simp [RowKit.intOf]; omega⟩
      · by_cases hb : qs.getD k ⟨#[]⟩ = sNone
        · have hM : Hid (mkR 0 qs = mkR z (qs.drop (k + 1))) := by
            show _ = _
            have e : chR (qs.getD k ⟨#[]⟩) = (0, 0) := by unfold chR; rw [if_neg ha, if_pos hb]
            rw [hz.out.2, mkR_more hlt (by rw [e]), e]
            show mkR (z ||| 0) _ = _
            rw [Nat.or_zero]
          rw [hb] at h1
          clear ha cN hb
          unfold sNone at h1
          go_wp2_with fail
          exact ⟨⟨k + 1, z, by omega, by go_num, rfl, ⟨hz.out.1, hM.out⟩, HB.out⟩, by simp [RowKit.intOf]; omega⟩
        · have e0 : ((qs.getD k ⟨#[]⟩).toList == [97, 108, 108]) = false := by
            have : ((qs.getD k ⟨#[]⟩).toList == sAll.toList) = false := by rw [beq_toLisR]; exact decide_eq_false ha
            rw [show sAll.toList = [97, 108, 108] by rw [ByteArray.toList_eq]; rfl] at this
            exact this
          have e3 : ((qs.getD k ⟨#[]⟩).toList == [110, 111, 110, 101]) = false := by
            have : ((qs.getD k ⟨#[]⟩).toList == sNone.toList) = false := by rw [beq_toLisR]; exact decide_eq_false hb
            rw [show sNone.toList = [110, 111, 110, 101] by rw [ByteArray.toList_eq]; rfl] at this
            exact this
          by_cases h3 : idxR (qs.getD k ⟨#[]⟩) < 44
          · have e : chR (qs.getD k ⟨#[]⟩) = (2 ^ idxR (qs.getD k ⟨#[]⟩), 0) := by unfold chR; rw [if_neg ha, if_neg hb, if_pos h3]
            have hM : Hid (mkR 0 qs = mkR (z ||| 2 ^ idxR (qs.getD k ⟨#[]⟩)) (qs.drop (k + 1))) := by
              show _ = _
              rw [hz.out.2, mkR_more hlt (by rw [e]), e]
            have hy : 2 ^ idxR (qs.getD k ⟨#[]⟩) < 2 ^ 44 := Nat.pow_lt_pow_right (by decide) h3
            have hN : namR (qs.getD k ⟨#[]⟩) = ((idxR (qs.getD k ⟨#[]⟩) : Int), 0) := by unfold namR; rw [if_pos h3]
            rw [hN] at cN
            clear hN e ha hb
            generalize qs.getD k ⟨#[]⟩ = s at *
            have hW : IntKind.u64.wrap (2 ^ idxR s) = ((2 ^ idxR s : Nat) : Int) := wrap_pow (idxR s) h3
            generalize idxR s = j at *
            have hzy : Hid (z ||| 2 ^ j < 2 ^ 44) := Nat.or_lt_two_pow hz.out.1 hy
            have hbt : Hid (bits .or .u64 (z : Int) (IntKind.u64.wrap (2 ^ j)) = ((z ||| 2 ^ j : Nat) : Int)) := by
              show bits .or .u64 (z : Int) (IntKind.u64.wrap (2 ^ j)) = _
              rw [hW]
              exact bits_or_u64_nat z _ (Nat.lt_of_lt_of_le hz.out.1 (by decide)) (Nat.lt_of_lt_of_le hy (by decide))
            have hbt0 : bits .or .u64 (z : Int) ((2 ^ j : Nat) : Int) = ((z ||| 2 ^ j : Nat) : Int) := bits_or_u64_nat z _ (Nat.lt_of_lt_of_le hz.out.1 (by decide)) (Nat.lt_of_lt_of_le hy (by decide))
            generalize z ||| 2 ^ j = x at *
            clear hy hW hbt0
            go_wp2_with (go_at_call 8; refine cN.mono ?_; rintro e w3 ⟨rfl, hb3⟩)
            exact ⟨⟨k + 1, x, by omega, by go_num, by rw [← hbt.out] <;> rfl, ⟨hzy.out, hM.out⟩, HB.out.trans (hb3.mono HB.out.size)⟩, by simp [RowKit.intOf]; omega⟩
          · have e : chR (qs.getD k ⟨#[]⟩) = (0, 7) := by unfold chR; rw [if_neg ha, if_neg hb, if_neg h3]
            have hM : Hid (mkR 0 qs = (0, 7)) := by
              show _ = _
              rw [hz.out.2, mkR_bad hlt (by rw [e]; decide), e]
            have hN : namR (qs.getD k ⟨#[]⟩) = (0, 7) := by unfold namR; rw [if_neg h3]
            rw [hN] at cN
            clear hN e ha hb
            generalize qs.getD k ⟨#[]⟩ = s at *
            go_wp2_with (go_at_call 8; refine cN.mono ?_; rintro e w3 ⟨rfl, hb3⟩)
            go_ret2
            exact ⟨by rw [hM.out] <;> rfl, HB.out.trans (hb3.mono HB.out.size)⟩
    · have hke : k = qs.length := by omega
      subst hke
      have hM : Hid (mkR 0 qs = (z, 0)) := by show _ = _; rw [hz.out.2, List.drop_length]; rfl
      clear hbw
      go_wp2_with fail
      go_ret2
      exact ⟨by rw [hM.out] <;> rfl, HB.out⟩
end Go.Proofs.Ythecbkmpoamacaa
