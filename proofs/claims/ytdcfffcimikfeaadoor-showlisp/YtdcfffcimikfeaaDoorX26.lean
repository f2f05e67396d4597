/-
  LiL.
-/
import Derived.Test.YtdcfffcimikfeaaDoorChecked
import GoSem.PinnedTables
import GoSem.Claim
import GoSem.ClaimJoined
import GoSem.ClaimMapViews
import Derived.JoinedTies
import Derived.KernelRfl
import Derived.Shelf.Unicode.DecodeSlow
import Derived.Laws.RangeAny
import Derived.Shelf.Strings.Builder1
import Derived.Shelf.Small.Utf8
import Derived.Shelf.Small.Bits
import Derived.Shelf.Strings.BuilderF
import Derived.Shelf.Strings.BuilderK
import Derived.Shelf.Strings.BuilderRune
import Derived.Shelf.Utf8.AppendRune
import Derived.Shelf.Strconv.Itoa0
import Derived.Shelf.Strconv.Itoa1
import Derived.Shelf.LaysM
import Derived.Shelf.Strconv.Itoa2
import Derived.Shelf.Strconv.Itoa3
import Derived.Shelf.Strconv.Itoa4
import Derived.Shelf.Strings.Prefix
import Derived.Shelf.Unicode.DecodeAny
import Derived.Shelf.Slices.CompactS
import Derived.Ground.SlsfProg
import Derived.Shelf.SlSortCmp.Insertion
import Derived.Shelf.SlSortCmp.SiftDown1
import Derived.Shelf.SlSortCmp.HeapSort1
import Derived.Shelf.SlSortCmp.Insertion1
import Derived.Shelf.SlSortCmp.Median1
import Derived.Shelf.SlSortCmp.Pivot1
import Derived.Shelf.SlSortCmp.ReverseRange1
import Derived.Shelf.SlSortCmp.PartialInsertion1
import Derived.Shelf.SlSortCmp.PartitionEqual1
import Derived.Shelf.SlSortCmp.Partition1
import Derived.Shelf.SlSortCmp.Pdq1
import Derived.Shelf.SlSortCmp.Whole1
import Derived.Test.YtdcfffcimikfeaaDoorProg
import Derived.WalkKit
import Derived.Deep.DeepFit
import Derived.Lib.OthersKept
import Derived.Lib.RuneCountTail
import Derived.Lib.LaidU8
import Derived.MakeChecks
import Derived.ProofKit
import Derived.OpenShut
import Derived.Deep.DeepHandedRow
import Derived.Lib.MapLaws
import Derived.Sort.Walk0
import Derived.Laws.DeepStrings4
import Derived.Lib.ItoaNum
import Derived.Deep.AppendLies
import Derived.Deep.OwnRows
import Derived.Laws.AppendOwnNone
import Derived.Deep.QuietTactic
import Derived.BigQuiet
import Derived.Deep.RegionWith
import Derived.BigCall
import Derived.Lib.LaidTab
import Derived.Maps.OwnSet
import Derived.StringKeys
import Derived.Deep.Slices
import Derived.Lib.QuietBelow
import Derived.StillTail
import Derived.Laws.OwnMore
import Derived.SizedLaws
import Derived.Lib.Small
import Derived.Lib.Strings
import Derived.Deep.RegionHeld3
import Derived.Laws.ResultCell
import Derived.Deep.Heap
import Derived.Laws.Rows
import Derived.Deep.RegionLaw
import Derived.Laws.IdiomStrings
import Derived.Test.YtdcfffcimikfeaaDoorRows
import Derived.Test.YtdcfffcimikfeaaDoorX01
import Derived.Test.YtdcfffcimikfeaaDoorX02
import Derived.Test.YtdcfffcimikfeaaDoorX03
import Derived.Test.YtdcfffcimikfeaaDoorX04
import Derived.Test.YtdcfffcimikfeaaDoorX05
import Derived.Test.YtdcfffcimikfeaaDoorX06
import Derived.Test.YtdcfffcimikfeaaDoorX07
import Derived.Test.YtdcfffcimikfeaaDoorX08
import Derived.Test.YtdcfffcimikfeaaDoorX09
import Derived.Test.YtdcfffcimikfeaaDoorX10
import Derived.Test.YtdcfffcimikfeaaDoorX11
import Derived.Test.YtdcfffcimikfeaaDoorX12
import Derived.Test.YtdcfffcimikfeaaDoorX13
import Derived.Test.YtdcfffcimikfeaaDoorX14
import Derived.Test.YtdcfffcimikfeaaDoorX15
import Derived.Test.YtdcfffcimikfeaaDoorX16
import Derived.Test.YtdcfffcimikfeaaDoorX17
import Derived.Test.YtdcfffcimikfeaaDoorX18
import Derived.Test.YtdcfffcimikfeaaDoorX19
import Derived.Test.YtdcfffcimikfeaaDoorX20
import Derived.Test.YtdcfffcimikfeaaDoorX21
import Derived.Test.YtdcfffcimikfeaaDoorX22
import Derived.Test.YtdcfffcimikfeaaDoorX23
import Derived.Test.YtdcfffcimikfeaaDoorX24
import Derived.Test.YtdcfffcimikfeaaDoorX25
set_option linter.unusedSimpArgs false
set_option linter.unusedVariables false
namespace Go.Proofs.YtdcfffcimikfeaaDoor
open Go.RowKit Go.Lib

/-- The answer of read: a list and a place. -/
def RdA (w : World) (P : List Nd) (E : Nat) (e : Ending) (w' : World) : Prop := ∃ ao cap, e = .returned (.tuple #[.slice ao P.length cap, .int .i64 (E : Int)]) ∧ OwnN w' w.heap.size (.slice ao P.length cap) P ∧ Below w.heap.size w w'
theorem own_leaf (w : World) (op n : Int) (nm : ByteArray) : OwnN (w.alloc (.cells #[.int .i64 op, .int .i64 n, .string nm, .slice none 0 0] 62)) w.heap.size (.slice (some ⟨w.heap.size, 0, none⟩) 1 1) [⟨op, n, nm, []⟩] := by
  refine ⟨[(⟨op, n, nm, []⟩, .slice none 0 0)], rfl, ?_, fun q hq => ?_⟩
  · have h := World.ownsRow_lit (base := w.heap.size) (e := 62) (size := 4) w #[.int .i64 op, .int .i64 n, .string nm, .slice none 0 0] 1 (by simp) (by simp [maxLen]) (by simp)
    simpa [ndCells] using h
  · simp at hq; subst hq; exact OwnI_nil _ _

theorem wrapN_u (u : Nat) (h0 : 0 < u) (hu : u ≤ 9223372036854775808) : wrap64 (IntKind.u64.wrap (-(u : Int))) = -(u : Int) := by
  have e : IntKind.u64.wrap (-(u : Int)) = (-(u : Int)) % 18446744073709551616 := by
    unfold IntKind.wrap
    simp [IntKind.signed, IntKind.bits]
  rw [e]
  unfold wrap64
  omega


set_option maxRecDepth 20000 in
set_option maxHeartbeats 2000000 in
theorem read_var (w : World) (S T : ByteArray) (at_ : Nat) (hT : Tabs w) (hz : S.size ≤ 8000) (hW : Wd T) (hb : Bt S at_ T) (hst : Stq S (at_ + T.size)) (hn : nameB T = true) :
    Calls Tryd.prog 36 #[.string S, .int .i64 (at_ : Int)] w fun e w' => RdA w [⟨2, 0, T, []⟩] (at_ + T.size) e w' := by
  have hsz := hb.1
  obtain ⟨hw0, hwb, hw40⟩ := hW
  have HBY : SldW (∀ k, at_ ≤ k → k < at_ + T.size → S.get! k ≠ 32 ∧ S.get! k ≠ 41) := ⟨fun k h1 h2 => by
    have := hb.2 (k - at_) (by omega)
    rw [show at_ + (k - at_) = k by omega] at this
    rw [this]; exact hwb _ (by omega)⟩
  have h40 : S.get! at_ ≠ 40 := by
    have := hb.2 0 hw0
    rw [Nat.add_zero] at this
    rw [this]; exact hw40
  have hex := hb.ext
  have hk1 : digZ (Utf8.decode S at_).1 = 0 := by
    have hd := hb.dec hst hw0
    rw [Nat.add_zero] at hd
    rw [hd]
    by_cases hz0 : digZ (Utf8.decode T 0).1 = 0
    · exact hz0
    · have := (kd_two _).2 hz0
      rw [(nm_first T hn).2] at this; cases this
  have CN : SldW (Calls Tryd.prog 71 #[.string S, .int .i64 (at_ : Int)] w fun e w' => e = .returned (.tuple #[.int .u64 0, .int .i64 0, .int .i64 11]) ∧ Below w.heap.size w w') := ⟨by
    have hl : at_ < S.size := by omega
    exact number_none S at_ w hT (by omega) (by unfold maxLen; omega) (by rw [digZ_rn S at_ hl]; exact hk1)⟩
  obtain ⟨E, hE⟩ : ∃ E, at_ + T.size = E := ⟨_, rfl⟩
  rw [hE] at hst HBY hsz hex ⊢
  have HST : SldW (Stq S E) := ⟨hst⟩
  have HEX : SldW (S.extract at_ E = T) := ⟨hex⟩
  have haE : at_ < E := by omega
  have hls : at_ < S.size := by omega
  have hg0 := Utf8W.get!_of_lt S at_ hls
  have t40 : ((((S[at_]'hls).toNat : Nat) : Int) == 40) = false := by
    rw [hg0] at h40
    simp only [beq_eq_false_iff_ne, ne_eq]
    intro e
    exact h40 (UInt8.toNat_inj.1 (by have : (S[at_]'hls).toNat = 40 := by omega
                                     rw [this]; rfl))
  have t45 : ((((T[0]'hw0).toNat : Nat) : Int) == 45) = false := by
    have := (wd_name hn).2
    rw [Utf8W.get!_of_lt T 0 hw0] at this
    simp only [beq_eq_false_iff_ne, ne_eq]
    intro e
    exact this (UInt8.toNat_inj.1 (by have : (T[0]'hw0).toNat = 45 := by omega
                                      rw [this]; rfl))
  have hzI : 0 < (T.size : Int) := by omega
  clear hb hst hwb hw40 h40 hg0 hex hE
  go_enter Tryd.func36, Tryd.ntmps36
  go_wp2_with fail
  go_loop [6] (fun q => ∃ k : Nat, at_ ≤ k ∧ k ≤ E ∧ q = .int .i64 k) (fun q => E - (RowKit.intOf q).toNat)
  case atStart => exact ⟨at_, Nat.le_refl _, by omega, rfl⟩
  case round =>
    obtain ⟨k, hk1, hk2, rfl⟩ := hrel
    by_cases hkE : k < E
    · have hkl : k < S.size := by omega
      obtain ⟨h32, h41⟩ := HBY.out k hk1 hkE
      rw [Utf8W.get!_of_lt S k hkl] at h32 h41
      have t32 : ((((S[k]'hkl).toNat : Nat) : Int) != 32) = true := by
        simp only [bne_iff_ne, ne_eq]
        intro e
        exact h32 (UInt8.toNat_inj.1 (by have : (S[k]'hkl).toNat = 32 := by omega
                                         rw [this]; rfl))
      have t41 : ((((S[k]'hkl).toNat : Nat) : Int) != 41) = true := by
        simp only [bne_iff_ne, ne_eq]
        intro e
        exact h41 (UInt8.toNat_inj.1 (by have : (S[k]'hkl).toNat = 41 := by omega
                                         rw [this]; rfl))
      clear h32 h41
      go_wp2_with fail
      exact ⟨⟨k + 1, by omega, by omega, by go_num⟩, by simp [RowKit.intOf]; omega⟩
    · have hke : k = E := by omega
      subst hke
      have hEx := HEX.out
      by_cases hkl : k < S.size
      · have hd : ((((S[k]'hkl).toNat : Nat) : Int) = 32) ∨ ((((S[k]'hkl).toNat : Nat) : Int) = 41) := by
          rcases HST.out with h | ⟨_, h | h⟩
          · omega
          · right; rw [Utf8W.get!_of_lt S k hkl] at h; rw [h]; rfl
          · left; rw [Utf8W.get!_of_lt S k hkl] at h; rw [h]; rfl
        rcases hd with hd | hd
        all_goals
          go_wp2_with fail
          refine CN.out.mono ?_
          rintro e w1 ⟨rfl, hq1⟩
          go_wp2_with fail
          go_ret2
          exact ⟨some ⟨w1.heap.size, 0, none⟩, 1, rfl, OwnN_mono (own_leaf w1 2 0 T) hq1.size, hq1.alloc hq1.size _⟩
      · have hkz : ¬ ((k : Int) < (S.size : Int)) := by omega
        go_wp2_with fail
        refine CN.out.mono ?_
        rintro e w1 ⟨rfl, hq1⟩
        go_wp2_with fail
        go_ret2
        exact ⟨some ⟨w1.heap.size, 0, none⟩, 1, rfl, OwnN_mono (own_leaf w1 2 0 T) hq1.size, hq1.alloc hq1.size _⟩


set_option maxRecDepth 20000 in
set_option maxHeartbeats 2000000 in
theorem read_lit (w : World) (S T : ByteArray) (at_ : Nat) (hT : Tabs w) (hz : S.size ≤ 8000) (hW : Wd T) (hb : Bt S at_ T) (hst : Stq S (at_ + T.size)) (u : Nat) (hu : u ≤ 9223372036854775807) (hTd : T = txt (decDigits u)) :
    Calls Tryd.prog 36 #[.string S, .int .i64 (at_ : Int)] w fun e w' => RdA w [⟨1, (u : Int), ⟨#[]⟩, []⟩] (at_ + T.size) e w' := by
  have hsz := hb.1
  obtain ⟨hw0, hwb, hw40⟩ := hW
  have HBY : SldW (∀ k, at_ ≤ k → k < at_ + T.size → S.get! k ≠ 32 ∧ S.get! k ≠ 41) := ⟨fun k h1 h2 => by
    have := hb.2 (k - at_) (by omega)
    rw [show at_ + (k - at_) = k by omega] at this
    rw [this]; exact hwb _ (by omega)⟩
  have h40 : S.get! at_ ≠ 40 := by
    have := hb.2 0 hw0
    rw [Nat.add_zero] at this
    rw [this]; exact hw40
  have hex := hb.ext
  have hTz : T.size = (decDigits u).length := by rw [hTd, txt_size]
  have hnum : numI S (at_ : Int) = (u, at_ + T.size, 0) := by
    have hb' := hb
    have hst' := hst
    rw [hTz] at hst' ⊢
    rw [hTd] at hb'
    exact (num_at (by omega) hb' hst').2.2
  have hT0 : T.get! 0 ≠ 45 := by
    rw [hTd, txt_get _ 0 (dig_ne u)]
    intro e
    have := dig_mem u _ (List.getElem_mem (dig_ne u))
    rw [e] at this
    exact absurd this (by decide)
  obtain ⟨E, hE⟩ : ∃ E, at_ + T.size = E := ⟨_, rfl⟩
  rw [hE] at hst HBY hsz hex ⊢
  have HST : SldW (Stq S E) := ⟨hst⟩
  have HEX : SldW (S.extract at_ E = T) := ⟨hex⟩
  have haE : at_ < E := by omega
  have hls : at_ < S.size := by omega
  have hg0 := Utf8W.get!_of_lt S at_ hls
  have t40 : ((((S[at_]'hls).toNat : Nat) : Int) == 40) = false := by
    rw [hg0] at h40
    simp only [beq_eq_false_iff_ne, ne_eq]
    intro e
    exact h40 (UInt8.toNat_inj.1 (by have : (S[at_]'hls).toNat = 40 := by omega
                                     rw [this]; rfl))
  have CN : SldW (Calls Tryd.prog 71 #[.string S, .int .i64 (at_ : Int)] w fun e w' => e = .returned (.tuple #[.int .u64 (u : Int), .int .i64 (E : Int), .int .i64 0]) ∧ Below w.heap.size w w') := ⟨by
    have := number_any S (at_ : Int) w hT (by unfold maxLen; omega)
    rw [hnum, hE] at this
    exact this⟩
  have t45 : ((((T[0]'hw0).toNat : Nat) : Int) == 45) = false := by
    rw [Utf8W.get!_of_lt T 0 hw0] at hT0
    simp only [beq_eq_false_iff_ne, ne_eq]
    intro e
    exact hT0 (UInt8.toNat_inj.1 (by have : (T[0]'hw0).toNat = 45 := by omega
                                     rw [this]; rfl))
  have hzI : 0 < (T.size : Int) := by omega
  have huI : (u : Int) ≤ 9223372036854775807 := by omega
  clear hT0 hnum hTz hTd
  clear hb hst hwb hw40 h40 hg0 hex hE
  go_enter Tryd.func36, Tryd.ntmps36
  go_wp2_with fail
  go_loop [6] (fun q => ∃ k : Nat, at_ ≤ k ∧ k ≤ E ∧ q = .int .i64 k) (fun q => E - (RowKit.intOf q).toNat)
  case atStart => exact ⟨at_, Nat.le_refl _, by omega, rfl⟩
  case round =>
    obtain ⟨k, hk1, hk2, rfl⟩ := hrel
    by_cases hkE : k < E
    · have hkl : k < S.size := by omega
      obtain ⟨h32, h41⟩ := HBY.out k hk1 hkE
      rw [Utf8W.get!_of_lt S k hkl] at h32 h41
      have t32 : ((((S[k]'hkl).toNat : Nat) : Int) != 32) = true := by
        simp only [bne_iff_ne, ne_eq]
        intro e
        exact h32 (UInt8.toNat_inj.1 (by have : (S[k]'hkl).toNat = 32 := by omega
                                         rw [this]; rfl))
      have t41 : ((((S[k]'hkl).toNat : Nat) : Int) != 41) = true := by
        simp only [bne_iff_ne, ne_eq]
        intro e
        exact h41 (UInt8.toNat_inj.1 (by have : (S[k]'hkl).toNat = 41 := by omega
                                         rw [this]; rfl))
      clear h32 h41
      go_wp2_with fail
      exact ⟨⟨k + 1, by omega, by omega, by go_num⟩, by simp [RowKit.intOf]; omega⟩
    · have hke : k = E := by omega
      subst hke
      have hEx := HEX.out
      by_cases hkl : k < S.size
      · have hd : ((((S[k]'hkl).toNat : Nat) : Int) = 32) ∨ ((((S[k]'hkl).toNat : Nat) : Int) = 41) := by
          rcases HST.out with h | ⟨_, h | h⟩
          · omega
          · right; rw [Utf8W.get!_of_lt S k hkl] at h; rw [h]; rfl
          · left; rw [Utf8W.get!_of_lt S k hkl] at h; rw [h]; rfl
        rcases hd with hd | hd
        all_goals
          go_wp2_with fail
          refine CN.out.mono ?_
          rintro e w1 ⟨rfl, hq1⟩
          go_wp2_with fail
          go_ret2
          exact ⟨some ⟨w1.heap.size, 0, none⟩, 1, rfl, OwnN_mono (own_leaf w1 1 (u : Int) ⟨#[]⟩) hq1.size, hq1.alloc hq1.size _⟩
      · have hkz : ¬ ((k : Int) < (S.size : Int)) := by omega
        go_wp2_with fail
        refine CN.out.mono ?_
        rintro e w1 ⟨rfl, hq1⟩
        go_wp2_with fail
        go_ret2
        exact ⟨some ⟨w1.heap.size, 0, none⟩, 1, rfl, OwnN_mono (own_leaf w1 1 (u : Int) ⟨#[]⟩) hq1.size, hq1.alloc hq1.size _⟩


set_option maxRecDepth 20000 in
set_option maxHeartbeats 2000000 in
theorem read_neg (w : World) (S T : ByteArray) (at_ : Nat) (hT : Tabs w) (hz : S.size ≤ 8000) (hW : Wd T) (hb : Bt S at_ T) (hst : Stq S (at_ + T.size)) (u : Nat) (h0 : 0 < u) (hu : u ≤ 9223372036854775808) (hTd : T = txt [45] ++ txt (decDigits u)) :
    Calls Tryd.prog 36 #[.string S, .int .i64 (at_ : Int)] w fun e w' => RdA w [⟨1, -(u : Int), ⟨#[]⟩, []⟩] (at_ + T.size) e w' := by
  have hsz := hb.1
  obtain ⟨hw0, hwb, hw40⟩ := hW
  have HBY : SldW (∀ k, at_ ≤ k → k < at_ + T.size → S.get! k ≠ 32 ∧ S.get! k ≠ 41) := ⟨fun k h1 h2 => by
    have := hb.2 (k - at_) (by omega)
    rw [show at_ + (k - at_) = k by omega] at this
    rw [this]; exact hwb _ (by omega)⟩
  have h40 : S.get! at_ ≠ 40 := by
    have := hb.2 0 hw0
    rw [Nat.add_zero] at this
    rw [this]; exact hw40
  have hex := hb.ext
  have ez : (txt [45]).size = 1 := by rw [txt_size]; rfl
  have hTz : T.size = (decDigits u).length + 1 := by rw [hTd, apz, ez, txt_size]; omega
  have hnum : numI S ((at_ : Int) + 1) = (u, at_ + T.size, 0) := by
    have hb' := hb
    have hst' := hst
    rw [hTd] at hb'
    obtain ⟨b1, b2⟩ := hb'.app
    rw [ez] at b2
    rw [hTz, show at_ + ((decDigits u).length + 1) = at_ + 1 + (decDigits u).length by omega] at hst' ⊢
    exact (num_at (d := at_ + 1) (by omega) b2 hst').2.2
  have hT0 : T.get! 0 = 45 := by
    rw [hTd, gA _ _ 0 (by rw [ez]; omega), txt_get _ 0 (by simp)]
    rfl
  obtain ⟨E, hE⟩ : ∃ E, at_ + T.size = E := ⟨_, rfl⟩
  rw [hE] at hst HBY hsz hex ⊢
  have HST : SldW (Stq S E) := ⟨hst⟩
  have HEX : SldW (S.extract at_ E = T) := ⟨hex⟩
  have haE : at_ < E := by omega
  have hls : at_ < S.size := by omega
  have hg0 := Utf8W.get!_of_lt S at_ hls
  have t40 : ((((S[at_]'hls).toNat : Nat) : Int) == 40) = false := by
    rw [hg0] at h40
    simp only [beq_eq_false_iff_ne, ne_eq]
    intro e
    exact h40 (UInt8.toNat_inj.1 (by have : (S[at_]'hls).toNat = 40 := by omega
                                     rw [this]; rfl))
  have CN : SldW (Calls Tryd.prog 71 #[.string S, .int .i64 ((at_ : Int) + 1)] w fun e w' => e = .returned (.tuple #[.int .u64 (u : Int), .int .i64 (E : Int), .int .i64 0]) ∧ Below w.heap.size w w') := ⟨by
    have := number_any S ((at_ : Int) + 1) w hT (by unfold maxLen; omega)
    rw [hnum, hE] at this
    exact this⟩
  have t45 : ((((T[0]'hw0).toNat : Nat) : Int) == 45) = true := by
    rw [Utf8W.get!_of_lt T 0 hw0] at hT0
    rw [hT0]; rfl
  have hzI : 0 < (T.size : Int) := by omega
  have huI : (u : Int) ≤ 9223372036854775808 := by omega
  have huI0 : 0 < (u : Int) := by omega
  have hwn := wrapN_u u h0 hu
  clear hT0 hnum hTz hTd
  clear hb hst hwb hw40 h40 hg0 hex hE
  go_enter Tryd.func36, Tryd.ntmps36
  go_wp2_with fail
  go_loop [6] (fun q => ∃ k : Nat, at_ ≤ k ∧ k ≤ E ∧ q = .int .i64 k) (fun q => E - (RowKit.intOf q).toNat)
  case atStart => exact ⟨at_, Nat.le_refl _, by omega, rfl⟩
  case round =>
    obtain ⟨k, hk1, hk2, rfl⟩ := hrel
    by_cases hkE : k < E
    · have hkl : k < S.size := by omega
      obtain ⟨h32, h41⟩ := HBY.out k hk1 hkE
      rw [Utf8W.get!_of_lt S k hkl] at h32 h41
      have t32 : ((((S[k]'hkl).toNat : Nat) : Int) != 32) = true := by
        simp only [bne_iff_ne, ne_eq]
        intro e
        exact h32 (UInt8.toNat_inj.1 (by have : (S[k]'hkl).toNat = 32 := by omega
                                         rw [this]; rfl))
      have t41 : ((((S[k]'hkl).toNat : Nat) : Int) != 41) = true := by
        simp only [bne_iff_ne, ne_eq]
        intro e
        exact h41 (UInt8.toNat_inj.1 (by have : (S[k]'hkl).toNat = 41 := by omega
                                         rw [this]; rfl))
      clear h32 h41
      go_wp2_with fail
      exact ⟨⟨k + 1, by omega, by omega, by go_num⟩, by simp [RowKit.intOf]; omega⟩
    · have hke : k = E := by omega
      subst hke
      have hEx := HEX.out
      by_cases hkl : k < S.size
      · have hd : ((((S[k]'hkl).toNat : Nat) : Int) = 32) ∨ ((((S[k]'hkl).toNat : Nat) : Int) = 41) := by
          rcases HST.out with h | ⟨_, h | h⟩
          · omega
          · right; rw [Utf8W.get!_of_lt S k hkl] at h; rw [h]; rfl
          · left; rw [Utf8W.get!_of_lt S k hkl] at h; rw [h]; rfl
        rcases hd with hd | hd
        all_goals
          go_wp2_with fail
          refine CN.out.mono ?_
          rintro e w1 ⟨rfl, hq1⟩
          go_wp2_with fail
          go_ret2
          exact ⟨some ⟨w1.heap.size, 0, none⟩, 1, rfl, OwnN_mono (own_leaf w1 1 (-(u : Int)) ⟨#[]⟩) hq1.size, hq1.alloc hq1.size _⟩
      · have hkz : ¬ ((k : Int) < (S.size : Int)) := by omega
        go_wp2_with fail
        refine CN.out.mono ?_
        rintro e w1 ⟨rfl, hq1⟩
        go_wp2_with fail
        go_ret2
        exact ⟨some ⟨w1.heap.size, 0, none⟩, 1, rfl, OwnN_mono (own_leaf w1 1 (-(u : Int)) ⟨#[]⟩) hq1.size, hq1.alloc hq1.size _⟩

end Go.Proofs.YtdcfffcimikfeaaDoor
