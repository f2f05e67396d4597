/-
  SpW, SpP.
-/
import Derived.Test.YtjmccobblpcbhaaDoorChecked
import GoSem.PinnedTables
import GoSem.Claim
import GoSem.ClaimJoined
import GoSem.ClaimMapViews
import Derived.JoinedTies
import Derived.KernelRfl
import Derived.Shelf.Unicode.DecodeSlow
import Derived.Laws.RangeAny
import Derived.Shelf.Strings.Builder1
import Derived.Shelf.Small.Utf8
import Derived.Shelf.Small.Bits
import Derived.Shelf.Strings.BuilderF
import Derived.Shelf.Strings.BuilderK
import Derived.Shelf.Strings.BuilderRune
import Derived.Shelf.Utf8.AppendRune
import Derived.Shelf.Strconv.Itoa0
import Derived.Shelf.Strconv.Itoa1
import Derived.Shelf.LaysM
import Derived.Shelf.Strconv.Itoa2
import Derived.Shelf.Strconv.Itoa3
import Derived.Shelf.Strconv.Itoa4
import Derived.Shelf.Strings.Prefix
import Derived.Shelf.Unicode.DecodeAny
import Derived.Test.YtjmccobblpcbhaaDoorProg
import Derived.WalkKit
import Derived.Deep.DeepFit
import Derived.Lib.OthersKept
import Derived.Lib.RuneCountTail
import Derived.Lib.LaidU8
import Derived.MakeChecks
import Derived.ProofKit
import Derived.OpenShut
import Derived.Deep.DeepHandedRow
import Derived.Lib.Small
import Derived.Lib.Strings
import Derived.Lib.MapLaws
import Derived.Deep.AppendLies
import Derived.Deep.OwnRows
import Derived.Laws.AppendOwnNone
import Derived.Deep.QuietTactic
import Derived.BigQuiet
import Derived.Deep.RegionWith
import Derived.Laws.DeepStrings4
import Derived.Deep.RegionHeld3
import Derived.Laws.ResultCell
import Derived.Lib.QuietBelow
import Derived.Deep.Heap
import Derived.Laws.Rows
import Derived.Below
import Derived.StillTail
import Derived.Deep.RegionLaw
import Derived.Laws.OwnMore
import Derived.Sort.Walk0
import Derived.Lib.ItoaNum
import Derived.Maps.OwnSet
import Derived.StringKeys
import Derived.BigCall
import Derived.Lib.LaidTab
import Derived.Deep.Slices
import Derived.Laws.IdiomStrings
import Derived.SizedLaws
import Derived.Laws.Cover4
import Derived.Test.YtjmccobblpcbhaaDoorRows
import Derived.Test.YtjmccobblpcbhaaDoorP01
import Derived.Test.YtjmccobblpcbhaaDoorP02
import Derived.Test.YtjmccobblpcbhaaDoorP03
import Derived.Test.YtjmccobblpcbhaaDoorP04
import Derived.Test.YtjmccobblpcbhaaDoorP05
import Derived.Test.YtjmccobblpcbhaaDoorP06
import Derived.Test.YtjmccobblpcbhaaDoorP07
import Derived.Test.YtjmccobblpcbhaaDoorP08
import Derived.Test.YtjmccobblpcbhaaDoorP09
import Derived.Test.YtjmccobblpcbhaaDoorP10
import Derived.Test.YtjmccobblpcbhaaDoorP11
import Derived.Test.YtjmccobblpcbhaaDoorP12
import Derived.Test.YtjmccobblpcbhaaDoorP13
import Derived.Test.YtjmccobblpcbhaaDoorP14
import Derived.Test.YtjmccobblpcbhaaDoorP15
import Derived.Test.YtjmccobblpcbhaaDoorP16
import Derived.Test.YtjmccobblpcbhaaDoorP17
import Derived.Test.YtjmccobblpcbhaaDoorP18
import Derived.Test.YtjmccobblpcbhaaDoorP19
import Derived.Test.YtjmccobblpcbhaaDoorP20
import Derived.Test.YtjmccobblpcbhaaDoorP21
import Derived.Test.YtjmccobblpcbhaaDoorP22
import Derived.Test.YtjmccobblpcbhaaDoorP23
import Derived.Test.YtjmccobblpcbhaaDoorP24
import Derived.Test.YtjmccobblpcbhaaDoorP25
import Derived.Test.YtjmccobblpcbhaaDoorP26
import Derived.Test.YtjmccobblpcbhaaDoorP27
import Derived.Test.YtjmccobblpcbhaaDoorP28
import Derived.Test.YtjmccobblpcbhaaDoorP29
import Derived.Test.YtjmccobblpcbhaaDoorP30
import Derived.Test.YtjmccobblpcbhaaDoorP31
import Derived.Test.YtjmccobblpcbhaaDoorP32
import Derived.Test.YtjmccobblpcbhaaDoorP33
import Derived.Test.YtjmccobblpcbhaaDoorP34
import Derived.Test.YtjmccobblpcbhaaDoorP35
set_option linter.unusedSimpArgs false
set_option linter.unusedVariables false
namespace Go.Proofs.YtjmccobblpcbhaaDoor
open Go.RowKit Go.Lib

structure Box' (p : Prop) : Prop where
  out : p
theorem enc_dg : ∀ k : Fin 3, ∀ d : Fin 10, (Utf8.encode ((zeroT k.1 : Int) + (d.1 : Int))).data.toList = dg1 k.1 (UInt8.ofNat (48 + d.1)) := by decide +kernel
theorem enc_dg' {k : Nat} {b : UInt8} (hk : k < 3) (h1 : 48 ≤ b.toNat) (h2 : b.toNat ≤ 57) : Utf8.encode ((zeroT k : Int) + ((b.toNat : Int) - 48)) = txt (dg1 k b) := by
  have := enc_dg ⟨k, hk⟩ ⟨b.toNat - 48, by omega⟩
  simp only at this
  have e : UInt8.ofNat (48 + (b.toNat - 48)) = b := by rw [show 48 + (b.toNat - 48) = b.toNat by omega]; exact UInt8.ofNat_toNat
  rw [e, show (((b.toNat - 48 : Nat) : Int)) = (b.toNat : Int) - 48 by omega] at this
  exact (by rw [← this]; exact (txt_data _).symm)
set_option maxRecDepth 20000 in
set_option maxHeartbeats 4000000 in
theorem digits_any (bs : List UInt8) (k : Nat) (hk : k < 3) (hb : ∀ b ∈ bs, 48 ≤ b.toNat ∧ b.toNat ≤ 57) (hl : bs.length ≤ 100) (w : World) :
    Calls Tryd.prog 56 #[.string (txt bs), .int .i64 (k : Int)] w fun e w' => e = .returned (.string (txt (dgT k bs))) ∧ Below w.heap.size w w' := by
  have hz : (txt bs).size = bs.length := txt_size bs
  have HG : Hid (∀ j, j < bs.length → ∀ h : j < (txt bs).size, ((txt bs)[j]'h) = bs.getD j 0) := fun j hj h => by
    have h1 := txt_get bs j hj
    rw [Utf8W.get!_of_lt _ _ h] at h1
    rw [h1]; simp [hj]
  have HD : Hid (∀ j, j < bs.length → 48 ≤ (bs.getD j 0).toNat ∧ (bs.getD j 0).toNat ≤ 57 ∧ dgT k (bs.take (j + 1)) = dgT k (bs.take j) ++ dg1 k (bs.getD j 0)) := fun j hj => by
    have e : bs.getD j 0 = bs[j] := by simp [hj]
    have hm : bs[j] ∈ bs := List.getElem_mem hj
    rw [e]
    refine ⟨(hb _ hm).1, (hb _ hm).2, ?_⟩
    rw [List.take_succ_eq_append_getElem hj]
    unfold dgT
    rw [List.flatMap_append]
    simp
  have HL : Hid (∀ j, (dgT k (bs.take j)).length ≤ 300) := fun j => by
    have h1 := (dgT_len k (bs.take j)).2
    rw [List.length_take] at h1
    omega
  obtain ⟨S, hS⟩ : ∃ S, txt bs = S := ⟨_, rfl⟩
  rw [hS] at HG hz ⊢
  clear hS hb
  go_enter Tryd.func56, Tryd.ntmps56
  go_wp2_with fail
  go_loopw [5, 6] (fun o i wr => ∃ j : Nat, j ≤ bs.length ∧ i = .int .i64 j ∧ o = .string (txt (dgT k (bs.take j))) ∧ Below w.heap.size w wr) (fun _ i _ => bs.length - (RowKit.intOf i).toNat)
  case atStart => exact ⟨0, by omega, rfl, rfl, Below.refl _ _⟩
  case round =>
    obtain ⟨j, hj, rfl, rfl, hbr⟩ := hrel
    by_cases hjl : j < bs.length
    · have hjS : j < S.size := by omega
      have hgj := HG.out j hjl hjS
      obtain ⟨d1, d2, d3⟩ := HD.out j hjl
      generalize bs.getD j 0 = b at *
      have hXs := HL.out j
      have hA : ∀ r : Int, (txt (dgT k (bs.take j))).size + (Utf8.encode r).size ≤ 9223372036854775807 := fun r => by
        have := encode_size_le r
        rw [txt_size]; omega
      have d1I : (48 : Int) ≤ (b.toNat : Int) := by omega
      have d2I : (b.toNat : Int) ≤ 57 := by omega
      have HE : Hid (txt (dgT k (bs.take (j + 1))) = txt (dgT k (bs.take j)) ++ Utf8.encode ((zeroT k : Int) + ((b.toNat : Int) - 48))) := by
        rw [Hid, d3, txt_append, enc_dg' hk d1 d2]
      have HBR : Hid (Below w.heap.size w wr) := hbr
      clear d3 hXs hbr
      generalize txt (dgT k (bs.take j)) = X at *
      have hAdd : ∀ (r : Int) (W : World), (Op.stringOp .add X (Utf8.encode r)).run Tryd.prog W = .ok (.string (X ++ Utf8.encode r)) W := fun r W => add_ok _ _ (hA r) W
      obtain rfl | rfl | rfl : k = 0 ∨ k = 1 ∨ k = 2 := by omega
      all_goals
        go_wp2_with fail
        go_region
        go_wp2_with fail
        refine ⟨⟨j + 1, by omega, by go_num, by rw [HE.out]; rfl, ?_⟩, by simp [RowKit.intOf]; omega⟩
        exact (HBR.out.alloc HBR.out.size _).drew
    · obtain rfl : j = bs.length := by omega
      rw [List.take_length]
      go_wp2_with fail
      go_ret
      exact ⟨rfl, hbr⟩

set_option maxRecDepth 20000 in
set_option maxHeartbeats 4000000 in
theorem other_zero (s : ByteArray) (w : World) :
    Calls Tryd.prog 55 #[.string s, .int .i64 0] w fun e w' => e = .returned (.string s) ∧ Below w.heap.size w w' := by
  go_enter Tryd.func55, Tryd.ntmps55
  go_wp2_with fail
  go_ret
  exact ⟨rfl, Below.refl _ _⟩
set_option maxRecDepth 20000 in
set_option maxHeartbeats 8000000 in
theorem other_one {c : UInt8} (hc : sg1 c ∨ c = 64) (k : Nat) (hk : k < 3) (w : World) :
    Calls Tryd.prog 55 #[.string (txt [c]), .int .i64 (k : Int)] w fun e w' => e = .returned (.string (txt (ot1 c k))) ∧ Below w.heap.size w w' := by
  by_cases h0 : k = 0
  · subst h0
    have e : ot1 c 0 = [c] := by unfold ot1; rw [if_pos rfl]
    rw [e]
    exact other_zero _ w
  · have hks : k = 1 ∨ k = 2 := by omega
    have hb := Below.refl w.heap.size w
    unfold sg1 at hc
    obtain ⟨S, hS⟩ : ∃ S, txt [c] = S := ⟨_, rfl⟩
    have hl : S.toList = [c] := by rw [← hS, toList_data]; rfl
    have HS : Box' (txt [c] = S) := ⟨hS⟩
    rw [hS]
    clear hS
    rcases hks with rfl | rfl
    · rcases hc with (rfl | rfl | rfl | rfl | rfl | rfl | rfl | rfl | rfl | rfl | rfl | rfl | rfl | rfl) | rfl
      all_goals
        go_enter Tryd.func55, Tryd.ntmps55
        go_wp2_with fail
        go_ret
        exact ⟨by first | rfl | (rw [← HS.out]; rfl), by first | exact hb | exact hb.alloc (Nat.le_refl _) _⟩
    · rcases hc with (rfl | rfl | rfl | rfl | rfl | rfl | rfl | rfl | rfl | rfl | rfl | rfl | rfl | rfl) | rfl
      all_goals
        go_enter Tryd.func55, Tryd.ntmps55
        go_wp2_with fail
        go_ret
        exact ⟨by first | rfl | (rw [← HS.out]; rfl), by first | exact hb | exact hb.alloc (Nat.le_refl _) _⟩
set_option maxRecDepth 20000 in
set_option maxHeartbeats 8000000 in
theorem other_two {c : UInt8} (hc : c = 60 ∨ c = 61 ∨ c = 62) (k : Nat) (hk : k < 3) (w : World) :
    Calls Tryd.prog 55 #[.string (txt [c, c]), .int .i64 (k : Int)] w fun e w' => e = .returned (.string (txt (ot2 c k))) ∧ Below w.heap.size w w' := by
  by_cases h0 : k = 0
  · subst h0
    have e : ot2 c 0 = [c, c] := by unfold ot2; rw [if_pos rfl]
    rw [e]
    exact other_zero _ w
  · have hks : k = 1 ∨ k = 2 := by omega
    have hb := Below.refl w.heap.size w
    obtain ⟨S, hS⟩ : ∃ S, txt [c, c] = S := ⟨_, rfl⟩
    have hl : S.toList = [c, c] := by rw [← hS, toList_data]; rfl
    have HS : Box' (txt [c, c] = S) := ⟨hS⟩
    rw [hS]
    clear hS
    rcases hks with rfl | rfl
    · rcases hc with rfl | rfl | rfl
      all_goals
        go_enter Tryd.func55, Tryd.ntmps55
        go_wp2_with fail
        go_ret
        exact ⟨by first | rfl | (rw [← HS.out]; rfl), by first | exact hb | exact hb.alloc (Nat.le_refl _) _⟩
    · rcases hc with rfl | rfl | rfl
      all_goals
        go_enter Tryd.func55, Tryd.ntmps55
        go_wp2_with fail
        go_ret
        exact ⟨by first | rfl | (rw [← HS.out]; rfl), by first | exact hb | exact hb.alloc (Nat.le_refl _) _⟩
end Go.Proofs.YtjmccobblpcbhaaDoor

set_option linter.unusedSimpArgs false
set_option linter.unusedVariables false
namespace Go.Proofs.YtjmccobblpcbhaaDoor
open Go.RowKit Go.Lib

theorem geq_run (a b : ByteArray) (w : World) : (binOp .geq 9 (.string a) (.string b)).run Tryd.prog w = .ok (.bool (!(Op.bytesLess a.toList b.toList))) w := by
  kernel_rfl
theorem leq_run (a b : ByteArray) (w : World) : (binOp .leq 9 (.string a) (.string b)).run Tryd.prog w = .ok (.bool (Op.bytesLess a.toList b.toList || a.toList == b.toList)) w := by
  kernel_rfl
/-- A character of W bytes, what comes behind it, both together. -/
structure Fs (s : ByteArray) (i W : Nat) (c : UInt8) (X Nx Y : ByteArray) : Prop where
  lt : i < s.size
  w1 : 1 ≤ W
  le : i + W ≤ s.size
  w4 : W ≤ 4
  wd : wd s i = W
  ext : s.extract i (i + W) = X
  nx : (i + W < s.size ∧ s.extract (i + W) (i + W + 1) = Nx) ∨ (i + W = s.size ∧ Nx = ⟨#[]⟩)
  add : X ++ Nx = Y
  hx : ∃ r, X.toList = c :: r
  hy : ∃ r, Y.toList = c :: r
  one : W = 1 → X = txt [c]
  szx : X.size = W
  szn : Nx.size ≤ 1
theorem ext_at {s : ByteArray} {i j : Nat} (h : i < j) (hj : j ≤ s.size) : ∃ r, (s.extract i j).toList = s.get! i :: r := by
  have hi : i < s.data.toList.length := by rw [← size_eq]; omega
  have e : (s.extract i j).toList = (s.data.toList.drop i).take (j - i) := by rw [toList_data, extract_data]
  rw [e, List.drop_eq_getElem_cons hi]
  obtain ⟨n, hn⟩ : ∃ n, j - i = n + 1 := ⟨j - i - 1, by omega⟩
  rw [hn, List.take_succ_cons]
  have h1 := ba_get s i (by omega)
  rw [List.getElem?_eq_getElem hi] at h1
  rw [Option.some.inj h1]
  exact ⟨_, rfl⟩
theorem ext_one {s : ByteArray} {i : Nat} (h : i < s.size) : s.extract i (i + 1) = txt [s.get! i] := by
  obtain ⟨r, hr⟩ := ext_at (s := s) (i := i) (j := i + 1) (by omega) (by omega)
  have hz : (s.extract i (i + 1)).size = 1 := by rw [ByteArray.size_extract]; omega
  have hl : (s.extract i (i + 1)).toList.length = 1 := by rw [toList_data, ← size_eq]; exact hz
  rw [hr] at hl
  have : r = [] := by simpa using hl
  subst this
  rw [toList_data] at hr
  rw [← txt_data (s.extract i (i + 1)), hr]
theorem fs_mk {s : ByteArray} {i W : Nat} (h : i < s.size) (hb : bad s i = false) (hw : (Utf8.decode s i).2 = W) : ∃ X Nx Y, Fs s i W (s.get! i) X Nx Y := by
  have h1 := width_pos s i h
  have h2 := dec_le s i h
  rw [hw] at h1 h2
  have h4 : W ≤ 4 := by
    rw [← hw, decode_at]
    unfold decodeN
    repeat' split
    all_goals simp
  have hwd : wd s i = W := by unfold wd; rw [hb]; simpa using hw
  obtain ⟨r, hr⟩ := ext_at (s := s) (i := i) (j := i + W) (by omega) h2
  have hzx : (s.extract i (i + W)).size = W := by rw [ByteArray.size_extract]; omega
  have hyl : ∀ Nx : ByteArray, ∃ r', (s.extract i (i + W) ++ Nx).toList = s.get! i :: r' := fun Nx => by
    rw [toList_data, ByteArray.data_append, Array.toList_append, ← toList_data, hr]
    exact ⟨_, rfl⟩
  by_cases hl : i + W < s.size
  · exact ⟨_, _, _, h, h1, h2, h4, hwd, rfl, .inl ⟨hl, rfl⟩, rfl, ⟨r, hr⟩, hyl _, fun e => by subst e; exact ext_one h, hzx, by rw [ByteArray.size_extract]; omega⟩
  · exact ⟨_, _, _, h, h1, h2, h4, hwd, rfl, .inr ⟨by omega, rfl⟩, rfl, ⟨r, hr⟩, hyl _, fun e => by subst e; exact ext_one h, hzx, by show 0 ≤ 1; omega⟩
theorem eq_no {Y : ByteArray} {c d : UInt8} (h : ∃ r, Y.toList = c :: r) (hd : c ≠ d) (e : List UInt8) : (Y.toList == d :: e) = false := by
  obtain ⟨r, hr⟩ := h
  rw [hr]
  simp [hd]
theorem ge_low {X : ByteArray} {c : UInt8} (h : ∃ r, X.toList = c :: r) (hc : c.toNat < 48) : (!(Op.bytesLess X.toList (⟨#[48]⟩ : ByteArray).toList)) = false := by
  obtain ⟨r, hr⟩ := h
  have e : (⟨#[48]⟩ : ByteArray).toList = [48] := by rw [toList_data]
  rw [hr, e]
  simp [Op.bytesLess, UInt8.lt_iff_toNat_lt, hc]
theorem ge_high {X : ByteArray} {c : UInt8} (h : ∃ r, X.toList = c :: r) (hc : 48 ≤ c.toNat) : (!(Op.bytesLess X.toList (⟨#[48]⟩ : ByteArray).toList)) = true := by
  obtain ⟨r, hr⟩ := h
  have e : (⟨#[48]⟩ : ByteArray).toList = [48] := by rw [toList_data]
  have hn : ¬ c.toNat < 48 := by omega
  rw [hr, e]
  simp [Op.bytesLess, UInt8.lt_iff_toNat_lt, hn]
theorem le_high {X : ByteArray} {c : UInt8} (h : ∃ r, X.toList = c :: r) (hc : 57 < c.toNat) : (Op.bytesLess X.toList (⟨#[57]⟩ : ByteArray).toList || X.toList == (⟨#[57]⟩ : ByteArray).toList) = false := by
  obtain ⟨r, hr⟩ := h
  have e : (⟨#[57]⟩ : ByteArray).toList = [57] := by rw [toList_data]
  have hn : ¬ c.toNat < 57 := by omega
  have hne : c ≠ 57 := fun x => by subst x; exact absurd hc (by decide)
  rw [hr, e]
  simp [Op.bytesLess, UInt8.lt_iff_toNat_lt, hn, hne]
theorem le_low {c : UInt8} (hc : c.toNat ≤ 57) : (Op.bytesLess (txt [c]).toList (⟨#[57]⟩ : ByteArray).toList || (txt [c]).toList == (⟨#[57]⟩ : ByteArray).toList) = true := by
  have e : (⟨#[57]⟩ : ByteArray).toList = [57] := by rw [toList_data]
  have e2 : (txt [c]).toList = [c] := by rw [toList_data]; rfl
  rw [e, e2]
  by_cases h : c.toNat < 57
  · simp [Op.bytesLess, UInt8.lt_iff_toNat_lt, h]
  · have : c = 57 := by
      apply UInt8.toNat_inj.1
      show c.toNat = 57
      omega
    subst this
    decide
end Go.Proofs.YtjmccobblpcbhaaDoor
