/-
  LiW, SbW.
-/
import Derived.Test.YtdcfffcimikfeaaDoorChecked
import GoSem.PinnedTables
import GoSem.Claim
import GoSem.ClaimJoined
import GoSem.ClaimMapViews
import Derived.JoinedTies
import Derived.KernelRfl
import Derived.Shelf.Unicode.DecodeSlow
import Derived.Laws.RangeAny
import Derived.Shelf.Strings.Builder1
import Derived.Shelf.Small.Utf8
import Derived.Shelf.Small.Bits
import Derived.Shelf.Strings.BuilderF
import Derived.Shelf.Strings.BuilderK
import Derived.Shelf.Strings.BuilderRune
import Derived.Shelf.Utf8.AppendRune
import Derived.Shelf.Strconv.Itoa0
import Derived.Shelf.Strconv.Itoa1
import Derived.Shelf.LaysM
import Derived.Shelf.Strconv.Itoa2
import Derived.Shelf.Strconv.Itoa3
import Derived.Shelf.Strconv.Itoa4
import Derived.Shelf.Strings.Prefix
import Derived.Shelf.Unicode.DecodeAny
import Derived.Shelf.Slices.CompactS
import Derived.Ground.SlsfProg
import Derived.Shelf.SlSortCmp.Insertion
import Derived.Shelf.SlSortCmp.SiftDown1
import Derived.Shelf.SlSortCmp.HeapSort1
import Derived.Shelf.SlSortCmp.Insertion1
import Derived.Shelf.SlSortCmp.Median1
import Derived.Shelf.SlSortCmp.Pivot1
import Derived.Shelf.SlSortCmp.ReverseRange1
import Derived.Shelf.SlSortCmp.PartialInsertion1
import Derived.Shelf.SlSortCmp.PartitionEqual1
import Derived.Shelf.SlSortCmp.Partition1
import Derived.Shelf.SlSortCmp.Pdq1
import Derived.Shelf.SlSortCmp.Whole1
import Derived.Test.YtdcfffcimikfeaaDoorProg
import Derived.WalkKit
import Derived.Deep.DeepFit
import Derived.Lib.OthersKept
import Derived.Lib.RuneCountTail
import Derived.Lib.LaidU8
import Derived.MakeChecks
import Derived.ProofKit
import Derived.OpenShut
import Derived.Deep.DeepHandedRow
import Derived.Lib.MapLaws
import Derived.Sort.Walk0
import Derived.Laws.DeepStrings4
import Derived.Lib.ItoaNum
import Derived.Deep.AppendLies
import Derived.Deep.OwnRows
import Derived.Laws.AppendOwnNone
import Derived.Deep.QuietTactic
import Derived.BigQuiet
import Derived.Deep.RegionWith
import Derived.BigCall
import Derived.Lib.LaidTab
import Derived.Maps.OwnSet
import Derived.StringKeys
import Derived.Deep.Slices
import Derived.Lib.QuietBelow
import Derived.StillTail
import Derived.Laws.OwnMore
import Derived.SizedLaws
import Derived.Lib.Small
import Derived.Lib.Strings
import Derived.Deep.RegionHeld3
import Derived.Laws.ResultCell
import Derived.Deep.Heap
import Derived.Laws.Rows
import Derived.Deep.RegionLaw
import Derived.Laws.IdiomStrings
import Derived.Test.YtdcfffcimikfeaaDoorRows
import Derived.Test.YtdcfffcimikfeaaDoorX01
import Derived.Test.YtdcfffcimikfeaaDoorX02
import Derived.Test.YtdcfffcimikfeaaDoorX03
import Derived.Test.YtdcfffcimikfeaaDoorX04
import Derived.Test.YtdcfffcimikfeaaDoorX05
import Derived.Test.YtdcfffcimikfeaaDoorX06
import Derived.Test.YtdcfffcimikfeaaDoorX07
import Derived.Test.YtdcfffcimikfeaaDoorX08
import Derived.Test.YtdcfffcimikfeaaDoorX09
import Derived.Test.YtdcfffcimikfeaaDoorX10
import Derived.Test.YtdcfffcimikfeaaDoorX11
import Derived.Test.YtdcfffcimikfeaaDoorX12
import Derived.Test.YtdcfffcimikfeaaDoorX13
import Derived.Test.YtdcfffcimikfeaaDoorX14
import Derived.Test.YtdcfffcimikfeaaDoorX15
import Derived.Test.YtdcfffcimikfeaaDoorX16
import Derived.Test.YtdcfffcimikfeaaDoorX17
import Derived.Test.YtdcfffcimikfeaaDoorX18
import Derived.Test.YtdcfffcimikfeaaDoorX19
import Derived.Test.YtdcfffcimikfeaaDoorX20
import Derived.Test.YtdcfffcimikfeaaDoorX21
import Derived.Test.YtdcfffcimikfeaaDoorX22
import Derived.Test.YtdcfffcimikfeaaDoorX23
import Derived.Test.YtdcfffcimikfeaaDoorX24
import Derived.Test.YtdcfffcimikfeaaDoorX25
import Derived.Test.YtdcfffcimikfeaaDoorX26
set_option linter.unusedSimpArgs false
set_option linter.unusedVariables false
namespace Go.Proofs.YtdcfffcimikfeaaDoor
open Go.RowKit Go.Lib

set_option maxHeartbeats 1000000 in
theorem ref5Word_any (k : Nat) (hk : k < 19) (w : World) :
    Calls Tryd.prog 70 #[.int .i64 k] w fun e w' => e = .returned (.string (wdT k)) ∧ Below w.heap.size w w' := by
  have c : SldW _ := ⟨refWord_any k hk w⟩
  generalize wdT (k : Int) = X at *
  go_enter Tryd.func70, Tryd.ntmps70
  go_wp2_with fail
  refine c.out.mono ?_
  rintro e w1 ⟨rfl, hb1⟩
  go_wp2_with fail
  go_ret
  exact ⟨rfl, hb1⟩

/-- The parts' texts, each behind a blank. -/
def blT (Ts : List ByteArray) : ByteArray := txt (Ts.flatMap fun T => 32 :: T.data.toList)
theorem blT_cons (T : ByteArray) (Ts : List ByteArray) : blT (T :: Ts) = txt [32] ++ T ++ blT Ts := by
  have e : txt [32] ++ T = txt (32 :: T.data.toList) := by
    conv => lhs; rw [← txt_data T]
    rw [← txt_append]; rfl
  unfold blT
  rw [List.flatMap_cons, txt_append, e]
/-- Where the parts begin and end. -/
def enB (b : Nat) (Ts : List ByteArray) : Nat := b + (blT Ts).size
theorem blT_snoc (Ts : List ByteArray) (T : ByteArray) : blT (Ts ++ [T]) = blT Ts ++ (txt [32] ++ T) := by
  have e : txt [32] ++ T = txt (32 :: T.data.toList) := by
    conv => lhs; rw [← txt_data T]
    rw [← txt_append]; rfl
  unfold blT
  rw [List.flatMap_append, txt_append, e]
  simp
theorem bl_at {S : ByteArray} {b : Nat} {Ts : List ByteArray} (h : Bt S b (blT Ts)) {j : Nat} (hj : j < Ts.length) : Bt S (enB b (Ts.take j)) (txt [32] ++ Ts.getD j ⟨#[]⟩) ∧ enB b (Ts.take (j + 1)) = enB b (Ts.take j) + 1 + (Ts.getD j ⟨#[]⟩).size := by
  have e : Ts = Ts.take j ++ Ts.getD j ⟨#[]⟩ :: Ts.drop (j + 1) := by
    conv => lhs; rw [← List.take_append_drop j Ts, List.drop_eq_getElem_cons hj]
    simp [hj]
  have e2 : blT Ts = blT (Ts.take j) ++ (txt [32] ++ Ts.getD j ⟨#[]⟩ ++ blT (Ts.drop (j + 1))) := by
    conv => lhs; rw [e]
    rw [show Ts.take j ++ Ts.getD j ⟨#[]⟩ :: Ts.drop (j + 1) = Ts.take j ++ (Ts.getD j ⟨#[]⟩ :: Ts.drop (j + 1)) from rfl]
    have : ∀ A B : List ByteArray, blT (A ++ B) = blT A ++ blT B := fun A B => by unfold blT; rw [List.flatMap_append, txt_append]
    rw [this, blT_cons]
  rw [e2] at h
  obtain ⟨_, h2⟩ := h.app
  obtain ⟨h3, _⟩ := h2.app
  refine ⟨h3, ?_⟩
  unfold enB
  rw [List.take_succ_eq_append_getElem hj, blT_snoc, apz, apz, txt_size]
  simp [hj]
  omega
theorem ahd_eq (x : Nd) (ps : List (Nd × ByteArray)) : ahdT x ps = txt [40] ++ wdT x.op ++ blT (ps.map (·.2)) ++ txt [41] := by
  unfold ahdT wdT blT
  rw [← txt_append, ← txt_append, ← txt_append]
  congr 1
  simp [List.flatMap_map]

theorem fill_same {x : Nd} (h : formB x = true) : fillN x = x := by
  unfold fillN
  split
  · rename_i e
    exfalso
    unfold formB fitB at h
    rw [e] at h
    simp [aritI] at h
  · rfl
theorem make_part {l : List Nd} {fr : List Nat} (hbg : begL l = some fr) {i : Nat} (hi : i < l.length) {op : Int} {ks : List Int} (hx : l.getD i nd0 = ⟨op, 0, ⟨#[]⟩, ks⟩) (W : World) (base : Nat) (v : Value) (pvs : List Value) (hT : SpanCells W) (hL : OwnLs W base v (ks.map (kidPart l fr)) pvs) :
    Calls Tryd.prog 37 #[.int .i64 op, .int .i64 0, .string ⟨#[]⟩, v] W fun e w' => ∃ ao cap, e = .returned (.tuple #[.slice ao (partL l (fr.getD i 0) i).length cap, .int .i64 0]) ∧ OwnN w' W.heap.size (.slice ao (partL l (fr.getD i 0) i).length cap) (partL l (fr.getD i 0) i) ∧ Below W.heap.size W w' := by
  have hok := begOk_of (begL_some hbg).2.2.1
  have h64 := (begL_some hbg).2.1
  have hpj := part_join hok i hi
  have hform := (hok.at_ i hi).1
  have hk3 := formB_kids hform
  have hlo := hok.low i
  have hpl := partL_len l (fr.getD i 0) i hi hlo
  rw [hx] at hpj hform hk3
  simp only at hpj hk3
  have hkk : ∀ k ∈ ks, 0 ≤ k ∧ k < (i : Int) := fun k hk => by
    have := chainL_kids _ _ _ (hok.at_ i hi).2 hok.low k (by rw [hx]; simpa using hk)
    exact this
  have hsn : ∀ p ∈ ks.map (kidPart l fr), sndB p = true := fun p hp => by
    obtain ⟨k, hk, rfl⟩ := List.mem_map.1 hp
    have := hkk k hk
    obtain ⟨fo, hfo⟩ := part_snd hbg k.toNat (by omega)
    unfold kidPart sndB
    rw [hfo]; rfl
  have hfit : fitB op 0 ⟨#[]⟩ ks.length = true := hform
  have hlen : 1 + (accS (ks.map (kidPart l fr))).1.length ≤ 64 := by
    have := congrArg List.length hpj
    rw [hpl] at this
    unfold joinL at this
    simp at this
    omega
  refine (make_any op 0 ⟨#[]⟩ v (ks.map (kidPart l fr)) W W.heap.size (Nat.le_refl _) hT (Lst_of_own hL (Nat.le_refl _)) (by simp; omega)).mono ?_
  intro e w' hP
  rcases hP.ways with ⟨⟨p, hp, hs⟩, _⟩ | ⟨_, hf, _⟩ | ⟨_, _, hf, _⟩ | ⟨_, _, _, v', rfl, hO⟩
  · rw [hsn p hp] at hs; cases hs
  · rw [List.length_map, hfit] at hf; cases hf
  · omega
  · rw [← hpj] at hO
    obtain ⟨ao, cap, rfl, _⟩ := Rd_of_own hO
    exact ⟨ao, cap, rfl, hO, hP.below⟩
theorem byte_is {S : ByteArray} {k : Nat} (hk : k < S.size) {c : UInt8} (h : S.get! k = c) : (((S[k]'hk).toNat : Nat) : Int) = (c.toNat : Int) := by
  rw [Utf8W.get!_of_lt S k hk] at h
  rw [h]
theorem byte_ne {S : ByteArray} {k : Nat} (hk : k < S.size) {c : UInt8} (h : S.get! k ≠ c) : ((((S[k]'hk).toNat : Nat) : Int) != (c.toNat : Int)) = true := by
  rw [Utf8W.get!_of_lt S k hk] at h
  simp only [bne_iff_ne, ne_eq]
  intro e
  exact h (UInt8.toNat_inj.1 (by omega))

set_option maxRecDepth 20000 in
set_option maxHeartbeats 4000000 in
theorem read_op (w : World) (S : ByteArray) (at_ : Nat) (hT : Tabs w) (hz : S.size ≤ 8000) (opN : Nat) (hop : 3 ≤ opN ∧ opN ≤ 17) (n : Nat) (hn0 : 0 < n) (hn3 : n ≤ 3) (Ts : List ByteArray) (Ps : List (List Nd)) (P : List Nd) (hTl : Ts.length = n) (hPl : Ps.length = n)
    (hb : Bt S at_ (txt [40] ++ wdT opN ++ blT Ts ++ txt [41]))
    (hrd : ∀ j, j < n → ∀ (a : Nat) (W : World), Tabs W → Bt S a (Ts.getD j ⟨#[]⟩) → Stq S (a + (Ts.getD j ⟨#[]⟩).size) → Calls Tryd.prog 36 #[.string S, .int .i64 (a : Int)] W fun e w' => RdA W (Ps.getD j []) (a + (Ts.getD j ⟨#[]⟩).size) e w')
    (hmk : ∀ (W : World) (base : Nat) (v : Value) (pvs : List Value), SpanCells W → OwnLs W base v Ps pvs → Calls Tryd.prog 37 #[.int .i64 (opN : Int), .int .i64 0, .string ⟨#[]⟩, v] W fun e w' => ∃ ao cap, e = .returned (.tuple #[.slice ao P.length cap, .int .i64 0]) ∧ OwnN w' W.heap.size (.slice ao P.length cap) P ∧ Below W.heap.size W w') :
    Calls Tryd.prog 36 #[.string S, .int .i64 (at_ : Int)] w fun e w' => RdA w P (at_ + (txt [40] ++ wdT opN ++ blT Ts ++ txt [41]).size) e w' := by
  obtain ⟨i0, hi, hz0, hz1, hz2⟩ := info_parts Tryd.infoNodes
  have ez : ∀ c : UInt8, (txt [c]).size = 1 := fun c => by rw [txt_size]; rfl
  obtain ⟨h1, h41⟩ := hb.app
  obtain ⟨h2, hbl⟩ := h1.app
  obtain ⟨h40, hwd⟩ := h2.app
  rw [ez] at hwd
  simp only [apz, ez] at h41 hbl ⊢
  obtain ⟨b40, c40⟩ := h40.byte
  obtain ⟨b41, c41⟩ := h41.byte
  have hwf := word_facts ⟨opN, by omega⟩ hop.1 hop.2
  have hwz : (wdT (opN : Int)).size = (wrTab.getD opN ([], [], 0)).2.1.length := by unfold wdT wrAt; rw [txt_size]; rfl
  obtain ⟨bW, hbW⟩ : ∃ b, at_ + 1 + (wdT (opN : Int)).size = b := ⟨_, rfl⟩
  have e1 : at_ + (1 + (wdT (opN : Int)).size) = bW := by omega
  have e2 : at_ + (1 + (wdT (opN : Int)).size + (blT Ts).size) = enB bW Ts := by unfold enB; omega
  have e3 : at_ + (1 + (wdT (opN : Int)).size + (blT Ts).size + 1) = enB bW Ts + 1 := by unfold enB; omega
  rw [e1] at hbl
  rw [e2] at b41 c41
  rw [e3]
  have hex : S.extract (at_ + 1) bW = wdT (opN : Int) := by rw [← hbW]; exact hwd.ext
  have HBY : SldW (∀ k, at_ ≤ k → k < bW → S.get! k ≠ 32 ∧ S.get! k ≠ 41) := ⟨fun k k1 k2 => by
    by_cases hk : k = at_
    · rw [hk, c40]; decide
    · have := hwd.2 (k - (at_ + 1)) (by omega)
      rw [show at_ + 1 + (k - (at_ + 1)) = k by omega] at this
      rw [this]
      have hkl : k - (at_ + 1) < (wrTab.getD opN ([], [], 0)).2.1.length := by omega
      have e : (wdT (opN : Int)).get! (k - (at_ + 1)) = (wrTab.getD opN ([], [], 0)).2.1[k - (at_ + 1)] := txt_get _ _ hkl
      rw [e]
      have := hwf.2 _ (List.getElem_mem hkl)
      exact ⟨this.1, this.2.1⟩⟩
  have hblz := hbl.1
  have hb0 := bl_at hbl (j := 0) (by omega)
  rw [show enB bW (Ts.take 0) = bW by unfold enB blT; simp [txt_size]] at hb0
  have hsp0 := (hb0.1.app).1.byte
  have HAT : SldW (∀ j, j < n → (enB bW (Ts.take j) < S.size ∧ S.get! (enB bW (Ts.take j)) = 32) ∧ Bt S (enB bW (Ts.take j) + 1) (Ts.getD j ⟨#[]⟩) ∧ enB bW (Ts.take (j + 1)) = enB bW (Ts.take j) + 1 + (Ts.getD j ⟨#[]⟩).size) := ⟨fun j hj => by
    obtain ⟨g1, g2⟩ := bl_at hbl (j := j) (by omega)
    obtain ⟨g3, g4⟩ := g1.app
    rw [ez] at g4
    exact ⟨g3.byte, g4, g2⟩⟩
  have hTn : Ts.take n = Ts := by rw [← hTl, List.take_length]
  have HSTQ : SldW (∀ j, j ≤ n → Stq S (enB bW (Ts.take j))) := ⟨fun j hj => by
    by_cases hjn : j = n
    · rw [hjn, hTn]; exact .inr ⟨b41, .inl c41⟩
    · have := (HAT.out j (by omega)).1
      exact .inr ⟨this.1, .inr this.2⟩⟩
  have HTB : SldW (∀ W, Below w.heap.size w W → Tabs W) := ⟨fun W hW => hT.below hW⟩
  have CR : SldW (∀ j, j < n → ∀ (W : World), Below w.heap.size w W → Calls Tryd.prog 36 #[.string S, .int .i64 ((enB bW (Ts.take j) : Int) + 1)] W fun e w' => RdA W (Ps.getD j []) (enB bW (Ts.take (j + 1))) e w') := ⟨fun j hj W hW => by
    obtain ⟨_, g2, g3⟩ := HAT.out j hj
    have hs := HSTQ.out (j + 1) (by omega)
    rw [g3] at hs ⊢
    have := hrd j hj (enB bW (Ts.take j) + 1) W (HTB.out W hW) g2 hs
    have e : (((enB bW (Ts.take j) + 1 : Nat) : Nat) : Int) = (enB bW (Ts.take j) : Int) + 1 := by omega
    rw [e] at this
    exact this⟩
  have CM : SldW (∀ (W : World) (base : Nat) (v : Value) (pvs : List Value), SpanCells W → OwnLs W base v Ps pvs → Calls Tryd.prog 37 #[.int .i64 (opN : Int), .int .i64 0, .string ⟨#[]⟩, v] W fun e w' => ∃ ao cap, e = .returned (.tuple #[.slice ao P.length cap, .int .i64 0]) ∧ OwnN w' W.heap.size (.slice ao P.length cap) P ∧ Below W.heap.size W w') := ⟨hmk⟩
  have CW : SldW (∀ k : Nat, k < 19 → ∀ W, Calls Tryd.prog 70 #[.int .i64 (k : Int)] W fun e w' => e = .returned (.string (wdT (k : Int))) ∧ Below W.heap.size W w') := ⟨fun k hk W => ref5Word_any k hk W⟩
  have HJ : SldW (∀ k : Nat, 3 ≤ k → k ≤ 17 → (wdT (k : Int) = wdT (opN : Int) ↔ k = opN)) := ⟨fun k k1 k2 => wdT_inj ⟨k1, k2⟩ hop⟩
  have HEN : SldW (enB bW (Ts.take 0) = bW ∧ enB bW (Ts.take n) = enB bW Ts ∧ (∀ j, j ≤ n → enB bW (Ts.take j) ≤ S.size)) := ⟨by unfold enB blT; simp [txt_size], by rw [hTn], fun j hj => by
    rcases HSTQ.out j hj with h | h <;> omega⟩
  obtain ⟨EE, hEE⟩ : ∃ e, enB bW Ts = e := ⟨_, rfl⟩
  rw [hEE] at b41 c41 HEN ⊢
  obtain ⟨WD, hWD⟩ : ∃ x, wdT (opN : Int) = x := ⟨_, rfl⟩
  rw [hWD] at hex HJ
  have hbwl : bW < S.size := hsp0.1
  have hbwc := hsp0.2
  have haW : at_ + 1 ≤ bW := by omega
  have t40 := byte_is b40 c40
  have t41 := byte_is b41 c41
  have HEX : SldW (S.extract (at_ + 1) bW = WD) := ⟨hex⟩
  have hopI : (3 : Int) ≤ opN ∧ (opN : Int) ≤ 17 := by omega
  have hpsl : Ps.length = n := hPl
  clear hb h1 h2 h41 hbl h40 hwd hwf hwz hrd hmk hb0 hsp0 hTn hEE hWD hex e1 e2 e3 hblz hbW c40 c41 hTl hT
  go_enter Tryd.func36, Tryd.ntmps36
  go_wp2_with fail
  go_loop [6] (fun q => ∃ k : Nat, at_ ≤ k ∧ k ≤ bW ∧ q = .int .i64 k) (fun q => bW - (RowKit.intOf q).toNat)
  case atStart => exact ⟨at_, Nat.le_refl _, by omega, rfl⟩
  case round =>
    obtain ⟨k, hk1, hk2, rfl⟩ := hrel
    by_cases hkE : k < bW
    · have hkl : k < S.size := by omega
      obtain ⟨h32, h41⟩ := HBY.out k hk1 hkE
      have t32 : ((((S[k]'hkl).toNat : Nat) : Int) != 32) = true := byte_ne hkl h32
      have t41' : ((((S[k]'hkl).toNat : Nat) : Int) != 41) = true := byte_ne hkl h41
      clear h32 h41
      go_wp2_with fail
      exact ⟨⟨k + 1, by omega, by omega, by go_num⟩, by simp [RowKit.intOf]; omega⟩
    · have hke : k = bW := by omega
      subst hke
      have t32 : (((S[k]'hbwl).toNat : Nat) : Int) = 32 := byte_is hbwl hbwc
      have t40' : (((S[at_]'b40).toNat : Nat) : Int) = 40 := t40
      go_wp2_with fail
      go_loopw [7, 8] (fun ov kv wr => ∃ q : Nat, 3 ≤ q ∧ q ≤ 18 ∧ kv = .int .i64 q ∧ ov = .int .i64 (if opN < q then (opN : Int) else 0) ∧ Below w.heap.size w wr) (fun _ kv _ => 18 - (RowKit.intOf kv).toNat)
      case atStart => exact ⟨3, by omega, by omega, rfl, by rw [if_neg (by omega)], Below.refl _ _⟩
      case round =>
        obtain ⟨q, hq1, hq2, rfl, rfl, hBq⟩ := hrel
        have HBQ : SldW (Below w.heap.size w wr) := ⟨hBq⟩
        clear hBq
        by_cases hql : q < 18
        · have hqle : (q : Int) ≤ 17 := by omega
          have hEx := HEX.out
          have CWq : SldW (∀ W, Calls Tryd.prog 70 #[.int .i64 (q : Int)] W fun e w' => e = .returned (.string (wdT (q : Int))) ∧ Below W.heap.size W w') := ⟨fun W => CW.out q (by omega) W⟩
          have hjq := HJ.out q hq1 (by omega)
          obtain ⟨X, hX⟩ : ∃ X, wdT (q : Int) = X := ⟨_, rfl⟩
          rw [hX] at CWq hjq
          obtain ⟨ov, hov⟩ : ∃ z : Int, (if opN < q then (opN : Int) else 0) = z := ⟨_, rfl⟩
          rw [hov]
          have HOV : SldW ((if opN < q then (opN : Int) else 0) = ov) := ⟨hov⟩
          clear hX hov
          have haI : (at_ : Int) + 1 ≤ (k : Int) := by omega
          have hkI : (k : Int) ≤ (S.size : Int) := by omega
          have h01 : (0 : Int) ≤ (at_ : Int) + 1 := by omega
          have hw1 : IntKind.i64.wrap ((at_ : Int) + 1) = (at_ : Int) + 1 := IntWalk.i64_in _ (by omega)
          have wreg : ∀ w4, Below wr.drew.heap.size wr.drew w4 → Below w.heap.size w w4 := fun w4 h => HBQ.out.trans (((Below.refl wr.heap.size wr).drew.trans h).mono HBQ.out.size)
          have HWR : SldW (∀ w4, Below wr.drew.heap.size wr.drew w4 → Below w.heap.size w w4) := ⟨wreg⟩
          clear wreg
          by_cases hqo : q = opN
          · have hXW : X = WD := hjq.2 hqo
            have HQO : SldW (q = opN) := ⟨hqo⟩
            clear hjq hqo
            subst hXW
            go_wp2_with fail
            go_region_held3 (fun W => True) (trivial) (first | (go_at_call 70; refine (CWq.out _).mono ?_; rintro e w4 ⟨rfl, hb4'⟩))
            go_wp2_with fail
            exact ⟨⟨q + 1, by omega, by omega, by go_num, by rw [if_pos (by have := HQO.out; omega), HQO.out], HWR.out _ hb4'⟩, by simp [RowKit.intOf]; omega⟩
          · have hXW : X ≠ WD := fun e => hqo (hjq.1 e)
            have hXb : (X.toList == WD.toList) = false := by rw [beq_toList]; simpa using hXW
            have HQO : SldW (q ≠ opN) := ⟨hqo⟩
            clear hjq hqo hXW
            go_wp2_with fail
            go_region_held3 (fun W => True) (trivial) (first | (go_at_call 70; refine (CWq.out _).mono ?_; rintro e w4 ⟨rfl, hb4'⟩))
            go_wp2_with fail
            refine ⟨⟨q + 1, by omega, by omega, by go_num, ?_, HWR.out _ hb4'⟩, by simp [RowKit.intOf]; omega⟩
            rw [← HOV.out]
            by_cases h5 : opN < q
            · rw [if_pos h5, if_pos (by omega)]
            · rw [if_neg h5, if_neg (by have := HQO.out; omega)]
        · have hqI : ¬ (q : Int) ≤ 17 := by omega
          rw [if_pos (by omega)]
          clear hql hq1 hq2
          obtain ⟨wo, hwo⟩ : ∃ wo, wo = wr := ⟨_, rfl⟩
          subst hwo
          go_wp2_with fail
          go_loopw [6, 9] (fun ev v wr => ∃ (j : Nat) (pvs : List Value), j ≤ n ∧ ev = .int .i64 (enB k (Ts.take j) : Int) ∧ OwnLs wr w.heap.size v (Ps.take j) pvs ∧ Below w.heap.size w wr) (fun ev _ _ => S.size - (RowKit.intOf ev).toNat)
          case atStart => exact ⟨0, [], by omega, by rw [HEN.out.1], ⟨rfl, World.ownsRow_nil _ _ _ _, by simp⟩, HBQ.out⟩
          case round =>
            obtain ⟨j, pvs, hj, rfl, hL, hB⟩ := hrel
            have HL : SldW (OwnLs wr w.heap.size _ (Ps.take j) pvs) := ⟨hL⟩
            have HB : SldW (Below w.heap.size w wr) := ⟨hB⟩
            have hsz := hB.size
            have hln : (Ps.take j).length = j := by simp; omega
            obtain ⟨va, vc, hv⟩ := row_form' hL.row
            rw [hln] at hv
            clear hL hB
            subst hv
            have hle := HEN.out.2.2 j hj
            by_cases hjn : j < n
            · obtain ⟨⟨g1, g2⟩, _, g4⟩ := HAT.out j hjn
              have CRj : SldW _ := ⟨CR.out j hjn wr HB.out⟩
              have HTK : SldW (Ps.take (j + 1) = Ps.take j ++ [Ps.getD j []]) := ⟨by rw [List.take_succ_eq_append_getElem (by omega)]; simp [show j < Ps.length by omega]⟩
              have HLN : SldW ((Ps.take j).length = j) := ⟨hln⟩
              obtain ⟨e0, he0⟩ : ∃ e0, enB k (Ts.take j) = e0 := ⟨_, rfl⟩
              obtain ⟨e1, he1⟩ : ∃ e1, enB k (Ts.take (j + 1)) = e1 := ⟨_, rfl⟩
              rw [he0, he1] at g4
              rw [he0] at g1 g2 CRj hle ⊢
              rw [he1] at CRj
              have t32' : (((S[e0]'g1).toNat : Nat) : Int) = 32 := byte_is g1 g2
              have HE1 : SldW (enB k (Ts.take (j + 1)) = e1 ∧ e0 < e1) := ⟨he1, by omega⟩
              generalize Ps.getD j [] = PJ at *
              clear hln he0 he1 g2 g4
              go_wp2_with fail
              refine CRj.out.mono ?_
              rintro e w2 ⟨ao2, cap2, rfl, hO2, hb2⟩
              have hL2 := HL.out.below hb2
              have hO2' := OwnN_mono hO2 hsz
              have HB2 : SldW (Below w.heap.size w w2) := ⟨HB.out.trans (hb2.mono hsz)⟩
              have hz2' := HB2.out.size
              have hrow := hL2.row
              rw [HLN.out] at hrow
              have HL2 : SldW _ := ⟨hL2⟩
              have HO2 : SldW _ := ⟨hO2'⟩
              clear hL2 hO2 hO2' CRj hb2
              go_wp2_with (at_builtin; refine wpList_append_lies _ rfl (.tmp 79) (.tmp 81) 47 rfl w.heap.size 22 i0 (.slice none 0 0) 1 24 Tryd.underlying47 hi hz0 hz1 hz2 rfl (by decide) _ _ _ rfl (hrow.alloc _) ⟨w2.heap.size, 0, none⟩ 1 1 [.slice ao2 PJ.length cap2] rfl rfl (cell_news_one _ _ _) (by simp [Value.oneCell']) (by omega) (by unfold maxLen; omega) (by omega) (by simp; omega) _ rfl ?_; intro g cap w3 hown3 hg3 hat hl3)
              refine ⟨⟨j + 1, pvs ++ [.slice ao2 PJ.length cap2], by omega, by rw [HE1.out.1], ?_, ?_⟩, ?_⟩
              · rw [HTK.out]
                refine (HL2.out.below ((Below.refl _ _).alloc (Nat.le_refl _) _)).snoc (HO2.out.below ((Below.refl _ _).alloc (Nat.le_refl _) _)) ?_ hg3
                rw [HLN.out]; exact hown3
              · exact (HB2.out.alloc hz2' _).grown hg3 (by simp; omega) (fun k hk => (own_block' hrow k hk).1)
              · have := HE1.out.2
                simp [RowKit.intOf]; omega
            · have hje : j = n := by omega
              subst hje
              have hen := HEN.out.2.1
              rw [hen]
              have hPt : Ps.take j = Ps := by rw [← hpsl, List.take_length]
              have hL := HL.out
              rw [hPt] at hL
              have CMj : SldW _ := ⟨CM.out wr w.heap.size _ pvs (HTB.out wr HB.out).spans hL⟩
              have t41' : (((S[EE]'b41).toNat : Nat) : Int) = 41 := t41
              clear hL HL hPt hen hle
              go_wp2_with fail
              refine CMj.out.mono ?_
              rintro e w2 ⟨ao2, cap2, rfl, hO2, hb2⟩
              have HO2 : SldW _ := ⟨OwnN_mono hO2 hsz⟩
              have HB2 : SldW (Below w.heap.size w w2) := ⟨HB.out.trans (hb2.mono hsz)⟩
              clear hO2 hb2
              go_wp2_with fail
              go_ret2
              exact ⟨ao2, cap2, rfl, HO2.out, HB2.out⟩
end Go.Proofs.YtdcfffcimikfeaaDoor

set_option linter.unusedSimpArgs false
set_option linter.unusedVariables false
namespace Go.Proofs.YtdcfffcimikfeaaDoor
open Go.RowKit Go.Lib

set_option maxHeartbeats 1000000 in
theorem ref5Sound_any {w : World} {ao : Option Addr} {cap : Nat} {l : List Nd} (hN : Rd w ao cap l) (hF : Fit l) :
    Calls Tryd.prog 34 #[.slice ao l.length cap] w fun e w' => e = .returned (.bool (okSh l)) ∧ Below w.heap.size w w' := by
  have c : SldW (Calls Tryd.prog 51 #[.slice ao l.length cap] w fun e w' => e = .returned (.bool (okSh l)) ∧ Below w.heap.size w w') := ⟨refSound_any hN hF⟩
  generalize okSh l = E at *
  clear hN hF
  go_enter Tryd.func34, Tryd.ntmps34
  go_wp2_with fail
  refine c.out.mono ?_
  rintro e w1 ⟨rfl, hb1⟩
  go_wp2_with fail
  go_ret
  exact ⟨rfl, hb1⟩

end Go.Proofs.YtdcfffcimikfeaaDoor
