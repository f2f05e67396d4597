/-
  An operator's word ahead of its parts, walked.
-/
import Derived.Test.YtchhogiamdefjaaDoorShMem
import Derived.Test.YtchhogiamdefjaaDoorBdW
import Derived.BigCall
set_option linter.unusedSimpArgs false
set_option linter.unusedVariables false
namespace Go.Proofs.YtchhogiamdefjaaDoor
open Go.RowKit Go.Lib

theorem add_ok (a b : ByteArray) (h : a.size + b.size ≤ 9223372036854775807) (w : World) : (Op.stringOp .add a b).run Tryd.prog w = .ok (.string (a ++ b)) w := run_string_add_sum w a b h
theorem txt_bytes (l : List UInt8) : (txt l).data.toList = l := by simp [txt]
theorem app_bytes (a b : ByteArray) : (a ++ b).data.toList = a.data.toList ++ b.data.toList := by simp
theorem szs_take (ps : List (Nd × ByteArray)) (k : Nat) (hk : k < ps.length) : szs (ps.take k) + (ps.getD k pt0).2.size ≤ szs ps := by
  unfold szs
  have e : ps = ps.take k ++ (ps.getD k pt0 :: ps.drop (k + 1)) := by
    have : ps.getD k pt0 = ps[k] := by simp [hk]
    rw [this, ← List.drop_eq_getElem_cons hk, List.take_append_drop]
  have : (ps.map fun p => p.2.size).sum = ((ps.take k ++ (ps.getD k pt0 :: ps.drop (k + 1))).map fun p => p.2.size).sum := by rw [← e]
  rw [this, List.map_append, List.sum_append, List.map_cons, List.sum_cons]
  omega
def ahB (op : Nat) (ps : List (Nd × ByteArray)) : List UInt8 := 40 :: (wrTab.getD op ([], [], 0)).2.1 ++ ps.flatMap (fun p => 32 :: p.2.data.toList)
theorem ahB_len (op : Nat) (ps : List (Nd × ByteArray)) : (ahB op ps).length ≤ szs ps + ps.length + 4 := by
  unfold ahB
  have := (wr_len op).2
  have := flat_szs ps
  simp only [List.length_append, List.length_cons] at *
  omega

set_option maxRecDepth 100000 in
set_option maxHeartbeats 2000000 in
theorem ahead_any (op : Nat) (n : Int) (nm : ByteArray) (ks : List Int) (ka : Option Addr) (kn kc : Nat) (ao : Option Addr) (cap : Nat) (ps : List (Nd × ByteArray)) (w : World) (hT : WrCells w) (ho : op < 19) (hP : Pts w ao cap ps) (hz : szs ps ≤ 1000000) (h3 : ps.length ≤ 3) :
    Calls Tryd.prog 48 #[.agg #[.int .i64 op, .int .i64 n, .string nm, .slice ka kn kc], .slice ao ps.length cap] w fun e w' => e = .returned (.string (ahdT ⟨op, n, nm, ks⟩ ps)) ∧ Below w.heap.size w w' := by
  have HR : Hid (ahdT ⟨op, n, nm, ks⟩ ps = ⟨(ahB op ps ++ [41]).toArray⟩) := by
    show ahdT ⟨op, n, nm, ks⟩ ps = _
    unfold ahdT ahB wrAt
    rw [Int.toNat_natCast]; rfl
  generalize ahdT ⟨op, n, nm, ks⟩ ps = R at *
  have d1 := (hT op ho).2.1
  have hg := World.block_lt_of_cell? w _ d1
  simp only at hg
  have hwl := (wr_len op).2
  have HB : Hid (ahB op [] = 40 :: (wrTab.getD op ([], [], 0)).2.1) := by show ahB op [] = _; simp [ahB]
  have HBk : Hid (∀ k, k < ps.length → ahB op (ps.take (k + 1)) = ahB op (ps.take k) ++ (32 :: (ps.getD k pt0).2.data.toList)) := by
    intro k hk
    unfold ahB
    rw [List.take_succ_eq_append_getElem hk, List.flatMap_append]
    simp [hk]
  generalize (wrTab.getD op ([], [], 0)).2.1 = wd at *
  have hadd := add_ok (txt [40]) (txt wd) (by rw [txt_size, txt_size]; simp; omega)
  have hadd' : ∀ W : World, (Op.stringOp .add ⟨#[40]⟩ (txt wd)).run Tryd.prog W = .ok (.string (txt [40] ++ txt wd)) W := hadd
  have hW0 : ((w.alloc (.cells #[.int .i64 op, .int .i64 n, .string nm, .slice ka kn kc] 49)).alloc (.cells #[.pointer none, .slice none 0 0] 96)).heap.size = w.heap.size + 2 := by simp
  have hI0 : IsBuilderF 96 5 (w.heap.size + 1) (w.heap.size + 1) (byteCells []) ((w.alloc (.cells #[.int .i64 op, .int .i64 n, .string nm, .slice ka kn kc] 49)).alloc (.cells #[.pointer none, .slice none 0 0] 96)) := by
    have := IsBuilderF.of (fresh_isBuilder 96 5 (w.alloc (.cells #[.int .i64 op, .int .i64 n, .string nm, .slice ka kn kc] 49)))
    simpa [byteCells] using this
  have HB0 : Hid (Below w.heap.size w ((w.alloc (.cells #[.int .i64 op, .int .i64 n, .string nm, .slice ka kn kc] 49)).alloc (.cells #[.pointer none, .slice none 0 0] 96))) := ((Below.refl _ _).alloc (Nat.le_refl _) _).alloc (by simp) _
  have cW := writeString_k (w.heap.size + 1) (w.heap.size + 1) _ (txt [40] ++ txt wd) _ hI0 (by rw [byteCells_length, app_size, txt_size, txt_size]; simp; omega) (by omega)
  have HP : Hid (Pts w ao cap ps) := hP
  have hc1 := hP.1
  have hc2 := hP.2.1
  unfold maxLen at hc2
  clear hadd hI0 hP hT
  go_enter Tryd.func48, Tryd.ntmps48
  go_wp2_with (go_at_call 68; refine cW.mono ?_; rintro e W1 ⟨rfl, k1, k2, k3⟩)
  have hs1 : w.heap.size + 2 ≤ W1.heap.size := by have := k2.size; omega
  have HB1 : Hid (Below w.heap.size w W1) := HB0.out.trans (k2.mono (by omega))
  have HK1 : Hid (IsBuilderF 96 5 (w.heap.size + 1) (w.heap.size + 1) (byteCells (ahB op (ps.take 0))) W1) := by
    have e : byteCells (ahB op (ps.take 0)) = byteCells [] ++ strCells (txt [40] ++ txt wd) := by
      rw [List.take_zero, HB.out, strCells_eq, app_bytes, txt_bytes, txt_bytes, ← byteCells_append]; rfl
    show IsBuilderF _ _ _ _ _ _
    rw [e]; exact .inr k1
  clear cW k1 k2 k3
  go_loopw [17] (fun i wr => ∃ k : Nat, k ≤ ps.length ∧ i = .int .i64 k ∧ IsBuilderF 96 5 (w.heap.size + 1) (w.heap.size + 1) (byteCells (ahB op (ps.take k))) wr ∧ Below w.heap.size w wr ∧ w.heap.size + 2 ≤ wr.heap.size) (fun i _ => ps.length - (RowKit.intOf i).toNat)
  case atStart => exact ⟨0, by omega, rfl, HK1.out, HB1.out, hs1⟩
  case round =>
    obtain ⟨k, hk, rfl, hI, hbw, hsz⟩ := hrel
    have hlen := ahB_len op (ps.take k)
    have hln : (ps.take k).length = k := by simp; omega
    by_cases hlt : k < ps.length
    · have hst := szs_take ps k hlt
      have HX := HBk.out k hlt
      obtain ⟨b, o, rfl, hbl, hpa⟩ := (HP.out.below hbw).at_ hlt
      obtain ⟨bo, hbo⟩ : ∃ p, ps.getD k pt0 = p := ⟨_, rfl⟩
      rw [hbo] at hpa hst HX
      obtain ⟨⟨yop, yn, ynm, yks⟩, ys⟩ := bo
      obtain ⟨e0, e1, e2, ⟨kka, kkn, kkc, e3⟩, e4⟩ := hpa
      simp only at e0 e1 e2 e4 hst HX
      have hadd2 : ∀ W : World, (Op.stringOp .add ⟨#[32]⟩ ys).run Tryd.prog W = .ok (.string (txt [32] ++ ys)) W := add_ok (txt [32]) ys (by rw [txt_size]; simp; omega)
      have hI2 := hI.alloc (.cells #[.int .i64 yop, .int .i64 yn, .string ynm, .slice kka kkn kkc, .string ys] 86)
      have HBW : Hid (Below w.heap.size w (wr.alloc (.cells #[.int .i64 yop, .int .i64 yn, .string ynm, .slice kka kkn kkc, .string ys] 86))) := hbw.alloc (by omega) _
      have HXX : Hid (ahB op (ps.take (k + 1)) = ahB op (ps.take k) ++ 32 :: ys.data.toList) := HX
      have cW2 := writeString_k (w.heap.size + 1) (w.heap.size + 1) _ (txt [32] ++ ys) _ hI2 (by rw [byteCells_length, app_size, txt_size]; simp; omega) (by simp; omega)
      clear hI hI2 hbw HX hbo
      go_wp2_with (go_at_call 68; refine cW2.mono ?_; rintro e W2 ⟨rfl, k1, k2, k3⟩)
      refine ⟨⟨k + 1, by omega, by go_num, ?_, HBW.out.trans (k2.mono (by omega)), by have := k2.size; simp at this; omega⟩, by simp [RowKit.intOf]; omega⟩
      have e : byteCells (ahB op (ps.take (k + 1))) = byteCells (ahB op (ps.take k)) ++ strCells (txt [32] ++ ys) := by
        rw [HXX.out, strCells_eq, app_bytes, txt_bytes, byteCells_append]; rfl
      rw [e]; exact .inr k1
    · have hke : k = ps.length := by omega
      subst hke
      rw [List.take_length] at hI hlen
      have cW3 := writeString_k (w.heap.size + 1) (w.heap.size + 1) _ (txt [41]) _ hI (by rw [byteCells_length, txt_size]; simp; omega) (by omega)
      have HBW : Hid (Below w.heap.size w wr) := hbw
      clear hI hbw
      go_wp2_with (go_at_call 68; refine cW3.mono ?_; rintro e W2 ⟨rfl, k1, k2, k3⟩)
      have hI3 : IsBuilderF 96 5 (w.heap.size + 1) (w.heap.size + 1) (byteCells (ahB op ps ++ [41])) W2 := by
        have e : byteCells (ahB op ps ++ [41]) = byteCells (ahB op ps) ++ strCells (txt [41]) := by rw [byteCells_append, strCells_eq, txt_bytes]
        rw [e]; exact .inr k1
      have cS := Tryd.Builder_String_any_k (w.heap.size + 1) (w.heap.size + 1) (ahB op ps ++ [41]) W2 hI3 (by have := k2.size; omega)
      clear hI3 k1 cW3
      go_wp2_with (go_at_call 69; refine cS.mono ?_; rintro e W3 ⟨rfl, _, q2, _⟩)
      go_ret
      exact ⟨by rw [HR.out] <;> rfl, (HBW.out.trans (k2.mono (by omega))).trans (q2.mono (by omega))⟩
end Go.Proofs.YtchhogiamdefjaaDoor
