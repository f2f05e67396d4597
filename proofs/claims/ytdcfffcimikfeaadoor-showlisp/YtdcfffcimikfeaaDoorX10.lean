/-
  BrkW, BdW, AhW.
-/
import Derived.Shelf.Unicode.DecodeSlow
import Derived.Laws.RangeAny
import Derived.Shelf.Strings.Builder1
import Derived.Shelf.Small.Utf8
import Derived.Shelf.Small.Bits
import Derived.Shelf.Strings.BuilderF
import Derived.Shelf.Strings.BuilderK
import Derived.Shelf.Strings.BuilderRune
import Derived.Shelf.Utf8.AppendRune
import Derived.Shelf.Strconv.Itoa0
import Derived.Shelf.Strconv.Itoa1
import Derived.Shelf.LaysM
import Derived.Shelf.Strconv.Itoa2
import Derived.Shelf.Strconv.Itoa3
import Derived.Shelf.Strconv.Itoa4
import Derived.Shelf.Strings.Prefix
import Derived.Shelf.Unicode.DecodeAny
import Derived.Shelf.Slices.CompactS
import Derived.Ground.SlsfProg
import Derived.Shelf.SlSortCmp.Insertion
import Derived.Shelf.SlSortCmp.SiftDown1
import Derived.Shelf.SlSortCmp.HeapSort1
import Derived.Shelf.SlSortCmp.Insertion1
import Derived.Shelf.SlSortCmp.Median1
import Derived.Shelf.SlSortCmp.Pivot1
import Derived.Shelf.SlSortCmp.ReverseRange1
import Derived.Shelf.SlSortCmp.PartialInsertion1
import Derived.Shelf.SlSortCmp.PartitionEqual1
import Derived.Shelf.SlSortCmp.Partition1
import Derived.Shelf.SlSortCmp.Pdq1
import Derived.Shelf.SlSortCmp.Whole1
import Derived.Test.YtdcfffcimikfeaaDoorProg
import Derived.WalkKit
import Derived.Deep.DeepFit
import Derived.Lib.OthersKept
import Derived.Lib.RuneCountTail
import Derived.Lib.MapLaws
import Derived.Sort.Walk0
import Derived.Laws.DeepStrings4
import Derived.Lib.ItoaNum
import Derived.Deep.AppendLies
import Derived.Deep.OwnRows
import Derived.Laws.AppendOwnNone
import Derived.Deep.QuietTactic
import Derived.BigQuiet
import Derived.Deep.RegionWith
import Derived.BigCall
import Derived.Test.YtdcfffcimikfeaaDoorX01
import Derived.Test.YtdcfffcimikfeaaDoorX02
import Derived.Test.YtdcfffcimikfeaaDoorX03
import Derived.Test.YtdcfffcimikfeaaDoorX04
import Derived.Test.YtdcfffcimikfeaaDoorX05
import Derived.Test.YtdcfffcimikfeaaDoorX06
import Derived.Test.YtdcfffcimikfeaaDoorX07
import Derived.Test.YtdcfffcimikfeaaDoorX08
import Derived.Test.YtdcfffcimikfeaaDoorX09
set_option linter.unusedSimpArgs false
set_option linter.unusedVariables false
namespace Go.Proofs.YtdcfffcimikfeaaDoor
open Go.RowKit Go.Lib

theorem rk_nat (k : Nat) : rkT (k : Int) = (wrTab.getD k ([], [], 0)).2.2 := by unfold rkT wrAt; rw [Int.toNat_natCast]

set_option maxRecDepth 20000 in
set_option maxHeartbeats 2000000 in
theorem brk_any (op q place : Nat) (n : Int) (nm : ByteArray) (ks : List Int) (ka : Option Addr) (kn kc : Nat) (w : World) (hT : WrCells w) (ho : op < 19) (hq : q < 19) :
    Calls Tryd.prog 104 #[.int .i64 op, .int .i64 place, .agg #[.int .i64 q, .int .i64 n, .string nm, .slice ka kn kc] ] w fun e w' => e = .returned (.bool (brkB op place ⟨q, n, nm, ks⟩)) ∧ Below w.heap.size w w' := by
  have d1 := (hT op ho).2.2
  have d2 := (hT q hq).2.2
  have hg := World.block_lt_of_cell? w _ d1
  simp only at hg
  obtain ⟨a, ha⟩ : ∃ a, (wrTab.getD op ([], [], 0)).2.2 = a := ⟨_, rfl⟩
  obtain ⟨b, hb⟩ : ∃ b, (wrTab.getD q ([], [], 0)).2.2 = b := ⟨_, rfl⟩
  rw [ha] at d1
  rw [hb] at d2
  obtain ⟨R, hR⟩ : ∃ R, brkB op place ⟨q, n, nm, ks⟩ = R := ⟨_, rfl⟩
  have HR : Hid (R = if (op : Int) = 17 then decide (place = 0) && decide (b = a) else if (op : Int) = 15 ∨ (op : Int) = 16 then decide (b ≤ a) else if (op : Int) = 3 ∧ (q : Int) = 1 then decide (0 ≤ n) else if place = 0 then decide (b < a) else decide (b ≤ a)) := by
    show R = _
    rw [← hR, ← ha, ← hb, ← rk_nat, ← rk_nat]; rfl
  rw [hR]
  clear hR ha hb hT
  have hW : Below w.heap.size w (w.alloc (.cells #[.int .i64 q, .int .i64 n, .string nm, .slice ka kn kc] 62)) := (Below.refl _ _).alloc (Nat.le_refl _) _
  have HW : Hid (Below w.heap.size w (w.alloc (.cells #[.int .i64 q, .int .i64 n, .string nm, .slice ka kn kc] 62))) := hW
  clear hW
  by_cases h17 : op = 17
  · subst h17
    by_cases hp : place = 0
    · subst hp
      have HR2 : Hid (R = decide (b = a)) := by show R = _; rw [HR.out]; simp
      clear HR
      go_enter Tryd.func104, Tryd.ntmps104
      go_wp2_with fail
      go_quiet (fail)
      go_wp2_with fail
      go_ret
      exact ⟨by rw [HR2.out] <;> rfl, below_drewN' HW.out _⟩
    · have HR2 : Hid (R = false) := by show R = _; rw [HR.out]; simp [hp]
      have gp : ((place : Int) == 0) = false := by rw [beq_eq_false_iff_ne]; omega
      clear HR
      go_enter Tryd.func104, Tryd.ntmps104
      go_wp2_with fail
      go_quiet (fail)
      go_wp2_with fail
      go_ret
      exact ⟨by rw [HR2.out] <;> rfl, below_drewN' HW.out _⟩
  · have g17 : ((op : Int) == 17) = false := by rw [beq_eq_false_iff_ne]; omega
    by_cases h15 : op = 15
    · subst h15
      have HR2 : Hid (R = decide (b ≤ a)) := by show R = _; rw [HR.out]; simp
      clear HR
      go_enter Tryd.func104, Tryd.ntmps104
      go_wp2_with fail
      go_quiet (fail)
      go_wp2_with fail
      go_ret
      exact ⟨by rw [HR2.out] <;> rfl, below_drewN' HW.out _⟩
    · have g15 : ((op : Int) == 15) = false := by rw [beq_eq_false_iff_ne]; omega
      by_cases h16 : op = 16
      · subst h16
        have HR2 : Hid (R = decide (b ≤ a)) := by show R = _; rw [HR.out]; simp
        clear HR
        go_enter Tryd.func104, Tryd.ntmps104
        go_wp2_with fail
        go_quiet (fail)
        go_wp2_with fail
        go_ret
        exact ⟨by rw [HR2.out] <;> rfl, below_drewN' HW.out _⟩
      · have g16 : ((op : Int) == 16) = false := by rw [beq_eq_false_iff_ne]; omega
        by_cases hl : op = 3 ∧ q = 1
        · obtain ⟨rfl, rfl⟩ := hl
          have HR2 : Hid (R = decide (0 ≤ n)) := by show R = _; rw [HR.out]; simp
          clear HR
          go_enter Tryd.func104, Tryd.ntmps104
          go_wp2_with fail
          go_quiet (fail)
          go_wp2_with fail
          go_ret
          exact ⟨by rw [HR2.out] <;> rfl, below_drewN' HW.out _⟩
        · have HR3 : Hid (R = if place = 0 then decide (b < a) else decide (b ≤ a)) := by
            show R = _
            rw [HR.out, if_neg (by omega), if_neg (by omega), if_neg (by omega)]
          clear HR
          have fin : ∀ z : Bool, z = (if place = 0 then decide (b < a) else decide (b ≤ a)) → z = R := fun z hz => by rw [HR3.out, hz]
          have FIN : Hid (∀ z : Bool, z = (if place = 0 then decide (b < a) else decide (b ≤ a)) → z = R) := fin
          clear fin HR3
          by_cases h3 : op = 3
          · subst h3
            have gq : ((q : Int) == 1) = false := by rw [beq_eq_false_iff_ne]; omega
            by_cases hp : place = 0
            · subst hp
              go_enter Tryd.func104, Tryd.ntmps104
              go_wp2_with fail
              go_quiet (fail)
              go_wp2_with fail
              go_ret
              exact ⟨by rw [← FIN.out (decide (b < a)) (by simp)] <;> rfl, below_drewN' HW.out _⟩
            · have gp : ((place : Int) == 0) = false := by rw [beq_eq_false_iff_ne]; omega
              go_enter Tryd.func104, Tryd.ntmps104
              go_wp2_with fail
              go_quiet (fail)
              go_wp2_with fail
              go_ret
              exact ⟨by rw [← FIN.out (decide (b ≤ a)) (by simp [hp])] <;> rfl, below_drewN' HW.out _⟩
          · have g3 : ((op : Int) == 3) = false := by rw [beq_eq_false_iff_ne]; omega
            by_cases hp : place = 0
            · subst hp
              go_enter Tryd.func104, Tryd.ntmps104
              go_wp2_with fail
              go_quiet (fail)
              go_wp2_with fail
              go_ret
              exact ⟨by rw [← FIN.out (decide (b < a)) (by simp)] <;> rfl, below_drewN' HW.out _⟩
            · have gp : ((place : Int) == 0) = false := by rw [beq_eq_false_iff_ne]; omega
              go_enter Tryd.func104, Tryd.ntmps104
              go_wp2_with fail
              go_quiet (fail)
              go_wp2_with fail
              go_ret
              exact ⟨by rw [← FIN.out (decide (b ≤ a)) (by simp [hp])] <;> rfl, below_drewN' HW.out _⟩
end Go.Proofs.YtdcfffcimikfeaaDoor

set_option linter.unusedSimpArgs false
set_option linter.unusedVariables false
namespace Go.Proofs.YtdcfffcimikfeaaDoor
open Go.RowKit Go.Lib Go.Proofs

theorem szBuilder : (Tryd.prog.info? 150).map (·.size) = some 2 := by kernel_rfl
theorem lsBuilder : liesAt Tryd.prog Tryd.prog.depth 150 (2 / Tryd.prog.cellsOf 150) 0 150 1 = true := by kernel_rfl
theorem infoByte : (Tryd.prog.info? 5).map (fun i => (i.zero, i.size, i.bytes)) = some (some (.int .u8 0), 1, 1) := by kernel_rfl

set_option maxHeartbeats 1000000 in
set_option maxRecDepth 100000 in
theorem copyCheck_used (b : Nat) (w : World) (h0 : w.cell? ⟨b, 0, none⟩ = some (.pointer (some ⟨b, 0, none⟩))) :
    Calls Tryd.prog 139 #[.pointer (some ⟨b, 0, none⟩)] w fun e w' => e = .returned (.tuple #[]) ∧ w' = w := by
  obtain ⟨j, hj, _⟩ := Option.map_eq_some_iff.1 szBuilder
  have hne := run_neq_ptr_same (P := Tryd.prog) w (⟨b, 0, none⟩ : Addr) Tryd.underlying148 hj
  go_enter Tryd.func139, Tryd.ntmps139
  go_wp2
  go_end0
  exact ⟨rfl, rfl⟩

set_option maxHeartbeats 1000000 in
set_option maxRecDepth 100000 in
theorem copyCheck_fresh (b : Nat) (w : World) (h0 : w.cell? ⟨b, 0, none⟩ = some (.pointer none)) (hsh : w.shape? b = some (150, 2)) (hfz : w.frozen? ⟨b, 0, none⟩ = false) :
    Calls Tryd.prog 139 #[.pointer (some ⟨b, 0, none⟩)] w fun e w' => e = .returned (.tuple #[]) ∧ w' = w.setCell ⟨b, 0, none⟩ (.pointer (some ⟨b, 0, none⟩)) := by
  obtain ⟨j, hj, hjs⟩ := Option.map_eq_some_iff.1 szBuilder
  go_enter Tryd.func139, Tryd.ntmps139
  go_wp2
  rw [run_to_unsafe w ⟨b, 0, none⟩ Tryd.underlying148 Tryd.underlying199 hj (by rw [hjs]; decide) hsh (Nat.zero_lt_succ 1)]
  simp only [Result.andThen]
  rw [Oper.upon_value]
  go_wp2
  rw [run_callFunc_extern Tryd.func156 (by kernel_rfl) (by kernel_rfl) (by kernel_rfl) (e := Extern.AbiNoEscape.same) (by kernel_rfl)]
  rw [run_noEscape]
  simp only [Result.andThen]
  rw [Oper.upon_value]
  go_wp2
  rw [run_from_unsafe w ⟨b, 0, none⟩ Tryd.underlying199 Tryd.underlying148 hj hsh lsBuilder]
  simp only [Result.andThen]
  rw [Oper.upon_value]
  go_wp2
  go_end0
  exact ⟨rfl, rfl⟩

theorem copyCheck_k (B b : Nat) (bs : List Value) (w : World) (h : IsBuilderF 150 5 B b bs w) :
    Calls Tryd.prog 139 #[.pointer (some ⟨b, 0, none⟩)] w fun e w' => e = .returned (.tuple #[]) ∧ (BuilderAtF 150 5 B b (.pointer (some ⟨b, 0, none⟩)) bs w' ∧ Below B w w' ∧ OthersKept 5 (some b) w w') := by
  rcases h with h | h
  · refine (copyCheck_fresh b w h.cell0 h.shape h.frozen0).mono ?_
    rintro e w' ⟨rfl, rfl⟩
    exact ⟨rfl, h.used _, (Below.refl B w).setCell (p := ⟨b, 0, none⟩) h.1 _, (OthersKept.refl _ _ w).setCell ⟨b, 0, none⟩ rfl _⟩
  · refine (copyCheck_used b w h.cell0).mono ?_
    rintro e w' ⟨rfl, rfl⟩
    exact ⟨rfl, h, Below.refl B _, OthersKept.refl _ _ _⟩

set_option maxHeartbeats 2000000 in
set_option maxRecDepth 100000 in
theorem writeString_k (B b : Nat) (bs : List Value) (s : ByteArray) (w : World) (h : IsBuilderF 150 5 B b bs w) (hlen : bs.length + s.size ≤ 140737488355328) (hBw : B ≤ w.heap.size) :
    Calls Tryd.prog 105 #[.pointer (some ⟨b, 0, none⟩), .string s] w fun e w' => e = .returned (.tuple #[.int .i64 s.size, .nilIface]) ∧ (BuilderAtF 150 5 B b (.pointer (some ⟨b, 0, none⟩)) (bs ++ strCells s) w' ∧ Below B w w' ∧ OthersKept 5 (some b) w w') := by
  obtain ⟨i0, hi, hz0, hz1, hz2⟩ := info_parts infoByte
  go_enter Tryd.func105, Tryd.ntmps105
  go_wp2_with (go_at_call 139; refine (copyCheck_k B b bs _ h).mono ?_)
  rintro e w1 ⟨rfl, h1, hb1, hk1⟩
  obtain ⟨hB, v, hbk, hown, hne⟩ := h1
  have c0 : w1.cell? ⟨b, 0, none⟩ = some (.pointer (some ⟨b, 0, none⟩)) := by rw [cell_of_heap hbk]; rfl
  have c1 : w1.cell? ⟨b, 1, none⟩ = some v := by rw [cell_of_heap hbk]; rfl
  go_wp2_with (at_builtin; refine wpList_append_own_stringF _ rfl _ _ 44 9 rfl B 5 i0 Tryd.underlying44 Tryd.underlying9 hi hz0 hz1 hz2 _ _ _ rfl hown s rfl ?c3 ?c4 ?c5 ?_)
  case c3 => unfold maxLen; omega
  case c4 => omega
  case c5 => have := hb1.size; omega
  intro v' w2 hown' hgrow _
  have hlt : b < w1.heap.size := by
    rcases Nat.lt_or_ge b w1.heap.size with h' | h'
    · exact h'
    · simp [Array.getElem?_eq_none h'] at hbk
  have hb2 : w2.heap[b]? = some (.cells #[.pointer (some ⟨b, 0, none⟩), v] 150 (0, 0)) := by
    rw [hgrow.block b hlt (fun e => hne e.symm)]
    exact hbk
  have d0 : w2.cell? ⟨b, 0, none⟩ = some (.pointer (some ⟨b, 0, none⟩)) := by rw [cell_of_heap hb2]; rfl
  have d1 : w2.cell? ⟨b, 1, none⟩ = some v := by rw [cell_of_heap hb2]; rfl
  have f1 : w2.frozen? ⟨b, 1, none⟩ = false := frozen_of_heap hb2 1
  obtain ⟨ao, n', cap, rfl⟩ : ∃ ao n' cap, v' = .slice ao n' cap := by
    rcases hown'.2 with ⟨hv, _⟩ | ⟨g, cap, cur, fz, hv, _⟩
    · exact ⟨_, _, _, hv⟩
    · exact ⟨_, _, _, hv⟩
  go_wp2
  go_ret2
  refine ⟨rfl, ?_, ?_, (hk1.grown hgrow (ownsRowF_kind hown)).setCell ⟨b, 1, none⟩ rfl _⟩
  · exact BuilderAtF.put (T := 150) (e := 5) hB hb2 (bs' := bs ++ strCells s) (by simpa [strCells_length] using hown') (by decide)
  · exact (hb1.grown hgrow (by have := hb1.size; omega) (fun k hk => (hown.lt k hk).1)).setCell (p := ⟨b, 1, none⟩) hB _

set_option maxHeartbeats 4000000 in
set_option maxRecDepth 100000 in
theorem writeRune_k (B b : Nat) (bs : List Value) (r : Int) (hr0 : -2147483648 ≤ r) (hr1 : r ≤ 2147483647) (w : World) (h : IsBuilderF 150 5 B b bs w) (hlen : bs.length + 4 ≤ 140737488355328) (hBw : B ≤ w.heap.size) :
    Calls Tryd.prog 138 #[.pointer (some ⟨b, 0, none⟩), .int .i32 r] w fun e w' => e = .returned (.tuple #[.int .i64 (runeCells r).length, .nilIface]) ∧ (BuilderAtF 150 5 B b (.pointer (some ⟨b, 0, none⟩)) (bs ++ runeCells r) w' ∧ Below B w w' ∧ OthersKept 5 (some b) w w') := by
  have hk4 := runeCells_le r
  go_enter Tryd.func138, Tryd.ntmps138
  go_wp2_with (go_at_call 139; refine (copyCheck_k B b bs _ h).mono ?_)
  rintro e w1 ⟨rfl, h1, hb1, hk1⟩
  obtain ⟨hB, v, hbk, hown, hne⟩ := h1
  obtain ⟨ao, cap, rfl⟩ : ∃ ao cap, v = .slice ao bs.length cap := by
    rcases hown.2 with ⟨hv, h0⟩ | ⟨g, cap, cur, fz, hv, _⟩
    · exact ⟨none, 0, by rw [hv, h0]⟩
    · exact ⟨_, _, hv⟩
  have c0 : w1.cell? ⟨b, 0, none⟩ = some (.pointer (some ⟨b, 0, none⟩)) := by rw [cell_of_heap hbk]; rfl
  have c1 : w1.cell? ⟨b, 1, none⟩ = some (.slice ao bs.length cap) := by rw [cell_of_heap hbk]; rfl
  have hcall := Tryd.utf8_AppendRune_row B (.slice ao bs.length cap) bs.length bs r hr0 hr1 w1 hown hlen (by have := hb1.size; omega)
  go_wp2_with (go_at_call 155; refine hcall.mono ?_)
  rintro e w2 ⟨v', rfl, hown', o, hgrow⟩
  have hlt : b < w1.heap.size := by
    rcases Nat.lt_or_ge b w1.heap.size with h' | h'
    · exact h'
    · simp [Array.getElem?_eq_none h'] at hbk
  have hb2 : w2.heap[b]? = some (.cells #[.pointer (some ⟨b, 0, none⟩), .slice ao bs.length cap] 150 (0, 0)) := by
    rw [hgrow.block b (by simp; omega) (fun e => hne e.symm), alloc_old w1 _ b hlt]
    exact hbk
  have d0 : w2.cell? ⟨b, 0, none⟩ = some (.pointer (some ⟨b, 0, none⟩)) := by rw [cell_of_heap hb2]; rfl
  have d1 : w2.cell? ⟨b, 1, none⟩ = some (.slice ao bs.length cap) := by rw [cell_of_heap hb2]; rfl
  have f1 : w2.frozen? ⟨b, 1, none⟩ = false := frozen_of_heap hb2 1
  obtain ⟨g, cap', rfl⟩ : ∃ g cap', v' = .slice (some ⟨g, 0, none⟩) (bs.length + (runeCells r).length) cap' := by
    rcases hown'.2 with ⟨_, h0⟩ | ⟨g, cap', cur, fz, hv, _⟩
    · omega
    · exact ⟨g, cap', hv⟩
  clear hcall
  go_wp2
  go_ret2
  refine ⟨?_, ?_, ?_, ((hk1.alloc _).grown hgrow (ownsRowF_kind (hown.alloc _))).setCell ⟨b, 1, none⟩ rfl _⟩
  · have e : ((bs.length : Int) + ((runeCells r).length : Int) - (bs.length : Int)) = ((runeCells r).length : Int) := by omega
    simp [e]
  · exact BuilderAtF.put (T := 150) (e := 5) hB hb2 (bs' := bs ++ runeCells r) (by simpa using hown') (by decide)
  · exact ((hb1.alloc (by have := hb1.size; omega) _).grown hgrow (by have := hb1.size; simp; omega) (fun k hk => (hown.lt k hk).1)).setCell (p := ⟨b, 1, none⟩) hB _
end Go.Proofs.YtdcfffcimikfeaaDoor

set_option linter.unusedSimpArgs false
set_option linter.unusedVariables false
namespace Go.Proofs.YtdcfffcimikfeaaDoor
open Go.RowKit Go.Lib

theorem add_ok (a b : ByteArray) (h : a.size + b.size ≤ 9223372036854775807) (w : World) : (Op.stringOp .add a b).run Tryd.prog w = .ok (.string (a ++ b)) w := run_string_add_sum w a b h
theorem txt_bytes (l : List UInt8) : (txt l).data.toList = l := by simp [txt]
theorem app_bytes (a b : ByteArray) : (a ++ b).data.toList = a.data.toList ++ b.data.toList := by simp
theorem szs_take (ps : List (Nd × ByteArray)) (k : Nat) (hk : k < ps.length) : szs (ps.take k) + (ps.getD k pt0).2.size ≤ szs ps := by
  unfold szs
  have e : ps = ps.take k ++ (ps.getD k pt0 :: ps.drop (k + 1)) := by
    have : ps.getD k pt0 = ps[k] := by simp [hk]
    rw [this, ← List.drop_eq_getElem_cons hk, List.take_append_drop]
  have : (ps.map fun p => p.2.size).sum = ((ps.take k ++ (ps.getD k pt0 :: ps.drop (k + 1))).map fun p => p.2.size).sum := by rw [← e]
  rw [this, List.map_append, List.sum_append, List.map_cons, List.sum_cons]
  omega
def ahB (op : Nat) (ps : List (Nd × ByteArray)) : List UInt8 := 40 :: (wrTab.getD op ([], [], 0)).2.1 ++ ps.flatMap (fun p => 32 :: p.2.data.toList)
theorem ahB_len (op : Nat) (ps : List (Nd × ByteArray)) : (ahB op ps).length ≤ szs ps + ps.length + 4 := by
  unfold ahB
  have := (wr_len op).2
  have := flat_szs ps
  simp only [List.length_append, List.length_cons] at *
  omega

set_option maxRecDepth 100000 in
set_option maxHeartbeats 2000000 in
theorem ahead_any (op : Nat) (n : Int) (nm : ByteArray) (ks : List Int) (ka : Option Addr) (kn kc : Nat) (ao : Option Addr) (cap : Nat) (ps : List (Nd × ByteArray)) (w : World) (hT : WrCells w) (ho : op < 19) (hP : Pts w ao cap ps) (hz : szs ps ≤ 1000000) (h3 : ps.length ≤ 3) :
    Calls Tryd.prog 69 #[.agg #[.int .i64 op, .int .i64 n, .string nm, .slice ka kn kc], .slice ao ps.length cap] w fun e w' => e = .returned (.string (ahdT ⟨op, n, nm, ks⟩ ps)) ∧ Below w.heap.size w w' := by
  have HR : Hid (ahdT ⟨op, n, nm, ks⟩ ps = ⟨(ahB op ps ++ [41]).toArray⟩) := by
    show ahdT ⟨op, n, nm, ks⟩ ps = _
    unfold ahdT ahB wrAt
    rw [Int.toNat_natCast]; rfl
  generalize ahdT ⟨op, n, nm, ks⟩ ps = R at *
  have d1 := (hT op ho).2.1
  have hg := World.block_lt_of_cell? w _ d1
  simp only at hg
  have hwl := (wr_len op).2
  have HB : Hid (ahB op [] = 40 :: (wrTab.getD op ([], [], 0)).2.1) := by show ahB op [] = _; simp [ahB]
  have HBk : Hid (∀ k, k < ps.length → ahB op (ps.take (k + 1)) = ahB op (ps.take k) ++ (32 :: (ps.getD k pt0).2.data.toList)) := by
    intro k hk
    unfold ahB
    rw [List.take_succ_eq_append_getElem hk, List.flatMap_append]
    simp [hk]
  generalize (wrTab.getD op ([], [], 0)).2.1 = wd at *
  have hadd := add_ok (txt [40]) (txt wd) (by rw [txt_size, txt_size]; simp; omega)
  have hadd' : ∀ W : World, (Op.stringOp .add ⟨#[40]⟩ (txt wd)).run Tryd.prog W = .ok (.string (txt [40] ++ txt wd)) W := hadd
  have hW0 : ((w.alloc (.cells #[.int .i64 op, .int .i64 n, .string nm, .slice ka kn kc] 62)).alloc (.cells #[.pointer none, .slice none 0 0] 150)).heap.size = w.heap.size + 2 := by simp
  have hI0 : IsBuilderF 150 5 (w.heap.size + 1) (w.heap.size + 1) (byteCells []) ((w.alloc (.cells #[.int .i64 op, .int .i64 n, .string nm, .slice ka kn kc] 62)).alloc (.cells #[.pointer none, .slice none 0 0] 150)) := by
    have := IsBuilderF.of (fresh_isBuilder 150 5 (w.alloc (.cells #[.int .i64 op, .int .i64 n, .string nm, .slice ka kn kc] 62)))
    simpa [byteCells] using this
  have HB0 : Hid (Below w.heap.size w ((w.alloc (.cells #[.int .i64 op, .int .i64 n, .string nm, .slice ka kn kc] 62)).alloc (.cells #[.pointer none, .slice none 0 0] 150))) := ((Below.refl _ _).alloc (Nat.le_refl _) _).alloc (by simp) _
  have cW := writeString_k (w.heap.size + 1) (w.heap.size + 1) _ (txt [40] ++ txt wd) _ hI0 (by rw [byteCells_length, app_size, txt_size, txt_size]; simp; omega) (by omega)
  have HP : Hid (Pts w ao cap ps) := hP
  have hc1 := hP.1
  have hc2 := hP.2.1
  unfold maxLen at hc2
  clear hadd hI0 hP hT
  go_enter Tryd.func69, Tryd.ntmps69
  go_wp2_with (go_at_call 105; refine cW.mono ?_; rintro e W1 ⟨rfl, k1, k2, k3⟩)
  have hs1 : w.heap.size + 2 ≤ W1.heap.size := by have := k2.size; omega
  have HB1 : Hid (Below w.heap.size w W1) := HB0.out.trans (k2.mono (by omega))
  have HK1 : Hid (IsBuilderF 150 5 (w.heap.size + 1) (w.heap.size + 1) (byteCells (ahB op (ps.take 0))) W1) := by
    have e : byteCells (ahB op (ps.take 0)) = byteCells [] ++ strCells (txt [40] ++ txt wd) := by
      rw [List.take_zero, HB.out, strCells_eq, app_bytes, txt_bytes, txt_bytes, ← byteCells_append]; rfl
    show IsBuilderF _ _ _ _ _ _
    rw [e]; exact .inr k1
  clear cW k1 k2 k3
  go_loopw [17] (fun i wr => ∃ k : Nat, k ≤ ps.length ∧ i = .int .i64 k ∧ IsBuilderF 150 5 (w.heap.size + 1) (w.heap.size + 1) (byteCells (ahB op (ps.take k))) wr ∧ Below w.heap.size w wr ∧ w.heap.size + 2 ≤ wr.heap.size) (fun i _ => ps.length - (RowKit.intOf i).toNat)
  case atStart => exact ⟨0, by omega, rfl, HK1.out, HB1.out, hs1⟩
  case round =>
    obtain ⟨k, hk, rfl, hI, hbw, hsz⟩ := hrel
    have hlen := ahB_len op (ps.take k)
    have hln : (ps.take k).length = k := by simp; omega
    by_cases hlt : k < ps.length
    · have hst := szs_take ps k hlt
      have HX := HBk.out k hlt
      obtain ⟨b, o, rfl, hbl, hpa⟩ := (HP.out.below hbw).at_ hlt
      obtain ⟨bo, hbo⟩ : ∃ p, ps.getD k pt0 = p := ⟨_, rfl⟩
      rw [hbo] at hpa hst HX
      obtain ⟨⟨yop, yn, ynm, yks⟩, ys⟩ := bo
      obtain ⟨e0, e1, e2, ⟨kka, kkn, kkc, e3⟩, e4⟩ := hpa
      simp only at e0 e1 e2 e4 hst HX
      have hadd2 : ∀ W : World, (Op.stringOp .add ⟨#[32]⟩ ys).run Tryd.prog W = .ok (.string (txt [32] ++ ys)) W := add_ok (txt [32]) ys (by rw [txt_size]; simp; omega)
      have hI2 := hI.alloc (.cells #[.int .i64 yop, .int .i64 yn, .string ynm, .slice kka kkn kkc, .string ys] 143)
      have HBW : Hid (Below w.heap.size w (wr.alloc (.cells #[.int .i64 yop, .int .i64 yn, .string ynm, .slice kka kkn kkc, .string ys] 143))) := hbw.alloc (by omega) _
      have HXX : Hid (ahB op (ps.take (k + 1)) = ahB op (ps.take k) ++ 32 :: ys.data.toList) := HX
      have cW2 := writeString_k (w.heap.size + 1) (w.heap.size + 1) _ (txt [32] ++ ys) _ hI2 (by rw [byteCells_length, app_size, txt_size]; simp; omega) (by simp; omega)
      clear hI hI2 hbw HX hbo
      go_wp2_with (go_at_call 105; refine cW2.mono ?_; rintro e W2 ⟨rfl, k1, k2, k3⟩)
      refine ⟨⟨k + 1, by omega, by go_num, ?_, HBW.out.trans (k2.mono (by omega)), by have := k2.size; simp at this; omega⟩, by simp [RowKit.intOf]; omega⟩
      have e : byteCells (ahB op (ps.take (k + 1))) = byteCells (ahB op (ps.take k)) ++ strCells (txt [32] ++ ys) := by
        rw [HXX.out, strCells_eq, app_bytes, txt_bytes, byteCells_append]; rfl
      rw [e]; exact .inr k1
    · have hke : k = ps.length := by omega
      subst hke
      rw [List.take_length] at hI hlen
      have cW3 := writeString_k (w.heap.size + 1) (w.heap.size + 1) _ (txt [41]) _ hI (by rw [byteCells_length, txt_size]; simp; omega) (by omega)
      have HBW : Hid (Below w.heap.size w wr) := hbw
      clear hI hbw
      go_wp2_with (go_at_call 105; refine cW3.mono ?_; rintro e W2 ⟨rfl, k1, k2, k3⟩)
      have hI3 : IsBuilderF 150 5 (w.heap.size + 1) (w.heap.size + 1) (byteCells (ahB op ps ++ [41])) W2 := by
        have e : byteCells (ahB op ps ++ [41]) = byteCells (ahB op ps) ++ strCells (txt [41]) := by rw [byteCells_append, strCells_eq, txt_bytes]
        rw [e]; exact .inr k1
      have cS := Tryd.Builder_String_any_k (w.heap.size + 1) (w.heap.size + 1) (ahB op ps ++ [41]) W2 hI3 (by have := k2.size; omega)
      clear hI3 k1 cW3
      go_wp2_with (go_at_call 106; refine cS.mono ?_; rintro e W3 ⟨rfl, _, q2, _⟩)
      go_ret
      exact ⟨by rw [HR.out] <;> rfl, (HBW.out.trans (k2.mono (by omega))).trans (q2.mono (by omega))⟩
end Go.Proofs.YtdcfffcimikfeaaDoor
