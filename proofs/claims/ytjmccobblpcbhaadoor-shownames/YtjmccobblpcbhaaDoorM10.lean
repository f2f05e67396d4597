/-
  BrkW, BdW, AhW, BtW.
-/
import Derived.Shelf.Unicode.DecodeSlow
import Derived.Laws.RangeAny
import Derived.Shelf.Strings.Builder1
import Derived.Shelf.Small.Utf8
import Derived.Shelf.Small.Bits
import Derived.Shelf.Strings.BuilderF
import Derived.Shelf.Strings.BuilderK
import Derived.Shelf.Strings.BuilderRune
import Derived.Shelf.Utf8.AppendRune
import Derived.Shelf.Strconv.Itoa0
import Derived.Shelf.Strconv.Itoa1
import Derived.Shelf.LaysM
import Derived.Shelf.Strconv.Itoa2
import Derived.Shelf.Strconv.Itoa3
import Derived.Shelf.Strconv.Itoa4
import Derived.Shelf.Strings.Prefix
import Derived.Shelf.Unicode.DecodeAny
import Derived.Test.YtjmccobblpcbhaaDoorProg
import Derived.WalkKit
import Derived.Deep.DeepFit
import Derived.Lib.OthersKept
import Derived.Lib.RuneCountTail
import Derived.Lib.MapLaws
import Derived.Sort.Walk0
import Derived.Laws.DeepStrings4
import Derived.Lib.ItoaNum
import Derived.Deep.AppendLies
import Derived.Deep.OwnRows
import Derived.Laws.AppendOwnNone
import Derived.Deep.QuietTactic
import Derived.BigQuiet
import Derived.Deep.RegionWith
import Derived.BigCall
import Derived.Test.YtjmccobblpcbhaaDoorM01
import Derived.Test.YtjmccobblpcbhaaDoorM02
import Derived.Test.YtjmccobblpcbhaaDoorM03
import Derived.Test.YtjmccobblpcbhaaDoorM04
import Derived.Test.YtjmccobblpcbhaaDoorM05
import Derived.Test.YtjmccobblpcbhaaDoorM06
import Derived.Test.YtjmccobblpcbhaaDoorM07
import Derived.Test.YtjmccobblpcbhaaDoorM08
import Derived.Test.YtjmccobblpcbhaaDoorM09
set_option linter.unusedSimpArgs false
set_option linter.unusedVariables false
namespace Go.Proofs.YtjmccobblpcbhaaDoor
open Go.RowKit Go.Lib

theorem rk_nat (k : Nat) : rkT (k : Int) = (wrTab.getD k ([], [], 0)).2.2 := by unfold rkT wrAt; rw [Int.toNat_natCast]

set_option maxRecDepth 20000 in
set_option maxHeartbeats 2000000 in
theorem brk_any (op q place : Nat) (n : Int) (nm : ByteArray) (ks : List Int) (ka : Option Addr) (kn kc : Nat) (w : World) (hT : WrCells w) (ho : op < 19) (hq : q < 19) :
    Calls Tryd.prog 103 #[.int .i64 op, .int .i64 place, .agg #[.int .i64 q, .int .i64 n, .string nm, .slice ka kn kc] ] w fun e w' => e = .returned (.bool (brkB op place ⟨q, n, nm, ks⟩)) ∧ Below w.heap.size w w' := by
  have d1 := (hT op ho).2.2
  have d2 := (hT q hq).2.2
  have hg := World.block_lt_of_cell? w _ d1
  simp only at hg
  obtain ⟨a, ha⟩ : ∃ a, (wrTab.getD op ([], [], 0)).2.2 = a := ⟨_, rfl⟩
  obtain ⟨b, hb⟩ : ∃ b, (wrTab.getD q ([], [], 0)).2.2 = b := ⟨_, rfl⟩
  rw [ha] at d1
  rw [hb] at d2
  obtain ⟨R, hR⟩ : ∃ R, brkB op place ⟨q, n, nm, ks⟩ = R := ⟨_, rfl⟩
  have HR : Hid (R = if (op : Int) = 17 then decide (place = 0) && decide (b = a) else if (op : Int) = 15 ∨ (op : Int) = 16 then decide (b ≤ a) else if (op : Int) = 3 ∧ (q : Int) = 1 then decide (0 ≤ n) else if place = 0 then decide (b < a) else decide (b ≤ a)) := by
    show R = _
    rw [← hR, ← ha, ← hb, ← rk_nat, ← rk_nat]; rfl
  rw [hR]
  clear hR ha hb hT
  have hW : Below w.heap.size w (w.alloc (.cells #[.int .i64 q, .int .i64 n, .string nm, .slice ka kn kc] 60)) := (Below.refl _ _).alloc (Nat.le_refl _) _
  have HW : Hid (Below w.heap.size w (w.alloc (.cells #[.int .i64 q, .int .i64 n, .string nm, .slice ka kn kc] 60))) := hW
  clear hW
  by_cases h17 : op = 17
  · subst h17
    by_cases hp : place = 0
    · subst hp
      have HR2 : Hid (R = decide (b = a)) := by show R = _; rw [HR.out]; simp
      clear HR
      go_enter Tryd.func103, Tryd.ntmps103
      go_wp2_with fail
      go_quiet (fail)
      go_wp2_with fail
      go_ret
      exact ⟨by rw [HR2.out] <;> rfl, below_drewN' HW.out _⟩
    · have HR2 : Hid (R = false) := by show R = _; rw [HR.out]; simp [hp]
      have gp : ((place : Int) == 0) = false := by rw [beq_eq_false_iff_ne]; omega
      clear HR
      go_enter Tryd.func103, Tryd.ntmps103
      go_wp2_with fail
      go_quiet (fail)
      go_wp2_with fail
      go_ret
      exact ⟨by rw [HR2.out] <;> rfl, below_drewN' HW.out _⟩
  · have g17 : ((op : Int) == 17) = false := by rw [beq_eq_false_iff_ne]; omega
    by_cases h15 : op = 15
    · subst h15
      have HR2 : Hid (R = decide (b ≤ a)) := by show R = _; rw [HR.out]; simp
      clear HR
      go_enter Tryd.func103, Tryd.ntmps103
      go_wp2_with fail
      go_quiet (fail)
      go_wp2_with fail
      go_ret
      exact ⟨by rw [HR2.out] <;> rfl, below_drewN' HW.out _⟩
    · have g15 : ((op : Int) == 15) = false := by rw [beq_eq_false_iff_ne]; omega
      by_cases h16 : op = 16
      · subst h16
        have HR2 : Hid (R = decide (b ≤ a)) := by show R = _; rw [HR.out]; simp
        clear HR
        go_enter Tryd.func103, Tryd.ntmps103
        go_wp2_with fail
        go_quiet (fail)
        go_wp2_with fail
        go_ret
        exact ⟨by rw [HR2.out] <;> rfl, below_drewN' HW.out _⟩
      · have g16 : ((op : Int) == 16) = false := by rw [beq_eq_false_iff_ne]; omega
        by_cases hl : op = 3 ∧ q = 1
        · obtain ⟨rfl, rfl⟩ := hl
          have HR2 : Hid (R = decide (0 ≤ n)) := by show R = _; rw [HR.out]; simp
          clear HR
          go_enter Tryd.func103, Tryd.ntmps103
          go_wp2_with fail
          go_quiet (fail)
          go_wp2_with fail
          go_ret
          exact ⟨by rw [HR2.out] <;> rfl, below_drewN' HW.out _⟩
        · have HR3 : Hid (R = if place = 0 then decide (b < a) else decide (b ≤ a)) := by
            show R = _
            rw [HR.out, if_neg (by omega), if_neg (by omega), if_neg (by omega)]
          clear HR
          have fin : ∀ z : Bool, z = (if place = 0 then decide (b < a) else decide (b ≤ a)) → z = R := fun z hz => by rw [HR3.out, hz]
          have FIN : Hid (∀ z : Bool, z = (if place = 0 then decide (b < a) else decide (b ≤ a)) → z = R) := fin
          clear fin HR3
          by_cases h3 : op = 3
          · subst h3
            have gq : ((q : Int) == 1) = false := by rw [beq_eq_false_iff_ne]; omega
            by_cases hp : place = 0
            · subst hp
              go_enter Tryd.func103, Tryd.ntmps103
              go_wp2_with fail
              go_quiet (fail)
              go_wp2_with fail
              go_ret
              exact ⟨by rw [← FIN.out (decide (b < a)) (by simp)] <;> rfl, below_drewN' HW.out _⟩
            · have gp : ((place : Int) == 0) = false := by rw [beq_eq_false_iff_ne]; omega
              go_enter Tryd.func103, Tryd.ntmps103
              go_wp2_with fail
              go_quiet (fail)
              go_wp2_with fail
              go_ret
              exact ⟨by rw [← FIN.out (decide (b ≤ a)) (by simp [hp])] <;> rfl, below_drewN' HW.out _⟩
          · have g3 : ((op : Int) == 3) = false := by rw [beq_eq_false_iff_ne]; omega
            by_cases hp : place = 0
            · subst hp
              go_enter Tryd.func103, Tryd.ntmps103
              go_wp2_with fail
              go_quiet (fail)
              go_wp2_with fail
              go_ret
              exact ⟨by rw [← FIN.out (decide (b < a)) (by simp)] <;> rfl, below_drewN' HW.out _⟩
            · have gp : ((place : Int) == 0) = false := by rw [beq_eq_false_iff_ne]; omega
              go_enter Tryd.func103, Tryd.ntmps103
              go_wp2_with fail
              go_quiet (fail)
              go_wp2_with fail
              go_ret
              exact ⟨by rw [← FIN.out (decide (b ≤ a)) (by simp [hp])] <;> rfl, below_drewN' HW.out _⟩
end Go.Proofs.YtjmccobblpcbhaaDoor

set_option linter.unusedSimpArgs false
set_option linter.unusedVariables false
namespace Go.Proofs.YtjmccobblpcbhaaDoor
open Go.RowKit Go.Lib Go.Proofs

theorem szBuilder : (Tryd.prog.info? 172).map (·.size) = some 2 := by kernel_rfl
theorem lsBuilder : liesAt Tryd.prog Tryd.prog.depth 172 (2 / Tryd.prog.cellsOf 172) 0 172 1 = true := by kernel_rfl
theorem infoByte : (Tryd.prog.info? 5).map (fun i => (i.zero, i.size, i.bytes)) = some (some (.int .u8 0), 1, 1) := by kernel_rfl

set_option maxHeartbeats 1000000 in
set_option maxRecDepth 100000 in
theorem copyCheck_used (b : Nat) (w : World) (h0 : w.cell? ⟨b, 0, none⟩ = some (.pointer (some ⟨b, 0, none⟩))) :
    Calls Tryd.prog 148 #[.pointer (some ⟨b, 0, none⟩)] w fun e w' => e = .returned (.tuple #[]) ∧ w' = w := by
  obtain ⟨j, hj, _⟩ := Option.map_eq_some_iff.1 szBuilder
  have hne := run_neq_ptr_same (P := Tryd.prog) w (⟨b, 0, none⟩ : Addr) Tryd.underlying170 hj
  go_enter Tryd.func148, Tryd.ntmps148
  go_wp2
  go_end0
  exact ⟨rfl, rfl⟩

set_option maxHeartbeats 1000000 in
set_option maxRecDepth 100000 in
theorem copyCheck_fresh (b : Nat) (w : World) (h0 : w.cell? ⟨b, 0, none⟩ = some (.pointer none)) (hsh : w.shape? b = some (172, 2)) (hfz : w.frozen? ⟨b, 0, none⟩ = false) :
    Calls Tryd.prog 148 #[.pointer (some ⟨b, 0, none⟩)] w fun e w' => e = .returned (.tuple #[]) ∧ w' = w.setCell ⟨b, 0, none⟩ (.pointer (some ⟨b, 0, none⟩)) := by
  obtain ⟨j, hj, hjs⟩ := Option.map_eq_some_iff.1 szBuilder
  go_enter Tryd.func148, Tryd.ntmps148
  go_wp2
  rw [run_to_unsafe w ⟨b, 0, none⟩ Tryd.underlying170 Tryd.underlying210 hj (by rw [hjs]; decide) hsh (Nat.zero_lt_succ 1)]
  simp only [Result.andThen]
  rw [Oper.upon_value]
  go_wp2
  rw [run_callFunc_extern Tryd.func165 (by kernel_rfl) (by kernel_rfl) (by kernel_rfl) (e := Extern.AbiNoEscape.same) (by kernel_rfl)]
  rw [run_noEscape]
  simp only [Result.andThen]
  rw [Oper.upon_value]
  go_wp2
  rw [run_from_unsafe w ⟨b, 0, none⟩ Tryd.underlying210 Tryd.underlying170 hj hsh lsBuilder]
  simp only [Result.andThen]
  rw [Oper.upon_value]
  go_wp2
  go_end0
  exact ⟨rfl, rfl⟩

theorem copyCheck_k (B b : Nat) (bs : List Value) (w : World) (h : IsBuilderF 172 5 B b bs w) :
    Calls Tryd.prog 148 #[.pointer (some ⟨b, 0, none⟩)] w fun e w' => e = .returned (.tuple #[]) ∧ (BuilderAtF 172 5 B b (.pointer (some ⟨b, 0, none⟩)) bs w' ∧ Below B w w' ∧ OthersKept 5 (some b) w w') := by
  rcases h with h | h
  · refine (copyCheck_fresh b w h.cell0 h.shape h.frozen0).mono ?_
    rintro e w' ⟨rfl, rfl⟩
    exact ⟨rfl, h.used _, (Below.refl B w).setCell (p := ⟨b, 0, none⟩) h.1 _, (OthersKept.refl _ _ w).setCell ⟨b, 0, none⟩ rfl _⟩
  · refine (copyCheck_used b w h.cell0).mono ?_
    rintro e w' ⟨rfl, rfl⟩
    exact ⟨rfl, h, Below.refl B _, OthersKept.refl _ _ _⟩

set_option maxHeartbeats 4000000 in
set_option maxRecDepth 100000 in
theorem writeRune_k (B b : Nat) (bs : List Value) (r : Int) (hr0 : -2147483648 ≤ r) (hr1 : r ≤ 2147483647) (w : World) (h : IsBuilderF 172 5 B b bs w) (hlen : bs.length + 4 ≤ 140737488355328) (hBw : B ≤ w.heap.size) :
    Calls Tryd.prog 132 #[.pointer (some ⟨b, 0, none⟩), .int .i32 r] w fun e w' => e = .returned (.tuple #[.int .i64 (runeCells r).length, .nilIface]) ∧ (BuilderAtF 172 5 B b (.pointer (some ⟨b, 0, none⟩)) (bs ++ runeCells r) w' ∧ Below B w w' ∧ OthersKept 5 (some b) w w') := by
  have hk4 := runeCells_le r
  go_enter Tryd.func132, Tryd.ntmps132
  go_wp2_with (go_at_call 148; refine (copyCheck_k B b bs _ h).mono ?_)
  rintro e w1 ⟨rfl, h1, hb1, hk1⟩
  obtain ⟨hB, v, hbk, hown, hne⟩ := h1
  obtain ⟨ao, cap, rfl⟩ : ∃ ao cap, v = .slice ao bs.length cap := by
    rcases hown.2 with ⟨hv, h0⟩ | ⟨g, cap, cur, fz, hv, _⟩
    · exact ⟨none, 0, by rw [hv, h0]⟩
    · exact ⟨_, _, hv⟩
  have c0 : w1.cell? ⟨b, 0, none⟩ = some (.pointer (some ⟨b, 0, none⟩)) := by rw [cell_of_heap hbk]; rfl
  have c1 : w1.cell? ⟨b, 1, none⟩ = some (.slice ao bs.length cap) := by rw [cell_of_heap hbk]; rfl
  have hcall := Tryd.utf8_AppendRune_row B (.slice ao bs.length cap) bs.length bs r hr0 hr1 w1 hown hlen (by have := hb1.size; omega)
  go_wp2_with (go_at_call 149; refine hcall.mono ?_)
  rintro e w2 ⟨v', rfl, hown', o, hgrow⟩
  have hlt : b < w1.heap.size := by
    rcases Nat.lt_or_ge b w1.heap.size with h' | h'
    · exact h'
    · simp [Array.getElem?_eq_none h'] at hbk
  have hb2 : w2.heap[b]? = some (.cells #[.pointer (some ⟨b, 0, none⟩), .slice ao bs.length cap] 172 (0, 0)) := by
    rw [hgrow.block b (by simp; omega) (fun e => hne e.symm), alloc_old w1 _ b hlt]
    exact hbk
  have d0 : w2.cell? ⟨b, 0, none⟩ = some (.pointer (some ⟨b, 0, none⟩)) := by rw [cell_of_heap hb2]; rfl
  have d1 : w2.cell? ⟨b, 1, none⟩ = some (.slice ao bs.length cap) := by rw [cell_of_heap hb2]; rfl
  have f1 : w2.frozen? ⟨b, 1, none⟩ = false := frozen_of_heap hb2 1
  obtain ⟨g, cap', rfl⟩ : ∃ g cap', v' = .slice (some ⟨g, 0, none⟩) (bs.length + (runeCells r).length) cap' := by
    rcases hown'.2 with ⟨_, h0⟩ | ⟨g, cap', cur, fz, hv, _⟩
    · omega
    · exact ⟨g, cap', hv⟩
  clear hcall
  go_wp2
  go_ret2
  refine ⟨?_, ?_, ?_, ((hk1.alloc _).grown hgrow (ownsRowF_kind (hown.alloc _))).setCell ⟨b, 1, none⟩ rfl _⟩
  · have e : ((bs.length : Int) + ((runeCells r).length : Int) - (bs.length : Int)) = ((runeCells r).length : Int) := by omega
    simp [e]
  · exact BuilderAtF.put (T := 172) (e := 5) hB hb2 (bs' := bs ++ runeCells r) (by simpa using hown') (by decide)
  · exact ((hb1.alloc (by have := hb1.size; omega) _).grown hgrow (by have := hb1.size; simp; omega) (fun k hk => (hown.lt k hk).1)).setCell (p := ⟨b, 1, none⟩) hB _
end Go.Proofs.YtjmccobblpcbhaaDoor

set_option linter.unusedSimpArgs false
set_option linter.unusedVariables false
namespace Go.Proofs.YtjmccobblpcbhaaDoor
open Go.RowKit Go.Lib

theorem add_ok (a b : ByteArray) (h : a.size + b.size ≤ 9223372036854775807) (w : World) : (Op.stringOp .add a b).run Tryd.prog w = .ok (.string (a ++ b)) w := run_string_add_sum w a b h
theorem szs_take (ps : List (Nd × ByteArray)) (k : Nat) (hk : k < ps.length) : szs (ps.take k) + (ps.getD k pt0).2.size ≤ szs ps := by
  unfold szs
  have e : ps = ps.take k ++ (ps.getD k pt0 :: ps.drop (k + 1)) := by
    have : ps.getD k pt0 = ps[k] := by simp [hk]
    rw [this, ← List.drop_eq_getElem_cons hk, List.take_append_drop]
  have : (ps.map fun p => p.2.size).sum = ((ps.take k ++ (ps.getD k pt0 :: ps.drop (k + 1))).map fun p => p.2.size).sum := by rw [← e]
  rw [this, List.map_append, List.sum_append, List.map_cons, List.sum_cons]
  omega
end Go.Proofs.YtjmccobblpcbhaaDoor

set_option linter.unusedSimpArgs false
set_option linter.unusedVariables false
namespace Go.Proofs.YtjmccobblpcbhaaDoor
open Go.RowKit Go.Lib

theorem Tryd.infoStr : (Tryd.prog.info? 9).map (fun i => (i.zero, i.size, i.bytes)) = some (some (.string ⟨#[]⟩), 1, 16) := by kernel_rfl
theorem pt_blk {wr w2 : World} {a b c d e : Value} {t : TypeId} (h : Below (wr.alloc (.cells #[a, b, c, d, e] t)).heap.size (wr.alloc (.cells #[a, b, c, d, e] t)) w2) : w2.heap[wr.heap.size]? = some (.cells #[a, b, c, d, e] t (0, 0)) := by
  rw [h.block wr.heap.size (by simp)]
  show (wr.heap.push _)[wr.heap.size]? = _
  simp
theorem row_set {w : World} {base P : Nat} {e : TypeId} {s n : Nat} {v : Value} {xs : List Value} (h : w.ownsRow base e s v n xs) (hne : ∀ j, v.ownBlock = some j → j ≠ P) (o : Nat) (u : Value) : (w.setCell ⟨P, o, none⟩ u).ownsRow base e s v n xs :=
  World.ownsRow.kept (row := some P) h ⟨rfl, rfl, rfl, by simp [World.setCell], fun k _ hk => Below.heap_setCell _ _ _ _ (fun e => hk (by simp [e]))⟩ (by
    cases hv : v.ownBlock with
    | none => exact .inl rfl
    | some j => exact .inr (fun e => hne j hv (by simpa using e)))

theorem tks_take (op : Int) (ps : List (Nd × ByteArray)) (k : Nat) (hk : k < ps.length) : tksF op 0 (ps.take (k + 1)) = tksF op 0 (ps.take k) ++ [tkT op k (ps.getD k pt0)] := by
  rw [List.take_succ_eq_append_getElem hk, tksF_snoc]
  have e : (ps.take k).length = k := by simp; omega
  rw [e, Nat.zero_add]
  simp [hk]
theorem sz_mem {ps : List (Nd × ByteArray)} {k : Nat} (hk : k < ps.length) : (ps.getD k pt0).2.size ≤ szs ps := by have := szs_take ps k hk; omega

/-- The text put together. -/
structure BtMid (w : World) (op : Nat) (v : Value) (k : Nat) (ts : List ByteArray) (wr : World) : Prop where
  row : wr.ownsRow (w.heap.size + 1) 9 1 v k (ts.map Value.string)
  below : Below w.heap.size w wr
  opc : wr.cell? ⟨w.heap.size, 0, none⟩ = some (.int .i64 op)
  size : w.heap.size + 1 ≤ wr.heap.size

theorem BtMid.call {w : World} {op : Nat} {v : Value} {k : Nat} {ts : List ByteArray} {wr w2 : World} {o : Obj} (h : BtMid w op v k ts wr) (hb : Below (wr.alloc o).heap.size (wr.alloc o) w2) : BtMid w op v k ts w2 := by
  have hs := h.size
  have hz : (wr.alloc o).heap.size = wr.heap.size + 1 := by simp
  refine ⟨ownsRow_below (h.row.alloc _) hb, (h.below.alloc (by omega) _).trans (hb.mono (by omega)), ?_, by have := hb.size; omega⟩
  rw [hb.cell (p := ⟨w.heap.size, 0, none⟩) (by show w.heap.size < _; omega), World.cell?_alloc_old _ _ _ (by show w.heap.size ≠ wr.heap.size; omega)]
  exact h.opc
theorem BtMid.app {w : World} {op : Nat} {v : Value} {k : Nat} {ts : List ByteArray} {w2 w6 : World} {o : Obj} {g cap : Nat} {s : ByteArray} (h : BtMid w op v k ts w2)
    (hown : w6.ownsRow (w.heap.size + 1) 9 1 (.slice (some ⟨g, 0, none⟩) (k + 1) cap) (k + 1) (ts.map Value.string ++ [.string s])) (hg : (w2.alloc o).grownBy w6 v.ownBlock) : BtMid w op (.slice (some ⟨g, 0, none⟩) (k + 1) cap) (k + 1) (ts ++ [s]) w6 := by
  have hs := h.size
  have hz : (w2.alloc o).heap.size = w2.heap.size + 1 := by simp
  have hne : some w.heap.size ≠ v.ownBlock := fun e => by have := (own_block' h.row _ e.symm).1; omega
  refine ⟨by rw [List.map_append]; exact hown, (h.below.alloc (by omega) _).grown hg (by omega) (fun j hj => by have := (own_block' h.row j hj).1; omega), ?_, by have := hg.size; omega⟩
  have e : w6.heap[w.heap.size]? = w2.heap[w.heap.size]? := (hg.block _ (by omega) hne).trans (alloc_old w2 o _ (by omega))
  rw [World.cell?_of_block (a := ⟨w.heap.size, 0, none⟩) e]; exact h.opc
theorem BtMid.put {w : World} {op : Nat} {v : Value} {k : Nat} {ts : List ByteArray} {w2 : World} {P : Nat} (h : BtMid w op v k ts w2) (hP : w.heap.size < P) (hne : ∀ j, v.ownBlock = some j → j ≠ P) (o : Nat) (u : Value) : BtMid w op v k ts (w2.setCell ⟨P, o, none⟩ u) := by
  refine ⟨row_set h.row hne o u, h.below.setCell (p := ⟨P, o, none⟩) (by show w.heap.size ≤ P; omega) _, ?_, by simpa [World.setCell] using h.size⟩
  rw [World.cell?_of_block (a := ⟨w.heap.size, 0, none⟩) (Below.heap_setCell _ _ _ _ (by show w.heap.size ≠ P; omega))]; exact h.opc

set_option maxRecDepth 100000 in
set_option maxHeartbeats 4000000 in
theorem betw_any (op : Nat) (n : Int) (nm : ByteArray) (ks : List Int) (ka : Option Addr) (kn kc : Nat) (ao : Option Addr) (cap : Nat) (ps : List (Nd × ByteArray)) (w : World) (hT : WrCells w) (ho : op < 19) (hP : Pts w ao cap ps) (hz : szs ps ≤ 1000000) (h1 : 1 ≤ ps.length) (h3 : ps.length ≤ 3) (hops : ∀ k, k < ps.length → 0 ≤ (ps.getD k pt0).1.op ∧ (ps.getD k pt0).1.op < 19) :
    Calls Tryd.prog 69 #[.agg #[.int .i64 op, .int .i64 n, .string nm, .slice ka kn kc], .slice ao ps.length cap] w fun e w' => e = .returned (.string (betT ⟨op, n, nm, ks⟩ ps)) ∧ Below w.heap.size w w' := by
  obtain ⟨i0, hi, hz0, hz1, hz2⟩ := info_parts Tryd.infoStr
  have d1 := (hT op ho).1
  have hg := World.block_lt_of_cell? w _ d1
  simp only at hg
  have HR : Hid (betT ⟨op, n, nm, ks⟩ ps = putT op (tksF op 0 (ps.take ps.length))) := by show betT ⟨op, n, nm, ks⟩ ps = _; rw [List.take_length]; rfl
  generalize betT ⟨op, n, nm, ks⟩ ps = R at *
  have HP : Hid (Pts w ao cap ps) := hP
  have HT : Hid (WrCells w) := hT
  have HO : Hid (∀ k, k < ps.length → 0 ≤ (ps.getD k pt0).1.op ∧ (ps.getD k pt0).1.op < 19) := hops
  have hc1 := hP.1
  have hc2 := hP.2.1
  unfold maxLen at hc2
  have HSG : Hid (txt (wrTab.getD op ([], [], 0)).1 = sgT op) := by show _ = _; unfold sgT wrAt; rw [Int.toNat_natCast]
  rw [HSG.out] at d1
  have hsg := sg_size op
  generalize hsgv : sgT (op : Int) = sg at *
  have HSV : Hid (sgT (op : Int) = sg) := hsgv
  clear hsgv hP hT hops HSG
  go_enter Tryd.func69, Tryd.ntmps69
  go_wp2_with fail
  go_loopw [6, 17] (fun v i wr => ∃ k : Nat, k ≤ ps.length ∧ i = .int .i64 k ∧ BtMid w op v k (tksF op 0 (ps.take k)) wr) (fun _ i _ => ps.length - (RowKit.intOf i).toNat)
  case atStart => exact ⟨0, by omega, rfl, by simpa [tksF] using World.ownsRow_nil _ _ _ _, (Below.refl _ _).alloc (Nat.le_refl _) _, by simp, by simp⟩
  case round =>
    obtain ⟨k, hk, rfl, hM⟩ := hrel
    obtain ⟨va, vc, hv⟩ := row_form' hM.row
    subst hv
    have hrow := hM.row
    have hbw := hM.below
    have hopc := hM.opc
    have hsz := hM.size
    have hn9 : w.heap.size ≠ wr.heap.size := by omega
    have hl9 : w.heap.size < wr.heap.size := by omega
    by_cases hlt : k < ps.length
    · have HX := tks_take op ps k hlt
      have hszk := sz_mem hlt
      obtain ⟨hq0, hq1⟩ := HO.out k hlt
      obtain ⟨b, o, rfl, hbl, hpa⟩ := (HP.out.below hbw).at_ hlt
      obtain ⟨bo, hbo⟩ : ∃ p, ps.getD k pt0 = p := ⟨_, rfl⟩
      rw [hbo] at hpa HX hq0 hq1 hszk
      obtain ⟨⟨yop, yn, ynm, yks⟩, ys⟩ := bo
      obtain ⟨e0, e1, e2, ⟨kka, kkn, kkc, e3⟩, e4⟩ := hpa
      simp only at e0 e1 e2 e4 hq0 hq1 hszk
      obtain ⟨q, rfl⟩ : ∃ q : Nat, yop = (q : Int) := ⟨yop.toNat, by omega⟩
      have cB := brk_any op q k yn ynm yks kka kkn kkc (wr.alloc (.cells #[.int .i64 q, .int .i64 yn, .string ynm, .slice kka kkn kkc, .string ys] 141)) (HT.out.below (hbw.alloc (by omega) _)) ho (by omega)
      have HOWN : Hid (∀ j, (Value.slice va k vc).ownBlock = some j → w.heap.size + 1 ≤ j ∧ j < wr.heap.size) := fun j hj => own_block' hrow j hj
      generalize hbr : brkB op k ⟨q, yn, ynm, yks⟩ = br at cB
      cases br with
      | false =>
        have HE : Hid (tksF op 0 (ps.take (k + 1)) = tksF op 0 (ps.take k) ++ [ys]) := by
          show _ = _
          rw [HX]; unfold tkT; rw [hbr]; simp
        generalize hts : tksF (op : Int) 0 (ps.take k) = ts at *
        clear HX hbr hbo
        go_wp2_with (first | (go_at_call 103; refine cB.mono ?_; rintro e w2 ⟨rfl, hb2⟩; have d4 : w2.cell? ⟨wr.heap.size, 4, none⟩ = some (.string ys) := by rw [cell_of_heap (pt_blk hb2)]; rfl) | (at_builtin; refine wpList_append_lies _ rfl (.tmp 33) (.tmp 36) 33 rfl (w.heap.size + 1) 9 i0 (.string ⟨#[]⟩) 1 16 Tryd.underlying33 hi hz0 hz1 hz2 rfl (by decide) _ _ _ rfl ((hM.call hb2).row.alloc _) ⟨w2.heap.size, 0, none⟩ 1 1 [.string ys] rfl rfl (cell_news_one _ _ _) (by simp [Value.oneCell']) (by omega) (by unfold maxLen; omega) (by omega) (by have := (hM.call hb2).size; simp; omega) _ rfl ?_; intro g6 cap6 w6 hown6 hg6 hat6 hl6))
        exact ⟨⟨k + 1, by omega, by go_num, by rw [HE.out]; exact (hM.call hb2).app hown6 hg6⟩, by simp [RowKit.intOf]; omega⟩
      | true =>
        have HE : Hid (tksF op 0 (ps.take (k + 1)) = tksF op 0 (ps.take k) ++ [txt [40] ++ ys ++ txt [41] ]) := by
          show _ = _
          rw [HX]; unfold tkT; rw [hbr]; simp
        generalize hts : tksF (op : Int) 0 (ps.take k) = ts at *
        have ha1 : ∀ W : World, (Op.stringOp .add ⟨#[40]⟩ ys).run Tryd.prog W = .ok (.string (txt [40] ++ ys)) W := add_ok (txt [40]) ys (by rw [txt_size]; simp; omega)
        have ha2 : ∀ W : World, (Op.stringOp .add (txt [40] ++ ys) ⟨#[41]⟩).run Tryd.prog W = .ok (.string (txt [40] ++ ys ++ txt [41])) W := add_ok (txt [40] ++ ys) (txt [41]) (by rw [app_size, txt_size, txt_size]; simp; omega)
        have HNE : Hid (∀ j, (Value.slice va k vc).ownBlock = some j → j ≠ wr.heap.size) := fun j hj => by have := (HOWN.out j hj).2; omega
        clear HX hbr hbo
        generalize hU : txt [40] ++ ys = U at *
        generalize hU2 : U ++ txt [41] = U2 at *
        clear hU hU2
        go_wp2_with (first | (go_at_call 103; refine cB.mono ?_; rintro e w2 ⟨rfl, hb2⟩; have d4 : w2.cell? ⟨wr.heap.size, 4, none⟩ = some (.string ys) := by { rw [cell_of_heap (pt_blk hb2)]; rfl }; have f4 : w2.frozen? ⟨wr.heap.size, 4, none⟩ = false := frozen_of_heap (pt_blk hb2) 4) | (at_builtin; refine wpList_append_lies _ rfl (.tmp 33) (.tmp 36) 33 rfl (w.heap.size + 1) 9 i0 (.string ⟨#[]⟩) 1 16 Tryd.underlying33 hi hz0 hz1 hz2 rfl (by decide) _ _ _ rfl (((hM.call hb2).put hl9 HNE.out 4 (.string U2)).row.alloc _) ⟨w2.heap.size, 0, none⟩ 1 1 [.string U2] rfl rfl (by { have := cell_news_one (w2.setCell ⟨wr.heap.size, 4, none⟩ (.string U2)) (.string U2) 9; simpa [World.setCell] using this }) (by simp [Value.oneCell']) (by omega) (by unfold maxLen; omega) (by omega) (by have := (hM.call hb2).size; simp [World.setCell]; omega) _ rfl ?_; intro g6 cap6 w6 hown6 hg6 hat6 hl6))
        exact ⟨⟨k + 1, by omega, by go_num, by rw [HE.out]; exact ((hM.call hb2).put hl9 HNE.out 4 (.string U2)).app hown6 hg6⟩, by simp [RowKit.intOf]; omega⟩
    · have hke : k = ps.length := by omega
      subst hke
      have HBW : Hid (Below w.heap.size w wr) := hbw
      have hszs : ∀ i, i < ps.length → (tkT op i (ps.getD i pt0)).size ≤ 1000002 := fun i hi => by have := tk_size op i (ps.getD i pt0); have := sz_mem hi; omega
      clear hM hbw hopc HT HO HP
      match ps, h1, h3 with
      | [a], _, _ =>
        have HR2 : Hid (R = sg ++ tkT op 0 a) := by show R = _; rw [HR.out, ← HSV.out]; rfl
        have hrow1 : wr.ownsRow (w.heap.size + 1) 9 1 (.slice va 1 vc) 1 [.string (tkT op 0 a)] := hrow
        obtain ⟨g, cp, hv, hg1, hg2, hg3, c0⟩ := row_cell hrow1 (i := 0) (by omega) (d := .string ⟨#[]⟩)
        cases hv
        have s0 := hszs 0 (by simp)
        simp only [List.getD_cons_zero] at c0 s0
        clear hrow hrow1 HR hszs HSV
        generalize tkT op 0 a = t0 at *
        have hA := add_ok sg t0 (by omega)
        have hl1 : ([a] : List (Nd × ByteArray)).length = 1 := rfl
        simp only [hl1] at *
        go_wp2_with fail
        go_ret
        exact ⟨by rw [HR2.out] <;> rfl, HBW.out⟩
      | [a, b], _, _ =>
        have HR2 : Hid (R = tkT op 0 a ++ txt [32] ++ sg ++ txt [32] ++ tkT op 1 b) := by show R = _; rw [HR.out, ← HSV.out]; rfl
        have hrow1 : wr.ownsRow (w.heap.size + 1) 9 1 (.slice va 2 vc) 2 [.string (tkT op 0 a), .string (tkT op 1 b)] := hrow
        obtain ⟨g, cp, hv, hg1, hg2, hg3, c0⟩ := row_cell hrow1 (i := 0) (by omega) (d := .string ⟨#[]⟩)
        cases hv
        obtain ⟨g', cp', hv, _, _, _, c1⟩ := row_cell hrow1 (i := 1) (by omega) (d := .string ⟨#[]⟩)
        cases hv
        have s0 := hszs 0 (by simp)
        have s1 := hszs 1 (by simp)
        simp only [List.getD_cons_zero, List.getD_cons_succ] at c0 c1 s0 s1
        clear hrow hrow1 HR hszs HSV
        generalize tkT op 0 a = t0 at *
        generalize tkT op 1 b = t1 at *
        have hA1 : ∀ W : World, (Op.stringOp .add t0 ⟨#[32]⟩).run Tryd.prog W = .ok (.string (t0 ++ txt [32])) W := add_ok t0 (txt [32]) (by rw [txt_size]; simp; omega)
        have hA2 := add_ok (t0 ++ txt [32]) sg (by simp only [app_size, txt_size, List.length_cons, List.length_nil]; omega)
        have hA3 : ∀ W : World, (Op.stringOp .add (t0 ++ txt [32] ++ sg) ⟨#[32]⟩).run Tryd.prog W = .ok (.string (t0 ++ txt [32] ++ sg ++ txt [32])) W := add_ok (t0 ++ txt [32] ++ sg) (txt [32]) (by simp only [app_size, txt_size, List.length_cons, List.length_nil]; omega)
        have hA4 := add_ok (t0 ++ txt [32] ++ sg ++ txt [32]) t1 (by simp only [app_size, txt_size, List.length_cons, List.length_nil]; omega)
        have hl1 : ([a, b] : List (Nd × ByteArray)).length = 2 := rfl
        simp only [hl1] at *
        go_wp2_with fail
        go_quiet (fail)
        go_wp2_with fail
        go_ret
        exact ⟨by rw [HR2.out] <;> rfl, below_drewN' HBW.out _⟩
      | [a, b, c], _, _ =>
        have HR2 : Hid (R = tkT op 0 a ++ txt [32] ++ sg ++ txt [32] ++ tkT op 1 b ++ (txt [32, 58, 32] ++ tkT op 2 c)) := by show R = _; rw [HR.out, ← HSV.out]; rfl
        have hrow1 : wr.ownsRow (w.heap.size + 1) 9 1 (.slice va 3 vc) 3 [.string (tkT op 0 a), .string (tkT op 1 b), .string (tkT op 2 c)] := hrow
        obtain ⟨g, cp, hv, hg1, hg2, hg3, c0⟩ := row_cell hrow1 (i := 0) (by omega) (d := .string ⟨#[]⟩)
        cases hv
        obtain ⟨g', cp', hv, _, _, _, c1⟩ := row_cell hrow1 (i := 1) (by omega) (d := .string ⟨#[]⟩)
        cases hv
        obtain ⟨g', cp', hv, _, _, _, c2⟩ := row_cell hrow1 (i := 2) (by omega) (d := .string ⟨#[]⟩)
        cases hv
        have s0 := hszs 0 (by simp)
        have s1 := hszs 1 (by simp)
        have s2 := hszs 2 (by simp)
        simp only [List.getD_cons_zero, List.getD_cons_succ] at c0 c1 c2 s0 s1 s2
        clear hrow hrow1 HR hszs HSV
        generalize tkT op 0 a = t0 at *
        generalize tkT op 1 b = t1 at *
        generalize tkT op 2 c = t2 at *
        have hA1 : ∀ W : World, (Op.stringOp .add t0 ⟨#[32]⟩).run Tryd.prog W = .ok (.string (t0 ++ txt [32])) W := add_ok t0 (txt [32]) (by rw [txt_size]; simp; omega)
        have hA2 := add_ok (t0 ++ txt [32]) sg (by simp only [app_size, txt_size, List.length_cons, List.length_nil]; omega)
        have hA3 : ∀ W : World, (Op.stringOp .add (t0 ++ txt [32] ++ sg) ⟨#[32]⟩).run Tryd.prog W = .ok (.string (t0 ++ txt [32] ++ sg ++ txt [32])) W := add_ok (t0 ++ txt [32] ++ sg) (txt [32]) (by simp only [app_size, txt_size, List.length_cons, List.length_nil]; omega)
        have hA4 := add_ok (t0 ++ txt [32] ++ sg ++ txt [32]) t1 (by simp only [app_size, txt_size, List.length_cons, List.length_nil]; omega)
        have hA5 : ∀ W : World, (Op.stringOp .add ⟨#[32, 58, 32]⟩ t2).run Tryd.prog W = .ok (.string (txt [32, 58, 32] ++ t2)) W := add_ok (txt [32, 58, 32]) t2 (by rw [txt_size]; simp; omega)
        have hA6 := add_ok (t0 ++ txt [32] ++ sg ++ txt [32] ++ t1) (txt [32, 58, 32] ++ t2) (by simp only [app_size, txt_size, List.length_cons, List.length_nil]; omega)
        have hl1 : ([a, b, c] : List (Nd × ByteArray)).length = 3 := rfl
        simp only [hl1] at *
        go_wp2_with fail
        go_quiet (fail)
        go_wp2_with fail
        go_ret
        exact ⟨by rw [HR2.out] <;> rfl, below_drewN' HBW.out _⟩
end Go.Proofs.YtjmccobblpcbhaaDoor
