/-
  ShMem, BrkW, BdW, AhW.
-/
import Derived.Shelf.Unicode.DecodeSlow
import Derived.Laws.RangeAny
import Derived.Shelf.Strings.Builder1
import Derived.Shelf.Small.Utf8
import Derived.Shelf.Strings.BuilderF
import Derived.Shelf.Strings.BuilderK
import Derived.Shelf.Strings.BuilderRune
import Derived.Shelf.Utf8.AppendRune
import Derived.Shelf.Strconv.Itoa0
import Derived.Shelf.Strconv.Itoa1
import Derived.Shelf.LaysM
import Derived.Shelf.Strconv.Itoa2
import Derived.Shelf.Strconv.Itoa3
import Derived.Shelf.Strconv.Itoa4
import Derived.Shelf.Strings.Prefix
import Derived.Shelf.Unicode.DecodeAny
import Derived.Test.YtljigfiokekpoaaGreatDoorProg
import Derived.WalkKit
import Derived.Deep.DeepFit
import Derived.Lib.OthersKept
import Derived.Lib.RuneCountTail
import Derived.Deep.AppendLies
import Derived.Deep.OwnRows
import Derived.Laws.AppendOwnNone
import Derived.Deep.QuietTactic
import Derived.BigQuiet
import Derived.Deep.RegionWith
import Derived.Laws.DeepStrings4
import Derived.Lib.MapLaws
import Derived.Sort.Walk0
import Derived.Lib.ItoaNum
import Derived.BigCall
import Derived.Test.YtljigfiokekpoaaGreatDoorZ01
import Derived.Test.YtljigfiokekpoaaGreatDoorZ02
import Derived.Test.YtljigfiokekpoaaGreatDoorZ03
import Derived.Test.YtljigfiokekpoaaGreatDoorZ04
import Derived.Test.YtljigfiokekpoaaGreatDoorZ05
import Derived.Test.YtljigfiokekpoaaGreatDoorZ06
import Derived.Test.YtljigfiokekpoaaGreatDoorZ07
import Derived.Test.YtljigfiokekpoaaGreatDoorZ08
import Derived.Test.YtljigfiokekpoaaGreatDoorZ09
set_option linter.unusedSimpArgs false
set_option linter.unusedVariables false
namespace Go.Proofs.YtljigfiokekpoaaGreatDoor
open Go.RowKit Go.Lib

/-- The table lies in memory. -/
def WrCells (w : World) : Prop := ∀ k, k < 19 →
  w.cell? ⟨0, k * 3, none⟩ = some (.string (txt (wrTab.getD k ([], [], 0)).1)) ∧ w.cell? ⟨0, k * 3 + 1, none⟩ = some (.string (txt (wrTab.getD k ([], [], 0)).2.1)) ∧ w.cell? ⟨0, k * 3 + 2, none⟩ = some (.int .i64 (wrTab.getD k ([], [], 0)).2.2)
theorem WrCells.below {w w' : World} (h : WrCells w) (hb : Below w.heap.size w w') : WrCells w' := by
  intro k hk
  obtain ⟨h0, h1, h2⟩ := h k hk
  exact ⟨(hb.cell (World.block_lt_of_cell? w _ h0)).trans h0, (hb.cell (World.block_lt_of_cell? w _ h1)).trans h1, (hb.cell (World.block_lt_of_cell? w _ h2)).trans h2⟩

/-- A part at b, o. -/
structure PtAt (w : World) (b o : Nat) (p : Nd × ByteArray) : Prop where
  c0 : w.cell? ⟨b, o, none⟩ = some (.int .i64 p.1.op)
  c1 : w.cell? ⟨b, o + 1, none⟩ = some (.int .i64 p.1.n)
  c2 : w.cell? ⟨b, o + 2, none⟩ = some (.string p.1.name)
  c3 : ∃ ka kn kc, w.cell? ⟨b, o + 3, none⟩ = some (.slice ka kn kc)
  c4 : w.cell? ⟨b, o + 4, none⟩ = some (.string p.2)
theorem PtAt.below {w w' : World} {b o : Nat} {p : Nd × ByteArray} (h : PtAt w b o p) (hlt : b < w.heap.size) (hb : Below w.heap.size w w') : PtAt w' b o p := by
  obtain ⟨h0, h1, h2, ⟨ka, kn, kc, h3⟩, h4⟩ := h
  exact ⟨(hb.cell (p := ⟨b, o, none⟩) hlt).trans h0, (hb.cell (p := ⟨b, o + 1, none⟩) hlt).trans h1, (hb.cell (p := ⟨b, o + 2, none⟩) hlt).trans h2, ⟨ka, kn, kc, (hb.cell (p := ⟨b, o + 3, none⟩) hlt).trans h3⟩, (hb.cell (p := ⟨b, o + 4, none⟩) hlt).trans h4⟩
/-- The slice reads as the parts ps. -/
def Pts (w : World) (ao : Option Addr) (cap : Nat) (ps : List (Nd × ByteArray)) : Prop :=
  ps.length ≤ cap ∧ cap ≤ maxLen ∧ (ps = [] ∨ ∃ b o, ao = some ⟨b, o, none⟩ ∧ b < w.heap.size ∧ ∀ i, i < ps.length → PtAt w b (o + i * 5) (ps.getD i pt0))
theorem Pts.below {w w' : World} {ao : Option Addr} {cap : Nat} {ps : List (Nd × ByteArray)} (h : Pts w ao cap ps) (hb : Below w.heap.size w w') : Pts w' ao cap ps := by
  obtain ⟨h1, h2, h3⟩ := h
  refine ⟨h1, h2, ?_⟩
  rcases h3 with h3 | ⟨b, o, e, hlt, hc⟩
  · exact .inl h3
  · exact .inr ⟨b, o, e, Nat.lt_of_lt_of_le hlt hb.size, fun i hi => (hc i hi).below hlt hb⟩
theorem Pts.at_ {w : World} {ao : Option Addr} {cap : Nat} {ps : List (Nd × ByteArray)} (h : Pts w ao cap ps) {i : Nat} (hi : i < ps.length) : ∃ b o, ao = some ⟨b, o, none⟩ ∧ b < w.heap.size ∧ PtAt w b (o + i * 5) (ps.getD i pt0) := by
  rcases h.2.2 with h | ⟨b, o, e, hlt, hc⟩
  · subst h; simp at hi
  · exact ⟨b, o, e, hlt, hc i hi⟩

/-! ### rows of parts of the call's own -/
def ptCells : List ((Nd × ByteArray) × Value) → List Value
  | [] => []
  | (p, kv) :: r => .int .i64 p.1.op :: .int .i64 p.1.n :: .string p.1.name :: kv :: .string p.2 :: ptCells r
theorem ptCells_length (l : List ((Nd × ByteArray) × Value)) : (ptCells l).length = l.length * 5 := by
  induction l with
  | nil => rfl
  | cons a r ih => obtain ⟨x, kv⟩ := a; simp [ptCells, ih]; omega
theorem ptCells_append (l m : List ((Nd × ByteArray) × Value)) : ptCells (l ++ m) = ptCells l ++ ptCells m := by
  induction l with
  | nil => rfl
  | cons a r ih => obtain ⟨x, kv⟩ := a; simp [ptCells, ih]
theorem ptCells_at (l : List ((Nd × ByteArray) × Value)) (i : Nat) (x : Nd × ByteArray) (kv : Value) (h : l[i]? = some (x, kv)) :
    (ptCells l)[i * 5]? = some (.int .i64 x.1.op) ∧ (ptCells l)[i * 5 + 1]? = some (.int .i64 x.1.n) ∧ (ptCells l)[i * 5 + 2]? = some (.string x.1.name) ∧ (ptCells l)[i * 5 + 3]? = some kv ∧ (ptCells l)[i * 5 + 4]? = some (.string x.2) := by
  induction l generalizing i with
  | nil => simp at h
  | cons a r ih =>
    obtain ⟨y, kw⟩ := a
    cases i with
    | zero => simp at h; obtain ⟨rfl, rfl⟩ := h; simp [ptCells]
    | succ i =>
      have := ih i (by simpa using h)
      have e : (i + 1) * 5 = i * 5 + 5 := by omega
      rw [e]
      simpa [ptCells] using this
def Slc (v : Value) : Prop := ∃ ka kn kc, v = .slice ka kn kc
/-- Parts of the call's own; more may lie behind them. -/
def OwnT (w : World) (base : Nat) (v : Value) (n : Nat) (q : List ((Nd × ByteArray) × Value)) (rest : List Value) : Prop :=
  w.ownsRow base 85 5 v n (ptCells q ++ rest) ∧ ∀ x ∈ q, Slc x.2
theorem OwnT.pts {w : World} {base : Nat} {v : Value} {n : Nat} {q : List ((Nd × ByteArray) × Value)} {rest : List Value} (h : OwnT w base v n q rest) (hq : q.length ≤ n) : ∃ ao cap, v = .slice ao n cap ∧ n ≤ cap ∧ cap ≤ maxLen ∧ (q = [] ∨ ∃ b, ao = some ⟨b, 0, none⟩ ∧ b < w.heap.size ∧ base ≤ b ∧ ∀ i, i < q.length → PtAt w b (i * 5) ((q.map (·.1)).getD i pt0)) := by
  obtain ⟨⟨h1, h2⟩, hS⟩ := h
  rcases h2 with ⟨rfl, h0⟩ | ⟨g, cap, cur, rfl, hb, hg, hn, hm, hs, ht⟩
  · subst h0
    exact ⟨none, 0, rfl, Nat.le_refl _, by simp [maxLen], .inl (List.length_eq_zero_iff.1 (by omega))⟩
  · refine ⟨_, cap, rfl, hn, hm, .inr ⟨g, rfl, lt_of_block hg, hb, fun i hi => ?_⟩⟩
    have hp : q[i]? = some (q[i].1, q[i].2) := by simp [hi]
    have hx : (q.map (·.1)).getD i pt0 = q[i].1 := by simp [hi]
    obtain ⟨a0, a1, a2, a3, a4⟩ := ptCells_at q i _ _ hp
    have hl : (ptCells q).length = q.length * 5 := ptCells_length q
    have hc : ∀ j, j < q.length * 5 → w.cell? ⟨g, j, none⟩ = (ptCells q)[j]? := by
      intro j hj
      have e : w.cell? ⟨g, j, none⟩ = cur[j]? := by simp [World.cell?, hg]
      have e2 : (cur.toList.take (n * 5))[j]? = (ptCells q)[j]? := by rw [ht, List.getElem?_append_left (by omega)]
      rw [e, ← Array.getElem?_toList, ← e2, List.getElem?_take, if_pos (by omega)]
    obtain ⟨ka, kn, kc, hk⟩ := hS q[i] (by simp)
    rw [hx]
    refine ⟨?_, ?_, ?_, ⟨ka, kn, kc, ?_⟩, ?_⟩
    · rw [hc _ (by omega), a0]
    · rw [hc _ (by omega), a1]
    · rw [hc _ (by omega), a2]
    · rw [hc _ (by omega), a3, hk]
    · rw [hc _ (by omega), a4]
theorem OwnT.below {w w' : World} {base : Nat} {v : Value} {n : Nat} {q : List ((Nd × ByteArray) × Value)} {rest : List Value} (h : OwnT w base v n q rest) (hb : Below w.heap.size w w') : OwnT w' base v n q rest := ⟨ownsRow_below h.1 hb, h.2⟩
theorem OwnT.read {w : World} {base : Nat} {v : Value} {q : List ((Nd × ByteArray) × Value)} (h : OwnT w base v q.length q []) : ∃ ao cap, v = .slice ao q.length cap ∧ Pts w ao cap (q.map (·.1)) := by
  obtain ⟨ao, cap, e, h1, h2, h3⟩ := h.pts (Nat.le_refl _)
  refine ⟨ao, cap, e, by simpa using h1, h2, ?_⟩
  rcases h3 with h3 | ⟨b, e, hl, _, hc⟩
  · subst h3; exact .inl rfl
  · exact .inr ⟨b, 0, e, hl, fun i hi => by rw [Nat.zero_add]; exact hc i (by simpa using hi)⟩
end Go.Proofs.YtljigfiokekpoaaGreatDoor

set_option linter.unusedSimpArgs false
set_option linter.unusedVariables false
namespace Go.Proofs.YtljigfiokekpoaaGreatDoor
open Go.RowKit Go.Lib

theorem rk_nat (k : Nat) : rkT (k : Int) = (wrTab.getD k ([], [], 0)).2.2 := by unfold rkT wrAt; rw [Int.toNat_natCast]

set_option maxRecDepth 20000 in
set_option maxHeartbeats 2000000 in
theorem brk_any (op q place : Nat) (n : Int) (nm : ByteArray) (ks : List Int) (ka : Option Addr) (kn kc : Nat) (w : World) (hT : WrCells w) (ho : op < 19) (hq : q < 19) :
    Calls Tryz.prog 32 #[.int .i64 op, .int .i64 place, .agg #[.int .i64 q, .int .i64 n, .string nm, .slice ka kn kc] ] w fun e w' => e = .returned (.bool (brkB op place ⟨q, n, nm, ks⟩)) ∧ Below w.heap.size w w' := by
  have d1 := (hT op ho).2.2
  have d2 := (hT q hq).2.2
  have hg := World.block_lt_of_cell? w _ d1
  simp only at hg
  obtain ⟨a, ha⟩ : ∃ a, (wrTab.getD op ([], [], 0)).2.2 = a := ⟨_, rfl⟩
  obtain ⟨b, hb⟩ : ∃ b, (wrTab.getD q ([], [], 0)).2.2 = b := ⟨_, rfl⟩
  rw [ha] at d1
  rw [hb] at d2
  obtain ⟨R, hR⟩ : ∃ R, brkB op place ⟨q, n, nm, ks⟩ = R := ⟨_, rfl⟩
  have HR : Hid (R = if (op : Int) = 17 then decide (place = 0) && decide (b = a) else if (op : Int) = 15 ∨ (op : Int) = 16 then decide (b ≤ a) else if (op : Int) = 3 ∧ (q : Int) = 1 then decide (0 ≤ n) else if place = 0 then decide (b < a) else decide (b ≤ a)) := by
    show R = _
    rw [← hR, ← ha, ← hb, ← rk_nat, ← rk_nat]; rfl
  rw [hR]
  clear hR ha hb hT
  have hW : Below w.heap.size w (w.alloc (.cells #[.int .i64 q, .int .i64 n, .string nm, .slice ka kn kc] 53)) := (Below.refl _ _).alloc (Nat.le_refl _) _
  have HW : Hid (Below w.heap.size w (w.alloc (.cells #[.int .i64 q, .int .i64 n, .string nm, .slice ka kn kc] 53))) := hW
  clear hW
  by_cases h17 : op = 17
  · subst h17
    by_cases hp : place = 0
    · subst hp
      have HR2 : Hid (R = decide (b = a)) := by show R = _; rw [HR.out]; simp
      clear HR
      go_enter Tryz.func32, Tryz.ntmps32
      go_wp2_with fail
      go_quiet (fail)
      go_wp2_with fail
      go_ret
      exact ⟨by rw [HR2.out] <;> rfl, below_drewN' HW.out _⟩
    · have HR2 : Hid (R = false) := by show R = _; rw [HR.out]; simp [hp]
      have gp : ((place : Int) == 0) = false := by rw [beq_eq_false_iff_ne]; omega
      clear HR
      go_enter Tryz.func32, Tryz.ntmps32
      go_wp2_with fail
      go_quiet (fail)
      go_wp2_with fail
      go_ret
      exact ⟨by rw [HR2.out] <;> rfl, below_drewN' HW.out _⟩
  · have g17 : ((op : Int) == 17) = false := by rw [beq_eq_false_iff_ne]; omega
    by_cases h15 : op = 15
    · subst h15
      have HR2 : Hid (R = decide (b ≤ a)) := by show R = _; rw [HR.out]; simp
      clear HR
      go_enter Tryz.func32, Tryz.ntmps32
      go_wp2_with fail
      go_quiet (fail)
      go_wp2_with fail
      go_ret
      exact ⟨by rw [HR2.out] <;> rfl, below_drewN' HW.out _⟩
    · have g15 : ((op : Int) == 15) = false := by rw [beq_eq_false_iff_ne]; omega
      by_cases h16 : op = 16
      · subst h16
        have HR2 : Hid (R = decide (b ≤ a)) := by show R = _; rw [HR.out]; simp
        clear HR
        go_enter Tryz.func32, Tryz.ntmps32
        go_wp2_with fail
        go_quiet (fail)
        go_wp2_with fail
        go_ret
        exact ⟨by rw [HR2.out] <;> rfl, below_drewN' HW.out _⟩
      · have g16 : ((op : Int) == 16) = false := by rw [beq_eq_false_iff_ne]; omega
        by_cases hl : op = 3 ∧ q = 1
        · obtain ⟨rfl, rfl⟩ := hl
          have HR2 : Hid (R = decide (0 ≤ n)) := by show R = _; rw [HR.out]; simp
          clear HR
          go_enter Tryz.func32, Tryz.ntmps32
          go_wp2_with fail
          go_quiet (fail)
          go_wp2_with fail
          go_ret
          exact ⟨by rw [HR2.out] <;> rfl, below_drewN' HW.out _⟩
        · have HR3 : Hid (R = if place = 0 then decide (b < a) else decide (b ≤ a)) := by
            show R = _
            rw [HR.out, if_neg (by omega), if_neg (by omega), if_neg (by omega)]
          clear HR
          have fin : ∀ z : Bool, z = (if place = 0 then decide (b < a) else decide (b ≤ a)) → z = R := fun z hz => by rw [HR3.out, hz]
          have FIN : Hid (∀ z : Bool, z = (if place = 0 then decide (b < a) else decide (b ≤ a)) → z = R) := fin
          clear fin HR3
          by_cases h3 : op = 3
          · subst h3
            have gq : ((q : Int) == 1) = false := by rw [beq_eq_false_iff_ne]; omega
            by_cases hp : place = 0
            · subst hp
              go_enter Tryz.func32, Tryz.ntmps32
              go_wp2_with fail
              go_quiet (fail)
              go_wp2_with fail
              go_ret
              exact ⟨by rw [← FIN.out (decide (b < a)) (by simp)] <;> rfl, below_drewN' HW.out _⟩
            · have gp : ((place : Int) == 0) = false := by rw [beq_eq_false_iff_ne]; omega
              go_enter Tryz.func32, Tryz.ntmps32
              go_wp2_with fail
              go_quiet (fail)
              go_wp2_with fail
              go_ret
              exact ⟨by rw [← FIN.out (decide (b ≤ a)) (by simp [hp])] <;> rfl, below_drewN' HW.out _⟩
          · have g3 : ((op : Int) == 3) = false := by rw [beq_eq_false_iff_ne]; omega
            by_cases hp : place = 0
            · subst hp
              go_enter Tryz.func32, Tryz.ntmps32
              go_wp2_with fail
              go_quiet (fail)
              go_wp2_with fail
              go_ret
              exact ⟨by rw [← FIN.out (decide (b < a)) (by simp)] <;> rfl, below_drewN' HW.out _⟩
            · have gp : ((place : Int) == 0) = false := by rw [beq_eq_false_iff_ne]; omega
              go_enter Tryz.func32, Tryz.ntmps32
              go_wp2_with fail
              go_quiet (fail)
              go_wp2_with fail
              go_ret
              exact ⟨by rw [← FIN.out (decide (b ≤ a)) (by simp [hp])] <;> rfl, below_drewN' HW.out _⟩
end Go.Proofs.YtljigfiokekpoaaGreatDoor

set_option linter.unusedSimpArgs false
set_option linter.unusedVariables false
namespace Go.Proofs.YtljigfiokekpoaaGreatDoor
open Go.RowKit Go.Lib Go.Proofs

theorem szBuilder : (Tryz.prog.info? 116).map (·.size) = some 2 := by kernel_rfl
theorem lsBuilder : liesAt Tryz.prog Tryz.prog.depth 116 (2 / Tryz.prog.cellsOf 116) 0 116 1 = true := by kernel_rfl
theorem infoByte : (Tryz.prog.info? 5).map (fun i => (i.zero, i.size, i.bytes)) = some (some (.int .u8 0), 1, 1) := by kernel_rfl

set_option maxHeartbeats 1000000 in
set_option maxRecDepth 100000 in
theorem copyCheck_used (b : Nat) (w : World) (h0 : w.cell? ⟨b, 0, none⟩ = some (.pointer (some ⟨b, 0, none⟩))) :
    Calls Tryz.prog 60 #[.pointer (some ⟨b, 0, none⟩)] w fun e w' => e = .returned (.tuple #[]) ∧ w' = w := by
  obtain ⟨j, hj, _⟩ := Option.map_eq_some_iff.1 szBuilder
  have hne := run_neq_ptr_same (P := Tryz.prog) w (⟨b, 0, none⟩ : Addr) Tryz.underlying113 hj
  go_enter Tryz.func60, Tryz.ntmps60
  go_wp2
  go_end0
  exact ⟨rfl, rfl⟩

set_option maxHeartbeats 1000000 in
set_option maxRecDepth 100000 in
theorem copyCheck_fresh (b : Nat) (w : World) (h0 : w.cell? ⟨b, 0, none⟩ = some (.pointer none)) (hsh : w.shape? b = some (116, 2)) (hfz : w.frozen? ⟨b, 0, none⟩ = false) :
    Calls Tryz.prog 60 #[.pointer (some ⟨b, 0, none⟩)] w fun e w' => e = .returned (.tuple #[]) ∧ w' = w.setCell ⟨b, 0, none⟩ (.pointer (some ⟨b, 0, none⟩)) := by
  obtain ⟨j, hj, hjs⟩ := Option.map_eq_some_iff.1 szBuilder
  go_enter Tryz.func60, Tryz.ntmps60
  go_wp2
  rw [run_to_unsafe w ⟨b, 0, none⟩ Tryz.underlying113 Tryz.underlying161 hj (by rw [hjs]; decide) hsh (Nat.zero_lt_succ 1)]
  simp only [Result.andThen]
  rw [Oper.upon_value]
  go_wp2
  rw [run_callFunc_extern Tryz.func77 (by kernel_rfl) (by kernel_rfl) (by kernel_rfl) (e := Extern.AbiNoEscape.same) (by kernel_rfl)]
  rw [run_noEscape]
  simp only [Result.andThen]
  rw [Oper.upon_value]
  go_wp2
  rw [run_from_unsafe w ⟨b, 0, none⟩ Tryz.underlying161 Tryz.underlying113 hj hsh lsBuilder]
  simp only [Result.andThen]
  rw [Oper.upon_value]
  go_wp2
  go_end0
  exact ⟨rfl, rfl⟩

theorem copyCheck_k (B b : Nat) (bs : List Value) (w : World) (h : IsBuilderF 116 5 B b bs w) :
    Calls Tryz.prog 60 #[.pointer (some ⟨b, 0, none⟩)] w fun e w' => e = .returned (.tuple #[]) ∧ (BuilderAtF 116 5 B b (.pointer (some ⟨b, 0, none⟩)) bs w' ∧ Below B w w' ∧ OthersKept 5 (some b) w w') := by
  rcases h with h | h
  · refine (copyCheck_fresh b w h.cell0 h.shape h.frozen0).mono ?_
    rintro e w' ⟨rfl, rfl⟩
    exact ⟨rfl, h.used _, (Below.refl B w).setCell (p := ⟨b, 0, none⟩) h.1 _, (OthersKept.refl _ _ w).setCell ⟨b, 0, none⟩ rfl _⟩
  · refine (copyCheck_used b w h.cell0).mono ?_
    rintro e w' ⟨rfl, rfl⟩
    exact ⟨rfl, h, Below.refl B _, OthersKept.refl _ _ _⟩

set_option maxHeartbeats 4000000 in
set_option maxRecDepth 100000 in
theorem writeRune_k (B b : Nat) (bs : List Value) (r : Int) (hr0 : -2147483648 ≤ r) (hr1 : r ≤ 2147483647) (w : World) (h : IsBuilderF 116 5 B b bs w) (hlen : bs.length + 4 ≤ 140737488355328) (hBw : B ≤ w.heap.size) :
    Calls Tryz.prog 48 #[.pointer (some ⟨b, 0, none⟩), .int .i32 r] w fun e w' => e = .returned (.tuple #[.int .i64 (runeCells r).length, .nilIface]) ∧ (BuilderAtF 116 5 B b (.pointer (some ⟨b, 0, none⟩)) (bs ++ runeCells r) w' ∧ Below B w w' ∧ OthersKept 5 (some b) w w') := by
  have hk4 := runeCells_le r
  go_enter Tryz.func48, Tryz.ntmps48
  go_wp2_with (go_at_call 60; refine (copyCheck_k B b bs _ h).mono ?_)
  rintro e w1 ⟨rfl, h1, hb1, hk1⟩
  obtain ⟨hB, v, hbk, hown, hne⟩ := h1
  obtain ⟨ao, cap, rfl⟩ : ∃ ao cap, v = .slice ao bs.length cap := by
    rcases hown.2 with ⟨hv, h0⟩ | ⟨g, cap, cur, fz, hv, _⟩
    · exact ⟨none, 0, by rw [hv, h0]⟩
    · exact ⟨_, _, hv⟩
  have c0 : w1.cell? ⟨b, 0, none⟩ = some (.pointer (some ⟨b, 0, none⟩)) := by rw [cell_of_heap hbk]; rfl
  have c1 : w1.cell? ⟨b, 1, none⟩ = some (.slice ao bs.length cap) := by rw [cell_of_heap hbk]; rfl
  have hcall := Tryz.utf8_AppendRune_row B (.slice ao bs.length cap) bs.length bs r hr0 hr1 w1 hown hlen (by have := hb1.size; omega)
  go_wp2_with (go_at_call 61; refine hcall.mono ?_)
  rintro e w2 ⟨v', rfl, hown', o, hgrow⟩
  have hlt : b < w1.heap.size := by
    rcases Nat.lt_or_ge b w1.heap.size with h' | h'
    · exact h'
    · simp [Array.getElem?_eq_none h'] at hbk
  have hb2 : w2.heap[b]? = some (.cells #[.pointer (some ⟨b, 0, none⟩), .slice ao bs.length cap] 116 (0, 0)) := by
    rw [hgrow.block b (by simp; omega) (fun e => hne e.symm), alloc_old w1 _ b hlt]
    exact hbk
  have d0 : w2.cell? ⟨b, 0, none⟩ = some (.pointer (some ⟨b, 0, none⟩)) := by rw [cell_of_heap hb2]; rfl
  have d1 : w2.cell? ⟨b, 1, none⟩ = some (.slice ao bs.length cap) := by rw [cell_of_heap hb2]; rfl
  have f1 : w2.frozen? ⟨b, 1, none⟩ = false := frozen_of_heap hb2 1
  obtain ⟨g, cap', rfl⟩ : ∃ g cap', v' = .slice (some ⟨g, 0, none⟩) (bs.length + (runeCells r).length) cap' := by
    rcases hown'.2 with ⟨_, h0⟩ | ⟨g, cap', cur, fz, hv, _⟩
    · omega
    · exact ⟨g, cap', hv⟩
  clear hcall
  go_wp2
  go_ret2
  refine ⟨?_, ?_, ?_, ((hk1.alloc _).grown hgrow (ownsRowF_kind (hown.alloc _))).setCell ⟨b, 1, none⟩ rfl _⟩
  · have e : ((bs.length : Int) + ((runeCells r).length : Int) - (bs.length : Int)) = ((runeCells r).length : Int) := by omega
    simp [e]
  · exact BuilderAtF.put (T := 116) (e := 5) hB hb2 (bs' := bs ++ runeCells r) (by simpa using hown') (by decide)
  · exact ((hb1.alloc (by have := hb1.size; omega) _).grown hgrow (by have := hb1.size; simp; omega) (fun k hk => (hown.lt k hk).1)).setCell (p := ⟨b, 1, none⟩) hB _
end Go.Proofs.YtljigfiokekpoaaGreatDoor

set_option linter.unusedSimpArgs false
set_option linter.unusedVariables false
namespace Go.Proofs.YtljigfiokekpoaaGreatDoor
open Go.RowKit Go.Lib

theorem add_ok (a b : ByteArray) (h : a.size + b.size ≤ 9223372036854775807) (w : World) : (Op.stringOp .add a b).run Tryz.prog w = .ok (.string (a ++ b)) w := run_string_add_sum w a b h
theorem szs_take (ps : List (Nd × ByteArray)) (k : Nat) (hk : k < ps.length) : szs (ps.take k) + (ps.getD k pt0).2.size ≤ szs ps := by
  unfold szs
  have e : ps = ps.take k ++ (ps.getD k pt0 :: ps.drop (k + 1)) := by
    have : ps.getD k pt0 = ps[k] := by simp [hk]
    rw [this, ← List.drop_eq_getElem_cons hk, List.take_append_drop]
  have : (ps.map fun p => p.2.size).sum = ((ps.take k ++ (ps.getD k pt0 :: ps.drop (k + 1))).map fun p => p.2.size).sum := by rw [← e]
  rw [this, List.map_append, List.sum_append, List.map_cons, List.sum_cons]
  omega
end Go.Proofs.YtljigfiokekpoaaGreatDoor
