/-
  EvMem, ArW.
-/
import Derived.RowKit
import Derived.Laws.Entries
import Derived.Test.YtfdghbbanokopaaDoorProg
import Derived.Below
import Derived.Lib.OthersKept
import Derived.WalkKit
import Derived.Deep.AppendLies
import Derived.Deep.OwnRows
import Derived.Laws.AppendOwnNone
import Derived.Deep.DeepFit
import Derived.BigQuiet
import Derived.Test.YtfdghbbanokopaaDoorD06
set_option linter.unusedSimpArgs false
set_option linter.unusedVariables false
namespace Go.Proofs.YtfdghbbanokopaaDoor
open Go.RowKit Go.Lib

structure BdAt (w : World) (b o : Nat) (x : Bd) : Prop where
  c0 : w.cell? ⟨b, o, none⟩ = some (.string x.1)
  c1 : w.cell? ⟨b, o + 1, none⟩ = some (.int .i64 x.2)
/-- A list of bindings, read. -/
def Bds (w : World) (ao : Option Addr) (cap : Nat) (l : List Bd) : Prop :=
  (l.length ≤ cap ∧ cap ≤ maxLen ∧ (ao = none → cap = 0)) ∧ (l = [] ∨ ∃ b o, ao = some ⟨b, o, none⟩ ∧ b < w.heap.size ∧ ∀ i, i < l.length → BdAt w b (o + i * 2) (l.getD i bd0))
theorem BdAt.below {w w' : World} {b o : Nat} {x : Bd} (h : BdAt w b o x) (hlt : b < w.heap.size) (hb : Below w.heap.size w w') : BdAt w' b o x :=
  ⟨(hb.cell (p := ⟨b, o, none⟩) hlt).trans h.c0, (hb.cell (p := ⟨b, o + 1, none⟩) hlt).trans h.c1⟩
theorem Bds.below {w w' : World} {ao : Option Addr} {cap : Nat} {l : List Bd} (h : Bds w ao cap l) (hb : Below w.heap.size w w') : Bds w' ao cap l := by
  obtain ⟨h1, h2⟩ := h
  refine ⟨h1, ?_⟩
  rcases h2 with h2 | ⟨b, o, rfl, hlt, hc⟩
  · exact .inl h2
  · exact .inr ⟨b, o, rfl, by have := hb.size; omega, fun i hi => (hc i hi).below hlt hb⟩
theorem Bds.at_ {w : World} {ao : Option Addr} {cap : Nat} {l : List Bd} (h : Bds w ao cap l) {i : Nat} (hi : i < l.length) : ∃ b o, ao = some ⟨b, o, none⟩ ∧ b < w.heap.size ∧ BdAt w b (o + i * 2) (l.getD i bd0) := by
  rcases h.2 with h | ⟨b, o, rfl, hb, hc⟩
  · subst h; simp at hi
  · exact ⟨b, o, rfl, hb, hc i hi⟩

def bdCells : List Bd → List Value
  | [] => []
  | x :: r => .string x.1 :: .int .i64 x.2 :: bdCells r
theorem bdCells_length (l : List Bd) : (bdCells l).length = l.length * 2 := by
  induction l with
  | nil => rfl
  | cons a r ih => simp [bdCells, ih]; omega
theorem bdCells_append (l m : List Bd) : bdCells (l ++ m) = bdCells l ++ bdCells m := by
  induction l with
  | nil => rfl
  | cons a r ih => simp [bdCells, ih]
theorem bdCells_at (l : List Bd) (i : Nat) (x : Bd) (h : l[i]? = some x) : (bdCells l)[i * 2]? = some (.string x.1) ∧ (bdCells l)[i * 2 + 1]? = some (.int .i64 x.2) := by
  induction l generalizing i with
  | nil => simp at h
  | cons a r ih =>
    cases i with
    | zero => simp at h; subst h; simp [bdCells]
    | succ i =>
      have := ih i (by simpa using h)
      have e : (i + 1) * 2 = i * 2 + 2 := by omega
      rw [e]
      simpa [bdCells] using this
theorem bdCells_set (l : List Bd) (i : Nat) (n : Int) (hi : i < l.length) : bdCells (l.set i ((l.getD i bd0).1, n)) = (bdCells l).set (i * 2 + 1) (.int .i64 n) := by
  induction l generalizing i with
  | nil => simp at hi
  | cons a r ih =>
    cases i with
    | zero => simp [bdCells]
    | succ i =>
      have := ih i (by simpa using hi)
      have e : (i + 1) * 2 + 1 = (i * 2 + 1) + 2 := by omega
      rw [e]
      simp [bdCells] at this ⊢
      exact this
theorem bdCells_one (l : List Bd) : ∀ u ∈ bdCells l, u.oneCell' = true := by
  induction l with
  | nil => simp [bdCells]
  | cons a r ih =>
    intro u hu
    simp only [bdCells, List.mem_cons] at hu
    rcases hu with rfl | rfl | hu
    · rfl
    · rfl
    · exact ih u hu

/-- Bindings of the call's own. -/
def OwnB (w : World) (base : Nat) (v : Value) (l : List Bd) : Prop := w.ownsRow base 52 2 v l.length (bdCells l)
theorem own_below {w w' : World} {base : Nat} {e : TypeId} {size : Nat} {v : Value} {n : Nat} {xs : List Value} (h : w.ownsRow base e size v n xs) (hb : Below w.heap.size w w') : w'.ownsRow base e size v n xs :=
  World.ownsRow.kept (row := none) h ⟨hb.os, hb.tape, hb.output, hb.size, fun k hk _ => hb.block k hk⟩ (by
    cases hv : v.ownBlock
    · exact .inl rfl
    · exact .inr (by simp))
theorem OwnB.below {w w' : World} {base : Nat} {v : Value} {l : List Bd} (h : OwnB w base v l) (hb : Below w.heap.size w w') : OwnB w' base v l := own_below h hb
theorem OwnB.mono {w : World} {base base' : Nat} {v : Value} {l : List Bd} (h : OwnB w base v l) (hb : base' ≤ base) : OwnB w base' v l := by
  obtain ⟨h1, h2⟩ := h
  refine ⟨h1, ?_⟩
  rcases h2 with h2 | ⟨g, cap, cur, hv, hg, r⟩
  · exact .inl h2
  · exact .inr ⟨g, cap, cur, hv, by omega, r⟩
theorem OwnB.read {w : World} {base : Nat} {v : Value} {l : List Bd} (h : OwnB w base v l) : ∃ ao cap, v = .slice ao l.length cap ∧ Bds w ao cap l ∧ (∀ a, ao = some a → a.off = 0 ∧ a.spot = none ∧ base ≤ a.block) := by
  obtain ⟨h1, h2⟩ := h
  rcases h2 with ⟨rfl, h0⟩ | ⟨g, cap, cur, rfl, hb, hg, hn, hm, hs, ht⟩
  · have : l = [] := List.length_eq_zero_iff.1 h0
    subst this
    exact ⟨none, 0, rfl, ⟨⟨by simp, by simp [maxLen], fun _ => rfl⟩, .inl rfl⟩, by simp⟩
  · refine ⟨_, cap, rfl, ⟨⟨hn, hm, by simp⟩, .inr ⟨g, 0, rfl, lt_of_block hg, fun i hi => ?_⟩⟩, fun a ha => by cases ha; exact ⟨rfl, rfl, hb⟩⟩
    have hx : l[i]? = some (l.getD i bd0) := by simp [hi]
    obtain ⟨a0, a1⟩ := bdCells_at l i _ hx
    have hc : ∀ j, j < l.length * 2 → w.cell? ⟨g, j, none⟩ = (bdCells l)[j]? := by
      intro j hj
      have : w.cell? ⟨g, j, none⟩ = cur[j]? := by simp [World.cell?, hg]
      rw [this, ← Array.getElem?_toList, ← ht, List.getElem?_take, if_pos (by omega)]
    exact ⟨by rw [Nat.zero_add, hc _ (by omega), a0], by rw [Nat.zero_add, hc _ (by omega), a1]⟩
theorem Tryd.infoBind : (Tryd.prog.info? 52).map (fun i => (i.zero, i.size, i.bytes)) = some (some (.agg #[.string ⟨#[]⟩, .int .i64 0]), 2, 24) := by kernel_rfl
/-- The cells of a list that is read, as a source of append. -/
theorem Bds.src {w : World} {ao : Option Addr} {cap : Nat} {l : List Bd} (h : Bds w ao cap l) : ∀ ad, ao = some ad → ∀ j u, (bdCells l)[j]? = some u → w.cell? (ad.add j) = some u := by
  intro ad had j u hj
  have hjl : j < l.length * 2 := by
    have := (List.getElem?_eq_some_iff.1 hj).1
    rw [bdCells_length] at this; exact this
  obtain ⟨b, o, h1, hb, hc⟩ := h.at_ (i := j / 2) (by omega)
  rw [had] at h1
  cases h1
  have hx : l[j / 2]? = some (l.getD (j / 2) bd0) := by
    have : j / 2 < l.length := by omega
    simp [this]
  obtain ⟨a0, a1⟩ := bdCells_at l _ _ hx
  rw [Go.WideShapes.add_plain]
  rcases Nat.mod_two_eq_zero_or_one j with hr | hr
  · have e : j = j / 2 * 2 := by omega
    rw [← e] at a0
    have e' : o + j / 2 * 2 = o + j := by omega
    have := hc.c0
    rw [e'] at this
    rw [this, ← hj, a0]
  · have e : j = j / 2 * 2 + 1 := by omega
    rw [← e] at a1
    have e' : o + j / 2 * 2 + 1 = o + j := by omega
    have := hc.c1
    rw [e'] at this
    rw [this, ← hj, a1]
theorem OwnB.form {w : World} {base : Nat} {v : Value} {l : List Bd} (h : OwnB w base v l) : ∃ ao cap, v = .slice ao l.length cap := let ⟨ao, cap, h1, _⟩ := h.read; ⟨ao, cap, h1⟩
/-- Behind a store into one binding's number. -/
theorem OwnB.put {w : World} {base g cap : Nat} {l : List Bd} (h : OwnB w base (.slice (some ⟨g, 0, none⟩) l.length cap) l) (i : Nat) (hi : i < l.length) (n : Int) :
    OwnB (w.setCell ⟨g, i * 2 + 1, none⟩ (.int .i64 n)) base (.slice (some ⟨g, 0, none⟩) l.length cap) (l.set i ((l.getD i bd0).1, n)) := by
  obtain ⟨h1, h2⟩ := h
  refine ⟨by rw [bdCells_length, List.length_set], ?_⟩
  rcases h2 with ⟨h2, _⟩ | ⟨g', cap', cur, h3, hb, hg, hn, hm, hs, ht⟩
  · cases h2
  · cases h3
    refine .inr ⟨g, cap, cur.setIfInBounds (i * 2 + 1) (.int .i64 n), by simp, hb, heap_setCell_same w g _ cur _ _ hg, by simpa using hn, hm, by simpa using hs, ?_⟩
    rw [bdCells_set l i n hi, ← ht]
    simp [List.take_set]
end Go.Proofs.YtfdghbbanokopaaDoor

set_option linter.unusedSimpArgs false
set_option linter.unusedVariables false
namespace Go.Proofs.YtfdghbbanokopaaDoor
open Go.RowKit Go.Lib

theorem retI {k : IntKind} {a b : Int} (h : a = b) : Ending.returned (.int k a) = .returned (.int k b) := by rw [h]
theorem retII {k l : IntKind} {a b c d : Int} (h : a = c) (h' : b = d) : Ending.returned (.tuple #[.int k a, .int l b]) = .returned (.tuple #[.int k c, .int l d]) := by rw [h, h']

theorem turned_any (op a : Int) (w : World) :
    Calls Tryd.prog 136 #[.int .i64 op, .int .i64 a] w fun e w' => e = .returned (.int .i64 (ap1 op a)) ∧ w' = w := by
  go_enter Tryd.func136, Tryd.ntmps136
  go_wp2
  all_goals
    go_ret
    simp only [beq_iff_eq, beq_eq_false_iff_ne, ne_eq] at *
    exact ⟨retI (by simp [ap1, *]), by first | rfl | trivial⟩

theorem wrapped_any (op a b : Int) (w : World) (h : op = 5 ∨ op = 6 ∨ op = 7) :
    Calls Tryd.prog 143 #[.int .i64 op, .int .i64 a, .int .i64 b] w fun e w' => e = .returned (.int .i64 (ap2 op a b)) ∧ w' = w := by
  rcases h with rfl | rfl | rfl
  all_goals
    go_enter Tryd.func143, Tryd.ntmps143
    go_wp2
    go_ret
    exact ⟨retI (by simp [ap2]), by first | rfl | trivial⟩

theorem divided_any (op a b : Int) (w : World) (h : op = 8 ∨ op = 9) (hb : b ≠ 0) :
    Calls Tryd.prog 144 #[.int .i64 op, .int .i64 a, .int .i64 b] w fun e w' => e = .returned (.int .i64 (ap2 op a b)) ∧ w' = w := by
  rcases h with rfl | rfl
  all_goals
    go_enter Tryd.func144, Tryd.ntmps144
    go_wp2
    go_ret
    exact ⟨retI (by simp [ap2]), by first | rfl | trivial⟩

theorem combined_any (op a b : Int) (w : World) (h : op = 10 ∨ op = 11 ∨ op = 12) :
    Calls Tryd.prog 145 #[.int .i64 op, .int .i64 a, .int .i64 b] w fun e w' => e = .returned (.int .i64 (ap2 op a b)) ∧ w' = w := by
  rcases h with rfl | rfl | rfl
  all_goals
    go_enter Tryd.func145, Tryd.ntmps145
    go_wp2
    go_ret
    exact ⟨retI (by simp [ap2]), by first | rfl | trivial⟩

theorem shl_run (a k : Int) (h0 : 0 ≤ k) (h1 : k < 64) : Op.shift .shl .i64 a .i64 k = pure (.int .i64 (wrap64 (a * 2 ^ k.toNat))) := by
  have e : min k.toNat 64 = k.toNat := by omega
  simp only [Op.shift, IntKind.bits, e]
  rw [if_neg (by omega), IntWalk.i64_left]
theorem shr_run (a k : Int) (h0 : 0 ≤ k) (h1 : k < 64) : Op.shift .shr .i64 a .i64 k = pure (.int .i64 (a / 2 ^ k.toNat)) := by
  have e : min k.toNat 64 = k.toNat := by omega
  simp only [Op.shift, IntKind.bits, e]
  rw [if_neg (by omega), Int.fdiv_eq_ediv_of_nonneg _ (Int.le_of_lt (Int.pow_pos (by decide)))]

theorem shifted_any (op a b : Int) (w : World) (h : op = 13 ∨ op = 14) :
    Calls Tryd.prog 146 #[.int .i64 op, .int .i64 a, .int .i64 b] w fun e w' => e = .returned (.int .i64 (ap2 op a b)) ∧ w' = w := by
  have hby := by6_in b
  have h13 : ap2 13 a b = wrap64 (a * 2 ^ (by6 b).toNat) := by simp [ap2]
  have h14 : ap2 14 a b = a / 2 ^ (by6 b).toNat := by simp [ap2]
  have hl := shl_run a (by6 b) hby.1 hby.2
  have hr := shr_run a (by6 b) hby.1 hby.2
  rw [← h13] at hl
  rw [← h14] at hr
  obtain ⟨k, hk⟩ : ∃ k, bits .and .i64 b 63 = k := ⟨_, rfl⟩
  have e : by6 b = k := hk
  rw [e] at hl hr
  clear hby h13 h14 e
  rcases h with rfl | rfl
  all_goals
    go_enter Tryd.func146, Tryd.ntmps146
    go_wp2
    go_ret
    exact ⟨retI rfl, by first | rfl | trivial⟩

theorem compared_any (op a b : Int) (w : World) (h : op = 15 ∨ op = 16) :
    Calls Tryd.prog 147 #[.int .i64 op, .int .i64 a, .int .i64 b] w fun e w' => e = .returned (.int .i64 (ap2 op a b)) ∧ w' = w := by
  rcases h with rfl | rfl
  all_goals
    go_enter Tryd.func147, Tryd.ntmps147
    go_wp2
    all_goals
      go_ret
      simp only [beq_iff_eq, beq_eq_false_iff_ne, ne_eq] at *
      exact ⟨retI (by simp_all [ap2]), by first | rfl | trivial⟩

theorem chosen_any (c a b : Int) (w : World) :
    Calls Tryd.prog 137 #[.int .i64 c, .int .i64 a, .int .i64 b] w fun e w' => e = .returned (.int .i64 (if c = 0 then b else a)) ∧ w' = w := by
  obtain ⟨r, hr⟩ : ∃ r, (if c = 0 then b else a) = r := ⟨_, rfl⟩
  have HR : Hid ((if c = 0 then b else a) = r) := hr
  rw [hr]
  clear hr
  go_enter Tryd.func137, Tryd.ntmps137
  go_wp2
  all_goals
    go_ret
    exact ⟨retI (by rw [← HR.out]; simp_all), by first | rfl | trivial⟩
/-! ### The groups -/
def grps : List Int := [0, 0, 0, 1, 1, 2, 2, 2, 3, 3, 4, 4, 4, 5, 5, 6, 6, 7]
def GrpCells (w : World) : Prop := ∀ k, k < 18 → w.cell? ⟨2, k, none⟩ = some (.int .i64 (grps.getD k 0))
theorem GrpCells.below {w w' : World} (h : GrpCells w) (hb : Below w.heap.size w w') : GrpCells w' := by
  intro k hk
  have h0 := h k hk
  exact (hb.cell (World.block_lt_of_cell? w _ h0)).trans h0

theorem ofTwo_any (k : Nat) (a b : Int) (w : World) (hG : GrpCells w) (h : 5 ≤ k ∧ k ≤ 16) :
    Calls Tryd.prog 138 #[.int .i64 (k : Int), .int .i64 a, .int .i64 b] w fun e w' => e = .returned (.tuple #[.int .i64 (apR k [a, b]).1, .int .i64 (apR k [a, b]).2]) ∧ w' = w := by
  have hk : (5 : Int) ≤ k ∧ (k : Int) ≤ 16 := by omega
  have hc := hG k (by omega)
  obtain ⟨r, hr⟩ : ∃ r, apR k [a, b] = r := ⟨_, rfl⟩
  have HR : Hid (apR k [a, b] = r) := hr
  rw [hr]
  have HA : Hid (¬ ((k = 8 ∨ k = 9) ∧ b = 0) → r = (ap2 k a b, 0)) := fun hn => by
    rw [← hr]; simp only [apR]; rw [if_pos hk, if_neg (by omega)]
  have HZ : Hid ((k = 8 ∨ k = 9) → b = 0 → r = (0, 12)) := fun h8 hb => by
    rw [← hr]; simp only [apR]; rw [if_pos hk, if_pos ⟨by omega, hb⟩]
  clear hr HR hG
  have cases : (grps.getD k 0 = 2 ∧ ((k : Int) = 5 ∨ (k : Int) = 6 ∨ (k : Int) = 7)) ∨ (grps.getD k 0 = 3 ∧ ((k : Int) = 8 ∨ (k : Int) = 9)) ∨ (grps.getD k 0 = 4 ∧ ((k : Int) = 10 ∨ (k : Int) = 11 ∨ (k : Int) = 12)) ∨ (grps.getD k 0 = 5 ∧ ((k : Int) = 13 ∨ (k : Int) = 14)) ∨ (grps.getD k 0 = 6 ∧ ((k : Int) = 15 ∨ (k : Int) = 16)) := by
    obtain ⟨h1, h2⟩ := h
    have : k = 5 ∨ k = 6 ∨ k = 7 ∨ k = 8 ∨ k = 9 ∨ k = 10 ∨ k = 11 ∨ k = 12 ∨ k = 13 ∨ k = 14 ∨ k = 15 ∨ k = 16 := by omega
    rcases this with rfl | rfl | rfl | rfl | rfl | rfl | rfl | rfl | rfl | rfl | rfl | rfl <;> simp [grps]
  generalize grps.getD k 0 = g at *
  rcases cases with ⟨rfl, ho⟩ | ⟨rfl, ho⟩ | ⟨rfl, ho⟩ | ⟨rfl, ho⟩ | ⟨rfl, ho⟩
  · have cw : Hid (∀ W, Calls Tryd.prog 143 #[.int .i64 (k : Int), .int .i64 a, .int .i64 b] W fun e w' => e = .returned (.int .i64 (ap2 k a b)) ∧ w' = W) := fun W => wrapped_any k a b W ho
    have HO : Hid (¬ ((k = 8 ∨ k = 9) ∧ b = 0)) := by show ¬ _; omega
    clear ho
    go_enter Tryd.func138, Tryd.ntmps138
    go_wp2_with (go_at_call 143; refine (cw.out _).mono ?_; rintro e w2 ⟨rfl, hw⟩; obtain rfl := hw.symm)
    go_ret2
    exact ⟨retII (by rw [HA.out HO.out]) (by rw [HA.out HO.out]), by first | rfl | trivial⟩
  · by_cases hb : b = 0
    · have HO : Hid (k = 8 ∨ k = 9) := by show _ ∨ _; omega
      have H0 : Hid (r = (0, 12)) := HZ.out HO.out hb
      subst hb
      clear ho HZ
      go_enter Tryd.func138, Tryd.ntmps138
      go_wp2
      go_ret2
      exact ⟨retII (by rw [H0.out]) (by rw [H0.out]), by first | rfl | trivial⟩
    · have cw : Hid (∀ W, Calls Tryd.prog 144 #[.int .i64 (k : Int), .int .i64 a, .int .i64 b] W fun e w' => e = .returned (.int .i64 (ap2 k a b)) ∧ w' = W) := fun W => divided_any k a b W ho hb
      have HO : Hid (¬ ((k = 8 ∨ k = 9) ∧ b = 0)) := by show ¬ _; omega
      have hb' : (b == 0) = false := by simpa using hb
      clear ho hb
      go_enter Tryd.func138, Tryd.ntmps138
      go_wp2_with (go_at_call 144; refine (cw.out _).mono ?_; rintro e w2 ⟨rfl, hw⟩; obtain rfl := hw.symm)
      go_ret2
      exact ⟨retII (by rw [HA.out HO.out]) (by rw [HA.out HO.out]), by first | rfl | trivial⟩
  · have cw : Hid (∀ W, Calls Tryd.prog 145 #[.int .i64 (k : Int), .int .i64 a, .int .i64 b] W fun e w' => e = .returned (.int .i64 (ap2 k a b)) ∧ w' = W) := fun W => combined_any k a b W ho
    have HO : Hid (¬ ((k = 8 ∨ k = 9) ∧ b = 0)) := by show ¬ _; omega
    clear ho
    go_enter Tryd.func138, Tryd.ntmps138
    go_wp2_with (go_at_call 145; refine (cw.out _).mono ?_; rintro e w2 ⟨rfl, hw⟩; obtain rfl := hw.symm)
    go_ret2
    exact ⟨retII (by rw [HA.out HO.out]) (by rw [HA.out HO.out]), by first | rfl | trivial⟩
  · have cw : Hid (∀ W, Calls Tryd.prog 146 #[.int .i64 (k : Int), .int .i64 a, .int .i64 b] W fun e w' => e = .returned (.int .i64 (ap2 k a b)) ∧ w' = W) := fun W => shifted_any k a b W ho
    have HO : Hid (¬ ((k = 8 ∨ k = 9) ∧ b = 0)) := by show ¬ _; omega
    clear ho
    go_enter Tryd.func138, Tryd.ntmps138
    go_wp2_with (go_at_call 146; refine (cw.out _).mono ?_; rintro e w2 ⟨rfl, hw⟩; obtain rfl := hw.symm)
    go_ret2
    exact ⟨retII (by rw [HA.out HO.out]) (by rw [HA.out HO.out]), by first | rfl | trivial⟩
  · have cw : Hid (∀ W, Calls Tryd.prog 147 #[.int .i64 (k : Int), .int .i64 a, .int .i64 b] W fun e w' => e = .returned (.int .i64 (ap2 k a b)) ∧ w' = W) := fun W => compared_any k a b W ho
    have HO : Hid (¬ ((k = 8 ∨ k = 9) ∧ b = 0)) := by show ¬ _; omega
    clear ho
    go_enter Tryd.func138, Tryd.ntmps138
    go_wp2_with (go_at_call 147; refine (cw.out _).mono ?_; rintro e w2 ⟨rfl, hw⟩; obtain rfl := hw.symm)
    go_ret2
    exact ⟨retII (by rw [HA.out HO.out]) (by rw [HA.out HO.out]), by first | rfl | trivial⟩

/-! ### Apply -/
theorem Calls.same {P : Program} {f : FuncId} {args : Array Value} {w : World} {v : Value} (h : Calls P f args w fun e w' => e = .returned v ∧ w' = w) : Calls P f args w fun e w' => e = .returned v ∧ ∃ m, w' = w.drewN m :=
  h.mono fun _ _ ⟨he, hw⟩ => ⟨he, 0, by rw [hw]; rfl⟩
theorem GrpCells.drew {w : World} (h : GrpCells w) (m : Nat) : GrpCells (w.drewN m) := fun k hk => h k hk
/-- A list of numbers, read. -/
def Ags (w : World) (v : Value) (l : List Int) : Prop :=
  ∃ (a : Option Addr) (c : Nat), v = .slice a l.length c ∧ (l = [] ∨ ∃ b o, a = some ⟨b, o, none⟩ ∧ ∀ i x, l[i]? = some x → w.cell? ⟨b, o + i, none⟩ = some (.int .i64 x))

def aaK (op : Int) : Int := if op = 3 ∨ op = 4 then 1 else if 5 ≤ op ∧ op ≤ 16 then 2 else if op = 17 then 3 else 0
def aaE (op : Int) : Int := if op < 1 ∨ 17 < op then 2 else 0
theorem aarity_any (op : Int) (w : World) :
    Calls Tryd.prog 84 #[.int .i64 op] w fun e w' => e = .returned (.tuple #[.int .i64 (aaK op), .int .i64 (aaE op)]) ∧ w' = w := by
  go_enter Tryd.func84, Tryd.ntmps84
  go_wp2
  all_goals
    go_ret2
    simp only [beq_iff_eq, beq_eq_false_iff_ne, ne_eq] at *
    exact ⟨retII (by unfold aaK; (repeat' split) <;> omega) (by unfold aaE; split <;> omega), by first | rfl | trivial⟩

theorem apply_bad (op : Int) (v : Value) (l : List Int) (w : World) (hA : Ags w v l) (h : op < 1 ∨ 17 < op) :
    Calls Tryd.prog 120 #[.int .i64 op, v] w fun e w' => e = .returned (.tuple #[.int .i64 0, .int .i64 2]) ∧ w' = w := by
  have ca : Hid (∀ W, Calls Tryd.prog 84 #[.int .i64 op] W fun e w' => e = .returned (.tuple #[.int .i64 (aaK op), .int .i64 2]) ∧ w' = W) := fun W => by
    have := aarity_any op W
    rw [show aaE op = 2 by unfold aaE; rw [if_pos h] ] at this
    exact this
  obtain ⟨a, c, rfl, _⟩ := hA
  clear h
  go_enter Tryd.func120, Tryd.ntmps120
  go_wp2_with (go_at_call 84; refine (ca.out _).mono ?_; rintro e w2 ⟨rfl, hw⟩; obtain rfl := hw.symm)
  go_ret2
  exact ⟨rfl, by first | rfl | trivial⟩

theorem apply_leaf (k : Nat) (v : Value) (l : List Int) (w : World) (hG : GrpCells w) (hA : Ags w v l) (h : k = 1 ∨ k = 2) :
    Calls Tryd.prog 120 #[.int .i64 (k : Int), v] w fun e w' => e = .returned (.tuple #[.int .i64 0, .int .i64 2]) ∧ w' = w := by
  have hc := hG k (by omega)
  have hg : grps.getD k 0 = 0 := by rcases h with rfl | rfl <;> rfl
  rw [hg] at hc
  have ca : Hid (∀ W, Calls Tryd.prog 84 #[.int .i64 (k : Int)] W fun e w' => e = .returned (.tuple #[.int .i64 (aaK k), .int .i64 0]) ∧ w' = W) := fun W => by
    have := aarity_any k W
    rw [show aaE (k : Int) = 0 by unfold aaE; rw [if_neg (by omega)] ] at this
    exact this
  have hk : k < 18 := by omega
  obtain ⟨a, c, rfl, _⟩ := hA
  clear h hg hG
  go_enter Tryd.func120, Tryd.ntmps120
  go_wp2_with (go_at_call 84; refine (ca.out _).mono ?_; rintro e w2 ⟨rfl, hw⟩; obtain rfl := hw.symm)
  go_ret2
  exact ⟨rfl, by first | rfl | trivial⟩

theorem apply_many (k : Nat) (v : Value) (l : List Int) (w : World) (hG : GrpCells w) (hA : Ags w v l) (h : 3 ≤ k ∧ k ≤ 17) (hn : (l.length : Int) ≠ aaK k) :
    Calls Tryd.prog 120 #[.int .i64 (k : Int), v] w fun e w' => e = .returned (.tuple #[.int .i64 0, .int .i64 2]) ∧ w' = w := by
  have hc := hG k (by omega)
  have hg : (grps.getD k 0 == 0) = false := by
    have : k = 3 ∨ k = 4 ∨ k = 5 ∨ k = 6 ∨ k = 7 ∨ k = 8 ∨ k = 9 ∨ k = 10 ∨ k = 11 ∨ k = 12 ∨ k = 13 ∨ k = 14 ∨ k = 15 ∨ k = 16 ∨ k = 17 := by omega
    rcases this with rfl | rfl | rfl | rfl | rfl | rfl | rfl | rfl | rfl | rfl | rfl | rfl | rfl | rfl | rfl <;> rfl
  have ca : Hid (∀ W, Calls Tryd.prog 84 #[.int .i64 (k : Int)] W fun e w' => e = .returned (.tuple #[.int .i64 (aaK k), .int .i64 0]) ∧ w' = W) := fun W => by
    have := aarity_any k W
    rw [show aaE (k : Int) = 0 by unfold aaE; rw [if_neg (by omega)] ] at this
    exact this
  have hk : k < 18 := by omega
  generalize grps.getD k 0 = g at *
  generalize aaK (k : Int) = m at *
  have hne : ((l.length : Int) != m) = true := by simpa using hn
  obtain ⟨a, c, rfl, _⟩ := hA
  generalize l.length = N at *
  clear h hG hn
  go_enter Tryd.func120, Tryd.ntmps120
  go_wp2_with (go_at_call 84; refine (ca.out _).mono ?_; rintro e w2 ⟨rfl, hw⟩; obtain rfl := hw.symm)
  go_ret2
  exact ⟨rfl, by first | rfl | trivial⟩

theorem apply_one (k : Nat) (v : Value) (x : Int) (w : World) (hG : GrpCells w) (hA : Ags w v [x]) (h : k = 3 ∨ k = 4) :
    Calls Tryd.prog 120 #[.int .i64 (k : Int), v] w fun e w' => e = .returned (.tuple #[.int .i64 (ap1 k x), .int .i64 0]) ∧ w' = w := by
  have hc := hG k (by omega)
  have hg : grps.getD k 0 = 1 := by rcases h with rfl | rfl <;> rfl
  rw [hg] at hc
  have ca : Hid (∀ W, Calls Tryd.prog 84 #[.int .i64 (k : Int)] W fun e w' => e = .returned (.tuple #[.int .i64 1, .int .i64 0]) ∧ w' = W) := fun W => by
    have := aarity_any k W
    rw [show aaE (k : Int) = 0 by unfold aaE; rw [if_neg (by omega)], show aaK (k : Int) = 1 by unfold aaK; rw [if_pos (by omega)] ] at this
    exact this
  have ct : Hid (∀ W, Calls Tryd.prog 136 #[.int .i64 (k : Int), .int .i64 x] W fun e w' => e = .returned (.int .i64 (ap1 k x)) ∧ w' = W) := fun W => turned_any k x W
  have hk : k < 18 := by omega
  obtain ⟨a, c, rfl, hx⟩ := hA
  obtain hx | ⟨b, o, rfl, hx⟩ := hx
  · simp at hx
  have h0 := hx 0 x rfl
  rw [Nat.add_zero] at h0
  simp only [List.length_cons, List.length_nil, Nat.zero_add]
  generalize ap1 k x = r at *
  clear h hg hG hx
  go_enter Tryd.func120, Tryd.ntmps120
  go_wp2_with (first | (go_at_call 84; refine (ca.out _).mono ?_; rintro e w2 ⟨rfl, hw⟩; obtain rfl := hw.symm) | (go_at_call 136; refine (ct.out _).mono ?_; rintro e w3 ⟨rfl, hw⟩; obtain rfl := hw.symm))
  go_ret2
  exact ⟨rfl, by first | rfl | trivial⟩

theorem apply_three (v : Value) (x y z : Int) (w : World) (hG : GrpCells w) (hA : Ags w v [x, y, z]) :
    Calls Tryd.prog 120 #[.int .i64 17, v] w fun e w' => e = .returned (.tuple #[.int .i64 (if x = 0 then z else y), .int .i64 0]) ∧ ∃ m, w' = w.drewN m := by
  have hc := hG 17 (by omega)
  have hg : grps.getD 17 0 = 7 := rfl
  rw [hg] at hc
  have ca : Hid (∀ W, Calls Tryd.prog 84 #[.int .i64 17] W fun e w' => e = .returned (.tuple #[.int .i64 3, .int .i64 0]) ∧ w' = W) := fun W => aarity_any 17 W
  obtain ⟨r, hr⟩ : ∃ r, (if x = 0 then z else y) = r := ⟨_, rfl⟩
  have ct : Hid (∀ W, Calls Tryd.prog 137 #[.int .i64 x, .int .i64 y, .int .i64 z] W fun e w' => e = .returned (.int .i64 r) ∧ w' = W) := fun W => by rw [← hr]; exact chosen_any x y z W
  rw [hr]
  obtain ⟨a, c, rfl, hx⟩ := hA
  obtain hx | ⟨b, o, rfl, hx⟩ := hx
  · simp at hx
  have h0 := hx 0 x rfl
  have h1 := hx 1 y rfl
  have h2 := hx 2 z rfl
  rw [Nat.add_zero] at h0
  simp only [List.length_cons, List.length_nil, Nat.zero_add]
  clear hg hG hx hr
  go_enter Tryd.func120, Tryd.ntmps120
  go_wp2_with (go_at_call 84; refine (ca.out _).mono ?_; rintro e w2 ⟨rfl, hw⟩; obtain rfl := hw.symm)
  go_quiet ((go_at_call 137; exact Calls.quiet_of (Calls.same (ct.out _))))
  go_wp2
  go_ret2
  exact ⟨rfl, _, rfl⟩

theorem apply_two (k : Nat) (v : Value) (x y : Int) (w : World) (hG : GrpCells w) (hA : Ags w v [x, y]) (h : 5 ≤ k ∧ k ≤ 16) :
    Calls Tryd.prog 120 #[.int .i64 (k : Int), v] w fun e w' => e = .returned (.tuple #[.int .i64 (apR k [x, y]).1, .int .i64 (apR k [x, y]).2]) ∧ ∃ m, w' = w.drewN m := by
  have hc := hG k (by omega)
  have hg : (grps.getD k 0 == 0) = false ∧ (grps.getD k 0 == 1) = false ∧ (grps.getD k 0 == 7) = false := by
    have : k = 5 ∨ k = 6 ∨ k = 7 ∨ k = 8 ∨ k = 9 ∨ k = 10 ∨ k = 11 ∨ k = 12 ∨ k = 13 ∨ k = 14 ∨ k = 15 ∨ k = 16 := by omega
    rcases this with rfl | rfl | rfl | rfl | rfl | rfl | rfl | rfl | rfl | rfl | rfl | rfl <;> exact ⟨rfl, rfl, rfl⟩
  obtain ⟨g0, g1, g7⟩ := hg
  have ca : Hid (∀ W, Calls Tryd.prog 84 #[.int .i64 (k : Int)] W fun e w' => e = .returned (.tuple #[.int .i64 2, .int .i64 0]) ∧ w' = W) := fun W => by
    have := aarity_any k W
    rw [show aaE (k : Int) = 0 by unfold aaE; rw [if_neg (by omega)], show aaK (k : Int) = 2 by unfold aaK; rw [if_neg (by omega), if_pos (by omega)] ] at this
    exact this
  have ct : Hid (∀ W, GrpCells W → Calls Tryd.prog 138 #[.int .i64 (k : Int), .int .i64 x, .int .i64 y] W fun e w' => e = .returned (.tuple #[.int .i64 (apR k [x, y]).1, .int .i64 (apR k [x, y]).2]) ∧ w' = W) := fun W hW => ofTwo_any k x y W hW h
  have hk : k < 18 := by omega
  obtain ⟨a, c, rfl, hx⟩ := hA
  obtain hx | ⟨b, o, rfl, hx⟩ := hx
  · simp at hx
  have h0 := hx 0 x rfl
  have h1 := hx 1 y rfl
  rw [Nat.add_zero] at h0
  simp only [List.length_cons, List.length_nil, Nat.zero_add]
  generalize grps.getD k 0 = g at *
  generalize apR k [x, y] = r at *
  obtain ⟨r1, r2⟩ := r
  simp only at ct ⊢
  clear h hx
  go_enter Tryd.func120, Tryd.ntmps120
  go_wp2_with (go_at_call 84; refine (ca.out _).mono ?_; rintro e w2 ⟨rfl, hw⟩; obtain rfl := hw.symm)
  go_quiet ((go_at_call 138; exact Calls.quiet_of (Calls.same (ct.out _ (hG.drew _)))))
  go_wp2
  go_ret2
  exact ⟨rfl, _, rfl⟩

/-- WHAT APPLY ANSWERS. -/
theorem apply_any (op : Int) (v : Value) (l : List Int) (w : World) (hG : GrpCells w) (hA : Ags w v l) :
    Calls Tryd.prog 120 #[.int .i64 op, v] w fun e w' => e = .returned (.tuple #[.int .i64 (apR op l).1, .int .i64 (apR op l).2]) ∧ ∃ m, w' = w.drewN m := by
  by_cases hb : op < 1 ∨ 17 < op
  · have e : apR op l = (0, 2) := by
      unfold apR
      split
      · rw [if_neg (by omega)]
      · rw [if_neg (by omega)]
      · rw [if_neg (by omega)]
      · rfl
    rw [e]; exact Calls.same (apply_bad op v l w hA hb)
  obtain ⟨k, rfl⟩ : ∃ k : Nat, op = k := ⟨op.toNat, by omega⟩
  by_cases h12 : k = 1 ∨ k = 2
  · have e : apR k l = (0, 2) := by
      unfold apR
      split
      · rw [if_neg (by omega)]
      · rw [if_neg (by omega)]
      · rw [if_neg (by omega)]
      · rfl
    rw [e]; exact Calls.same (apply_leaf k v l w hG hA h12)
  by_cases hn : (l.length : Int) = aaK k
  · by_cases h34 : k = 3 ∨ k = 4
    · have e : aaK (k : Int) = 1 := by unfold aaK; rw [if_pos (by omega)]
      rw [e] at hn
      match l, hn, hA with
      | [x], _, hA =>
        have e2 : apR k [x] = (ap1 k x, 0) := by simp only [apR]; rw [if_pos (by omega)]
        rw [e2]; exact Calls.same (apply_one k v x w hG hA h34)
    by_cases h17 : k = 17
    · subst h17
      match l, hn, hA with
      | [x, y, z], _, hA => exact apply_three v x y z w hG hA
    · have e : aaK (k : Int) = 2 := by unfold aaK; rw [if_neg (by omega), if_pos (by omega)]
      rw [e] at hn
      match l, hn, hA with
      | [x, y], _, hA => exact apply_two k v x y w hG hA (by omega)
  · have e : apR k l = (0, 2) := by
      unfold aaK at hn
      unfold apR
      split
      · rw [if_neg]; intro h; rw [if_pos h] at hn; exact hn rfl
      · rw [if_neg]; intro h; rw [if_neg (by omega), if_pos h] at hn; exact hn rfl
      · rw [if_neg]; intro h; rw [if_neg (by omega), if_neg (by omega), if_pos h] at hn; exact hn rfl
      · rfl
    rw [e]; exact Calls.same (apply_many k v l w hG hA (by omega) hn)
end Go.Proofs.YtfdghbbanokopaaDoor
