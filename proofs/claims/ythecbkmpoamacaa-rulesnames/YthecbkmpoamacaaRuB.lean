/-
  The table's lines as they are read; the name of a rule looked for: both ways.
-/
import Derived.Test.YthecbkmpoamacaaRuA
set_option linter.unusedSimpArgs false
set_option linter.unusedVariables false
namespace Go.Proofs.Ythecbkmpoamacaa
open Go.RowKit

theorem four_at {α β : Type} (f : α → List β) (hf : ∀ x, (f x).length = 4) : ∀ (L : List α) (i j : Nat), j < 4 → (L.flatMap f)[4 * i + j]? = (L[i]?).bind fun x => (f x)[j]? := by
  intro L
  induction L with
  | nil => intro i j _; simp
  | cons x r ih =>
    intro i j hj
    rw [List.flatMap_cons]
    cases i with
    | zero =>
      rw [List.getElem?_append_left (by rw [hf]; omega)]
      simp
    | succ i =>
      rw [List.getElem?_append_right (by rw [hf]; omega), hf, show 4 * (i + 1) + j - 4 = 4 * i + j by omega, ih i j hj]
      simp
theorem pSl_len : ∀ (L : List Ln) (h : Nat), (pSl h L).length = L.length := by
  intro L
  induction L with
  | nil => intro h; rfl
  | cons x r ih => intro h; simp [pSl, ih]
/-- A line of the program's table in memory. -/
theorem pCells_at (h i : Nat) (hi : i < 44) : ∃ s, (pCells h)[4 * i]? = some (.string (lnL.getD i ln0).name) ∧ (pCells h)[4 * i + 1]? = some (.string (lnL.getD i ln0).left) ∧ (pCells h)[4 * i + 2]? = some (.string (lnL.getD i ln0).right) ∧ (pCells h)[4 * i + 3]? = some s := by
  have hl : i < lnL.length := hi
  have hz : i < (lnL.zip (pSl h lnL)).length := by rw [List.length_zip, pSl_len]; omega
  have hp : i < (pSl h lnL).length := by rw [pSl_len]; exact hl
  have e : (lnL.zip (pSl h lnL))[i]? = some (lnL.getD i ln0, (pSl h lnL)[i]) := by
    rw [List.getElem?_eq_getElem hz, List.getElem_zip]
    simp [hl]
  have key : ∀ j, j < 4 → (pCells h)[4 * i + j]? = ([Value.string (lnL.getD i ln0).name, .string (lnL.getD i ln0).left, .string (lnL.getD i ln0).right, (pSl h lnL)[i]])[j]? := by
    intro j hj
    unfold pCells
    rw [List.getElem?_toArray, four_at _ (fun _ => rfl) _ i j hj, e]
    rfl
  exact ⟨_, key 0 (by omega), key 1 (by omega), key 2 (by omega), key 3 (by omega)⟩
/-- A line of the document's table in memory: its name. -/
theorem rCells_at (i : Nat) (hi : i < 44) : rCells[4 * i]? = some (.string (lnL.getD i ln0).name) := by
  have hl : i < lnL.length := hi
  unfold rCells
  have := four_at (fun l : Ln => [Value.string l.name, .string l.left, .string l.right, .string ⟨(sideT l.sides).toArray⟩]) (fun _ => rfl) lnL i 0 (by omega)
  rw [List.getElem?_toArray, ← Nat.add_zero (4 * i), this, List.getElem?_eq_getElem hl]
  simp [hl]

theorem idxR_le (s : ByteArray) : idxR s ≤ 44 := List.findIdx_le_length
theorem idxR_at {s : ByteArray} (h : idxR s < 44) : (lnL.getD (idxR s) ln0).name = s := by
  have hl : idxR s < lnL.length := h
  have := List.findIdx_getElem (w := hl)
  simp only [decide_eq_true_eq] at this
  rw [List.getD_eq_getElem?_getD, List.getElem?_eq_getElem hl]
  exact this
theorem idxR_not {s : ByteArray} {i : Nat} (h : i < idxR s) : (lnL.getD i ln0).name ≠ s := by
  have hl : i < lnL.length := Nat.lt_of_lt_of_le h (idxR_le s)
  have := List.not_of_lt_findIdx h
  rw [List.getD_eq_getElem?_getD, List.getElem?_eq_getElem hl]
  simpa using this
theorem idxR_eq {s : ByteArray} {i : Nat} (hi : i < 44) (ha : i ≤ idxR s) (h : (lnL.getD i ln0).name = s) : idxR s = i := by
  rcases Nat.lt_or_ge i (idxR s) with h1 | h1
  · exact absurd h (idxR_not h1)
  · omega

theorem beq_toLisR (a b : ByteArray) : (a.toList == b.toList) = decide (a = b) := by
  rw [Bool.eq_iff_iff, beq_iff_eq, decide_eq_true_eq]
  constructor
  · intro h
    obtain ⟨a⟩ := a
    obtain ⟨b⟩ := b
    rw [ByteArray.toList_eq, ByteArray.toList_eq] at h
    simpa using h
  · rintro rfl; rfl
/-- What Named answers. -/
def namR (s : ByteArray) : Int × Int := if idxR s < 44 then (idxR s, 0) else (0, 7)

set_option maxRecDepth 20000 in
set_option maxHeartbeats 1000000 in
theorem rnamed_any (w : World) (s : ByteArray) :
    Calls Try.prog 8 #[.string s] w fun e w' => e = .returned (.tuple #[.int .i64 (namR s).1, .int .i64 (namR s).2]) ∧ Below w.heap.size w w' := by
  have cT := rtable_any w
  have hC : Hid (∀ k, (w.alloc (.cells rCells 44)).cell? ⟨w.heap.size, k, none⟩ = rCells[k]?) := fun k => World.cell?_alloc_new w rCells 44 k
  have hB : Hid (Below w.heap.size w (w.alloc (.cells rCells 44))) := (Below.refl _ _).alloc (Nat.le_refl _) _
  go_enter Try.func8, Try.ntmps8
  go_wp2_with (go_at_call 13; refine cT.mono ?_; rintro e w2 ⟨rfl, rfl⟩)
  generalize w.alloc (.cells rCells 44) = w1 at *
  go_loopw [5] (fun i wr => ∃ k : Nat, k ≤ 44 ∧ i = .int .i64 k ∧ k ≤ idxR s ∧ wr = w1) (fun i _ => 44 - (RowKit.intOf i).toNat)
  case atStart => exact ⟨0, by omega, rfl, by omega, rfl⟩
  case round =>
    obtain ⟨k, hk, rfl, hA, e9⟩ := hrel
    subst e9
    by_cases hlt : k < 44
    · have hc : wr.cell? ⟨w.heap.size, k * 4, none⟩ = some (.string (lnL.getD k ln0).name) := by rw [hC.out (k * 4), Nat.mul_comm k 4]; exact rCells_at k hlt
      by_cases he : (lnL.getD k ln0).name = s
      · have hi := idxR_eq hlt hA he
        have hN : Hid (namR s = ((k : Int), 0)) := by show namR s = _; unfold namR; rw [hi, if_pos hlt]
        rw [he] at hc
        clear hi he
        have e1 : (s.toList == s.toList) = true := by simp
        go_wp2_with fail
        go_ret2
        exact ⟨by rw [hN.out]; rfl, hB.out⟩
      · have hn : Hid (k + 1 ≤ idxR s) := by
          show k + 1 ≤ idxR s
          rcases Nat.lt_or_ge k (idxR s) with h | h
          · exact h
          · exact absurd (by rw [show k = idxR s by omega]; exact idxR_at (by omega)) he
        generalize (lnL.getD k ln0).name = nm at *
        have e1 : (nm.toList == s.toList) = false := by rw [beq_toLisR]; exact decide_eq_false he
        go_wp2_with fail
        refine ⟨⟨k + 1, by omega, by go_num, hn.out, ?_⟩, by simp [RowKit.intOf]; omega⟩ <;> trivial
    · have hke : k = 44 := by omega
      subst hke
      have hN : Hid (namR s = (0, 7)) := by show namR s = _; unfold namR; rw [if_neg (by omega)]
      go_wp2_with fail
      go_ret2
      exact ⟨by rw [hN.out]; rfl, hB.out⟩
end Go.Proofs.Ythecbkmpoamacaa
