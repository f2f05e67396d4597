/-
  Plain facts for the walk of ExprSwaps.
-/
import Derived.Test.YtfhfokceeidhcaaDoorSwTryW
set_option linter.unusedSimpArgs false
set_option linter.unusedVariables false
namespace Go.Proofs.YtfhfokceeidhcaaDoor
open Go.RowKit Go.Lib

theorem swL_keep (l : List Nd) (names : List ByteArray) (k : Nat) (h : k < l.length) (hn : swN names (cntV l k) (l.getD k nd0) = l.getD k nd0) : swL l names (k + 1) = swL l names k := by
  apply ext_getD (by simp [swL])
  intro j hj
  rw [swL_len] at hj
  rw [swL_at _ _ _ _ hj, swL_at _ _ _ _ hj]
  by_cases e : j = k
  · subst e
    rw [if_pos (by omega), if_neg (by omega), hn]
  · by_cases h2 : j < k
    · rw [if_pos (by omega), if_pos h2]
    · rw [if_neg (by omega), if_neg h2]
theorem cntV_succ (l : List Nd) (k : Nat) (h : k < l.length) : cntV l (k + 1) = cntV l k + if (l.getD k nd0).op = 2 then 1 else 0 := by
  unfold cntV
  rw [vsL_succ l k h, List.length_append]
  split <;> simp
theorem cntV_mono (l : List Nd) {k m : Nat} (h : k ≤ m) : cntV l k ≤ cntV l m := by
  unfold cntV
  have e : l.take m = l.take k ++ (l.take m).drop k := by
    conv => lhs; rw [← List.take_append_drop k (l.take m)]
    rw [List.take_take, Nat.min_eq_left h]
  rw [e]
  unfold vsL
  rw [List.filter_append, List.map_append, List.length_append]
  omega
/-- The question at a variable. -/
theorem vs_at (l : List Nd) {k m : Nat} (h : k < m) (hm : m ≤ l.length) (hop : (l.getD k nd0).op = 2) : cntV l k < (vsL (l.take m)).length ∧ (vsL (l.take m)).getD (cntV l k) ⟨#[]⟩ = (l.getD k nd0).name := by
  have hk : k < l.length := by omega
  have e : l.take m = l.take (k + 1) ++ (l.take m).drop (k + 1) := by
    conv => lhs; rw [← List.take_append_drop (k + 1) (l.take m)]
    rw [List.take_take, Nat.min_eq_left (by omega)]
  have e2 : vsL (l.take m) = vsL (l.take k) ++ ([(l.getD k nd0).name] ++ vsL ((l.take m).drop (k + 1))) := by
    rw [e]
    have : ∀ a b : List Nd, vsL (a ++ b) = vsL a ++ vsL b := fun a b => by unfold vsL; rw [List.filter_append, List.map_append]
    rw [this, vsL_succ l k hk, if_pos hop, List.append_assoc]
    congr 3
    rw [← e]
  refine ⟨by rw [e2]; unfold cntV; simp, ?_⟩
  rw [e2]
  unfold cntV
  simp
theorem Strs.cell {w : World} {ao : Option Addr} {cap : Nat} {qs : List ByteArray} (h : Strs w ao cap qs) {j : Nat} (hj : j < qs.length) : ∃ b o, ao = some ⟨b, o, none⟩ ∧ b < w.heap.size ∧ w.cell? ⟨b, o + j, none⟩ = some (.string (qs.getD j ⟨#[]⟩)) := by
  rcases h.2.2 with h | ⟨b, o, e, hlt, hc⟩
  · subst h; simp at hj
  · exact ⟨b, o, e, hlt, hc j hj⟩
theorem Rd.cell {w : World} {ao : Option Addr} {cap : Nat} {l : List Nd} (h : Rd w ao cap l) {k : Nat} (hk : k < l.length) : ∃ b o kv, ao = some ⟨b, o, none⟩ ∧ b < w.heap.size ∧ NodeAt w w.heap.size b (o + k * 4) (l.getD k nd0) kv := by
  obtain ⟨ao', cap', e1, _, _, hc⟩ := h
  cases e1
  rcases hc with h | ⟨b, o, e, hlt, hc⟩
  · subst h; simp at hk
  · obtain ⟨kv, hn⟩ := hc k hk
    exact ⟨b, o, kv, e, hlt, hn⟩

/-- A node of one's own. -/
theorem own_node {w : World} {B g cap k : Nat} {p : List (Nd × Value)} (h : OwnP w B (.slice (some ⟨g, 0, none⟩) p.length cap) p) (hk : k < p.length) :
    ∃ kv, p[k]? = some ((p.map (·.1)).getD k nd0, kv) ∧ w.cell? ⟨g, k * 4 + 2, none⟩ = some (.string ((p.map (·.1)).getD k nd0).name) ∧ w.frozen? ⟨g, k * 4 + 2, none⟩ = false ∧ g < w.heap.size := by
  have e3 : (p.map (·.1)).getD k nd0 = (p[k]).1 := by simp [hk]
  have h0 := (ndCells_at p k (p[k]).1 (p[k]).2 (by simp [hk])).2.2.1
  refine ⟨(p[k]).2, by rw [e3]; simp [hk], ?_⟩
  rw [e3]
  rcases h.row.2 with ⟨h, _⟩ | ⟨g', cp, cur, h, _, hg', _, _, _, ht⟩
  · cases h
  · cases h
    refine ⟨?_, by simp [World.frozen?, hg'], lt_of_block hg'⟩
    have hcell : w.cell? ⟨g, k * 4 + 2, none⟩ = cur[k * 4 + 2]? := by simp [World.cell?, hg']
    rw [hcell, ← Array.getElem?_toList]
    have e4 : cur.toList[k * 4 + 2]? = (ndCells p)[k * 4 + 2]? := by rw [← ht, List.getElem?_take, if_pos (by omega)]
    rw [e4]; exact h0
end Go.Proofs.YtfhfokceeidhcaaDoor
