/-
  The terms within an expression's term are its places' terms, plainly; many marks of ranges over functions, taken at a return.
-/
import Derived.Test.YtdcfjopmddaemaaDoorMGG
import Derived.Test.YtdcfjopmddaemaaDoorMBxOfW
set_option linter.unusedSimpArgs false
set_option linter.unusedVariables false
namespace Go.Proofs.YtdcfjopmddaemaaDoor
open Go.RowKit

theorem parts_tm {l : List Nd} {fr : List Nat} (hs : begL l = some fr) {i : Nat} (hi : i < l.length) : partsT (tmA l i) = (l.getD i nd0).kids.map (fun k => tmA l k.toNat) := by
  have hk := snd_kk hs i hi
  have hf := ((begOk_of (begL_some hs).2.2.1).at_ i hi).1
  rcases form_cases hf with ⟨h1, h2⟩ | ⟨h1, h2⟩ | ⟨h1, h2, a, h3⟩ | ⟨h1, h2, a, b, h3⟩ | ⟨h1, c, a, b, h3⟩
  · rw [tmA_lit hi h1 hk, h2]; rfl
  · rw [tmA_var hi h1 hk, h2]; rfl
  · have ha : a = ((a.toNat : Nat) : Int) := by have := hk a (by rw [h3]; simp); omega
    rw [tmA_un hi h1 h2 a.toNat (by rw [h3, ← ha]) hk, h3]; rfl
  · have ha : a = ((a.toNat : Nat) : Int) := by have := hk a (by rw [h3]; simp); omega
    have hb : b = ((b.toNat : Nat) : Int) := by have := hk b (by rw [h3]; simp); omega
    rw [tmA_bin hi h1 h2 a.toNat b.toNat (by rw [h3, ← ha, ← hb]) hk, h3]; rfl
  · have hc : c = ((c.toNat : Nat) : Int) := by have := hk c (by rw [h3]; simp); omega
    have ha : a = ((a.toNat : Nat) : Int) := by have := hk a (by rw [h3]; simp); omega
    have hb : b = ((b.toNat : Nat) : Int) := by have := hk b (by rw [h3]; simp); omega
    rw [tmA_ifs hi h1 c.toNat a.toNat b.toNat (by rw [h3, ← hc, ← ha, ← hb]) hk, h3]; rfl
theorem chain_seg {fr : List Nat} (hl : Low fr) : ∀ (ks : List Int) (c a : Nat), chainL fr ks c = some a → (ks.reverse.map fun k => List.range' (fr.getD k.toNat 0) (k.toNat + 1 - fr.getD k.toNat 0)).flatten = List.range' a (c - a) := by
  intro ks
  induction ks with
  | nil => intro c a h; simp [chainL] at h; subst h; simp
  | cons k ks ih =>
    intro c a h
    simp only [chainL] at h
    split at h
    · cases h
    · rename_i hc
      have e : k.toNat = c - 1 := by omega
      have h1 := ih _ _ h
      have h2 := chainL_le hl _ _ _ h
      have h3 := hl (c - 1)
      rw [List.reverse_cons, List.map_append, List.flatten_append, h1]
      simp only [List.map_cons, List.map_nil, List.flatten_cons, List.flatten_nil, List.append_nil, e]
      have e2 : fr.getD (c - 1) 0 = a + (fr.getD (c - 1) 0 - a) := by omega
      have e3 : c - a = (fr.getD (c - 1) 0 - a) + (c - 1 + 1 - fr.getD (c - 1) 0) := by omega
      rw [e3]
      conv => lhs; rhs; rw [e2]
      rw [show c - 1 + 1 - (a + (fr.getD (c - 1) 0 - a)) = c - 1 + 1 - fr.getD (c - 1) 0 by omega]
      exact List.range'_append_1 ..
theorem subs_tm {l : List Nd} {fr : List Nat} (hs : begL l = some fr) : ∀ i, i < l.length → subsT (tmA l i) = (List.range' (fr.getD i 0) (i + 1 - fr.getD i 0)).map (tmA l) := by
  have hok := begOk_of (begL_some hs).2.2.1
  intro i
  induction i using Nat.strongRecOn with
  | ind i IH =>
    intro hi
    have hk := snd_kk hs i hi
    rw [subsT_eq, parts_tm hs hi, List.map_map]
    have e1 : (l.getD i nd0).kids.map (subsT ∘ fun k => tmA l k.toNat) = (l.getD i nd0).kids.map (fun k => (List.range' (fr.getD k.toNat 0) (k.toNat + 1 - fr.getD k.toNat 0)).map (tmA l)) := by
      refine List.map_congr_left fun k hkk => ?_
      have := hk k hkk
      exact IH k.toNat (by omega) (by omega)
    have e2 := chain_seg hok.low _ _ _ (hok.at_ i hi).2
    rw [List.reverse_reverse] at e2
    rw [e1]
    have e3 : ((l.getD i nd0).kids.map (fun k => (List.range' (fr.getD k.toNat 0) (k.toNat + 1 - fr.getD k.toNat 0)).map (tmA l))).flatten = (List.range' (fr.getD i 0) (i - fr.getD i 0)).map (tmA l) := by
      rw [← e2, List.map_flatten, List.map_map]; rfl
    have hlow := hok.low i
    rw [e3, show i + 1 - fr.getD i 0 = (i - fr.getD i 0) + 1 by omega, List.range'_concat, List.map_append, show fr.getD i 0 + 1 * (i - fr.getD i 0) = i by omega]
    rfl
/-- All of an expression's term: the terms of its places. -/
theorem all_tm {l : List Nd} {fr : List Nat} (hs : begL l = some fr) : allT (tmA l (l.length - 1)) = (List.range l.length).map (tmA l) := by
  obtain ⟨h0, _, hr, ht⟩ := begL_some hs
  have hsn : sndB (flatT (tmA l (l.length - 1))) = true := by rw [flat_whole hs]; unfold sndB; rw [hs]; rfl
  unfold allT
  rw [if_pos hsn, subs_tm hs _ (by omega), ht, show l.length - 1 + 1 - 0 = l.length by omega, ← List.range_eq_range']

def mkD (D : Nat) : Deferred := { target := .collected D, args := #[] }
/-- At a return all marks are taken, and nothing else turns. -/
theorem leaves_marks {F : Fence} {n : Nat} {P : Program} {fn : Func} {tmps : Array Value} {R : Ending → World → Prop} : ∀ (ds : List Nat) (w : World), ds.Nodup → (∀ D ∈ ds, w.heap[D]? = some (.deferred (some []))) →
    (∀ w' : World, w'.os = w.os → w'.tape = w.tape → w'.output = w.output → w'.heap.size = w.heap.size → (∀ b, b ∉ ds → w'.heap[b]? = w.heap[b]?) → LeavesIn F n P fn tmps R [] .returning w') → LeavesInM F n P fn tmps R (ds.map mkD) .returning w := by
  intro ds
  induction ds with
  | nil => intro w _ _ h; exact h w rfl rfl rfl rfl (fun _ _ => rfl)
  | cons D ds ih =>
    intro w hn hd h
    obtain ⟨hn1, hn2⟩ := List.nodup_cons.1 hn
    have hD := hd D (by simp)
    refine ⟨by simp, .inl ⟨D, w.putObj D (.deferred none), rfl, run_takeDeferred hD, ih _ hn2 (fun E hE => ?_) (fun w' h1 h2 h3 h4 h5 => ?_)⟩⟩
    · rw [World.putObj_heap_other (fun e => hn1 (by subst e; exact hE))]
      exact hd E (by simp [hE])
    · refine h w' h1 h2 h3 (h4.trans (by simp)) (fun b hb => ?_)
      rw [h5 b (fun e => hb (by simp [e])), World.putObj_heap_other (fun e => hb (by simp [e]))]
end Go.Proofs.YtdcfjopmddaemaaDoor
