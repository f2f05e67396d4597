/-
  The function that Swap is handed, and what it leaves.
-/
import Derived.Test.YtfhfokceeidhcaaDoorSwPure
import Derived.Recover
import Derived.Defers
set_option linter.unusedSimpArgs false
set_option linter.unusedVariables false
namespace Go.Proofs.YtfhfokceeidhcaaDoor
open Go.RowKit Go.Lib

theorem Tryd.infoStr : (Tryd.prog.info? 9).map (fun i => (i.zero, i.size, i.bytes)) = some (some (.string ⟨#[]⟩), 1, 16) := by kernel_rfl
/-- The stop, not yet caught. -/
def stopV (stop : Int) : Value := .iface 50 (.agg #[.int .i64 stop])

def AskP (w : World) (A : Nat) (va : Value) (qs names : List ByteArray) (stop : Int) (nm : ByteArray) (e : Ending) (w' : World) : Prop :=
  ∃ va', AskAt w' A va' (qs ++ [nm]) ∧ FrA w w' A va va' ∧
    ((((qs.length + 1 : Nat) : Int) = stop ∧ e = .panicked [{ v := stopV stop, recovered := false }]) ∨ (((qs.length + 1 : Nat) : Int) ≠ stop ∧ e = .returned (.string (ansS names (qs.length + 1) nm))))

set_option maxRecDepth 20000 in
set_option maxHeartbeats 1000000 in
theorem ask_any (w : World) (A Sb Nb : Nat) (va : Value) (qs names : List ByteArray) (stop : Int) (na : Option Addr) (nc : Nat) (nm : ByteArray) (hA : AskAt w A va qs) (hC : Cst w A Sb Nb stop na nc names) (h64 : qs.length ≤ 64) :
    Calls Tryd.prog 47 #[.string nm, .pointer (some ⟨A, 0, none⟩), .pointer (some ⟨Sb, 0, none⟩), .pointer (some ⟨Nb, 0, none⟩)] w (AskP w A va qs names stop nm) := by
  obtain ⟨i0, hi, hz0, hz1, hz2⟩ := info_parts Tryd.infoStr
  have HA : Hid (AskAt w A va qs) := hA
  have HC : Hid (Cst w A Sb Nb stop na nc names) := hC
  have hAlt := lt_of_block hA.blk
  obtain ⟨aa, ac, hva⟩ := row_form' hA.row
  subst hva
  obtain ⟨n, hn⟩ : ∃ n, qs.length = n := ⟨_, rfl⟩
  have hrow := hA.row
  have c0 : w.cell? ⟨A, 0, none⟩ = some (.slice aa qs.length ac) := by simp [World.cell?, hA.blk]
  have f0 : w.frozen? ⟨A, 0, none⟩ = false := by simp [World.frozen?, hA.blk]
  have hsb := hC.sb
  have hnb := hC.nb
  have hAw : A ≠ w.heap.size := by omega
  have z0 : ∀ o, (w.alloc o).cell? ⟨A, 0, none⟩ = some (.slice aa n ac) := fun o => (World.cell?_alloc_past _ _ _ (by show A < w.heap.size; omega)).trans (hn ▸ c0)
  rw [hn] at c0 hrow h64
  have HG6 : Hid (∀ (o : Obj) (w6 : World), (w.alloc o).grownBy w6 (Value.slice aa n ac).ownBlock → w6.heap[A]? = w.heap[A]? ∧ (∀ b, b < A → w6.heap[b]? = w.heap[b]?)) := fun o w6 hg => by
    refine ⟨?_, fun b hb => ?_⟩
    · have h1 := hg.block A (by rw [World.size_alloc]; omega) (fun e => by have := (own_block' hrow A e.symm).1; omega)
      exact h1.trans (Deep.blk_alloc_lt _ _ _ hAlt)
    · have h1 := hg.block b (by rw [World.size_alloc]; omega) (fun e => by have := (own_block' hrow b e.symm).1; omega)
      exact h1.trans (Deep.blk_alloc_lt _ _ _ (by omega))
  have HN : Hid (qs.length = n) := hn
  clear hA hC hn
  have hs0 := HC.out.stopC
  have hs1 := HC.out.namesC
  have hl := HC.out.len
  unfold maxLen at hl
  obtain ⟨hl1, hl2⟩ := hl
  have hsA : Sb ≠ A := by omega
  have hnA : Nb ≠ A := by omega
  have HEND : Hid (∀ (w6 : World) (g6 cap6 : Nat), (w.alloc (.cells #[.string nm] 9)).grownBy w6 (Value.slice aa n ac).ownBlock → w6.ownsRow (A + 1) 9 1 (.slice (some ⟨g6, 0, none⟩) (n + 1) cap6) (n + 1) (qs.map Value.string ++ [.string nm]) → ((Value.slice aa n ac).ownBlock = some g6 ∨ g6 = (w.alloc (.cells #[.string nm] 9)).heap.size) →
      AskAt (w6.setCell ⟨A, 0, none⟩ (.slice (some ⟨g6, 0, none⟩) (n + 1) cap6)) A (.slice (some ⟨g6, 0, none⟩) (n + 1) cap6) (qs ++ [nm]) ∧ FrA w (w6.setCell ⟨A, 0, none⟩ (.slice (some ⟨g6, 0, none⟩) (n + 1) cap6)) A (.slice aa n ac) (.slice (some ⟨g6, 0, none⟩) (n + 1) cap6))   := fun w6 g6 cap6 hg hown hat => by
    have hk := (HG6.out _ w6 hg).1
    have hgA := (own_block' hown g6 rfl).1
    refine ⟨⟨?_, ?_⟩, ⟨hg.os, hg.tape, hg.output, ?_, fun b hb h1 h2 => ?_, fun b hb => ?_⟩⟩
    · have := heap_setCell_same w6 A 0 _ _ (.slice (some ⟨g6, 0, none⟩) (n + 1) cap6) (hk.trans HA.out.blk)
      simpa using this
    · have h1 := own_set' (p := A) (o := 0) (u := .slice (some ⟨g6, 0, none⟩) (n + 1) cap6) hown (by simp [Value.ownBlock]; omega)
      have e1 : (qs ++ [nm]).length = n + 1 := by simp [HN.out]
      have e2 : (qs ++ [nm]).map Value.string = qs.map Value.string ++ [.string nm] := by simp
      rw [e1, e2]; exact h1
    · have := hg.size
      rw [World.size_alloc] at this
      simp; omega
    · rw [Deep.blk_setCell_other _ _ _ _ h1, hg.block b (by rw [World.size_alloc]; omega) (fun e => h2 e.symm)]
      exact Deep.blk_alloc_lt _ _ _ hb
    · simp [Value.ownBlock] at hb
      subst hb
      rcases hat with h | h
      · exact .inl h
      · right; rw [h, World.size_alloc]; omega
  have HS6 : Hid (∀ (o : Obj) (w6 : World), (w.alloc o).grownBy w6 (Value.slice aa n ac).ownBlock → w6.cell? ⟨A, 0, none⟩ = some (.slice aa n ac) ∧ w6.frozen? ⟨A, 0, none⟩ = false ∧ w6.cell? ⟨Sb, 0, none⟩ = some (.int .i64 stop) ∧ w6.cell? ⟨Nb, 0, none⟩ = some (.slice na names.length nc)) := fun o w6 hg => by
    obtain ⟨h1, h2⟩ := HG6.out o w6 hg
    exact ⟨(World.cell?_of_block (a := ⟨A, 0, none⟩) h1).trans c0, (World.frozen?_of_block (a := ⟨A, 0, none⟩) h1).trans f0, (World.cell?_of_block (a := ⟨Sb, 0, none⟩) (h2 Sb hsb)).trans hs0, (World.cell?_of_block (a := ⟨Nb, 0, none⟩) (h2 Nb hnb)).trans hs1⟩
  by_cases hst : (n : Int) + 1 = stop
  · have HST : Hid ((n : Int) + 1 = stop) := hst
    have hpn : ∀ (x : Value) (w : World), (Instr.panic (.iface 50 x)).run Tryd.prog w = .halt (.panic (.iface 50 x)) w := fun _ _ => rfl
    go_enter Tryd.func47, Tryd.ntmps47
    go_wp2_with (at_builtin; refine wpList_append_lies _ rfl (.tmp 6) (.tmp 8) 33 rfl (A + 1) 9 i0 (.string ⟨#[]⟩) 1 16 Tryd.underlying33 hi hz0 hz1 hz2 rfl (by decide) _ _ _ rfl (hrow.alloc _) ⟨w.heap.size, 0, none⟩ 1 1 [.string nm] rfl rfl (cell_news_one _ _ _) (by simp [Value.oneCell']) (by omega) (by unfold maxLen; omega) (by omega) (by simp; omega) _ rfl ?_; intro g6 cap6 w6 hown6 hg6 hat6 hl6; obtain ⟨m6, m6f, s6, n6⟩ := HS6.out _ w6 hg6)
    obtain ⟨h1, h2⟩ := HEND.out w6 g6 cap6 hg6 hown6 hat6
    have e := HN.out
    subst e
    exact ⟨rfl, _, h1, h2, .inl ⟨by have := HST.out; omega, rfl⟩⟩
  · have hst' : ((n : Int) + 1 == stop) = false := by simp [hst]
    have HST : Hid ((n : Int) + 1 ≠ stop) := hst
    by_cases hgt : n + 1 ≤ names.length
    · have HAN : Hid (ansS names (n + 1) nm = names.getD n ⟨#[]⟩) := by rw [Hid]; unfold ansS; rw [if_pos hgt, Nat.add_sub_cancel]
      obtain ⟨b, o, rfl, hbA, hbc⟩ : ∃ b o, na = some ⟨b, o, none⟩ ∧ b < A ∧ ∀ j, j < names.length → w.cell? ⟨b, o + j, none⟩ = some (.string (names.getD j ⟨#[]⟩)) := by
        rcases HC.out.row with h | h
        · subst h; simp at hgt
        · exact h
      have r0 := hbc n (by omega)
      have hbne : b ≠ A := by omega
      obtain ⟨s, hs⟩ : ∃ s, names.getD n ⟨#[]⟩ = s := ⟨_, rfl⟩
      rw [hs] at r0 HAN
      have HR6 : Hid (∀ (o' : Obj) (w6 : World), (w.alloc o').grownBy w6 (Value.slice aa n ac).ownBlock → w6.cell? ⟨b, o + n, none⟩ = some (.string s)) := fun o' w6 hg => (World.cell?_of_block (a := ⟨b, o + n, none⟩) ((HG6.out o' w6 hg).2 b hbA)).trans r0
      clear hs hbc
      have hgt' : ¬ ((names.length : Int) < (n : Int) + 1) := by omega
      have hn1 : (n : Int) < (names.length : Int) := by omega
      go_enter Tryd.func47, Tryd.ntmps47
      go_wp2_with (at_builtin; refine wpList_append_lies _ rfl (.tmp 6) (.tmp 8) 33 rfl (A + 1) 9 i0 (.string ⟨#[]⟩) 1 16 Tryd.underlying33 hi hz0 hz1 hz2 rfl (by decide) _ _ _ rfl (hrow.alloc _) ⟨w.heap.size, 0, none⟩ 1 1 [.string nm] rfl rfl (cell_news_one _ _ _) (by simp [Value.oneCell']) (by omega) (by unfold maxLen; omega) (by omega) (by simp; omega) _ rfl ?_; intro g6 cap6 w6 hown6 hg6 hat6 hl6; obtain ⟨m6, m6f, s6, n6⟩ := HS6.out _ w6 hg6; have r6 := HR6.out _ w6 hg6)
      go_ret
      obtain ⟨h1, h2⟩ := HEND.out w6 g6 cap6 hg6 hown6 hat6
      have e := HN.out
      subst e
      exact ⟨_, h1, h2, .inr ⟨by have := HST.out; omega, by rw [HAN.out]; rfl⟩⟩
    · have HAN : Hid (ansS names (n + 1) nm = nm) := by rw [Hid]; unfold ansS; rw [if_neg hgt]
      have hgt' : (names.length : Int) < (n : Int) + 1 := by omega
      go_enter Tryd.func47, Tryd.ntmps47
      go_wp2_with (at_builtin; refine wpList_append_lies _ rfl (.tmp 6) (.tmp 8) 33 rfl (A + 1) 9 i0 (.string ⟨#[]⟩) 1 16 Tryd.underlying33 hi hz0 hz1 hz2 rfl (by decide) _ _ _ rfl (hrow.alloc _) ⟨w.heap.size, 0, none⟩ 1 1 [.string nm] rfl rfl (cell_news_one _ _ _) (by simp [Value.oneCell']) (by omega) (by unfold maxLen; omega) (by omega) (by simp; omega) _ rfl ?_; intro g6 cap6 w6 hown6 hg6 hat6 hl6; obtain ⟨m6, m6f, s6, n6⟩ := HS6.out _ w6 hg6)
      go_ret
      obtain ⟨h1, h2⟩ := HEND.out w6 g6 cap6 hg6 hown6 hat6
      have e := HN.out
      subst e
      exact ⟨_, h1, h2, .inr ⟨by have := HST.out; omega, by rw [HAN.out]; rfl⟩⟩
end Go.Proofs.YtfhfokceeidhcaaDoor
