/-
  Small contracts under Order: comparing numbers, the first that is not 0, and cursors.
-/
import Derived.Test.YteaipdmbdcmmeaaDoorExBegW
import Derived.Test.YteaipdmbdcmmeaaDoorOrdPure
import Derived.Test.YteaipdmbdcmmeaaDoorExRefW
import Derived.Test.YteaipdmbdcmmeaaDoorOrderW
import Derived.Test.YteaipdmbdcmmeaaDoorQTail
import Derived.Deep.RegionHeld3
set_option linter.unusedSimpArgs false
set_option linter.unusedVariables false
namespace Go.Proofs.YteaipdmbdcmmeaaDoor
open Go.RowKit Go.Lib

set_option maxHeartbeats 400000 in
theorem compareInt_any (x y : Int) (w : World) :
    Calls Tryd.prog 84 #[.int .i64 x, .int .i64 y] w fun e w' => e = .returned (.int .i64 (cmp3 x y)) ∧ w' = w := by
  rcases (show x < y ∨ x = y ∨ y < x by omega) with h | h | h
  · have hv : cmp3 x y = -1 := by unfold cmp3; rw [if_pos h]
    rw [hv]; clear hv
    go_enter Tryd.func84, Tryd.ntmps84
    go_wp2
    go_ret
    exact ⟨rfl, rfl⟩
  · subst h
    have hv : cmp3 x x = 0 := cmp3_self x
    rw [hv]; clear hv
    go_enter Tryd.func84, Tryd.ntmps84
    go_wp2
    go_ret
    exact ⟨rfl, rfl⟩
  · have hv : cmp3 x y = 1 := by unfold cmp3; rw [if_neg (by omega), if_pos h]
    rw [hv]; clear hv
    go_enter Tryd.func84, Tryd.ntmps84
    go_wp2
    go_ret
    exact ⟨rfl, rfl⟩
set_option maxHeartbeats 400000 in
theorem compareI64_any (x y : Int) (w : World) :
    Calls Tryd.prog 86 #[.int .i64 x, .int .i64 y] w fun e w' => e = .returned (.int .i64 (cmp3 x y)) ∧ w' = w := by
  rcases (show x < y ∨ x = y ∨ y < x by omega) with h | h | h
  · have hv : cmp3 x y = -1 := by unfold cmp3; rw [if_pos h]
    rw [hv]; clear hv
    go_enter Tryd.func86, Tryd.ntmps86
    go_wp2
    go_ret
    exact ⟨rfl, rfl⟩
  · subst h
    have hv : cmp3 x x = 0 := cmp3_self x
    rw [hv]; clear hv
    go_enter Tryd.func86, Tryd.ntmps86
    go_wp2
    go_ret
    exact ⟨rfl, rfl⟩
  · have hv : cmp3 x y = 1 := by unfold cmp3; rw [if_neg (by omega), if_pos h]
    rw [hv]; clear hv
    go_enter Tryd.func86, Tryd.ntmps86
    go_wp2
    go_ret
    exact ⟨rfl, rfl⟩

/-- The first that is not 0. -/
def orL : List Int → Int
  | [] => 0
  | x :: l => if x = 0 then orL l else x

set_option maxHeartbeats 400000 in
theorem or_any (vs : Value) (ks : List Int) (w : World) (B : Nat) (hI : Ints w B vs ks) :
    Calls Tryd.prog 83 #[vs] w fun e w' => e = .returned (.int .i64 (orL ks)) ∧ w' = w := by
  obtain ⟨ao, cap0, rfl, hl, ⟨hm, _⟩, hc⟩ := hI
  unfold maxLen at hm
  have HC : Hid (ks = [] ∨ ∃ b o, ao = some ⟨b, o, none⟩ ∧ b < B ∧ ∀ j, j < ks.length → w.cell? ⟨b, o + j, none⟩ = some (.int .i64 (ks.getD j 0))) := hc
  clear hc
  go_enter Tryd.func83, Tryd.ntmps83
  go_wp2
  go_loop [8] (fun i => ∃ k : Nat, k ≤ ks.length ∧ i = .int .i64 k ∧ Hid (orL (ks.drop k) = orL ks)) (fun i => ks.length - (RowKit.intOf i).toNat)
  case atStart => exact ⟨0, by omega, rfl, rfl⟩
  case round =>
    obtain ⟨k, hk, rfl, ho⟩ := hrel
    by_cases hlt : k < ks.length
    · obtain ⟨b, o, rfl, hbl, hc⟩ : ∃ b o, ao = some ⟨b, o, none⟩ ∧ b < B ∧ ∀ j, j < ks.length → w.cell? ⟨b, o + j, none⟩ = some (.int .i64 (ks.getD j 0)) := by
        rcases HC.out with h | h
        · subst h; simp at hlt
        · exact h
      have hck := hc k hlt
      have hd : ks.drop k = ks.getD k 0 :: ks.drop (k + 1) := by rw [List.drop_eq_getElem_cons hlt]; simp [hlt]
      rw [hd] at ho
      clear hc HC hd
      generalize ks.getD k 0 = z at *
      by_cases hz : z = 0
      · subst hz
        have ho' : Hid (orL (ks.drop (k + 1)) = orL ks) := by have := ho.out; simp [orL] at this; exact this
        go_wp2
        exact ⟨⟨k + 1, by omega, by go_num, ho'⟩, by simp [RowKit.intOf]; omega⟩
      · have ho' : Hid (orL ks = z) := by have := ho.out; simp [orL, hz] at this; exact this.symm
        have hne : (z != 0) = true := by simpa using hz
        go_wp2
        go_ret
        exact ⟨ret_int ho'.out.symm, rfl⟩
    · have hke : k = ks.length := by omega
      subst hke
      have ho' : Hid (orL ks = 0) := by have := ho.out; rw [List.drop_length] at this; exact this.symm
      go_wp2
      go_ret
      exact ⟨ret_int ho'.out.symm, rfl⟩

/-- The cell of a place's beginning. -/
def FrAt (w : World) (g : Nat) (n : Nat) (fr : List Nat) : Prop := ∀ j, j < n → w.cell? ⟨g, j, none⟩ = some (.int .i64 (fr.getD j 0 : Nat))

set_option maxHeartbeats 1000000 in
theorem size_any (ao : Option Addr) (n cap g i c : Nat) (w : World) (hi : i < n) (hn : n ≤ 64) (hc : w.cell? ⟨g, i, none⟩ = some (.int .i64 (c : Nat))) (hci : c ≤ i) :
    Calls Tryd.prog 85 #[.agg #[.slice ao n cap, .slice (some ⟨g, 0, none⟩) n n, .int .i64 i]] w fun e w' => e = .returned (.int .i64 ((i : Int) + 1 - c)) ∧ Below w.heap.size w w' := by
  have hgl := World.block_lt_of_cell? w _ hc
  simp only at hgl
  have hg2 : g ≠ w.heap.size := by omega
  go_enter Tryd.func85, Tryd.ntmps85
  go_wp2
  go_quiet (fail)
  go_wp2
  go_ret
  exact ⟨rfl, below_drewN' ((Below.refl _ _).alloc (Nat.le_refl _) _) _⟩

set_option maxHeartbeats 1000000 in
theorem node_any (b o n cap i : Nat) (v2 : Value) (va : Option Addr) (vn vc : Nat) (op nn : Int) (nm : ByteArray) (ka : Option Addr) (kl kc : Nat) (w : World) (hi : i < n) (hn : n ≤ 64) (hv2 : v2 = .slice va vn vc)
    (c0 : w.cell? ⟨b, o + i * 4, none⟩ = some (.int .i64 op)) (c1 : w.cell? ⟨b, o + i * 4 + 1, none⟩ = some (.int .i64 nn)) (c2 : w.cell? ⟨b, o + i * 4 + 2, none⟩ = some (.string nm)) (c3 : w.cell? ⟨b, o + i * 4 + 3, none⟩ = some (.slice ka kl kc)) :
    Calls Tryd.prog 82 #[.agg #[.slice (some ⟨b, o, none⟩) n cap, v2, .int .i64 i]] w fun e w' => e = .returned (.agg #[.int .i64 op, .int .i64 nn, .string nm, .slice ka kl kc]) ∧ Below w.heap.size w w' := by
  subst hv2
  have hgl := World.block_lt_of_cell? w _ c0
  simp only at hgl
  have hg2 : b ≠ w.heap.size := by omega
  have hg3 : b ≠ w.heap.size + 1 := by omega
  go_enter Tryd.func82, Tryd.ntmps82
  go_wp2
  refine bodyPost_ret (v := .agg #[.int .i64 op, .int .i64 nn, .string nm, .slice ka kl kc]) (by simp [results, Tryd.results82, go_sem]) rfl ⟨rfl, ?_⟩
  exact ((Below.refl _ _).alloc (Nat.le_refl _) _).alloc (by simp) _

theorem field_kids (op nn : Int) (nm : ByteArray) (ka : Option Addr) (kl kc : Nat) (w : World) : (Instr.field 42 (.agg #[.int .i64 op, .int .i64 nn, .string nm, .slice ka kl kc]) 3).run Tryd.prog w = .ok (.slice ka kl kc) w := by kernel_rfl

set_option maxHeartbeats 2000000 in
theorem part_cur (b o n cap i g k : Nat) (op nn : Int) (nm : ByteArray) (kb ko kl kc : Nat) (z : Int) (w : World) (hi : i < n) (hn : n ≤ 64) (hk : k < kl) (hkl : kl ≤ 3)
    (c0 : w.cell? ⟨b, o + i * 4, none⟩ = some (.int .i64 op)) (c1 : w.cell? ⟨b, o + i * 4 + 1, none⟩ = some (.int .i64 nn)) (c2 : w.cell? ⟨b, o + i * 4 + 2, none⟩ = some (.string nm)) (c3 : w.cell? ⟨b, o + i * 4 + 3, none⟩ = some (.slice (some ⟨kb, ko, none⟩) kl kc))
    (ck : w.cell? ⟨kb, ko + k, none⟩ = some (.int .i64 z)) :
    Calls Tryd.prog 87 #[.agg #[.slice (some ⟨b, o, none⟩) n cap, .slice (some ⟨g, 0, none⟩) n n, .int .i64 i], .int .i64 k] w fun e w' => e = .returned (.agg #[.slice (some ⟨b, o, none⟩) n cap, .slice (some ⟨g, 0, none⟩) n n, .int .i64 z]) ∧ Below w.heap.size w w' := by
  have hgl := World.block_lt_of_cell? w _ c0
  have hgk := World.block_lt_of_cell? w _ ck
  simp only at hgl hgk
  obtain ⟨w1, hw1⟩ : ∃ w1, (w.alloc (.cells #[.slice (some ⟨b, o, none⟩) n cap, .slice (some ⟨g, 0, none⟩) n n, .int .i64 i] 86)).alloc (.cells #[.slice none 0 0, .slice none 0 0, .int .i64 0] 86) = w1 := ⟨_, rfl⟩
  have hb1 : Below w.heap.size w w1 := by rw [← hw1]; exact ((Below.refl _ _).alloc (Nat.le_refl _) _).alloc (by simp) _
  have hz1 : w1.heap.size = w.heap.size + 2 := by rw [← hw1]; simp
  have hcell : ∀ W, Below w1.heap.size w1 W → W.cell? ⟨w.heap.size, 0, none⟩ = some (.slice (some ⟨b, o, none⟩) n cap) ∧ W.cell? ⟨w.heap.size, 1, none⟩ = some (.slice (some ⟨g, 0, none⟩) n n) ∧ W.cell? ⟨w.heap.size, 2, none⟩ = some (.int .i64 i) ∧ W.cell? ⟨kb, ko + k, none⟩ = some (.int .i64 z) := fun W hW => by
    have e : ∀ q, W.cell? ⟨w.heap.size, q, none⟩ = w1.cell? ⟨w.heap.size, q, none⟩ := fun q => hW.cell (p := ⟨w.heap.size, q, none⟩) (by show w.heap.size < w1.heap.size; omega)
    rw [e, e, e, hW.cell (p := ⟨kb, ko + k, none⟩) (by show kb < w1.heap.size; omega), hb1.cell (p := ⟨kb, ko + k, none⟩) hgk]
    rw [← hw1]
    refine ⟨by simp, by simp, by simp, ck⟩
  have hres : ∀ W, Below w1.heap.size w1 W → W.cell? ⟨w.heap.size + 1, 0, none⟩ = some (.slice none 0 0) ∧ W.cell? ⟨w.heap.size + 1, 1, none⟩ = some (.slice none 0 0) ∧ W.cell? ⟨w.heap.size + 1, 2, none⟩ = some (.int .i64 0) ∧ ∀ q, W.frozen? ⟨w.heap.size + 1, q, none⟩ = false := fun W hW => by
    have e : ∀ q, W.cell? ⟨w.heap.size + 1, q, none⟩ = w1.cell? ⟨w.heap.size + 1, q, none⟩ := fun q => hW.cell (p := ⟨w.heap.size + 1, q, none⟩) (by show w.heap.size + 1 < w1.heap.size; omega)
    have e2 : ∀ q, W.frozen? ⟨w.heap.size + 1, q, none⟩ = w1.frozen? ⟨w.heap.size + 1, q, none⟩ := fun q => hW.frozen (p := ⟨w.heap.size + 1, q, none⟩) (by show w.heap.size + 1 < w1.heap.size; omega)
    rw [e, e, e]
    refine ⟨by rw [← hw1]; simp, by rw [← hw1]; simp, by rw [← hw1]; simp, fun q => by rw [e2, ← hw1]; simp⟩
  have d0 := (hb1.cell (p := ⟨b, o + i * 4, none⟩) hgl).trans c0
  have d1 := (hb1.cell (p := ⟨b, o + i * 4 + 1, none⟩) hgl).trans c1
  have d2 := (hb1.cell (p := ⟨b, o + i * 4 + 2, none⟩) hgl).trans c2
  have d3 := (hb1.cell (p := ⟨b, o + i * 4 + 3, none⟩) hgl).trans c3
  have HW1 : Hid ((w.alloc (.cells #[.slice (some ⟨b, o, none⟩) n cap, .slice (some ⟨g, 0, none⟩) n n, .int .i64 i] 86)).alloc (.cells #[.slice none 0 0, .slice none 0 0, .int .i64 0] 86) = w1) := hw1
  have HZ1 : Hid (w1.heap.size = w.heap.size + 2) := hz1
  have HCE : Hid (∀ W, Below w1.heap.size w1 W → W.cell? ⟨w.heap.size, 0, none⟩ = some (.slice (some ⟨b, o, none⟩) n cap) ∧ W.cell? ⟨w.heap.size, 1, none⟩ = some (.slice (some ⟨g, 0, none⟩) n n) ∧ W.cell? ⟨w.heap.size, 2, none⟩ = some (.int .i64 i) ∧ W.cell? ⟨kb, ko + k, none⟩ = some (.int .i64 z)) := hcell
  have HRE : Hid (∀ W, Below w1.heap.size w1 W → W.cell? ⟨w.heap.size + 1, 0, none⟩ = some (.slice none 0 0) ∧ W.cell? ⟨w.heap.size + 1, 1, none⟩ = some (.slice none 0 0) ∧ W.cell? ⟨w.heap.size + 1, 2, none⟩ = some (.int .i64 0) ∧ ∀ q, W.frozen? ⟨w.heap.size + 1, q, none⟩ = false) := hres
  have cN : Hid (∀ W, Below w1.heap.size w1 W → Calls Tryd.prog 82 #[.agg #[.slice (some ⟨b, o, none⟩) n cap, .slice (some ⟨g, 0, none⟩) n n, .int .i64 i]] W fun e w' => e = .returned (.agg #[.int .i64 op, .int .i64 nn, .string nm, .slice (some ⟨kb, ko, none⟩) kl kc]) ∧ Below W.heap.size W w') := fun W hW =>
    node_any b o n cap i _ _ _ _ op nn nm _ kl kc W hi hn rfl ((hW.cell (p := ⟨b, o + i * 4, none⟩) (by show b < w1.heap.size; omega)).trans d0) ((hW.cell (p := ⟨b, o + i * 4 + 1, none⟩) (by show b < w1.heap.size; omega)).trans d1) ((hW.cell (p := ⟨b, o + i * 4 + 2, none⟩) (by show b < w1.heap.size; omega)).trans d2) ((hW.cell (p := ⟨b, o + i * 4 + 3, none⟩) (by show b < w1.heap.size; omega)).trans d3)
  obtain ⟨e0, e1, e2, e3⟩ := hcell w1 (Below.refl _ _)
  clear hw1 hz1 hcell hres d0 d1 d2 d3 c0 c1 c2 c3 ck
  have hfd := field_kids op nn nm (some ⟨kb, ko, none⟩) kl kc
  have hk1 : (0 : Int) ≤ (k : Int) := by omega
  have hne1 : kb ≠ w.heap.size + 1 := by omega
  have hne2 : w.heap.size + 1 ≠ kb := by omega
  have hk2 : (k : Int) < (kl : Int) := by omega
  go_enter Tryd.func87, Tryd.ntmps87
  go_wp2_with fail
  rw [HW1.out]
  go_region_held3 (fun W => W.cell? ⟨w.heap.size, 0, none⟩ = some (.slice (some ⟨b, o, none⟩) n cap) ∧ W.cell? ⟨w.heap.size, 1, none⟩ = some (.slice (some ⟨g, 0, none⟩) n n) ∧ W.cell? ⟨w.heap.size, 2, none⟩ = some (.int .i64 i) ∧ W.cell? ⟨kb, ko + k, none⟩ = some (.int .i64 z)) (go_keep) (first | (go_at_call 82; refine (cN.out _ (Below.refl _ _).drew).mono ?_; rintro e w3 ⟨rfl, hb3⟩; obtain ⟨k0, k1, k2, k3⟩ := HCE.out w3 ((Below.refl _ _).drew.trans hb3); obtain ⟨r0, r1, r2, rf⟩ := HRE.out w3 ((Below.refl _ _).drew.trans hb3)))
  have hbw := hb1.drew.trans (hb3.mono hb1.size)
  go_wp2
  refine bodyPost_ret (v := .agg #[.slice (some ⟨b, o, none⟩) n cap, .slice (some ⟨g, 0, none⟩) n n, .int .i64 z]) (by simp [results, Tryd.results87, go_sem, r0, r1, r2]) rfl ⟨rfl, ?_⟩
  exact ((hbw.setCell (by simp) _).setCell (by simp) _).setCell (by simp) _
end Go.Proofs.YteaipdmbdcmmeaaDoor
