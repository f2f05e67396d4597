/-
  ExCurW, ExOrdP, ExOrdT.
-/
import Derived.Shelf.Unicode.DecodeSlow
import Derived.Laws.RangeAny
import Derived.Shelf.Strconv.Itoa0
import Derived.Shelf.Unicode.DecodeAny
import Derived.Test.YtfdghbbanokopaaDoorProg
import Derived.WalkKit
import Derived.Deep.DeepFit
import Derived.Lib.OthersKept
import Derived.Lib.RuneCountTail
import Derived.Deep.AppendLies
import Derived.Deep.OwnRows
import Derived.Laws.AppendOwnNone
import Derived.Deep.QuietTactic
import Derived.BigQuiet
import Derived.Deep.RegionWith
import Derived.Laws.DeepStrings4
import Derived.Lib.QuietBelow
import Derived.StillTail
import Derived.Lib.MapLaws
import Derived.Sort.Walk0
import Derived.Deep.RegionHeld3
import Derived.Test.YtfdghbbanokopaaDoorG01
import Derived.Test.YtfdghbbanokopaaDoorG02
import Derived.Test.YtfdghbbanokopaaDoorG03
import Derived.Test.YtfdghbbanokopaaDoorG04
import Derived.Test.YtfdghbbanokopaaDoorG05
import Derived.Test.YtfdghbbanokopaaDoorG06
import Derived.Test.YtfdghbbanokopaaDoorG10
import Derived.Test.YtfdghbbanokopaaDoorG17
import Derived.Test.YtfdghbbanokopaaDoorG18
import Derived.Test.YtfdghbbanokopaaDoorG24
set_option linter.unusedSimpArgs false
set_option linter.unusedVariables false
namespace Go.Proofs.YtfdghbbanokopaaDoor
open Go.RowKit Go.Lib

set_option maxHeartbeats 400000 in
theorem compareInt_any (x y : Int) (w : World) :
    Calls Tryd.prog 129 #[.int .i64 x, .int .i64 y] w fun e w' => e = .returned (.int .i64 (cmp3 x y)) ∧ w' = w := by
  rcases (show x < y ∨ x = y ∨ y < x by omega) with h | h | h
  · have hv : cmp3 x y = -1 := by unfold cmp3; rw [if_pos h]
    rw [hv]; clear hv
    go_enter Tryd.func129, Tryd.ntmps129
    go_wp2
    go_ret
    exact ⟨rfl, rfl⟩
  · subst h
    have hv : cmp3 x x = 0 := cmp3_self x
    rw [hv]; clear hv
    go_enter Tryd.func129, Tryd.ntmps129
    go_wp2
    go_ret
    exact ⟨rfl, rfl⟩
  · have hv : cmp3 x y = 1 := by unfold cmp3; rw [if_neg (by omega), if_pos h]
    rw [hv]; clear hv
    go_enter Tryd.func129, Tryd.ntmps129
    go_wp2
    go_ret
    exact ⟨rfl, rfl⟩
set_option maxHeartbeats 400000 in
theorem compareI64_any (x y : Int) (w : World) :
    Calls Tryd.prog 131 #[.int .i64 x, .int .i64 y] w fun e w' => e = .returned (.int .i64 (cmp3 x y)) ∧ w' = w := by
  rcases (show x < y ∨ x = y ∨ y < x by omega) with h | h | h
  · have hv : cmp3 x y = -1 := by unfold cmp3; rw [if_pos h]
    rw [hv]; clear hv
    go_enter Tryd.func131, Tryd.ntmps131
    go_wp2
    go_ret
    exact ⟨rfl, rfl⟩
  · subst h
    have hv : cmp3 x x = 0 := cmp3_self x
    rw [hv]; clear hv
    go_enter Tryd.func131, Tryd.ntmps131
    go_wp2
    go_ret
    exact ⟨rfl, rfl⟩
  · have hv : cmp3 x y = 1 := by unfold cmp3; rw [if_neg (by omega), if_pos h]
    rw [hv]; clear hv
    go_enter Tryd.func131, Tryd.ntmps131
    go_wp2
    go_ret
    exact ⟨rfl, rfl⟩

/-- The first that is not 0. -/
def orL : List Int → Int
  | [] => 0
  | x :: l => if x = 0 then orL l else x

set_option maxHeartbeats 400000 in
theorem or_any (vs : Value) (ks : List Int) (w : World) (B : Nat) (hI : Ints w B vs ks) :
    Calls Tryd.prog 128 #[vs] w fun e w' => e = .returned (.int .i64 (orL ks)) ∧ w' = w := by
  obtain ⟨ao, cap0, rfl, hl, ⟨hm, _⟩, hc⟩ := hI
  unfold maxLen at hm
  have HC : Hid (ks = [] ∨ ∃ b o, ao = some ⟨b, o, none⟩ ∧ b < B ∧ ∀ j, j < ks.length → w.cell? ⟨b, o + j, none⟩ = some (.int .i64 (ks.getD j 0))) := hc
  clear hc
  go_enter Tryd.func128, Tryd.ntmps128
  go_wp2
  go_loop [8] (fun i => ∃ k : Nat, k ≤ ks.length ∧ i = .int .i64 k ∧ Hid (orL (ks.drop k) = orL ks)) (fun i => ks.length - (RowKit.intOf i).toNat)
  case atStart => exact ⟨0, by omega, rfl, rfl⟩
  case round =>
    obtain ⟨k, hk, rfl, ho⟩ := hrel
    by_cases hlt : k < ks.length
    · obtain ⟨b, o, rfl, hbl, hc⟩ : ∃ b o, ao = some ⟨b, o, none⟩ ∧ b < B ∧ ∀ j, j < ks.length → w.cell? ⟨b, o + j, none⟩ = some (.int .i64 (ks.getD j 0)) := by
        rcases HC.out with h | h
        · subst h; simp at hlt
        · exact h
      have hck := hc k hlt
      have hd : ks.drop k = ks.getD k 0 :: ks.drop (k + 1) := by rw [List.drop_eq_getElem_cons hlt]; simp [hlt]
      rw [hd] at ho
      clear hc HC hd
      generalize ks.getD k 0 = z at *
      by_cases hz : z = 0
      · subst hz
        have ho' : Hid (orL (ks.drop (k + 1)) = orL ks) := by have := ho.out; simp [orL] at this; exact this
        go_wp2
        exact ⟨⟨k + 1, by omega, by go_num, ho'⟩, by simp [RowKit.intOf]; omega⟩
      · have ho' : Hid (orL ks = z) := by have := ho.out; simp [orL, hz] at this; exact this.symm
        have hne : (z != 0) = true := by simpa using hz
        go_wp2
        go_ret
        exact ⟨ret_int ho'.out.symm, rfl⟩
    · have hke : k = ks.length := by omega
      subst hke
      have ho' : Hid (orL ks = 0) := by have := ho.out; rw [List.drop_length] at this; exact this.symm
      go_wp2
      go_ret
      exact ⟨ret_int ho'.out.symm, rfl⟩

/-- The cell of a place's beginning. -/
def FrAt (w : World) (g : Nat) (n : Nat) (fr : List Nat) : Prop := ∀ j, j < n → w.cell? ⟨g, j, none⟩ = some (.int .i64 (fr.getD j 0 : Nat))

set_option maxHeartbeats 1000000 in
theorem size_any (ao : Option Addr) (n cap g i c : Nat) (w : World) (hi : i < n) (hn : n ≤ 64) (hc : w.cell? ⟨g, i, none⟩ = some (.int .i64 (c : Nat))) (hci : c ≤ i) :
    Calls Tryd.prog 130 #[.agg #[.slice ao n cap, .slice (some ⟨g, 0, none⟩) n n, .int .i64 i]] w fun e w' => e = .returned (.int .i64 ((i : Int) + 1 - c)) ∧ Below w.heap.size w w' := by
  have hgl := World.block_lt_of_cell? w _ hc
  simp only at hgl
  have hg2 : g ≠ w.heap.size := by omega
  go_enter Tryd.func130, Tryd.ntmps130
  go_wp2
  go_quiet (fail)
  go_wp2
  go_ret
  exact ⟨rfl, below_drewN' ((Below.refl _ _).alloc (Nat.le_refl _) _) _⟩

set_option maxHeartbeats 1000000 in
theorem node_any (b o n cap i : Nat) (v2 : Value) (va : Option Addr) (vn vc : Nat) (op nn : Int) (nm : ByteArray) (ka : Option Addr) (kl kc : Nat) (w : World) (hi : i < n) (hn : n ≤ 64) (hv2 : v2 = .slice va vn vc)
    (c0 : w.cell? ⟨b, o + i * 4, none⟩ = some (.int .i64 op)) (c1 : w.cell? ⟨b, o + i * 4 + 1, none⟩ = some (.int .i64 nn)) (c2 : w.cell? ⟨b, o + i * 4 + 2, none⟩ = some (.string nm)) (c3 : w.cell? ⟨b, o + i * 4 + 3, none⟩ = some (.slice ka kl kc)) :
    Calls Tryd.prog 127 #[.agg #[.slice (some ⟨b, o, none⟩) n cap, v2, .int .i64 i]] w fun e w' => e = .returned (.agg #[.int .i64 op, .int .i64 nn, .string nm, .slice ka kl kc]) ∧ Below w.heap.size w w' := by
  subst hv2
  have hgl := World.block_lt_of_cell? w _ c0
  simp only at hgl
  have hg2 : b ≠ w.heap.size := by omega
  have hg3 : b ≠ w.heap.size + 1 := by omega
  go_enter Tryd.func127, Tryd.ntmps127
  go_wp2
  refine bodyPost_ret (v := .agg #[.int .i64 op, .int .i64 nn, .string nm, .slice ka kl kc]) (by simp [results, Tryd.results127, go_sem]) rfl ⟨rfl, ?_⟩
  exact ((Below.refl _ _).alloc (Nat.le_refl _) _).alloc (by simp) _

theorem field_kids (op nn : Int) (nm : ByteArray) (ka : Option Addr) (kl kc : Nat) (w : World) : (Instr.field 50 (.agg #[.int .i64 op, .int .i64 nn, .string nm, .slice ka kl kc]) 3).run Tryd.prog w = .ok (.slice ka kl kc) w := by kernel_rfl

set_option maxHeartbeats 2000000 in
theorem part_cur (b o n cap i g k : Nat) (op nn : Int) (nm : ByteArray) (kb ko kl kc : Nat) (z : Int) (w : World) (hi : i < n) (hn : n ≤ 64) (hk : k < kl) (hkl : kl ≤ 3)
    (c0 : w.cell? ⟨b, o + i * 4, none⟩ = some (.int .i64 op)) (c1 : w.cell? ⟨b, o + i * 4 + 1, none⟩ = some (.int .i64 nn)) (c2 : w.cell? ⟨b, o + i * 4 + 2, none⟩ = some (.string nm)) (c3 : w.cell? ⟨b, o + i * 4 + 3, none⟩ = some (.slice (some ⟨kb, ko, none⟩) kl kc))
    (ck : w.cell? ⟨kb, ko + k, none⟩ = some (.int .i64 z)) :
    Calls Tryd.prog 132 #[.agg #[.slice (some ⟨b, o, none⟩) n cap, .slice (some ⟨g, 0, none⟩) n n, .int .i64 i], .int .i64 k] w fun e w' => e = .returned (.agg #[.slice (some ⟨b, o, none⟩) n cap, .slice (some ⟨g, 0, none⟩) n n, .int .i64 z]) ∧ Below w.heap.size w w' := by
  have hgl := World.block_lt_of_cell? w _ c0
  have hgk := World.block_lt_of_cell? w _ ck
  simp only at hgl hgk
  obtain ⟨w1, hw1⟩ : ∃ w1, (w.alloc (.cells #[.slice (some ⟨b, o, none⟩) n cap, .slice (some ⟨g, 0, none⟩) n n, .int .i64 i] 151)).alloc (.cells #[.slice none 0 0, .slice none 0 0, .int .i64 0] 151) = w1 := ⟨_, rfl⟩
  have hb1 : Below w.heap.size w w1 := by rw [← hw1]; exact ((Below.refl _ _).alloc (Nat.le_refl _) _).alloc (by simp) _
  have hz1 : w1.heap.size = w.heap.size + 2 := by rw [← hw1]; simp
  have hcell : ∀ W, Below w1.heap.size w1 W → W.cell? ⟨w.heap.size, 0, none⟩ = some (.slice (some ⟨b, o, none⟩) n cap) ∧ W.cell? ⟨w.heap.size, 1, none⟩ = some (.slice (some ⟨g, 0, none⟩) n n) ∧ W.cell? ⟨w.heap.size, 2, none⟩ = some (.int .i64 i) ∧ W.cell? ⟨kb, ko + k, none⟩ = some (.int .i64 z) := fun W hW => by
    have e : ∀ q, W.cell? ⟨w.heap.size, q, none⟩ = w1.cell? ⟨w.heap.size, q, none⟩ := fun q => hW.cell (p := ⟨w.heap.size, q, none⟩) (by show w.heap.size < w1.heap.size; omega)
    rw [e, e, e, hW.cell (p := ⟨kb, ko + k, none⟩) (by show kb < w1.heap.size; omega), hb1.cell (p := ⟨kb, ko + k, none⟩) hgk]
    rw [← hw1]
    refine ⟨by simp, by simp, by simp, ck⟩
  have hres : ∀ W, Below w1.heap.size w1 W → W.cell? ⟨w.heap.size + 1, 0, none⟩ = some (.slice none 0 0) ∧ W.cell? ⟨w.heap.size + 1, 1, none⟩ = some (.slice none 0 0) ∧ W.cell? ⟨w.heap.size + 1, 2, none⟩ = some (.int .i64 0) ∧ ∀ q, W.frozen? ⟨w.heap.size + 1, q, none⟩ = false := fun W hW => by
    have e : ∀ q, W.cell? ⟨w.heap.size + 1, q, none⟩ = w1.cell? ⟨w.heap.size + 1, q, none⟩ := fun q => hW.cell (p := ⟨w.heap.size + 1, q, none⟩) (by show w.heap.size + 1 < w1.heap.size; omega)
    have e2 : ∀ q, W.frozen? ⟨w.heap.size + 1, q, none⟩ = w1.frozen? ⟨w.heap.size + 1, q, none⟩ := fun q => hW.frozen (p := ⟨w.heap.size + 1, q, none⟩) (by show w.heap.size + 1 < w1.heap.size; omega)
    rw [e, e, e]
    refine ⟨by rw [← hw1]; simp, by rw [← hw1]; simp, by rw [← hw1]; simp, fun q => by rw [e2, ← hw1]; simp⟩
  have d0 := (hb1.cell (p := ⟨b, o + i * 4, none⟩) hgl).trans c0
  have d1 := (hb1.cell (p := ⟨b, o + i * 4 + 1, none⟩) hgl).trans c1
  have d2 := (hb1.cell (p := ⟨b, o + i * 4 + 2, none⟩) hgl).trans c2
  have d3 := (hb1.cell (p := ⟨b, o + i * 4 + 3, none⟩) hgl).trans c3
  have HW1 : Hid ((w.alloc (.cells #[.slice (some ⟨b, o, none⟩) n cap, .slice (some ⟨g, 0, none⟩) n n, .int .i64 i] 151)).alloc (.cells #[.slice none 0 0, .slice none 0 0, .int .i64 0] 151) = w1) := hw1
  have HZ1 : Hid (w1.heap.size = w.heap.size + 2) := hz1
  have HCE : Hid (∀ W, Below w1.heap.size w1 W → W.cell? ⟨w.heap.size, 0, none⟩ = some (.slice (some ⟨b, o, none⟩) n cap) ∧ W.cell? ⟨w.heap.size, 1, none⟩ = some (.slice (some ⟨g, 0, none⟩) n n) ∧ W.cell? ⟨w.heap.size, 2, none⟩ = some (.int .i64 i) ∧ W.cell? ⟨kb, ko + k, none⟩ = some (.int .i64 z)) := hcell
  have HRE : Hid (∀ W, Below w1.heap.size w1 W → W.cell? ⟨w.heap.size + 1, 0, none⟩ = some (.slice none 0 0) ∧ W.cell? ⟨w.heap.size + 1, 1, none⟩ = some (.slice none 0 0) ∧ W.cell? ⟨w.heap.size + 1, 2, none⟩ = some (.int .i64 0) ∧ ∀ q, W.frozen? ⟨w.heap.size + 1, q, none⟩ = false) := hres
  have cN : Hid (∀ W, Below w1.heap.size w1 W → Calls Tryd.prog 127 #[.agg #[.slice (some ⟨b, o, none⟩) n cap, .slice (some ⟨g, 0, none⟩) n n, .int .i64 i]] W fun e w' => e = .returned (.agg #[.int .i64 op, .int .i64 nn, .string nm, .slice (some ⟨kb, ko, none⟩) kl kc]) ∧ Below W.heap.size W w') := fun W hW =>
    node_any b o n cap i _ _ _ _ op nn nm _ kl kc W hi hn rfl ((hW.cell (p := ⟨b, o + i * 4, none⟩) (by show b < w1.heap.size; omega)).trans d0) ((hW.cell (p := ⟨b, o + i * 4 + 1, none⟩) (by show b < w1.heap.size; omega)).trans d1) ((hW.cell (p := ⟨b, o + i * 4 + 2, none⟩) (by show b < w1.heap.size; omega)).trans d2) ((hW.cell (p := ⟨b, o + i * 4 + 3, none⟩) (by show b < w1.heap.size; omega)).trans d3)
  obtain ⟨e0, e1, e2, e3⟩ := hcell w1 (Below.refl _ _)
  clear hw1 hz1 hcell hres d0 d1 d2 d3 c0 c1 c2 c3 ck
  have hfd := field_kids op nn nm (some ⟨kb, ko, none⟩) kl kc
  have hk1 : (0 : Int) ≤ (k : Int) := by omega
  have hne1 : kb ≠ w.heap.size + 1 := by omega
  have hne2 : w.heap.size + 1 ≠ kb := by omega
  have hk2 : (k : Int) < (kl : Int) := by omega
  go_enter Tryd.func132, Tryd.ntmps132
  go_wp2_with fail
  rw [HW1.out]
  go_region_held3 (fun W => W.cell? ⟨w.heap.size, 0, none⟩ = some (.slice (some ⟨b, o, none⟩) n cap) ∧ W.cell? ⟨w.heap.size, 1, none⟩ = some (.slice (some ⟨g, 0, none⟩) n n) ∧ W.cell? ⟨w.heap.size, 2, none⟩ = some (.int .i64 i) ∧ W.cell? ⟨kb, ko + k, none⟩ = some (.int .i64 z)) (go_keep) (first | (go_at_call 127; refine (cN.out _ (Below.refl _ _).drew).mono ?_; rintro e w3 ⟨rfl, hb3⟩; obtain ⟨k0, k1, k2, k3⟩ := HCE.out w3 ((Below.refl _ _).drew.trans hb3); obtain ⟨r0, r1, r2, rf⟩ := HRE.out w3 ((Below.refl _ _).drew.trans hb3)))
  have hbw := hb1.drew.trans (hb3.mono hb1.size)
  go_wp2
  refine bodyPost_ret (v := .agg #[.slice (some ⟨b, o, none⟩) n cap, .slice (some ⟨g, 0, none⟩) n n, .int .i64 z]) (by simp [results, Tryd.results132, go_sem, r0, r1, r2]) rfl ⟨rfl, ?_⟩
  exact ((hbw.setCell (by simp) _).setCell (by simp) _).setCell (by simp) _
end Go.Proofs.YtfdghbbanokopaaDoor

set_option linter.unusedSimpArgs false
set_option linter.unusedVariables false
namespace Go.Proofs.YtfdghbbanokopaaDoor
open Go.RowKit Go.Lib

def szA (fr : List Nat) (i : Nat) : Int := (i : Int) + 1 - (fr.getD i 0 : Nat)
/-- Kids against kids, as long as nothing has been found. -/
def ordK (F : Int → Int → Int) : Int → List Int → List Int → Int
  | c, k :: ks, m :: ms => if c = 0 then ordK F (F k m) ks ms else c
  | c, _, _ => c
def heads (x y : Nd) : Int := orL [cmp3 x.op y.op, cmp3 x.n y.n, ordI x.name y.name]
def headC (m n : Int) (x y : Nd) : Int := orL [cmp3 m n, cmp3 x.op y.op, cmp3 x.n y.n, ordI x.name y.name]
def ordF (a : List Nd) (fa : List Nat) (b : List Nd) (fb : List Nat) : Nat → Nat → Nat → Int
  | 0, _, _ => 0
  | f + 1, i, j => ordK (fun p q => ordF a fa b fb f p.toNat q.toNat) (headC (szA fa i) (szA fb j) (a.getD i nd0) (b.getD j nd0)) (a.getD i nd0).kids (b.getD j nd0).kids

theorem ordK_nz (F : Int → Int → Int) {c : Int} (h : c ≠ 0) (ks ms : List Int) : ordK F c ks ms = c := by
  cases ks <;> cases ms <;> simp [ordK, h]
theorem ordK_nil (F : Int → Int → Int) (c : Int) (ms : List Int) : ordK F c [] ms = c := by
  cases ms <;> simp [ordK]
theorem ordK_zero (F : Int → Int → Int) (k m : Int) (ks ms : List Int) : ordK F 0 (k :: ks) (m :: ms) = ordK F (F k m) ks ms := by simp [ordK]
end Go.Proofs.YtfdghbbanokopaaDoor

set_option linter.unusedSimpArgs false
set_option linter.unusedVariables false
namespace Go.Proofs.YtfdghbbanokopaaDoor
open Go.Lib

/-! ### one after another -/
theorem orL_cons (c : Int) (l : List Int) : orL (c :: l) = if c = 0 then orL l else c := rfl

/-- x is a against b, y b against c, z a against c. -/
def Tri (x y z : Int) : Prop := x ≤ 0 → y ≤ 0 → z ≤ 0 ∧ (z = 0 ↔ x = 0 ∧ y = 0)
theorem Tri.lex {c1 c2 c3 d1 d2 d3 : Int} (h : Tri c1 c2 c3) (h' : c1 = 0 → c2 = 0 → Tri d1 d2 d3) : Tri (if c1 = 0 then d1 else c1) (if c2 = 0 then d2 else c2) (if c3 = 0 then d3 else c3) := by
  intro hx hy
  by_cases e1 : c1 = 0
  · by_cases e2 : c2 = 0
    · have e3 : c3 = 0 := ((h (by omega) (by omega)).2).2 ⟨e1, e2⟩
      rw [if_pos e1] at *; rw [if_pos e2] at *; rw [if_pos e3] at *
      exact h' e1 e2 hx hy
    · rw [if_pos e1] at *; rw [if_neg e2] at *
      have := h (by omega) (by omega)
      have e3 : c3 ≠ 0 := fun e => e2 (this.2.1 e).2
      rw [if_neg e3]
      exact ⟨this.1, fun e => absurd e e3, fun e => absurd e.2 e2⟩
  · have hx' : c1 ≤ 0 := by rw [if_neg e1] at hx; exact hx
    have hy' : c2 ≤ 0 := by
      by_cases e2 : c2 = 0
      · omega
      · rw [if_neg e2] at hy; exact hy
    have := h hx' hy'
    have e3 : c3 ≠ 0 := fun e => e1 (this.2.1 e).1
    rw [if_neg e1, if_neg e3]
    exact ⟨this.1, fun e => absurd e e3, fun e => absurd e.1 e1⟩
theorem head_zero {m n : Int} {x y : Nd} (h : headC m n x y = 0) : m = n ∧ x.op = y.op ∧ x.n = y.n ∧ ordI x.name y.name = 0 := by
  unfold headC at h
  simp only [orL_cons] at h
  have h1 : cmp3 m n = 0 := by
    by_cases e : cmp3 m n = 0
    · exact e
    · rw [if_neg e] at h; exact h
  rw [if_pos h1] at h
  have h2 : cmp3 x.op y.op = 0 := by
    by_cases e : cmp3 x.op y.op = 0
    · exact e
    · rw [if_neg e] at h; exact h
  rw [if_pos h2] at h
  have h3 : cmp3 x.n y.n = 0 := by
    by_cases e : cmp3 x.n y.n = 0
    · exact e
    · rw [if_neg e] at h; exact h
  rw [if_pos h3] at h
  have h4 : ordI x.name y.name = 0 := by
    by_cases e : ordI x.name y.name = 0
    · exact e
    · rw [if_neg e] at h; exact h
  exact ⟨(cmp3_zero _ _).1 h1, (cmp3_zero _ _).1 h2, (cmp3_zero _ _).1 h3, h4⟩
theorem head_self (m : Int) (x : Nd) : headC m m x x = 0 := by
  unfold headC; simp [orL, cmp3_self, ord_self]
/-! ### kids -/
theorem ordK_cons (F : Int → Int → Int) (c k m : Int) (ks ms : List Int) : ordK F c (k :: ks) (m :: ms) = if c = 0 then ordK F (F k m) ks ms else c := rfl
theorem ordK_self {F : Int → Int → Int} : ∀ (ks : List Int), (∀ k ∈ ks, F k k = 0) → ordK F 0 ks ks = 0
  | [], _ => by rw [ordK_nil]
  | k :: ks, h => by
    rw [ordK_zero, h k (by simp)]
    exact ordK_self ks fun k' hk => h k' (by simp [hk])
theorem ordK_same {F : Int → Int → Int} {α : Type} {p q : Int → α} : ∀ (ks ms : List Int) (c : Int), ks.length = ms.length → (∀ k ∈ ks, ∀ m ∈ ms, F k m = 0 → p k = q m) → ordK F c ks ms = 0 → c = 0 ∧ ks.map p = ms.map q
  | [], ms, c, hl, _, h => by
    rw [ordK_nil] at h
    have : ms = [] := by cases ms with | nil => rfl | cons _ _ => simp at hl
    rw [this]; exact ⟨h, rfl⟩
  | k :: ks, [], c, hl, _, h => by simp at hl
  | k :: ks, m :: ms, c, hl, hF, h => by
    rw [ordK_cons] at h
    by_cases e : c = 0
    · rw [if_pos e] at h
      have := ordK_same (p := p) (q := q) ks ms _ (by simpa using hl) (fun k' hk m' hm => hF k' (by simp [hk]) m' (by simp [hm])) h
      refine ⟨e, ?_⟩
      rw [List.map_cons, List.map_cons, this.2, hF k (by simp) m (by simp) this.1]
    · rw [if_neg e] at h; exact absurd h e
/-! ### the whole -/
theorem ordF_succ (a : List Nd) (fa : List Nat) (b : List Nd) (fb : List Nat) (f i j : Nat) : ordF a fa b fb (f + 1) i j = ordK (fun p q => ordF a fa b fb f p.toNat q.toNat) (headC (szA fa i) (szA fb j) (a.getD i nd0) (b.getD j nd0)) (a.getD i nd0).kids (b.getD j nd0).kids := rfl

theorem kid_lt {l : List Nd} {fr : List Nat} (h : BegOk l fr) {i : Nat} (hi : i < l.length) {k : Int} (hk : k ∈ (l.getD i nd0).kids) : k.toNat < i ∧ k.toNat < l.length := by
  obtain ⟨c, h0, hc, rfl⟩ := (chain_inv (fr := fr) (P := fun c => c ≤ i) (fun c h0 hc => by have := h.low (c - 1); omega) _ _ _ (Nat.le_refl i) (h.at_ i hi).2).2 k (by simpa using hk)
  omega

theorem ordF_self {a : List Nd} {fa : List Nat} (ha : BegOk a fa) : ∀ (f i : Nat), i < f → i < a.length → ordF a fa a fa f i i = 0 := by
  intro f
  induction f with
  | zero => intro i h; omega
  | succ f ih =>
    intro i hf hi
    rw [ordF_succ, head_self]
    refine ordK_self _ fun k hk => ?_
    have h1 := kid_lt ha hi hk
    exact ih _ (by omega) h1.2
theorem ordF_same {a b : List Nd} {fa fb : List Nat} (ha : BegOk a fa) (hb : BegOk b fb) : ∀ (f i j : Nat), i < f → i < a.length → j < b.length → ordF a fa b fb f i j = 0 → partL a (fa.getD i 0) i = partL b (fb.getD j 0) j := by
  intro f
  induction f with
  | zero => intro i j h; omega
  | succ f ih =>
    intro i j hf hi hj h
    rw [ordF_succ] at h
    have fx := (ha.at_ i hi).1
    have fy := (hb.at_ j hj).1
    have hc : headC (szA fa i) (szA fb j) (a.getD i nd0) (b.getD j nd0) = 0 := by
      by_cases e : headC (szA fa i) (szA fb j) (a.getD i nd0) (b.getD j nd0) = 0
      · exact e
      · rw [ordK_nz _ e] at h; exact h
    obtain ⟨_, h1, h2, h3⟩ := head_zero hc
    have hn := name_eq (form_name fx).1 (form_name fy).1 h3
    have hk := ordK_same (p := kidPart a fa) (q := kidPart b fb) _ _ _ (form_len fx fy h1) (fun k hk m hm h0 => by
      have h1 := kid_lt ha hi hk
      have h2 := kid_lt hb hj hm
      exact ih _ _ (by omega) h1.2 h2.2 h0) h
    rw [part_join ha i hi, part_join hb j hj, h1, h2, hn, hk.2]
/-- Two whole expressions. -/
def ordW (a : List Nd) (fa : List Nat) (b : List Nd) (fb : List Nat) : Int := ordF a fa b fb a.length (a.length - 1) (b.length - 1)
theorem ordW_zero {a b : List Nd} {fa fb : List Nat} (ha : begL a = some fa) (hb : begL b = some fb) : ordW a fa b fb = 0 ↔ a = b := by
  obtain ⟨a0, _, ra, ta⟩ := begL_some ha
  obtain ⟨b0, _, rb, tb⟩ := begL_some hb
  constructor
  · intro h
    have := ordF_same (begOk_of ra) (begOk_of rb) _ _ _ (by omega) (by omega) (by omega) h
    rw [ta, tb] at this
    unfold partL at this
    rw [show a.length - 1 + 1 - 0 = a.length from by omega, show b.length - 1 + 1 - 0 = b.length from by omega] at this
    simpa [map_mvN_zero] using this
  · intro h
    subst h
    rw [ha] at hb
    obtain rfl := Option.some.inj hb
    exact ordF_self (begOk_of ra) _ _ (by omega) (by omega)
end Go.Proofs.YtfdghbbanokopaaDoor
