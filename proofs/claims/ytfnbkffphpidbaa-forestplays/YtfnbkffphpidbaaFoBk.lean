/-
  Book's Apart, of lists of numbers; two such lists; SameInts of two lists alike.
-/
import Derived.Test.YtfnbkffphpidbaaFoGW
import Derived.Test.YtfnbkffphpidbaaApIntW
import Derived.Test.YtfnbkffphpidbaaRmNil
set_option linter.unusedSimpArgs false
set_option linter.unusedVariables false
namespace Go.Proofs.Ytfnbkffphpidbaa
open Go.RowKit Go.Lib

set_option maxRecDepth 100000 in
set_option maxHeartbeats 1000000 in
theorem bookInts_any (Q nn B cp : Nat) (A : Nat → Option Addr) (C len off : Nat → Nat) (X0 : Nat → List Value) (base : Nat) (w : World) (hap : RwsAp nn B A) (hoff0 : off 0 = 0) (hoffs : ∀ k, off (k + 1) = off k + len k) (hoffl : ∀ k, k < nn → off k + len k ≤ off nn) (hbase : base ≤ w.heap.size)
    (hfit : 1000000 + off nn + 12 * nn ≤ 4611686018427387904) (hrow : ∀ k, k < nn → (len k + 12) * 8 ≤ 140737488355328) (hnn : nn * 24 ≤ 140737488355328)
    (h0 : P1 w base 3 1 0 nn B A C len off X0 0 0 w) (fr : Nat × Nat)
    (hQ : w.heap[Q]? = some (.cells #[.slice none 0 0, .slice (some ⟨B, 0, none⟩) nn cp, .slice none 0 0, .slice none 0 0, .slice none 0 0, .slice none 0 0] 61 fr)) (hQA : ∀ k, k < nn → ∀ a, A k = some a → a.block ≠ Q) :
    Calls Try.prog 20 #[.pointer (some ⟨Q, 0, none⟩)] w fun e W' => e = .returned (.bool true) ∧ Below base w W' ∧ (∀ q, q < w.heap.size → (∀ k, k < nn → ∀ a, A k = some a → a.block ≠ q) → W'.heap[q]? = w.heap[q]?) := by
  have hlt : Q < w.heap.size := by
    rcases Nat.lt_or_ge Q w.heap.size with h | h
    · exact h
    · rw [Array.getElem?_eq_none h] at hQ; cases hQ
  have c1 : w.cell? ⟨Q, 1, none⟩ = some (.slice (some ⟨B, 0, none⟩) nn cp) := by simp [World.cell?, hQ]
  have cB : Hid (Calls Try.prog 40 #[.slice (some ⟨B, 0, none⟩) nn cp] w fun e W' => e = .returned (.bool true) ∧ Below base w W' ∧ Hid (∀ q, q < w.heap.size → (∀ k, k < nn → ∀ a, A k = some a → a.block ≠ q) → W'.heap[q]? = w.heap[q]?) ∧ W'.cell? ⟨Q, 0, none⟩ = some (.slice none 0 0) ∧ W'.cell? ⟨Q, 2, none⟩ = some (.slice none 0 0) ∧ W'.cell? ⟨Q, 3, none⟩ = some (.slice none 0 0) ∧ W'.cell? ⟨Q, 4, none⟩ = some (.slice none 0 0) ∧ W'.cell? ⟨Q, 5, none⟩ = some (.slice none 0 0)) := by
    refine (apartInts_any nn B cp A C len off X0 base w hap hoff0 hoffs hoffl hbase hfit hrow hnn h0).mono ?_
    rintro e W' ⟨rfl, hb, ho⟩
    have hQ' := (ho Q hlt hQA).trans hQ
    exact ⟨rfl, hb, ho, by simp [World.cell?, hQ'], by simp [World.cell?, hQ'], by simp [World.cell?, hQ'], by simp [World.cell?, hQ'], by simp [World.cell?, hQ']⟩
  clear hQ hQA h0 hap hrow
  go_enter Try.func20, Try.ntmps20
  go_wp2_with (first
    | (go_at_call 40; refine cB.out.mono ?_; rintro e w4 ⟨rfl, b4, ho4, d0, d2, d3, d4, d5⟩)
    | (go_at_call 41; refine (nodes_nil _).mono ?_; rintro e w2 ⟨rfl, rfl⟩)
    | (go_at_call 42; refine (texts_nil _).mono ?_; rintro e w3 ⟨rfl, rfl⟩)
    | (go_at_call 43; refine (binds_nil _).mono ?_; rintro e w3 ⟨rfl, rfl⟩)
    | (go_at_call 44; refine (classes_nil _).mono ?_; rintro e w5 ⟨rfl, rfl⟩)
    | (go_at_call 45; refine (nums_nil _).mono ?_; rintro e w6 ⟨rfl, rfl⟩))
  go_ret
  exact ⟨rfl, b4, ho4.out⟩

def sel2 {α : Type} (a b : α) : Nat → α
  | 0 => a
  | _ => b
theorem lt2 {k : Nat} (h : k < 2) : k = 0 ∨ k = 1 := by omega
/-- Where a row lies. -/
def Lies (ao : Option Addr) (lo hi : Nat) : Prop := ∀ a, ao = some a → lo ≤ a.block ∧ a.block < hi
theorem liesZ {w : World} {base n c : Nat} {ao : Option Addr} {l : List Nat} (h : OwnZ w base (.slice ao n c) l) : Lies ao base w.heap.size := fun a ha => by
  subst ha
  have := rw_block h (b := a.block) rfl
  exact ⟨this.1, this.2.1⟩
theorem liesE {w : World} {base n c : Nat} {ao : Option Addr} {l : List Eg} (h : OwnE w base (.slice ao n c) l) : Lies ao base w.heap.size := fun a ha => by
  subst ha
  have := rw_block h (b := a.block) rfl
  exact ⟨this.1, this.2.1⟩
set_option maxHeartbeats 1000000 in
/-- Two lists are apart. -/
theorem book2 (w13 : World) (base : Nat) (a0 a1 : Option Addr) (c0 c1 : Nat) (l0 l1 : List Nat) (p q r : Nat)
    (h0 : OwnZ w13 base (.slice a0 l0.length c0) l0) (h1 : OwnZ w13 base (.slice a1 l1.length c1) l1)
    (i0 : Lies a0 p q) (i1 : Lies a1 q r) (hu : r ≤ w13.heap.size) (z1 : p ≤ q) (z2 : q ≤ r) (hbase : base ≤ w13.heap.size)
    (m0 : (l0.length + 12) * 8 ≤ 140737488355328) (m1 : (l1.length + 12) * 8 ≤ 140737488355328)
    (W : World) (hs2 : W.heap.size = w13.heap.size + 2) (b14 : Below w13.heap.size w13 W)
    (bB2 : W.heap[w13.heap.size]? = some (.cells #[.slice a0 l0.length c0, .slice a1 l1.length c1] 46 (0, 0)))
    (hQ : W.heap[w13.heap.size + 1]? = some (.cells #[.slice none 0 0, .slice (some ⟨w13.heap.size, 0, none⟩) 2 2, .slice none 0 0, .slice none 0 0, .slice none 0 0, .slice none 0 0] 61 (0, 0))) :
    Calls Try.prog 20 #[.pointer (some ⟨w13.heap.size + 1, 0, none⟩)] W fun e W' => e = .returned (.bool true) ∧ Below base w13 W' ∧ ∀ b, b < w13.heap.size → (b < p ∨ r ≤ b) → W'.heap[b]? = w13.heap[b]? := by
  have hA0 : ∀ a, sel2 a0 a1 0 = some a → p ≤ a.block ∧ a.block < q := fun a h => i0 a h
  have hA1 : ∀ a, sel2 a0 a1 1 = some a → q ≤ a.block ∧ a.block < r := fun a h => i1 a h
  have hap : RwsAp 2 w13.heap.size (sel2 a0 a1) := by
    refine ⟨fun k k' hk hk' hkk a a' ha ha' => ?_, fun k hk a ha => ?_⟩
    · rcases lt2 hk with rfl | rfl <;> rcases lt2 hk' with rfl | rfl
      · exact absurd rfl hkk
      · have := hA0 a ha; have := hA1 a' ha'; omega
      · have := hA1 a ha; have := hA0 a' ha'; omega
      · exact absurd rfl hkk
    · rcases lt2 hk with rfl | rfl
      · have := hA0 a ha; omega
      · have := hA1 a ha; omega
  have hP : P1 W base 3 1 0 2 w13.heap.size (sel2 a0 a1) (sel2 c0 c1) (sel2 l0.length l1.length) (offN (sel2 l0.length l1.length)) (sel2 (l0.map zI) (l1.map zI)) 0 0 W := by
    refine ⟨fun k hk => ?_, fun k hk => ?_, fun k hk => by omega, fun j hj => by omega, Below.refl _ _, by omega, fun q _ _ => rfl⟩
    · rcases lt2 hk with rfl | rfl
      · exact h0.below b14
      · exact h1.below b14
    · rcases lt2 hk with rfl | rfl <;> simp [World.cell?, bB2, sel2]
  have hof : offN (sel2 l0.length l1.length) 2 = l0.length + l1.length := by simp [offN, sel2]
  refine (bookInts_any (w13.heap.size + 1) 2 w13.heap.size 2 _ _ _ _ _ base W hap rfl (fun _ => rfl) (fun k hk => offN_lt _ hk (Nat.le_refl _)) (by omega) (by rw [hof]; omega) (fun k hk => ?_) (by decide) hP (0, 0) hQ (fun k hk a ha e' => ?_)).mono ?_
  · rcases lt2 hk with rfl | rfl
    · exact m0
    · exact m1
  · rcases lt2 hk with rfl | rfl
    · have := hA0 a ha; omega
    · have := hA1 a ha; omega
  · rintro e W' ⟨rfl, hb, ho⟩
    refine ⟨rfl, (b14.mono hbase).trans hb, fun b hb1 hb2 => (ho b (by omega) (fun k hk a ha e' => ?_)).trans (b14.block b hb1)⟩
    rcases lt2 hk with rfl | rfl
    · have := hA0 a ha; omega
    · have := hA1 a ha; omega

set_option maxRecDepth 20000 in
set_option maxHeartbeats 1000000 in
theorem sameZ_any (ao bo : Option Addr) (ca cb : Nat) (l : List Nat) (w : World) (B1 B2 : Nat) (ha : OwnZ w B1 (.slice ao l.length ca) l) (hb : OwnZ w B2 (.slice bo l.length cb) l) :
    Calls Try.prog 19 #[.slice ao l.length ca, .slice bo l.length cb] w fun e w' => e = .returned (.bool true) ∧ ∃ n, w' = w.drewN n := by
  have HA : Hid (OwnZ w B1 (.slice ao l.length ca) l) := ha
  have HB : Hid (OwnZ w B2 (.slice bo l.length cb) l) := hb
  clear ha hb
  obtain ⟨L, hL⟩ : ∃ L, l.length = L := ⟨_, rfl⟩
  have HL : Hid (l.length = L) := hL
  rw [hL] at HA HB ⊢
  have hLL : ((L : Int) == (L : Int)) = true := by simp
  clear hL
  go_enter Try.func19, Try.ntmps19
  go_wp2_with fail
  go_loopw [5] (fun i wr => ∃ k : Nat, k ≤ L ∧ i = .int .i64 k ∧ ∃ n, wr = w.drewN n) (fun i _ => L - (RowKit.intOf i).toNat)
  case atStart => exact ⟨0, by omega, rfl, 0, rfl⟩
  case round =>
    obtain ⟨k, hk, rfl, nd, rfl⟩ := hrel
    by_cases hlt : k < L
    · have hltI : (k : Int) < (L : Int) := by omega
      have hl0 : 0 < l.length := by rw [HL.out]; omega
      obtain ⟨g, cg, e1, hgb, hgl, hcn, hcm, hc⟩ := OwnZ.row HA.out hl0
      obtain ⟨g', cg', e2, hgb', hgl', hcn', hcm', hc'⟩ := OwnZ.row HB.out hl0
      injection e1 with e1 _ e1'
      injection e2 with e2 _ e2'
      subst e1 e2 e1' e2'
      rw [HL.out] at hcn hcn'
      unfold maxLen at hcm hcm'
      have c1 : ∀ r, (w.drewN r).cell? ⟨g, k, none⟩ = some (.int .i64 (l.getD k 0)) := fun r => hc k (by rw [HL.out]; exact hlt)
      have c2 : ∀ r, (w.drewN r).cell? ⟨g', k, none⟩ = some (.int .i64 (l.getD k 0)) := fun r => hc' k (by rw [HL.out]; exact hlt)
      obtain ⟨x, hx⟩ : ∃ x, l.getD k 0 = x := ⟨_, rfl⟩
      rw [hx] at c1 c2
      have hxx : ((x : Int) == (x : Int)) = true := by simp
      clear hc hc' hx HA HB
      go_wp2_with fail
      go_quiet (fail)
      go_wp2_with fail
      exact ⟨⟨k + 1, by omega, by go_num, _, rfl⟩, by simp [RowKit.intOf]; omega⟩
    · have hke : k = L := by omega
      subst hke
      clear HA HB
      go_wp2_with fail
      go_ret
      exact ⟨rfl, _, rfl⟩

/-- Another forest, aside. -/
theorem Fo.aside {w w' : World} {p o : Nat} {v vo : Value} {J : List (Nat × Nat)} {V : List Value} {m : List Mv} (h : Fo w o vo J V m) (hk : KoF p v w w') (h1 : o ≠ p) (h2 : v.ownBlock ≠ some o) (h3 : ∀ b, vo.ownBlock = some b → b ≠ p ∧ v.ownBlock ≠ some b) : Fo w' o vo J V m :=
  ⟨h.fo.same (hk.same o h.fo.lt h1 (fun e => h2 e.symm)) (fun b hb => hk.same b (rw_block h.fo.on hb).2.1 (h3 b hb).1 (fun e => (h3 b hb).2 e.symm)), h.inv, h.ifv⟩
theorem own_aside {w w' : World} {p base : Nat} {v x : Value} {e : TypeId} {size n : Nat} {xs : List Value} (h : w.ownsRow base e size x n xs) (hk : KoF p v w w') (h3 : ∀ b, x.ownBlock = some b → b ≠ p ∧ v.ownBlock ≠ some b) : w'.ownsRow base e size x n xs :=
  rw_same h (fun b hb => hk.same b (rw_block h hb).2.1 (h3 b hb).1 (fun e => (h3 b hb).2 e.symm))
end Go.Proofs.Ytfnbkffphpidbaa
