/-
  The law's own small functions: reason, awake, grown.
-/
import Derived.Test.YtfnbkffphpidbaaFoWA
import Derived.Lib.SlBytesRow
set_option linter.unusedSimpArgs false
set_option linter.unusedVariables false
namespace Go.Proofs.Ytfnbkffphpidbaa
open Go.RowKit Go.Lib

theorem blk2 (w : World) (o o' : Obj) : ((w.alloc o).alloc o').heap[w.heap.size + 1]? = some o' := by
  have := Deep.blk_alloc_new (w.alloc o) o'
  rw [World.size_alloc] at this
  exact this
/-- The text of a number's two low bytes. -/
def rb (k : Int) : ByteArray := ⟨#[UInt8.ofNat (k % 256).toNat, UInt8.ofNat (k / 256 % 256).toNat]⟩
theorem rb_conv (k : Int) (b : Nat) (W : World) (hb : W.heap[b]? = some (.cells #[.int .u8 (k % 256), .int .u8 (k / 256 % 256)] 5 (0, 0))) : (convert 101 9 (.slice (some ⟨b, 0, none⟩) 2 2)).run Try.prog W = .ok (.string (rb k)) W := by
  have := Lib.run_convert_whole (P := Try.prog) W 101 5 9 Try.underlying101 Try.underlying5 Try.underlying9 b 0 (rb k) (fun i hi => ?_) 2
  · exact this
  · have h2 : i < 2 := hi
    have e1 : (((UInt8.ofNat (k % 256).toNat).toNat : Nat) : Int) = k % 256 := by
      have h3 : (k % 256).toNat < 256 := by omega
      rw [UInt8.toNat_ofNat_of_lt' h3]; omega
    have e2 : (((UInt8.ofNat (k / 256 % 256).toNat).toNat : Nat) : Int) = k / 256 % 256 := by
      have h3 : (k / 256 % 256).toNat < 256 := by omega
      rw [UInt8.toNat_ofNat_of_lt' h3]; omega
    match i, h2 with
    | 0, _ => simp [World.cell?, hb]; show _ = (((UInt8.ofNat (k % 256).toNat).toNat : Nat) : Int); rw [e1]
    | 1, _ => simp [World.cell?, hb]; show _ = (((UInt8.ofNat (k / 256 % 256).toNat).toNat : Nat) : Int); rw [e2]
/-- What reason made of a number, whose lowest three bits are c. -/
def Rsn (w : World) (u : Value) (k c : Int) : Prop :=
  (c = 0 ∧ u = .iface 3 (.int .i64 k)) ∨ (c = 1 ∧ u = .iface 98 (.agg #[.int .i64 k])) ∨
  (c = 2 ∧ ∃ b, u = .iface 99 (.pointer (some ⟨b, 0, none⟩)) ∧ w.heap[b]? = some (.cells #[.int .i64 k] 98 (0, 0))) ∨
  (c = 3 ∧ u = .iface 9 (.string (rb k))) ∨
  (c = 4 ∧ ∃ b, u = .iface 46 (.slice (some ⟨b, 0, none⟩) 1 1) ∧ w.heap[b]? = some (.cells #[.int .i64 k] 3 (0, 0))) ∨
  (c = 5 ∧ u = .iface 2 (.int .i64 k)) ∨
  (c = 6 ∧ ∃ b, u = .iface 33 (.func (.func 46) #[] #[.pointer (some ⟨b, 0, none⟩)]) ∧ w.heap[b]? = some (.cells #[.int .i64 k] 3 (0, 0))) ∨
  (¬ (0 ≤ c ∧ c ≤ 6) ∧ u = .nilIface)

set_option maxRecDepth 20000 in
set_option maxHeartbeats 2000000 in
theorem reason_any (k : Int) (w : World) : Calls Try.prog 21 #[.int .i64 k] w fun e w' => ∃ u, e = .returned u ∧ IfV u ∧ Rsn w' u k (bits .and .i64 k 7) ∧ Below w.heap.size w w' := by
  obtain ⟨c, hc⟩ : ∃ c, bits .and .i64 k 7 = c := ⟨_, rfl⟩
  rw [hc]
  by_cases h0 : c = 0
  · subst h0
    go_enter Try.func21, Try.ntmps21
    go_wp2
    go_ret
    refine ⟨_, rfl, .inr ⟨_, _, rfl⟩, .inl ⟨rfl, rfl⟩, ?_⟩
    repeat (first | exact Below.refl _ _ | refine Below.alloc ?_ (by simp <;> omega) _ | refine Below.drew ?_ | refine Below.setCell ?_ (by simp <;> omega) _)
  by_cases h1 : c = 1
  · subst h1
    go_enter Try.func21, Try.ntmps21
    go_wp2
    go_ret
    refine ⟨_, rfl, .inr ⟨_, _, rfl⟩, .inr (.inl ⟨rfl, rfl⟩), ?_⟩
    repeat (first | exact Below.refl _ _ | refine Below.alloc ?_ (by simp <;> omega) _ | refine Below.drew ?_ | refine Below.setCell ?_ (by simp <;> omega) _)
  by_cases h2 : c = 2
  · subst h2
    go_enter Try.func21, Try.ntmps21
    go_wp2
    go_ret
    refine ⟨_, rfl, .inr ⟨_, _, rfl⟩, .inr (.inr (.inl ⟨rfl, w.heap.size + 1, rfl, blk2 _ _ _⟩)), ?_⟩
    repeat (first | exact Below.refl _ _ | refine Below.alloc ?_ (by simp <;> omega) _ | refine Below.drew ?_ | refine Below.setCell ?_ (by simp <;> omega) _)
  by_cases h3 : c = 3
  · subst h3
    have hcv := rb_conv k (w.heap.size + 1) ((w.alloc (.cells #[.int .i64 k] 3)).alloc (.cells #[.int .u8 (k % 256), .int .u8 (k / 256 % 256)] 5)) (blk2 _ _ _)
    go_enter Try.func21, Try.ntmps21
    go_wp2
    go_ret
    refine ⟨_, rfl, .inr ⟨_, _, rfl⟩, .inr (.inr (.inr (.inl ⟨rfl, rfl⟩))), ?_⟩
    repeat (first | exact Below.refl _ _ | refine Below.alloc ?_ (by simp <;> omega) _ | refine Below.drew ?_ | refine Below.setCell ?_ (by simp <;> omega) _)
  by_cases h4 : c = 4
  · subst h4
    go_enter Try.func21, Try.ntmps21
    go_wp2
    go_ret
    refine ⟨_, rfl, .inr ⟨_, _, rfl⟩, .inr (.inr (.inr (.inr (.inl ⟨rfl, w.heap.size + 1, rfl, blk2 _ _ _⟩)))), ?_⟩
    repeat (first | exact Below.refl _ _ | refine Below.alloc ?_ (by simp <;> omega) _ | refine Below.drew ?_ | refine Below.setCell ?_ (by simp <;> omega) _)
  by_cases h5 : c = 5
  · subst h5
    go_enter Try.func21, Try.ntmps21
    go_wp2
    go_ret
    refine ⟨_, rfl, .inr ⟨_, _, rfl⟩, .inr (.inr (.inr (.inr (.inr (.inl ⟨rfl, rfl⟩))))), ?_⟩
    repeat (first | exact Below.refl _ _ | refine Below.alloc ?_ (by simp <;> omega) _ | refine Below.drew ?_ | refine Below.setCell ?_ (by simp <;> omega) _)
  by_cases h6 : c = 6
  · subst h6
    go_enter Try.func21, Try.ntmps21
    go_wp2
    go_ret
    refine ⟨_, rfl, .inr ⟨_, _, rfl⟩, .inr (.inr (.inr (.inr (.inr (.inr (.inl ⟨rfl, w.heap.size, rfl, Deep.blk_alloc_new _ _⟩)))))), ?_⟩
    repeat (first | exact Below.refl _ _ | refine Below.alloc ?_ (by simp <;> omega) _ | refine Below.drew ?_ | refine Below.setCell ?_ (by simp <;> omega) _)
  have g0 : (c == 0) = false := by simp [h0]
  have g1 : (c == 1) = false := by simp [h1]
  have g2 : (c == 2) = false := by simp [h2]
  have g3 : (c == 3) = false := by simp [h3]
  have g4 : (c == 4) = false := by simp [h4]
  have g5 : (c == 5) = false := by simp [h5]
  have g6 : (c == 6) = false := by simp [h6]
  go_enter Try.func21, Try.ntmps21
  go_wp2
  go_ret
  refine ⟨_, rfl, .inl rfl, .inr (.inr (.inr (.inr (.inr (.inr (.inr ⟨by omega, rfl⟩)))))), ?_⟩
  repeat (first | exact Below.refl _ _ | refine Below.alloc ?_ (by simp <;> omega) _ | refine Below.drew ?_ | refine Below.setCell ?_ (by simp <;> omega) _)

/-- A forest, whole. -/
structure Fo (w : World) (p : Nat) (v : Value) (J : List (Nat × Nat)) (V : List Value) (m : List Mv) : Prop where
  fo : FoM w p v m
  inv : FoI J V m
  ifv : ∀ u ∈ V, IfV u
theorem Fo.below {w w' : World} {p : Nat} {v : Value} {J : List (Nat × Nat)} {V : List Value} {m : List Mv} (h : Fo w p v J V m) (hb : Below w.heap.size w w') : Fo w' p v J V m := ⟨h.fo.below hb, h.inv, h.ifv⟩
/-- What Add leaves. -/
def addM (m : List Mv) : List Mv := if m.length < 1048576 then m ++ [newM m.length] else m
def addA (m : List Mv) : Int := if m.length < 1048576 then m.length else 0
def addE (m : List Mv) : Int := if m.length < 1048576 then 0 else 10
theorem FoT.same {w : World} {p : Nat} {v : Value} {m : List Mv} (h : FoM w p v m) : FoT w p v v m w := ⟨h, KoF.refl _ _ _, fun b e => .inl e, Below.refl _ _⟩
theorem foadd {w : World} {p : Nat} {v : Value} {J : List (Nat × Nat)} {V : List Value} {m : List Mv} (h : Fo w p v J V m) :
    Calls Try.prog 18 #[.pointer (some ⟨p, 0, none⟩)] w fun e w' => e = .returned (.tuple #[.int .i64 (addA m), .int .i64 (addE m)]) ∧ ∃ v', FoT w p v v' (addM m) w' ∧ Fo w' p v' J V (addM m) := by
  unfold addA addE addM
  by_cases hl : m.length < 1048576
  · rw [if_pos hl, if_pos hl, if_pos hl]
    exact (fadd_ok w p v m h.fo hl).mono fun e w' ⟨h1, v', h2⟩ => ⟨h1, v', h2, h2.fo, h.inv.add, h.ifv⟩
  · rw [if_neg hl, if_neg hl, if_neg hl]
    exact (fadd_full w p v m h.fo (by omega)).mono fun e w' ⟨h1, h2⟩ => by subst h2; exact ⟨h1, v, FoT.same h.fo, h⟩
/-- What Join answers. -/
def joinB (m : List Mv) (a b : Int) : Bool := hasB m a && hasB m b && decide ((mA m a.toNat).rt ≠ (mA m b.toNat).rt)
def joinE (m : List Mv) (a b : Int) : Int := if (hasB m a && hasB m b) = true then 0 else 2
theorem fojoin {w : World} {p : Nat} {v : Value} {J : List (Nat × Nat)} {V : List Value} {m : List Mv} (h : Fo w p v J V m) (a b : Int) {u : Value} (hu : IfV u) :
    Calls Try.prog 17 #[.pointer (some ⟨p, 0, none⟩), .int .i64 a, .int .i64 b, u] w fun e w' => e = .returned (.tuple #[.bool (joinB m a b), .int .i64 (joinE m a b)]) ∧ ∃ m', FoT w p v v m' w' ∧ m'.length = m.length ∧ Fo w' p v (if joinB m a b = true then J ++ [(a.toNat, b.toNat)] else J) (if joinB m a b = true then V ++ [u] else V) m' ∧ (joinB m a b = false → m' = m) := by
  by_cases hh : (hasB m a && hasB m b) = true
  · have hh' := hh
    rw [Bool.and_eq_true] at hh'
    obtain ⟨x, rfl, hx⟩ := hasB_iff.1 hh'.1
    obtain ⟨y, rfl, hy⟩ := hasB_iff.1 hh'.2
    have e2 : joinE m x y = 0 := by unfold joinE; rw [if_pos hh]
    by_cases hr : (mA m x).rt = (mA m y).rt
    · have e1 : joinB m x y = false := by unfold joinB; rw [hh]; simp [hr]
      rw [e1, e2]
      refine (fjoin_one w p v m x y u h.fo hx hy hr).mono fun e w' ⟨h1, h2⟩ => ?_
      subst h2
      exact ⟨h1, m, FoT.same h.fo, rfl, by simpa using h, fun _ => rfl⟩
    · have e1 : joinB m x y = true := by unfold joinB; rw [hh]; simp [hr]
      rw [e1, e2]
      refine (fjoin_two w p v J V m x y u h.fo h.inv h.ifv hu hx hy hr).mono fun e w' ⟨h1, m', h2, h3⟩ => ?_
      refine ⟨h1, m', h2, ?_, ⟨h2.fo, by simpa using h3, fun z hz => ?_⟩, fun h => by cases h⟩
      · obtain ⟨a1, c1, e3⟩ := h.fo.form
        have := h2.fo.form
        obtain ⟨a2, c2, e4⟩ := this
        rw [e3] at e4
        injection e4 with _ e5
        exact e5.symm
      · simp only [if_true] at hz
        rcases List.mem_append.1 hz with h4 | h4
        · exact h.ifv z h4
        · simp at h4; subst h4; exact hu
  · have hh2 : (hasB m a && hasB m b) = false := by simpa using hh
    have e1 : joinB m a b = false := by unfold joinB; rw [hh2]; rfl
    have e2 : joinE m a b = 2 := by unfold joinE; rw [if_neg hh]
    rw [e1, e2]
    refine (fjoin_bad w p v m a b u h.fo hh2).mono fun e w' ⟨h1, h2⟩ => ?_
    subst h2
    exact ⟨h1, m, FoT.same h.fo, rfl, by simpa using h, fun _ => rfl⟩
theorem Fo.fresh (w : World) : Fo (w.alloc (.cells #[.slice none 0 0] 65)) w.heap.size (.slice none 0 0) [] [] [] := ⟨FoM.fresh w, FoI.empty, by simp⟩

set_option maxRecDepth 20000 in
set_option maxHeartbeats 2000000 in
theorem awake9_any (w : World) : Calls Try.prog 8 #[] w fun e w' => e = .returned (.bool true) ∧ Below w.heap.size w w' := by
  have HB1 : Hid (Below w.heap.size w (w.alloc (.cells #[.slice none 0 0] 65))) := (Below.refl _ _).alloc (Nat.le_refl _) _
  have h1 := Fo.fresh w
  go_enter Try.func8, Try.ntmps8
  go_wp2_with fail
  refine (fnew_any w).mono ?_
  rintro e w1 ⟨rfl, rfl⟩
  generalize w.alloc (.cells #[.slice none 0 0] 65) = w1 at *
  go_wp2_with fail
  refine (foadd h1).mono ?_
  rintro e w2 ⟨rfl, v2, hT2, h2⟩
  have HB2 : Hid (Below w.heap.size w w2) := HB1.out.trans hT2.below
  clear hT2 h1
  go_wp2_with fail
  refine (foadd h2).mono ?_
  rintro e w3 ⟨rfl, v3, hT3, h3⟩
  have HB3 : Hid (Below w.heap.size w w3) := HB2.out.trans hT3.below
  clear hT3 h2
  go_wp2_with fail
  refine (fojoin h3 0 1 (u := .nilIface) (.inl rfl)).mono ?_
  rintro e w4 ⟨rfl, m4, hT4, hl4, h4, _⟩
  have HB4 : Hid (Below w.heap.size w w4) := HB3.out.trans hT4.below
  have ej : joinB (addM (addM [])) 0 1 = true := by decide
  have ee : joinE (addM (addM [])) 0 1 = 0 := by decide
  have hl : m4.length = 2 := hl4
  rw [ej, ee]
  have HF : Hid (FoM w4 w.heap.size v3 m4) := hT4.fo
  clear hT4 h3 h4 hl4 ej ee
  go_wp2_with fail
  refine (flen_any w4 _ _ m4 HF.out).mono ?_
  rintro e w5 ⟨rfl, hw⟩
  obtain rfl := hw.symm
  rw [hl]
  go_wp2_with fail
  go_ret
  exact ⟨rfl, HB4.out⟩
end Go.Proofs.Ytfnbkffphpidbaa
