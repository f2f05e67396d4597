/-
  A set of members: a map from numbers to true, of the call's own.
-/
import Derived.Test.YtfnbkffphpidbaaFoGW
import Derived.Maps.OwnSet
import Derived.Maps.Keyed
import Derived.Carry
set_option linter.unusedSimpArgs false
set_option linter.unusedVariables false
namespace Go.Proofs.Ytfnbkffphpidbaa
open Go.RowKit Go.Lib Go.Maps

theorem setLawI : Keyed Try.prog 3 := int_keyed Try.underlying3
theorem zeroBoolI (w : World) : (zeroValue 4).run Try.prog w = .ok (.bool false) w := by kernel_rfl
def klI (s : Nat) : Lit := .int .i64 (s : Int)
theorem keyI {s : Nat} (h : s ≤ 1048576) : keyOf Try.prog 3 (.int .i64 (s : Int)) = some (klI s) := keyOf_int_mk Try.underlying3 (by
  have e1 : IntKind.min .i64 = -9223372036854775808 := by decide
  have e2 : IntKind.max .i64 = 9223372036854775807 := by decide
  simp only [Lit.wf, e1, e2, Bool.and_eq_true, decide_eq_true_eq]
  omega)
theorem isKeyI (s : Nat) : WideAt.IsKeyLit (klI s) := trivial

/-- Block B is a map that holds just the numbers acc, each with true. -/
def SetI (w : World) (B : Nat) (acc : List Nat) : Prop :=
  w.ownsMap Try.prog 3 (plainElem (H := Unit) Try.prog 4) B acc.length (setOf (.lit (.bool true)) (acc.map klI))
theorem SetI.made (w : World) : SetI (w.alloc (.map #[] 0)) w.heap.size [] := World.ownsMap_made _ _ _ _
theorem SetI.lt {w : World} {B : Nat} {acc : List Nat} (h : SetI w B acc) : B < w.heap.size := World.ownsMap.lt h
theorem SetI.block {w w' : World} {B : Nat} {acc : List Nat} (h : SetI w B acc) (hb : w'.heap[B]? = w.heap[B]?) : SetI w' B acc := by
  obtain ⟨es, c, h1, h2⟩ := h
  exact ⟨es, c, hb.trans h1, h2⟩
theorem SetI.put {w : World} {B : Nat} {acc : List Nat} (h : SetI w B acc) (hn : acc.length < maxLen) {s : Nat} (hs : s ≤ 1048576) :
    ∃ w', (Instr.mapUpdate 42 (.map (some B)) (.int .i64 (s : Int)) (.bool true)).run Try.prog w = .ok () w' ∧ SetI w' B (acc ++ [s]) ∧ w.grownBy w' (some B) := by
  obtain ⟨w', h1, h2, h3⟩ := World.ownsMap.update h setLawI Try.underlying42 hn (keyI hs) (plainElem_bool Try.underlying4 true)
  refine ⟨w', h1, ?_, h3⟩
  unfold SetI
  rw [List.length_append, List.map_append, List.map_singleton, setOf_snoc]
  exact h2
theorem at_foldI (s : Nat) (z : DataW Unit) : ∀ (acc : List Nat) (m : DataW Unit), IsMap m → s ∉ acc → ((acc.map klI).foldl (fun m x => m.put x (.lit (.bool true))) m).atKey (klI s) z = m.atKey (klI s) z
  | [], m, _, _ => rfl
  | a :: r, m, hm, h => by
    rw [List.map_cons, List.foldl_cons, at_foldI s z r _ (hm.put _ _) (fun hh => h (List.mem_cons_of_mem _ hh))]
    refine atKey_put_other (fun e => h ?_) _ _
    have : (s : Int) = (a : Int) := by injection e
    have : s = a := by omega
    rw [this]; exact List.mem_cons_self ..
theorem plainElem_falseI {P : Program} {e : TypeId} (he : P.underlying e = some .bool) {v : Value} {ps : List MemPlace} (h : plainElem (H := Unit) P e v = some (.lit (.bool false), ps)) : v = .bool false := by
  unfold plainElem at h
  rw [he] at h
  cases v <;> simp at h
  rw [h.1]
theorem SetI.miss {w : World} {B : Nat} {acc : List Nat} (h : SetI w B acc) {s : Nat} (hs : s ≤ 1048576) (hm : s ∉ acc) :
    (Instr.lookup 42 (.map (some B)) (.int .i64 (s : Int)) false).run Try.prog w = .ok (.bool false) w := by
  obtain ⟨v, ps, h1, h2⟩ := World.ownsMap.lookup h setLawI Try.underlying42 (zeroBoolI w) (plainElem_bool Try.underlying4 false) (keyI hs)
  rw [show (setOf (H := Unit) (.lit (.bool true)) (acc.map klI)).atKey (klI s) (.lit (.bool false)) = .lit (.bool false) from at_foldI s _ acc _ isMap_empty hm] at h2
  rw [h1, plainElem_falseI Try.underlying4 h2]

/-- What Path answers. -/
def pathE (m : List Mv) (a b : Int) : Int := if (hasB m a && hasB m b) = true then (if (mA m a.toNat).rt = (mA m b.toNat).rt then 0 else 11) else 2
theorem OwnE.form {w : World} {base : Nat} {v : Value} {l : List Eg} (h : OwnE w base v l) : ∃ ao cap, v = .slice ao l.length cap := rw_form h
theorem fopath {w : World} {p : Nat} {v : Value} {J : List (Nat × Nat)} {V : List Value} {m : List Mv} (h : Fo w p v J V m) (a b : Int) :
    Calls Try.prog 13 #[.pointer (some ⟨p, 0, none⟩), .int .i64 a, .int .i64 b] w fun e w' => ∃ (P : List Ed) (ao : Option Addr) (cap : Nat), e = .returned (.tuple #[.slice ao P.length cap, .int .i64 (pathE m a b)]) ∧ OwnE w' w.heap.size (.slice ao P.length cap) (P.map (cz J V)) ∧ Below w.heap.size w w' ∧ (pathE m a b ≠ 0 → P = []) ∧ (pathE m a b = 0 → Pa J a.toNat P b.toNat) := by
  unfold pathE
  by_cases hh : (hasB m a && hasB m b) = true
  · have hh' := hh
    rw [Bool.and_eq_true] at hh'
    obtain ⟨x, rfl, hx⟩ := hasB_iff.1 hh'.1
    obtain ⟨y, rfl, hy⟩ := hasB_iff.1 hh'.2
    rw [if_pos hh]
    simp only [Int.toNat_natCast]
    by_cases hr : (mA m x).rt = (mA m y).rt
    · rw [if_pos hr]
      refine (fpath_ok w p v J V m x y h.fo h.inv h.ifv hx hy hr).mono fun e w' ⟨P, v', h1, h2, h3, h4⟩ => ?_
      obtain ⟨ao, cap, e1⟩ := h3.form
      rw [List.length_map] at e1
      subst e1
      exact ⟨P, ao, cap, h2, h3, h4, fun h => absurd rfl h, fun _ => h1⟩
    · rw [if_neg hr]
      refine (fpath_none w p v m x y h.fo hx hy hr).mono fun e w' ⟨h1, h2⟩ => ?_
      subst h2
      exact ⟨[], none, 0, h1, OwnE_nil _ _, Below.refl _ _, fun _ => rfl, fun h => by cases h⟩
  · have hh2 : (hasB m a && hasB m b) = false := by simpa using hh
    rw [if_neg hh]
    refine (fpath_bad w p v m a b h.fo hh2).mono fun e w' ⟨h1, h2⟩ => ?_
    subst h2
    exact ⟨[], none, 0, h1, OwnE_nil _ _, Below.refl _ _, fun _ => rfl, fun h => by cases h⟩

/-- The members that a way meets. -/
def visL (J : List (Nat × Nat)) (a : Nat) (P : List Ed) : List Nat := a :: P.map (eB J)
theorem visL_len (J : List (Nat × Nat)) (a : Nat) (P : List Ed) : (visL J a P).length = P.length + 1 := by simp [visL]
theorem vis_at {J : List (Nat × Nat)} : ∀ {P : List Ed} {a b : Nat}, Wk J a P b → ∀ i, i < P.length → (visL J a P).getD i 0 = eA J (P.getD i (0, false)) ∧ (visL J a P).getD (i + 1) 0 = eB J (P.getD i (0, false))
  | [], a, b, _, i, hi => by simp at hi
  | e :: P, a, b, ⟨h1, h2, h3⟩, 0, _ => ⟨h2.symm, rfl⟩
  | e :: P, a, b, ⟨h1, h2, h3⟩, i + 1, hi => by
    have := vis_at h3 i (by simpa using hi)
    exact this
theorem vis_end {J : List (Nat × Nat)} : ∀ {P : List Ed} {a b : Nat}, Wk J a P b → (visL J a P).getD P.length 0 = b
  | [], a, b, h => h
  | e :: P, a, b, ⟨h1, h2, h3⟩ => by
    have := vis_end h3
    exact this
theorem rv_at (P : List Ed) (i : Nat) (hi : i < P.length) : (rv P).getD (P.length - 1 - i) (0, false) = tn (P.getD i (0, false)) := by
  unfold rv
  rw [List.getD_eq_getElem?_getD, List.getElem?_reverse (by simp; omega), List.getElem?_map, List.length_map]
  have : P.length - 1 - (P.length - 1 - i) = i := by omega
  rw [this, List.getElem?_eq_getElem hi, List.getD_eq_getElem?_getD, List.getElem?_eq_getElem hi]
  rfl
theorem nodup_next {l : List Nat} (h : l.Nodup) {i : Nat} (hi : i + 1 < l.length) : l.getD (i + 1) 0 ∉ l.take (i + 1) := by
  intro hm
  obtain ⟨j, hj, e⟩ := List.mem_iff_getElem.1 hm
  rw [List.getElem_take] at e
  rw [List.getD_eq_getElem?_getD, List.getElem?_eq_getElem hi] at e
  have hj' : j < i + 1 := by simp at hj; omega
  have := (List.nodup_iff_pairwise_ne.1 h)
  have := List.pairwise_iff_getElem.1 this j (i + 1) (by omega) hi (by omega)
  exact this (by simpa using e)
/-- Two ways, one behind the other. -/
theorem Fst.tri {J : List (Nat × Nat)} (hf : Fst J) {a b c : Nat} {P Q R : List Ed} (h1 : Pa J a P b) (h2 : Pa J b Q c) (h3 : Pa J a R c) : ∃ k, P.length + Q.length = R.length + 2 * k := by
  obtain ⟨p, hp, k, hk⟩ := (h1.1.append h2.1).red
  have := hf.uniq _ _ _ _ hp h3
  subst this
  exact ⟨k, by rw [← hk]; simp⟩
theorem pathE_trans {J : List (Nat × Nat)} {V : List Value} {m : List Mv} {a b c : Int} (h : pathE m a b = 0) : pathE m b c = pathE m a c := by
  unfold pathE at *
  split at h
  · next hh =>
    split at h
    · next hr =>
      rw [Bool.and_eq_true] at hh
      rw [hh.1, hh.2, hr]
    · cases h
  · cases h
end Go.Proofs.Ytfnbkffphpidbaa
