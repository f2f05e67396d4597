/-
  A map from texts to how often they were met, of the call's own.
-/
import Derived.Test.YtchhogiamdefjaaDoorShPure
import Derived.Test.YtchhogiamdefjaaDoorExMem
import Derived.Maps.OwnSet
import Derived.StringKeys
set_option linter.unusedSimpArgs false
set_option linter.unusedVariables false
namespace Go.Proofs.YtchhogiamdefjaaDoor
open Go.RowKit Go.Lib Go.Maps

theorem cntLaw : Keyed Tryd.prog 9 := string_keyed Tryd.underlying9
theorem zeroInt (w : World) : (zeroValue 3).run Tryd.prog w = .ok (.int .i64 0) w := by kernel_rfl
def klB (s : ByteArray) : Lit := .string s.data.toList
theorem keyB {s : ByteArray} (h : s.size ≤ maxLen) : keyOf Tryd.prog 9 (.string s) = some (klB s) := Go.WideMaps.keyOf_string_mk Tryd.underlying9 h
theorem isKeyB (s : ByteArray) : WideAt.IsKeyLit (klB s) := trivial
theorem klB_inj {s t : ByteArray} (h : klB s = klB t) : s = t := by
  have : s.data.toList = t.data.toList := by simpa [klB] using h
  exact ByteArray.ext (by simpa using congrArg List.toArray this)

/-- Block B is a map of n stores whose keys are the texts ks. -/
def CntM (w : World) (B n : Nat) (ks : List ByteArray) : Prop :=
  ∃ D : DataW Unit, w.ownsMap Tryd.prog 9 (plainElem (H := Unit) Tryd.prog 3) B n D ∧ (∀ s, ∃ c : Nat, c ≤ n ∧ D.atKey (klB s) (.lit (.int .i64 0)) = .lit (.int .i64 (c : Int))) ∧ Maps.size D = ks.length ∧ (∀ s, has D (klB s) = ks.any (fun y => decide (y = s)))

theorem CntM.made (w : World) : CntM (w.alloc (.map #[] 0)) w.heap.size 0 [] :=
  ⟨.map [], World.ownsMap_made _ _ _ _, fun s => ⟨0, Nat.le_refl _, rfl⟩, rfl, fun s => rfl⟩
theorem CntM.lt {w : World} {B n : Nat} {ks : List ByteArray} (h : CntM w B n ks) : B < w.heap.size := let ⟨_, h, _⟩ := h; World.ownsMap.lt h
theorem CntM.kept {w w' : World} {B n : Nat} {ks : List ByteArray} {row : Option Nat} (h : CntM w B n ks) (hg : w.grownBy w' row) (hne : some B ≠ row) : CntM w' B n ks := let ⟨D, h, r⟩ := h; ⟨D, World.ownsMap.kept h hg hne, r⟩
theorem CntM.alloc {w : World} {B n : Nat} {ks : List ByteArray} (h : CntM w B n ks) (o : Obj) : CntM (w.alloc o) B n ks := let ⟨D, h, r⟩ := h; ⟨D, World.ownsMap.alloc h o, r⟩
theorem CntM.setCell {w : World} {B n : Nat} {ks : List ByteArray} (h : CntM w B n ks) {a : Addr} (ha : B ≠ a.block) (u : Value) : CntM (w.setCell a u) B n ks := let ⟨D, h, r⟩ := h; ⟨D, World.ownsMap.setCell h ha u, r⟩

/-- One more is counted: what is read, and what is laid. -/
theorem CntM.more {w : World} {B n : Nat} {ks : List ByteArray} (h : CntM w B n ks) (hn : n ≤ 1000) {s : ByteArray} (hs : s.size ≤ maxLen) :
    ∃ (c : Nat) (w' : World), c ≤ n ∧ (Instr.lookup 126 (.map (some B)) (.string s) false).run Tryd.prog w = .ok (.int .i64 (c : Int)) w ∧
      (Instr.mapUpdate 126 (.map (some B)) (.string s) (.int .i64 ((c : Int) + 1))).run Tryd.prog w = .ok () w' ∧ CntM w' B (n + 1) (if ks.any (fun y => decide (y = s)) = true then ks else ks ++ [s]) ∧ w.grownBy w' (some B) := by
  obtain ⟨D, hD, hc, hz, hh⟩ := h
  obtain ⟨c', hr, hat, hw⟩ := hD.lookup_int cntLaw Tryd.underlying126 Tryd.underlying3 (zeroInt w) (keyB hs)
  obtain ⟨c, hcn, hcs⟩ := hc s
  have e : c' = (c : Int) := by
    rw [hat] at hcs
    simpa using hcs
  subst e
  have hwf : (Lit.int .i64 ((c : Int) + 1)).wf = true := by
    have e1 : IntKind.min .i64 = -9223372036854775808 := by decide
    have e2 : IntKind.max .i64 = 9223372036854775807 := by decide
    simp only [Lit.wf, e1, e2, Bool.and_eq_true, decide_eq_true_eq]
    omega
  obtain ⟨w', h1, h2, h3⟩ := World.ownsMap.update hD cntLaw Tryd.underlying126 (by unfold maxLen; omega) (keyB hs) (plainElem_int Tryd.underlying3 hwf)
  refine ⟨c, w', hcn, hr, h1, ⟨_, h2, fun t => ?_, ?_, fun t => ?_⟩, h3⟩
  · by_cases e : t = s
    · subst e
      exact ⟨c + 1, by omega, by rw [atKey_put_same hD.isMap (isKeyB t)]; simp⟩
    · obtain ⟨ct, hct, hat'⟩ := hc t
      exact ⟨ct, by omega, by rw [atKey_put_other (fun e2 => e (klB_inj e2))]; exact hat'⟩
  · rw [size_put (hD.tidy cntLaw), hh s, hz]
    split
    · rfl
    · simp
  · by_cases e : t = s
    · subst e
      rw [has_put_same hD.isMap (isKeyB t)]
      split
      · rename_i h; rw [h]
      · simp
    · rw [has_put_other (fun e2 => e (klB_inj e2)), hh t]
      split
      · rfl
      · simp [Ne.symm e]
theorem CntM.len {w : World} {B n : Nat} {ks : List ByteArray} (h : CntM w B n ks) (ty : TypeId) :
    (Builtin.len_ #[126 ] ty #[.map (some B)]).run Tryd.prog w = .ok (.int .i64 (ks.length : Nat)) w := by
  obtain ⟨D, hD, _, hz, _⟩ := h
  rw [World.ownsMap.len hD Tryd.underlying126 ty, hz]
end Go.Proofs.YtchhogiamdefjaaDoor
