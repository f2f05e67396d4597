/-
  How long the names are.
-/
import Derived.Test.YtaennaoakopgfaaDoorMGPs
set_option linter.unusedSimpArgs false
set_option linter.unusedVariables false
namespace Go.Proofs.YtaennaoakopgfaaDoor
open Go.Lib

def SzOk (s : ByteArray) (st : Ps) : Prop := ∀ x ∈ st.nodes, x.name.size ≤ s.size
theorem ext_sz (s : ByteArray) (a b : Nat) : (s.extract a b).size ≤ s.size := by
  simp [ByteArray.size_extract]; omega
theorem SzOk.add {s : ByteArray} {st : Ps} {x : Nd} (h : SzOk s st) (hx : x.name.size ≤ s.size) : SzOk s (psAdd x st).2 := by
  intro y hy
  have hy : y ∈ st.nodes ++ [x] := hy
  rcases List.mem_append.1 hy with h1 | h1
  · exact h y h1
  · rw [List.mem_singleton.1 h1]; exact hx
theorem SzOk.nx {s : ByteArray} {pat : Bool} {most : Nat} {st st1 : Ps} (h : SzOk s st) (hn : psNx s pat most st = .ok st1) : SzOk s st1 := by
  obtain ⟨t, _, h2⟩ := Pr.bind_ok hn
  cases h2; exact h
theorem SzOk.ex {s : ByteArray} {pat : Bool} {c : Int} {st st1 : Ps} (h : SzOk s st) (hn : psEx s pat c st = .ok st1) : SzOk s st1 := by
  unfold psEx at hn
  split at hn
  · split at hn
    · exact h.nx hn
    · cases hn
  · cases hn
theorem psRun_sz (s : ByteArray) (pat : Bool) : ∀ (f : Nat) (q : Rl) (st : Ps) (r : Nat × Ps), SzOk s st → psRun s pat f q st = .ok r → SzOk s r.2 := by
  intro f
  induction f with
  | zero => intro q st r _ h; cases h
  | succ f ih =>
    intro q st r hst h
    cases q with
    | cond =>
      obtain ⟨c, h1, h2⟩ := Pr.bind_ok h
      have k1 := ih (.pair 1) _ _ hst h1
      split at h2
      · obtain ⟨st2, h3, h2⟩ := Pr.bind_ok h2
        obtain ⟨a, h4, h2⟩ := Pr.bind_ok h2
        obtain ⟨st4, h5, h2⟩ := Pr.bind_ok h2
        obtain ⟨b, h6, h2⟩ := Pr.bind_ok h2
        cases h2
        have k := ih .cond _ _ ((ih .cond _ _ (k1.nx h3) h4).ex h5) h6; exact k.add (Nat.zero_le _)
      · cases h2; exact k1
    | pair lv =>
      simp only [psRun] at h
      split at h
      · exact ih .un _ _ hst h
      · obtain ⟨a, h1, h2⟩ := Pr.bind_ok h
        exact ih (.loop lv a.1) _ _ (ih (.pair (lv + 1)) _ _ hst h1) h2
    | loop lv a =>
      simp only [psRun] at h
      split at h
      · obtain ⟨st1, h1, h⟩ := Pr.bind_ok h
        obtain ⟨b, h2, h⟩ := Pr.bind_ok h
        have k2 := ih (.pair (lv + 1)) _ _ (hst.nx h1) h2
        split at h
        · cases h; exact k2.add (Nat.zero_le _)
        · exact ih _ _ _ (show SzOk s (psJoin (psOp st.now.what).1 [a, b.1] b.2).2 from k2.add (Nat.zero_le _)) h
      · cases h; exact hst
    | un =>
      simp only [psRun] at h
      split at h
      · split at h
        · obtain ⟨st1, h1, h⟩ := Pr.bind_ok h
          obtain ⟨x, h2, h⟩ := Pr.bind_ok h
          cases h
          have k := ih .un _ _ (hst.nx h1) h2; exact k.add (Nat.zero_le _)
        · obtain ⟨st1, h1, h⟩ := Pr.bind_ok h
          obtain ⟨st2, h2, h⟩ := Pr.bind_ok h
          cases h
          exact ((hst.nx h1).ex h2).add (Nat.zero_le _)
      · split at h
        · obtain ⟨st1, h1, h⟩ := Pr.bind_ok h
          obtain ⟨x, h2, h⟩ := Pr.bind_ok h
          cases h
          have k := ih .un _ _ (hst.nx h1) h2; exact k.add (Nat.zero_le _)
        · exact ih .atom _ _ hst h
    | atom =>
      simp only [psRun] at h
      split at h
      · obtain ⟨st2, h2, h⟩ := Pr.bind_ok h
        cases h
        exact (hst.ex h2).add (Nat.zero_le _)
      · split at h
        · obtain ⟨st2, h2, h⟩ := Pr.bind_ok h
          cases h
          exact (hst.ex h2).add (ext_sz _ _ _)
        · split at h
          · obtain ⟨st1, h1, h⟩ := Pr.bind_ok h
            obtain ⟨st2, h2, h⟩ := Pr.bind_ok h
            cases h
            exact ((hst.nx h1).ex h2).add (ext_sz _ _ _)
          · split at h
            · split at h
              · cases h
              · obtain ⟨st1, h1, h⟩ := Pr.bind_ok h
                obtain ⟨e, h2, h⟩ := Pr.bind_ok h
                obtain ⟨st3, h3, h⟩ := Pr.bind_ok h
                cases h
                have k : SzOk s st3 := SzOk.ex (ih .cond _ _ (SzOk.nx (st := { st with brk := st.brk + 1 }) hst h1) h2) h3
                exact k
            · cases h

end Go.Proofs.YtaennaoakopgfaaDoor
