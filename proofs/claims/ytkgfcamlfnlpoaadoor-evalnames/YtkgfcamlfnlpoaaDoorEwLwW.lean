/-
  What the statements of layer 8 share: copied, awake, a literal written in the call.
-/
import Derived.Test.YtkgfcamlfnlpoaaDoorEwEvW
set_option linter.unusedSimpArgs false
set_option linter.unusedVariables false
namespace Go.Proofs.YtkgfcamlfnlpoaaDoor
open Go.RowKit Go.Lib

set_option maxHeartbeats 1000000 in
theorem copied8_any (ao : Option Addr) (cap : Nat) (l : List Bd) (hreach : l.length * 24 ≤ 140737488355328) (w : World) (hI : Bds w ao cap l) :
    Calls Tryd.prog 25 #[.slice ao l.length cap] w fun e W' => (∃ v, e = .returned v ∧ OwnB W' w.heap.size v l) ∧ Below w.heap.size w W' := by
  obtain ⟨i0, hi, hz0, hz1, hz2⟩ := info_parts Tryd.infoBind
  obtain ⟨⟨hl, hm, hn⟩, _⟩ := id hI
  have HI : Hid (Bds w ao cap l) := hI
  have HN : Hid (ao = none → l.length = 0 ∧ cap = 0) := fun h => by have := hn h; omega
  clear hI hn
  have HS : Hid (∀ ad, ao = some ad → ∀ j u, (bdCells l)[j]? = some u → (w.alloc (.cells #[] 51)).cell? (ad.add j) = some u) := (HI.out.below ((Below.refl w.heap.size w).alloc (Nat.le_refl _) _)).src
  have HO : Hid ((w.alloc (.cells #[] 51)).ownsRow w.heap.size 51 2 (.slice (some ⟨w.heap.size, 0, none⟩) 0 0) 0 []) := World.ownsRow_made w #[] 0 (Nat.le_refl _) (Nat.zero_le _) (by simp)
  have HL : Hid ((bdCells l).length = l.length * 2) := bdCells_length l
  go_enter Tryd.func25, Tryd.ntmps25
  go_wp2_with (at_builtin; refine append_srcE _ rfl _ _ 38 rfl w.heap.size 51 i0 (.agg #[.string ⟨#[]⟩, .int .i64 0]) 2 24 Tryd.underlying38 hi hz0 hz1 hz2 rfl (by decide) _ _ _ rfl HO.out ao l.length cap (bdCells l) rfl HN.out HL.out HS.out (bdCells_one l) (by omega) (by omega) (by simp) ?_; intro v' w1 hown hgrow)
  go_ret
  refine ⟨⟨_, rfl, ?_⟩, ((Below.refl w.heap.size w).alloc (Nat.le_refl _) _).grown hgrow (by simp) (fun k hk => by have e : some w.heap.size = some k := hk; cases e; exact Nat.le_refl _)⟩
  show World.ownsRow _ _ _ _ _ _ _
  simpa using hown
theorem copied8_rd {ao : Option Addr} {cap : Nat} {l : List Bd} (hreach : l.length * 24 ≤ 140737488355328) {w : World} (hI : Bds w ao cap l) :
    Calls Tryd.prog 25 #[.slice ao l.length cap] w fun e W' => ∃ ao' cap', e = .returned (.slice ao' l.length cap') ∧ Bds W' ao' cap' l ∧ Below w.heap.size w W' := by
  refine (copied8_any ao cap l hreach w hI).mono ?_
  rintro e W' ⟨⟨v, rfl, hO⟩, hb⟩
  obtain ⟨ao', cap', rfl, hB, _⟩ := hO.read
  exact ⟨ao', cap', rfl, hB, hb⟩

/-- A literal. -/
def litN (n : Int) : Nd := ⟨1, n, ⟨#[]⟩, []⟩
theorem litN_snd (n : Int) : begL [litN n] = some [0] := by
  have hf : formB (litN n) = true := by
    unfold formB fitB litN
    simp [aritI]
  refine begL_mk (by simp) (by simp) ?_ rfl
  show (stp [] (litN n)).bind _ = _
  unfold stp
  rw [if_pos hf]
  rfl
theorem litN_vA (bs : List Bd) (n : Int) : vA bs [litN n] 0 = some n := rfl
theorem litN_evA (bs : List Bd) (n : Int) : evA bs [litN n] = (n, 0) := by
  unfold evA
  rw [snd_some (litN_snd n)]
  rfl
theorem Rd_lit (w : World) (n : Int) : Rd (w.alloc (.cells #[.int .i64 1, .int .i64 n, .string ⟨#[]⟩, .slice none 0 0] 46)) (some ⟨w.heap.size, 0, none⟩) 1 [litN n] := by
  refine ⟨_, 1, rfl, by simp, by decide, .inr ⟨w.heap.size, 0, rfl, by simp, fun i hi => ?_⟩⟩
  have : i = 0 := by simp at hi; omega
  subst this
  exact ⟨.slice none 0 0, by simp [litN], by simp [litN], by simp [litN], by simp [litN], ⟨none, 0, rfl, by simp [litN], by simp, .inl rfl⟩⟩

set_option maxHeartbeats 1000000 in
theorem awake8_any (w : World) (hT : SpanCells w) (hG : GrpCells w) :
    Calls Tryd.prog 23 #[] w fun e W' => e = .returned (.bool true) ∧ Below w.heap.size w W' := by
  have hb1 : Below w.heap.size w (w.alloc (.cells #[.int .i64 1, .int .i64 7, .string ⟨#[]⟩, .slice none 0 0] 46)) := (Below.refl _ _).alloc (Nat.le_refl _) _
  have cE : Hid (Calls Tryd.prog 24 #[.slice (some ⟨w.heap.size, 0, none⟩) 1 1, .slice none 0 0] (w.alloc (.cells #[.int .i64 1, .int .i64 7, .string ⟨#[]⟩, .slice none 0 0] 46)) fun e w' => e = .returned (.tuple #[.int .i64 7, .int .i64 0]) ∧ Below (w.heap.size + 1) (w.alloc (.cells #[.int .i64 1, .int .i64 7, .string ⟨#[]⟩, .slice none 0 0] 46)) w') := by
    have := eval_any (l := [litN 7]) (bs := []) (eo := none) (ec := 0) ⟨hT.below hb1, hG.below hb1, Rd_lit w 7, ⟨⟨by simp, by simp, fun _ => rfl⟩, .inl rfl⟩, by simp⟩
    rw [litN_evA] at this
    have e : (w.alloc (.cells #[.int .i64 1, .int .i64 7, .string ⟨#[]⟩, .slice none 0 0] 46)).heap.size = w.heap.size + 1 := by simp
    rw [e] at this
    exact this
  have HB1 : Hid (Below w.heap.size w (w.alloc (.cells #[.int .i64 1, .int .i64 7, .string ⟨#[]⟩, .slice none 0 0] 46))) := hb1
  clear hb1
  go_enter Tryd.func23, Tryd.ntmps23
  go_wp2_with fail
  refine cE.out.mono ?_
  rintro e w2 ⟨rfl, hb2⟩
  have HB2 : Hid (Below w.heap.size w w2) := HB1.out.trans (hb2.mono (by omega))
  clear hb2
  go_wp2_with fail
  go_ret
  exact ⟨rfl, HB2.out⟩
end Go.Proofs.YtkgfcamlfnlpoaaDoor
