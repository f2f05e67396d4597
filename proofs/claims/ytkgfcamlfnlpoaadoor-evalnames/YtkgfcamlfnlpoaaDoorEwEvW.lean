/-
  Eval, Trap, walked.
-/
import Derived.Test.YtkgfcamlfnlpoaaDoorEwNdW
set_option linter.unusedSimpArgs false
set_option linter.unusedVariables false
namespace Go.Proofs.YtkgfcamlfnlpoaaDoor
open Go.RowKit Go.Lib

theorem Ew.fresh (w : World) (ev : Value) : Ew (w.alloc (.cells #[ev, .slice none 0 0] 71)) w.heap.size ev (.slice none 0 0) [] :=
  ⟨Deep.blk_alloc_new _ _, World.ownsRow_nil _ _ _ _⟩

theorem snd_none {l : List Nd} (h : begL l = none) : sndB l = false := by unfold sndB; rw [h]; rfl
theorem snd_some {l : List Nd} {fr : List Nat} (h : begL l = some fr) : sndB l = true := by unfold sndB; rw [h]; rfl

/-- What eval's calls find. -/
structure EvIn (w : World) (ao : Option Addr) (cap : Nat) (l : List Nd) (eo : Option Addr) (ec : Nat) (bs : List Bd) : Prop where
  T : SpanCells w
  G : GrpCells w
  R : Rd w ao cap l
  B : Bds w eo ec bs
  reach : bs.length * 24 ≤ 140737488355328
theorem EvIn.below {w w' : World} {ao : Option Addr} {cap : Nat} {l : List Nd} {eo : Option Addr} {ec : Nat} {bs : List Bd} (h : EvIn w ao cap l eo ec bs) (hb : Below w.heap.size w w') : EvIn w' ao cap l eo ec bs :=
  ⟨h.T.below hb, h.G.below hb, h.R.below hb hb.size, h.B.below hb, h.reach⟩

/-- nodes, of a fresh work. -/
theorem wnodes_new {w : World} {ao : Option Addr} {cap : Nat} {l : List Nd} {eo : Option Addr} {ec : Nat} {bs : List Bd} {fr : List Nat} (h : EvIn w ao cap l eo ec bs) (hb : begL l = some fr) :
    Calls Tryd.prog 48 #[.pointer (some ⟨w.heap.size, 0, none⟩), .slice ao l.length cap] (w.alloc (.cells #[.slice eo bs.length ec, .slice none 0 0] 71)) fun e w' =>
      ∃ v' g0 gc, e = .returned (.int .i64 (okN bs l l.length)) ∧ Below w.heap.size w w' ∧ (okN bs l l.length = l.length → v' = .slice (some ⟨g0, 0, none⟩) 1 gc ∧ w'.cell? ⟨w.heap.size, 1, none⟩ = some v' ∧ w'.cell? ⟨g0, 0, none⟩ = some (.int .i64 ((vA bs l (l.length - 1)).getD 0))) := by
  have hb1 : Below w.heap.size w (w.alloc (.cells #[.slice eo bs.length ec, .slice none 0 0] 71)) := (Below.refl _ _).alloc (Nat.le_refl _) _
  refine (wnodes_any _ w.heap.size eo ec (.slice none 0 0) bs ao cap l fr (Ew.fresh w _) (fun W hW => h.B.below (hb1.trans hW)) h.reach (fun W hW => Nodes.below h.R (hb1.trans hW) (Nat.le_refl _)) hb (fun W hW => h.G.below (hb1.trans hW))).mono ?_
  rintro e w' ⟨k, st, rfl, hk, hs, he, hB⟩
  have hbo := begOk_of (begL_some hb).2.2.1
  have hk2 := okN_end hbo k st hk hs (by rcases he with ⟨h1, _⟩ | h1; exact .inl h1; exact .inr h1)
  have hbl := hb1.trans hB
  by_cases hall : k = l.length
  · rcases he with ⟨_, v', hE⟩ | ⟨h1, _⟩
    · have hend := (snd_end (bs := bs) hb).2 (by omega)
      rw [← hall, hs] at hend
      have hst := Option.some.inj hend
      subst hst
      have hon := hE.on
      obtain ⟨g0, gc, rfl⟩ : ∃ g0 gc, v' = .slice (some ⟨g0, 0, none⟩) 1 gc := by
        rcases hon.2 with ⟨_, h0⟩ | ⟨g', cap', cur, rfl, _⟩
        · simp at h0
        · exact ⟨_, _, rfl⟩
      refine ⟨_, g0, gc, by rw [hk2], hbl, fun _ => ⟨rfl, hE.c1, ?_⟩⟩
      have := hon.cells (g := g0) rfl 0 _ (by simp; rfl)
      have e0 : (⟨g0, 0, none⟩ : Addr).add 0 = ⟨g0, 0, none⟩ := rfl
      rw [e0] at this
      rw [← hall]
      exact this
    · omega
  · exact ⟨.nilIface, 0, 0, by rw [hk2], hbl, fun h => by omega⟩

set_option maxRecDepth 20000 in
set_option maxHeartbeats 1000000 in
theorem eval_any {w : World} {ao : Option Addr} {cap : Nat} {l : List Nd} {eo : Option Addr} {ec : Nat} {bs : List Bd} (h : EvIn w ao cap l eo ec bs) :
    Calls Tryd.prog 24 #[.slice ao l.length cap, .slice eo bs.length ec] w fun e w' => e = .returned (.tuple #[.int .i64 (evA bs l).1, .int .i64 (evA bs l).2]) ∧ Below w.heap.size w w' := by
  cases hb : begL l with
  | none =>
    have hE : evA bs l = (0, 1) := by unfold evA; rw [snd_none hb]; rfl
    rw [hE]
    have HH : Hid (EvIn w ao cap l eo ec bs) := h
    clear h hE
    go_enter Tryd.func24, Tryd.ntmps24
    go_wp2_with fail
    refine (check_none _ l _ _ (Nat.le_refl _) HH.out.T HH.out.R hb).mono ?_
    rintro e w2 ⟨rfl, hb2⟩
    go_wp2_with fail
    go_ret2
    exact ⟨rfl, hb2⟩
  | some fr =>
    have hE : evA bs l = match vA bs l (l.length - 1) with | some v => (v, 0) | none => (0, 12) := by unfold evA; rw [snd_some hb]; rfl
    rw [hE]
    have h64 := (begL_some hb).2.1
    have hend := (snd_end (bs := bs) hb).1
    have hle := okN_le bs l l.length
    have HN : Hid (∀ V, Below w.heap.size w V → Calls Tryd.prog 48 #[.pointer (some ⟨V.heap.size, 0, none⟩), .slice ao l.length cap] (V.alloc (.cells #[.slice eo bs.length ec, .slice none 0 0] 71)) fun e w' =>
      ∃ v' g0 gc, e = .returned (.int .i64 (okN bs l l.length)) ∧ Below V.heap.size V w' ∧ (okN bs l l.length = l.length → v' = .slice (some ⟨g0, 0, none⟩) 1 gc ∧ w'.cell? ⟨V.heap.size, 1, none⟩ = some v' ∧ w'.cell? ⟨g0, 0, none⟩ = some (.int .i64 ((vA bs l (l.length - 1)).getD 0)))) := fun V hV => wnodes_new (h.below hV) hb
    have HH : Hid (EvIn w ao cap l eo ec bs) := h
    have HBG : Hid (begL l = some fr) := hb
    clear h hE hb
    generalize okN bs l l.length = K at *
    generalize vA bs l (l.length - 1) = V0 at *
    cases V0 with
    | none =>
      have hK : K < l.length := by
        rcases Nat.lt_or_ge K l.length with h | h
        · exact h
        · exact absurd rfl (hend.1 (by omega))
      have hKI : (K : Int) < (l.length : Int) := by omega
      clear hend
      go_enter Tryd.func24, Tryd.ntmps24
      go_wp2_with fail
      refine (check_some _ l fr _ _ (Nat.le_refl _) HH.out.T HH.out.R HBG.out).mono ?_
      rintro e w2 ⟨rfl, hb2⟩
      have HB2 : Hid (Below w.heap.size w w2) := hb2
      clear hb2
      go_wp2_with fail
      refine (HN.out w2 HB2.out).mono ?_
      rintro e w3 ⟨v', g0, gc, rfl, hb3, _⟩
      have HB3 : Hid (Below w.heap.size w w3) := HB2.out.trans (hb3.mono HB2.out.size)
      clear hb3
      go_wp2_with fail
      go_ret2
      exact ⟨rfl, HB3.out⟩
    | some v =>
      have hK : K = l.length := hend.2 (by simp)
      subst hK
      clear hend
      go_enter Tryd.func24, Tryd.ntmps24
      go_wp2_with fail
      refine (check_some _ l fr _ _ (Nat.le_refl _) HH.out.T HH.out.R HBG.out).mono ?_
      rintro e w2 ⟨rfl, hb2⟩
      have HB2 : Hid (Below w.heap.size w w2) := hb2
      clear hb2
      go_wp2_with fail
      refine (HN.out w2 HB2.out).mono ?_
      rintro e w3 ⟨v', g0, gc, rfl, hb3, hc⟩
      obtain ⟨rfl, q1, q2⟩ := hc (by first | rfl | trivial)
      rw [Option.getD_some] at q2
      have HB3 : Hid (Below w.heap.size w w3) := HB2.out.trans (hb3.mono HB2.out.size)
      clear hb3 hc HN
      go_wp2_with fail
      go_ret2
      exact ⟨rfl, HB3.out⟩

set_option maxRecDepth 20000 in
set_option maxHeartbeats 1000000 in
theorem trap_any {w : World} {ao : Option Addr} {cap : Nat} {l : List Nd} {eo : Option Addr} {ec : Nat} {bs : List Bd} (h : EvIn w ao cap l eo ec bs) :
    Calls Tryd.prog 27 #[.slice ao l.length cap, .slice eo bs.length ec] w fun e w' => e = .returned (.tuple #[.int .i64 (evT bs l).1, .int .i64 (evT bs l).2]) ∧ Below w.heap.size w w' := by
  cases hb : begL l with
  | none =>
    have hE : evT bs l = (0, 1) := by unfold evT; rw [snd_none hb]; rfl
    rw [hE]
    have HH : Hid (EvIn w ao cap l eo ec bs) := h
    clear h hE
    go_enter Tryd.func27, Tryd.ntmps27
    go_wp2_with fail
    refine (check_none _ l _ _ (Nat.le_refl _) HH.out.T HH.out.R hb).mono ?_
    rintro e w2 ⟨rfl, hb2⟩
    go_wp2_with fail
    go_ret2
    exact ⟨rfl, hb2⟩
  | some fr =>
    have hE : evT bs l = if okN bs l l.length = l.length then ((0 : Int), (11 : Int)) else (((okN bs l l.length : Nat) : Int), (0 : Int)) := by unfold evT; rw [snd_some hb]; rfl
    rw [hE]
    have h64 := (begL_some hb).2.1
    have hle := okN_le bs l l.length
    have HN : Hid (∀ V, Below w.heap.size w V → Calls Tryd.prog 48 #[.pointer (some ⟨V.heap.size, 0, none⟩), .slice ao l.length cap] (V.alloc (.cells #[.slice eo bs.length ec, .slice none 0 0] 71)) fun e w' =>
      e = .returned (.int .i64 (okN bs l l.length)) ∧ Below V.heap.size V w') := fun V hV => (wnodes_new (h.below hV) hb).mono fun e w' ⟨_, _, _, h1, h2, _⟩ => ⟨h1, h2⟩
    have HH : Hid (EvIn w ao cap l eo ec bs) := h
    have HBG : Hid (begL l = some fr) := hb
    clear h hE hb
    generalize okN bs l l.length = K at *
    by_cases hK : K = l.length
    · rw [if_pos hK]
      subst hK
      go_enter Tryd.func27, Tryd.ntmps27
      go_wp2_with fail
      refine (check_some _ l fr _ _ (Nat.le_refl _) HH.out.T HH.out.R HBG.out).mono ?_
      rintro e w2 ⟨rfl, hb2⟩
      have HB2 : Hid (Below w.heap.size w w2) := hb2
      clear hb2
      go_wp2_with fail
      refine (HN.out w2 HB2.out).mono ?_
      rintro e w3 ⟨rfl, hb3⟩
      have HB3 : Hid (Below w.heap.size w w3) := HB2.out.trans (hb3.mono HB2.out.size)
      clear hb3
      go_wp2_with fail
      go_ret2
      exact ⟨rfl, HB3.out⟩
    · rw [if_neg hK]
      have gK : ((K : Int) == (l.length : Int)) = false := by simp; omega
      go_enter Tryd.func27, Tryd.ntmps27
      go_wp2_with fail
      refine (check_some _ l fr _ _ (Nat.le_refl _) HH.out.T HH.out.R HBG.out).mono ?_
      rintro e w2 ⟨rfl, hb2⟩
      have HB2 : Hid (Below w.heap.size w w2) := hb2
      clear hb2
      go_wp2_with fail
      refine (HN.out w2 HB2.out).mono ?_
      rintro e w3 ⟨rfl, hb3⟩
      have HB3 : Hid (Below w.heap.size w w3) := HB2.out.trans (hb3.mono HB2.out.size)
      clear hb3
      go_wp2_with fail
      go_ret2
      exact ⟨rfl, HB3.out⟩
end Go.Proofs.YtkgfcamlfnlpoaaDoor
