/-
  Set, and Set of the document, walked.
-/
import Derived.Test.YtpdohdmpjaklgaaDoorMEvSmW
import Derived.Test.YtpdohdmpjaklgaaDoorMEvPure
import Derived.Test.YtpdohdmpjaklgaaDoorMIterW
import Derived.Test.YtpdohdmpjaklgaaDoorMRefNm
set_option linter.unusedSimpArgs false
set_option linter.unusedVariables false
namespace Go.Proofs.YtpdohdmpjaklgaaDoor
open Go.RowKit Go.Lib Go.Sort

theorem eql_nilB (ao : Option Addr) (n c : Nat) (w : World) : (binOp .eql 22 (.slice ao n c) (.slice none 0 0)).run Tryd.prog w = .ok (.bool ao.isNone) w := by
  cases ao <;> kernel_rfl

set_option maxHeartbeats 1000000 in
theorem cloneB_any (ao : Option Addr) (cap : Nat) (l : List Bd) (hreach : l.length * 24 ≤ 140737488355328) (w : World) (hI : Bds w ao cap l) :
    Calls Tryd.prog 23 #[.slice ao l.length cap] w fun e W' => (∃ v, e = .returned v ∧ OwnB W' w.heap.size v l) ∧ Below w.heap.size w W' := by
  have hnil := eql_nilB
  obtain ⟨i0, hi, hz0, hz1, hz2⟩ := info_parts Tryd.infoBind
  obtain ⟨⟨hl, hm, hn⟩, _⟩ := id hI
  cases ao with
  | none =>
    have : cap = 0 := hn rfl
    have h0 : l = [] := List.length_eq_zero_iff.1 (by omega)
    subst h0
    go_enter Tryd.func23, Tryd.ntmps23
    go_wp2
    go_ret
    exact ⟨⟨_, rfl, OwnB_nil _ _⟩, Below.refl _ _⟩
  | some ad =>
    have HI : Hid (Bds w (some ad) cap l) := hI
    clear hI hn
    have HS : Hid (∀ j u, (bdCells l)[j]? = some u → (w.alloc (.cells #[] 38)).cell? (ad.add j) = some u) := (HI.out.below ((Below.refl w.heap.size w).alloc (Nat.le_refl _) _)).src ad rfl
    have HO : Hid ((w.alloc (.cells #[] 38)).ownsRow w.heap.size 38 2 (.slice (some ⟨w.heap.size, 0, none⟩) 0 0) 0 []) := World.ownsRow_made w #[] 0 (Nat.le_refl _) (Nat.zero_le _) (by simp)
    have HL : Hid ((bdCells l).length = l.length * 2) := bdCells_length l
    have HM : Hid (0 + l.length ≤ maxLen) := by show _ ≤ _; omega
    go_enter Tryd.func23, Tryd.ntmps23
    go_wp2_with (at_builtin; refine wpList_append_own _ rfl _ _ 22 rfl w.heap.size 38 i0 (.agg #[.string ⟨#[]⟩, .int .i64 0]) 2 24 Tryd.underlying22 hi hz0 hz1 hz2 rfl (by decide) _ _ _ rfl HO.out ad l.length cap (bdCells l) rfl HL.out HS.out (bdCells_one l) HM.out (by omega) (by simp) ?_; intro v' w1 hown hgrow _)
    go_ret
    refine ⟨⟨_, rfl, ?_⟩, ((Below.refl w.heap.size w).alloc (Nat.le_refl _) _).grown hgrow (by simp) (fun k hk => by have e : some w.heap.size = some k := hk; cases e; exact Nat.le_refl _)⟩
    show World.ownsRow _ _ _ _ _ _ _
    simpa using hown

theorem OwnB.fro {w : World} {base g cap : Nat} {l : List Bd} (h : OwnB w base (.slice (some ⟨g, 0, none⟩) l.length cap) l) (i : Nat) : w.frozen? ⟨g, i, none⟩ = false := by
  rcases h.2 with ⟨h2, _⟩ | ⟨g', cap', cur, h3, hb, hg, _⟩
  · cases h2
  · cases h3
    simp [World.frozen?, hg]
theorem OwnB.some_ {w : World} {base : Nat} {v : Value} {l : List Bd} (h : OwnB w base v l) (hl : 0 < l.length) : ∃ g cap, v = .slice (some ⟨g, 0, none⟩) l.length cap ∧ base ≤ g ∧ g < w.heap.size := by
  rcases h.2 with ⟨rfl, h2⟩ | ⟨g', cap', cur, h3, hb, hg, _⟩
  · omega
  · exact ⟨g', cap', h3, hb, lt_of_block hg⟩
theorem OwnB.blk {w : World} {base : Nat} {v : Value} {l : List Bd} (h : OwnB w base v l) : ∀ k, v.ownBlock = some k → base ≤ k := by
  intro k hk
  rcases h.2 with ⟨rfl, _⟩ | ⟨g', cap', cur, rfl, hb, _⟩
  · cases hk
  · cases hk; exact hb
/-- What Set leaves. -/
def SetP (w : World) (l : List Bd) (nm : ByteArray) (n : Int) (e : Ending) (W' : World) : Prop :=
  (∃ v, e = .returned (.tuple #[v, .int .i64 (setR l nm n).2]) ∧ OwnB W' w.heap.size v (setR l nm n).1) ∧ Below w.heap.size w W'
theorem setP_bad {w W' : World} {l : List Bd} {nm : ByteArray} {n : Int} {er : Int} (he : setE l nm = er) (h0 : er ≠ 0) (hB : Below w.heap.size w W') : SetP w l nm n (.returned (.tuple #[.slice none 0 0, .int .i64 er])) W' := by
  have e : setR l nm n = ([], er) := by unfold setR; rw [he, if_neg h0]
  refine ⟨⟨_, by rw [e], by rw [e]; exact OwnB_nil _ _⟩, hB⟩
theorem setP_ok {w W' : World} {l : List Bd} {nm : ByteArray} {n : Int} {v : Value} (he : setE l nm = 0) (hv : OwnB W' w.heap.size v (setB l nm n)) (hB : Below w.heap.size w W') : SetP w l nm n (.returned (.tuple #[v, .int .i64 0])) W' := by
  have e : setR l nm n = (setB l nm n, 0) := by unfold setR; rw [he, if_pos rfl]
  exact ⟨⟨_, by rw [e], by rw [e]; exact hv⟩, hB⟩
theorem bd_snoc {W : World} {base : Nat} {v : Value} {l : List Bd} {nm : ByteArray} {n : Int} (h : W.ownsRow base 38 2 v (l.length + 1) (bdCells l ++ [.string nm, .int .i64 n])) : OwnB W base v (l ++ [(nm, n)]) := by
  show World.ownsRow _ _ _ _ _ _ _
  rw [bdCells_append, List.length_append]
  exact h

set_option maxRecDepth 100000 in
set_option maxHeartbeats 2000000 in
theorem set_any (ao : Option Addr) (cap : Nat) (l : List Bd) (nm : ByteArray) (n : Int) (hreach : l.length * 24 ≤ 140737488355328) (w : World) (hT : SpanCells w) (hI : Bds w ao cap l) :
    Calls Tryd.prog 12 #[.slice ao l.length cap, .string nm, .int .i64 n] w (SetP w l nm n) := by
  have c1 : Hid (∀ W, Bds W ao cap l → Calls Tryd.prog 21 #[.slice ao l.length cap, .string nm] W fun e W' => e = .returned (.int .i64 (lastB l nm)) ∧ Below W.heap.size W W') := fun W hW => last_any ao cap l nm hreach W hW
  have c2 : Hid (∀ W, Bds W ao cap l → Calls Tryd.prog 23 #[.slice ao l.length cap] W fun e W' => (∃ v, e = .returned v ∧ OwnB W' W.heap.size v l) ∧ Below W.heap.size W W') := fun W hW => cloneB_any ao cap l hreach W hW
  have c0 : Hid (Calls Tryd.prog 22 #[.string nm] w fun e w' => e = .returned (.bool (nameB nm)) ∧ Below w.heap.size w w') := name_spans nm w hT
  have hr := lastB_range l nm
  have HI : Hid (Bds w ao cap l) := hI
  obtain ⟨⟨hl, hm, _⟩, _⟩ := id hI
  unfold maxLen at hm
  clear hI
  obtain ⟨i0, hi, hz0, hz1, hz2⟩ := info_parts Tryd.infoBind
  by_cases hn : nameB nm = false
  · have HE : Hid (setE l nm = 7) := by show _ = _; unfold setE; rw [if_pos hn]
    rw [hn] at c0
    go_enter Tryd.func12, Tryd.ntmps12
    go_wp2_with (go_at_call 22; refine c0.out.mono ?_; rintro e w2 ⟨rfl, b2⟩)
    go_ret2
    exact setP_bad HE.out (by decide) b2
  · have hn : nameB nm = true := by simpa using hn
    rw [hn] at c0
    by_cases h : lastB l nm < 0
    · have e : lastB l nm = -1 := by omega
      rw [e] at c1
      by_cases h64 : 64 ≤ l.length
      · have HE : Hid (setE l nm = 10) := by show _ = _; unfold setE; rw [if_neg (by simp [hn]), if_pos ⟨h, h64⟩]
        have hg : (64 : Int) ≤ (l.length : Int) := by omega
        clear h hr e
        go_enter Tryd.func12, Tryd.ntmps12
        go_wp2_with (first | (go_at_call 21; refine (c1.out _ (HI.out.below (by assumption))).mono ?_; rintro e w3 ⟨rfl, b3⟩) | (go_at_call 22; refine c0.out.mono ?_; rintro e w2 ⟨rfl, b2⟩))
        go_ret2
        exact setP_bad HE.out (by decide) (b2.trans (b3.mono b2.size))
      · have HE : Hid (setE l nm = 0) := by show _ = _; unfold setE; rw [if_neg (by simp [hn]), if_neg (by omega)]
        have HB : Hid (setB l nm n = l ++ [(nm, n)]) := by show _ = _; unfold setB; rw [if_pos h]
        have hg : ¬ (64 : Int) ≤ (l.length : Int) := by omega
        clear h hr e
        go_enter Tryd.func12, Tryd.ntmps12
        go_wp2_with (first | (at_builtin; refine wpList_append_own _ rfl _ _ 22 rfl w.heap.size 38 i0 (.agg #[.string ⟨#[]⟩, .int .i64 0]) 2 24 Tryd.underlying22 hi hz0 hz1 hz2 rfl (by decide) _ _ _ rfl HO.out ⟨w4.heap.size, 0, none⟩ 1 1 [.string nm, .int .i64 n] rfl (by simp) (by intro j u hj; rcases j with _ | _ | j <;> simp at hj <;> subst hj <;> simp [Go.WideShapes.add_plain]) (by simp [Value.oneCell']) (by unfold maxLen; omega) (by omega) (by simp; omega) ?_; intro v' w5 hown hgrow _) | (go_at_call 23; refine (c2.out _ ((HI.out.below b2).below b3)).mono ?_; rintro e w4 ⟨⟨v4, rfl, o4⟩, b4⟩; obtain ⟨ao4, cap4, rfl⟩ := o4.form; have hO4 : Hid (OwnB w4 w3.heap.size (.slice ao4 l.length cap4) l) := o4; have hb2 := b2.size; have hb3 := b3.size; have hb4 := b4.size; have BB : Hid (Below w.heap.size w w4) := (b2.trans ((b3.mono b2.size).trans (b4.mono (by omega)))); clear o4; have HO : Hid ((w4.alloc (.cells #[.string nm, .int .i64 n] 38)).ownsRow w.heap.size 38 2 (.slice ao4 l.length cap4) l.length (bdCells l)) := ((hO4.out.mono (by omega)).below ((Below.refl _ _).alloc (Nat.le_refl _) _))) | (go_at_call 21; refine (c1.out _ (HI.out.below (by assumption))).mono ?_; rintro e w3 ⟨rfl, b3⟩) | (go_at_call 22; refine c0.out.mono ?_; rintro e w2 ⟨rfl, b2⟩))
        go_ret2
        refine setP_ok HE.out ?_ ?_
        · rw [HB.out]; exact bd_snoc hown
        · exact (BB.out.alloc (by omega) _).grown hgrow (by simp; omega) (fun k hk => by have := hO4.out.blk k hk; omega)
    · obtain ⟨k, hk⟩ : ∃ k : Nat, lastB l nm = k := ⟨(lastB l nm).toNat, by omega⟩
      have HE : Hid (setE l nm = 0) := by show _ = _; unfold setE; rw [if_neg (by simp [hn]), if_neg (by omega)]
      have HB : Hid (setB l nm n = l.set k ((l.getD k bd0).1, n)) := setB_pos l nm n k hk
      rw [hk] at c1 hr
      have hkl : k < l.length := by omega
      have hkl2 : (k : Int) < (l.length : Int) := by omega
      clear h hr hk
      go_enter Tryd.func12, Tryd.ntmps12
      go_wp2_with (first | (go_at_call 23; refine (c2.out _ ((HI.out.below b2).below b3)).mono ?_; rintro e w4 ⟨⟨v4, rfl, o4⟩, b4⟩; obtain ⟨g, cap4, rfl, hg1, hg2⟩ := o4.some_ (by omega); obtain ⟨ao9, cap9, e9, hR9, _⟩ := o4.read; cases e9; have hO4 : Hid (OwnB w4 w3.heap.size (.slice (some ⟨g, 0, none⟩) l.length cap4) l) := o4; obtain ⟨b9, o9, e9, hb9, hc9⟩ := hR9.at_ hkl; cases e9; have hcc := hc9.c1; rw [Nat.zero_add] at hcc; have hff := o4.fro (k * 2 + 1)) | (go_at_call 21; refine (c1.out _ (HI.out.below (by assumption))).mono ?_; rintro e w3 ⟨rfl, b3⟩) | (go_at_call 22; refine c0.out.mono ?_; rintro e w2 ⟨rfl, b2⟩))
      have hb2 := b2.size
      have hb3 := b3.size
      have BB : Hid (Below w.heap.size w w4) := b2.trans ((b3.mono b2.size).trans (b4.mono (by omega)))
      go_ret2
      refine setP_ok HE.out ?_ ?_
      · rw [HB.out]
        have := (hO4.out.put k hkl n).mono (base' := w.heap.size) (by omega)
        exact this
      · exact BB.out.setCell (by show _ ≤ g; omega) _

set_option maxRecDepth 100000 in
set_option maxHeartbeats 2000000 in
theorem refSet_any (ao : Option Addr) (cap : Nat) (l : List Bd) (nm : ByteArray) (n : Int) (hs : nm.size ≤ maxLen) (hreach : l.length * 24 ≤ 140737488355328) (w : World) (hI : Bds w ao cap l) :
    Calls Tryd.prog 13 #[.slice ao l.length cap, .string nm, .int .i64 n] w (SetP w l nm n) := by
  have c0 : Hid (Calls Tryd.prog 19 #[.string nm] w fun e w' => e = .returned (.bool (nameB nm)) ∧ Below w.heap.size w w') := refName_any nm w hs
  have hr := lastB_range l nm
  have HI : Hid (Bds w ao cap l) := hI
  obtain ⟨⟨hl, hm, hno⟩, _⟩ := id hI
  have HN : Hid (ao = none → l.length = 0 ∧ cap = 0) := fun h => by have := hno h; omega
  clear hno
  have hm' := hm
  unfold maxLen at hm
  clear hI
  obtain ⟨i0, hi, hz0, hz1, hz2⟩ := info_parts Tryd.infoBind
  have HR : Hid (-1 ≤ lastB l nm ∧ lastB l nm < l.length) := hr
  clear hr
  have HL : Hid ((bdCells l).length = l.length * 2) := bdCells_length l
  go_enter Tryd.func13, Tryd.ntmps13
  go_wp2
  go_loopw [8, 9] (fun n i wr => ∃ k : Nat, k ≤ l.length ∧ n = .int .i64 (lastN l nm k) ∧ i = .int .i64 k ∧ wr = w) (fun _ i _ => l.length - (RowKit.intOf i).toNat)
  case atStart => exact ⟨0, by omega, rfl, rfl, rfl⟩
  case round =>
    obtain ⟨k, hk, rfl, rfl, hwr⟩ := hrel
    obtain rfl := hwr.symm
    by_cases hlt : k < l.length
    · obtain ⟨b, o, rfl, hb, hc⟩ := HI.out.at_ hlt
      obtain ⟨c0, c1⟩ := hc
      have hkl2 : (k : Int) < (l.length : Int) := by omega
      have hq := eq_toList (l.getD k bd0).1 nm
      have hs : lastN l nm (k + 1) = if (l.getD k bd0).1 = nm then (k : Int) else lastN l nm k := rfl
      generalize l.getD k bd0 = x at *
      have HS : Hid (lastN l nm (k + 1) = if x.1 = nm then (k : Int) else lastN l nm k) := hs
      clear hs
      by_cases he : x.1 = nm
      · rw [decide_eq_true he] at hq
        have HN : Hid (lastN l nm (k + 1) = k) := by show _ = _; rw [HS.out, if_pos he]
        go_wp2
        go_roundw
        case rel => exact ⟨k + 1, by omega, by rw [HN.out], by simp, by first | rfl | trivial⟩
        case measure => simp [RowKit.intOf]; omega
      · rw [decide_eq_false he] at hq
        have HN : Hid (lastN l nm (k + 1) = lastN l nm k) := by show _ = _; rw [HS.out, if_neg he]
        go_wp2
        go_roundw
        case rel => exact ⟨k + 1, by omega, by rw [HN.out], by simp, by first | rfl | trivial⟩
        case measure => simp [RowKit.intOf]; omega
    · obtain rfl : k = l.length := by omega
      have HG : Hid (lastN l nm l.length = lastB l nm) := rfl
      rw [HG.out]
      by_cases hn : nameB nm = false
      · have HE : Hid (setE l nm = 7) := by show _ = _; unfold setE; rw [if_pos hn]
        rw [hn] at c0
        generalize lastB l nm = R at *
        go_wp2_with (go_at_call 19; refine c0.out.mono ?_; rintro e w2 ⟨rfl, b2⟩)
        go_ret2
        exact setP_bad HE.out (by decide) b2
      · have hn : nameB nm = true := by simpa using hn
        rw [hn] at c0
        by_cases h : lastB l nm < 0
        · have e : lastB l nm = -1 := by have := HR.out; omega
          by_cases h64 : 64 ≤ l.length
          · have HE : Hid (setE l nm = 10) := by show _ = _; unfold setE; rw [if_neg (by simp [hn]), if_pos ⟨h, h64⟩]
            have hg : (64 : Int) ≤ (l.length : Int) := by omega
            rw [e]
            clear h e
            go_wp2_with (go_at_call 19; refine c0.out.mono ?_; rintro e w2 ⟨rfl, b2⟩)
            go_ret2
            exact setP_bad HE.out (by decide) b2
          · have HE : Hid (setE l nm = 0) := by show _ = _; unfold setE; rw [if_neg (by simp [hn]), if_neg (by omega)]
            have HB : Hid (setB l nm n = l ++ [(nm, n)]) := by show _ = _; unfold setB; rw [if_pos h]
            have hg : ¬ (64 : Int) ≤ (l.length : Int) := by omega
            rw [e]
            clear h e
            go_wp2_with (first | (at_builtin; refine wpList_append_own _ rfl _ _ 22 rfl w.heap.size 38 i0 (.agg #[.string ⟨#[]⟩, .int .i64 0]) 2 24 Tryd.underlying22 hi hz0 hz1 hz2 rfl (by decide) _ _ _ rfl HO5.out ⟨w4.heap.size, 0, none⟩ 1 1 [.string nm, .int .i64 n] rfl (by simp) (by intro j u hj; rcases j with _ | _ | j <;> simp at hj <;> subst hj <;> simp [Go.WideShapes.add_plain]) (by simp [Value.oneCell']) (by unfold maxLen; omega) (by omega) (by simp; omega) ?_; intro v' w5 hown hgrow _) | (at_builtin; refine append_srcE _ rfl _ _ 22 rfl w2.heap.size 38 i0 (.agg #[.string ⟨#[]⟩, .int .i64 0]) 2 24 Tryd.underlying22 hi hz0 hz1 hz2 rfl (by decide) _ _ _ rfl HO.out ao l.length cap (bdCells l) rfl HN.out HL.out HS.out (bdCells_one l) (by omega) (by omega) (by simp) ?_; intro v4 w4 hown4 hgrow4; have o4 : OwnB w4 w2.heap.size v4 l := (by show World.ownsRow _ _ _ _ _ _ _; simpa using hown4); obtain ⟨ao4, cap4, rfl⟩ := o4.form; have hO4 : Hid (OwnB w4 w2.heap.size (.slice ao4 l.length cap4) l) := o4; have b4 : Below w2.heap.size w2 w4 := ((Below.refl w2.heap.size w2).alloc (Nat.le_refl _) _).grown hgrow4 (by simp) (fun k hk => (by have e : some w2.heap.size = some k := hk; cases e; exact Nat.le_refl _)); have hb2 := b2.size; have hb4 := b4.size; have BB : Hid (Below w.heap.size w w4) := (b2.trans (b4.mono b2.size)); clear o4 hown4; have HO5 : Hid ((w4.alloc (.cells #[.string nm, .int .i64 n] 38)).ownsRow w.heap.size 38 2 (.slice ao4 l.length cap4) l.length (bdCells l)) := ((hO4.out.mono (by omega)).below ((Below.refl _ _).alloc (Nat.le_refl _) _))) | (go_at_call 19; refine c0.out.mono ?_; rintro e w2 ⟨rfl, b2⟩; have HS : Hid (∀ ad, ao = some ad → ∀ j u, (bdCells l)[j]? = some u → (w2.alloc (.cells #[] 38)).cell? (ad.add j) = some u) := (((HI.out.below b2).below ((Below.refl w2.heap.size w2).alloc (Nat.le_refl _) _)).src); have HO : Hid ((w2.alloc (.cells #[] 38)).ownsRow w2.heap.size 38 2 (.slice (some ⟨w2.heap.size, 0, none⟩) 0 0) 0 []) := (World.ownsRow_made w2 #[] 0 (Nat.le_refl _) (Nat.zero_le _) (by simp))))
            go_ret2
            refine setP_ok HE.out ?_ ?_
            · rw [HB.out]; exact bd_snoc hown
            · exact (BB.out.alloc (by omega) _).grown hgrow (by simp; omega) (fun k hk => by have := hO4.out.blk k hk; omega)
        · obtain ⟨k, hk⟩ : ∃ k : Nat, lastB l nm = k := ⟨(lastB l nm).toNat, by omega⟩
          have HE : Hid (setE l nm = 0) := by show _ = _; unfold setE; rw [if_neg (by simp [hn]), if_neg (by omega)]
          have HB : Hid (setB l nm n = l.set k ((l.getD k bd0).1, n)) := setB_pos l nm n k hk
          have hkl : k < l.length := by have := HR.out; omega
          have hkl2 : (k : Int) < (l.length : Int) := by omega
          rw [hk]
          clear h hk
          go_wp2_with (first | (at_builtin; refine append_srcE _ rfl _ _ 22 rfl w2.heap.size 38 i0 (.agg #[.string ⟨#[]⟩, .int .i64 0]) 2 24 Tryd.underlying22 hi hz0 hz1 hz2 rfl (by decide) _ _ _ rfl HO.out ao l.length cap (bdCells l) rfl HN.out HL.out HS.out (bdCells_one l) (by omega) (by omega) (by simp) ?_; intro v4 w4 hown4 hgrow4; have o4 : OwnB w4 w2.heap.size v4 l := (by show World.ownsRow _ _ _ _ _ _ _; simpa using hown4); obtain ⟨g, cap4, rfl, hg1, hg2⟩ := o4.some_ (by omega); obtain ⟨ao9, cap9, e9, hR9, _⟩ := o4.read; cases e9; have hO4 : Hid (OwnB w4 w2.heap.size (.slice (some ⟨g, 0, none⟩) l.length cap4) l) := o4; obtain ⟨b9, o9, e9, hb9, hc9⟩ := hR9.at_ hkl; cases e9; have hcc := hc9.c1; rw [Nat.zero_add] at hcc; have hff := o4.fro (k * 2 + 1); have b4 : Below w2.heap.size w2 w4 := ((Below.refl w2.heap.size w2).alloc (Nat.le_refl _) _).grown hgrow4 (by simp) (fun k hk => (by have e : some w2.heap.size = some k := hk; cases e; exact Nat.le_refl _)); clear o4 hown4) | (go_at_call 19; refine c0.out.mono ?_; rintro e w2 ⟨rfl, b2⟩; have HS : Hid (∀ ad, ao = some ad → ∀ j u, (bdCells l)[j]? = some u → (w2.alloc (.cells #[] 38)).cell? (ad.add j) = some u) := (((HI.out.below b2).below ((Below.refl w2.heap.size w2).alloc (Nat.le_refl _) _)).src); have HO : Hid ((w2.alloc (.cells #[] 38)).ownsRow w2.heap.size 38 2 (.slice (some ⟨w2.heap.size, 0, none⟩) 0 0) 0 []) := (World.ownsRow_made w2 #[] 0 (Nat.le_refl _) (Nat.zero_le _) (by simp))))
          have hb2 := b2.size
          have BB : Hid (Below w.heap.size w w4) := b2.trans (b4.mono b2.size)
          go_ret2
          refine setP_ok HE.out ?_ ?_
          · rw [HB.out]
            exact (hO4.out.put k hkl n).mono (base' := w.heap.size) (by omega)
          · exact BB.out.setCell (by show _ ≤ g; omega) _
end Go.Proofs.YtpdohdmpjaklgaaDoor
