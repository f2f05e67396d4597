/-
  The document's Group and Least, walked.
-/
import Derived.Test.YtfnbkffphpidbaaFoRf
import Derived.Test.YtfnbkffphpidbaaFoKw
set_option linter.unusedSimpArgs false
set_option linter.unusedVariables false
namespace Go.Proofs.Ytfnbkffphpidbaa
open Go.RowKit Go.Lib

def grpK (m : List Mv) (a k : Nat) : List Nat := (List.range k).filter fun y => decide ((mA m y).rt = (mA m a).rt)
theorem grpK_all (m : List Mv) (a : Nat) : grpK m a m.length = grpL m a := rfl
theorem grpK_succ (m : List Mv) (a k : Nat) : grpK m a (k + 1) = if (mA m k).rt = (mA m a).rt then grpK m a k ++ [k] else grpK m a k := by
  unfold grpK
  rw [List.range_succ, List.filter_append]
  by_cases h : (mA m k).rt = (mA m a).rt
  · simp [h]
  · simp [h]
theorem grpK_le (m : List Mv) (a k : Nat) : (grpK m a k).length ≤ k := by
  have := List.length_filter_le (fun y => decide ((mA m y).rt = (mA m a).rt)) (List.range k)
  unfold grpK
  simpa using this

set_option maxRecDepth 20000 in
set_option maxHeartbeats 4000000 in
theorem rgroup_any {w : World} {p : Nat} {v : Value} {L : List Jt} {V : List Value} {m : List Mv} (h : RfM w p v m.length L) (hI : FoI (jJ L) V m) (a : Int) :
    Calls Try.prog 25 #[.pointer (some ⟨p, 0, none⟩), .int .i64 a] w fun e w' => ∃ u, e = .returned (.tuple #[u, .int .i64 (hasE m a)]) ∧ OwnZ w' w.heap.size u (gpL m a) ∧ Below w.heap.size w w' := by
  obtain ⟨i0, hi, hz0, hz1, hz2⟩ := info_parts Try.infoInt
  have cA := hasM (m := m) h a
  unfold hasE gpL
  cases hA : hasB m a
  · rw [hA] at cA
    have CA : Hid (Calls Try.prog 47 #[.pointer (some ⟨p, 0, none⟩), .int .i64 a] w fun e w' => e = .returned (.bool false) ∧ w' = w) := cA
    simp only [Bool.false_eq_true, if_false]
    clear cA h
    go_enter Try.func25, Try.ntmps25
    go_wp2_with fail
    refine CA.out.mono ?_
    rintro e w' ⟨rfl, hw⟩
    obtain rfl := hw.symm
    go_wp2_with fail
    go_ret2
    exact ⟨_, rfl, World.ownsRow_nil _ _ _ _, Below.refl _ _⟩
  · rw [hA] at cA
    have CA : Hid (Calls Try.prog 47 #[.pointer (some ⟨p, 0, none⟩), .int .i64 a] w fun e w' => e = .returned (.bool true) ∧ w' = w) := cA
    simp only [if_true]
    obtain ⟨x, rfl, hx⟩ := hasB_iff.1 hA
    have CR' : Hid (Calls Try.prog 48 #[.pointer (some ⟨p, 0, none⟩), .int .i64 x] w fun e w' => ∃ l, e = .returned (.slice (some ⟨w.heap.size, 0, none⟩) m.length m.length) ∧ OwnI w' w.heap.size (.slice (some ⟨w.heap.size, 0, none⟩) m.length m.length) l ∧ Rch (jJ L) m.length x l ∧ Below w.heap.size w w') := reachM h hI hx
    have HI : Hid (FoI (jJ L) V m) := hI
    have HM : Hid (RfM w p v m.length L) := h
    have hle := h.le
    have hpl := h.lt
    simp only [Int.toNat_natCast]
    clear cA h hI hA
    go_enter Try.func25, Try.ntmps25
    go_wp2_with fail
    refine CA.out.mono ?_
    rintro e w' ⟨rfl, hw⟩
    obtain rfl := hw.symm
    go_wp2_with fail
    refine CR'.out.mono ?_
    rintro e w1 ⟨l, rfl, hO, hR, hB⟩
    have HO : Hid (OwnI w1 w.heap.size (.slice (some ⟨w.heap.size, 0, none⟩) m.length m.length) l) := hO
    have HR : Hid (Rch (jJ L) m.length x l) := hR
    have HB : Hid (Below w.heap.size w w1) := hB
    have HM1 : Hid (RfM w1 p v m.length L) := HM.out.below hB
    have hsz := hB.size
    have hgs : w.heap.size < w1.heap.size := (rw_block hO (b := w.heap.size) rfl).2.1
    clear hO hR hB CR' CA
    go_wp2_with fail
    go_loopw [7, 8] (fun y i wr => ∃ k : Nat, k ≤ m.length ∧ i = .int .i64 k ∧ OwnZ wr w1.heap.size y (grpK m x k) ∧ Below w1.heap.size w1 wr) (fun _ i _ => m.length - (RowKit.intOf i).toNat)
    case atStart => exact ⟨0, by omega, rfl, World.ownsRow_nil _ _ _ _, Below.refl _ _⟩
    case round =>
      obtain ⟨k, hk, rfl, hown, hBr⟩ := hrel
      obtain ⟨ya, yc, hf⟩ := hown.form
      subst hf
      have HBr : Hid (Below w1.heap.size w1 wr) := hBr
      have hszr := hBr.size
      have c0 : wr.cell? ⟨p, 0, none⟩ = some (.int .i64 m.length) := (hBr.cell (p := ⟨p, 0, none⟩) (by show p < w1.heap.size; omega)).trans HM1.out.c0
      have hgl := grpK_le m x k
      clear hBr
      by_cases hlt : k < m.length
      · have hltI : (k : Int) < (m.length : Int) := by omega
        have kk := (HBr.out.cell (p := ⟨w.heap.size, k, none⟩) hgs).trans (HO.out.cell (i := k) (by rw [HR.out.len]; exact hlt))
        have hrt := rch_rt HI.out HR.out hx hlt
        obtain ⟨z, hz⟩ : ∃ z, l.getD k 0 = z := ⟨_, rfl⟩
        rw [hz] at kk hrt
        have HZ : Hid (z ≠ 0 ↔ (mA m k).rt = (mA m x).rt) := hrt
        have HS : Hid (grpK m x (k + 1) = if (mA m k).rt = (mA m x).rt then grpK m x k ++ [k] else grpK m x k) := grpK_succ m x k
        have HO1 : Hid (OwnZ wr w1.heap.size (.slice ya (grpK m x k).length yc) (grpK m x k)) := hown
        obtain ⟨G, hG⟩ : ∃ G, grpK m x k = G := ⟨_, rfl⟩
        rw [hG] at HS HO1 hgl hown ⊢
        clear hrt hz hG
        by_cases hz0' : z = 0
        · subst hz0'
          clear hown
          go_wp2_with fail
          refine ⟨⟨k + 1, by omega, by go_num, ?_, HBr.out⟩, by simp [RowKit.intOf]; omega⟩
          rw [HS.out, if_neg (fun e => (HZ.out.2 e) rfl)]
          exact HO1.out
        · have hzI : (z == 0) = false := beq_eq_false_iff_ne.2 hz0'
          unfold OwnZ at hown
          go_wp2_with (at_builtin; refine wpList_append_lies _ rfl (.tmp 29) (.tmp 31) 46 rfl w1.heap.size 3 i0 (.int .i64 0) 1 8 Try.underlying46 hi hz0 hz1 hz2 rfl (by decide) _ _ _ (by simp [Act.eval, Act.put]) (hown.alloc _) ⟨wr.heap.size, 0, none⟩ 1 1 [.int .i64 (k : Int)] (by simp [Act.eval, Act.put]) rfl (cell_news1 wr _ _) (by simp [Value.oneCell']) (by omega) (by unfold maxLen; omega) (by omega) (by simp; omega) _ rfl ?_; intro g8 cap8 w8 hown8 hg8 hat8 hl8; have HB8 : Hid (Below w1.heap.size w1 w8) := (HBr.out.alloc (by omega) _).grown hg8 (by simp; omega) (fun j hj => (rw_block HO1.out hj).1))
          refine ⟨⟨k + 1, by omega, by go_num, ?_, HB8.out⟩, by simp [RowKit.intOf]; omega⟩
          rw [HS.out, if_pos (HZ.out.1 hz0')]
          exact OwnZ_snoc hown8
      · have hke : k = m.length := by omega
        subst hke
        rw [grpK_all] at hown hgl ⊢
        have HO1 : Hid (OwnZ wr w1.heap.size (.slice ya (grpL m x).length yc) (grpL m x)) := hown
        clear hown
        go_wp2_with fail
        go_ret2
        exact ⟨_, rfl, own_base HO1.out hsz, HB.out.trans (HBr.out.mono hsz)⟩

set_option maxRecDepth 20000 in
set_option maxHeartbeats 4000000 in
theorem rleast_any {w : World} {p : Nat} {v : Value} {L : List Jt} {V : List Value} {m : List Mv} (h : RfM w p v m.length L) (hI : FoI (jJ L) V m) (a : Int) :
    Calls Try.prog 24 #[.pointer (some ⟨p, 0, none⟩), .int .i64 a] w fun e w' => e = .returned (.tuple #[.int .i64 (leastA m a), .int .i64 (hasE m a)]) ∧ Below w.heap.size w w' := by
  have CG : Hid (Calls Try.prog 25 #[.pointer (some ⟨p, 0, none⟩), .int .i64 a] w fun e w' => ∃ u, e = .returned (.tuple #[u, .int .i64 (hasE m a)]) ∧ OwnZ w' w.heap.size u (gpL m a) ∧ Below w.heap.size w w') := rgroup_any h hI a
  have hle := h.le
  unfold leastA
  cases hA : hasB m a
  · have e1 : hasE m a = 2 := by unfold hasE; rw [hA]; rfl
    rw [e1] at CG ⊢
    simp only [Bool.false_eq_true, if_false]
    clear h hI
    go_enter Try.func24, Try.ntmps24
    go_wp2_with fail
    refine CG.out.mono ?_
    rintro e w1 ⟨u, rfl, hO, hB⟩
    obtain ⟨ya, yc, rfl⟩ := hO.form
    have HB : Hid (Below w.heap.size w w1) := hB
    clear hO hB
    go_wp2_with fail
    go_ret2
    exact ⟨rfl, HB.out⟩
  · have e1 : hasE m a = 0 := by unfold hasE; rw [hA]; rfl
    rw [e1] at CG ⊢
    simp only [if_true]
    obtain ⟨x, rfl, hx⟩ := hasB_iff.1 hA
    have e2 : gpL m (x : Int) = grpL m x := by unfold gpL; rw [hA]; simp
    rw [e2] at CG
    obtain ⟨g0, g1⟩ := hI.first hx
    simp only [Int.toNat_natCast]
    have hGl := grpL_le m x
    obtain ⟨f0, hf0⟩ : ∃ f0, (mA m (mA m x).rt).ls = f0 := ⟨_, rfl⟩
    rw [hf0] at g1 ⊢
    have HG1 : Hid ((grpL m x).getD 0 0 = f0) := g1
    clear h hI g1 e2 hA e1 hf0
    go_enter Try.func24, Try.ntmps24
    go_wp2_with fail
    refine CG.out.mono ?_
    rintro e w1 ⟨u, rfl, hO, hB⟩
    obtain ⟨g, yc, rfl, _, _, hcn, hcm, hc⟩ := hO.row g0
    have c0 := hc 0 g0
    rw [HG1.out] at c0
    have HB : Hid (Below w.heap.size w w1) := hB
    have g0I : (0 : Int) < ((grpL m x).length : Int) := by omega
    unfold maxLen at hcm
    clear hO hB hc
    go_wp2_with fail
    go_ret2
    exact ⟨rfl, HB.out⟩
end Go.Proofs.Ytfnbkffphpidbaa
