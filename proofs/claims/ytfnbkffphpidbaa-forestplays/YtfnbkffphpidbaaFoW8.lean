/-
  Join, walked.
-/
import Derived.Test.YtfnbkffphpidbaaFoW7
set_option linter.unusedSimpArgs false
set_option linter.unusedVariables false
namespace Go.Proofs.Ytfnbkffphpidbaa
open Go.RowKit Go.Lib Go.Sort

set_option maxRecDepth 20000 in
set_option maxHeartbeats 2000000 in
theorem fjoin_bad (w : World) (p : Nat) (v : Value) (m : List Mv) (a b : Int) (u : Value) (h : FoM w p v m) (hn : (hasB m a && hasB m b) = false) :
    Calls Try.prog 17 #[.pointer (some ⟨p, 0, none⟩), .int .i64 a, .int .i64 b, u] w fun e w' => e = .returned (.tuple #[.bool false, .int .i64 2]) ∧ w' = w := by
  have cA : Hid (∀ V, V = w → Calls Try.prog 29 #[.pointer (some ⟨p, 0, none⟩), .int .i64 a] V fun e w' => e = .returned (.bool (hasB m a)) ∧ w' = w) := fun V hV => by subst hV; exact fhas_any V p v m a h
  have cB : Hid (∀ V, V = w → Calls Try.prog 29 #[.pointer (some ⟨p, 0, none⟩), .int .i64 b] V fun e w' => e = .returned (.bool (hasB m b)) ∧ w' = w) := fun V hV => by subst hV; exact fhas_any V p v m b h
  clear h
  cases h1 : hasB m a
  · rw [h1] at cA
    go_enter Try.func17, Try.ntmps17
    go_wp2_with fail
    refine (cA.out _ rfl).mono ?_
    rintro e w' ⟨rfl, rfl⟩
    go_wp2_with fail
    go_ret2
    exact ⟨rfl, rfl⟩
  · have h2 : hasB m b = false := by simpa [h1] using hn
    rw [h1] at cA
    rw [h2] at cB
    go_enter Try.func17, Try.ntmps17
    go_wp2_with fail
    refine (cA.out _ rfl).mono ?_
    rintro e w' ⟨rfl, rfl⟩
    go_wp2_with fail
    refine (cB.out _ rfl).mono ?_
    rintro e w' ⟨rfl, rfl⟩
    go_wp2_with fail
    go_ret2
    exact ⟨rfl, rfl⟩

set_option maxRecDepth 20000 in
set_option maxHeartbeats 2000000 in
theorem fjoin_one (w : World) (p : Nat) (v : Value) (m : List Mv) (a b : Nat) (u : Value) (h : FoM w p v m) (ha : a < m.length) (hb : b < m.length) (hr : (mA m a).rt = (mA m b).rt) :
    Calls Try.prog 17 #[.pointer (some ⟨p, 0, none⟩), .int .i64 a, .int .i64 b, u] w fun e w' => e = .returned (.tuple #[.bool false, .int .i64 0]) ∧ w' = w := by
  have cA : Hid (∀ V, V = w → Calls Try.prog 29 #[.pointer (some ⟨p, 0, none⟩), .int .i64 a] V fun e w' => e = .returned (.bool true) ∧ w' = w) := fun V hV => by subst hV; rw [← hasB_nat.2 ha]; exact fhas_any V p v m a h
  have cB : Hid (∀ V, V = w → Calls Try.prog 29 #[.pointer (some ⟨p, 0, none⟩), .int .i64 b] V fun e w' => e = .returned (.bool true) ∧ w' = w) := fun V hV => by subst hV; rw [← hasB_nat.2 hb]; exact fhas_any V p v m b h
  have rA : Hid (∀ V, V = w → Calls Try.prog 30 #[.pointer (some ⟨p, 0, none⟩), .int .i64 a] V fun e w' => e = .returned (.int .i64 (mA m a).rt) ∧ w' = w) := fun V hV => by subst hV; exact froot_any V p v m a h ha
  have rB : Hid (∀ V, V = w → Calls Try.prog 30 #[.pointer (some ⟨p, 0, none⟩), .int .i64 b] V fun e w' => e = .returned (.int .i64 (mA m a).rt) ∧ w' = w) := fun V hV => by subst hV; rw [hr]; exact froot_any V p v m b h hb
  clear h hr
  generalize (mA m a).rt = x at *
  go_enter Try.func17, Try.ntmps17
  go_wp2_with fail
  refine (cA.out _ rfl).mono ?_
  rintro e w' ⟨rfl, rfl⟩
  go_wp2_with fail
  refine (cB.out _ rfl).mono ?_
  rintro e w' ⟨rfl, rfl⟩
  go_wp2_with fail
  refine (rA.out _ rfl).mono ?_
  rintro e w' ⟨rfl, rfl⟩
  go_wp2_with fail
  refine (rB.out _ rfl).mono ?_
  rintro e w' ⟨rfl, rfl⟩
  go_wp2_with fail
  go_ret2
  exact ⟨rfl, rfl⟩

set_option maxRecDepth 20000 in
set_option maxHeartbeats 4000000 in
theorem fjoin_two (w : World) (p : Nat) (v : Value) (J : List (Nat × Nat)) (V : List Value) (m : List Mv) (a b : Nat) (wv : Value) (h : FoM w p v m) (hI : FoI J V m) (hV : ∀ u ∈ V, IfV u) (hwv : IfV wv) (ha : a < m.length) (hb : b < m.length) (hr : (mA m a).rt ≠ (mA m b).rt) :
    Calls Try.prog 17 #[.pointer (some ⟨p, 0, none⟩), .int .i64 a, .int .i64 b, wv] w fun e w' => e = .returned (.tuple #[.bool true, .int .i64 0]) ∧ ∃ m', FoT w p v v m' w' ∧ FoI (J ++ [(a, b)]) (V ++ [wv]) m' := by
  have cA : Hid (∀ V, V = w → Calls Try.prog 29 #[.pointer (some ⟨p, 0, none⟩), .int .i64 a] V fun e w' => e = .returned (.bool true) ∧ w' = w) := fun V hV => by subst hV; rw [← hasB_nat.2 ha]; exact fhas_any V p v m a h
  have cB : Hid (∀ V, V = w → Calls Try.prog 29 #[.pointer (some ⟨p, 0, none⟩), .int .i64 b] V fun e w' => e = .returned (.bool true) ∧ w' = w) := fun V hV => by subst hV; rw [← hasB_nat.2 hb]; exact fhas_any V p v m b h
  have rA : Hid (∀ V, V = w → Calls Try.prog 30 #[.pointer (some ⟨p, 0, none⟩), .int .i64 a] V fun e w' => e = .returned (.int .i64 (mA m a).rt) ∧ w' = w) := fun V hV => by subst hV; exact froot_any V p v m a h ha
  have rB : Hid (∀ V, V = w → Calls Try.prog 30 #[.pointer (some ⟨p, 0, none⟩), .int .i64 b] V fun e w' => e = .returned (.int .i64 (mA m b).rt) ∧ w' = w) := fun V hV => by subst hV; exact froot_any V p v m b h hb
  have sA : Hid (∀ W, Below w.heap.size w W → Calls Try.prog 37 #[.pointer (some ⟨p, 0, none⟩), .int .i64 a] W fun e w' => e = .returned (.int .i64 (mA m (mA m a).rt).sz) ∧ ∃ n, w' = W.drewN n) := fun W hW => fsize_any W p v m a (h.below hW) ha (hI.rt a ha).1
  have sB : Hid (∀ W, Below w.heap.size w W → Calls Try.prog 37 #[.pointer (some ⟨p, 0, none⟩), .int .i64 b] W fun e w' => e = .returned (.int .i64 (mA m (mA m b).rt).sz) ∧ ∃ n, w' = W.drewN n) := fun W hW => fsize_any W p v m b (h.below hW) hb (hI.rt b hb).1
  have HI : Hid (FoI J V m) := hI
  have HNa : Hid (NewJ J m a b (J.length, false) a b) := ⟨.inl ⟨rfl, rfl, rfl⟩, ha, hb, hr⟩
  have HNb : Hid (NewJ J m a b (J.length, true) b a) := ⟨.inr ⟨rfl, rfl, rfl⟩, ha, hb, hr⟩
  have HV : Hid (∀ e : Ed, IfV (cz (J ++ [(a, b)]) (V ++ [wv]) e).w) := fun e => by
    show IfV ((V ++ [wv]).getD e.1 nilV)
    rw [List.getD_eq_getElem?_getD]
    cases hx : (V ++ [wv])[e.1]? with
    | none => exact IfV.nil
    | some u =>
      have := List.mem_of_getElem? hx
      rcases List.mem_append.1 this with h1 | h1
      · exact hV u h1
      · simp at h1; subst h1; exact hwv
  have hEa : cz (J ++ [(a, b)]) (V ++ [wv]) (J.length, false) = ⟨a, b, wv, false⟩ := by
    unfold cz; rw [HNa.out.eA, HNa.out.eB]; simp [hI.lenV]
  have hEb : cz (J ++ [(a, b)]) (V ++ [wv]) (J.length, true) = ⟨b, a, wv, true⟩ := by
    unfold cz; rw [HNb.out.eA, HNb.out.eB]; simp [hI.lenV]
  have HEA : Hid (cz (J ++ [(a, b)]) (V ++ [wv]) (J.length, false) = ⟨a, b, wv, false⟩) := hEa
  have HEB0 : Hid (cz (J ++ [(a, b)]) (V ++ [wv]) (J.length, true) = ⟨b, a, wv, true⟩) := hEb
  have HM : Hid (∀ W, Below w.heap.size w W → FoM W p v m) := fun W hW => h.below hW
  have HLT : Hid (p < w.heap.size) := h.lt
  have HNE : Hid (∀ b', v.ownBlock = some b' → b' < w.heap.size) := fun b' hb' => (rw_block h.on hb').2.1
  have hneI : ((((mA m a).rt : Nat) : Int) == (((mA m b).rt : Nat) : Int)) = false := by simp; omega
  have cT : Hid (∀ W : World, Calls Try.prog 34 #[.agg #[.int .i64 a, .int .i64 b, wv, .bool false] ] W fun e w'' => e = .returned (.agg #[.int .i64 b, .int .i64 a, wv, .bool true]) ∧ Below W.heap.size W w'') := fun W => fturn_any _ ⟨a, b, wv, false⟩ hwv
  obtain ⟨SA, hSA⟩ : ∃ SA, (mA m (mA m a).rt).sz = SA := ⟨_, rfl⟩
  obtain ⟨SB, hSB⟩ : ∃ SB, (mA m (mA m b).rt).sz = SB := ⟨_, rfl⟩
  rw [hSA] at sA
  rw [hSB] at sB
  have hst : ∀ (P : Program) (w : World) (a : Addr) (md : Mode), (store a wv md).run P w = stored P w a wv md := fun P w a md => run_store P w a wv md hwv.one
  have HBA : Hid (∀ o, Below w.heap.size w (w.alloc o)) := fun o => (Below.refl _ _).alloc (Nat.le_refl _) _
  obtain ⟨RA, hRA⟩ : ∃ RA, (mA m a).rt = RA := ⟨_, rfl⟩
  obtain ⟨RB, hRB⟩ : ∃ RB, (mA m b).rt = RB := ⟨_, rfl⟩
  rw [hRA] at rA hneI
  rw [hRB] at rB hneI
  clear h hI hV hr hEa hEb hSA hSB hRA hRB
  rcases hwv with rfl | ⟨uu, xx, rfl⟩
  · go_enter Try.func17, Try.ntmps17
    go_wp2_with fail
    refine (cA.out _ rfl).mono ?_
    rintro e w' ⟨rfl, hw⟩
    obtain rfl := hw.symm
    go_wp2_with fail
    refine (cB.out _ rfl).mono ?_
    rintro e w' ⟨rfl, hw⟩
    obtain rfl := hw.symm
    go_wp2_with fail
    refine (rA.out _ rfl).mono ?_
    rintro e w' ⟨rfl, hw⟩
    obtain rfl := hw.symm
    go_wp2_with fail
    refine (rB.out _ rfl).mono ?_
    rintro e w' ⟨rfl, hw⟩
    obtain rfl := hw.symm
    go_wp2_with fail
    have hE1 : EgB (w.alloc (.cells #[.int .i64 a, .int .i64 b, .nilIface, .bool false] 44)) w.heap.size ⟨a, b, .nilIface, false⟩ := ⟨Deep.blk_alloc_new _ _⟩
    have hB1 := HBA.out (.cells #[.int .i64 a, .int .i64 b, .nilIface, .bool false] 44)
    generalize w.alloc (.cells #[.int .i64 a, .int .i64 b, .nilIface, .bool false] 44) = W1 at *
    refine (sA.out _ hB1).mono ?_
    rintro e w' ⟨rfl, n1, rfl⟩
    have hB2 : Below w.heap.size w (W1.drewN n1) := hB1.trans ⟨rfl, rfl, rfl, Nat.le_refl _, fun _ _ => rfl⟩
    have hE2 : EgB (W1.drewN n1) w.heap.size ⟨a, b, .nilIface, false⟩ := ⟨hE1.blk⟩
    generalize W1.drewN n1 = W2 at *
    go_wp2_with fail
    refine (sB.out _ hB2).mono ?_
    rintro e w' ⟨rfl, n2, rfl⟩
    have hBW : Below w.heap.size w (W2.drewN n2) := hB2.trans ⟨rfl, rfl, rfl, Nat.le_refl _, fun _ _ => rfl⟩
    have hEB : EgB (W2.drewN n2) w.heap.size ⟨a, b, .nilIface, false⟩ := ⟨hE2.blk⟩
    have HFW := HM.out _ hBW
    generalize W2.drewN n2 = W at *
    clear hE1 hB1 hB2 hE2
    by_cases hsz : SB < SA
    · have hszI : (SA : Int) > (SB : Int) := by omega
      have q0 := hEB.c0
      have q1 := hEB.c1
      have q2 := hEB.c2
      have q3 := hEB.c3
      go_wp2_with fail
      refine (cT.out _).mono ?_
      rintro e W0 ⟨rfl, hB0⟩
      have hBW0 : Below w.heap.size w W0 := hBW.trans (hB0.mono hBW.size)
      have hEB0 : EgB W0 w.heap.size ⟨a, b, .nilIface, false⟩ := hEB.same (hB0.block _ hEB.lt)
      have b0 := hEB0.c0
      have b1 := hEB0.c1
      have b2 := hEB0.c2
      have b3 := hEB0.c3
      have bf0 := hEB0.fr 0
      have bf1 := hEB0.fr 1
      have bf2 := hEB0.fr 2
      have bf3 := hEB0.fr 3
      clear HFW hEB hBW q0 q1 q2 q3
      obtain ⟨W, hW⟩ : ∃ W', (((W0.setCell ⟨w.heap.size, 0, none⟩ (.int .i64 b)).setCell ⟨w.heap.size, 1, none⟩ (.int .i64 a)).setCell ⟨w.heap.size, 2, none⟩ .nilIface).setCell ⟨w.heap.size, 3, none⟩ (.bool true) = W' := ⟨_, rfl⟩
      have hEB : EgB W w.heap.size ⟨b, a, .nilIface, true⟩ := by rw [← hW]; exact hEB0.put ⟨b, a, .nilIface, true⟩
      have hBW : Below w.heap.size w W := by
        rw [← hW]
        exact Below.setCell (Below.setCell (Below.setCell (Below.setCell hBW0 (Nat.le_refl _) _) (Nat.le_refl _) _) (Nat.le_refl _) _) (Nat.le_refl _) _
      have HFW := HM.out _ hBW
      clear hEB0
      have HT : Hid (FoM W p v m) := HFW
      have cH : Hid (Calls Try.prog 38 #[.pointer (some ⟨p, 0, none⟩), egV (cz (J ++ [(a, b)]) (V ++ [.nilIface]) (J.length, true))] W fun e w' => e = .returned (.tuple #[]) ∧ ∃ m1, FoT W p v v m1 w' ∧ HungI J V m a b .nilIface b a m1) := fhang_any W p v J V m a b b a (J.length, true) .nilIface HT.out HI.out HNb.out HV.out
      rw [HEB0.out] at cH
      unfold egV at cH
      simp only at cH
      have q0 := hEB.c0
      have q1 := hEB.c1
      have q2 := hEB.c2
      have q3 := hEB.c3
      have HEB : Hid (EgB W w.heap.size ⟨b, a, .nilIface, true⟩) := hEB
      have HBW : Hid (Below w.heap.size w W) := hBW
      have hzW := hBW.size
      clear hEB hBW
      go_wp2_with fail
      refine cH.out.mono ?_
      rintro e W2 ⟨rfl, m1, hT1, hH1⟩
      have hEB2 : EgB W2 w.heap.size ⟨b, a, .nilIface, true⟩ := HEB.out.same (hT1.ko.same _ HEB.out.lt (by have := HLT.out; omega) (fun e => by have := (rw_block HT.out.on e.symm).2.1; have := HNE.out _ e.symm; omega))
      have r0 := hEB2.c0
      have r1 := hEB2.c1
      have HT1 : Hid (FoT W p v v m1 W2) := hT1
      have HH1 : Hid (HungI J V m a b .nilIface b a m1) := hH1
      have cG : Hid (∃ la, (∀ y, y ∈ b :: la ↔ y < m.length ∧ (mA m y).rt = (mA m b).rt) ∧ Calls Try.prog 39 #[.pointer (some ⟨p, 0, none⟩), .int .i64 b, .int .i64 a] W2 fun e w' => e = .returned (.tuple #[]) ∧ FoT W2 p v v (gaL4 (setRt (gaL2 m1 (mA m b).rt (mA m a).rt) (mA m a).rt (b :: la)) b a) w') := by
        obtain ⟨la, h1, h2, h3, h4⟩ := HI.out.ring b HNb.out.lA
        have U := hH1.up
        refine ⟨la, h3, fgather_any W2 p v m1 b a _ _ la hT1.fo (by rw [U.len]; exact HNb.out.lA) (by rw [U.len]; exact HNb.out.lB) (U.rt b) (U.rt a) (by rw [U.len]; exact (HI.out.rt b HNb.out.lA).1) (by rw [U.len]; exact (HI.out.rt a HNb.out.lB).1) HNb.out.nAB (by rw [U.rt]; exact HI.out.rtrt HNb.out.lB) (by rw [U.sz]; exact Nat.le_trans (HI.out.szle HNb.out.lA) HT.out.le) (by rw [U.sz]; exact Nat.le_trans (HI.out.szle HNb.out.lB) HT.out.le) (h1.congr (U.nx b) (fun y _ => U.nx y)) h2 (fun y => by rw [U.len, U.rt]; exact h3 y) (by rw [U.sz]; exact h4)⟩
      obtain ⟨la, h3, hcG⟩ := cG.out
      have HCG : Hid (Calls Try.prog 39 #[.pointer (some ⟨p, 0, none⟩), .int .i64 b, .int .i64 a] W2 fun e w' => e = .returned (.tuple #[]) ∧ FoT W2 p v v (gaL4 (setRt (gaL2 m1 (mA m b).rt (mA m a).rt) (mA m a).rt (b :: la)) b a) w') := hcG
      have HG : Hid (GathI m m1 (gaL4 (setRt (gaL2 m1 (mA m b).rt (mA m a).rt) (mA m a).rt (b :: la)) b a) b a) := gath_ok hH1.up HNb.out.lA HNb.out.lB HNb.out.nAB (HI.out.rt b HNb.out.lA).1 (HI.out.rt a HNb.out.lB).1 (HI.out.rtrt HNb.out.lB) h3
      have HFI : Hid (FoI (J ++ [(a, b)]) (V ++ [.nilIface]) (gaL4 (setRt (gaL2 m1 (mA m b).rt (mA m a).rt) (mA m a).rt (b :: la)) b a)) := HI.out.joined HNb.out HH1.out HG.out
      clear hT1 hH1 hEB2 hcG h3 cG cH q0 q1 q2 q3
      generalize gaL4 (setRt (gaL2 m1 (mA m b).rt (mA m a).rt) (mA m a).rt (b :: la)) b a = m2 at *
      go_wp2_with fail
      refine HCG.out.mono ?_
      rintro e W3 ⟨rfl, hT2⟩
      have HT2 : Hid (FoT W2 p v v m2 W3) := hT2
      clear hT2
      go_wp2_with fail
      go_ret2
      refine ⟨rfl, m2, ⟨HT2.out.fo, ((KoF.below HBW.out).trans1 HT1.out.ko).trans1 HT2.out.ko, fun b e => .inl e, (HBW.out.mono (by have := HLT.out; omega)).trans (HT1.out.below.trans HT2.out.below)⟩, HFI.out⟩
    · have hszI : ¬ ((SA : Int) > (SB : Int)) := by omega
      have HT : Hid (FoM W p v m) := HFW
      have cH : Hid (Calls Try.prog 38 #[.pointer (some ⟨p, 0, none⟩), egV (cz (J ++ [(a, b)]) (V ++ [.nilIface]) (J.length, false))] W fun e w' => e = .returned (.tuple #[]) ∧ ∃ m1, FoT W p v v m1 w' ∧ HungI J V m a b .nilIface a b m1) := fhang_any W p v J V m a b a b (J.length, false) .nilIface HT.out HI.out HNa.out HV.out
      rw [HEA.out] at cH
      unfold egV at cH
      simp only at cH
      have q0 := hEB.c0
      have q1 := hEB.c1
      have q2 := hEB.c2
      have q3 := hEB.c3
      have HEB : Hid (EgB W w.heap.size ⟨a, b, .nilIface, false⟩) := hEB
      have HBW : Hid (Below w.heap.size w W) := hBW
      have hzW := hBW.size
      clear hEB hBW
      go_wp2_with fail
      refine cH.out.mono ?_
      rintro e W2 ⟨rfl, m1, hT1, hH1⟩
      have hEB2 : EgB W2 w.heap.size ⟨a, b, .nilIface, false⟩ := HEB.out.same (hT1.ko.same _ HEB.out.lt (by have := HLT.out; omega) (fun e => by have := (rw_block HT.out.on e.symm).2.1; have := HNE.out _ e.symm; omega))
      have r0 := hEB2.c0
      have r1 := hEB2.c1
      have HT1 : Hid (FoT W p v v m1 W2) := hT1
      have HH1 : Hid (HungI J V m a b .nilIface a b m1) := hH1
      have cG : Hid (∃ la, (∀ y, y ∈ a :: la ↔ y < m.length ∧ (mA m y).rt = (mA m a).rt) ∧ Calls Try.prog 39 #[.pointer (some ⟨p, 0, none⟩), .int .i64 a, .int .i64 b] W2 fun e w' => e = .returned (.tuple #[]) ∧ FoT W2 p v v (gaL4 (setRt (gaL2 m1 (mA m a).rt (mA m b).rt) (mA m b).rt (a :: la)) a b) w') := by
        obtain ⟨la, h1, h2, h3, h4⟩ := HI.out.ring a HNa.out.lA
        have U := hH1.up
        refine ⟨la, h3, fgather_any W2 p v m1 a b _ _ la hT1.fo (by rw [U.len]; exact HNa.out.lA) (by rw [U.len]; exact HNa.out.lB) (U.rt a) (U.rt b) (by rw [U.len]; exact (HI.out.rt a HNa.out.lA).1) (by rw [U.len]; exact (HI.out.rt b HNa.out.lB).1) HNa.out.nAB (by rw [U.rt]; exact HI.out.rtrt HNa.out.lB) (by rw [U.sz]; exact Nat.le_trans (HI.out.szle HNa.out.lA) HT.out.le) (by rw [U.sz]; exact Nat.le_trans (HI.out.szle HNa.out.lB) HT.out.le) (h1.congr (U.nx a) (fun y _ => U.nx y)) h2 (fun y => by rw [U.len, U.rt]; exact h3 y) (by rw [U.sz]; exact h4)⟩
      obtain ⟨la, h3, hcG⟩ := cG.out
      have HCG : Hid (Calls Try.prog 39 #[.pointer (some ⟨p, 0, none⟩), .int .i64 a, .int .i64 b] W2 fun e w' => e = .returned (.tuple #[]) ∧ FoT W2 p v v (gaL4 (setRt (gaL2 m1 (mA m a).rt (mA m b).rt) (mA m b).rt (a :: la)) a b) w') := hcG
      have HG : Hid (GathI m m1 (gaL4 (setRt (gaL2 m1 (mA m a).rt (mA m b).rt) (mA m b).rt (a :: la)) a b) a b) := gath_ok hH1.up HNa.out.lA HNa.out.lB HNa.out.nAB (HI.out.rt a HNa.out.lA).1 (HI.out.rt b HNa.out.lB).1 (HI.out.rtrt HNa.out.lB) h3
      have HFI : Hid (FoI (J ++ [(a, b)]) (V ++ [.nilIface]) (gaL4 (setRt (gaL2 m1 (mA m a).rt (mA m b).rt) (mA m b).rt (a :: la)) a b)) := HI.out.joined HNa.out HH1.out HG.out
      clear hT1 hH1 hEB2 hcG h3 cG cH q0 q1 q2 q3
      generalize gaL4 (setRt (gaL2 m1 (mA m a).rt (mA m b).rt) (mA m b).rt (a :: la)) a b = m2 at *
      go_wp2_with fail
      refine HCG.out.mono ?_
      rintro e W3 ⟨rfl, hT2⟩
      have HT2 : Hid (FoT W2 p v v m2 W3) := hT2
      clear hT2
      go_wp2_with fail
      go_ret2
      refine ⟨rfl, m2, ⟨HT2.out.fo, ((KoF.below HBW.out).trans1 HT1.out.ko).trans1 HT2.out.ko, fun b e => .inl e, (HBW.out.mono (by have := HLT.out; omega)).trans (HT1.out.below.trans HT2.out.below)⟩, HFI.out⟩
  · go_enter Try.func17, Try.ntmps17
    go_wp2_with fail
    refine (cA.out _ rfl).mono ?_
    rintro e w' ⟨rfl, hw⟩
    obtain rfl := hw.symm
    go_wp2_with fail
    refine (cB.out _ rfl).mono ?_
    rintro e w' ⟨rfl, hw⟩
    obtain rfl := hw.symm
    go_wp2_with fail
    refine (rA.out _ rfl).mono ?_
    rintro e w' ⟨rfl, hw⟩
    obtain rfl := hw.symm
    go_wp2_with fail
    refine (rB.out _ rfl).mono ?_
    rintro e w' ⟨rfl, hw⟩
    obtain rfl := hw.symm
    go_wp2_with fail
    have hE1 : EgB (w.alloc (.cells #[.int .i64 a, .int .i64 b, (.iface uu xx), .bool false] 44)) w.heap.size ⟨a, b, (.iface uu xx), false⟩ := ⟨Deep.blk_alloc_new _ _⟩
    have hB1 := HBA.out (.cells #[.int .i64 a, .int .i64 b, (.iface uu xx), .bool false] 44)
    generalize w.alloc (.cells #[.int .i64 a, .int .i64 b, (.iface uu xx), .bool false] 44) = W1 at *
    refine (sA.out _ hB1).mono ?_
    rintro e w' ⟨rfl, n1, rfl⟩
    have hB2 : Below w.heap.size w (W1.drewN n1) := hB1.trans ⟨rfl, rfl, rfl, Nat.le_refl _, fun _ _ => rfl⟩
    have hE2 : EgB (W1.drewN n1) w.heap.size ⟨a, b, (.iface uu xx), false⟩ := ⟨hE1.blk⟩
    generalize W1.drewN n1 = W2 at *
    go_wp2_with fail
    refine (sB.out _ hB2).mono ?_
    rintro e w' ⟨rfl, n2, rfl⟩
    have hBW : Below w.heap.size w (W2.drewN n2) := hB2.trans ⟨rfl, rfl, rfl, Nat.le_refl _, fun _ _ => rfl⟩
    have hEB : EgB (W2.drewN n2) w.heap.size ⟨a, b, (.iface uu xx), false⟩ := ⟨hE2.blk⟩
    have HFW := HM.out _ hBW
    generalize W2.drewN n2 = W at *
    clear hE1 hB1 hB2 hE2
    by_cases hsz : SB < SA
    · have hszI : (SA : Int) > (SB : Int) := by omega
      have q0 := hEB.c0
      have q1 := hEB.c1
      have q2 := hEB.c2
      have q3 := hEB.c3
      go_wp2_with fail
      refine (cT.out _).mono ?_
      rintro e W0 ⟨rfl, hB0⟩
      have hBW0 : Below w.heap.size w W0 := hBW.trans (hB0.mono hBW.size)
      have hEB0 : EgB W0 w.heap.size ⟨a, b, (.iface uu xx), false⟩ := hEB.same (hB0.block _ hEB.lt)
      have b0 := hEB0.c0
      have b1 := hEB0.c1
      have b2 := hEB0.c2
      have b3 := hEB0.c3
      have bf0 := hEB0.fr 0
      have bf1 := hEB0.fr 1
      have bf2 := hEB0.fr 2
      have bf3 := hEB0.fr 3
      clear HFW hEB hBW q0 q1 q2 q3
      obtain ⟨W, hW⟩ : ∃ W', (((W0.setCell ⟨w.heap.size, 0, none⟩ (.int .i64 b)).setCell ⟨w.heap.size, 1, none⟩ (.int .i64 a)).setCell ⟨w.heap.size, 2, none⟩ (.iface uu xx)).setCell ⟨w.heap.size, 3, none⟩ (.bool true) = W' := ⟨_, rfl⟩
      have hEB : EgB W w.heap.size ⟨b, a, (.iface uu xx), true⟩ := by rw [← hW]; exact hEB0.put ⟨b, a, (.iface uu xx), true⟩
      have hBW : Below w.heap.size w W := by
        rw [← hW]
        exact Below.setCell (Below.setCell (Below.setCell (Below.setCell hBW0 (Nat.le_refl _) _) (Nat.le_refl _) _) (Nat.le_refl _) _) (Nat.le_refl _) _
      have HFW := HM.out _ hBW
      clear hEB0
      have HT : Hid (FoM W p v m) := HFW
      have cH : Hid (Calls Try.prog 38 #[.pointer (some ⟨p, 0, none⟩), egV (cz (J ++ [(a, b)]) (V ++ [(.iface uu xx)]) (J.length, true))] W fun e w' => e = .returned (.tuple #[]) ∧ ∃ m1, FoT W p v v m1 w' ∧ HungI J V m a b (.iface uu xx) b a m1) := fhang_any W p v J V m a b b a (J.length, true) (.iface uu xx) HT.out HI.out HNb.out HV.out
      rw [HEB0.out] at cH
      unfold egV at cH
      simp only at cH
      have q0 := hEB.c0
      have q1 := hEB.c1
      have q2 := hEB.c2
      have q3 := hEB.c3
      have HEB : Hid (EgB W w.heap.size ⟨b, a, (.iface uu xx), true⟩) := hEB
      have HBW : Hid (Below w.heap.size w W) := hBW
      have hzW := hBW.size
      clear hEB hBW
      go_wp2_with fail
      refine cH.out.mono ?_
      rintro e W2 ⟨rfl, m1, hT1, hH1⟩
      have hEB2 : EgB W2 w.heap.size ⟨b, a, (.iface uu xx), true⟩ := HEB.out.same (hT1.ko.same _ HEB.out.lt (by have := HLT.out; omega) (fun e => by have := (rw_block HT.out.on e.symm).2.1; have := HNE.out _ e.symm; omega))
      have r0 := hEB2.c0
      have r1 := hEB2.c1
      have HT1 : Hid (FoT W p v v m1 W2) := hT1
      have HH1 : Hid (HungI J V m a b (.iface uu xx) b a m1) := hH1
      have cG : Hid (∃ la, (∀ y, y ∈ b :: la ↔ y < m.length ∧ (mA m y).rt = (mA m b).rt) ∧ Calls Try.prog 39 #[.pointer (some ⟨p, 0, none⟩), .int .i64 b, .int .i64 a] W2 fun e w' => e = .returned (.tuple #[]) ∧ FoT W2 p v v (gaL4 (setRt (gaL2 m1 (mA m b).rt (mA m a).rt) (mA m a).rt (b :: la)) b a) w') := by
        obtain ⟨la, h1, h2, h3, h4⟩ := HI.out.ring b HNb.out.lA
        have U := hH1.up
        refine ⟨la, h3, fgather_any W2 p v m1 b a _ _ la hT1.fo (by rw [U.len]; exact HNb.out.lA) (by rw [U.len]; exact HNb.out.lB) (U.rt b) (U.rt a) (by rw [U.len]; exact (HI.out.rt b HNb.out.lA).1) (by rw [U.len]; exact (HI.out.rt a HNb.out.lB).1) HNb.out.nAB (by rw [U.rt]; exact HI.out.rtrt HNb.out.lB) (by rw [U.sz]; exact Nat.le_trans (HI.out.szle HNb.out.lA) HT.out.le) (by rw [U.sz]; exact Nat.le_trans (HI.out.szle HNb.out.lB) HT.out.le) (h1.congr (U.nx b) (fun y _ => U.nx y)) h2 (fun y => by rw [U.len, U.rt]; exact h3 y) (by rw [U.sz]; exact h4)⟩
      obtain ⟨la, h3, hcG⟩ := cG.out
      have HCG : Hid (Calls Try.prog 39 #[.pointer (some ⟨p, 0, none⟩), .int .i64 b, .int .i64 a] W2 fun e w' => e = .returned (.tuple #[]) ∧ FoT W2 p v v (gaL4 (setRt (gaL2 m1 (mA m b).rt (mA m a).rt) (mA m a).rt (b :: la)) b a) w') := hcG
      have HG : Hid (GathI m m1 (gaL4 (setRt (gaL2 m1 (mA m b).rt (mA m a).rt) (mA m a).rt (b :: la)) b a) b a) := gath_ok hH1.up HNb.out.lA HNb.out.lB HNb.out.nAB (HI.out.rt b HNb.out.lA).1 (HI.out.rt a HNb.out.lB).1 (HI.out.rtrt HNb.out.lB) h3
      have HFI : Hid (FoI (J ++ [(a, b)]) (V ++ [(.iface uu xx)]) (gaL4 (setRt (gaL2 m1 (mA m b).rt (mA m a).rt) (mA m a).rt (b :: la)) b a)) := HI.out.joined HNb.out HH1.out HG.out
      clear hT1 hH1 hEB2 hcG h3 cG cH q0 q1 q2 q3
      generalize gaL4 (setRt (gaL2 m1 (mA m b).rt (mA m a).rt) (mA m a).rt (b :: la)) b a = m2 at *
      go_wp2_with fail
      refine HCG.out.mono ?_
      rintro e W3 ⟨rfl, hT2⟩
      have HT2 : Hid (FoT W2 p v v m2 W3) := hT2
      clear hT2
      go_wp2_with fail
      go_ret2
      refine ⟨rfl, m2, ⟨HT2.out.fo, ((KoF.below HBW.out).trans1 HT1.out.ko).trans1 HT2.out.ko, fun b e => .inl e, (HBW.out.mono (by have := HLT.out; omega)).trans (HT1.out.below.trans HT2.out.below)⟩, HFI.out⟩
    · have hszI : ¬ ((SA : Int) > (SB : Int)) := by omega
      have HT : Hid (FoM W p v m) := HFW
      have cH : Hid (Calls Try.prog 38 #[.pointer (some ⟨p, 0, none⟩), egV (cz (J ++ [(a, b)]) (V ++ [(.iface uu xx)]) (J.length, false))] W fun e w' => e = .returned (.tuple #[]) ∧ ∃ m1, FoT W p v v m1 w' ∧ HungI J V m a b (.iface uu xx) a b m1) := fhang_any W p v J V m a b a b (J.length, false) (.iface uu xx) HT.out HI.out HNa.out HV.out
      rw [HEA.out] at cH
      unfold egV at cH
      simp only at cH
      have q0 := hEB.c0
      have q1 := hEB.c1
      have q2 := hEB.c2
      have q3 := hEB.c3
      have HEB : Hid (EgB W w.heap.size ⟨a, b, (.iface uu xx), false⟩) := hEB
      have HBW : Hid (Below w.heap.size w W) := hBW
      have hzW := hBW.size
      clear hEB hBW
      go_wp2_with fail
      refine cH.out.mono ?_
      rintro e W2 ⟨rfl, m1, hT1, hH1⟩
      have hEB2 : EgB W2 w.heap.size ⟨a, b, (.iface uu xx), false⟩ := HEB.out.same (hT1.ko.same _ HEB.out.lt (by have := HLT.out; omega) (fun e => by have := (rw_block HT.out.on e.symm).2.1; have := HNE.out _ e.symm; omega))
      have r0 := hEB2.c0
      have r1 := hEB2.c1
      have HT1 : Hid (FoT W p v v m1 W2) := hT1
      have HH1 : Hid (HungI J V m a b (.iface uu xx) a b m1) := hH1
      have cG : Hid (∃ la, (∀ y, y ∈ a :: la ↔ y < m.length ∧ (mA m y).rt = (mA m a).rt) ∧ Calls Try.prog 39 #[.pointer (some ⟨p, 0, none⟩), .int .i64 a, .int .i64 b] W2 fun e w' => e = .returned (.tuple #[]) ∧ FoT W2 p v v (gaL4 (setRt (gaL2 m1 (mA m a).rt (mA m b).rt) (mA m b).rt (a :: la)) a b) w') := by
        obtain ⟨la, h1, h2, h3, h4⟩ := HI.out.ring a HNa.out.lA
        have U := hH1.up
        refine ⟨la, h3, fgather_any W2 p v m1 a b _ _ la hT1.fo (by rw [U.len]; exact HNa.out.lA) (by rw [U.len]; exact HNa.out.lB) (U.rt a) (U.rt b) (by rw [U.len]; exact (HI.out.rt a HNa.out.lA).1) (by rw [U.len]; exact (HI.out.rt b HNa.out.lB).1) HNa.out.nAB (by rw [U.rt]; exact HI.out.rtrt HNa.out.lB) (by rw [U.sz]; exact Nat.le_trans (HI.out.szle HNa.out.lA) HT.out.le) (by rw [U.sz]; exact Nat.le_trans (HI.out.szle HNa.out.lB) HT.out.le) (h1.congr (U.nx a) (fun y _ => U.nx y)) h2 (fun y => by rw [U.len, U.rt]; exact h3 y) (by rw [U.sz]; exact h4)⟩
      obtain ⟨la, h3, hcG⟩ := cG.out
      have HCG : Hid (Calls Try.prog 39 #[.pointer (some ⟨p, 0, none⟩), .int .i64 a, .int .i64 b] W2 fun e w' => e = .returned (.tuple #[]) ∧ FoT W2 p v v (gaL4 (setRt (gaL2 m1 (mA m a).rt (mA m b).rt) (mA m b).rt (a :: la)) a b) w') := hcG
      have HG : Hid (GathI m m1 (gaL4 (setRt (gaL2 m1 (mA m a).rt (mA m b).rt) (mA m b).rt (a :: la)) a b) a b) := gath_ok hH1.up HNa.out.lA HNa.out.lB HNa.out.nAB (HI.out.rt a HNa.out.lA).1 (HI.out.rt b HNa.out.lB).1 (HI.out.rtrt HNa.out.lB) h3
      have HFI : Hid (FoI (J ++ [(a, b)]) (V ++ [(.iface uu xx)]) (gaL4 (setRt (gaL2 m1 (mA m a).rt (mA m b).rt) (mA m b).rt (a :: la)) a b)) := HI.out.joined HNa.out HH1.out HG.out
      clear hT1 hH1 hEB2 hcG h3 cG cH q0 q1 q2 q3
      generalize gaL4 (setRt (gaL2 m1 (mA m a).rt (mA m b).rt) (mA m b).rt (a :: la)) a b = m2 at *
      go_wp2_with fail
      refine HCG.out.mono ?_
      rintro e W3 ⟨rfl, hT2⟩
      have HT2 : Hid (FoT W2 p v v m2 W3) := hT2
      clear hT2
      go_wp2_with fail
      go_ret2
      refine ⟨rfl, m2, ⟨HT2.out.fo, ((KoF.below HBW.out).trans1 HT1.out.ko).trans1 HT2.out.ko, fun b e => .inl e, (HBW.out.mono (by have := HLT.out; omega)).trans (HT1.out.below.trans HT2.out.below)⟩, HFI.out⟩
end Go.Proofs.Ytfnbkffphpidbaa
