/-
  ParseJoins, walked.
-/
import Derived.Test.YtaennaoakopgfaaDoorMGJm
set_option linter.unusedSimpArgs false
set_option linter.unusedVariables false
namespace Go.Proofs.YtaennaoakopgfaaDoor
open Go.RowKit Go.Lib Go.Sort

def K3 (W : World) (L : List Nd) (N : Nat) (E : Int) (e : Ending) (w' : World) : Prop := ∃ (ao : Option Addr) (cap p : Nat), e = .returned (.tuple #[.slice ao N cap, .int .i64 (p : Int), .int .i64 E]) ∧ Rd w' ao cap L ∧ Below W.heap.size W w'
def K2 (W : World) (L : List Nd) (N : Nat) (E : Int) (e : Ending) (w' : World) : Prop := ∃ (ao : Option Addr) (cap : Nat), e = .returned (.tuple #[.slice ao N cap, .int .i64 E]) ∧ Rd w' ao cap L ∧ Below W.heap.size W w'
theorem pack (l : List Nd) : ∃ (L : List Nd) (N : Nat) (E : Int), L.length = N ∧ (∀ W e w', J3 W l e w' → K3 W L N E e w') ∧ (∀ W e w', J2 W l e w' → K2 W L N E e w') :=
  ⟨JL l, (JL l).length, JE l, rfl, fun _ _ _ h => h, fun _ _ _ h => h⟩
set_option maxRecDepth 20000 in
set_option maxHeartbeats 8000000 in
theorem pjoins.walk (s t : ByteArray) (w : World) (hT : Tabs w) (hz : s.size ≤ maxLen) (hz2 : t.size ≤ maxLen) :
    Calls Tryd.prog 7 #[.string s, .string t] w fun e w' => e = .returned (.bool true) ∧ Below w.heap.size w w' := by
  have cA : Hid (∀ W, Tabs W → Calls Tryd.prog 23 #[] W fun e w' => e = .returned (.bool true) ∧ Below W.heap.size W w') := pawake_any
  have c1 : Hid (∀ W, Tabs W → Calls Tryd.prog 24 #[.string s] W fun e w' => Tri W (psRead s false 64) e w') := fun W h => parseT W s hz h
  have c2 : Hid (∀ W, Tabs W → Calls Tryd.prog 24 #[.string t] W fun e w' => Tri W (psRead t false 64) e w') := fun W h => parseT W t hz2 h
  obtain ⟨X, hX⟩ : ∃ X, psRead s false 64 = X := ⟨_, rfl⟩
  obtain ⟨Y, hY⟩ : ∃ Y, psRead t false 64 = Y := ⟨_, rfl⟩
  rw [hX] at c1
  rw [hY] at c2
  have HX : Hid (psRead s false 64 = X) := hX
  have HY : Hid (psRead t false 64 = Y) := hY
  have NX : (pl3 X).2.2 = 0 → (∃ a, X = .ok a) ∨ X = .out := fun h => by
    cases X with
    | ok a => exact .inl ⟨a, rfl⟩
    | bad p e => exact absurd (hX.trans (by rw [show e = 0 from h])) (nz_read s false 64 p)
    | out => exact .inr rfl
  have NY : (pl3 Y).2.2 = 0 → (∃ a, Y = .ok a) ∨ Y = .out := fun h => by
    cases Y with
    | ok a => exact .inl ⟨a, rfl⟩
    | bad p e => exact absurd (hY.trans (by rw [show e = 0 from h])) (nz_read t false 64 p)
    | out => exact .inr rfl
  have OX : X ≠ .out := fun c => psRead_in s false 64 (hX.trans c)
  have OY : Y ≠ .out := fun c => psRead_in t false 64 (hY.trans c)
  clear hX hY
  unfold Tri at c1 c2
  have GX : Hid ((pl3 X).2.2 = 0 → psRead s false 64 = .ok (pl3 X).1) := fun h => by
    rcases NX h with ⟨a, rfl⟩ | c
    · exact HX.out
    · exact absurd c OX
  have GY : Hid ((pl3 Y).2.2 = 0 → psRead t false 64 = .ok (pl3 Y).1) := fun h => by
    rcases NY h with ⟨a, rfl⟩ | c
    · exact HY.out
    · exact absurd c OY
  clear NX NY OX OY HX HY
  generalize pl3 X = x3 at *
  generalize pl3 Y = y3 at *
  obtain ⟨xl, xp, xe⟩ := x3
  obtain ⟨yl, yp, ye⟩ := y3
  simp only at c1 c2
  have HT : Hid (∀ W, Below w.heap.size w W → Tabs W) := fun W h => hT.below h
  have hb : Below w.heap.size w w := Below.refl _ _
  obtain ⟨XL, hXL⟩ : ∃ n, xl.length = n := ⟨_, rfl⟩
  obtain ⟨YL, hYL⟩ : ∃ n, yl.length = n := ⟨_, rfl⟩
  rw [hXL] at c1
  rw [hYL] at c2
  clear hT
  unfold maxLen at hz hz2
  go_enter Tryd.func7, Tryd.ntmps7
  go_wp2_with fail
  go_at_call 23
  refine (cA.out _ (HT.out _ hb)).mono ?_
  rintro x w1 ⟨rfl, hc⟩
  replace hb := hb.trans (hc.mono hb.size)
  clear hc
  go_wp2_with fail
  go_at_call 24
  refine (c1.out _ (HT.out _ hb)).mono ?_
  rintro x w2 ⟨ao, acap, rfl, hra, hc⟩
  have Ra : Hid (Rd w2 ao acap xl) := hra
  replace hb := hb.trans (hc.mono hb.size)
  clear hc hra
  go_wp2_with fail
  go_at_call 24
  refine (c2.out _ (HT.out _ hb)).mono ?_
  rintro x w3 ⟨bo, bcap, rfl, hrb, hc⟩
  have Ra3 : Hid (Rd w3 ao acap xl) := Ra.out.below hc hc.size
  have Rb : Hid (Rd w3 bo bcap yl) := hrb
  replace hb := hb.trans (hc.mono hb.size)
  clear hc hrb Ra
  by_cases hx : xe = 0
  rotate_left
  · go_wp2_with fail
    go_ret
    exact ⟨rfl, hb⟩
  subst hx
  by_cases hy : ye = 0
  rotate_left
  · go_wp2_with fail
    go_ret
    exact ⟨rfl, hb⟩
  subst hy
  by_cases h1 : 1000 < s.size
  · go_wp2_with fail
    go_ret
    exact ⟨rfl, hb⟩
  by_cases h2 : 1000 < t.size
  · go_wp2_with fail
    go_ret
    exact ⟨rfl, hb⟩
  go_wp2_with fail
  go_at_call 30
  refine (nest_any _ s (by omega)).mono ?_
  rintro x w4 ⟨m, rfl, hm, hc⟩
  have Ra4 : Hid (Rd w4 ao acap xl) := Ra3.out.below hc hc.size
  have Rb4 : Hid (Rd w4 bo bcap yl) := Rb.out.below hc hc.size
  have HM : Hid (_) := hm
  replace hb := hb.trans (hc.mono hb.size)
  clear hc Ra3 Rb hm
  by_cases hm1 : 99 < m
  · go_wp2_with fail
    go_ret
    exact ⟨rfl, hb⟩
  go_wp2_with fail
  go_at_call 30
  refine (nest_any _ t (by omega)).mono ?_
  rintro x w5 ⟨m2, rfl, hm, hc⟩
  have Ra5 : Hid (Rd w5 ao acap xl) := Ra4.out.below hc hc.size
  have Rb5 : Hid (Rd w5 bo bcap yl) := Rb4.out.below hc hc.size
  have HM2 : Hid (_) := hm
  replace hb := hb.trans (hc.mono hb.size)
  clear hc Ra4 Rb4 hm
  by_cases hm2 : 99 < m2
  · go_wp2_with fail
    go_ret
    exact ⟨rfl, hb⟩
  have PX : psRead s false 64 = .ok xl := GX.out trivial
  have PY : psRead t false 64 = .ok yl := GY.out trivial
  have NX := opn_le HM.out hm1
  have NY := opn_le HM2.out hm2
  have GA : Gd xl := ⟨(read_sd (Nat.le_refl _) PX).1, (read_sd (Nat.le_refl _) PX).2.1⟩
  have GB : Gd yl := ⟨(read_sd (Nat.le_refl _) PY).1, (read_sd (Nat.le_refl _) PY).2.1⟩
  obtain ⟨L1, N1, E1, n1, p1, q1⟩ := pack (jn2 7 xl yl)
  obtain ⟨L2, N2, E2, n2, p2, q2⟩ := pack (jn3 17 xl yl xl)
  obtain ⟨L3, N3, E3, n3, p3, q3⟩ := pack (jn1 4 xl)
  obtain ⟨L4, N4, E4, n4, p4, q4⟩ := pack (jn1 3 xl)
  have d1 : Hid (∀ W, Tabs W → Calls Tryd.prog 24 #[.string ({ data := #[40] } ++ s ++ { data := #[41, 42, 40] } ++ t ++ { data := #[41] })] W fun e w' => K3 W L1 N1 E1 e w') := fun W h => by
    obtain ⟨z, i1, i2, b0, b1, b2⟩ := text2 42 s t
    exact (parseJ W (A1 ++ s ++ A3 42 ++ t ++ A4) _ _ h (by omega) (tjoin2 i1 i2 z (by omega) b0 b1 b2 PX PY NX NY)).mono fun e w' x => p1 _ _ _ x
  have d2 : Hid (∀ W, Tabs W → Calls Tryd.prog 24 #[.string ({ data := #[40] } ++ s ++ { data := #[41, 63, 40] } ++ t ++ { data := #[41, 58, 40] } ++ s ++ { data := #[41] })] W fun e w' => K3 W L2 N2 E2 e w') := fun W h => by
    obtain ⟨z, i1, i2, i3, b0, b1, b2, b3, b4⟩ := text3 63 58 s t
    exact (parseJ W (A1 ++ s ++ A3 63 ++ t ++ A3 58 ++ s ++ A4) _ _ h (by omega) (tjoin3 i1 i2 i3 z (by omega) b0 b1 b2 b3 b4 PX PY NX NY)).mono fun e w' x => p2 _ _ _ x
  have d3 : Hid (∀ W, Tabs W → Calls Tryd.prog 24 #[.string ({ data := #[126, 40] } ++ s ++ { data := #[41] })] W fun e w' => K3 W L3 N3 E3 e w') := fun W h => by
    obtain ⟨z, i1, b0, b1⟩ := text1 126 s
    exact (parseJ W (A2 126 ++ s ++ A4) _ _ h (by omega) (tjoin1 126 4 (.inl ⟨rfl, rfl⟩) i1 z (by omega) b0 b1 PX NX)).mono fun e w' x => p3 _ _ _ x
  have d4 : Hid (∀ W, Tabs W → Calls Tryd.prog 24 #[.string ({ data := #[45, 40] } ++ s ++ { data := #[41] })] W fun e w' => K3 W L4 N4 E4 e w') := fun W h => by
    obtain ⟨z, i1, b0, b1⟩ := text1 45 s
    exact (parseJ W (A2 45 ++ s ++ A4) _ _ h (by omega) (tjoin1 45 3 (.inr ⟨rfl, rfl⟩) i1 z (by omega) b0 b1 PX NX)).mono fun e w' x => p4 _ _ _ x
  have m1 : Hid (∀ (W : World) (ao bo : Option Addr) (ac bc : Nat), Rd W ao ac xl → Rd W bo bc yl → Calls Tryd.prog 31 #[.int .i64 7, .int .i64 0, .string ⟨#[]⟩, .slice (some ⟨W.heap.size, 0, none⟩) 2 2] (W.alloc (.cells #[.slice ao XL ac, .slice bo YL bc] 22)) fun e w' => K2 W L1 N1 E1 e w') := fun W ao bo ac bc h1 h2 => by
    rw [← hXL, ← hYL]; exact (make2 W h1 h2 GA GB).mono fun e w' x => q1 _ _ _ x
  have m2 : Hid (∀ (W : World) (ao bo : Option Addr) (ac bc : Nat), Rd W ao ac xl → Rd W bo bc yl → Calls Tryd.prog 31 #[.int .i64 17, .int .i64 0, .string ⟨#[]⟩, .slice (some ⟨W.heap.size, 0, none⟩) 3 3] (W.alloc (.cells #[.slice ao XL ac, .slice bo YL bc, .slice ao XL ac] 22)) fun e w' => K2 W L2 N2 E2 e w') := fun W ao bo ac bc h1 h2 => by
    rw [← hXL, ← hYL]; exact (make3 W h1 h2 GA GB).mono fun e w' x => q2 _ _ _ x
  have m3 : Hid (∀ (W : World) (ao : Option Addr) (ac : Nat), Rd W ao ac xl → Calls Tryd.prog 31 #[.int .i64 4, .int .i64 0, .string ⟨#[]⟩, .slice (some ⟨W.heap.size, 0, none⟩) 1 1] (W.alloc (.cells #[.slice ao XL ac] 22)) fun e w' => K2 W L3 N3 E3 e w') := fun W ao ac h1 => by
    rw [← hXL]; exact (make1 4 (.inr rfl) W h1 GA).mono fun e w' x => q3 _ _ _ x
  have m4 : Hid (∀ (W : World) (ao : Option Addr) (ac : Nat), Rd W ao ac xl → Calls Tryd.prog 31 #[.int .i64 3, .int .i64 0, .string ⟨#[]⟩, .slice (some ⟨W.heap.size, 0, none⟩) 1 1] (W.alloc (.cells #[.slice ao XL ac] 22)) fun e w' => K2 W L4 N4 E4 e w') := fun W ao ac h1 => by
    rw [← hXL]; exact (make1 3 (.inl rfl) W h1 GA).mono fun e w' x => q4 _ _ _ x
  have cS : Hid (∀ W ao cap bo cb (l : List Nd) (N : Nat), l.length = N → Rd W ao cap l → Rd W bo cb l → Calls Tryd.prog 15 #[.slice ao N cap, .slice bo N cb] W fun e w' => e = .returned (.bool true) ∧ Below W.heap.size W w') := fun W ao cap bo cb l N hN h1 h2 => by subst hN; exact sameR h1 h2 true (by simp)
  have HN : Hid (L1.length = N1 ∧ L2.length = N2 ∧ L3.length = N3 ∧ L4.length = N4) := ⟨n1, n2, n3, n4⟩
  unfold K3 at d1 d2 d3 d4
  unfold K2 at m1 m2 m3 m4
  clear p1 p2 p3 p4 q1 q2 q3 q4 n1 n2 n3 n4 PX PY NX NY GA GB GX GY HM HM2 hXL hYL c1 c2 cA
  go_wp2_with fail
  go_at_call 24
  refine (d1.out _ (HT.out _ hb)).mono ?_
  rintro x w6 ⟨o1, k1, z1, rfl, hr, hc⟩
  have Ra6 : Hid (Rd w6 ao acap xl) := Ra5.out.below hc hc.size
  have Rb6 : Hid (Rd w6 bo bcap yl) := Rb5.out.below hc hc.size
  have Rp16 : Hid (Rd w6 o1 k1 L1) := hr
  replace hb := hb.trans (hc.mono hb.size)
  clear hc hr Ra5 Rb5
  go_wp2_with fail
  go_at_call 24
  refine (d2.out _ (HT.out _ hb)).mono ?_
  rintro x w7 ⟨o2, k2, z2, rfl, hr, hc⟩
  have Ra7 : Hid (Rd w7 ao acap xl) := Ra6.out.below hc hc.size
  have Rb7 : Hid (Rd w7 bo bcap yl) := Rb6.out.below hc hc.size
  have Rp17 : Hid (Rd w7 o1 k1 L1) := Rp16.out.below hc hc.size
  have Rp27 : Hid (Rd w7 o2 k2 L2) := hr
  replace hb := hb.trans (hc.mono hb.size)
  clear hc hr Ra6 Rb6 Rp16
  go_wp2_with fail
  go_at_call 24
  refine (d3.out _ (HT.out _ hb)).mono ?_
  rintro x w8 ⟨o3, k3, z3, rfl, hr, hc⟩
  have Ra8 : Hid (Rd w8 ao acap xl) := Ra7.out.below hc hc.size
  have Rb8 : Hid (Rd w8 bo bcap yl) := Rb7.out.below hc hc.size
  have Rp18 : Hid (Rd w8 o1 k1 L1) := Rp17.out.below hc hc.size
  have Rp28 : Hid (Rd w8 o2 k2 L2) := Rp27.out.below hc hc.size
  have Rp38 : Hid (Rd w8 o3 k3 L3) := hr
  replace hb := hb.trans (hc.mono hb.size)
  clear hc hr Ra7 Rb7 Rp17 Rp27
  go_wp2_with fail
  go_at_call 24
  refine (d4.out _ (HT.out _ hb)).mono ?_
  rintro x w9 ⟨o4, k4, z4, rfl, hr, hc⟩
  have Ra9 : Hid (Rd w9 ao acap xl) := Ra8.out.below hc hc.size
  have Rb9 : Hid (Rd w9 bo bcap yl) := Rb8.out.below hc hc.size
  have Rp19 : Hid (Rd w9 o1 k1 L1) := Rp18.out.below hc hc.size
  have Rp29 : Hid (Rd w9 o2 k2 L2) := Rp28.out.below hc hc.size
  have Rp39 : Hid (Rd w9 o3 k3 L3) := Rp38.out.below hc hc.size
  have Rp49 : Hid (Rd w9 o4 k4 L4) := hr
  replace hb := hb.trans (hc.mono hb.size)
  clear hc hr Ra8 Rb8 Rp18 Rp28 Rp38
  go_wp2_with fail
  go_at_call 31
  refine (m1.out _ _ _ _ _ Ra9.out Rb9.out).mono ?_
  rintro x w10 ⟨u1, v1, rfl, hr, hc⟩
  have Ra10 : Hid (Rd w10 ao acap xl) := Ra9.out.below hc hc.size
  have Rb10 : Hid (Rd w10 bo bcap yl) := Rb9.out.below hc hc.size
  have Rp110 : Hid (Rd w10 o1 k1 L1) := Rp19.out.below hc hc.size
  have Rp210 : Hid (Rd w10 o2 k2 L2) := Rp29.out.below hc hc.size
  have Rp310 : Hid (Rd w10 o3 k3 L3) := Rp39.out.below hc hc.size
  have Rp410 : Hid (Rd w10 o4 k4 L4) := Rp49.out.below hc hc.size
  have Rq110 : Hid (Rd w10 u1 v1 L1) := hr
  replace hb := hb.trans (hc.mono hb.size)
  clear hc hr Ra9 Rb9 Rp19 Rp29 Rp39 Rp49
  go_wp2_with fail
  go_at_call 31
  refine (m2.out _ _ _ _ _ Ra10.out Rb10.out).mono ?_
  rintro x w11 ⟨u2, v2, rfl, hr, hc⟩
  have Ra11 : Hid (Rd w11 ao acap xl) := Ra10.out.below hc hc.size
  have Rb11 : Hid (Rd w11 bo bcap yl) := Rb10.out.below hc hc.size
  have Rp111 : Hid (Rd w11 o1 k1 L1) := Rp110.out.below hc hc.size
  have Rp211 : Hid (Rd w11 o2 k2 L2) := Rp210.out.below hc hc.size
  have Rp311 : Hid (Rd w11 o3 k3 L3) := Rp310.out.below hc hc.size
  have Rp411 : Hid (Rd w11 o4 k4 L4) := Rp410.out.below hc hc.size
  have Rq111 : Hid (Rd w11 u1 v1 L1) := Rq110.out.below hc hc.size
  have Rq211 : Hid (Rd w11 u2 v2 L2) := hr
  replace hb := hb.trans (hc.mono hb.size)
  clear hc hr Ra10 Rb10 Rp110 Rp210 Rp310 Rp410 Rq110
  go_wp2_with fail
  go_at_call 31
  refine (m3.out _ _ _ Ra11.out).mono ?_
  rintro x w12 ⟨u3, v3, rfl, hr, hc⟩
  have Ra12 : Hid (Rd w12 ao acap xl) := Ra11.out.below hc hc.size
  have Rb12 : Hid (Rd w12 bo bcap yl) := Rb11.out.below hc hc.size
  have Rp112 : Hid (Rd w12 o1 k1 L1) := Rp111.out.below hc hc.size
  have Rp212 : Hid (Rd w12 o2 k2 L2) := Rp211.out.below hc hc.size
  have Rp312 : Hid (Rd w12 o3 k3 L3) := Rp311.out.below hc hc.size
  have Rp412 : Hid (Rd w12 o4 k4 L4) := Rp411.out.below hc hc.size
  have Rq112 : Hid (Rd w12 u1 v1 L1) := Rq111.out.below hc hc.size
  have Rq212 : Hid (Rd w12 u2 v2 L2) := Rq211.out.below hc hc.size
  have Rq312 : Hid (Rd w12 u3 v3 L3) := hr
  replace hb := hb.trans (hc.mono hb.size)
  clear hc hr Ra11 Rb11 Rp111 Rp211 Rp311 Rp411 Rq111 Rq211
  go_wp2_with fail
  go_at_call 31
  refine (m4.out _ _ _ Ra12.out).mono ?_
  rintro x w13 ⟨u4, v4, rfl, hr, hc⟩
  have Ra13 : Hid (Rd w13 ao acap xl) := Ra12.out.below hc hc.size
  have Rb13 : Hid (Rd w13 bo bcap yl) := Rb12.out.below hc hc.size
  have Rp113 : Hid (Rd w13 o1 k1 L1) := Rp112.out.below hc hc.size
  have Rp213 : Hid (Rd w13 o2 k2 L2) := Rp212.out.below hc hc.size
  have Rp313 : Hid (Rd w13 o3 k3 L3) := Rp312.out.below hc hc.size
  have Rp413 : Hid (Rd w13 o4 k4 L4) := Rp412.out.below hc hc.size
  have Rq113 : Hid (Rd w13 u1 v1 L1) := Rq112.out.below hc hc.size
  have Rq213 : Hid (Rd w13 u2 v2 L2) := Rq212.out.below hc hc.size
  have Rq313 : Hid (Rd w13 u3 v3 L3) := Rq312.out.below hc hc.size
  have Rq413 : Hid (Rd w13 u4 v4 L4) := hr
  replace hb := hb.trans (hc.mono hb.size)
  clear hc hr Ra12 Rb12 Rp112 Rp212 Rp312 Rp412 Rq112 Rq212 Rq312
  go_wp2_with fail
  go_at_call 15
  refine (cS.out _ _ _ _ _ L1 N1 HN.out.1 Rp113.out Rq113.out).mono ?_
  rintro x w14 ⟨rfl, hc⟩
  have Rp214 : Hid (Rd w14 o2 k2 L2) := Rp213.out.below hc hc.size
  have Rp314 : Hid (Rd w14 o3 k3 L3) := Rp313.out.below hc hc.size
  have Rp414 : Hid (Rd w14 o4 k4 L4) := Rp413.out.below hc hc.size
  have Rq214 : Hid (Rd w14 u2 v2 L2) := Rq213.out.below hc hc.size
  have Rq314 : Hid (Rd w14 u3 v3 L3) := Rq313.out.below hc hc.size
  have Rq414 : Hid (Rd w14 u4 v4 L4) := Rq413.out.below hc hc.size
  replace hb := hb.trans (hc.mono hb.size)
  clear hc Rp213 Rp313 Rp413 Rq213 Rq313 Rq413
  go_wp2_with fail
  go_at_call 15
  refine (cS.out _ _ _ _ _ L2 N2 HN.out.2.1 Rp214.out Rq214.out).mono ?_
  rintro x w15 ⟨rfl, hc⟩
  have Rp315 : Hid (Rd w15 o3 k3 L3) := Rp314.out.below hc hc.size
  have Rp415 : Hid (Rd w15 o4 k4 L4) := Rp414.out.below hc hc.size
  have Rq315 : Hid (Rd w15 u3 v3 L3) := Rq314.out.below hc hc.size
  have Rq415 : Hid (Rd w15 u4 v4 L4) := Rq414.out.below hc hc.size
  replace hb := hb.trans (hc.mono hb.size)
  clear hc Rp314 Rp414 Rq314 Rq414
  go_wp2_with fail
  go_at_call 15
  refine (cS.out _ _ _ _ _ L3 N3 HN.out.2.2.1 Rp315.out Rq315.out).mono ?_
  rintro x w16 ⟨rfl, hc⟩
  have Rp416 : Hid (Rd w16 o4 k4 L4) := Rp415.out.below hc hc.size
  have Rq416 : Hid (Rd w16 u4 v4 L4) := Rq415.out.below hc hc.size
  replace hb := hb.trans (hc.mono hb.size)
  clear hc Rp415 Rq415
  go_wp2_with fail
  go_at_call 15
  refine (cS.out _ _ _ _ _ L4 N4 HN.out.2.2.2 Rp416.out Rq416.out).mono ?_
  rintro x w17 ⟨rfl, hc⟩
  replace hb := hb.trans (hc.mono hb.size)
  clear hc 
  go_wp2_with fail
  go_ret
  exact ⟨rfl, hb⟩
end Go.Proofs.YtaennaoakopgfaaDoor
