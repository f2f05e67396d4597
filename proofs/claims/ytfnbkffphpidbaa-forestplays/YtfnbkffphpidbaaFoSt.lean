/-
  step, walked.
-/
import Derived.Test.YtfnbkffphpidbaaFoPl
set_option linter.unusedSimpArgs false
set_option linter.unusedVariables false
namespace Go.Proofs.Ytfnbkffphpidbaa
open Go.RowKit Go.Lib

/-- What a call on both leaves. -/
def StB (w : World) (p q : Nat) (L : List Jt) (w' : World) : Prop := ∃ v v2 L' V m, Bth w' p q v v2 L' V m ∧ L'.length ≤ L.length + 1 ∧ Below p w w'
theorem StB.of {w w' : World} {p q : Nat} {v v2 : Value} {L : List Jt} {V : List Value} {m : List Mv} (h : Bth w p q v v2 L V m) (hb : Below w.heap.size w w') : StB w p q L w' := ⟨v, v2, L, V, m, h.below hb, by omega, hb.mono (Nat.le_of_lt h.fo.fo.lt)⟩
structure OpAt (w : World) (b : Nat) (kd xa xb xy : Int) : Prop where
  c0 : w.cell? ⟨b, 0, none⟩ = some (.int .i64 kd)
  c1 : w.cell? ⟨b, 1, none⟩ = some (.int .i64 xa)
  c2 : w.cell? ⟨b, 2, none⟩ = some (.int .i64 xb)
  c3 : w.cell? ⟨b, 3, none⟩ = some (.int .i64 xy)
theorem opAt_of {w : World} {b : Nat} {kd xa xb xy : Int} (h : w.heap[b]? = some (.cells #[.int .i64 kd, .int .i64 xa, .int .i64 xb, .int .i64 xy] 32 (0, 0))) : OpAt w b kd xa xb xy := ⟨by simp [World.cell?, h], by simp [World.cell?, h], by simp [World.cell?, h], by simp [World.cell?, h]⟩

set_option maxRecDepth 20000 in
set_option maxHeartbeats 4000000 in
theorem step_same (w : World) (p q : Nat) (v v2 : Value) (L : List Jt) (V : List Value) (m : List Mv) (kd xa xb xy : Int) (hkd : kd = 2) (h : Bth w p q v v2 L V m) :
    Calls Try.prog 10 #[.pointer (some ⟨p, 0, none⟩), .pointer (some ⟨q, 0, none⟩), .agg #[.int .i64 kd, .int .i64 xa, .int .i64 xb, .int .i64 xy] ] w fun e w' => e = .returned (.bool true) ∧ StB w p q L w' := by
  subst hkd
  have HB0 : Hid (Bth (w.alloc (.cells #[.int .i64 2, .int .i64 xa, .int .i64 xb, .int .i64 xy] 32)) p q v v2 L V m) := h.below ((Below.refl _ _).alloc (Nat.le_refl _) _)
  have HW0 : Hid (Below w.heap.size w (w.alloc (.cells #[.int .i64 2, .int .i64 xa, .int .i64 xb, .int .i64 xy] 32))) := (Below.refl _ _).alloc (Nat.le_refl _) _
  have hbk : (w.alloc (.cells #[.int .i64 2, .int .i64 xa, .int .i64 xb, .int .i64 xy] 32)).heap[w.heap.size]? = some (.cells #[.int .i64 2, .int .i64 xa, .int .i64 xb, .int .i64 xy] 32 (0, 0)) := Deep.blk_alloc_new _ _
  have HBK : Hid (∀ W : World, Below (w.heap.size + 1) (w.alloc (.cells #[.int .i64 2, .int .i64 xa, .int .i64 xb, .int .i64 xy] 32)) W → OpAt W w.heap.size 2 xa xb xy) := fun W hW => opAt_of ((hW.block _ (Nat.lt_succ_self _)).trans hbk)
  have HH : Hid (Bth w p q v v2 L V m) := h
  have hsz0 : (w.alloc (.cells #[.int .i64 2, .int .i64 xa, .int .i64 xb, .int .i64 xy] 32)).heap.size = w.heap.size + 1 := World.size_alloc _ _
  clear h hbk
  go_enter Try.func10, Try.ntmps10
  go_wp2_with fail
  refine (fosame HB0.out.fo xa xb).mono ?_
  rintro e w1 ⟨rfl, hw⟩
  obtain rfl := hw.symm
  obtain ⟨SB, hSB⟩ : ∃ SB, sameB m xa xb = SB := ⟨_, rfl⟩
  obtain ⟨JE, hJE⟩ : ∃ JE, joinE m xa xb = JE := ⟨_, rfl⟩
  have CR := rsame_any HB0.out.rf HB0.out.fo.inv xa xb
  rw [hSB, hJE] at CR ⊢
  have HCR : Hid (Calls Try.prog 23 #[.pointer (some ⟨q, 0, none⟩), .int .i64 xa, .int .i64 xb] (w.alloc (.cells #[.int .i64 2, .int .i64 xa, .int .i64 xb, .int .i64 xy] 32)) fun e w' => e = .returned (.tuple #[.bool SB, .int .i64 JE]) ∧ Below (w.alloc (.cells #[.int .i64 2, .int .i64 xa, .int .i64 xb, .int .i64 xy] 32)).heap.size (w.alloc (.cells #[.int .i64 2, .int .i64 xa, .int .i64 xb, .int .i64 xy] 32)) w') := CR
  clear CR hSB hJE
  have h1 : (SB == SB) = true := by simp
  have h2 : (JE == JE) = true := by simp
  go_wp2_with fail
  refine HCR.out.mono ?_
  rintro e w2 ⟨rfl, hb2⟩
  have HB2 : Hid (Below w.heap.size w w2) := HW0.out.trans (hb2.mono (by omega))
  clear hb2
  go_wp2_with fail
  go_ret
  exact ⟨rfl, StB.of HH.out HB2.out⟩

set_option maxRecDepth 20000 in
set_option maxHeartbeats 4000000 in
theorem step_least (w : World) (p q : Nat) (v v2 : Value) (L : List Jt) (V : List Value) (m : List Mv) (xa xb xy : Int) (h : Bth w p q v v2 L V m) :
    Calls Try.prog 10 #[.pointer (some ⟨p, 0, none⟩), .pointer (some ⟨q, 0, none⟩), .agg #[.int .i64 3, .int .i64 xa, .int .i64 xb, .int .i64 xy] ] w fun e w' => e = .returned (.bool true) ∧ StB w p q L w' := by
  have HB0 : Hid (Bth (w.alloc (.cells #[.int .i64 3, .int .i64 xa, .int .i64 xb, .int .i64 xy] 32)) p q v v2 L V m) := h.below ((Below.refl _ _).alloc (Nat.le_refl _) _)
  have HW0 : Hid (Below w.heap.size w (w.alloc (.cells #[.int .i64 3, .int .i64 xa, .int .i64 xb, .int .i64 xy] 32))) := (Below.refl _ _).alloc (Nat.le_refl _) _
  have hbk : (w.alloc (.cells #[.int .i64 3, .int .i64 xa, .int .i64 xb, .int .i64 xy] 32)).heap[w.heap.size]? = some (.cells #[.int .i64 3, .int .i64 xa, .int .i64 xb, .int .i64 xy] 32 (0, 0)) := Deep.blk_alloc_new _ _
  have HBK : Hid ((w.alloc (.cells #[.int .i64 3, .int .i64 xa, .int .i64 xb, .int .i64 xy] 32)).heap[w.heap.size]? = some (.cells #[.int .i64 3, .int .i64 xa, .int .i64 xb, .int .i64 xy] 32 (0, 0))) := hbk
  have HH : Hid (Bth w p q v v2 L V m) := h
  have hsz0 : (w.alloc (.cells #[.int .i64 3, .int .i64 xa, .int .i64 xb, .int .i64 xy] 32)).heap.size = w.heap.size + 1 := World.size_alloc _ _
  have hplt := h.fo.fo.lt
  clear h hbk
  go_enter Try.func10, Try.ntmps10
  obtain ⟨LA, hLA⟩ : ∃ LA, leastA m xa = LA := ⟨_, rfl⟩
  obtain ⟨JE, hJE⟩ : ∃ JE, hasE m xa = JE := ⟨_, rfl⟩
  have HLA : Hid (leastA m xa = LA ∧ hasE m xa = JE) := ⟨hLA, hJE⟩
  clear hLA hJE
  have h1 : (LA == LA) = true := by simp
  have h2 : (JE == JE) = true := by simp
  go_wp2_with fail
  refine (foleast HB0.out.fo xa).mono ?_
  rintro e w' ⟨rfl, n, rfl⟩
  rw [HLA.out.1, HLA.out.2]
  have hb1 := below_drew (w.alloc (.cells #[.int .i64 3, .int .i64 xa, .int .i64 xb, .int .i64 xy] 32)) n
  generalize (w.alloc (.cells #[.int .i64 3, .int .i64 xa, .int .i64 xb, .int .i64 xy] 32)).drewN n = w1 at *
  have HB1 : Hid (Bth w1 p q v v2 L V m) := HB0.out.below hb1
  obtain ⟨c0, c1, c2, c3⟩ := opAt_of ((hb1.block _ (by omega)).trans HBK.out)
  have HW1 : Hid (Below w.heap.size w w1) := HW0.out.trans (hb1.mono (by omega))
  clear hb1
  go_wp2_with fail
  refine (rleast_any HB1.out.rf HB1.out.fo.inv xa).mono ?_
  rintro e w2 ⟨rfl, hb2⟩
  rw [HLA.out.1, HLA.out.2]
  have HB2 : Hid (Below w.heap.size w w2) := HW1.out.trans (hb2.mono HW1.out.size)
  clear hb2
  go_wp2_with fail
  go_ret
  exact ⟨rfl, StB.of HH.out HB2.out⟩

set_option maxRecDepth 20000 in
set_option maxHeartbeats 4000000 in
theorem step_group (w : World) (p q : Nat) (v v2 : Value) (L : List Jt) (V : List Value) (m : List Mv) (xa xb xy : Int) (h : Bth w p q v v2 L V m) :
    Calls Try.prog 10 #[.pointer (some ⟨p, 0, none⟩), .pointer (some ⟨q, 0, none⟩), .agg #[.int .i64 4, .int .i64 xa, .int .i64 xb, .int .i64 xy] ] w fun e w' => e = .returned (.bool true) ∧ StB w p q L w' := by
  have HB0 : Hid (Bth (w.alloc (.cells #[.int .i64 4, .int .i64 xa, .int .i64 xb, .int .i64 xy] 32)) p q v v2 L V m) := h.below ((Below.refl _ _).alloc (Nat.le_refl _) _)
  have HW0 : Hid (Below w.heap.size w (w.alloc (.cells #[.int .i64 4, .int .i64 xa, .int .i64 xb, .int .i64 xy] 32))) := (Below.refl _ _).alloc (Nat.le_refl _) _
  have hbk : (w.alloc (.cells #[.int .i64 4, .int .i64 xa, .int .i64 xb, .int .i64 xy] 32)).heap[w.heap.size]? = some (.cells #[.int .i64 4, .int .i64 xa, .int .i64 xb, .int .i64 xy] 32 (0, 0)) := Deep.blk_alloc_new _ _
  have HBK : Hid ((w.alloc (.cells #[.int .i64 4, .int .i64 xa, .int .i64 xb, .int .i64 xy] 32)).heap[w.heap.size]? = some (.cells #[.int .i64 4, .int .i64 xa, .int .i64 xb, .int .i64 xy] 32 (0, 0))) := hbk
  have HH : Hid (Bth w p q v v2 L V m) := h
  have hsz0 : (w.alloc (.cells #[.int .i64 4, .int .i64 xa, .int .i64 xb, .int .i64 xy] 32)).heap.size = w.heap.size + 1 := World.size_alloc _ _
  have hplt := h.fo.fo.lt
  clear h hbk
  go_enter Try.func10, Try.ntmps10
  obtain ⟨JE, hJE⟩ : ∃ JE, hasE m xa = JE := ⟨_, rfl⟩
  have HLA : Hid (hasE m xa = JE) := hJE
  clear hJE
  have h2 : (JE == JE) = true := by simp
  go_wp2_with fail
  refine (fogroup HB0.out.fo xa).mono ?_
  rintro e w1 ⟨u1, rfl, hO1, hb1⟩
  rw [HLA.out]
  obtain ⟨ya, yc, rfl⟩ := hO1.form
  have HB1 : Hid (Bth w1 p q v v2 L V m) := HB0.out.below hb1
  obtain ⟨c0, c1, c2, c3⟩ := opAt_of ((hb1.block _ (by omega)).trans HBK.out)
  have HW1 : Hid (Below w.heap.size w w1) := HW0.out.trans (hb1.mono (by omega))
  have HO1 : Hid (OwnZ w1 (w.alloc (.cells #[.int .i64 4, .int .i64 xa, .int .i64 xb, .int .i64 xy] 32)).heap.size (.slice ya (gpL m xa).length yc) (gpL m xa)) := hO1
  clear hb1 hO1
  go_wp2_with fail
  refine (rgroup_any HB1.out.rf HB1.out.fo.inv xa).mono ?_
  rintro e w2 ⟨u2, rfl, hO2, hb2⟩
  rw [HLA.out]
  obtain ⟨za, zc, rfl⟩ := hO2.form
  have HB2 : Hid (Below w.heap.size w w2) := HW1.out.trans (hb2.mono HW1.out.size)
  have HO2 : Hid (OwnZ w2 w1.heap.size (.slice za (gpL m xa).length zc) (gpL m xa)) := hO2
  have HO1' : Hid (OwnZ w2 (w.alloc (.cells #[.int .i64 4, .int .i64 xa, .int .i64 xb, .int .i64 xy] 32)).heap.size (.slice ya (gpL m xa).length yc) (gpL m xa)) := HO1.out.below hb2
  clear hb2 hO2
  go_wp2_with fail
  refine (sameZ_any ya za yc zc (gpL m xa) w2 _ _ HO1'.out HO2.out).mono ?_
  rintro e w3 ⟨rfl, n, rfl⟩
  have HB3 : Hid (Below w.heap.size w (w2.drewN n)) := HB2.out.trans ((below_drew w2 n).mono HB2.out.size)
  go_wp2_with fail
  go_ret
  exact ⟨rfl, StB.of HH.out HB3.out⟩

set_option maxRecDepth 20000 in
set_option maxHeartbeats 4000000 in
theorem step_path (w : World) (p q : Nat) (v v2 : Value) (L : List Jt) (V : List Value) (m : List Mv) (xa xb xy : Int) (h : Bth w p q v v2 L V m) :
    Calls Try.prog 10 #[.pointer (some ⟨p, 0, none⟩), .pointer (some ⟨q, 0, none⟩), .agg #[.int .i64 5, .int .i64 xa, .int .i64 xb, .int .i64 xy] ] w fun e w' => e = .returned (.bool true) ∧ StB w p q L w' := by
  have HB0 : Hid (Bth (w.alloc (.cells #[.int .i64 5, .int .i64 xa, .int .i64 xb, .int .i64 xy] 32)) p q v v2 L V m) := h.below ((Below.refl _ _).alloc (Nat.le_refl _) _)
  have HW0 : Hid (Below w.heap.size w (w.alloc (.cells #[.int .i64 5, .int .i64 xa, .int .i64 xb, .int .i64 xy] 32))) := (Below.refl _ _).alloc (Nat.le_refl _) _
  have hbk : (w.alloc (.cells #[.int .i64 5, .int .i64 xa, .int .i64 xb, .int .i64 xy] 32)).heap[w.heap.size]? = some (.cells #[.int .i64 5, .int .i64 xa, .int .i64 xb, .int .i64 xy] 32 (0, 0)) := Deep.blk_alloc_new _ _
  have HBK : Hid ((w.alloc (.cells #[.int .i64 5, .int .i64 xa, .int .i64 xb, .int .i64 xy] 32)).heap[w.heap.size]? = some (.cells #[.int .i64 5, .int .i64 xa, .int .i64 xb, .int .i64 xy] 32 (0, 0))) := hbk
  have HH : Hid (Bth w p q v v2 L V m) := h
  have hsz0 : (w.alloc (.cells #[.int .i64 5, .int .i64 xa, .int .i64 xb, .int .i64 xy] 32)).heap.size = w.heap.size + 1 := World.size_alloc _ _
  have hplt := h.fo.fo.lt
  clear h hbk
  go_enter Try.func10, Try.ntmps10
  obtain ⟨JE, hJE⟩ : ∃ JE, pathE m xa xb = JE := ⟨_, rfl⟩
  have HLA : Hid (pathE m xa xb = JE) := hJE
  clear hJE
  have h2 : (JE == JE) = true := by simp
  go_wp2_with fail
  refine (fopath HB0.out.fo xa xb).mono ?_
  rintro e w1 ⟨P, pa, pc, rfl, hO1, hb1, hn1, hp1⟩
  have HB1 : Hid (Bth w1 p q v v2 L V m) := HB0.out.below hb1
  obtain ⟨c0, c1, c2, c3⟩ := opAt_of ((hb1.block _ (by omega)).trans HBK.out)
  have HW1 : Hid (Below w.heap.size w w1) := HW0.out.trans (hb1.mono (by omega))
  have HO1 : Hid (OwnE w1 (w.alloc (.cells #[.int .i64 5, .int .i64 xa, .int .i64 xb, .int .i64 xy] 32)).heap.size (.slice pa P.length pc) (P.map (cz (jJ L) V))) := hO1
  have HN1 : Hid (pathE m xa xb ≠ 0 → P = []) := hn1
  have HP1 : Hid (pathE m xa xb = 0 → Pa (jJ L) xa.toNat P xb.toNat) := hp1
  rw [HLA.out]
  clear hb1 hO1 hn1 hp1
  go_wp2_with fail
  refine (rpath_any HB1.out.rf HB1.out.fo.inv xa xb).mono ?_
  rintro e w2 ⟨Q, u2, rfl, hO2, hb2, hn2, hp2⟩
  obtain rfl : Q = P := path_one HB1.out.fo.inv HN1.out HP1.out hn2 hp2
  rw [HLA.out]
  obtain ⟨za, zc, hz⟩ := hO2.form
  rw [List.length_map] at hz
  subst hz
  have HB2 : Hid (Below w.heap.size w w2) := HW1.out.trans (hb2.mono HW1.out.size)
  have CE := edges_any w2 pa za pc zc _ _ Q V L (HO1.out.below hb2) hO2 (HB1.out.rs.below hb2) (fun e he => by
    by_cases hz : pathE m xa xb = 0
    · have key : ∀ {q : List Ed} {c d : Nat}, Wk (jJ L) c q d → ∀ e ∈ q, e.1 < (jJ L).length := by
        intro q
        induction q with
        | nil => intro c d _ e he; cases he
        | cons f q ih =>
          intro c d hw e he
          rcases List.mem_cons.1 he with rfl | he
          · exact hw.1
          · exact ih hw.2.2 e he
      have := key (HP1.out hz).1 e he
      rw [jJ_len] at this
      exact this
    · rw [HN1.out hz] at he; cases he)
  have HCE : Hid (Calls Try.prog 27 #[.slice pa Q.length pc, .slice za Q.length zc] w2 fun e w' => e = .returned (.bool true) ∧ Below w2.heap.size w2 w') := CE
  clear hb2 hO2 hn2 hp2 CE
  go_wp2_with fail
  refine HCE.out.mono ?_
  rintro e w3 ⟨rfl, hb3⟩
  have HB3 : Hid (Below w.heap.size w w3) := HB2.out.trans (hb3.mono HB2.out.size)
  clear hb3
  go_wp2_with fail
  go_ret
  exact ⟨rfl, StB.of HH.out HB3.out⟩
end Go.Proofs.Ytfnbkffphpidbaa
