/-
  DcA, ExOrdT, RefOrdW, ExHeadW.
-/
import Derived.Test.YtlbmijcpalfaeaaGreatDoorP30
import Derived.Laws.IdiomStrings
import Derived.WalkSmall
set_option linter.unusedSimpArgs false
set_option linter.unusedVariables false
namespace Go.Proofs.YtlbmijcpalfaeaaGreatDoor
open Go.RowKit Go.Lib

/-- A row of nodes and classes, read. -/
def ce0 : Nd × Int := (nd0, 0)
def Cels (w : World) (B : Nat) (v : Value) (l : List (Nd × Int)) : Prop :=
  ∃ ao cap, v = .slice ao l.length cap ∧ l.length ≤ cap ∧ cap ≤ maxLen ∧ (l = [] ∨ ∃ b o, ao = some ⟨b, o, none⟩ ∧ b < B ∧ ∀ i, i < l.length → ∃ ka kc, NodeAt w B b (o + i * 5) (l.getD i ce0).1 (.slice ka (l.getD i ce0).1.kids.length kc) ∧ w.cell? ⟨b, o + i * 5 + 4, none⟩ = some (.int .i64 (l.getD i ce0).2))
theorem Cels.below {w w' : World} {B B' : Nat} {v : Value} {l : List (Nd × Int)} (h : Cels w B v l) (hb : Below B w w') (hB : B ≤ B') : Cels w' B' v l := by
  obtain ⟨ao, cap, h1, h2, h3, h4⟩ := h
  refine ⟨ao, cap, h1, h2, h3, h4.imp id fun ⟨b, o, e, hl, hc⟩ => ⟨b, o, e, by omega, fun i hi => ?_⟩⟩
  obtain ⟨ka, kc, h5, h6⟩ := hc i hi
  exact ⟨ka, kc, h5.below hb hB hl, (hb.cell (p := ⟨b, o + i * 5 + 4, none⟩) hl).trans h6⟩
theorem Cels.cell {w : World} {B : Nat} {ao : Option Addr} {n cap : Nat} {l : List (Nd × Int)} (h : Cels w B (.slice ao n cap) l) {i : Nat} (hi : i < l.length) : ∃ b o ka kc, ao = some ⟨b, o, none⟩ ∧ b < B ∧ NodeAt w B b (o + i * 5) (l.getD i ce0).1 (.slice ka (l.getD i ce0).1.kids.length kc) ∧ w.cell? ⟨b, o + i * 5 + 4, none⟩ = some (.int .i64 (l.getD i ce0).2) := by
  obtain ⟨ao', cap', h1, _, _, h2⟩ := h
  injection h1 with h1 _ _
  rcases h2 with h2 | ⟨b, o, h2, h3, h4⟩
  · subst h2; simp at hi
  · obtain ⟨ka, kc, h5, h6⟩ := h4 i hi
    exact ⟨b, o, ka, kc, h1.trans h2, h3, h5, h6⟩
theorem Ints.cellK {w : World} {B : Nat} {ao : Option Addr} {n cap : Nat} {ks : List Int} (h : Ints w B (.slice ao n cap) ks) {i : Nat} (hi : i < ks.length) : ∃ b o, ao = some ⟨b, o, none⟩ ∧ b < B ∧ w.cell? ⟨b, o + i, none⟩ = some (.int .i64 (ks.getD i 0)) := by
  obtain ⟨ao', cap', h1, _, _, h2⟩ := h
  injection h1 with h1 _ _
  rcases h2 with h2 | ⟨b, o, h2, h3, h4⟩
  · subst h2; simp at hi
  · exact ⟨b, o, h1.trans h2, h3, h4 i hi⟩
theorem Ints.bnd {w : World} {B : Nat} {ao : Option Addr} {n cap : Nat} {ks : List Int} (h : Ints w B (.slice ao n cap) ks) : n = ks.length ∧ ks.length ≤ cap ∧ cap ≤ 9223372036854775807 := by
  obtain ⟨ao', cap', h1, h2, ⟨h3, _⟩, _⟩ := h
  injection h1 with h1 h4 h5
  unfold maxLen at h3
  subst h5
  exact ⟨h4, h2, by omega⟩
/-- The sizes in a list. -/
def szLs (zs : List Int) (k : Int) : Int := zs.getD k.toNat 0
theorem sizeD_take {sz : Int → Int} {ks : List Int} {j : Nat} (hj : j < ks.length) : sizeD sz (ks.take (j + 1)) = min 1073741824 (sizeD sz (ks.take j) + sz (ks.getD j 0)) := by
  unfold sizeD
  rw [List.take_add_one, List.foldl_append, List.getD_eq_getElem?_getD, List.getElem?_eq_getElem hj]
  rfl
theorem sizeD_rng {sz : Int → Int} : ∀ (ks : List Int) (s : Int), 0 ≤ s ∧ s ≤ 1073741824 → (∀ k ∈ ks, 0 ≤ sz k) → 0 ≤ ks.foldl (fun s k => min 1073741824 (s + sz k)) s ∧ ks.foldl (fun s k => min 1073741824 (s + sz k)) s ≤ 1073741824 := by
  intro ks
  induction ks with
  | nil => intro s h _; exact h
  | cons k ks ih => intro s h h2; rw [List.foldl_cons]; have := h2 k (by simp); exact ih _ (by omega) (fun x hx => h2 x (by simp [hx]))

set_option maxRecDepth 20000 in
set_option maxHeartbeats 4000000 in
theorem dsize_any (x : Nd) (ka : Option Addr) (kc : Nat) (za : Option Addr) (zc : Nat) (zs : List Int) (w : World) (hk : Ints w w.heap.size (.slice ka x.kids.length kc) x.kids) (hz : Ints w w.heap.size (.slice za zs.length zc) zs) (hr : ∀ k ∈ x.kids, 0 ≤ k ∧ k < (zs.length : Int)) (hzr : ∀ z ∈ zs, 0 ≤ z ∧ z ≤ 1073741824) :
    Calls Tryz.prog 66 #[.agg #[.int .i64 x.op, .int .i64 x.n, .string x.name, .slice ka x.kids.length kc], .slice za zs.length zc] w fun e w' => e = .returned (.int .i64 (sizeD (szLs zs) x.kids)) ∧ Below w.heap.size w w' := by
  obtain ⟨op, n, nm, ks⟩ := x
  simp only at hk hr ⊢
  obtain ⟨W1, hW1⟩ : ∃ W1, w.alloc (.cells #[.int .i64 op, .int .i64 n, .string nm, .slice ka ks.length kc] 41) = W1 := ⟨_, rfl⟩
  have hb1 : Below w.heap.size w W1 := by rw [← hW1]; exact (Below.refl _ _).alloc (Nat.le_refl _) _
  have hk1 : W1.heap[w.heap.size]? = some (.cells #[.int .i64 op, .int .i64 n, .string nm, .slice ka ks.length kc] 41 (0, 0)) := by rw [← hW1, Deep.blk_alloc_new]
  have c3 : W1.cell? ⟨w.heap.size, 3, none⟩ = some (.slice ka ks.length kc) := by simp [World.cell?, hk1]
  have HW1 := Sld.mk hW1
  have HB1 := Sld.mk hb1
  have HK := Sld.mk (hk.below hb1 hb1.size)
  have HC := Sld.mk (hz.below hb1 hb1.size)
  have HR := Sld.mk hr
  have HZ := Sld.mk hzr
  obtain ⟨_, hl1, hl2⟩ := hk.bnd
  obtain ⟨_, hm1, hm2⟩ := hz.bnd
  have HNN : Sld (∀ k ∈ ks, 0 ≤ szLs zs k) := ⟨fun k hk => by
    have h := HR.out k hk
    unfold szLs
    rw [List.getD_eq_getElem?_getD, List.getElem?_eq_getElem (by omega)]
    exact (HZ.out _ (List.getElem_mem _)).1⟩
  clear hW1 hb1 hk1 hr hk hz hzr
  go_enter Tryz.func66, Tryz.ntmps66
  go_wp2_with fail
  rw [HW1.out]
  go_loopw [5, 6] (fun z i wr => ∃ j : Nat, j ≤ ks.length ∧ i = .int .i64 j ∧ wr = W1 ∧ z = .int .i64 (sizeD (szLs zs) (ks.take j))) (fun _ i _ => ks.length - (RowKit.intOf i).toNat)
  case atStart => exact ⟨0, Nat.zero_le _, rfl, rfl, by simp [sizeD]⟩
  case round =>
    obtain ⟨j, hj, rfl, hwr, rfl⟩ := hrel
    subst hwr
    by_cases hlt : j < ks.length
    · obtain ⟨b, o, hka, _, ck⟩ := HK.out.cellK hlt
      subst hka
      have hin := HR.out (ks.getD j 0) (by simp [List.getD_eq_getElem?_getD, List.getElem?_eq_getElem hlt])
      have hst := sizeD_take (sz := szLs zs) hlt
      have hrg := sizeD_rng (sz := szLs zs) (ks.take j) 1 (by omega) (fun k hk => HNN.out k (List.mem_of_mem_take hk))
      have hzz := HZ.out (szLs zs (ks.getD j 0)) (by unfold szLs; rw [List.getD_eq_getElem?_getD, List.getElem?_eq_getElem (by omega)]; exact List.getElem_mem _)
      unfold sizeD at hst
      unfold sizeD
      generalize (ks.take j).foldl (fun s k => min 1073741824 (s + szLs zs k)) 1 = S0 at *
      obtain ⟨S1, hS1e⟩ : ∃ S1, (ks.take (j + 1)).foldl (fun s k => min 1073741824 (s + szLs zs k)) 1 = S1 := ⟨_, rfl⟩
      rw [hS1e] at hst
      have HS1 := Sld.mk hS1e
      have HST := Sld.mk hst
      clear hS1e hst
      generalize hy : ks.getD j 0 = y at *
      obtain ⟨m, rfl⟩ : ∃ m : Nat, y = (m : Int) := ⟨y.toNat, by omega⟩
      have hmc : m < zs.length := by omega
      obtain ⟨b2, o2, hza, _, cz⟩ := HC.out.cellK hmc
      subst hza
      have hsm : szLs zs (m : Int) = zs.getD m 0 := by unfold szLs; rw [Int.toNat_natCast]
      rw [hsm] at HST hzz
      generalize zs.getD m 0 = z at *
      have hmI : (m : Int) < (zs.length : Int) := by omega
      have hltI : (j : Int) < (ks.length : Int) := by omega
      clear hin hy hsm
      have hwz : (S0 + z) ≤ 9223372036854775807 := by omega
      have hwz0 : 0 ≤ (S0 + z) := by omega
      go_wp2_with fail
      refine ⟨⟨j + 1, by omega, by go_num, trivial, ?_⟩, by simp [RowKit.intOf]; omega⟩
      rw [HS1.out, HST.out]
    · have hje : j = ks.length := by omega
      subst hje
      have HE : Sld (sizeD (szLs zs) (ks.take ks.length) = sizeD (szLs zs) ks) := ⟨by rw [List.take_length]⟩
      go_wp2_with fail
      go_ret
      exact ⟨by rw [← HE.out]; rfl, HB1.out⟩
end Go.Proofs.YtlbmijcpalfaeaaGreatDoor

set_option linter.unusedSimpArgs false
set_option linter.unusedVariables false
namespace Go.Proofs.YtlbmijcpalfaeaaGreatDoor
open Go.Lib

/-! ### one after another -/
/-- x is a against b, y b against c, z a against c. -/
def Tri (x y z : Int) : Prop := x ≤ 0 → y ≤ 0 → z ≤ 0 ∧ (z = 0 ↔ x = 0 ∧ y = 0)
theorem Tri.lex {c1 c2 c3 d1 d2 d3 : Int} (h : Tri c1 c2 c3) (h' : c1 = 0 → c2 = 0 → Tri d1 d2 d3) : Tri (if c1 = 0 then d1 else c1) (if c2 = 0 then d2 else c2) (if c3 = 0 then d3 else c3) := by
  intro hx hy
  by_cases e1 : c1 = 0
  · by_cases e2 : c2 = 0
    · have e3 : c3 = 0 := ((h (by omega) (by omega)).2).2 ⟨e1, e2⟩
      rw [if_pos e1] at *; rw [if_pos e2] at *; rw [if_pos e3] at *
      exact h' e1 e2 hx hy
    · rw [if_pos e1] at *; rw [if_neg e2] at *
      have := h (by omega) (by omega)
      have e3 : c3 ≠ 0 := fun e => e2 (this.2.1 e).2
      rw [if_neg e3]
      exact ⟨this.1, fun e => absurd e e3, fun e => absurd e.2 e2⟩
  · have hx' : c1 ≤ 0 := by rw [if_neg e1] at hx; exact hx
    have hy' : c2 ≤ 0 := by
      by_cases e2 : c2 = 0
      · omega
      · rw [if_neg e2] at hy; exact hy
    have := h hx' hy'
    have e3 : c3 ≠ 0 := fun e => e1 (this.2.1 e).1
    rw [if_neg e1, if_neg e3]
    exact ⟨this.1, fun e => absurd e e3, fun e => absurd e.1 e1⟩
/-! ### kids -/
/-! ### the whole -/
end Go.Proofs.YtlbmijcpalfaeaaGreatDoor

set_option linter.unusedSimpArgs false
set_option linter.unusedVariables false
namespace Go.Proofs.YtlbmijcpalfaeaaGreatDoor
open Go.RowKit Go.Lib

theorem convRunes_list (s : ByteArray) : ∀ (f i : Nat) (acc : Array Value), (Conv.runesFrom s f i acc).toList = acc.toList ++ (runesFrom s f i).map (Value.int .i32)
  | 0, i, acc => by simp [Conv.runesFrom, runesFrom]
  | f + 1, i, acc => by
    unfold Conv.runesFrom runesFrom
    split
    · rw [convRunes_list s f]
      simp
    · simp
theorem rl_length_le (s : ByteArray) : ∀ (f i : Nat), (runesFrom s f i).length ≤ f
  | 0, i => by simp [runesFrom]
  | f + 1, i => by
    unfold runesFrom
    split
    · have := rl_length_le s f (i + (Utf8.decode s i).2)
      simp; omega
    · simp

/-- '[]rune(s)': a new row that holds the runes. -/
theorem conv_runes (s : ByteArray) (w : World) (hs : s.size ≤ 70368744177664) :
    ∃ cap w1, (convert 9 167 (.string s)).run Tryz.prog w = .ok (.slice (some ⟨w.heap.size, 0, none⟩) (rl s).length cap) w1 ∧ Below w.heap.size w w1 ∧ w1.heap.size = w.heap.size + 1 ∧
      ∀ j, j < (rl s).length → w1.cell? ⟨w.heap.size, j, none⟩ = some (.int .i32 ((rl s).getD j 0)) := by
  have hl : (Conv.runesFrom s s.size 0 #[]).toList = (rl s).map (Value.int .i32) := by
    rw [convRunes_list]; rfl
  have hsz : (Conv.runesFrom s s.size 0 #[]).size = (rl s).length := by
    rw [← Array.length_toList, hl, List.length_map]
  have hle : (rl s).length ≤ s.size := rl_length_le s s.size 0
  have hrun := run_runes_of_string (P := Tryz.prog) w 9 167 21 s Tryz.underlying9 Tryz.underlying167 Tryz.underlying21 (by rw [hsz]; omega)
  rw [hsz] at hrun
  refine ⟨_, _, hrun, (Below.refl _ _).drew.alloc (Nat.le_refl _) _, by simp, fun j hj => ?_⟩
  have hc := World.cell?_alloc_mark w.drew (Conv.runesFrom s s.size 0 #[] ++ Array.replicate (grownCap w (rl s).length 0 21 - (rl s).length) (.int .i32 0)) 21 (0, 0) j
  refine hc.trans ?_
  rw [Array.getElem?_append_left (by rw [hsz]; exact hj), ← Array.getElem?_toList, hl, List.getElem?_map, List.getElem?_eq_getElem hj]
  simp [hj]

theorem cmpL_end (a b : List Int) (k : Nat) (h : ¬ (k < a.length ∧ k < b.length)) (hk : k ≤ a.length) (hk2 : k ≤ b.length) : cmpL (a.drop k) (b.drop k) = cmp3 a.length b.length := by
  unfold cmp3
  by_cases ha : k < a.length
  · have hb : k = b.length := by omega
    rw [List.drop_eq_getElem_cons ha, List.drop_of_length_le (by omega : b.length ≤ k)]
    rw [if_neg (by omega), if_pos (by omega)]
    rfl
  · by_cases hb : k < b.length
    · rw [List.drop_of_length_le (by omega : a.length ≤ k), List.drop_eq_getElem_cons hb, if_pos (by omega)]
      rfl
    · rw [List.drop_of_length_le (by omega : a.length ≤ k), List.drop_of_length_le (by omega : b.length ≤ k), if_neg (by omega), if_neg (by omega)]
      rfl
theorem cmpL_step (a b : List Int) (k : Nat) (ha : k < a.length) (hb : k < b.length) : cmpL (a.drop k) (b.drop k) = if cmp3 (a.getD k 0) (b.getD k 0) = 0 then cmpL (a.drop (k + 1)) (b.drop (k + 1)) else cmp3 (a.getD k 0) (b.getD k 0) := by
  rw [List.drop_eq_getElem_cons ha, List.drop_eq_getElem_cons hb, cmpL]
  simp [ha, hb]

set_option maxHeartbeats 2000000 in
theorem refOrder_any (s t : ByteArray) (w : World) (hs : s.size ≤ 70368744177664) (ht : t.size ≤ 70368744177664) :
    Calls Tryz.prog 107 #[.string s, .string t] w fun e w' => e = .returned (.int .i64 (ordI s t)) ∧ Below w.heap.size w w' := by
  obtain ⟨ca, w1, h1, hb1, hz1, hc1⟩ := conv_runes s w hs
  obtain ⟨cb, w2, h2, hb2, hz2, hc2⟩ := conv_runes t w1 ht
  rw [hz1] at h2 hb2 hz2 hc2
  have hla : (rl s).length ≤ s.size := rl_length_le s s.size 0
  have hlb : (rl t).length ≤ t.size := rl_length_le t t.size 0
  have HO : Hid (ordI s t = cmpL (rl s) (rl t)) := rfl
  generalize rl s = a at *
  generalize rl t = b at *
  have C1 : Hid (∀ j, j < a.length → w2.cell? ⟨w.heap.size, j, none⟩ = some (.int .i32 (a.getD j 0))) := fun j hj => by
    rw [hb2.cell (p := ⟨w.heap.size, j, none⟩) (Nat.lt_succ_self _)]; exact hc1 j hj
  have C2 : Hid (∀ j, j < b.length → w2.cell? ⟨w.heap.size + 1, j, none⟩ = some (.int .i32 (b.getD j 0))) := hc2
  have hB : Below w.heap.size w w2 := hb1.trans (hb2.mono (by omega))
  clear hc1 hc2 hb1 hb2 hz1
  have HZ2 : Hid (w2.heap.size = w.heap.size + 1 + 1) := hz2
  clear hz2
  go_enter Tryz.func107, Tryz.ntmps107
  go_wp2
  clear h1 h2
  go_loopw [7] (fun i w' => ∃ k : Nat, k ≤ a.length ∧ k ≤ b.length ∧ i = .int .i64 k ∧ Below (w.heap.size + 1 + 1) w2 w' ∧ Hid (cmpL (a.drop k) (b.drop k) = ordI s t)) (fun i _ => a.length - (RowKit.intOf i).toNat)
  case atStart => exact ⟨0, by omega, by omega, rfl, Below.refl _ _, by show _ = _; rw [HO.out]; rfl⟩
  case round =>
    obtain ⟨k, hka, hkb, rfl, hBr, HN⟩ := hrel
    have hBw : Below w.heap.size w wr := hB.trans (hBr.mono (by omega))
    by_cases hlt : k < a.length ∧ k < b.length
    · obtain ⟨h1, h2⟩ := hlt
      have HS : Hid (cmpL (a.drop k) (b.drop k) = if cmp3 (a.getD k 0) (b.getD k 0) = 0 then cmpL (a.drop (k + 1)) (b.drop (k + 1)) else cmp3 (a.getD k 0) (b.getD k 0)) := cmpL_step a b k h1 h2
      have cA : wr.cell? ⟨w.heap.size, k, none⟩ = some (.int .i32 (a.getD k 0)) := by
        rw [hBr.cell (p := ⟨w.heap.size, k, none⟩) (by show w.heap.size < _; omega)]; exact C1.out k h1
      have cB : wr.cell? ⟨w.heap.size + 1, k, none⟩ = some (.int .i32 (b.getD k 0)) := by
        rw [hBr.cell (p := ⟨w.heap.size + 1, k, none⟩) (by show w.heap.size + 1 < _; omega)]; exact C2.out k h2
      generalize a.getD k 0 = x at *
      generalize b.getD k 0 = y at *
      have z1 : (k : Int) < (a.length : Int) := by omega
      have z2 : (k : Int) < (b.length : Int) := by omega
      by_cases hxy : x < y
      · have hv : Hid (ordI s t = -1) := by show _ = _; rw [← HN.out, HS.out]; simp [cmp3, hxy]
        go_wp2_with fail
        go_quiet (fail)
        go_wp2
        go_ret
        exact ⟨ret_int hv.out.symm, below_drewN hBw _⟩
      · by_cases hyx : y < x
        · have hv : Hid (ordI s t = 1) := by show _ = _; rw [← HN.out, HS.out]; simp [cmp3, hxy, hyx]
          go_wp2_with fail
          go_quiet (fail)
          go_wp2_with fail
          go_quiet (fail)
          go_wp2
          go_ret
          exact ⟨ret_int hv.out.symm, below_drewN (below_drewN hBw _) _⟩
        · have hv : Hid (cmpL (a.drop (k + 1)) (b.drop (k + 1)) = ordI s t) := by show _ = _; rw [← HN.out, HS.out]; simp [cmp3, hxy, hyx]
          go_wp2_with fail
          go_quiet (fail)
          go_wp2_with fail
          go_quiet (fail)
          go_wp2
          exact ⟨⟨k + 1, by omega, by omega, by go_num, below_drewN hBr _, hv⟩, by simp [RowKit.intOf]; omega⟩
    · have hv : Hid (ordI s t = cmp3 a.length b.length) := by show _ = _; rw [← HN.out, cmpL_end a b k hlt hka hkb]
      by_cases h1 : k < a.length
      · have h2 : ¬ k < b.length := fun e => hlt ⟨h1, e⟩
        have hab : ¬ (a.length : Int) < (b.length : Int) := by omega
        have hba : (b.length : Int) < (a.length : Int) := by omega
        go_wp2
        go_ret
        exact ⟨ret_int (by rw [hv.out]; unfold cmp3; rw [if_neg (by omega), if_pos (by omega)]), hBw⟩
      · by_cases h2 : k < b.length
        · have hab : (a.length : Int) < (b.length : Int) := by omega
          go_wp2
          go_ret
          exact ⟨ret_int (by rw [hv.out]; unfold cmp3; rw [if_pos (by omega)]), hBw⟩
        · have hab : ¬ (a.length : Int) < (b.length : Int) := by omega
          have hba : ¬ (b.length : Int) < (a.length : Int) := by omega
          go_wp2
          go_ret
          exact ⟨ret_int (by rw [hv.out]; unfold cmp3; rw [if_neg (by omega), if_neg (by omega)]), hBw⟩
end Go.Proofs.YtlbmijcpalfaeaaGreatDoor

set_option linter.unusedSimpArgs false
set_option linter.unusedVariables false
namespace Go.Proofs.YtlbmijcpalfaeaaGreatDoor
open Go.RowKit Go.Lib

theorem cmp3_lt {a b : Int} (h : a < b) : cmp3 a b = -1 := by unfold cmp3; rw [if_pos h]
theorem cmp3_gt {a b : Int} (h : b < a) : cmp3 a b = 1 := by unfold cmp3; rw [if_neg (by omega), if_pos h]

set_option maxHeartbeats 2000000 in
theorem heads_any (x y : Nd) (v3 u3 : Value) (va ua : Option Addr) (vn vc un uc : Nat) (hv : v3 = .slice va vn vc) (hu : u3 = .slice ua un uc) (w : World) (hs : x.name.size ≤ 64) (ht : y.name.size ≤ 64) :
    Calls Tryz.prog 95 #[.agg #[.int .i64 x.op, .int .i64 x.n, .string x.name, v3], .agg #[.int .i64 y.op, .int .i64 y.n, .string y.name, u3]] w fun e w' => e = .returned (.int .i64 (heads x y)) ∧ Below w.heap.size w w' := by
  subst hv
  subst hu
  obtain ⟨op, n, nm, ks⟩ := x
  obtain ⟨oq, m, nn, ls⟩ := y
  simp only at hs ht
  have HH : Hid (heads ⟨op, n, nm, ks⟩ ⟨oq, m, nn, ls⟩ = if cmp3 op oq = 0 then (if cmp3 n m = 0 then orL [ordI nm nn] else cmp3 n m) else cmp3 op oq) := rfl
  generalize heads ⟨op, n, nm, ks⟩ ⟨oq, m, nn, ls⟩ = R at *
  have hor : Hid (orL [ordI nm nn] = ordI nm nn) := by
    show orL [ordI nm nn] = ordI nm nn
    unfold orL orL; split <;> omega
  have cO : Hid (∀ W, Calls Tryz.prog 107 #[.string nm, .string nn] W fun e w' => e = .returned (.int .i64 (ordI nm nn)) ∧ Below W.heap.size W w') := fun W => refOrder_any nm nn W (by omega) (by omega)
  have hW : Below w.heap.size w ((w.alloc (.cells #[.int .i64 op, .int .i64 n, .string nm, .slice va vn vc] 41)).alloc (.cells #[.int .i64 oq, .int .i64 m, .string nn, .slice ua un uc] 41)) := ((Below.refl _ _).alloc (Nat.le_refl _) _).alloc (by simp) _
  have HW : Hid (Below w.heap.size w ((w.alloc (.cells #[.int .i64 op, .int .i64 n, .string nm, .slice va vn vc] 41)).alloc (.cells #[.int .i64 oq, .int .i64 m, .string nn, .slice ua un uc] 41))) := hW
  clear hW
  rcases Int.lt_trichotomy op oq with h | h | h
  · have HR : Hid (R = -1) := by rw [Hid]; rw [HH.out, cmp3_lt h]; rfl
    clear HH
    go_enter Tryz.func95, Tryz.ntmps95
    go_wp2
    go_ret
    exact ⟨congrArg (fun z => Ending.returned (.int .i64 z)) HR.out.symm, HW.out⟩
  · subst h
    rcases Int.lt_trichotomy n m with h | h | h
    · have HR : Hid (R = -1) := by rw [Hid]; rw [HH.out, cmp3_self, if_pos rfl, cmp3_lt h]; rfl
      clear HH
      go_enter Tryz.func95, Tryz.ntmps95
      go_wp2
      go_ret
      exact ⟨congrArg (fun z => Ending.returned (.int .i64 z)) HR.out.symm, HW.out⟩
    · subst h
      have HR : Hid (R = ordI nm nn) := by rw [Hid]; rw [HH.out, cmp3_self, if_pos rfl, cmp3_self, if_pos rfl, hor.out]
      clear HH
      go_enter Tryz.func95, Tryz.ntmps95
      go_wp2_with (first | (go_at_call 107; refine (cO.out _).mono ?_; rintro e w2 ⟨rfl, hb2⟩))
      go_ret
      exact ⟨congrArg (fun z => Ending.returned (.int .i64 z)) HR.out.symm, HW.out.trans (hb2.mono HW.out.size)⟩
    · have HR : Hid (R = 1) := by rw [Hid]; rw [HH.out, cmp3_self, if_pos rfl, cmp3_gt h]; rfl
      clear HH
      go_enter Tryz.func95, Tryz.ntmps95
      go_wp2
      go_ret
      exact ⟨congrArg (fun z => Ending.returned (.int .i64 z)) HR.out.symm, HW.out⟩
  · have HR : Hid (R = 1) := by rw [Hid]; rw [HH.out, cmp3_gt h]; rfl
    clear HH
    go_enter Tryz.func95, Tryz.ntmps95
    go_wp2
    go_ret
    exact ⟨congrArg (fun z => Ending.returned (.int .i64 z)) HR.out.symm, HW.out⟩
end Go.Proofs.YtlbmijcpalfaeaaGreatDoor
