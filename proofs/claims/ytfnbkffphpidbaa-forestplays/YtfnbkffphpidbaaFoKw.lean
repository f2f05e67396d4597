/-
  ForestKeeps, walked.
-/
import Derived.Test.YtfnbkffphpidbaaFoBk
import Derived.Test.YtfnbkffphpidbaaFoWy
set_option linter.unusedSimpArgs false
set_option linter.unusedVariables false
namespace Go.Proofs.Ytfnbkffphpidbaa
open Go.RowKit Go.Lib

theorem pathE_zero {m : List Mv} {a b : Int} (h : pathE m a b = 0) : hasB m a = true ∧ hasB m b = true := by
  unfold pathE at h
  split at h
  · next hh => rw [Bool.and_eq_true] at hh; exact hh
  · cases h
theorem path_len {J : List (Nat × Nat)} {V : List Value} {m : List Mv} {a b : Int} {P : List Ed} (hi : FoI J V m) (hle : m.length ≤ 1048576) (h0 : pathE m a b ≠ 0 → P = []) (h1 : pathE m a b = 0 → Pa J a.toNat P b.toNat) : P.length ≤ 1048576 := by
  by_cases hz : pathE m a b = 0
  · obtain ⟨x, rfl, hx⟩ := hasB_iff.1 (pathE_zero hz).1
    have := hi.short (h1 hz) (by simpa using hx)
    omega
  · rw [h0 hz]; simp
theorem path_one {J : List (Nat × Nat)} {V : List Value} {m : List Mv} {a b : Int} {P Q : List Ed} (hi : FoI J V m) (h0 : pathE m a b ≠ 0 → P = []) (h1 : pathE m a b = 0 → Pa J a.toNat P b.toNat) (k0 : pathE m a b ≠ 0 → Q = []) (k1 : pathE m a b = 0 → Pa J a.toNat Q b.toNat) : Q = P := by
  by_cases hz : pathE m a b = 0
  · exact hi.fst.uniq _ _ _ _ (k1 hz) (h1 hz)
  · rw [h0 hz, k0 hz]
theorem gpL_len (m : List Mv) (a : Int) (hle : m.length ≤ 1048576) : (gpL m a).length ≤ 1048576 := by
  unfold gpL
  split
  · have := grpL_le m a.toNat; omega
  · simp

/-- What lies outside of lo to hi is kept. -/
structure KpB (lo hi : Nat) (w w' : World) : Prop where
  os : w'.os = w.os
  tape : w'.tape = w.tape
  output : w'.output = w.output
  size : w.heap.size ≤ w'.heap.size
  block : ∀ b, b < w.heap.size → (b < lo ∨ hi ≤ b) → w'.heap[b]? = w.heap[b]?
theorem KpB.refl (lo hi : Nat) (w : World) : KpB lo hi w w := ⟨rfl, rfl, rfl, Nat.le_refl _, fun _ _ _ => rfl⟩
theorem KpB.trans {lo hi : Nat} {w w' w'' : World} (h : KpB lo hi w w') (k : KpB lo hi w' w'') : KpB lo hi w w'' :=
  ⟨k.os.trans h.os, k.tape.trans h.tape, k.output.trans h.output, Nat.le_trans h.size k.size, fun b h1 h2 => (k.block b (Nat.lt_of_lt_of_le h1 h.size) h2).trans (h.block b h1 h2)⟩
theorem KpB.of {lo hi : Nat} {w w' : World} (h : Below w.heap.size w w') : KpB lo hi w w' := ⟨h.os, h.tape, h.output, h.size, fun b h1 _ => h.block b h1⟩
theorem KpB.below {lo hi : Nat} {w w' : World} (h : KpB lo hi w w') (hl : lo ≤ w.heap.size) : Below lo w w' := ⟨h.os, h.tape, h.output, h.size, fun b h1 => h.block b (by omega) (.inl h1)⟩
theorem KpB.grown {lo hi : Nat} {w w' : World} {r : Option Nat} (h : w.grownBy w' r) (hr : ∀ b, r = some b → lo ≤ b ∧ b < hi) : KpB lo hi w w' := ⟨h.os, h.tape, h.output, h.size, fun b h1 h2 => h.block b h1 (fun e => by have := hr b e.symm; omega)⟩
theorem KpB.mono {lo hi lo' hi' : Nat} {w w' : World} (h : KpB lo hi w w') (h1 : lo' ≤ lo) (h2 : hi ≤ hi') : KpB lo' hi' w w' := ⟨h.os, h.tape, h.output, h.size, fun b h3 h4 => h.block b h3 (by omega)⟩
theorem KpB.set4 {lo hi g i0 i1 i2 i3 : Nat} {u0 u1 u2 u3 : Value} {w : World} (h1 : lo ≤ g) (h2 : g < hi) : KpB lo hi w ((((w.setCell ⟨g, i0, none⟩ u0).setCell ⟨g, i1, none⟩ u1).setCell ⟨g, i2, none⟩ u2).setCell ⟨g, i3, none⟩ u3) := by
  have hB : Below g w ((((w.setCell ⟨g, i0, none⟩ u0).setCell ⟨g, i1, none⟩ u1).setCell ⟨g, i2, none⟩ u2).setCell ⟨g, i3, none⟩ u3) := by
    exact ((((Below.refl g w).setCell (p := ⟨g, i0, none⟩) (Nat.le_refl g) _).setCell (p := ⟨g, i1, none⟩) (Nat.le_refl g) _).setCell (p := ⟨g, i2, none⟩) (Nat.le_refl g) _).setCell (p := ⟨g, i3, none⟩) (Nat.le_refl g) _
  exact ⟨hB.os, hB.tape, hB.output, hB.size, fun b h3 h4 => set4_other (by omega)⟩
theorem own_base {w : World} {base base' : Nat} {e : TypeId} {size n : Nat} {v : Value} {xs : List Value} (h : w.ownsRow base e size v n xs) (hb : base' ≤ base) : w.ownsRow base' e size v n xs := by
  refine ⟨h.1, ?_⟩
  rcases h.2 with h2 | ⟨g, cap, cur, h3, hb3, hg⟩
  · exact .inl h2
  · exact .inr ⟨g, cap, cur, h3, Nat.le_trans hb hb3, hg⟩
theorem own_kpb {w w' : World} {lo hi base : Nat} {e : TypeId} {size n : Nat} {v : Value} {xs : List Value} (h : w.ownsRow base e size v n xs) (hk : KpB lo hi w w') (hb : hi ≤ base ∨ ∀ b, v.ownBlock = some b → b < lo ∨ hi ≤ b) : w'.ownsRow base e size v n xs :=
  rw_same h (fun b hb' => hk.block b (rw_block h hb').2.1 (by rcases hb with h1 | h1; exact .inr (Nat.le_trans h1 (rw_block h hb').1); exact h1 b hb'))
theorem cell_news4k (w : World) (a b c d : Value) (t : TypeId) : ∀ j u, [a, b, c, d][j]? = some u → (w.alloc (.cells #[a, b, c, d] t)).cell? ((⟨w.heap.size, 0, none⟩ : Addr).add j) = some u := by
  intro j u hj
  match j, hj with
  | 0, hj => simp at hj; subst hj; simp [Addr.add]
  | 1, hj => simp at hj; subst hj; simp [Addr.add]
  | 2, hj => simp at hj; subst hj; simp [Addr.add]
  | 3, hj => simp at hj; subst hj; simp [Addr.add]

set_option maxRecDepth 20000 in
set_option maxHeartbeats 8000000 in
theorem forestKeeps_walk (ao : Option Addr) (cap : Nat) (l : List Cl9) (a b : Int) (w : World) (hS : Scr w ao cap l) (hbig : l.length * 32 ≤ 140737488351232) :
    Calls Try.prog 7 #[.slice ao l.length cap, .int .i64 a, .int .i64 b] w fun e w' => e = .returned (.bool true) ∧ Below w.heap.size w w' := by
  obtain ⟨i0, hi, hz0, hz1, hz2⟩ := info_parts Try.infoEg
  have HS : Hid (Scr w ao cap l) := hS
  have cG : Hid (Calls Try.prog 12 #[.slice ao l.length cap] w fun e w' => e = .returned (.pointer (some ⟨w.heap.size, 0, none⟩)) ∧ FoX w' w.heap.size ∧ Below w.heap.size w w') := grown_any ao cap l w hS
  clear hS
  go_enter Try.func7, Try.ntmps7
  go_wp2_with fail
  refine cG.out.mono ?_
  rintro e w1 ⟨rfl, ⟨v, J, V, m, hF1⟩, hB1⟩
  have HS1 : Hid (Scr w1 ao cap l) := HS.out.below hB1
  obtain ⟨p, hp⟩ : ∃ p, w.heap.size = p := ⟨_, rfl⟩
  have HP : Hid (w.heap.size = p) := hp
  rw [hp] at hF1 hB1 ⊢
  have HF1 : Hid (Fo w1 p v J V m) := hF1
  have HB1 : Hid (Below p w w1) := hB1
  have hpo := hF1.fo.lt
  have hle := hF1.fo.le
  have cG2 : Hid (Calls Try.prog 12 #[.slice ao l.length cap] w1 fun e w' => e = .returned (.pointer (some ⟨w1.heap.size, 0, none⟩)) ∧ FoX w' w1.heap.size ∧ Below w1.heap.size w1 w') := grown_any ao cap l w1 HS1.out
  have HVB : Hid (∀ c, v.ownBlock = some c → c < w1.heap.size) := fun c hc => (rw_block hF1.fo.on hc).2.1
  clear hF1 hB1 hp cG HS
  go_wp2_with fail
  refine cG2.out.mono ?_
  rintro e w2 ⟨rfl, ⟨vo, Jo, Vo, mo, hF2⟩, hB2⟩
  have HF2 : Hid (Fo w2 p v J V m) := HF1.out.below hB2
  have HB2 : Hid (Below p w w2) := HB1.out.trans (hB2.mono (by omega))
  obtain ⟨o, ho⟩ : ∃ o, w1.heap.size = o := ⟨_, rfl⟩
  have HO : Hid (w1.heap.size = o) := ho
  rw [ho] at hF2 HVB hpo ⊢
  have HG2 : Hid (Fo w2 o vo Jo Vo mo) := hF2
  clear hF2 hB2 ho cG2 HS1 HF1 HB1
  go_wp2_with fail
  refine (awake9_any w2).mono ?_
  rintro e w3 ⟨rfl, hb3⟩
  have HF3 : Hid (Fo w3 p v J V m) := HF2.out.below hb3
  have HG3 : Hid (Fo w3 o vo Jo Vo mo) := HG2.out.below hb3
  have HB3 : Hid (Below p w w3) := HB2.out.trans (hb3.mono (by have := HG2.out.fo.lt; omega))
  have ho3 := HG3.out.fo.lt
  have hleo := HG3.out.fo.le
  clear hb3 HF2 HG2 HB2
  go_wp2_with fail
  refine (fogroup HF3.out a).mono ?_
  rintro e w4 ⟨u4, rfl, hO4, hB4⟩
  obtain ⟨a4, c4, rfl⟩ := hO4.form
  have HO4 : Hid (OwnZ w4 w3.heap.size (.slice a4 (gpL m a).length c4) (gpL m a)) := hO4
  have HB4 : Hid (Below w3.heap.size w3 w4) := hB4
  have hz4 := hB4.size
  clear hO4 hB4
  go_wp2_with fail
  refine (fogroup (HF3.out.below HB4.out) a).mono ?_
  rintro e w5 ⟨u5, rfl, hO5, hB5⟩
  obtain ⟨a5, c5, rfl⟩ := hO5.form
  have HO5 : Hid (OwnZ w5 w4.heap.size (.slice a5 (gpL m a).length c5) (gpL m a)) := hO5
  have HB5 : Hid (Below w4.heap.size w4 w5) := hB5
  have hz5 := hB5.size
  have HF5 : Hid (Fo w5 p v J V m) := (HF3.out.below HB4.out).below hB5
  clear hO5 hB5
  go_wp2_with fail
  refine (fopath HF5.out a b).mono ?_
  rintro e w6 ⟨P, pa, pc, rfl, hO6, hB6, hn6, hp6⟩
  have HO6 : Hid (OwnE w6 w5.heap.size (.slice pa P.length pc) (P.map (cz J V))) := hO6
  have HB6 : Hid (Below w5.heap.size w5 w6) := hB6
  have HN6 : Hid (pathE m a b ≠ 0 → P = []) := hn6
  have HP6 : Hid (pathE m a b = 0 → Pa J a.toNat P b.toNat) := hp6
  have hz6 := hB6.size
  have hPl := path_len HF5.out.inv hle hn6 hp6
  have HF6 : Hid (Fo w6 p v J V m) := HF5.out.below hB6
  clear hO6 hB6 hn6 hp6
  go_wp2_with fail
  refine (fopath HF6.out a b).mono ?_
  rintro e w7 ⟨Q, qa, qc, rfl, hO7, hB7, hn7, hp7⟩
  obtain rfl : Q = P := path_one HF5.out.inv HN6.out HP6.out hn7 hp7
  have HO7 : Hid (OwnE w7 w6.heap.size (.slice qa Q.length qc) (Q.map (cz J V))) := hO7
  have HB7 : Hid (Below w6.heap.size w6 w7) := hB7
  have hz7 := hB7.size
  have HB37 : Hid (Below w3.heap.size w3 w7) := ((HB4.out.trans (HB5.out.mono hz4)).trans (HB6.out.mono (by omega))).trans (HB7.out.mono (by omega))
  have HR4 : Hid (OwnZ w7 w3.heap.size (.slice a4 (gpL m a).length c4) (gpL m a)) := HO4.out.below ((HB5.out.trans (HB6.out.mono hz5)).trans (HB7.out.mono (by omega)))
  have HR5 : Hid (OwnZ w7 w3.heap.size (.slice a5 (gpL m a).length c5) (gpL m a)) := own_base (HO5.out.below (HB6.out.trans (HB7.out.mono hz6))) hz4
  have HL4 : Hid (Lies a4 w3.heap.size w4.heap.size) := liesZ HO4.out
  have HL5 : Hid (Lies a5 w4.heap.size w5.heap.size) := liesZ HO5.out
  have HLP : Hid (Lies pa w5.heap.size w6.heap.size) := liesE HO6.out
  have HLQ : Hid (Lies qa w6.heap.size w7.heap.size) := liesE HO7.out
  have HRP : Hid (OwnE w7 w5.heap.size (.slice pa Q.length pc) (Q.map (cz J V))) := HO6.out.below HB7.out
  have hGl := gpL_len m a hle
  clear hO7 hB7 hn7 hp7 HO4 HO5 HO6 HB4 HB5 HB6 HB7 HF5 HF6
  obtain ⟨L, hL⟩ : ∃ L, Q.length = L := ⟨_, rfl⟩
  have HLE : Hid (Q.length = L) := hL
  have HRP1 : Hid (w7.ownsRow w5.heap.size 44 4 (.slice pa L pc) L (egCells (Q.map (cz J V)))) := by
    have := HRP.out
    unfold OwnE at this
    rw [List.length_map, hL] at this
    exact this
  rw [hL] at hPl ⊢
  clear hL HRP
  have hLL : ((L : Int) == (L : Int)) = true := by simp
  go_wp2_with fail
  go_loopw [18] (fun i wr => ∃ k : Nat, k ≤ L ∧ i = .int .i64 k ∧ (∃ xs, wr.ownsRow w5.heap.size 44 4 (.slice pa L pc) L xs) ∧ KpB w5.heap.size w6.heap.size w7 wr ∧ wr.heap.size = w7.heap.size) (fun i _ => L - (RowKit.intOf i).toNat)
  case atStart => exact ⟨0, by omega, rfl, ⟨_, HRP1.out⟩, KpB.refl _ _ _, rfl⟩
  case round =>
    obtain ⟨k, hk, rfl, ⟨xs, hrow⟩, hKr, hszr⟩ := hrel
    have HKr : Hid (KpB w5.heap.size w6.heap.size w7 wr) := hKr
    clear hKr
    by_cases hlt : k < L
    · have hltI : (k : Int) < (L : Int) := by omega
      obtain ⟨g, cg, e1, hg1, hg2⟩ := rw_some hrow (by omega)
      injection e1 with e1 _ e2
      subst e1 e2
      have hcap : L ≤ pc ∧ pc ≤ 9223372036854775807 := by
        rcases hrow.2 with ⟨h2, _⟩ | ⟨g', cap', cur, h3, hb, hg, hn, hm, hs, ht⟩
        · cases h2
        · cases h3; exact ⟨hn, hm⟩
      obtain ⟨hc1, hc2⟩ := hcap
      obtain ⟨t0, r0, _⟩ := rw_cell hrow (i := k * 4) (by omega)
      obtain ⟨t1, r1, _⟩ := rw_cell hrow (i := k * 4 + 1) (by omega)
      obtain ⟨t2, r2, _⟩ := rw_cell hrow (i := k * 4 + 2) (by omega)
      obtain ⟨t3, r3, _⟩ := rw_cell hrow (i := k * 4 + 3) (by omega)
      have s0 := rw_fro hrow (k * 4)
      have s1 := rw_fro hrow (k * 4 + 1)
      have s2 := rw_fro hrow (k * 4 + 2)
      have s3 := rw_fro hrow (k * 4 + 3)
      have hgr := HLP.out ⟨g, 0, none⟩ rfl
      have HR : Hid (wr.ownsRow w5.heap.size 44 4 (.slice (some ⟨g, 0, none⟩) L pc) L xs) := hrow
      clear hrow
      go_wp2_with fail
      exact ⟨⟨k + 1, by omega, by go_num, ⟨_, rw_put (rw_put (rw_put (rw_put HR.out _ _) _ _) _ _) _ _⟩, HKr.out.trans (KpB.set4 hgr.1 hgr.2), by simp [hszr]⟩, by simp [RowKit.intOf]; omega⟩
    · have hke : k = L := by omega
      subst hke
      clear HRP1 hlt hk
      go_wp2_with (at_builtin; refine wpList_append_lies _ rfl (.tmp 84) (.tmp 86) 36 rfl w5.heap.size 44 i0 (.agg #[.int .i64 0, .int .i64 0, .nilIface, .bool false]) 4 40 Try.underlying36 hi hz0 hz1 hz2 rfl (by decide) _ _ _ (by simp [Act.eval, Act.put]) (hrow.alloc _) ⟨wr.heap.size, 0, none⟩ 1 1 [.int .i64 (-8), .int .i64 0, .nilIface, .bool false] (by simp [Act.eval, Act.put]) rfl (cell_news4k _ _ _ _ _ _) (by simp [Value.oneCell']) (by omega) (by unfold maxLen; omega) (by omega) (by simp; omega) _ rfl ?_; intro g8 cap8 w8 hown8 hg8 hat8 hl8; have HK8 : Hid (KpB w5.heap.size w6.heap.size w7 w8) := (HKr.out.trans (KpB.of ((Below.refl _ _).alloc (Nat.le_refl _) _))).trans (KpB.grown hg8 (fun c hc => by have := own_blk.1 hc; obtain ⟨ad, h1, h2⟩ := this; have := HLP.out ad h1; omega)); clear hown8 hat8 hl8)
      have HQ8 : Hid (OwnE w8 w6.heap.size (.slice qa Q.length qc) (Q.map (cz J V))) := own_kpb HO7.out HK8.out (.inl (Nat.le_refl _))
      go_loopw [17, 19] (fun sm i wk => ∃ t : Nat, t ≤ k ∧ sm = .bool true ∧ i = .int .i64 t ∧ wk = w8) (fun _ i _ => k - (RowKit.intOf i).toNat)
      case atStart => exact ⟨0, by omega, rfl, rfl, rfl⟩
      case round =>
        obtain ⟨t, ht, rfl, rfl, hwk⟩ := hrel
        have hwk' := hwk.symm
        subst hwk'
        by_cases hlt : t < k
        · have hltI : (t : Int) < (k : Int) := by omega
          obtain ⟨g, hqa, hgb, hgl, hcn, hcm, hcells⟩ := OwnE.cells HQ8.out (by have := HLE.out; omega)
          subst hqa
          rw [HLE.out] at hcn
          unfold maxLen at hcm
          have c0 := (hcells t (by rw [HLE.out]; exact hlt)).c0
          obtain ⟨y, hy⟩ : ∃ y, (cz J V (Q.getD t (0, false))).f = y := ⟨_, rfl⟩
          rw [hy] at c0
          have hy0 : (y : Int) ≥ 0 := by omega
          clear hcells hy
          go_wp2_with fail
          exact ⟨⟨t + 1, by omega, by trivial, by go_num, by trivial⟩, by simp [RowKit.intOf]; omega⟩
        · have hte : t = k := by omega
          subst hte
          clear hlt ht
          obtain ⟨G, hG⟩ : ∃ G, gpL m a = G := ⟨_, rfl⟩
          rw [hG] at HR4 HR5 hGl ⊢
          have HR48 : Hid (OwnZ w8 w3.heap.size (.slice a4 G.length c4) G) := own_kpb HR4.out HK8.out (.inr fun c hc => by
            obtain ⟨ad, h1, h2⟩ := own_blk.1 hc
            have := HL4.out ad h1
            left; omega)
          have HR58 : Hid (OwnZ w8 w3.heap.size (.slice a5 G.length c5) G) := own_kpb HR5.out HK8.out (.inr fun c hc => by
            obtain ⟨ad, h1, h2⟩ := own_blk.1 hc
            have := HL5.out ad h1
            left; omega)
          have hz8 := HK8.out.size
          obtain ⟨W, hW⟩ : ∃ W, (w8.alloc (.cells #[.slice a4 G.length c4, .slice a5 G.length c5] 46)).alloc (.cells #[.slice none 0 0, .slice (some ⟨w8.heap.size, 0, none⟩) 2 2, .slice none 0 0, .slice none 0 0, .slice none 0 0, .slice none 0 0] 61) = W := ⟨_, rfl⟩
          have HBW : Hid (Below w8.heap.size w8 W) := by
            rw [← hW]
            exact ((Below.refl _ _).alloc (Nat.le_refl _) _).alloc (by rw [World.size_alloc]; omega) _
          have HWS : Hid (W.heap.size = w8.heap.size + 2) := by
            rw [← hW, Hid, World.size_alloc, World.size_alloc]
          have HWB : Hid (W.heap[w8.heap.size]? = some (.cells #[.slice a4 G.length c4, .slice a5 G.length c5] 46 (0, 0))) := by
            rw [← hW, Hid, Deep.blk_alloc_lt _ _ _ (by rw [World.size_alloc]; omega)]; exact Deep.blk_alloc_new _ _
          have HWQ : Hid (W.heap[w8.heap.size + 1]? = some (.cells #[.slice none 0 0, .slice (some ⟨w8.heap.size, 0, none⟩) 2 2, .slice none 0 0, .slice none 0 0, .slice none 0 0, .slice none 0 0] 61 (0, 0))) := by
            rw [← hW, Hid, ← World.size_alloc w8 (.cells #[.slice a4 G.length c4, .slice a5 G.length c5] 46)]; exact Deep.blk_alloc_new _ _
          have hkk : ((t : Int) + 1 == (t : Int) + 1) = true := by simp
          have HW : Hid ((w8.alloc (.cells #[.slice a4 G.length c4, .slice a5 G.length c5] 46)).alloc (.cells #[.slice none 0 0, .slice (some ⟨w8.heap.size, 0, none⟩) 2 2, .slice none 0 0, .slice none 0 0, .slice none 0 0, .slice none 0 0] 61) = W) := hW
          clear hG HR4 HR5 hW
          go_wp2_with fail
          rw [HW.out]
          refine (sameZ_any a4 a5 c4 c5 G W w3.heap.size w3.heap.size (HR48.out.below HBW.out) (HR58.out.below HBW.out)).mono ?_
          rintro e w9 ⟨rfl, n9, rfl⟩
          clear HW
          go_wp2_with fail
          refine (book2 w8 w3.heap.size a4 a5 c4 c5 G G w3.heap.size w4.heap.size w5.heap.size HR48.out HR58.out HL4.out HL5.out (by omega) hz4 hz5 (by omega) (by omega) (by omega) (W.drewN n9) HWS.out (HBW.out.trans ((below_drew W n9).mono HBW.out.size)) HWB.out HWQ.out).mono ?_
          rintro e w10 ⟨rfl, hb10, ho10⟩
          have HKA : Hid (KpB w3.heap.size w6.heap.size w7 w10) := (HK8.out.mono (by omega) (Nat.le_refl _)).trans ((⟨hb10.os, hb10.tape, hb10.output, hb10.size, ho10⟩ : KpB w3.heap.size w5.heap.size w8 w10).mono (Nat.le_refl _) hz6)
          have HB310 : Hid (Below w3.heap.size w3 w10) := HB37.out.trans (HKA.out.below (by omega))
          have HFA : Hid (Fo w10 p v J V m) := HF3.out.below HB310.out
          have HGA : Hid (Fo w10 o vo Jo Vo mo) := HG3.out.below HB310.out
          have HQA : Hid (OwnE w10 w6.heap.size (.slice qa Q.length qc) (Q.map (cz J V))) := own_kpb HO7.out HKA.out (.inl (Nat.le_refl _))
          have hzA := HB310.out.size
          clear hb10 ho10 HBW HWS HWB HWQ HR48 HR58 HK8 HKr HQ8 HO7 HKA
          go_wp2_with fail
          refine (fopath HFA.out a b).mono ?_
          rintro e w11 ⟨R, ra, rc, rfl, hO11, hB11, hn11, hp11⟩
          obtain rfl : R = Q := path_one HFA.out.inv HN6.out HP6.out hn11 hp11
          have HOR : Hid (OwnE w11 w10.heap.size (.slice ra R.length rc) (R.map (cz J V))) := hO11
          have HOQ : Hid (OwnE w11 w6.heap.size (.slice qa R.length qc) (R.map (cz J V))) := HQA.out.below hB11
          have HB11 : Hid (Below w10.heap.size w10 w11) := hB11
          have HFB : Hid (Fo w11 p v J V m) := HFA.out.below hB11
          have HGB : Hid (Fo w11 o vo Jo Vo mo) := HGA.out.below hB11
          have hzB := hB11.size
          rw [HLE.out]
          clear hO11 hB11 hn11 hp11 HFA HGA HQA
          go_wp2_with fail
          go_loopw [23] (fun i wk => ∃ s : Nat, s ≤ t ∧ i = .int .i64 s ∧ ∃ n, wk = w11.drewN n) (fun i _ => t - (RowKit.intOf i).toNat)
          case atStart => exact ⟨0, by omega, rfl, 0, rfl⟩
          case round =>
            obtain ⟨s, hs, rfl, n, rfl⟩ := hrel
            by_cases hlt : s < t
            · have hltI : (s : Int) < (t : Int) := by omega
              have hlR : s < R.length := by rw [HLE.out]; exact hlt
              obtain ⟨g, hra, hgb, hgl, hcn, hcm, hcells⟩ := OwnE.cells HOR.out (by omega)
              obtain ⟨q, hqa, hqb, hql, hqn, hqm, hqells⟩ := OwnE.cells HOQ.out (by omega)
              subst hra hqa
              rw [HLE.out] at hcn hqn
              unfold maxLen at hcm hqm
              have c0 : ∀ n, (w11.drewN n).cell? ⟨g, s * 4, none⟩ = _ := fun n => (hcells s hlR).c0
              have c1 : ∀ n, (w11.drewN n).cell? ⟨g, s * 4 + 1, none⟩ = _ := fun n => (hcells s hlR).c1
              have d0 : ∀ n, (w11.drewN n).cell? ⟨q, s * 4, none⟩ = _ := fun n => (hqells s hlR).c0
              have d1 : ∀ n, (w11.drewN n).cell? ⟨q, s * 4 + 1, none⟩ = _ := fun n => (hqells s hlR).c1
              obtain ⟨y, hy⟩ : ∃ y, (cz J V (R.getD s (0, false))).f = y := ⟨_, rfl⟩
              obtain ⟨z, hz⟩ : ∃ z, (cz J V (R.getD s (0, false))).t = z := ⟨_, rfl⟩
              rw [hy] at c0 d0
              rw [hz] at c1 d1
              have hyy : ((y : Int) == (y : Int)) = true := by simp
              have hzz : ((z : Int) == (z : Int)) = true := by simp
              clear hcells hqells hy hz
              go_wp2_with fail
              go_quiet (fail)
              go_wp2_with fail
              exact ⟨⟨s + 1, by omega, by go_num, _, rfl⟩, by simp [RowKit.intOf]; omega⟩
            · have hse : s = t := by omega
              subst hse
              have HB12 : Hid (Below w11.heap.size w11 (w11.drewN n)) := below_drew w11 n
              have HFC : Hid (Fo (w11.drewN n) p v J V m) := HFB.out.below HB12.out
              have HGC : Hid (Fo (w11.drewN n) o vo Jo Vo mo) := HGB.out.below HB12.out
              have HBC : Hid (Below p w (w11.drewN n)) := (HB3.out.trans (HB310.out.mono (by omega))).trans ((HB11.out.trans (HB12.out.mono hzB)).mono (by omega))
              have hzC : o < (w11.drewN n).heap.size := HGC.out.fo.lt
              generalize w11.drewN n = w12 at *
              clear HB12 HFB HGB HOR HOQ hlt hs
              go_wp2_with fail
              refine (flen_any w12 o vo mo HGC.out.fo).mono ?_
              rintro e w' ⟨rfl, hw⟩
              obtain rfl := hw.symm
              go_wp2_with fail
              refine (fogroup HGC.out a).mono ?_
              rintro e w13 ⟨u13, rfl, hO13, hB13⟩
              obtain ⟨xa, xc, rfl⟩ := hO13.form
              have HX13 : Hid (OwnZ w13 w12.heap.size (.slice xa (gpL mo a).length xc) (gpL mo a)) := hO13
              have HF13 : Hid (Fo w13 p v J V m) := HFC.out.below hB13
              have HG13 : Hid (Fo w13 o vo Jo Vo mo) := HGC.out.below hB13
              have HB13 : Hid (Below p w w13) := HBC.out.trans (hB13.mono (by omega))
              have hz13 := hB13.size
              clear hO13 hB13 HFC HGC HBC
              go_wp2_with fail
              refine (foadd HF13.out).mono ?_
              rintro e w14 ⟨rfl, v', hT14, hF14⟩
              have HF14 : Hid (Fo w14 p v' J V (addM m)) := hF14
              have A1 : ∀ c, o ≤ c → v.ownBlock ≠ some c := fun c hc e => by have := HVB.out c e; omega
              have A2 : ∀ c, o ≤ c → c < w13.heap.size → v'.ownBlock ≠ some c := fun c h1 h2 e => by
                rcases hT14.yo c e with h | h
                · exact A1 c h1 h
                · omega
              have hvo : ∀ c, vo.ownBlock = some c → o + 1 ≤ c ∧ c < w13.heap.size := fun c hc => ⟨(rw_block HG13.out.fo.on hc).1, (rw_block HG13.out.fo.on hc).2.1⟩
              have hxo : ∀ c, (Value.slice xa (gpL mo a).length xc).ownBlock = some c → w12.heap.size ≤ c ∧ c < w13.heap.size := fun c hc => ⟨(rw_block HX13.out hc).1, (rw_block HX13.out hc).2.1⟩
              have HG14 : Hid (Fo w14 o vo Jo Vo mo) := HG13.out.aside hT14.ko (by omega) (A1 o (Nat.le_refl _)) (fun c hc => by have := hvo c hc; exact ⟨by omega, A1 c (by omega)⟩)
              have HX14 : Hid (OwnZ w14 w12.heap.size (.slice xa (gpL mo a).length xc) (gpL mo a)) := own_aside HX13.out hT14.ko (fun c hc => by have := hxo c hc; exact ⟨by omega, A1 c (by omega)⟩)
              have HB14 : Hid (Below p w w14) := HB13.out.trans hT14.below
              have HA2 : Hid (∀ c, o ≤ c → c < w13.heap.size → v'.ownBlock ≠ some c) := A2
              have HVO : Hid (∀ c, vo.ownBlock = some c → o + 1 ≤ c ∧ c < w13.heap.size) := hvo
              have HXO : Hid (∀ c, (Value.slice xa (gpL mo a).length xc).ownBlock = some c → w12.heap.size ≤ c ∧ c < w13.heap.size) := hxo
              clear hT14 hF14 A1 A2 hvo hxo HF13 HG13 HX13 HB13 HVB
              go_wp2_with fail
              refine (fojoin HF14.out a b (u := .iface 3 (.int .i64 1)) (.inr ⟨_, _, rfl⟩)).mono ?_
              rintro e w15 ⟨rfl, m', hT15, _, _, _⟩
              have HG15 : Hid (Fo w15 o vo Jo Vo mo) := HG14.out.aside hT15.ko (by omega) (HA2.out o (Nat.le_refl _) (by omega)) (fun c hc => by have := HVO.out c hc; exact ⟨by omega, HA2.out c (by omega) (by omega)⟩)
              have HX15 : Hid (OwnZ w15 w12.heap.size (.slice xa (gpL mo a).length xc) (gpL mo a)) := own_aside HX14.out hT15.ko (fun c hc => by have := HXO.out c hc; exact ⟨by omega, HA2.out c (by omega) (by omega)⟩)
              have HB15 : Hid (Below p w w15) := HB14.out.trans hT15.below
              clear hT15 HX14 HG14 HB14 HF14 HA2 HVO HXO
              go_wp2_with fail
              refine (fogroup HG15.out a).mono ?_
              rintro e w16 ⟨u16, rfl, hO16, hB16⟩
              obtain ⟨ya, yc, rfl⟩ := hO16.form
              have HY16 : Hid (OwnZ w16 w15.heap.size (.slice ya (gpL mo a).length yc) (gpL mo a)) := hO16
              have HX16 : Hid (OwnZ w16 w12.heap.size (.slice xa (gpL mo a).length xc) (gpL mo a)) := HX15.out.below hB16
              have HG16 : Hid (Fo w16 o vo Jo Vo mo) := HG15.out.below hB16
              have HB16 : Hid (Below p w w16) := HB15.out.trans (hB16.mono (by have := HB15.out.size; have := HP.out; omega))
              have hmm : ((mo.length : Int) == (mo.length : Int)) = true := by simp
              have hee : (hasE mo a == hasE mo a) = true := by simp
              clear hO16 hB16 HX15 HG15 HB15
              obtain ⟨E, hE⟩ : ∃ E, hasE mo a = E := ⟨_, rfl⟩
              rw [hE] at hee ⊢
              clear hE
              go_wp2_with fail
              refine (flen_any w16 o vo mo HG16.out.fo).mono ?_
              rintro e w' ⟨rfl, hw⟩
              obtain rfl := hw.symm
              go_wp2_with fail
              refine (sameZ_any xa ya xc yc (gpL mo a) w16 w12.heap.size w15.heap.size HX16.out HY16.out).mono ?_
              rintro e w17 ⟨rfl, n17, rfl⟩
              go_wp2_with fail
              go_ret
              exact ⟨rfl, by rw [HP.out]; exact HB16.out.trans ((below_drew w16 n17).mono (by have := HB16.out.size; have := HP.out; omega))⟩
end Go.Proofs.Ytfnbkffphpidbaa
