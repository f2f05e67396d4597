/-
  GpW8, GpW9.
-/
import Derived.Test.YtlbmijcpalfaeaaGreatDoorP10
set_option linter.unusedSimpArgs false
set_option linter.unusedVariables false
namespace Go.Proofs.YtlbmijcpalfaeaaGreatDoor
open Go.RowKit Go.Lib Go.Sort

def ndA (l : List Nd) (i : Nat) : Nd := l.getD i nd0
/-- At i nothing is wrong: it comes behind its neighbour, and to no less than the class's size. -/
def lsG (cs : List Cls) (c : Cls) (i : Nat) : Bool := (i == 0 || decide (ordN (ndA c.nodes (i - 1)) (ndA c.nodes i) < 0)) && decide (c.size ≤ szF cs 1 (ndA c.nodes i).kids)
def lsOk (cs : List Cls) (c : Cls) : Nat → Bool
  | 0 => true
  | j + 1 => lsOk cs c j && lsG cs c j
/-- The first that comes to the class's size. -/
def lsAt (cs : List Cls) (c : Cls) : Nat → Int
  | 0 => -1
  | j + 1 => if lsAt cs c j = -1 ∧ szF cs 1 (ndA c.nodes j).kids = c.size then (j : Int) else lsAt cs c j
theorem lsAt_range (cs : List Cls) (c : Cls) : ∀ j : Nat, -1 ≤ lsAt cs c j ∧ lsAt cs c j < (j : Int) ∨ lsAt cs c j = -1 := by
  intro j
  induction j with
  | zero => exact .inr rfl
  | succ j ih =>
    unfold lsAt
    split
    · left; omega
    · omega
/-- The node of a class's least expression. -/
def lstF (cs : List Cls) (c : Cls) : Option Nat := if lsOk cs c c.nodes.length && decide (lsAt cs c c.nodes.length ≠ -1) then some (lsAt cs c c.nodes.length).toNat else none
theorem lsOk_not {cs : List Cls} {c : Cls} {n j : Nat} (hj : j < n) (h : lsG cs c j = false) : lsOk cs c n = false := by
  induction n with
  | zero => omega
  | succ n ih =>
    unfold lsOk
    by_cases e : j = n
    · subst e; rw [h]; simp
    · rw [ih (by omega)]; simp
theorem lstF_bad {cs : List Cls} {c : Cls} {j : Nat} (hj : j < c.nodes.length) (h : lsG cs c j = false) : lstF cs c = none := by
  unfold lstF
  rw [lsOk_not hj h]
  simp
theorem lstF_no {cs : List Cls} {c : Cls} (h : lsAt cs c c.nodes.length = -1) : lstF cs c = none := by
  unfold lstF
  rw [h]
  simp
theorem lstF_yes {cs : List Cls} {c : Cls} {i : Nat} (ho : lsOk cs c c.nodes.length = true) (h : lsAt cs c c.nodes.length = (i : Int)) : lstF cs c = some i := by
  unfold lstF
  rw [ho, h]
  have : ((i : Int) ≠ -1) := by omega
  simp [this]
end Go.Proofs.YtlbmijcpalfaeaaGreatDoor

set_option linter.unusedSimpArgs false
set_option linter.unusedVariables false
namespace Go.Proofs.YtlbmijcpalfaeaaGreatDoor
open Go.RowKit Go.Lib Go.Sort

theorem gset4 {w : World} {b : Nat} {a0 a1 a2 a3 : Value} {t : TypeId} (h : w.heap[b]? = some (.cells #[a0, a1, a2, a3] t (0, 0))) (v0 v1 v2 v3 : Value) :
    ((((w.setCell ⟨b, 0, none⟩ v0).setCell ⟨b, 1, none⟩ v1).setCell ⟨b, 2, none⟩ v2).setCell ⟨b, 3, none⟩ v3).heap[b]? = some (.cells #[v0, v1, v2, v3] t (0, 0)) := by
  have h0 := heap_setCell_same w b 0 _ t v0 h
  have h1 := heap_setCell_same _ b 1 _ t v1 h0
  have h2 := heap_setCell_same _ b 2 _ t v2 h1
  have h3 := heap_setCell_same _ b 3 _ t v3 h2
  simpa using h3
theorem gfrz {w : World} {b : Nat} {c : Array Value} {t : TypeId} (h : w.heap[b]? = some (.cells c t (0, 0))) : ∀ o, w.frozen? ⟨b, o, none⟩ = false := by simp [World.frozen?, h]
theorem gbelow4 {B : Nat} {w0 w : World} {b : Nat} (h : Below B w0 w) (hb : B ≤ b) (v0 v1 v2 v3 : Value) : Below B w0 ((((w.setCell ⟨b, 0, none⟩ v0).setCell ⟨b, 1, none⟩ v1).setCell ⟨b, 2, none⟩ v2).setCell ⟨b, 3, none⟩ v3) :=
  (((h.setCell hb _).setCell hb _).setCell hb _).setCell hb _
/-- What least answers. -/
def LsR (cs : List Cls) (c : Cls) (w : World) (e : Ending) : Prop :=
  (lstF cs c = none ∧ e = .returned (.tuple #[.agg #[.int .i64 0, .int .i64 0, .string ⟨#[]⟩, .slice none 0 0], .bool false])) ∨
  (∃ i ka kc, lstF cs c = some i ∧ i < c.nodes.length ∧ e = .returned (.tuple #[.agg #[.int .i64 (ndA c.nodes i).op, .int .i64 (ndA c.nodes i).n, .string (ndA c.nodes i).name, .slice ka (ndA c.nodes i).kids.length kc], .bool true]) ∧ Ints w w.heap.size (.slice ka (ndA c.nodes i).kids.length kc) (ndA c.nodes i).kids)
/-- A node of the row, read. -/
theorem node_in {w W : World} {na : Option Addr} {nc : Nat} {l : List Nd} (h : Nodes w w.heap.size (.slice na l.length nc) l) (hb : Below w.heap.size w W) {i : Nat} (hi : i < l.length) : ∃ g go ka kc, na = some ⟨g, go, none⟩ ∧ g < w.heap.size ∧ W.cell? ⟨g, go + i * 4, none⟩ = some (.int .i64 (ndA l i).op) ∧ W.cell? ⟨g, go + i * 4 + 1, none⟩ = some (.int .i64 (ndA l i).n) ∧ W.cell? ⟨g, go + i * 4 + 2, none⟩ = some (.string (ndA l i).name) ∧ W.cell? ⟨g, go + i * 4 + 3, none⟩ = some (.slice ka (ndA l i).kids.length kc) ∧ Ints w w.heap.size (.slice ka (ndA l i).kids.length kc) (ndA l i).kids := by
  obtain ⟨ao, cap, h1, _, _, h2⟩ := h
  injection h1 with h1 _ _
  rcases h2 with h2 | ⟨g, go, h2, hgl, h3⟩
  · subst h2; simp at hi
  · obtain ⟨kv, h4⟩ := h3 i hi
    obtain ⟨ka, kc, hkv, _⟩ := id h4.kids
    subst hkv
    exact ⟨g, go, ka, kc, h1.trans h2, hgl, (hb.cell (p := ⟨g, go + i * 4, none⟩) hgl).trans h4.c0, (hb.cell (p := ⟨g, go + i * 4 + 1, none⟩) hgl).trans h4.c1, (hb.cell (p := ⟨g, go + i * 4 + 2, none⟩) hgl).trans h4.c2, (hb.cell (p := ⟨g, go + i * 4 + 3, none⟩) hgl).trans h4.c3, h4.kids⟩

set_option maxRecDepth 20000 in
set_option maxHeartbeats 8000000 in
theorem least_any (c : Cls) (cs : List Cls) (na ca : Option Addr) (nc cc : Nat) (w0 w : World) (hb0 : Below w0.heap.size w0 w) (T : Tabs w) (hN : Nodes w0 w0.heap.size (.slice na c.nodes.length nc) c.nodes) (hC : Clss w w.heap.size (.slice ca cs.length cc) cs) (hin : ∀ x ∈ c.nodes, inR cs.length x.kids = true) :
    Calls Tryz.prog 62 #[.agg #[.slice na c.nodes.length nc, .int .i64 c.size], .slice ca cs.length cc] w fun e w' => LsR cs c w0 e ∧ Below w.heap.size w w' := by
  have HB0 := Sld.mk hb0
  obtain ⟨W1, hW1⟩ : ∃ W1, (w.alloc (.cells #[.slice na c.nodes.length nc, .int .i64 c.size] 49)).alloc (.cells #[.int .i64 0, .int .i64 0, .string ⟨#[]⟩, .slice none 0 0] 41) = W1 := ⟨_, rfl⟩
  have hb1 : Below w.heap.size w W1 := by rw [← hW1]; exact ((Below.refl _ _).alloc (Nat.le_refl _) _).alloc (by simp) _
  have kc1 : W1.heap[w.heap.size]? = some (.cells #[.slice na c.nodes.length nc, .int .i64 c.size] 49 (0, 0)) := by
    rw [← hW1, Deep.blk_alloc_lt _ _ _ (by simp), Deep.blk_alloc_new]
  have kr1 : W1.heap[w.heap.size + 1]? = some (.cells #[.int .i64 0, .int .i64 0, .string ⟨#[]⟩, .slice none 0 0] 41 (0, 0)) := by
    have := Deep.blk_alloc_new (w.alloc (.cells #[.slice na c.nodes.length nc, .int .i64 c.size] 49)) (.cells #[.int .i64 0, .int .i64 0, .string ⟨#[]⟩, .slice none 0 0] 41)
    rw [World.size_alloc] at this
    rw [← hW1]; exact this
  have HP : Sld (∀ W, Below W1.heap.size W1 W → W.cell? ⟨w.heap.size, 0, none⟩ = some (.slice na c.nodes.length nc) ∧ W.cell? ⟨w.heap.size, 1, none⟩ = some (.int .i64 c.size) ∧ W.heap[w.heap.size + 1]? = some (.cells #[.int .i64 0, .int .i64 0, .string ⟨#[]⟩, .slice none 0 0] 41 (0, 0)) ∧ Below w.heap.size w W ∧ Below w0.heap.size w0 W) := ⟨fun W hW => by
    have h1 := (hW.block _ (lt_of_block kc1)).trans kc1
    have h2 := (hW.block _ (lt_of_block kr1)).trans kr1
    have h3 := hb1.trans (hW.mono hb1.size)
    exact ⟨by simp [World.cell?, h1], by simp [World.cell?, h1], h2, h3, hb0.trans (h3.mono hb0.size)⟩⟩
  obtain ⟨p0, p1, _, _, _⟩ := HP.out W1 (Below.refl _ _)
  have HW1 := Sld.mk hW1
  have HN := Sld.mk hN
  have HC := Sld.mk hC
  have HT := Sld.mk T
  have HIN : Sld (∀ i, i < c.nodes.length → inR cs.length (ndA c.nodes i).kids = true) := ⟨fun i hi => hin _ (by unfold ndA; rw [getD_atT hi]; exact List.getElem_mem hi)⟩
  obtain ⟨_, _, d1, hn1, hn2, _⟩ := hN
  injection d1 with d1 d2 d3
  rw [← d3] at hn1 hn2
  unfold maxLen at hn2
  have HBAD : Sld (∀ j, j < c.nodes.length → lsG cs c j = false → LsR cs c w0 (.returned (.tuple #[.agg #[.int .i64 0, .int .i64 0, .string ⟨#[]⟩, .slice none 0 0], .bool false]))) := ⟨fun j hj h => .inl ⟨lstF_bad hj h, rfl⟩⟩
  have HNO : Sld (lsAt cs c c.nodes.length = -1 → LsR cs c w0 (.returned (.tuple #[.agg #[.int .i64 0, .int .i64 0, .string ⟨#[]⟩, .slice none 0 0], .bool false]))) := ⟨fun h => .inl ⟨lstF_no h, rfl⟩⟩
  have HYES : Sld (∀ i : Nat, lsOk cs c c.nodes.length = true → lsAt cs c c.nodes.length = (i : Int) → lstF cs c = some i) := ⟨fun i h1 h2 => lstF_yes h1 h2⟩
  have HG : Sld (∀ j, lsG cs c j = ((j == 0 || decide (ordN (ndA c.nodes (j - 1)) (ndA c.nodes j) < 0)) && decide (c.size ≤ szF cs 1 (ndA c.nodes j).kids))) := ⟨fun j => rfl⟩
  have HOK : Sld (∀ j, lsOk cs c j = true → lsG cs c j = true → lsOk cs c (j + 1) = true) := ⟨fun j h1 h2 => by unfold lsOk; rw [h1, h2]; rfl⟩
  have HAT : Sld (∀ j, lsAt cs c (j + 1) = if lsAt cs c j = -1 ∧ szF cs 1 (ndA c.nodes j).kids = c.size then (j : Int) else lsAt cs c j) := ⟨fun j => rfl⟩
  have HRG := Sld.mk (lsAt_range cs c)
  clear hW1 hb1 kc1 kr1 d1 d2 d3 hC hin T hb0
  obtain ⟨nodes, size⟩ := c
  simp only at *
  go_enter Tryz.func62, Tryz.ntmps62
  go_wp2_with fail
  rw [HW1.out]
  go_loopw [6, 13] (fun a i wr => ∃ j : Nat, j ≤ nodes.length ∧ i = .int .i64 j ∧ a = .int .i64 (lsAt cs ⟨nodes, size⟩ j) ∧ Sld (lsOk cs ⟨nodes, size⟩ j = true) ∧ Sld (Below W1.heap.size W1 wr)) (fun _ i _ => nodes.length - (RowKit.intOf i).toNat)
  case atStart => exact ⟨0, Nat.zero_le _, rfl, rfl, ⟨rfl⟩, ⟨Below.refl _ _⟩⟩
  case round =>
    obtain ⟨j, hj, rfl, rfl, HO, HBr⟩ := hrel
    clear p0 p1
    obtain ⟨p0, p1, kr, hbw, hbz⟩ := HP.out wr HBr.out
    by_cases hlt : j < nodes.length
    · obtain ⟨g, go, ka, kc, hna, hgl, k0, k1, k2, k3, hK⟩ := node_in HN.out hbz hlt
      subst hna
      obtain ⟨x, hx⟩ : ∃ x, ndA nodes j = x := ⟨_, rfl⟩
      have hinj := HIN.out j hlt
      have hAj := HAT.out j
      have hGj := HG.out j
      rw [hx] at k0 k1 k2 k3 hK hinj hAj hGj
      have HAJ := Sld.mk hAj
      have HGJ := Sld.mk hGj
      clear hx hAj hGj
      obtain ⟨op, n, nm, ks⟩ := x
      simp only at k0 k1 k2 k3 hK hinj HGJ HAJ
      obtain ⟨W3, hW3⟩ : ∃ W3, wr.alloc (.cells #[.int .i64 op, .int .i64 n, .string nm, .slice ka ks.length kc] 41) = W3 := ⟨_, rfl⟩
      have hb3 : Below wr.heap.size wr W3 := by rw [← hW3]; exact (Below.refl _ _).alloc (Nat.le_refl _) _
      have kn3 : W3.heap[wr.heap.size]? = some (.cells #[.int .i64 op, .int .i64 n, .string nm, .slice ka ks.length kc] 41 (0, 0)) := by rw [← hW3, Deep.blk_alloc_new]
      have HB3 : Sld (Below W1.heap.size W1 W3) := ⟨HBr.out.trans (hb3.mono HBr.out.size)⟩
      have HKN := Sld.mk kn3
      have HW3 := Sld.mk hW3
      obtain ⟨q0, q1, kr3, hbw3, hbz3⟩ := HP.out W3 HB3.out
      have HBZ3 := Sld.mk hbz3
      obtain ⟨n0, n1, n2, n3⟩ := blk4N kn3
      have g0 := cell_regrown q0
      have g1 := cell_regrown n0
      have g2 := cell_regrown n1
      have g3 := cell_regrown n2
      have g4 := cell_regrown n3
      have CSZ : Sld (∀ V, Below w.heap.size w V → Calls Tryz.prog 90 #[.agg #[.int .i64 op, .int .i64 n, .string nm, .slice ka ks.length kc], .slice ca cs.length cc] V fun e w' => e = .returned (.int .i64 (szF cs 1 ks)) ∧ Below V.heap.size V w') := ⟨fun V hV => gsizeOf_any ⟨op, n, nm, ks⟩ ka kc ca cc cs V ((hK.below HB0.out HB0.out.size).below hV hV.size) (HC.out.below hV hV.size) hinj⟩
      have HK := Sld.mk hK
      have HBW3 := Sld.mk hbw3
      generalize szF cs 1 ks = sz at *
      have hltI : (j : Int) < (nodes.length : Int) := by omega
      clear hb3 hW3 kn3 q0 q1 kr3 n0 n1 n2 n3 hK hinj hbw3 hbz3 hbz kr
      by_cases hj0 : j = 0
      · have hjI : ¬ ((0 : Int) < (j : Int)) := by omega
        have hjN : ¬ (0 < j) := by omega
        have hdec : decide (0 < j) = false := by simp [hj0]
        have hdec2 : decide ((0 : Int) < (j : Int)) = false := by simp [hj0]
        have HGF : Sld (lsG cs ⟨nodes, size⟩ j = decide (size ≤ sz)) := ⟨by rw [HGJ.out, hj0]; simp⟩
        clear hj0
        go_wp2_with fail
        rw [HW3.out]
        refine wp_region_quiet_then 12 (by kernel_rfl) (by kernel_rfl) ?_
        simp only [List.take_succ_cons, List.take_zero]
        iterate 12 (go_big_quiet_step (fail))
        refine wpQuiet_nil ?_
        intro w' hw'
        obtain ⟨⟨dq, osq⟩, hw''⟩ := hw'
        subst hw''
        simp only [List.drop_succ_cons, List.drop_zero]
        obtain ⟨w5, hw5⟩ : ∃ w5, grow (redrawn W3 dq) osq = w5 := ⟨_, rfl⟩
        rw [hw5]
        have hb5 : Below W3.heap.size W3 w5 := by rw [← hw5]; exact below_regrown W3 dq osq
        have HB5 : Sld (Below W1.heap.size W1 w5) := ⟨HB3.out.trans (hb5.mono HB3.out.size)⟩
        have kn5 := (hb5.block _ (lt_of_block HKN.out)).trans HKN.out
        obtain ⟨m0, m1, m2, m3⟩ := blk4N kn5
        obtain ⟨s0, s1, kr5, hbw5, _⟩ := HP.out w5 HB5.out
        have HBW5 := Sld.mk hbw5
        clear g0 g1 g2 g3 g4
        clear kn5 hb5 hw5 hbw5 kr5
        go_wp2_with fail
        refine (CSZ.out _ HBW5.out).mono ?_
        rintro e w6 ⟨rfl, hb6⟩
        have HB6 : Sld (Below W1.heap.size W1 w6) := ⟨HB5.out.trans (hb6.mono HB5.out.size)⟩
        clear hb6 s0 s1 m0 m1 m2 m3
        obtain ⟨s0, s1, kr6, hbw6, _⟩ := HP.out w6 HB6.out
        by_cases hsz : sz < size
        · have HE := Sld.mk (HBAD.out j hlt (by rw [HGF.out]; simp; omega))
          obtain ⟨y0, y1, y2, y3⟩ := blk4N kr6
          have yf := gfrz kr6
          have HKR := Sld.mk kr6
          have HBX := Sld.mk hbw6
          go_wp2_with fail
          have hS := gset4 HKR.out (.int .i64 0) (.int .i64 0) (.string ⟨#[]⟩) (.slice none 0 0)
          have HBE := gbelow4 HBX.out (show w.heap.size ≤ w.heap.size + 1 by omega) (.int .i64 0) (.int .i64 0) (.string ⟨#[]⟩) (.slice none 0 0)
          generalize (((w6.setCell ⟨w.heap.size + 1, 0, none⟩ (.int .i64 0)).setCell ⟨w.heap.size + 1, 1, none⟩ (.int .i64 0)).setCell ⟨w.heap.size + 1, 2, none⟩ (.string ⟨#[]⟩)).setCell ⟨w.heap.size + 1, 3, none⟩ (.slice none 0 0) = Wf at *
          obtain ⟨x0, x1, x2, x3⟩ := blk4N hS
          refine bodyPost_ret (v := .tuple #[.agg #[.int .i64 0, .int .i64 0, .string ⟨#[]⟩, .slice none 0 0], .bool false]) (by simp [results, Tryz.results62, go_sem, x0, x1, x2, x3]) rfl ⟨HE.out, HBE⟩
        · have HO1 := Sld.mk (HOK.out j HO.out (by rw [HGF.out]; simp; omega))
          clear hbw6 kr6
          have HAJ' := HAJ.out
          generalize lsAt cs ⟨nodes, size⟩ j = a0 at *
          by_cases hA1 : sz = size
          · have e1 : (sz == size) = true := by simp [hA1]
            by_cases hA2 : a0 = -1
            · have e2 : (a0 == -1) = true := by simp [hA2]
              have HA1 : Sld (lsAt cs ⟨nodes, size⟩ (j + 1) = (j : Int)) := ⟨by rw [HAJ', if_pos ⟨hA2, hA1⟩]⟩
              clear HAJ' hA1 hA2
              go_wp2_with fail
              exact ⟨⟨j + 1, by omega, by go_num, by rw [HA1.out], HO1, HB6⟩, by simp [RowKit.intOf]; omega⟩
            · have e2 : (a0 == -1) = false := by simp [hA2]
              have HA1 : Sld (lsAt cs ⟨nodes, size⟩ (j + 1) = a0) := ⟨by rw [HAJ', if_neg (fun h => hA2 h.1)]⟩
              clear HAJ' hA1 hA2
              go_wp2_with fail
              exact ⟨⟨j + 1, by omega, by go_num, by rw [HA1.out], HO1, HB6⟩, by simp [RowKit.intOf]; omega⟩
          · have e1 : (sz == size) = false := by simp [hA1]
            have HA1 : Sld (lsAt cs ⟨nodes, size⟩ (j + 1) = a0) := ⟨by rw [HAJ', if_neg (fun h => hA1 h.2)]⟩
            clear HAJ' hA1
            go_wp2_with fail
            exact ⟨⟨j + 1, by omega, by go_num, by rw [HA1.out], HO1, HB6⟩, by simp [RowKit.intOf]; omega⟩
      · have hjI : (0 : Int) < (j : Int) := by omega
        have hjN : 0 < j := by omega
        have hdec : decide (0 < j) = true := by simp [hjN]
        have hdec2 : decide ((0 : Int) < (j : Int)) = true := by simp [hjN]
        obtain ⟨m, hm⟩ : ∃ m, j = m + 1 := ⟨j - 1, by omega⟩
        have hsub : (j : Int) - 1 = (m : Int) := by omega
        have hml : m < nodes.length := by omega
        have hmI : (m : Int) < (nodes.length : Int) := by omega
        obtain ⟨g', go', pa, pc, hna, _, e0, e1, e2, e3, hKp⟩ := node_in HN.out HBZ3.out hml
        injection hna with hna
        injection hna with hna1 hna2 _
        subst hna1 hna2
        have hGj := HGJ.out
        have hme : j - 1 = m := by omega
        rw [hme] at hGj
        have hjn : (j == 0) = false := by simp [hj0]
        rw [hjn, Bool.false_or] at hGj
        obtain ⟨y, hy⟩ : ∃ y, ndA nodes m = y := ⟨_, rfl⟩
        rw [hy] at e0 e1 e2 e3 hKp hGj
        clear hy hjn hme
        obtain ⟨yo, yn, ym, yk⟩ := y
        simp only at e0 e1 e2 e3 hKp
        have g5 := cell_regrown e0
        have g6 := cell_regrown e1
        have g7 := cell_regrown e2
        have g8 := cell_regrown e3
        have cK : Sld (∀ d os, Calls Tryz.prog 89 #[.agg #[.int .i64 yo, .int .i64 yn, .string ym, .slice pa yk.length pc], .agg #[.int .i64 op, .int .i64 n, .string nm, .slice ka ks.length kc]] (grow (redrawn W3 d) os) fun e w'' => e = .returned (.int .i64 (ordN ⟨yo, yn, ym, yk⟩ ⟨op, n, nm, ks⟩)) ∧ ∃ p : Regrown, w'' = grow (redrawn W3 p.d) p.os) := ⟨fun d os => by
          have hb : Below w.heap.size w (grow (redrawn W3 d) os) := HBW3.out.trans ((below_regrown W3 d os).mono HBW3.out.size)
          exact Calls.regrown_of (gorder_any ⟨yo, yn, ym, yk⟩ ⟨op, n, nm, ks⟩ pa ka pc kc _ (HT.out.below hb) ((hKp.below HB0.out HB0.out.size).below hb hb.size) ((HK.out.below HB0.out HB0.out.size).below hb hb.size))⟩
        have HGJ2 := Sld.mk hGj
        clear hGj HGJ hKp e0 e1 e2 e3 hj0
        generalize ordN ⟨yo, yn, ym, yk⟩ ⟨op, n, nm, ks⟩ = oz at *
        by_cases ho : oz < 0
        · have HGF : Sld (lsG cs ⟨nodes, size⟩ j = decide (size ≤ sz)) := ⟨by rw [HGJ2.out]; simp [ho]⟩
          have hoI : ¬ ((0 : Int) ≤ oz) := by omega
          clear hm
          go_wp2_with fail
          rw [HW3.out]
          refine wp_region_quiet_then 12 (by kernel_rfl) (by kernel_rfl) ?_
          simp only [List.take_succ_cons, List.take_zero]
          iterate 12 (go_big_quiet_step ((go_at_call 89; exact cK.out _ _)))
          refine wpQuiet_nil ?_
          intro w' hw'
          obtain ⟨⟨dq, osq⟩, hw''⟩ := hw'
          subst hw''
          simp only [List.drop_succ_cons, List.drop_zero]
          obtain ⟨w5, hw5⟩ : ∃ w5, grow (redrawn W3 dq) osq = w5 := ⟨_, rfl⟩
          rw [hw5]
          have hb5 : Below W3.heap.size W3 w5 := by rw [← hw5]; exact below_regrown W3 dq osq
          have HB5 : Sld (Below W1.heap.size W1 w5) := ⟨HB3.out.trans (hb5.mono HB3.out.size)⟩
          have kn5 := (hb5.block _ (lt_of_block HKN.out)).trans HKN.out
          obtain ⟨m0, m1, m2, m3⟩ := blk4N kn5
          obtain ⟨s0, s1, kr5, hbw5, _⟩ := HP.out w5 HB5.out
          have HBW5 := Sld.mk hbw5
          clear g0 g1 g2 g3 g4 g5 g6 g7 g8
          clear kn5 hb5 hw5 hbw5 kr5
          go_wp2_with fail
          refine (CSZ.out _ HBW5.out).mono ?_
          rintro e w6 ⟨rfl, hb6⟩
          have HB6 : Sld (Below W1.heap.size W1 w6) := ⟨HB5.out.trans (hb6.mono HB5.out.size)⟩
          clear hb6 s0 s1 m0 m1 m2 m3
          obtain ⟨s0, s1, kr6, hbw6, _⟩ := HP.out w6 HB6.out
          by_cases hsz : sz < size
          · have HE := Sld.mk (HBAD.out j hlt (by rw [HGF.out]; simp; omega))
            obtain ⟨y0, y1, y2, y3⟩ := blk4N kr6
            have yf := gfrz kr6
            have HKR := Sld.mk kr6
            have HBX := Sld.mk hbw6
            go_wp2_with fail
            have hS := gset4 HKR.out (.int .i64 0) (.int .i64 0) (.string ⟨#[]⟩) (.slice none 0 0)
            have HBE := gbelow4 HBX.out (show w.heap.size ≤ w.heap.size + 1 by omega) (.int .i64 0) (.int .i64 0) (.string ⟨#[]⟩) (.slice none 0 0)
            generalize (((w6.setCell ⟨w.heap.size + 1, 0, none⟩ (.int .i64 0)).setCell ⟨w.heap.size + 1, 1, none⟩ (.int .i64 0)).setCell ⟨w.heap.size + 1, 2, none⟩ (.string ⟨#[]⟩)).setCell ⟨w.heap.size + 1, 3, none⟩ (.slice none 0 0) = Wf at *
            obtain ⟨x0, x1, x2, x3⟩ := blk4N hS
            refine bodyPost_ret (v := .tuple #[.agg #[.int .i64 0, .int .i64 0, .string ⟨#[]⟩, .slice none 0 0], .bool false]) (by simp [results, Tryz.results62, go_sem, x0, x1, x2, x3]) rfl ⟨HE.out, HBE⟩
          · have HO1 := Sld.mk (HOK.out j HO.out (by rw [HGF.out]; simp; omega))
            clear hbw6 kr6
            have HAJ' := HAJ.out
            generalize lsAt cs ⟨nodes, size⟩ j = a0 at *
            by_cases hA1 : sz = size
            · have e1 : (sz == size) = true := by simp [hA1]
              by_cases hA2 : a0 = -1
              · have e2 : (a0 == -1) = true := by simp [hA2]
                have HA1 : Sld (lsAt cs ⟨nodes, size⟩ (j + 1) = (j : Int)) := ⟨by rw [HAJ', if_pos ⟨hA2, hA1⟩]⟩
                clear HAJ' hA1 hA2
                go_wp2_with fail
                exact ⟨⟨j + 1, by omega, by go_num, by rw [HA1.out], HO1, HB6⟩, by simp [RowKit.intOf]; omega⟩
              · have e2 : (a0 == -1) = false := by simp [hA2]
                have HA1 : Sld (lsAt cs ⟨nodes, size⟩ (j + 1) = a0) := ⟨by rw [HAJ', if_neg (fun h => hA2 h.1)]⟩
                clear HAJ' hA1 hA2
                go_wp2_with fail
                exact ⟨⟨j + 1, by omega, by go_num, by rw [HA1.out], HO1, HB6⟩, by simp [RowKit.intOf]; omega⟩
            · have e1 : (sz == size) = false := by simp [hA1]
              have HA1 : Sld (lsAt cs ⟨nodes, size⟩ (j + 1) = a0) := ⟨by rw [HAJ', if_neg (fun h => hA1 h.2)]⟩
              clear HAJ' hA1
              go_wp2_with fail
              exact ⟨⟨j + 1, by omega, by go_num, by rw [HA1.out], HO1, HB6⟩, by simp [RowKit.intOf]; omega⟩
        · have HE := Sld.mk (HBAD.out j hlt (by rw [HGJ2.out]; simp [ho]))
          have hoI : (0 : Int) ≤ oz := by omega
          clear hm
          go_wp2_with fail
          rw [HW3.out]
          refine wp_region_quiet_then 12 (by kernel_rfl) (by kernel_rfl) ?_
          simp only [List.take_succ_cons, List.take_zero]
          iterate 12 (go_big_quiet_step ((go_at_call 89; exact cK.out _ _)))
          refine wpQuiet_nil ?_
          intro w' hw'
          obtain ⟨⟨dq, osq⟩, hw''⟩ := hw'
          subst hw''
          simp only [List.drop_succ_cons, List.drop_zero]
          obtain ⟨w5, hw5⟩ : ∃ w5, grow (redrawn W3 dq) osq = w5 := ⟨_, rfl⟩
          rw [hw5]
          have hb5 : Below W3.heap.size W3 w5 := by rw [← hw5]; exact below_regrown W3 dq osq
          have HB5 : Sld (Below W1.heap.size W1 w5) := ⟨HB3.out.trans (hb5.mono HB3.out.size)⟩
          have kn5 := (hb5.block _ (lt_of_block HKN.out)).trans HKN.out
          obtain ⟨m0, m1, m2, m3⟩ := blk4N kn5
          obtain ⟨s0, s1, kr5, hbw5, _⟩ := HP.out w5 HB5.out
          have HBW5 := Sld.mk hbw5
          clear g0 g1 g2 g3 g4 g5 g6 g7 g8
          obtain ⟨y0, y1, y2, y3⟩ := blk4N kr5
          have yf := gfrz kr5
          have HKR := Sld.mk kr5
          have HBX := Sld.mk hbw5
          go_wp2_with fail
          have hS := gset4 HKR.out (.int .i64 0) (.int .i64 0) (.string ⟨#[]⟩) (.slice none 0 0)
          have HBE := gbelow4 HBX.out (show w.heap.size ≤ w.heap.size + 1 by omega) (.int .i64 0) (.int .i64 0) (.string ⟨#[]⟩) (.slice none 0 0)
          generalize (((w5.setCell ⟨w.heap.size + 1, 0, none⟩ (.int .i64 0)).setCell ⟨w.heap.size + 1, 1, none⟩ (.int .i64 0)).setCell ⟨w.heap.size + 1, 2, none⟩ (.string ⟨#[]⟩)).setCell ⟨w.heap.size + 1, 3, none⟩ (.slice none 0 0) = Wf at *
          obtain ⟨x0, x1, x2, x3⟩ := blk4N hS
          refine bodyPost_ret (v := .tuple #[.agg #[.int .i64 0, .int .i64 0, .string ⟨#[]⟩, .slice none 0 0], .bool false]) (by simp [results, Tryz.results62, go_sem, x0, x1, x2, x3]) rfl ⟨HE.out, HBE⟩
    · have hje : j = nodes.length := by omega
      subst hje
      by_cases hA : lsAt cs ⟨nodes, size⟩ nodes.length = -1
      · have HE := Sld.mk (HNO.out hA)
        rw [hA]
        obtain ⟨y0, y1, y2, y3⟩ := blk4N kr
        have yf := gfrz kr
        have HKR := Sld.mk kr
        have HBX := Sld.mk hbw
        go_wp2_with fail
        have hS := gset4 HKR.out (.int .i64 0) (.int .i64 0) (.string ⟨#[]⟩) (.slice none 0 0)
        have HBE := gbelow4 HBX.out (show w.heap.size ≤ w.heap.size + 1 by omega) (.int .i64 0) (.int .i64 0) (.string ⟨#[]⟩) (.slice none 0 0)
        generalize (((wr.setCell ⟨w.heap.size + 1, 0, none⟩ (.int .i64 0)).setCell ⟨w.heap.size + 1, 1, none⟩ (.int .i64 0)).setCell ⟨w.heap.size + 1, 2, none⟩ (.string ⟨#[]⟩)).setCell ⟨w.heap.size + 1, 3, none⟩ (.slice none 0 0) = Wf at *
        obtain ⟨x0, x1, x2, x3⟩ := blk4N hS
        refine bodyPost_ret (v := .tuple #[.agg #[.int .i64 0, .int .i64 0, .string ⟨#[]⟩, .slice none 0 0], .bool false]) (by simp [results, Tryz.results62, go_sem, x0, x1, x2, x3]) rfl ⟨HE.out, HBE⟩
      · obtain ⟨i, hi, hAi⟩ : ∃ i : Nat, i < nodes.length ∧ lsAt cs ⟨nodes, size⟩ nodes.length = (i : Int) := by
          have h1 := HRG.out nodes.length
          refine ⟨(lsAt cs ⟨nodes, size⟩ nodes.length).toNat, by omega, by omega⟩
        have HLF := Sld.mk (HYES.out i HO.out hAi)
        obtain ⟨g, go, ka, kc, hna, hgl, k0, k1, k2, k3, hK⟩ := node_in HN.out hbz hi
        subst hna
        have HE : Sld (LsR cs ⟨nodes, size⟩ w0 (.returned (.tuple #[.agg #[.int .i64 (ndA nodes i).op, .int .i64 (ndA nodes i).n, .string (ndA nodes i).name, .slice ka (ndA nodes i).kids.length kc], .bool true]))) := ⟨.inr ⟨i, ka, kc, HLF.out, hi, rfl, hK⟩⟩
        rw [hAi]
        have hiI : (i : Int) < (nodes.length : Int) := by omega
        have hne : ((i : Int) == -1) = false := by
          have : (i : Int) ≠ -1 := by omega
          simp [this]
        clear hA hAi hK HLF
        generalize ndA nodes i = x at *
        obtain ⟨op, n, nm, ks⟩ := x
        simp only at k0 k1 k2 k3 HE
        obtain ⟨y0, y1, y2, y3⟩ := blk4N kr
        have yf := gfrz kr
        have HKR := Sld.mk kr
        have HBX := Sld.mk hbw
        go_wp2_with fail
        have hS := gset4 HKR.out (.int .i64 op) (.int .i64 n) (.string nm) (.slice ka ks.length kc)
        have HBE := gbelow4 HBX.out (show w.heap.size ≤ w.heap.size + 1 by omega) (.int .i64 op) (.int .i64 n) (.string nm) (.slice ka ks.length kc)
        generalize (((wr.setCell ⟨w.heap.size + 1, 0, none⟩ (.int .i64 op)).setCell ⟨w.heap.size + 1, 1, none⟩ (.int .i64 n)).setCell ⟨w.heap.size + 1, 2, none⟩ (.string nm)).setCell ⟨w.heap.size + 1, 3, none⟩ (.slice ka ks.length kc) = Wf at *
        obtain ⟨x0, x1, x2, x3⟩ := blk4N hS
        refine bodyPost_ret (v := .tuple #[.agg #[.int .i64 op, .int .i64 n, .string nm, .slice ka ks.length kc], .bool true]) (by simp [results, Tryz.results62, go_sem, x0, x1, x2, x3]) rfl ⟨HE.out, HBE⟩
end Go.Proofs.YtlbmijcpalfaeaaGreatDoor
