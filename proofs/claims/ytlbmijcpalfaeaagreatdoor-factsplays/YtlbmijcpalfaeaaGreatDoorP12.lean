/-
  GpX1, GpX2, ExOrdP.
-/
import Derived.Test.YtlbmijcpalfaeaaGreatDoorP11
import Derived.Laws.AppendOwn
import Derived.Deep.DeepCutAuto
set_option linter.unusedSimpArgs false
set_option linter.unusedVariables false
namespace Go.Proofs.YtlbmijcpalfaeaaGreatDoor
open Go.RowKit Go.Lib Go.Sort

def clA (cs : List Cls) (j : Nat) : Cls := cs.getD j cls0
/-- The least node of class j. -/
def lsN (cs : List Cls) (j : Nat) : Nd := ndA (clA cs j).nodes ((lstF cs (clA cs j)).getD 0)
/-- Nothing is wrong at class j. -/
def lsO (cs : List Cls) (j : Nat) : Bool := (lstF cs (clA cs j)).isSome && (j == 0 || decide (lsS (lsN cs (j - 1)) (lsN cs j) (clA cs (j - 1)).size (clA cs j).size < 0))
def lsA (cs : List Cls) : Nat → Bool
  | 0 => true
  | j + 1 => lsA cs j && lsO cs j
def lsL (cs : List Cls) (j : Nat) : List Nd := (List.range j).map (lsN cs)
theorem lsA_not {cs : List Cls} {n j : Nat} (hj : j < n) (h : lsO cs j = false) : lsA cs n = false := by
  induction n with
  | zero => omega
  | succ n ih =>
    unfold lsA
    by_cases e : j = n
    · subst e; rw [h]; simp
    · rw [ih (by omega)]; simp
theorem lsL_succ (cs : List Cls) (j : Nat) : lsL cs (j + 1) = lsL cs j ++ [lsN cs j] := by
  unfold lsL
  rw [List.range_succ, List.map_append]
  rfl
/-- The row so far. -/
def LsM (w : World) (B : Nat) (cs : List Cls) (j : Nat) (v : Value) (W : World) : Prop :=
  ∃ p : List (Nd × Value), W.ownsRow B 41 4 v j (ndCells p) ∧ p.map (·.1) = lsL cs j ∧ ∀ q ∈ p, Ints w w.heap.size q.2 q.1.kids
theorem LsM.len {cs : List Cls} {j : Nat} {p : List (Nd × Value)} (h : p.map (·.1) = lsL cs j) : p.length = j := by
  have := congrArg List.length h
  simpa [lsL] using this
theorem LsM.nil (w W : World) (B : Nat) (cs : List Cls) : LsM w B cs 0 (.slice none 0 0) W := ⟨[], World.ownsRow_nil _ _ _ _, rfl, fun q hq => by cases hq⟩
theorem LsM.below {w W W' : World} {B j : Nat} {cs : List Cls} {v : Value} (h : LsM w B cs j v W) (hb : Below W.heap.size W W') : LsM w B cs j v W' := by
  obtain ⟨p, h1, h2, h3⟩ := h
  exact ⟨p, rw_same h1 (fun b hv => hb.block b (rw_block h1 hv).2.1), h2, h3⟩
theorem LsM.form {w W : World} {B j : Nat} {cs : List Cls} {v : Value} (h : LsM w B cs j v W) : ∃ ao cap, v = .slice ao j cap := by
  obtain ⟨p, h1, _, _⟩ := h
  rcases h1.2 with ⟨rfl, rfl⟩ | ⟨g, cap, cur, rfl, _⟩
  · exact ⟨_, _, rfl⟩
  · exact ⟨_, _, rfl⟩
theorem LsM.at_ {w W : World} {B j i : Nat} {cs : List Cls} {v : Value} (h : LsM w B cs j v W) (hi : i < j) : ∃ g cap ka kc, v = .slice (some ⟨g, 0, none⟩) j cap ∧ j ≤ cap ∧ cap ≤ maxLen ∧ g < W.heap.size ∧ W.cell? ⟨g, i * 4, none⟩ = some (.int .i64 (lsN cs i).op) ∧ W.cell? ⟨g, i * 4 + 1, none⟩ = some (.int .i64 (lsN cs i).n) ∧ W.cell? ⟨g, i * 4 + 2, none⟩ = some (.string (lsN cs i).name) ∧ W.cell? ⟨g, i * 4 + 3, none⟩ = some (.slice ka (lsN cs i).kids.length kc) ∧ Ints w w.heap.size (.slice ka (lsN cs i).kids.length kc) (lsN cs i).kids := by
  obtain ⟨p, h1, h2, h3⟩ := h
  have hl := LsM.len h2
  have hip : i < p.length := by omega
  have hqi : p[i]? = some (p[i].1, p[i].2) := by rw [List.getElem?_eq_getElem hip]
  have hx : p[i].1 = lsN cs i := by
    have e : (p.map (·.1))[i]? = some p[i].1 := by rw [List.getElem?_map, List.getElem?_eq_getElem hip]; rfl
    rw [h2] at e
    simp [lsL, hi] at e
    exact e.symm
  obtain ⟨a0, a1, a2, a3⟩ := ndCells_at p i _ _ hqi
  have ho := h3 _ (List.getElem_mem hip)
  rw [hx] at a0 a1 a2 ho
  obtain ⟨ka, kc, hkv, _⟩ := id ho
  rw [hkv] at a3 ho
  rcases h1.2 with ⟨_, h0⟩ | ⟨g, cap, cur, h7, _, hg, h8, h9, _⟩
  · omega
  · have hr := rdr_own h1
    rw [h7] at hr
    exact ⟨g, cap, ka, kc, h7, h8, h9, lt_of_block hg, hr.cell (b := g) rfl a0, hr.cell (b := g) rfl a1, hr.cell (b := g) rfl a2, hr.cell (b := g) rfl a3, ho⟩
theorem LsM.snoc {w W : World} {B j : Nat} {cs : List Cls} {v' : Value} {p : List (Nd × Value)} {kv : Value} (h2 : p.map (·.1) = lsL cs j) (h3 : ∀ q ∈ p, Ints w w.heap.size q.2 q.1.kids) (hk : Ints w w.heap.size kv (lsN cs j).kids) (hown : W.ownsRow B 41 4 v' (j + 1) (ndCells p ++ ndCells [(lsN cs j, kv)])) : LsM w B cs (j + 1) v' W := by
  refine ⟨p ++ [(lsN cs j, kv)], by rw [ndCells_append]; exact hown, by rw [List.map_append, h2, lsL_succ]; rfl, fun q hq => ?_⟩
  rcases List.mem_append.1 hq with hq | hq
  · exact h3 q hq
  · rw [List.mem_singleton] at hq
    subst hq
    exact hk
end Go.Proofs.YtlbmijcpalfaeaaGreatDoor

set_option linter.unusedSimpArgs false
set_option linter.unusedVariables false
namespace Go.Proofs.YtlbmijcpalfaeaaGreatDoor
open Go.RowKit Go.Lib Go.Sort

theorem bdL_kids {n : Nat} : ∀ (cs : List Cls) (m : Nat), bdL n m cs = true → ∀ c ∈ cs, ∀ x ∈ c.nodes, inR n x.kids = true := by
  intro cs
  induction cs with
  | nil => intro m _ c hc; cases hc
  | cons d cs ih =>
    intro m h c hc
    simp only [bdL, Bool.and_eq_true] at h
    rcases List.mem_cons.1 hc with rfl | hc
    · have h1 := h.1
      simp only [bdC, Bool.and_eq_true] at h1
      exact List.all_eq_true.1 h1.2
    · exact ih _ h.2 c hc
/-- What leasts answers. -/
def LsF (w0 : World) (B : Nat) (cs : List Cls) (roots : List Int) (e : Ending) (w' : World) : Prop :=
  ((bdP cs roots && lsA cs cs.length) = false ∧ e = .returned (.tuple #[.slice none 0 0, .bool false])) ∨ ((bdP cs roots && lsA cs cs.length) = true ∧ ∃ v, e = .returned (.tuple #[v, .bool true]) ∧ LsM w0 B cs cs.length v w')

set_option maxRecDepth 20000 in
set_option maxHeartbeats 8000000 in
theorem leasts_any (cs : List Cls) (roots : List Int) (ca ra : Option Addr) (cc rc : Nat) (w : World) (T : Tabs w) (hc : Clss w w.heap.size (.slice ca cs.length cc) cs) (hr : Ints w w.heap.size (.slice ra roots.length rc) roots) (hw : ∀ c ∈ cs, c.nodes.length * 56 ≤ 140737488351232) :
    Calls Tryz.prog 39 #[.agg #[.slice ca cs.length cc, .slice ra roots.length rc]] w fun e w' => LsF w (w.heap.size + 1) cs roots e w' ∧ Below w.heap.size w w' := by
  obtain ⟨i0, hi0, hz0, hz1, hz2⟩ := info_parts Tryz.infoNode
  obtain ⟨W1, hW1⟩ : ∃ W1, w.alloc (.cells #[.slice ca cs.length cc, .slice ra roots.length rc] 26) = W1 := ⟨_, rfl⟩
  have hb1 : Below w.heap.size w W1 := by rw [← hW1]; exact (Below.refl _ _).alloc (Nat.le_refl _) _
  have hk1 : W1.heap[w.heap.size]? = some (.cells #[.slice ca cs.length cc, .slice ra roots.length rc] 26 (0, 0)) := by rw [← hW1, Deep.blk_alloc_new]
  have HS1 : Sld (W1.heap.size = w.heap.size + 1) := ⟨by rw [← hW1]; simp⟩
  have HP : Sld (∀ W, Below W1.heap.size W1 W → W.cell? ⟨w.heap.size, 0, none⟩ = some (.slice ca cs.length cc) ∧ W.cell? ⟨w.heap.size, 1, none⟩ = some (.slice ra roots.length rc) ∧ w.heap.size < W.heap.size ∧ Below w.heap.size w W) := ⟨fun W hW => by
    have := (hW.block _ (lt_of_block hk1)).trans hk1
    exact ⟨by simp [World.cell?, this], by simp [World.cell?, this], lt_of_block this, hb1.trans (hW.mono hb1.size)⟩⟩
  obtain ⟨p0, p1, p2, _⟩ := HP.out W1 (Below.refl _ _)
  have HW1 := Sld.mk hW1
  have HC := Sld.mk hc
  have HT := Sld.mk T
  have CB := Sld.mk (bounded_any cs roots ca ra cc rc W1 (hc.below hb1 hb1.size) (hr.below hb1 hb1.size) hw)
  obtain ⟨_, _, d1, hm1, hm2, _⟩ := hc
  injection d1 with d1 d2 d3
  rw [← d3] at hm1 hm2
  unfold maxLen at hm2
  clear hW1 hb1 hk1 d1 d2 d3 hr hw T
  go_enter Tryz.func39, Tryz.ntmps39
  go_wp2_with fail
  rw [HW1.out]
  refine CB.out.mono ?_
  rintro e w2 ⟨rfl, hb2⟩
  have HB2 := Sld.mk hb2
  obtain ⟨q0, q1, q2, hbw2⟩ := HP.out w2 hb2
  have HBW2 := Sld.mk hbw2
  clear hb2 hbw2 CB
  cases hB : bdP cs roots with
  | false =>
    have HE : Sld (LsF w (w.heap.size + 1) cs roots (.returned (.tuple #[.slice none 0 0, .bool false])) w2) := ⟨.inl ⟨by rw [hB]; rfl, rfl⟩⟩
    clear hB
    go_wp2_with fail
    refine bodyPost_ret (v := .tuple #[.slice none 0 0, .bool false]) (by simp [results, Tryz.results39, go_sem]) rfl ⟨HE.out, HBW2.out⟩
  | true =>
    have HNO : Sld (∀ j W, j < cs.length → lsO cs j = false → LsF w (w.heap.size + 1) cs roots (.returned (.tuple #[.slice none 0 0, .bool false])) W) := ⟨fun j W hj h => .inl ⟨by rw [lsA_not hj h, Bool.and_false], rfl⟩⟩
    have HYE : Sld (∀ v W, lsA cs cs.length = true → LsM w (w.heap.size + 1) cs cs.length v W → LsF w (w.heap.size + 1) cs roots (.returned (.tuple #[v, .bool true])) W) := ⟨fun v W h1 h2 => .inr ⟨by rw [hB, h1]; rfl, v, rfl, h2⟩⟩
    have hB' := hB
    simp only [bdP, Bool.and_eq_true, decide_eq_true_eq] at hB'
    obtain ⟨⟨h4, _⟩, hbd⟩ := hB'
    have HIN := Sld.mk (bdL_kids cs 0 hbd)
    clear hB hbd
    go_wp2_with fail
    go_loopw [4, 16] (fun v i wr => ∃ j : Nat, j ≤ cs.length ∧ i = .int .i64 j ∧ Sld (LsM w (w.heap.size + 1) cs j v wr) ∧ Sld (lsA cs j = true) ∧ Sld (Below W1.heap.size W1 wr)) (fun _ i _ => cs.length - (RowKit.intOf i).toNat)
    case atStart => exact ⟨0, Nat.zero_le _, rfl, ⟨LsM.nil _ _ _ _⟩, ⟨rfl⟩, HB2⟩
    case round =>
      obtain ⟨j, hj, rfl, HL, HA, HBr⟩ := hrel
      clear q0 q1 q2 HB2 HBW2 p0 p1 p2
      obtain ⟨q0, q1, q2, hbw⟩ := HP.out wr HBr.out
      have HBW := Sld.mk hbw
      by_cases hlt : j < cs.length
      · obtain ⟨b, o, na, nc, hca, hbl, c0, c1, hN⟩ : ∃ b o na nc, ca = some ⟨b, o, none⟩ ∧ b < w.heap.size ∧ w.cell? ⟨b, o + j * 2, none⟩ = some (.slice na (clA cs j).nodes.length nc) ∧ w.cell? ⟨b, o + j * 2 + 1, none⟩ = some (.int .i64 (clA cs j).size) ∧ Nodes w w.heap.size (.slice na (clA cs j).nodes.length nc) (clA cs j).nodes := by
          obtain ⟨ao, cap, h1, _, _, h2⟩ := HC.out
          injection h1 with h1 _ _
          rcases h2 with h2 | ⟨b, o, h2, hbl, h3⟩
          · subst h2; simp at hlt
          · obtain ⟨na, nc, h4, h5, h6⟩ := h3 j hlt
            exact ⟨b, o, na, nc, h1.trans h2, hbl, h4, h5, h6⟩
        subst hca
        have c0 := (hbw.cell (p := ⟨b, o + j * 2, none⟩) hbl).trans c0
        have c1 := (hbw.cell (p := ⟨b, o + j * 2 + 1, none⟩) hbl).trans c1
        have hin := HIN.out (clA cs j) (by unfold clA; rw [getD_atT hlt]; exact List.getElem_mem hlt)
        have CL : Sld (∀ V, Below w.heap.size w V → Calls Tryz.prog 62 #[.agg #[.slice na (clA cs j).nodes.length nc, .int .i64 (clA cs j).size], .slice (some ⟨b, o, none⟩) cs.length cc] V fun e w' => LsR cs (clA cs j) w e ∧ Below V.heap.size V w') := ⟨fun V hV => least_any (clA cs j) cs na _ nc cc w V hV (HT.out.below hV) hN (HC.out.below hV hV.size) hin⟩
        have HLO : Sld (lsO cs j = ((lstF cs (clA cs j)).isSome && (j == 0 || decide (lsS (lsN cs (j - 1)) (lsN cs j) (clA cs (j - 1)).size (clA cs j).size < 0)))) := ⟨rfl⟩
        have HLN : Sld (lsN cs j = ndA (clA cs j).nodes ((lstF cs (clA cs j)).getD 0)) := ⟨rfl⟩
        have hltI : (j : Int) < (cs.length : Int) := by omega
        obtain ⟨ao, cap, hve⟩ := HL.out.form
        subst hve
        clear hN hin
        obtain ⟨c, hce⟩ : ∃ c, clA cs j = c := ⟨_, rfl⟩
        rw [hce] at c0 c1 CL HLO HLN
        have HCE := Sld.mk hce
        clear hce
        obtain ⟨nodes, size⟩ := c
        simp only at c0 c1 CL HLO HLN
        obtain ⟨W3, hW3⟩ : ∃ W3, wr.alloc (.cells #[.slice na nodes.length nc, .int .i64 size] 49) = W3 := ⟨_, rfl⟩
        have hb3 : Below wr.heap.size wr W3 := by rw [← hW3]; exact (Below.refl _ _).alloc (Nat.le_refl _) _
        have kc3 : W3.heap[wr.heap.size]? = some (.cells #[.slice na nodes.length nc, .int .i64 size] 49 (0, 0)) := by rw [← hW3, Deep.blk_alloc_new]
        have HB3 : Sld (Below W1.heap.size W1 W3) := ⟨HBr.out.trans (hb3.mono HBr.out.size)⟩
        have HL3 := Sld.mk (HL.out.below hb3)
        have HKC := Sld.mk kc3
        have HW3 := Sld.mk hW3
        have HBW3 : Sld (Below w.heap.size w W3) := ⟨(HP.out W3 HB3.out).2.2.2⟩
        clear hb3 kc3 hW3 hbw
        go_wp2_with fail
        rw [HW3.out]
        refine (CL.out W3 HBW3.out).mono ?_
        rintro e w5 ⟨hR, hb5⟩
        have HB5 : Sld (Below W1.heap.size W1 w5) := ⟨HB3.out.trans (hb5.mono HB3.out.size)⟩
        have HL5 := Sld.mk (HL3.out.below hb5)
        have HBW5 : Sld (Below w.heap.size w w5) := ⟨(HP.out w5 HB5.out).2.2.2⟩
        have HKC5 := Sld.mk ((hb5.block _ (lt_of_block HKC.out)).trans HKC.out)
        clear hb5 HKC HL3 HBW3
        rcases hR with ⟨hno, rfl⟩ | ⟨i, ka, kc, hi, hil, rfl, hK⟩
        · have HE : Sld (∀ W, LsF w (w.heap.size + 1) cs roots (.returned (.tuple #[.slice none 0 0, .bool false])) W) := ⟨fun W => HNO.out j W hlt (by rw [HLO.out, hno]; rfl)⟩
          clear hno
          go_wp2_with fail
          refine bodyPost_ret (v := .tuple #[.slice none 0 0, .bool false]) (by simp [results, Tryz.results39, go_sem]) rfl ⟨HE.out _, HBW5.out.alloc HBW5.out.size _⟩
        · have hxe : lsN cs j = ndA nodes i := by rw [HLN.out, hi]; rfl
          have hlo := HLO.out
          rw [hi] at hlo
          simp only [Option.isSome_some, Bool.true_and] at hlo
          have HLO2 := Sld.mk hlo
          simp only at hil hK
          generalize ndA nodes i = x at *
          have HX := Sld.mk hxe
          have HK := Sld.mk hK
          clear hxe hK hlo hi hil HLO HLN
          obtain ⟨op, n, nm, ks⟩ := x
          simp only at HK ⊢
          obtain ⟨W7, hW7⟩ : ∃ W7, w5.alloc (.cells #[.int .i64 op, .int .i64 n, .string nm, .slice ka ks.length kc] 41) = W7 := ⟨_, rfl⟩
          have hb7 : Below w5.heap.size w5 W7 := by rw [← hW7]; exact (Below.refl _ _).alloc (Nat.le_refl _) _
          have HKN : Sld (W7.heap[w5.heap.size]? = some (.cells #[.int .i64 op, .int .i64 n, .string nm, .slice ka ks.length kc] 41 (0, 0))) := ⟨by rw [← hW7, Deep.blk_alloc_new]⟩
          have HB7 : Sld (Below W1.heap.size W1 W7) := ⟨HB5.out.trans (hb7.mono HB5.out.size)⟩
          have HL7 := Sld.mk (HL5.out.below hb7)
          have HKC7 := Sld.mk ((hb7.block _ (lt_of_block HKC5.out)).trans HKC5.out)
          have HW7 := Sld.mk hW7
          have HBW7 : Sld (Below w.heap.size w W7) := ⟨(HP.out W7 HB7.out).2.2.2⟩
          clear hb7 hW7 HL5 HKC5
          by_cases hj0 : j = 0
          · have hjI : ¬ ((0 : Int) < (j : Int)) := by omega
            have hjN : ¬ (0 < j) := by omega
            have HA1 : Sld (lsA cs (j + 1) = true) := ⟨by unfold lsA; rw [HA.out, HLO2.out, hj0]; rfl⟩
            clear hj0
            go_upto_region 14 with fail
            rw [HW7.out]
            obtain ⟨m0, m1, m2, m3⟩ := blk4N HKN.out
            obtain ⟨W8, hW8⟩ : ∃ W8, W7.alloc (.cells #[.int .i64 op, .int .i64 n, .string nm, .slice ka ks.length kc] 41) = W8 := ⟨_, rfl⟩
            have hb8 : Below W7.heap.size W7 W8 := by rw [← hW8]; exact (Below.refl _ _).alloc (Nat.le_refl _) _
            have kb8 : W8.heap[W7.heap.size]? = some (.cells #[.int .i64 op, .int .i64 n, .string nm, .slice ka ks.length kc] 41 (0, 0)) := by rw [← hW8, Deep.blk_alloc_new]
            obtain ⟨p, hp1, hp2, hp3⟩ := HL7.out.below hb8
            have HP2 := Sld.mk hp2
            have HP3 := Sld.mk hp3
            have hnews : ∀ i u, (ndCells [((⟨op, n, nm, ks⟩ : Nd), Value.slice ka ks.length kc)])[i]? = some u → W8.cell? ((⟨W7.heap.size, 0, none⟩ : Addr).add i) = some u := fun i u hu => by
              have e : ndCells [((⟨op, n, nm, ks⟩ : Nd), Value.slice ka ks.length kc)] = [.int .i64 op, .int .i64 n, .string nm, .slice ka ks.length kc] := rfl
              rw [e] at hu
              rw [Go.WideShapes.add_plain]
              have h4 := blk4N kb8
              match i, hu with
              | 0, hu => cases hu; exact h4.1
              | 1, hu => cases hu; exact h4.2.1
              | 2, hu => cases hu; exact h4.2.2.1
              | 3, hu => cases hu; exact h4.2.2.2
            have hone : ∀ u ∈ ndCells [((⟨op, n, nm, ks⟩ : Nd), Value.slice ka ks.length kc)], u.oneCell' = true := fun u hu => by
              have e : ndCells [((⟨op, n, nm, ks⟩ : Nd), Value.slice ka ks.length kc)] = [.int .i64 op, .int .i64 n, .string nm, .slice ka ks.length kc] := rfl
              rw [e] at hu
              simp only [List.mem_cons, List.not_mem_nil, or_false] at hu
              rcases hu with rfl | rfl | rfl | rfl <;> rfl
            have hbs8 : w.heap.size + 1 ≤ W8.heap.size := by have := HB7.out.size; have := hb8.size; have := HS1.out; omega
            have HB8 : Sld (Below W1.heap.size W1 W8) := ⟨HB7.out.trans (hb8.mono HB7.out.size)⟩
            have HOW : Sld (∀ r, (Value.slice ao j cap).ownBlock = some r → W1.heap.size ≤ r) := ⟨fun r e => by have := (rw_block hp1 e).1; have := HS1.out; omega⟩
            rw [← hW8] at hp1 hnews hbs8
            have HW8 := Sld.mk hW8
            clear hW8 hb8 kb8 hp2 hp3
            go_wp2_with (at_builtin; refine wpList_append_own _ rfl _ _ 22 rfl (w.heap.size + 1) 41 i0 (.agg #[.int .i64 0, .int .i64 0, .string ⟨#[]⟩, .slice none 0 0]) 4 56 Tryz.underlying22 hi0 hz0 hz1 hz2 rfl (by decide) _ j (ndCells p) rfl hp1 ⟨W7.heap.size, 0, none⟩ 1 1 (ndCells [(⟨op, n, nm, ks⟩, .slice ka ks.length kc)]) rfl (by rw [ndCells_length]; rfl) hnews hone (by unfold maxLen; omega) (by omega) hbs8 ?_; intro v' w9 hown hgrow hnil')
            rw [HW8.out] at hgrow
            have HL9 : Sld (LsM w (w.heap.size + 1) cs (j + 1) v' w9) := ⟨LsM.snoc HP2.out HP3.out (by rw [HX.out]; exact HK.out) (by rw [HX.out]; exact hown)⟩
            have HB9 : Sld (Below W1.heap.size W1 w9) := ⟨HB8.out.grown hgrow HB8.out.size HOW.out⟩
            clear hown hgrow hnil'
            go_wp2_with fail
            exact ⟨⟨j + 1, by omega, by go_num, HL9, HA1, HB9⟩, by simp [RowKit.intOf]; omega⟩
          · have hjI : (0 : Int) < (j : Int) := by omega
            have hjN : 0 < j := by omega
            have hdec : decide (0 < j) = true := by simp [hjN]
            have hdec2 : decide ((0 : Int) < (j : Int)) = true := by simp [hjN]
            obtain ⟨m, hm⟩ : ∃ m, j = m + 1 := ⟨j - 1, by omega⟩
            have hmI : (m : Int) < (cs.length : Int) := by omega
            have hmJ : (m : Int) < (j : Int) := by omega
            have hmc : m < cs.length := by omega
            have hmjN : m < j := by omega
            have hm0 : (0 : Int) ≤ (m : Int) := by omega
            have hw2 : IntKind.i64.wrap ((j : Int) - 1) = (j : Int) - 1 := IntWalk.i64_in _ (by omega)
            have hw3 : (0 : Int) ≤ (j : Int) - 1 := by omega
            have hw4 : (j : Int) - 1 < (j : Int) := by omega
            have hw5 : (j : Int) - 1 < (cs.length : Int) := by omega
            have hw6 : ((j : Int) - 1).toNat = m := by omega
            have hw7 : (1 : Int) ≤ (j : Int) := by omega
            have hw8 : 1 ≤ j := by omega
            have hw9 : (j : Int) ≤ (cs.length : Int) := by omega
            obtain ⟨g, cp, pa, pc, hv, hj1, hcp, hgl, e0, e1, e2, e3, hKp⟩ := HL7.out.at_ (i := m) (by omega)
            injection hv with hv1 _ hv3
            subst hv1 hv3
            unfold maxLen at hcp
            have cz : W7.cell? ⟨b, o + m * 2 + 1, none⟩ = some (.int .i64 (clA cs m).size) := by
              obtain ⟨ao, cap, h1, _, _, h2⟩ := HC.out
              injection h1 with h1 _ _
              rcases h2 with h2 | ⟨b', o', h2, hbl', h3⟩
              · subst h2; simp at hmc
              · rw [← h1] at h2
                injection h2 with h2
                injection h2 with h2a h2b _
                subst h2a h2b
                obtain ⟨_, _, _, h5, _⟩ := h3 m hmc
                exact (HBW7.out.cell (p := ⟨b, o + m * 2 + 1, none⟩) hbl').trans h5
            have hlo := HLO2.out
            have hme : j - 1 = m := by omega
            have hjn : (j == 0) = false := by simp [hj0]
            rw [hme, hjn, Bool.false_or, HX.out] at hlo
            have HLO3 := Sld.mk hlo
            clear hlo hme hjn HLO2 hm hj0
            generalize (clA cs m).size = sy at *
            generalize lsN cs m = y at *
            obtain ⟨yo, yn, ym, yk⟩ := y
            simp only at e0 e1 e2 e3 hKp
            have CLS : Sld (∀ V, Below w.heap.size w V → Calls Tryz.prog 63 #[.agg #[.int .i64 yo, .int .i64 yn, .string ym, .slice pa yk.length pc, .int .i64 sy, .int .i64 0], .agg #[.int .i64 op, .int .i64 n, .string nm, .slice ka ks.length kc, .int .i64 size, .int .i64 0]] V fun e w' => e = .returned (.bool (decide (lsS ⟨yo, yn, ym, yk⟩ ⟨op, n, nm, ks⟩ sy size < 0))) ∧ Below V.heap.size V w') := ⟨fun V hV => gless_any ⟨yo, yn, ym, yk⟩ ⟨op, n, nm, ks⟩ pa ka pc kc sy size 0 0 V (HT.out.below hV) (hKp.below hV hV.size) (HK.out.below hV hV.size)⟩
            have cb := (HP.out W7 HB7.out).1
            obtain ⟨s0, s1, s2, s3⟩ := blk4N HKN.out
            have kc7 := HKC7.out
            have s4 : W7.cell? ⟨wr.heap.size, 1, none⟩ = some (.int .i64 size) := by simp [World.cell?, kc7]
            have l1 := lt_of_block HKN.out
            have l2 := lt_of_block kc7
            obtain ⟨W9, hW9⟩ : ∃ W9, (W7.alloc (.cells #[.int .i64 yo, .int .i64 yn, .string ym, .slice pa yk.length pc, .int .i64 sy, .int .i64 0] 115)).drew = W9 := ⟨_, rfl⟩
            have HBT9 : Sld (Below W7.heap.size W7 W9) := ⟨by rw [← hW9]; exact ((Below.refl _ _).alloc (Nat.le_refl _) _).drew⟩
            have HB9' : Sld (Below W1.heap.size W1 W9) := ⟨HB7.out.trans (HBT9.out.mono HB7.out.size)⟩
            have HBW9 : Sld (Below w.heap.size w W9) := ⟨(HP.out W9 HB9'.out).2.2.2⟩
            have HW9 := Sld.mk hW9
            clear hKp kc7 hW9
            go_upto_region 11 with fail
            rw [HW7.out]
            go_region_held3 (fun V => V.cell? ⟨g, m * 4, none⟩ = some (.int .i64 yo) ∧ V.cell? ⟨g, m * 4 + 1, none⟩ = some (.int .i64 yn) ∧ V.cell? ⟨g, m * 4 + 2, none⟩ = some (.string ym) ∧ V.cell? ⟨g, m * 4 + 3, none⟩ = some (.slice pa yk.length pc) ∧ V.cell? ⟨b, o + m * 2 + 1, none⟩ = some (.int .i64 sy) ∧ V.cell? ⟨w.heap.size, 0, none⟩ = some (.slice (some ⟨b, o, none⟩) cs.length cc)) (go_keep) (fail)
            go_wp2_with fail
            rw [HW9.out]
            refine (CLS.out W9 HBW9.out).mono ?_
            rintro e w10 ⟨rfl, hb10⟩
            have hbt : Below W7.heap.size W7 w10 := HBT9.out.trans (hb10.mono HBT9.out.size)
            have HB10 : Sld (Below W1.heap.size W1 w10) := ⟨HB7.out.trans (hbt.mono HB7.out.size)⟩
            have HL10 := Sld.mk (HL7.out.below hbt)
            have HKN10 := Sld.mk ((hbt.block _ (lt_of_block HKN.out)).trans HKN.out)
            have HBW10 : Sld (Below w.heap.size w w10) := ⟨(HP.out w10 HB10.out).2.2.2⟩
            clear hb10 hbt s0 s1 s2 s3 s4 l1 l2 CLS e0 e1 e2 e3 cz cb
            by_cases hls : lsS ⟨yo, yn, ym, yk⟩ ⟨op, n, nm, ks⟩ sy size < 0
            · have hd : decide (lsS ⟨yo, yn, ym, yk⟩ ⟨op, n, nm, ks⟩ sy size < 0) = true := by simp [hls]
              have HA1 : Sld (lsA cs (j + 1) = true) := ⟨by unfold lsA; rw [HA.out, HLO3.out, hd]; rfl⟩
              rw [hd]
              clear hd hls HLO3
              obtain ⟨m0, m1, m2, m3⟩ := blk4N HKN10.out
              obtain ⟨W8, hW8⟩ : ∃ W8, w10.alloc (.cells #[.int .i64 op, .int .i64 n, .string nm, .slice ka ks.length kc] 41) = W8 := ⟨_, rfl⟩
              have hb8 : Below w10.heap.size w10 W8 := by rw [← hW8]; exact (Below.refl _ _).alloc (Nat.le_refl _) _
              have kb8 : W8.heap[w10.heap.size]? = some (.cells #[.int .i64 op, .int .i64 n, .string nm, .slice ka ks.length kc] 41 (0, 0)) := by rw [← hW8, Deep.blk_alloc_new]
              obtain ⟨p, hp1, hp2, hp3⟩ := HL10.out.below hb8
              have HP2 := Sld.mk hp2
              have HP3 := Sld.mk hp3
              have hnews : ∀ i u, (ndCells [((⟨op, n, nm, ks⟩ : Nd), Value.slice ka ks.length kc)])[i]? = some u → W8.cell? ((⟨w10.heap.size, 0, none⟩ : Addr).add i) = some u := fun i u hu => by
                have e : ndCells [((⟨op, n, nm, ks⟩ : Nd), Value.slice ka ks.length kc)] = [.int .i64 op, .int .i64 n, .string nm, .slice ka ks.length kc] := rfl
                rw [e] at hu
                rw [Go.WideShapes.add_plain]
                have h4 := blk4N kb8
                match i, hu with
                | 0, hu => cases hu; exact h4.1
                | 1, hu => cases hu; exact h4.2.1
                | 2, hu => cases hu; exact h4.2.2.1
                | 3, hu => cases hu; exact h4.2.2.2
              have hone : ∀ u ∈ ndCells [((⟨op, n, nm, ks⟩ : Nd), Value.slice ka ks.length kc)], u.oneCell' = true := fun u hu => by
                have e : ndCells [((⟨op, n, nm, ks⟩ : Nd), Value.slice ka ks.length kc)] = [.int .i64 op, .int .i64 n, .string nm, .slice ka ks.length kc] := rfl
                rw [e] at hu
                simp only [List.mem_cons, List.not_mem_nil, or_false] at hu
                rcases hu with rfl | rfl | rfl | rfl <;> rfl
              have hbs8 : w.heap.size + 1 ≤ W8.heap.size := by have := HB10.out.size; have := hb8.size; have := HS1.out; omega
              have HB8 : Sld (Below W1.heap.size W1 W8) := ⟨HB10.out.trans (hb8.mono HB10.out.size)⟩
              have HOW : Sld (∀ r, (Value.slice (some ⟨g, 0, none⟩) j cap).ownBlock = some r → W1.heap.size ≤ r) := ⟨fun r e => by have := (rw_block hp1 e).1; have := HS1.out; omega⟩
              rw [← hW8] at hp1 hnews hbs8
              have HW8 := Sld.mk hW8
              clear hW8 hb8 kb8 hp2 hp3
              go_wp2_with (at_builtin; refine wpList_append_own _ rfl _ _ 22 rfl (w.heap.size + 1) 41 i0 (.agg #[.int .i64 0, .int .i64 0, .string ⟨#[]⟩, .slice none 0 0]) 4 56 Tryz.underlying22 hi0 hz0 hz1 hz2 rfl (by decide) _ j (ndCells p) rfl hp1 ⟨w10.heap.size, 0, none⟩ 1 1 (ndCells [(⟨op, n, nm, ks⟩, .slice ka ks.length kc)]) rfl (by rw [ndCells_length]; rfl) hnews hone (by unfold maxLen; omega) (by omega) hbs8 ?_; intro v' w9 hown hgrow hnil')
              rw [HW8.out] at hgrow
              have HL9 : Sld (LsM w (w.heap.size + 1) cs (j + 1) v' w9) := ⟨LsM.snoc HP2.out HP3.out (by rw [HX.out]; exact HK.out) (by rw [HX.out]; exact hown)⟩
              have HB9 : Sld (Below W1.heap.size W1 w9) := ⟨HB8.out.grown hgrow HB8.out.size HOW.out⟩
              clear hown hgrow hnil'
              go_wp2_with fail
              exact ⟨⟨j + 1, by omega, by go_num, HL9, HA1, HB9⟩, by simp [RowKit.intOf]; omega⟩
            · have hd : decide (lsS ⟨yo, yn, ym, yk⟩ ⟨op, n, nm, ks⟩ sy size < 0) = false := by simp [hls]
              have HE : Sld (LsF w (w.heap.size + 1) cs roots (.returned (.tuple #[.slice none 0 0, .bool false])) w10) := ⟨HNO.out j _ hlt (by rw [HLO3.out, hd])⟩
              rw [hd]
              clear hd hls HLO3
              go_wp2_with fail
              refine bodyPost_ret (v := .tuple #[.slice none 0 0, .bool false]) (by simp [results, Tryz.results39, go_sem]) rfl ⟨HE.out, HBW10.out⟩
      · have hje : j = cs.length := by omega
        subst hje
        obtain ⟨ao, cap, hve⟩ := HL.out.form
        subst hve
        have HE := Sld.mk (HYE.out _ _ HA.out HL.out)
        go_wp2_with fail
        refine bodyPost_ret (v := .tuple #[.slice ao cs.length cap, .bool true]) (by simp [results, Tryz.results39, go_sem]) rfl ⟨HE.out, HBW.out⟩
end Go.Proofs.YtlbmijcpalfaeaaGreatDoor

set_option linter.unusedSimpArgs false
set_option linter.unusedVariables false
namespace Go.Proofs.YtlbmijcpalfaeaaGreatDoor
open Go.RowKit Go.Lib

/-- Kids against kids, as long as nothing has been found. -/
def ordK (F : Int → Int → Int) : Int → List Int → List Int → Int
  | c, k :: ks, m :: ms => if c = 0 then ordK F (F k m) ks ms else c
  | c, _, _ => c
def heads (x y : Nd) : Int := orL [cmp3 x.op y.op, cmp3 x.n y.n, ordI x.name y.name]
theorem ordK_nz (F : Int → Int → Int) {c : Int} (h : c ≠ 0) (ks ms : List Int) : ordK F c ks ms = c := by
  cases ks <;> cases ms <;> simp [ordK, h]
theorem ordK_nil (F : Int → Int → Int) (c : Int) (ms : List Int) : ordK F c [] ms = c := by
  cases ms <;> simp [ordK]
theorem ordK_zero (F : Int → Int → Int) (k m : Int) (ks ms : List Int) : ordK F 0 (k :: ks) (m :: ms) = ordK F (F k m) ks ms := by simp [ordK]
end Go.Proofs.YtlbmijcpalfaeaaGreatDoor
