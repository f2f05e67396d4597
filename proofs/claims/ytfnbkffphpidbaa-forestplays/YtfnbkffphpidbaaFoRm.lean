/-
  The document's forest in memory; has and reach, walked.
-/
import Derived.Test.YtfnbkffphpidbaaFoRp
set_option linter.unusedSimpArgs false
set_option linter.unusedVariables false
namespace Go.Proofs.Ytfnbkffphpidbaa
open Go.RowKit Go.Lib

structure RfM (w : World) (p : Nat) (v : Value) (n : Nat) (L : List Jt) : Prop where
  blk : w.heap[p]? = some (.cells #[.int .i64 n, v] 29 (0, 0))
  on : w.ownsRow (p + 1) 103 3 v L.length (jtCells L)
  le : n ≤ 1048576
  ll : (L.length + 1) * 24 ≤ 140737488355328
theorem RfM.lt {w : World} {p n : Nat} {v : Value} {L : List Jt} (h : RfM w p v n L) : p < w.heap.size := lt_of_block h.blk
theorem RfM.same {w w' : World} {p n : Nat} {v : Value} {L : List Jt} (h : RfM w p v n L) (h0 : w'.heap[p]? = w.heap[p]?) (hs : ∀ b, v.ownBlock = some b → w'.heap[b]? = w.heap[b]?) : RfM w' p v n L := ⟨h0.trans h.blk, rw_same h.on hs, h.le, h.ll⟩
theorem RfM.below {w w' : World} {p n : Nat} {v : Value} {L : List Jt} (h : RfM w p v n L) (hb : Below w.heap.size w w') : RfM w' p v n L := h.same (hb.block _ h.lt) (fun b hb' => hb.block b (rw_block h.on hb').2.1)
theorem RfM.c0 {w : World} {p n : Nat} {v : Value} {L : List Jt} (h : RfM w p v n L) : w.cell? ⟨p, 0, none⟩ = some (.int .i64 n) := by simp [World.cell?, h.blk]
theorem RfM.c1 {w : World} {p n : Nat} {v : Value} {L : List Jt} (h : RfM w p v n L) : w.cell? ⟨p, 1, none⟩ = some v := by simp [World.cell?, h.blk]
theorem RfM.fr {w : World} {p n : Nat} {v : Value} {L : List Jt} (h : RfM w p v n L) (i : Nat) : w.frozen? ⟨p, i, none⟩ = false := by simp [World.frozen?, h.blk]
theorem RfM.form {w : World} {p n : Nat} {v : Value} {L : List Jt} (h : RfM w p v n L) : ∃ ao cap, v = .slice ao L.length cap := rw_form h.on
/-- A joint's cells. -/
structure JtAt (w : World) (g o : Nat) (t : Jt) : Prop where
  c0 : w.cell? ⟨g, o, none⟩ = some (.int .i64 t.1)
  c1 : w.cell? ⟨g, o + 1, none⟩ = some (.int .i64 t.2.1)
  c2 : w.cell? ⟨g, o + 2, none⟩ = some (.int .i64 t.2.2)
theorem RfM.row {w : World} {p n : Nat} {v : Value} {L : List Jt} (h : RfM w p v n L) {i : Nat} (hi : i < L.length) : ∃ g cap, v = .slice (some ⟨g, 0, none⟩) L.length cap ∧ g < w.heap.size ∧ L.length ≤ cap ∧ cap ≤ maxLen ∧ ∀ i, i < L.length → JtAt w g (i * 3) (L.getD i jt0) := by
  rcases h.on.2 with ⟨h0, h1⟩ | ⟨g, cap, cur, hv, hb, hbk, hn, hm, _⟩
  · omega
  · subst hv
    refine ⟨g, cap, rfl, lt_of_block hbk, hn, hm, fun i hi => ?_⟩
    have key : ∀ k, k < 3 → w.cell? ⟨g, i * 3 + k, none⟩ = (jtC (L.getD i jt0))[k]? := fun k hk => by
      obtain ⟨u, h1, h2⟩ := rw_cell h.on (i := i * 3 + k) (by omega)
      rw [h1, ← h2, jtCells_at L i k hi hk]
    exact ⟨key 0 (by omega), key 1 (by omega), key 2 (by omega)⟩
theorem JtAt.below {w w' : World} {b o : Nat} {t : Jt} {B : Nat} (h : JtAt w b o t) (hb : Below B w w') (hl : b < B) : JtAt w' b o t :=
  ⟨(hb.cell (p := ⟨b, o, none⟩) hl).trans h.c0, (hb.cell (p := ⟨b, o + 1, none⟩) hl).trans h.c1, (hb.cell (p := ⟨b, o + 2, none⟩) hl).trans h.c2⟩

def hasR (n : Nat) (a : Int) : Bool := decide (0 ≤ a) && decide (a < (n : Int))
theorem hasR_iff {n : Nat} {a : Int} : hasR n a = true ↔ ∃ x : Nat, a = x ∧ x < n := by
  unfold hasR
  rw [Bool.and_eq_true, decide_eq_true_eq, decide_eq_true_eq]
  constructor
  · rintro ⟨h1, h2⟩; exact ⟨a.toNat, by omega, by omega⟩
  · rintro ⟨x, rfl, h⟩; exact ⟨by omega, by omega⟩
theorem rhas_any (w : World) (p n : Nat) (v : Value) (L : List Jt) (a : Int) (h : RfM w p v n L) : Calls Try.prog 47 #[.pointer (some ⟨p, 0, none⟩), .int .i64 a] w fun e w' => e = .returned (.bool (hasR n a)) ∧ w' = w := by
  have c0 := h.c0
  unfold hasR
  by_cases h0 : 0 ≤ a
  · go_enter Try.func47, Try.ntmps47
    go_wp2_with fail
    go_ret
    exact ⟨by simp [h0], rfl⟩
  · go_enter Try.func47, Try.ntmps47
    go_wp2_with fail
    go_ret
    exact ⟨by rw [show decide (0 ≤ a) = false from decide_eq_false (by omega), Bool.false_and]; try rfl, rfl⟩

/-- A list of numbers, of the call's own. -/
def iI (x : Int) : Value := .int .i64 x
def OwnI (w : World) (base : Nat) (v : Value) (l : List Int) : Prop := w.ownsRow base 3 1 v l.length (l.map iI)
theorem OwnI.below {w w' : World} {base : Nat} {v : Value} {l : List Int} (h : OwnI w base v l) (hb : Below w.heap.size w w') : OwnI w' base v l := rw_same h (fun b hb' => hb.block b (rw_block h hb').2.1)
theorem OwnI.cell {w : World} {base g n cap : Nat} {l : List Int} (h : OwnI w base (.slice (some ⟨g, 0, none⟩) n cap) l) {i : Nat} (hi : i < l.length) : w.cell? ⟨g, i, none⟩ = some (.int .i64 (l.getD i 0)) := by
  have hn : n = l.length := by
    obtain ⟨_, _, e⟩ := rw_form h
    injection e
  subst hn
  obtain ⟨u, h1, h2⟩ := rw_cell h (i := i) (by omega)
  rw [h1, ← h2, List.getElem?_map, List.getElem?_eq_getElem hi, List.getD_eq_getElem?_getD, List.getElem?_eq_getElem hi]
  rfl
theorem OwnI.put {w : World} {base g n cap : Nat} {l : List Int} (h : OwnI w base (.slice (some ⟨g, 0, none⟩) n cap) l) (i : Nat) (x : Int) : OwnI (w.setCell ⟨g, i, none⟩ (.int .i64 x)) base (.slice (some ⟨g, 0, none⟩) n cap) (l.set i x) := by
  have hn : n = l.length := by
    obtain ⟨_, _, e⟩ := rw_form h
    injection e
  subst hn
  have := rw_put h i (.int .i64 x)
  unfold OwnI
  rw [List.length_set, List.map_set]
  exact this
theorem OwnI.fr {w : World} {base g n cap : Nat} {l : List Int} (h : OwnI w base (.slice (some ⟨g, 0, none⟩) n cap) l) (i : Nat) : w.frozen? ⟨g, i, none⟩ = false := by
  have hn : n = l.length := by
    obtain ⟨_, _, e⟩ := rw_form h
    injection e
  subst hn
  exact rw_fro h i
/-- The zeros of a row, by the world. -/
def isZ : Option Value → Bool
  | some (.int _ x) => x == 0
  | _ => false
def zW (w : World) (g n : Nat) : Nat := (List.range n).countP fun i => isZ (w.cell? ⟨g, i, none⟩)
theorem zW_eq {w : World} {base g n cap : Nat} {l : List Int} (h : OwnI w base (.slice (some ⟨g, 0, none⟩) n cap) l) (hl : l.length = n) : zW w g n = zers l := by
  unfold zW zers
  have e : (List.range n).map (fun i => l.getD i 0) = l := by
    refine List.ext_getElem (by simp [hl]) (fun i h1 h2 => ?_)
    simp [h2]
  have e2 : l.countP (· == 0) = ((List.range n).map (fun i => l.getD i 0)).countP (· == 0) := by rw [e]
  rw [e2, List.countP_map]
  apply List.countP_congr
  intro i hi
  rw [List.mem_range] at hi
  rw [h.cell (by omega)]
  rfl
def bN : Value → Nat
  | .bool true => 1
  | _ => 0
theorem made_zeros (n : Nat) : (madeCells (Value.int .i64 0).cells (n * 1)).toList = (List.replicate n (0 : Int)).map iI := by
  apply List.ext_getElem?
  intro i
  rw [List.map_replicate, List.getElem?_replicate]
  by_cases hi : i < n
  · simp [madeCells, hi, Nat.mod_one, iI, Value.cells]
  · simp [madeCells, hi]

set_option maxRecDepth 20000 in
set_option maxHeartbeats 4000000 in
theorem reach_any (w : World) (p n : Nat) (v : Value) (L : List Jt) (a : Nat) (h : RfM w p v n L) (hf : Fst (jJ L)) (hE : ∀ i, i < L.length → (L.getD i jt0).1 < n ∧ (L.getD i jt0).2.1 < n) (ha : a < n) :
    Calls Try.prog 48 #[.pointer (some ⟨p, 0, none⟩), .int .i64 a] w fun e w' => ∃ l, e = .returned (.slice (some ⟨w.heap.size, 0, none⟩) n n) ∧ OwnI w' w.heap.size (.slice (some ⟨w.heap.size, 0, none⟩) n n) l ∧ Rch (jJ L) n a l ∧ Below w.heap.size w w' := by
  obtain ⟨i0, hi, hz0, hz1, hz2⟩ := info_parts Try.infoInt
  have HF : Hid (Fst (jJ L)) := hf
  have HE : Hid (∀ i, i < L.length → (L.getD i jt0).1 < n ∧ (L.getD i jt0).2.1 < n) := hE
  have HM : Hid (RfM w p v n L) := h
  obtain ⟨va, vc, hv⟩ := h.form
  subst hv
  have hn := h.le
  have hll := h.ll
  have c0 := h.c0
  have hpl := h.lt
  have haI : (a : Int) < (n : Int) := by omega
  obtain ⟨w3, hmk, hown3, hg3⟩ := run_make_full (P := Try.prog) w w.heap.size 46 3 i0 (.int .i64 0) 1 Try.underlying46 hi hz0 hz1 .i64 .i64 n (by rw [hz2]; omega) (by unfold maxLen; omega) (Nat.le_refl _)
  rw [made_zeros] at hown3
  have hO3 : OwnI w3 w.heap.size (.slice (some ⟨w.heap.size, 0, none⟩) n n) (List.replicate n 0) := by
    unfold OwnI; rw [List.length_replicate]; exact hown3
  have k3 := hO3.cell (i := a) (by simpa using ha)
  have f3 := hO3.fr a
  obtain ⟨u3, hu3⟩ : ∃ u, (List.replicate n (0 : Int)).getD a 0 = u := ⟨_, rfl⟩
  rw [hu3] at k3
  have HO4 : Hid (OwnI (w3.setCell ⟨w.heap.size, a, none⟩ (.int .i64 (-1))) w.heap.size (.slice (some ⟨w.heap.size, 0, none⟩) n n) ((List.replicate n 0).set a (-1))) := hO3.put a (-1)
  have HB4 : Hid (Below w.heap.size w (w3.setCell ⟨w.heap.size, a, none⟩ (.int .i64 (-1)))) := ((Below.refl w.heap.size w).grown hg3 (Nat.le_refl _) (fun j hj => by cases hj)).setCell (p := ⟨w.heap.size, a, none⟩) (Nat.le_refl _) _
  obtain ⟨g, hg⟩ : ∃ g, w.heap.size = g := ⟨_, rfl⟩
  have HG : Hid (w.heap.size = g) := hg
  rw [hg] at hmk k3 f3 HO4 HB4 hpl ⊢
  clear hf hE h hown3 hO3 hg3 hu3 hg
  go_enter Try.func48, Try.ntmps48
  go_wp2_with fail
  generalize w3.setCell ⟨g, a, none⟩ (.int .i64 (-1)) = w4 at *
  clear hmk k3 f3
  go_loopw [6] (fun mo wr => ∃ (b : Bool) (l : List Int), mo = .bool b ∧ l.length = n ∧ RcI (jJ L) a l ∧ OwnI wr g (.slice (some ⟨g, 0, none⟩) n n) l ∧ Below g w wr ∧ (b = false → RcD (jJ L) l)) (fun mo wr => 2 * zW wr g n + bN mo)
  case atStart => exact ⟨true, _, rfl, by simp, RcI.start ha, HO4.out, HB4.out, fun h => by cases h⟩
  case round =>
    obtain ⟨b, l, rfl, hln, hR, hO, hB, hD⟩ := hrel
    cases b
    · have HR : Hid (Rch (jJ L) n a l) := by rw [← hln]; exact hR.done (hD rfl)
      have HO : Hid (OwnI wr g (.slice (some ⟨g, 0, none⟩) n n) l) := hO
      have HB : Hid (Below g w wr) := hB
      clear hR hO hB hD HO4 HB4
      go_wp2_with fail
      go_ret
      exact ⟨l, rfl, HO.out, HR.out, HB.out⟩
    · have HR : Hid (RcI (jJ L) a l) := hR
      have HO : Hid (OwnI wr g (.slice (some ⟨g, 0, none⟩) n n) l) := hO
      have HB : Hid (Below g w wr) := hB
      have HZ : Hid (zW wr g n = zers l) := zW_eq hO hln
      clear hR hO hB hD HO4 HB4
      go_wp2_with fail
      go_loopw [6, 7] (fun mo i wk => ∃ (b : Bool) (l' : List Int) (k : Nat), k ≤ L.length ∧ mo = .bool b ∧ i = .int .i64 k ∧ l'.length = n ∧ RcI (jJ L) a l' ∧ OwnI wk g (.slice (some ⟨g, 0, none⟩) n n) l' ∧ Below g w wk ∧ (b = false → l' = l ∧ ∀ j, j < k → (l'.getD (eA (jJ L) (j, false)) 0 ≠ 0 ↔ l'.getD (eB (jJ L) (j, false)) 0 ≠ 0)) ∧ (b = true → zers l' < zers l)) (fun _ i _ => L.length - (RowKit.intOf i).toNat)
      case atStart => exact ⟨false, l, 0, by omega, rfl, rfl, hln, HR.out, HO.out, HB.out, fun _ => ⟨rfl, fun j hj => by omega⟩, fun h => by cases h⟩
      case round =>
        obtain ⟨b, l', k, hk, rfl, rfl, hln', hR', hO', hB', hF', hT'⟩ := hrel
        have HR' : Hid (RcI (jJ L) a l') := hR'
        have HO' : Hid (OwnI wr g (.slice (some ⟨g, 0, none⟩) n n) l') := hO'
        have HB' : Hid (Below g w wr) := hB'
        have HF' : Hid (b = false → l' = l ∧ ∀ j, j < k → (l'.getD (eA (jJ L) (j, false)) 0 ≠ 0 ↔ l'.getD (eB (jJ L) (j, false)) 0 ≠ 0)) := hF'
        have HT' : Hid (b = true → zers l' < zers l) := hT'
        have hgs : g < wr.heap.size := by have := rw_block hO' (b := g) rfl; exact this.2.1
        have hc0' : wr.cell? ⟨p, 1, none⟩ = some (.slice va L.length vc) := (hB'.cell (p := ⟨p, 1, none⟩) hpl).trans HM.out.c1
        clear hR' hO' hB' hF' hT'
        by_cases hlt : k < L.length
        · have hltI : (k : Int) < (L.length : Int) := by omega
          obtain ⟨r, cr, hv, hrl, hcn, hcm, hcells⟩ := HM.out.row hlt
          injection hv with hv1 _ hv2
          subst hv1 hv2
          unfold maxLen at hcm
          have hJ := (hcells k hlt).below HB'.out (by have := HG.out; omega)
          obtain ⟨j0, j1, j2⟩ := hJ
          have hrw : r < wr.heap.size := by have := HB'.out.size; omega
          have hEk := HE.out k hlt
          have hjj := jJ_at L k hlt
          obtain ⟨A, hA⟩ : ∃ A, (L.getD k jt0).1 = A := ⟨_, rfl⟩
          obtain ⟨B, hBB⟩ : ∃ B, (L.getD k jt0).2.1 = B := ⟨_, rfl⟩
          obtain ⟨Y, hY⟩ : ∃ Y, (L.getD k jt0).2.2 = Y := ⟨_, rfl⟩
          rw [hA, hBB] at hEk hjj
          rw [hA] at j0
          rw [hBB] at j1
          rw [hY] at j2
          have HJA : Hid (eA (jJ L) (k, false) = A) := hjj.1
          have HJB : Hid (eB (jJ L) (k, false) = B) := hjj.2
          have kA := HO'.out.cell (i := A) (by omega)
          have kB := HO'.out.cell (i := B) (by omega)
          have fA := HO'.out.fr A
          have fB := HO'.out.fr B
          obtain ⟨y, hy⟩ : ∃ y, l'.getD A 0 = y := ⟨_, rfl⟩
          obtain ⟨z, hz⟩ : ∃ z, l'.getD B 0 = z := ⟨_, rfl⟩
          rw [hy] at kA
          rw [hz] at kB
          have HY : Hid (l'.getD A 0 = y) := hy
          have HZZ : Hid (l'.getD B 0 = z) := hz
          have hkL : k < 5864062014805 := by omega
          have hAI : (A : Int) < (n : Int) := by omega
          have hBI : (B : Int) < (n : Int) := by omega
          obtain ⟨W, hW⟩ : ∃ W, wr.alloc (.cells #[.int .i64 A, .int .i64 B, .int .i64 Y] 103) = W := ⟨_, rfl⟩
          have HOW : Hid (OwnI W g (.slice (some ⟨g, 0, none⟩) n n) l') := by rw [← hW]; exact HO'.out.below ((Below.refl _ _).alloc (Nat.le_refl _) _)
          have HBW : Hid (Below g w W) := by rw [← hW]; exact HB'.out.alloc (by omega) _
          have WA : W.cell? ⟨g, A, none⟩ = some (.int .i64 y) := by rw [← hW]; exact (World.cell?_alloc_some _ _ _ (by rw [kA]; rfl)).trans kA
          have WB : W.cell? ⟨g, B, none⟩ = some (.int .i64 z) := by rw [← hW]; exact (World.cell?_alloc_some _ _ _ (by rw [kB]; rfl)).trans kB
          have WfA := HOW.out.fr A
          have WfB := HOW.out.fr B
          have X0 : W.cell? ⟨wr.heap.size, 0, none⟩ = some (.int .i64 A) := by rw [← hW]; exact cell_new _ _ _ _
          have X1 : W.cell? ⟨wr.heap.size, 1, none⟩ = some (.int .i64 B) := by rw [← hW]; exact cell_new _ _ _ _
          have hgne : wr.heap.size ≠ g := by omega
          clear hcells hA hBB hY hjj hy hz kA kB fA fB
          by_cases hy0 : y = 0
          · subst hy0
            by_cases hz0' : z = 0
            · subst hz0'
              go_wp2_with fail
              refine ⟨⟨b, l', k + 1, by omega, rfl, by go_num, hln', HR'.out, HOW.out, HBW.out, fun hb => ⟨(HF'.out hb).1, fun j hj => ?_⟩, HT'.out⟩, by simp [RowKit.intOf]; omega⟩
              rcases Nat.lt_or_ge j k with h1 | h1
              · exact (HF'.out hb).2 j h1
              · obtain rfl : j = k := by omega
                rw [HJA.out, HJB.out, HY.out, HZZ.out]
            · have hzI : (z == 0) = false := beq_eq_false_iff_ne.2 hz0'
              have HN : Hid (RcI (jJ L) a (l'.set A ((k + 1 : Nat) : Int))) := by
                have := RcI.step HF.out HR'.out (e := (k, false)) (by rw [jJ_len]; exact hlt) (by rw [HJA.out]; omega) (by rw [HJB.out]; omega) (by rw [HJA.out]; exact HY.out) (by rw [HJB.out, HZZ.out]; exact hz0')
                rw [HJA.out] at this
                exact this
              have HZS : Hid (zers (l'.set A ((k + 1 : Nat) : Int)) + 1 = zers l') := zers_set l' A _ (by omega) HY.out (by omega)
              go_wp2_with fail
              refine ⟨⟨true, l'.set A ((k + 1 : Nat) : Int), k + 1, by omega, rfl, by go_num, by simpa using hln', HN.out, HOW.out.put A _, HBW.out.setCell (p := ⟨g, A, none⟩) (Nat.le_refl _) _, (fun hb => by cases hb), fun _ => ?_⟩, by simp [RowKit.intOf]; omega⟩
              have h1 := HZS.out
              cases b
              · have := (HF'.out rfl).1; subst this; omega
              · have := HT'.out rfl; omega
          · have hyI : (y == 0) = false := beq_eq_false_iff_ne.2 hy0
            by_cases hz0' : z = 0
            · subst hz0'
              have HN : Hid (RcI (jJ L) a (l'.set B ((k + 1 : Nat) : Int))) := by
                have e1 : eA (jJ L) (k, true) = B := by have := eA_tn (jJ L) (k, false); rw [HJB.out] at this; exact this
                have e2 : eB (jJ L) (k, true) = A := by have := eB_tn (jJ L) (k, false); rw [HJA.out] at this; exact this
                have := RcI.step HF.out HR'.out (e := (k, true)) (by rw [jJ_len]; exact hlt) (by rw [e1]; omega) (by rw [e2]; omega) (by rw [e1]; exact HZZ.out) (by rw [e2, HY.out]; exact hy0)
                rw [e1] at this
                exact this
              have HZS : Hid (zers (l'.set B ((k + 1 : Nat) : Int)) + 1 = zers l') := zers_set l' B _ (by omega) HZZ.out (by omega)
              have hAB : A ≠ B := fun e => by subst e; rw [HY.out] at HZZ; exact hy0 HZZ.out
              have hBA : B ≠ A := fun e => hAB e.symm
              have hk1 : (((k : Int) + 1) == 0) = false := beq_eq_false_iff_ne.2 (by omega)
              go_wp2_with fail
              refine ⟨⟨true, l'.set B ((k + 1 : Nat) : Int), k + 1, by omega, rfl, by go_num, by simpa using hln', HN.out, HOW.out.put B _, HBW.out.setCell (p := ⟨g, B, none⟩) (Nat.le_refl _) _, (fun hb => by cases hb), fun _ => ?_⟩, by simp [RowKit.intOf]; omega⟩
              have h1 := HZS.out
              cases b
              · have := (HF'.out rfl).1; subst this; omega
              · have := HT'.out rfl; omega
            · have hzI : (z == 0) = false := beq_eq_false_iff_ne.2 hz0'
              go_wp2_with fail
              refine ⟨⟨b, l', k + 1, by omega, rfl, by go_num, hln', HR'.out, HOW.out, HBW.out, fun hb => ⟨(HF'.out hb).1, fun j hj => ?_⟩, HT'.out⟩, by simp [RowKit.intOf]; omega⟩
              rcases Nat.lt_or_ge j k with h1 | h1
              · exact (HF'.out hb).2 j h1
              · obtain rfl : j = k := by omega
                rw [HJA.out, HJB.out, HY.out, HZZ.out]
                exact ⟨fun _ => hz0', fun _ => hy0⟩
        · have hke : k = L.length := by omega
          subst hke
          have HZ' : Hid (zW wr g n = zers l') := zW_eq HO'.out hln'
          go_wp2_with fail
          refine ⟨⟨b, l', rfl, hln', HR'.out, HO'.out, HB'.out, fun hb => RcD.of (fun i hi => (HF'.out hb).2 i (by rw [jJ_len] at hi; exact hi))⟩, ?_⟩
          rw [HZ'.out, HZ.out]
          cases b
          · have := (HF'.out rfl).1; subst this; simp [bN]
          · have := HT'.out rfl; simp [bN]; omega
end Go.Proofs.Ytfnbkffphpidbaa
