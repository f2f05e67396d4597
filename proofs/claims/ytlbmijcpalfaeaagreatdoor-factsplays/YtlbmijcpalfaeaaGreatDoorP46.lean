/-
  PgE, ExOpen, PgO.
-/
import Derived.Test.YtlbmijcpalfaeaaGreatDoorP45
import Derived.Deep.Slices
import Derived.SizedLaws
set_option linter.unusedSimpArgs false
set_option linter.unusedVariables false
namespace Go.Proofs.YtlbmijcpalfaeaaGreatDoor
open Go.RowKit Go.Lib Go.Sort

/-- A picture as a law may hand it over. -/
structure PicOk (cs : List Cls) (roots : List Int) : Prop where
  nodes : ∀ c ∈ cs, c.nodes.length * 56 ≤ 140737488351232
  roots : roots.length * 8 ≤ 140737488355328
  num : ∀ c ∈ cellsL cs, N6 c.1.n ∧ c.1.name.size ≤ 281474976710656 ∧ ∀ k ∈ c.1.kids, N6 k
  few : cs.length * 32 ≤ 140737488355328
  kids : ∀ c ∈ cs, ∀ x ∈ c.nodes, x.kids.length * 8 ≤ 140737488355328
set_option maxHeartbeats 2000000 in
theorem pCheck_any (cs : List Cls) (roots : List Int) (ca ra : Option Addr) (cc rc : Nat) (w : World) (T : Tabs w) (hc : Clss w w.heap.size (.slice ca cs.length cc) cs) (hr : Ints w w.heap.size (.slice ra roots.length rc) roots) (hp : PicOk cs roots) :
    Calls Tryz.prog 16 #[.agg #[.slice ca cs.length cc, .slice ra roots.length rc]] w fun e w' => CkQ (ofB cs roots) e ∧ Below w.heap.size w w' := by
  obtain ⟨W1, hW1⟩ : ∃ W1, w.alloc (.cells #[.slice ca cs.length cc, .slice ra roots.length rc] 26) = W1 := ⟨_, rfl⟩
  have hb1 : Below w.heap.size w W1 := by rw [← hW1]; exact (Below.refl _ _).alloc (Nat.le_refl _) _
  have hk1 : W1.heap[w.heap.size]? = some (.cells #[.slice ca cs.length cc, .slice ra roots.length rc] 26 (0, 0)) := by rw [← hW1, Deep.blk_alloc_new]
  have p0 : W1.cell? ⟨w.heap.size, 0, none⟩ = some (.slice ca cs.length cc) := by simp [World.cell?, hk1]
  have p1 : W1.cell? ⟨w.heap.size, 1, none⟩ = some (.slice ra roots.length rc) := by simp [World.cell?, hk1]
  have CO := Sld.mk (Gt.gOf_any cs roots ca ra cc rc W1 (T.below hb1) (hc.below hb1 hb1.size) (hr.below hb1 hb1.size) hp.nodes hp.roots (fun c hc => ⟨(hp.num c hc).1, (hp.num c hc).2.1⟩))
  have HW1 := Sld.mk hW1
  have HB1 := Sld.mk hb1
  generalize ofB cs roots = B at *
  clear hW1 hb1 hk1 hc hr T hp
  go_enter Tryz.func16, Tryz.ntmps16
  go_wp2_with fail
  rw [HW1.out]
  go_wp2_with fail
  refine CO.out.mono ?_
  rintro e w2 ⟨⟨v, z, rfl, hz⟩, hb2⟩
  have HZ := Sld.mk hz
  have HB2 := Sld.mk (HB1.out.trans (hb2.mono HB1.out.size))
  clear hb2 CO hz
  go_wp2_with fail
  go_ret
  exact ⟨⟨z, rfl, HZ.out⟩, HB2.out⟩
end Go.Proofs.YtlbmijcpalfaeaaGreatDoor

set_option linter.unusedSimpArgs false
set_option linter.unusedVariables false
namespace Go.Proofs.YtlbmijcpalfaeaaGreatDoor
open Go.RowKit Go.Lib Go.ChangeShapes Go.WideShapes Go.Deep

theorem Tryz.laidOut : laidOutB Tryz.prog = true := by kernel_rfl
theorem Tryz.cells3 : Tryz.prog.cellsOf 3 = 1 := by kernel_rfl
theorem Tryz.cells2 : Tryz.prog.cellsOf 2 = 1 := by kernel_rfl
theorem Tryz.cellsStr : Tryz.prog.cellsOf 9 = 1 := by kernel_rfl
theorem Tryz.cellsInts : Tryz.prog.cellsOf 24 = 1 := by kernel_rfl
theorem Tryz.cellsNode : Tryz.prog.cellsOf 41 = 4 := by kernel_rfl
theorem Tryz.bytes3 : Tryz.prog.bytesOf 3 = 8 := by kernel_rfl
theorem Tryz.bytesNode : Tryz.prog.bytesOf 41 = 56 := by kernel_rfl

theorem len4 {α : Type} (l : List α) (h : l.length = 4) : ∃ a b c d, l = [a, b, c, d] := by
  match l, h with
  | [a, b, c, d], _ => exact ⟨a, b, c, d, rfl⟩

theorem spot_none {w : World} {a : Addr} {v : Value} (h : w.cell? a = some v) : a.spot = none := by
  unfold World.cell? at h
  split at h
  · split at h
    · cases h
    · rename_i hs; simpa using hs
  · cases h

section
variable {H : Type} {enc : TypeId × Value → H} {w : World}

/-- The kids' slice. -/
theorem open_kids {fuel : Nat} {v : Value} {x : DataW H × List MemPlace} (h : DataW.trod enc Tryz.prog w 0 (fun _ => true) true fuel 24 [v] = some x) :
    ∃ ks, Ints w w.heap.size v ks ∧ ((∀ n ∈ x.1.weights Tryz.prog 24, n ≤ reachBytes) → ks.length * 8 ≤ 140737488351232) := by
  rcases open_ints Tryz.underlying24 Tryz.underlying3 Tryz.cells3 h with ⟨hcs, rfl⟩ | ⟨a, len, cap, zs, hcs, _, hl, hm, hz, rfl, hc, _⟩
  · simp only [List.cons.injEq, and_true] at hcs
    subst hcs
    exact ⟨[], ⟨none, 0, rfl, by simp, ⟨by simp [maxLen], fun _ => rfl⟩, .inl rfl⟩, fun _ => by simp⟩
  · simp only [List.cons.injEq, and_true] at hcs
    subst hcs
    simp only [if_true] at hz
    have hlen : (zs.take len).length = len := by simp; omega
    refine ⟨zs.take len, ⟨some a, cap, by rw [hlen], by omega, ⟨hm, by simp⟩, ?_⟩, fun hw => ?_⟩
    · by_cases h0 : len = 0
      · left; exact List.length_eq_zero_iff.1 (by omega)
      · right
        have hc0 := hc 0 (by omega)
        obtain ⟨b, o, sp⟩ := a
        have hsp : sp = none := by
          have e : (⟨b, o, sp⟩ : Addr).add 0 = ⟨b, o, sp⟩ := rfl
          rw [e] at hc0; exact spot_none hc0
        subst hsp
        refine ⟨b, o, rfl, World.block_lt_of_cell? _ _ hc0, fun j hj => ?_⟩
        rw [hlen] at hj
        have := hc j (by omega)
        rw [Go.WideShapes.add_plain] at this
        rw [this]
        simp [List.getElem?_take, hj]
    · have := hw ((((lits .i64 (zs.take len)).length : Nat) + (lits .i64 (zs.drop len)).length) * Tryz.prog.bytesOf 3) (by simp only [DataW.weights, Tryz.underlying24 ]; exact List.mem_cons_self ..)
      rw [Tryz.bytes3] at this
      simp only [lits, List.length_map, List.length_take, List.length_drop, reachBytes] at this
      rw [hlen]; omega

/-- One node. -/
theorem open_node {fuel : Nat} {cs : List Value} {x : DataW H × List MemPlace} (h : DataW.trod enc Tryz.prog w 0 (fun _ => true) true fuel 41 cs = some x) :
    ∃ (y : Nd) (kv : Value), cs = [.int .i64 y.op, .int .i64 y.n, .string y.name, kv] ∧ Ints w w.heap.size kv y.kids ∧ (y.name.size ≤ maxLen ∧ (Lit.int .i64 y.n).wf = true) ∧ ((∀ n ∈ x.1.weights Tryz.prog 41, n ≤ reachBytes) → y.kids.length * 8 ≤ 140737488351232) := by
  obtain ⟨xs, n, _, rfl, hl, hxl, hall⟩ := DataW.trod_struct Tryz.underlying41 h
  rw [Tryz.cellsNode] at hl
  obtain ⟨v0, v1, v2, v3, rfl⟩ := len4 cs hl
  obtain ⟨x0, x1, x2, x3, rfl⟩ := len4 xs hxl
  have g0 : DataW.trod enc Tryz.prog w 0 (fun _ => true) true n 3 (([v0, v1, v2, v3].drop 0).take (Tryz.prog.cellsOf 3)) = some x0 := hall 0 _ rfl
  have g1 : DataW.trod enc Tryz.prog w 0 (fun _ => true) true n 2 (([v0, v1, v2, v3].drop 1).take (Tryz.prog.cellsOf 2)) = some x1 := hall 1 _ rfl
  have g2 : DataW.trod enc Tryz.prog w 0 (fun _ => true) true n 9 (([v0, v1, v2, v3].drop 2).take (Tryz.prog.cellsOf 9)) = some x2 := hall 2 _ rfl
  have g3 : DataW.trod enc Tryz.prog w 0 (fun _ => true) true n 24 (([v0, v1, v2, v3].drop 3).take (Tryz.prog.cellsOf 24)) = some x3 := hall 3 _ rfl
  rw [Tryz.cells3] at g0
  rw [Tryz.cells2] at g1
  rw [Tryz.cellsStr] at g2
  rw [Tryz.cellsInts] at g3
  obtain ⟨z0, k0, _, _⟩ := DataW.trod_int Tryz.underlying3 g0
  obtain ⟨z1, k1, _, hz1⟩ := DataW.trod_int Tryz.underlying2 g1
  obtain ⟨s, k2, _, hs⟩ := DataW.trod_string Tryz.underlying9 g2
  simp at k0 k1 k2
  subst k0; subst k1; subst k2
  obtain ⟨ks, hI, hw⟩ := open_kids (v := v3) g3
  refine ⟨⟨z0, z1, s, ks⟩, v3, rfl, hI, ⟨hs, hz1⟩, fun hh => hw fun q hq => hh q ?_⟩
  simp only [DataW.weights, Tryz.underlying41 ]
  exact DataW.weights_mem_each (j := 3) (t := 24) (d := x3.1) rfl rfl q hq

theorem mem_weightsAll {P : Program} {e : TypeId} {d : DataW H} {n : Nat} : ∀ {ds : List (DataW H)}, d ∈ ds → n ∈ d.weights P e → n ∈ DataW.weightsAll P e ds
  | d0 :: ds, hd, hn => by
    simp only [DataW.weightsAll, List.mem_append]
    rcases List.mem_cons.1 hd with rfl | hd
    · exact .inl hn
    · exact .inr (mem_weightsAll hd hn)

/-- Within the reach, marks and all; the numbers are numbers of 64 bits. -/
structure FitX (l : List Nd) : Prop where
  len : l.length * 56 ≤ 140737488351232
  kids : ∀ x ∈ l, x.kids.length * 8 ≤ 140737488351232
  name : ∀ x ∈ l, x.name.size ≤ maxLen
  num : ∀ x ∈ l, (Lit.int .i64 x.n).wf = true
theorem FitX.fit {l : List Nd} (h : FitX l) : Fit l := ⟨by have := h.len; omega, fun x hx => by have := h.kids x hx; omega, h.name⟩

/-- The whole argument. -/
theorem open_nodesX {fuel : Nat} {v : Value} {x : DataW H × List MemPlace} (h : DataW.trod enc Tryz.prog w 0 (fun _ => true) true fuel 22 [v] = some x) :
    ∃ (ao : Option Addr) (cap : Nat) (l : List Nd), v = .slice ao l.length cap ∧ Rd w ao cap l ∧ ((∀ n ∈ x.1.weights Tryz.prog 22, n ≤ reachBytes) → FitX l) := by
  rcases open_slice Tryz.underlying22 h with ⟨hcs, rfl⟩ | ⟨a, len, cap, m, n, D, Pl, hcs, _, hl, hm, hmm, rfl, hx⟩
  · simp only [List.cons.injEq, and_true] at hcs
    subst hcs
    exact ⟨none, 0, [], rfl, ⟨none, 0, rfl, by simp, by simp, .inl rfl⟩, fun _ => ⟨by simp, by simp, by simp, by simp⟩⟩
  · simp only [List.cons.injEq, and_true] at hcs
    subst hcs
    simp only [if_true] at hmm
    subst hmm
    have each : ∀ i, i < m → ∃ y : Nd × Value, ∃ cs', w.cells? 0 (a.add (i * 4)) 4 = some cs' ∧ cs' = [.int .i64 y.1.op, .int .i64 y.1.n, .string y.1.name, y.2] ∧ Ints w w.heap.size y.2 y.1.kids ∧ (y.1.name.size ≤ maxLen ∧ (Lit.int .i64 y.1.n).wf = true) ∧ ((∀ n ∈ (D i).weights Tryz.prog 41, n ≤ reachBytes) → y.1.kids.length * 8 ≤ 140737488351232) := by
      intro i hi
      obtain ⟨cs', h1, h2⟩ := hx i hi
      rw [Tryz.cellsNode] at h1
      obtain ⟨y, kv, e, h3, h4, h5⟩ := open_node h2
      exact ⟨(y, kv), cs', h1, e, h3, h4, h5⟩
    have : Inhabited (Nd × Value) := ⟨(nd0, .slice none 0 0)⟩
    obtain ⟨q, hq⟩ := choose_lt each
    have hlen : ((List.range len).map fun i => (q i).1).length = len := by simp
    have hget : ∀ i, i < len → ((List.range len).map fun i => (q i).1).getD i nd0 = (q i).1 := fun i hi => by simp [hi]
    refine ⟨some a, m, (List.range len).map fun i => (q i).1, by rw [hlen], ⟨some a, m, rfl, by rw [hlen]; exact hl, hm, ?_⟩, fun hw => ⟨?_, ?_, ?_, ?_⟩⟩
    · by_cases h0 : len = 0
      · left; subst h0; rfl
      · right
        have hc0 : w.cell? a = some (.int .i64 (q 0).1.op) := by
          obtain ⟨cs', h1, rfl, _⟩ := hq 0 (by omega)
          have := (World.cells?_some h1).2.2 0 (by omega)
          rw [Nat.zero_mul] at this
          exact this
        obtain ⟨b, o, sp⟩ := a
        have hsp : sp = none := spot_none hc0
        subst hsp
        refine ⟨b, o, rfl, World.block_lt_of_cell? _ _ hc0, fun i hi => ?_⟩
        rw [hlen] at hi
        rw [hget i hi]
        obtain ⟨cs', h1, rfl, h3, _⟩ := hq i (by omega)
        have hcell := (World.cells?_some h1).2.2
        rw [Go.WideShapes.add_plain] at hcell
        refine ⟨(q i).2, ?_, ?_, ?_, ?_, h3⟩
        · have := hcell 0 (by omega); rw [Go.WideShapes.add_plain] at this; exact this
        · have := hcell 1 (by omega); rw [Go.WideShapes.add_plain] at this; exact this
        · have := hcell 2 (by omega); rw [Go.WideShapes.add_plain] at this; exact this
        · have := hcell 3 (by omega); rw [Go.WideShapes.add_plain] at this; exact this
    · have := hw ((((List.range len).map D).length + ((List.range (m - len)).map fun j => D (len + j)).length) * Tryz.prog.bytesOf 41) (by simp only [DataW.weights, Tryz.underlying22 ]; exact List.mem_cons_self ..)
      rw [Tryz.bytesNode] at this
      simp only [List.length_map, List.length_range, reachBytes] at this
      rw [hlen]; omega
    · intro y hy
      obtain ⟨i, hi, rfl⟩ := List.mem_map.1 hy
      rw [List.mem_range] at hi
      obtain ⟨cs', _, _, _, _, h5⟩ := hq i (by omega)
      have := h5 fun n hn => hw n (by
        simp only [DataW.weights, Tryz.underlying22, List.mem_cons, List.mem_append]
        exact .inr (.inl (mem_weightsAll (List.mem_map.2 ⟨i, List.mem_range.2 hi, rfl⟩) hn)))
      exact this
    · intro y hy
      obtain ⟨i, hi, rfl⟩ := List.mem_map.1 hy
      rw [List.mem_range] at hi
      obtain ⟨cs', _, _, _, h4, _⟩ := hq i (by omega)
      exact h4.1
    · intro y hy
      obtain ⟨i, hi, rfl⟩ := List.mem_map.1 hy
      rw [List.mem_range] at hi
      obtain ⟨cs', _, _, _, h4, _⟩ := hq i (by omega)
      exact h4.2
end

end Go.Proofs.YtlbmijcpalfaeaaGreatDoor

set_option linter.unusedSimpArgs false
set_option linter.unusedVariables false
namespace Go.Proofs.YtlbmijcpalfaeaaGreatDoor
open Go.RowKit Go.Lib Go.ChangeShapes Go.WideShapes Go.Deep

theorem Tryz.cellsNodesV : Tryz.prog.cellsOf 22 = 1 := by kernel_rfl
theorem Tryz.cellsCls : Tryz.prog.cellsOf 49 = 2 := by kernel_rfl
theorem Tryz.bytesCls : Tryz.prog.bytesOf 49 = 32 := by kernel_rfl
theorem Tryz.cellsClss : Tryz.prog.cellsOf 23 = 1 := by kernel_rfl
theorem Tryz.cellsPic : Tryz.prog.cellsOf 26 = 2 := by kernel_rfl
theorem len2 {α : Type} (l : List α) (h : l.length = 2) : ∃ a b, l = [a, b] := by
  match l, h with
  | [a, b], _ => exact ⟨a, b, rfl⟩
theorem n6_wf {z : Int} (h : (Lit.int .i64 z).wf = true) : N6 z := by
  have e1 : IntKind.min .i64 = -9223372036854775808 := by decide
  have e2 : IntKind.max .i64 = 9223372036854775807 := by decide
  simp only [Lit.wf, e1, e2, Bool.and_eq_true, decide_eq_true_eq] at h
  exact h
structure NdW (y : Nd) : Prop where
  kl : y.kids.length * 8 ≤ 140737488351232
  nm : y.name.size ≤ 281474976710656
section
variable {H : Type} {enc : TypeId × Value → H} {w : World}
theorem open_kidsP {fuel : Nat} {v : Value} {x : DataW H × List MemPlace} (h : DataW.trod enc Tryz.prog w 0 (fun _ => true) true fuel 24 [v] = some x) :
    ∃ ks, Ints w w.heap.size v ks ∧ (∀ k ∈ ks, N6 k) ∧ ((∀ n ∈ x.1.weights Tryz.prog 24, n ≤ reachBytes) → ks.length * 8 ≤ 140737488351232) := by
  rcases open_ints Tryz.underlying24 Tryz.underlying3 Tryz.cells3 h with ⟨hcs, rfl⟩ | ⟨a, len, cap, zs, hcs, _, hl, hm, hz, rfl, hc, hwf⟩
  · simp only [List.cons.injEq, and_true] at hcs
    subst hcs
    exact ⟨[], ⟨none, 0, rfl, by simp, ⟨by simp [maxLen], fun _ => rfl⟩, .inl rfl⟩, (fun k hk => nomatch hk), fun _ => by simp⟩
  · simp only [List.cons.injEq, and_true] at hcs
    subst hcs
    simp only [if_true] at hz
    have hlen : (zs.take len).length = len := by simp; omega
    refine ⟨zs.take len, ⟨some a, cap, by rw [hlen], by omega, ⟨hm, by simp⟩, ?_⟩, fun k hk => n6_wf (hwf k (List.mem_of_mem_take hk)), fun hw => ?_⟩
    · by_cases h0 : len = 0
      · left; exact List.length_eq_zero_iff.1 (by omega)
      · right
        have hc0 := hc 0 (by omega)
        obtain ⟨b, o, sp⟩ := a
        have hsp : sp = none := by
          have e : (⟨b, o, sp⟩ : Addr).add 0 = ⟨b, o, sp⟩ := rfl
          rw [e] at hc0; exact spot_none hc0
        subst hsp
        refine ⟨b, o, rfl, World.block_lt_of_cell? _ _ hc0, fun j hj => ?_⟩
        rw [hlen] at hj
        have := hc j (by omega)
        rw [Go.WideShapes.add_plain] at this
        rw [this]
        simp [List.getElem?_take, hj]
    · have := hw ((((lits .i64 (zs.take len)).length : Nat) + (lits .i64 (zs.drop len)).length) * Tryz.prog.bytesOf 3) (by simp only [DataW.weights, Tryz.underlying24 ]; exact List.mem_cons_self ..)
      rw [Tryz.bytes3] at this
      simp only [lits, List.length_map, List.length_take, List.length_drop, reachBytes] at this
      rw [hlen]; omega
theorem open_nodeP {fuel : Nat} {cs : List Value} {x : DataW H × List MemPlace} (h : DataW.trod enc Tryz.prog w 0 (fun _ => true) true fuel 41 cs = some x) :
    ∃ (y : Nd) (kv : Value), cs = [.int .i64 y.op, .int .i64 y.n, .string y.name, kv] ∧ Ints w w.heap.size kv y.kids ∧ (N6 y.n ∧ ∀ k ∈ y.kids, N6 k) ∧ ((∀ n ∈ x.1.weights Tryz.prog 41, n ≤ reachBytes) → NdW y) := by
  obtain ⟨xs, n, _, rfl, hl, hxl, hall⟩ := DataW.trod_struct Tryz.underlying41 h
  rw [Tryz.cellsNode] at hl
  obtain ⟨v0, v1, v2, v3, rfl⟩ := len4 cs hl
  obtain ⟨x0, x1, x2, x3, rfl⟩ := len4 xs hxl
  have g0 : DataW.trod enc Tryz.prog w 0 (fun _ => true) true n 3 (([v0, v1, v2, v3].drop 0).take (Tryz.prog.cellsOf 3)) = some x0 := hall 0 _ rfl
  have g1 : DataW.trod enc Tryz.prog w 0 (fun _ => true) true n 2 (([v0, v1, v2, v3].drop 1).take (Tryz.prog.cellsOf 2)) = some x1 := hall 1 _ rfl
  have g2 : DataW.trod enc Tryz.prog w 0 (fun _ => true) true n 9 (([v0, v1, v2, v3].drop 2).take (Tryz.prog.cellsOf 9)) = some x2 := hall 2 _ rfl
  have g3 : DataW.trod enc Tryz.prog w 0 (fun _ => true) true n 24 (([v0, v1, v2, v3].drop 3).take (Tryz.prog.cellsOf 24)) = some x3 := hall 3 _ rfl
  rw [Tryz.cells3] at g0
  rw [Tryz.cells2] at g1
  rw [Tryz.cellsStr] at g2
  rw [Tryz.cellsInts] at g3
  obtain ⟨z0, k0, _, _⟩ := DataW.trod_int Tryz.underlying3 g0
  obtain ⟨z1, k1, _, hz1⟩ := DataW.trod_int Tryz.underlying2 g1
  obtain ⟨s, k2, hx2, hs⟩ := DataW.trod_string Tryz.underlying9 g2
  simp at k0 k1 k2
  subst k0; subst k1; subst k2
  obtain ⟨ks, hI, hk6, hw⟩ := open_kidsP (v := v3) g3
  refine ⟨⟨z0, z1, s, ks⟩, v3, rfl, hI, ⟨n6_wf hz1, hk6⟩, fun hh => ⟨hw fun q hq => hh q ?_, ?_⟩⟩
  · simp only [DataW.weights, Tryz.underlying41 ]
    exact DataW.weights_mem_each (j := 3) (t := 24) (d := x3.1) rfl rfl q hq
  · have := hh s.data.toList.length (by
      simp only [DataW.weights, Tryz.underlying41 ]
      refine DataW.weights_mem_each (j := 2) (t := 9) (d := x2.1) rfl rfl _ ?_
      rw [hx2]
      simp [DataW.weights])
    have e : s.data.toList.length = s.size := Array.length_toList
    rw [e] at this
    unfold reachBytes at this
    show s.size ≤ 281474976710656
    omega
theorem open_nodesP {fuel : Nat} {v : Value} {x : DataW H × List MemPlace} (h : DataW.trod enc Tryz.prog w 0 (fun _ => true) true fuel 22 [v] = some x) :
    ∃ (ao : Option Addr) (cap : Nat) (l : List Nd), v = .slice ao l.length cap ∧ Nodes w w.heap.size v l ∧ (∀ y ∈ l, N6 y.n ∧ ∀ k ∈ y.kids, N6 k) ∧ ((∀ n ∈ x.1.weights Tryz.prog 22, n ≤ reachBytes) → l.length * 56 ≤ 140737488351232 ∧ ∀ y ∈ l, NdW y) := by
  rcases open_slice Tryz.underlying22 h with ⟨hcs, rfl⟩ | ⟨a, len, cap, m, n, D, Pl, hcs, _, hl, hm, hmm, rfl, hx⟩
  · simp only [List.cons.injEq, and_true] at hcs
    subst hcs
    exact ⟨none, 0, [], rfl, ⟨none, 0, rfl, by simp, by simp, .inl rfl⟩, (fun y hy => nomatch hy), fun _ => ⟨by simp, fun y hy => nomatch hy⟩⟩
  · simp only [List.cons.injEq, and_true] at hcs
    subst hcs
    simp only [if_true] at hmm
    subst hmm
    have each : ∀ i, i < m → ∃ y : Nd × Value, ∃ cs', w.cells? 0 (a.add (i * 4)) 4 = some cs' ∧ cs' = [.int .i64 y.1.op, .int .i64 y.1.n, .string y.1.name, y.2] ∧ Ints w w.heap.size y.2 y.1.kids ∧ (N6 y.1.n ∧ ∀ k ∈ y.1.kids, N6 k) ∧ ((∀ n ∈ (D i).weights Tryz.prog 41, n ≤ reachBytes) → NdW y.1) := by
      intro i hi
      obtain ⟨cs', h1, h2⟩ := hx i hi
      rw [Tryz.cellsNode] at h1
      obtain ⟨y, kv, e, h3, h4, h5⟩ := open_nodeP h2
      exact ⟨(y, kv), cs', h1, e, h3, h4, h5⟩
    have : Inhabited (Nd × Value) := ⟨(nd0, .slice none 0 0)⟩
    obtain ⟨q, hq⟩ := choose_lt each
    have hlen : ((List.range len).map fun i => (q i).1).length = len := by simp
    have hget : ∀ i, i < len → ((List.range len).map fun i => (q i).1).getD i nd0 = (q i).1 := fun i hi => by simp [hi]
    refine ⟨some a, m, (List.range len).map fun i => (q i).1, by rw [hlen], ⟨some a, m, by rw [hlen], by rw [hlen]; exact hl, hm, ?_⟩, fun y hy => ?_, fun hw => ⟨?_, fun y hy => ?_⟩⟩
    · by_cases h0 : len = 0
      · left; subst h0; rfl
      · right
        have hc0 : w.cell? a = some (.int .i64 (q 0).1.op) := by
          obtain ⟨cs', h1, rfl, _⟩ := hq 0 (by omega)
          have := (World.cells?_some h1).2.2 0 (by omega)
          rw [Nat.zero_mul] at this
          exact this
        obtain ⟨b, o, sp⟩ := a
        have hsp : sp = none := spot_none hc0
        subst hsp
        refine ⟨b, o, rfl, World.block_lt_of_cell? _ _ hc0, fun i hi => ?_⟩
        rw [hlen] at hi
        rw [hget i hi]
        obtain ⟨cs', h1, rfl, h3, _⟩ := hq i (by omega)
        have hcell := (World.cells?_some h1).2.2
        rw [Go.WideShapes.add_plain] at hcell
        refine ⟨(q i).2, ?_, ?_, ?_, ?_, h3⟩
        · have := hcell 0 (by omega); rw [Go.WideShapes.add_plain] at this; exact this
        · have := hcell 1 (by omega); rw [Go.WideShapes.add_plain] at this; exact this
        · have := hcell 2 (by omega); rw [Go.WideShapes.add_plain] at this; exact this
        · have := hcell 3 (by omega); rw [Go.WideShapes.add_plain] at this; exact this
    · obtain ⟨i, hi, rfl⟩ := List.mem_map.1 hy
      rw [List.mem_range] at hi
      obtain ⟨cs', _, _, _, h4, _⟩ := hq i (by omega)
      exact h4
    · have := hw ((((List.range len).map D).length + ((List.range (m - len)).map fun j => D (len + j)).length) * Tryz.prog.bytesOf 41) (by simp only [DataW.weights, Tryz.underlying22 ]; exact List.mem_cons_self ..)
      rw [Tryz.bytesNode] at this
      simp only [List.length_map, List.length_range, reachBytes] at this
      rw [hlen]; omega
    · obtain ⟨i, hi, rfl⟩ := List.mem_map.1 hy
      rw [List.mem_range] at hi
      obtain ⟨cs', _, _, _, _, h5⟩ := hq i (by omega)
      exact h5 fun n hn => hw n (by
        simp only [DataW.weights, Tryz.underlying22, List.mem_cons, List.mem_append]
        exact .inr (.inl (mem_weightsAll (List.mem_map.2 ⟨i, List.mem_range.2 hi, rfl⟩) hn)))
/-- A class within reach. -/
structure ClW (c : Cls) : Prop where
  len : c.nodes.length * 56 ≤ 140737488351232
  each : ∀ y ∈ c.nodes, NdW y
theorem open_class {fuel : Nat} {cs : List Value} {x : DataW H × List MemPlace} (h : DataW.trod enc Tryz.prog w 0 (fun _ => true) true fuel 49 cs = some x) :
    ∃ (c : Cls) (na : Option Addr) (nc : Nat), cs = [.slice na c.nodes.length nc, .int .i64 c.size] ∧ Nodes w w.heap.size (.slice na c.nodes.length nc) c.nodes ∧ (∀ y ∈ c.nodes, N6 y.n ∧ ∀ k ∈ y.kids, N6 k) ∧ ((∀ n ∈ x.1.weights Tryz.prog 49, n ≤ reachBytes) → ClW c) := by
  obtain ⟨xs, n, _, rfl, hl, hxl, hall⟩ := DataW.trod_struct Tryz.underlying49 h
  rw [Tryz.cellsCls] at hl
  obtain ⟨v0, v1, rfl⟩ := len2 cs hl
  obtain ⟨x0, x1, rfl⟩ := len2 xs hxl
  have g0 : DataW.trod enc Tryz.prog w 0 (fun _ => true) true n 22 (([v0, v1].drop 0).take (Tryz.prog.cellsOf 22)) = some x0 := hall 0 _ rfl
  have g1 : DataW.trod enc Tryz.prog w 0 (fun _ => true) true n 3 (([v0, v1].drop 1).take (Tryz.prog.cellsOf 3)) = some x1 := hall 1 _ rfl
  rw [Tryz.cellsNodesV] at g0
  rw [Tryz.cells3] at g1
  obtain ⟨z1, k1, _, _⟩ := DataW.trod_int Tryz.underlying3 g1
  simp at k1
  subst k1
  obtain ⟨ao, cap, l, rfl, hN, h6, hw⟩ := open_nodesP (v := v0) g0
  refine ⟨⟨l, z1⟩, ao, cap, rfl, hN, h6, fun hh => ?_⟩
  obtain ⟨f1, f2⟩ := hw fun q hq => hh q (by
    simp only [DataW.weights, Tryz.underlying49 ]
    exact DataW.weights_mem_each (j := 0) (t := 22) (d := x0.1) rfl rfl q hq)
  exact ⟨f1, f2⟩
theorem open_classes {fuel : Nat} {v : Value} {x : DataW H × List MemPlace} (h : DataW.trod enc Tryz.prog w 0 (fun _ => true) true fuel 23 [v] = some x) :
    ∃ (ao : Option Addr) (cap : Nat) (l : List Cls), v = .slice ao l.length cap ∧ Clss w w.heap.size v l ∧ (∀ c ∈ l, ∀ y ∈ c.nodes, N6 y.n ∧ ∀ k ∈ y.kids, N6 k) ∧ ((∀ n ∈ x.1.weights Tryz.prog 23, n ≤ reachBytes) → l.length * 32 ≤ 140737488351232 ∧ ∀ c ∈ l, ClW c) := by
  rcases open_slice Tryz.underlying23 h with ⟨hcs, rfl⟩ | ⟨a, len, cap, m, n, D, Pl, hcs, _, hl, hm, hmm, rfl, hx⟩
  · simp only [List.cons.injEq, and_true] at hcs
    subst hcs
    exact ⟨none, 0, [], rfl, ⟨none, 0, rfl, by simp, by simp, .inl rfl⟩, (fun y hy => nomatch hy), fun _ => ⟨by simp, fun y hy => nomatch hy⟩⟩
  · simp only [List.cons.injEq, and_true] at hcs
    subst hcs
    simp only [if_true] at hmm
    subst hmm
    have each : ∀ i, i < m → ∃ y : Cls, ∃ cs' na nc, w.cells? 0 (a.add (i * 2)) 2 = some cs' ∧ cs' = [.slice na y.nodes.length nc, .int .i64 y.size] ∧ Nodes w w.heap.size (.slice na y.nodes.length nc) y.nodes ∧ (∀ u ∈ y.nodes, N6 u.n ∧ ∀ k ∈ u.kids, N6 k) ∧ ((∀ n ∈ (D i).weights Tryz.prog 49, n ≤ reachBytes) → ClW y) := by
      intro i hi
      obtain ⟨cs', h1, h2⟩ := hx i hi
      rw [Tryz.cellsCls] at h1
      obtain ⟨c, na, nc, e, h3, h4, h5⟩ := open_class h2
      exact ⟨c, cs', na, nc, h1, e, h3, h4, h5⟩
    have : Inhabited Cls := ⟨cls0⟩
    obtain ⟨q, hq⟩ := choose_lt each
    have hlen : ((List.range len).map fun i => q i).length = len := by simp
    have hget : ∀ i, i < len → ((List.range len).map fun i => q i).getD i cls0 = q i := fun i hi => by simp [hi]
    refine ⟨some a, m, (List.range len).map fun i => q i, by rw [hlen], ⟨some a, m, by rw [hlen], by rw [hlen]; exact hl, hm, ?_⟩, fun c hc => ?_, fun hw => ⟨?_, fun c hc => ?_⟩⟩
    · by_cases h0 : len = 0
      · left; subst h0; rfl
      · right
        have hc0 : ∃ u, w.cell? a = some u := by
          obtain ⟨cs', na, nc, h1, rfl, _⟩ := hq 0 (by omega)
          have := (World.cells?_some h1).2.2 0 (by omega)
          rw [Nat.zero_mul] at this
          exact ⟨_, this⟩
        obtain ⟨u0, hc0⟩ := hc0
        obtain ⟨b, o, sp⟩ := a
        have hsp : sp = none := spot_none hc0
        subst hsp
        refine ⟨b, o, rfl, World.block_lt_of_cell? _ _ hc0, fun i hi => ?_⟩
        rw [hlen] at hi
        rw [hget i hi]
        obtain ⟨cs', na, nc, h1, rfl, h3, _⟩ := hq i (by omega)
        have hcell := (World.cells?_some h1).2.2
        rw [Go.WideShapes.add_plain] at hcell
        refine ⟨na, nc, ?_, ?_, h3⟩
        · have := hcell 0 (by omega); rw [Go.WideShapes.add_plain] at this; exact this
        · have := hcell 1 (by omega); rw [Go.WideShapes.add_plain] at this; exact this
    · obtain ⟨i, hi, rfl⟩ := List.mem_map.1 hc
      rw [List.mem_range] at hi
      obtain ⟨cs', _, _, _, _, _, h4, _⟩ := hq i (by omega)
      exact h4
    · have := hw ((((List.range len).map D).length + ((List.range (m - len)).map fun j => D (len + j)).length) * Tryz.prog.bytesOf 49) (by simp only [DataW.weights, Tryz.underlying23 ]; exact List.mem_cons_self ..)
      rw [Tryz.bytesCls] at this
      simp only [List.length_map, List.length_range, reachBytes] at this
      rw [hlen]; omega
    · obtain ⟨i, hi, rfl⟩ := List.mem_map.1 hc
      rw [List.mem_range] at hi
      obtain ⟨cs', _, _, _, _, _, _, h5⟩ := hq i (by omega)
      exact h5 fun n hn => hw n (by
        simp only [DataW.weights, Tryz.underlying23, List.mem_cons, List.mem_append]
        exact .inr (.inl (mem_weightsAll (List.mem_map.2 ⟨i, List.mem_range.2 hi, rfl⟩) hn)))
/-- The whole argument. -/
theorem open_pic {fuel : Nat} {vs : List Value} {x : DataW H × List MemPlace} (h : DataW.trod enc Tryz.prog w 0 (fun _ => true) true fuel 26 vs = some x) :
    ∃ (ca : Option Addr) (cc : Nat) (cs : List Cls) (ra : Option Addr) (rc : Nat) (roots : List Int), vs = [.slice ca cs.length cc, .slice ra roots.length rc] ∧ Clss w w.heap.size (.slice ca cs.length cc) cs ∧ Ints w w.heap.size (.slice ra roots.length rc) roots ∧ ((∀ n ∈ x.1.weights Tryz.prog 26, n ≤ reachBytes) → PicOk cs roots) := by
  obtain ⟨xs, n, _, rfl, hl, hxl, hall⟩ := DataW.trod_struct Tryz.underlying26 h
  rw [Tryz.cellsPic] at hl
  obtain ⟨v0, v1, rfl⟩ := len2 vs hl
  obtain ⟨x0, x1, rfl⟩ := len2 xs hxl
  have g0 : DataW.trod enc Tryz.prog w 0 (fun _ => true) true n 23 (([v0, v1].drop 0).take (Tryz.prog.cellsOf 23)) = some x0 := hall 0 _ rfl
  have g1 : DataW.trod enc Tryz.prog w 0 (fun _ => true) true n 24 (([v0, v1].drop 1).take (Tryz.prog.cellsOf 24)) = some x1 := hall 1 _ rfl
  rw [Tryz.cellsClss] at g0
  rw [Tryz.cellsInts] at g1
  obtain ⟨ca, cc, cs, rfl, hC, h6, hw⟩ := open_classes (v := v0) g0
  obtain ⟨roots, hI, _, hr⟩ := open_kidsP (v := v1) g1
  obtain ⟨ra, rc, rfl, hI2⟩ := id hI
  refine ⟨ca, cc, cs, ra, rc, roots, rfl, hC, hI, fun hh => ?_⟩
  obtain ⟨f1, f2⟩ := hw fun q hq => hh q (by
    simp only [DataW.weights, Tryz.underlying26 ]
    exact DataW.weights_mem_each (j := 0) (t := 23) (d := x0.1) rfl rfl q hq)
  have f3 := hr fun q hq => hh q (by
    simp only [DataW.weights, Tryz.underlying26 ]
    exact DataW.weights_mem_each (j := 1) (t := 24) (d := x1.1) rfl rfl q hq)
  refine ⟨fun c hc => (f2 c hc).len, by omega, fun ⟨y, z⟩ hc => ?_, by omega, fun c hc y hy => ?_⟩
  · obtain ⟨h1, h2, h3⟩ := mem_cells.1 hc
    have hm : clA cs z.toNat ∈ cs := clA_mem (by omega)
    exact ⟨(h6 _ hm y h3).1, ((f2 _ hm).each y h3).nm, (h6 _ hm y h3).2⟩
  · have := ((f2 c hc).each y hy).kl; omega
end
end Go.Proofs.YtlbmijcpalfaeaaGreatDoor
