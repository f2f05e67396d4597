/-
  Path, walked whole.
-/
import Derived.Test.YtfnbkffphpidbaaFoW9
set_option linter.unusedSimpArgs false
set_option linter.unusedVariables false
namespace Go.Proofs.Ytfnbkffphpidbaa
open Go.RowKit Go.Shelf
attribute [local go_sem] Oper.semAt_some

set_option maxRecDepth 20000 in
set_option maxHeartbeats 2000000 in
theorem fpath_bad (w : World) (p : Nat) (v : Value) (m : List Mv) (a b : Int) (h : FoM w p v m) (hn : (hasB m a && hasB m b) = false) :
    Calls Try.prog 13 #[.pointer (some ⟨p, 0, none⟩), .int .i64 a, .int .i64 b] w fun e w' => e = .returned (.tuple #[.slice none 0 0, .int .i64 2]) ∧ w' = w := by
  have cA : Hid (∀ V, V = w → Calls Try.prog 29 #[.pointer (some ⟨p, 0, none⟩), .int .i64 a] V fun e w' => e = .returned (.bool (hasB m a)) ∧ w' = w) := fun V hV => by subst hV; exact fhas_any V p v m a h
  have cB : Hid (∀ V, V = w → Calls Try.prog 29 #[.pointer (some ⟨p, 0, none⟩), .int .i64 b] V fun e w' => e = .returned (.bool (hasB m b)) ∧ w' = w) := fun V hV => by subst hV; exact fhas_any V p v m b h
  clear h
  cases h1 : hasB m a
  · rw [h1] at cA
    go_enter Try.func13, Try.ntmps13
    go_wp2_with fail
    refine (cA.out _ rfl).mono ?_
    rintro e w' ⟨rfl, rfl⟩
    go_wp2_with fail
    go_ret2
    exact ⟨rfl, rfl⟩
  · have h2 : hasB m b = false := by simpa [h1] using hn
    rw [h1] at cA
    rw [h2] at cB
    go_enter Try.func13, Try.ntmps13
    go_wp2_with fail
    refine (cA.out _ rfl).mono ?_
    rintro e w' ⟨rfl, rfl⟩
    go_wp2_with fail
    refine (cB.out _ rfl).mono ?_
    rintro e w' ⟨rfl, rfl⟩
    go_wp2_with fail
    go_ret2
    exact ⟨rfl, rfl⟩

set_option maxRecDepth 20000 in
set_option maxHeartbeats 2000000 in
theorem fpath_none (w : World) (p : Nat) (v : Value) (m : List Mv) (a b : Nat) (h : FoM w p v m) (ha : a < m.length) (hb : b < m.length) (hr : (mA m a).rt ≠ (mA m b).rt) :
    Calls Try.prog 13 #[.pointer (some ⟨p, 0, none⟩), .int .i64 a, .int .i64 b] w fun e w' => e = .returned (.tuple #[.slice none 0 0, .int .i64 11]) ∧ w' = w := by
  have cA : Hid (∀ V, V = w → Calls Try.prog 29 #[.pointer (some ⟨p, 0, none⟩), .int .i64 a] V fun e w' => e = .returned (.bool true) ∧ w' = w) := fun V hV => by subst hV; rw [← hasB_nat.2 ha]; exact fhas_any V p v m a h
  have cB : Hid (∀ V, V = w → Calls Try.prog 29 #[.pointer (some ⟨p, 0, none⟩), .int .i64 b] V fun e w' => e = .returned (.bool true) ∧ w' = w) := fun V hV => by subst hV; rw [← hasB_nat.2 hb]; exact fhas_any V p v m b h
  have rA : Hid (∀ V, V = w → Calls Try.prog 30 #[.pointer (some ⟨p, 0, none⟩), .int .i64 a] V fun e w' => e = .returned (.int .i64 (mA m a).rt) ∧ w' = w) := fun V hV => by subst hV; exact froot_any V p v m a h ha
  have rB : Hid (∀ V, V = w → Calls Try.prog 30 #[.pointer (some ⟨p, 0, none⟩), .int .i64 b] V fun e w' => e = .returned (.int .i64 (mA m b).rt) ∧ w' = w) := fun V hV => by subst hV; exact froot_any V p v m b h hb
  have hneI : ((((mA m a).rt : Nat) : Int) != (((mA m b).rt : Nat) : Int)) = true := by simp; omega
  clear h hr
  generalize (mA m a).rt = x at *
  generalize (mA m b).rt = y at *
  go_enter Try.func13, Try.ntmps13
  go_wp2_with fail
  refine (cA.out _ rfl).mono ?_
  rintro e w' ⟨rfl, rfl⟩
  go_wp2_with fail
  refine (cB.out _ rfl).mono ?_
  rintro e w' ⟨rfl, rfl⟩
  go_wp2_with fail
  refine (rA.out _ rfl).mono ?_
  rintro e w' ⟨rfl, rfl⟩
  go_wp2_with fail
  refine (rB.out _ rfl).mono ?_
  rintro e w' ⟨rfl, rfl⟩
  go_wp2_with fail
  go_ret2
  exact ⟨rfl, rfl⟩

theorem inrnd {l n : Nat} {P : Program} {f : FuncId} {args : Array Value} {w : World} {R : Ending → World → Prop} (h : Calls P f args w R) : CallsIn (Fence.wide.inRound l) n P f args w R := (callsIn_wide (n := n)).2 h

/-- append, at a step of a region that draws its order, inside a fence. -/
theorem stepIn_append_lies {F : Fence} {nn : Nat} {P : Program} {w : World} {ops : Array Oper} {o : Oper} {a : Act} {K : Act → World → Prop} {Q : Exit → Act → World → Prop} {E : Prop} (hgd : o.guard = none) (s x : Operand) (t : TypeId)
    (ho : o.op = .call { callee := .builtin .append, args := #[s, x], argTypes := #[t, t] })
    (base : Nat) (e : TypeId) (i : TypeInfo) (z : Value) (size bytes : Nat) (ht : P.underlying t = some (.slice e)) (hi : P.info? e = some i) (hz : i.zero = some z)
    (hsize : i.size = size) (hby : i.bytes = bytes) (hzs : z.cells.size = size) (hsz : 0 < size)
    (v : Value) (n : Nat) (xs : List Value) (hs : a.eval s = v) (hown : w.ownsRow base e size v n xs)
    (ad : Addr) (m c : Nat) (news : List Value) (hx : a.eval x = .slice (some ad) m c) (hl : news.length = m * size) (hnews : ∀ j u, news[j]? = some u → w.cell? (ad.add j) = some u) (h1 : ∀ u ∈ news, u.oneCell' = true)
    (hm : 0 < m) (h63 : n + m ≤ maxLen) (hbytes : (n + m) * bytes ≤ 140737488355328) (hbase : base ≤ w.heap.size) (H : Nat) (hH : w.heap.size = H)
    (h : ∀ g cap w', w'.ownsRow base e size (.slice (some ⟨g, 0, none⟩) (n + m) cap) (n + m) (xs ++ news) → w.grownBy w' v.ownBlock → (v.ownBlock = some g ∨ g = H) → g < w'.heap.size → K (a.put o.dst (.slice (some ⟨g, 0, none⟩) (n + m) cap)) w') :
    if Region.wanted o (yielded ops a.tmps) = true then Oper.wpIn F nn P o a w K Q else E := by
  have hw : Region.wanted o (yielded ops a.tmps) = true := by simp [Region.wanted, hgd]
  rw [if_pos hw]
  obtain ⟨g, cap, w', hr, h2, h3, h4, h5⟩ := run_append_lies (P := P) w t o.type base e i z size bytes ht hi hz hsize hby hzs hsz v n xs hown ad m c news hl hnews h1 hm h63 hbytes hbase H hH
  unfold Oper.wpIn
  refine ⟨?_, ?_⟩
  · simp [Oper.about, ho, resolve, Target.leads, Sem.run_pure]
  · rw [Oper.semAt_plain F _ _ (by rw [ho]; intro c hc'; cases hc')]
    simp [execOp, ho, resolve, invoke, builtin, hs, hx, hr, Result.andThen]
    exact h g cap w' h2 h3 h4 h5

/-- The way, with what has come from the back turned. -/
structure WayI (w : World) (Bw N0 : Nat) (P1 : List Eg) (pre : List (Nat × EgI)) (W : World) : Prop where
  way : ∃ v, W.heap[Bw]? = some (.cells #[v] 36 (0, 0)) ∧ OwnE W w.heap.size v (P1 ++ pre.map fun x => x.2.1.tn) ∧ ∀ g, v.ownBlock = some g → g < Bw ∨ N0 ≤ g
  be : Below w.heap.size w W
  sz : N0 ≤ W.heap.size
theorem WayI.own {w : World} {Bw N0 : Nat} {P1 : List Eg} {B : Nat} (hB : w.heap.size ≤ B) : OwnFrom B (WayI w Bw N0 P1) := fun pre W W' row h hg hr => by
  obtain ⟨v, hb, ho, hne⟩ := h.way
  have k1 : W'.heap[Bw]? = W.heap[Bw]? := grownBy_keeps_cells hg (fun r e => (hr r e).2) hb rfl
  refine ⟨⟨v, k1.trans hb, rw_same ho (fun b hb' => ?_), hne⟩, h.be.grown hg h.be.size (fun k e => Nat.le_trans hB (hr k e).1), Nat.le_trans h.sz hg.size⟩
  obtain ⟨_, _, cap, cur, _, hbk, _⟩ := rw_block ho hb'
  exact grownBy_keeps_cells hg (fun r e => (hr r e).2) hbk rfl
/-- Behind a round. -/
theorem WayI.put {w : World} {Bw N0 Bs b2 : Nat} {P1 : List Eg} {pre : List (Nat × EgI)} {x : Nat × EgI} {W Wt W4 : World} {v : Value} {o : Obj} {g6 cap6 : Nat} (hw : w.heap.size ≤ Bw) (hBw : Bw < N0) (hBs : Bw < Bs ∧ Bs < N0) (hb2 : Bw < b2 ∧ b2 < N0)
    (hs : N0 ≤ W.heap.size) (hbe : Below w.heap.size w W) (hb : W.heap[Bw]? = some (.cells #[v] 36 (0, 0))) (ho : OwnE W w.heap.size v (P1 ++ pre.map fun x => x.2.1.tn)) (hne : ∀ g, v.ownBlock = some g → g < Bw ∨ N0 ≤ g) (ht : Below W.heap.size W Wt)
    (h4 : W4.ownsRow w.heap.size 44 4 (.slice (some ⟨g6, 0, none⟩) ((P1 ++ pre.map fun x => x.2.1.tn).length + 1) cap6) ((P1 ++ pre.map fun x => x.2.1.tn).length + 1) (egCells (P1 ++ pre.map fun x => x.2.1.tn) ++ [.int .i64 x.2.1.t, .int .i64 x.2.1.f, x.2.1.w, .bool (!x.2.1.b)])) (hg : (Wt.alloc o).grownBy W4 v.ownBlock) (hat : v.ownBlock = some g6 ∨ g6 = (Wt.alloc o).heap.size) :
    KeepsOthers W (W4.setCell ⟨Bw, 0, none⟩ (.slice (some ⟨g6, 0, none⟩) ((P1 ++ pre.map fun x => x.2.1.tn).length + 1) cap6)) ∧ KpE Bs b2 W (W4.setCell ⟨Bw, 0, none⟩ (.slice (some ⟨g6, 0, none⟩) ((P1 ++ pre.map fun x => x.2.1.tn).length + 1) cap6)) ∧ WayI w Bw N0 P1 (pre ++ [x]) (W4.setCell ⟨Bw, 0, none⟩ (.slice (some ⟨g6, 0, none⟩) ((P1 ++ pre.map fun x => x.2.1.tn).length + 1) cap6)) := by
  have hrow := rw_same (w' := Wt.alloc o) ho (fun b hb' => by
    have := (rw_block ho hb').2.1
    exact (Deep.blk_alloc_lt _ _ _ (Nat.lt_of_lt_of_le this ht.size)).trans (ht.block b this))
  have hz := ht.size
  have hz4 := hg.size
  rw [World.size_alloc] at hz4
  have blk : ∀ c, c < W.heap.size → v.ownBlock ≠ some c → c ≠ Bw → (W4.setCell ⟨Bw, 0, none⟩ (.slice (some ⟨g6, 0, none⟩) ((P1 ++ pre.map fun x => x.2.1.tn).length + 1) cap6)).heap[c]? = W.heap[c]? := fun c h1 h2 h3 => by
    rw [Deep.blk_setCell_other _ _ _ _ h3, hg.block c (by rw [World.size_alloc]; omega) (fun e => h2 e.symm), Deep.blk_alloc_lt _ _ _ (by omega)]
    exact ht.block c h1
  have hv : ∀ c, Bw ≤ c → c < N0 → v.ownBlock ≠ some c := fun c h1 h2 e => by rcases hne c e with h | h <;> omega
  have hko : KeepsOthers W (W4.setCell ⟨Bw, 0, none⟩ (.slice (some ⟨g6, 0, none⟩) ((P1 ++ pre.map fun x => x.2.1.tn).length + 1) cap6)) := by
    refine (((kof_ko ht).trans (KeepsOthers.alloc _ o)).trans (KeepsOthers.of_grownBy hg (fun j o' e hj => ?_))).trans (KeepsOthers.setCell _ _ _)
    obtain ⟨_, _, cap, cur, _, hbk, _⟩ := rw_block hrow e
    rw [hbk] at hj; cases hj; rfl
  refine ⟨hko, ⟨fun o' ho' => ?_, fun o' ho' => ?_⟩, ⟨.slice (some ⟨g6, 0, none⟩) ((P1 ++ pre.map fun x => x.2.1.tn).length + 1) cap6, ?_, ?_, ?_⟩, ?_, ?_⟩
  · exact (blk Bs (by omega) (hv Bs (by omega) hBs.2) (by omega)).trans ho'
  · exact (blk b2 (by omega) (hv b2 (by omega) hb2.2) (by omega)).trans ho'
  · have hb4 : W4.heap[Bw]? = some (.cells #[v] 36 (0, 0)) := by
      rw [hg.block Bw (by rw [World.size_alloc]; omega) (fun e => hv Bw (Nat.le_refl _) hBw e.symm), Deep.blk_alloc_lt _ _ _ (by omega)]
      exact (ht.block Bw (by omega)).trans hb
    have := heap_setCell_same W4 Bw 0 #[v] 36 (.slice (some ⟨g6, 0, none⟩) ((P1 ++ pre.map fun x => x.2.1.tn).length + 1) cap6) hb4
    simpa using this
  · rw [List.map_append, ← List.append_assoc]
    have h5 := OwnE_snoc (x := x.2.1.tn) (l := P1 ++ pre.map fun x => x.2.1.tn) h4
    refine rw_same h5 (fun b hb' => Deep.blk_setCell_other _ _ _ _ ?_)
    have : g6 = b := by simpa [Value.ownBlock] using hb'
    subst this
    rcases hat with h | h
    · rcases hne g6 h with h6 | h6
      · show g6 ≠ Bw; omega
      · show g6 ≠ Bw; omega
    · rw [World.size_alloc] at h; show g6 ≠ Bw; omega
  · intro c hc
    have : g6 = c := by simpa [Value.ownBlock] using hc
    subst this
    rcases hat with h | h
    · exact hne g6 h
    · rw [World.size_alloc] at h; right; omega
  · refine Below.setCell (p := ⟨Bw, 0, none⟩) ?_ hw _
    exact Below.grown ((hbe.trans (ht.mono hbe.size)).alloc (by have := hbe.size; omega) _) hg (by rw [World.size_alloc]; have := hbe.size; omega) (fun k e => (rw_block hrow e).1)
  · have := hko.size; omega

set_option maxRecDepth 100000 in
set_option maxHeartbeats 4000000 in
theorem fpath_ok (w : World) (p : Nat) (v : Value) (J : List (Nat × Nat)) (V : List Value) (m : List Mv) (a b : Nat) (h : FoM w p v m) (hI : FoI J V m) (hV : ∀ u ∈ V, IfV u) (ha : a < m.length) (hb : b < m.length) (hr : (mA m a).rt = (mA m b).rt) :
    Calls Try.prog 13 #[.pointer (some ⟨p, 0, none⟩), .int .i64 a, .int .i64 b] w fun e w' => ∃ P v', Pa J a P b ∧ e = .returned (.tuple #[v', .int .i64 0]) ∧ OwnE w' w.heap.size v' (P.map (cz J V)) ∧ Below w.heap.size w w' := by
  have cA : Hid (∀ V, V = w → Calls Try.prog 29 #[.pointer (some ⟨p, 0, none⟩), .int .i64 a] V fun e w' => e = .returned (.bool true) ∧ w' = w) := fun V hV => by subst hV; rw [← hasB_nat.2 ha]; exact fhas_any V p v m a h
  have cB : Hid (∀ V, V = w → Calls Try.prog 29 #[.pointer (some ⟨p, 0, none⟩), .int .i64 b] V fun e w' => e = .returned (.bool true) ∧ w' = w) := fun V hV => by subst hV; rw [← hasB_nat.2 hb]; exact fhas_any V p v m b h
  have rA : Hid (∀ V, V = w → Calls Try.prog 30 #[.pointer (some ⟨p, 0, none⟩), .int .i64 a] V fun e w' => e = .returned (.int .i64 (mA m a).rt) ∧ w' = w) := fun V hV => by subst hV; exact froot_any V p v m a h ha
  have rB : Hid (∀ V, V = w → Calls Try.prog 30 #[.pointer (some ⟨p, 0, none⟩), .int .i64 b] V fun e w' => e = .returned (.int .i64 (mA m a).rt) ∧ w' = w) := fun V hV => by subst hV; rw [hr]; exact froot_any V p v m b h hb
  have cM : Hid (∀ V', V' = w → Calls Try.prog 31 #[.pointer (some ⟨p, 0, none⟩), .int .i64 a, .int .i64 b] V' fun e w' => (∃ top : Nat, e = .returned (.int .i64 top) ∧ MeetP J m a b top) ∧ w' = w) := fun V' hV' => by subst hV'; exact fmeet_any V' p v J V m a b h hI ha hb hr
  have cC : Hid (∀ W x top P, Below w.heap.size w W → ClimbI J m x P top → Calls Try.prog 32 #[.pointer (some ⟨p, 0, none⟩), .int .i64 (x : Int), .int .i64 (top : Int)] W fun e w' => ∃ v', e = .returned v' ∧ OwnE w' W.heap.size v' (P.map (cz J V)) ∧ Below W.heap.size W w') := fun W x top P hW hC => fclimb_any W p v J V m x top P (h.below hW) hI hC
  have HV : Hid (∀ e : Ed, IfV (cz J V e).w) := fun e => by
    show IfV (V.getD e.1 nilV)
    rw [List.getD_eq_getElem?_getD]
    cases hx : V[e.1]? with
    | none => exact IfV.nil
    | some u => exact hV u (List.mem_of_getElem? hx)
  have HSH : Hid (∀ P x top, ClimbI J m x P top → P.length < 1048576) := fun P x top hC => by
    obtain ⟨r, hr⟩ := hC.way
    have := hI.short hr hC.lt
    have h2 := h.le
    simp at this; omega
  have HSP : Hid (∀ P, Pa J a P b → P.length < 1048576) := fun P hP => by have := hI.short hP ha; have h2 := h.le; omega
  generalize (mA m a).rt = R at *
  clear h hI hr hV
  refine (callsIn_wide (n := 3)).1 ?_
  have hro : Fence.wide.round = none := rfl
  refine callsIn_of_wp_marks Try.func13 rfl trivial ?_ hro
  simp only [Try.ntmps13, List.size_toArray, List.length_cons, List.length_nil, Nat.reduceAdd, Nat.reduceSub, Array.replicate_succ, Array.replicate_zero, List.push_toArray, List.append_toArray, List.nil_append, List.cons_append]
  gi_wp2
  refine ⟨trivial, ((callsIn_wide (n := _)).2 (cA.out _ rfl)).mono ?_⟩
  rintro e w' ⟨rfl, hw⟩
  obtain rfl := hw.symm
  gi_wp2
  refine ⟨trivial, ((callsIn_wide (n := _)).2 (cB.out _ rfl)).mono ?_⟩
  rintro e w' ⟨rfl, hw⟩
  obtain rfl := hw.symm
  gi_wp2
  refine ⟨trivial, ((callsIn_wide (n := _)).2 (rA.out _ rfl)).mono ?_⟩
  rintro e w' ⟨rfl, hw⟩
  obtain rfl := hw.symm
  gi_wp2
  refine ⟨trivial, ((callsIn_wide (n := _)).2 (rB.out _ rfl)).mono ?_⟩
  rintro e w' ⟨rfl, hw⟩
  obtain rfl := hw.symm
  gi_wp2
  refine ⟨trivial, ((callsIn_wide (n := _)).2 (cM.out _ rfl)).mono ?_⟩
  rintro e w' ⟨⟨top, rfl, qa, qb, hCa, hCb, hPab⟩, hw⟩
  obtain rfl := hw.symm
  gi_wp2
  refine ⟨trivial, ((callsIn_wide (n := _)).2 (cC.out w a top qa (Below.refl _ _) hCa)).mono ?_⟩
  rintro e w1 ⟨v1, rfl, hO1, hB1⟩
  obtain ⟨a1, c1, rfl⟩ : ∃ a1 c1, v1 = .slice a1 qa.length c1 := by
    obtain ⟨x1, x2, hx⟩ := rw_form hO1
    exact ⟨x1, x2, by rw [hx, List.length_map]⟩
  gi_wp2
  have hBA : Below w.heap.size w (w1.alloc (.cells #[.slice a1 qa.length c1] 36)) := hB1.alloc hB1.size _
  refine ⟨trivial, ((callsIn_wide (n := _)).2 (cC.out _ b top qb hBA hCb)).mono ?_⟩
  rintro e w2 ⟨v2, rfl, hO2, hB2⟩
  obtain ⟨a2, c2, rfl⟩ : ∃ a2 c2, v2 = .slice a2 qb.length c2 := by
    obtain ⟨x1, x2, hx⟩ := rw_form hO2
    exact ⟨x1, x2, by rw [hx, List.length_map]⟩
  gi_wp2
  refine ⟨trivial, (backE_in Fence.wide _ trivial hro _ _ _ _).mono ?_⟩
  rintro e w3 ⟨rfl, rfl⟩
  gi_wp2
  have hz1 := hB1.size
  have hz2 := hB2.size
  rw [World.size_alloc] at hz2
  have hBW : Below w.heap.size w (w2.alloc (.cells #[.slice a2 qb.length c2] 36)) := (hBA.trans (hB2.mono (by rw [World.size_alloc]; omega))).alloc (by omega) _
  have hO1' : OwnE (w2.alloc (.cells #[.slice a2 qb.length c2] 36)) w.heap.size (.slice a1 qa.length c1) (qa.map (cz J V)) := by
    have b1 : Below w1.heap.size w1 (w2.alloc (.cells #[.slice a2 qb.length c2] 36)) := (((Below.refl _ _).alloc (Nat.le_refl _) _).trans (hB2.mono (by rw [World.size_alloc]; omega))).alloc (by omega) _
    exact hO1.below b1
  have hW1 : (w2.alloc (.cells #[.slice a2 qb.length c2] 36)).heap[w1.heap.size]? = some (.cells #[.slice a1 qa.length c1] 36 (0, 0)) := (Deep.blk_alloc_lt _ _ _ (by omega)).trans ((hB2.block _ (by rw [World.size_alloc]; omega)).trans (Deep.blk_alloc_new _ _))
  have hfar1 : ∀ g, (Value.slice a1 qa.length c1).ownBlock = some g → g < w1.heap.size ∨ w2.heap.size + 1 ≤ g := fun g e => .inl (rw_block hO1 e).2.1
  have hI0 : WayI w w1.heap.size (w2.heap.size + 1) (qa.map (cz J V)) [] (w2.alloc (.cells #[.slice a2 qb.length c2] 36)) := ⟨⟨_, hW1, by simpa using hO1', hfar1⟩, hBW, by rw [World.size_alloc]; omega⟩
  obtain ⟨zs, hzs⟩ : ∃ zs : List EgI, qb.map (fun e => (⟨cz J V e, HV.out e⟩ : EgI)) = zs := ⟨_, rfl⟩
  have hzl : zs.length = qb.length := by rw [← hzs]; simp
  have hzm : zs.map (fun x => x.1) = qb.map (cz J V) := by rw [← hzs, List.map_map]; rfl
  have hBs : (w2.alloc (.cells #[.slice a2 qb.length c2] 36)).cell? ⟨w2.heap.size, 0, none⟩ = some (.slice a2 zs.length c2) := by rw [hzl]; simp
  have hrow2 : ∃ b2, w1.heap.size < b2 ∧ b2 < w2.heap.size + 1 ∧ (zs = [] ∨ (a2 = some ⟨b2, 0, none⟩ ∧ ∀ i, i < zs.length → EdAt (w2.alloc (.cells #[.slice a2 qb.length c2] 36)) b2 (i * 4) (zs.getD i egi0).1)) := by
    rcases hO2.2 with ⟨h0, h1⟩ | ⟨g, cap, cur, hv, hb', hg, hn, hm, hs, ht⟩
    · refine ⟨w2.heap.size, by omega, by omega, .inl ?_⟩
      apply List.length_eq_zero_iff.1
      rw [hzl]; simpa using h1
    · injection hv with e1 e2 e3
      subst e1 e3
      rw [World.size_alloc] at hb'
      have hgl := lt_of_block hg
      refine ⟨g, by omega, by omega, .inr ⟨rfl, fun i hi => ?_⟩⟩
      have hO3 : OwnE (w2.alloc (.cells #[.slice (some ⟨g, 0, none⟩) qb.length c2] 36)) (w1.alloc (.cells #[.slice a1 qa.length c1] 36)).heap.size (.slice (some ⟨g, 0, none⟩) (qb.map (cz J V)).length c2) (qb.map (cz J V)) := by
        rw [List.length_map]; exact hO2.below ((Below.refl _ _).alloc (Nat.le_refl _) _)
      have := hO3.at_ (x := i) (by rw [List.length_map, ← hzl]; exact hi)
      have e : (qb.map (cz J V)).getD i eg0 = (zs.getD i egi0).1 := by
        rw [← hzm, List.getD_eq_getElem?_getD, List.getElem?_map, List.getD_eq_getElem?_getD]
        rw [List.getElem?_eq_getElem hi]; rfl
      rw [e] at this; exact this
  obtain ⟨b2, hb21, hb22, hrd⟩ := hrow2
  have hzb : zs.length ≤ 1048576 := by rw [hzl]; exact Nat.le_of_lt (HSH.out _ _ _ hCb)
  have HPAB : Hid (Pa J a (qa ++ rv qb) b) := hPab
  have hPl := HSP.out _ hPab
  have HLEN : Hid (qa.length + zs.length < 1048576) := by rw [Hid, hzl]; rw [List.length_append, rv_length] at hPl; exact hPl
  have HOUT : Hid (qa.map (cz J V) ++ (fbE zs 0).map (fun x => x.2.1.tn) = (qa ++ rv qb).map (cz J V)) := by
    rw [Hid, List.map_append]
    congr 1
    have : (fbE zs 0).map (fun x => x.2.1.tn) = ((fbE zs 0).map (fun x => x.2)).map (fun x => x.1.tn) := by rw [List.map_map]; rfl
    rw [this, fbE_rev, List.map_reverse, ← hzs, List.map_map]
    unfold rv
    rw [List.map_reverse, List.map_map]
    congr 1
    apply List.map_congr_left
    intro e _
    exact cz_tn J V e
  obtain ⟨W0, hW0⟩ : ∃ W0, w2.alloc (.cells #[.slice a2 qb.length c2] 36) = W0 := ⟨_, rfl⟩
  rw [hW0] at hBW hO1' hW1 hI0 hBs hrd ⊢
  have hsz0 : W0.heap.size = w2.heap.size + 1 := by rw [← hW0, World.size_alloc]
  clear hW0 hO1 hO2 hO1' hW1 hfar1 hzs hzm hB1 hB2 hBA cA cB rA rB cM cC hCa hCb hPab hPl
  refine wpIn_rangeFunc_ownH (F := Fence.wide) (n := 3) hro (by omega) (gf := 51) (lb := #[.pointer (some ⟨w2.heap.size, 0, none⟩)]) rfl trivial (enters_of Try.func51 (by kernel_rfl) rfl)
    (backE_stops Fence.wide (3 - 1) trivial hro (by omega) w2.heap.size b2 a2 c2 zs hzb W0 hBs hrd) KpE.trans (fun W l o o' hl _ _ _ => KpE.put (by omega) (by omega)) (Below.refl _ _) (fun _ => rfl)
    (WayI w w1.heap.size (w2.heap.size + 1) (qa.map (cz J V))) (fun _ _ _ => False) (WayI.own (by omega)) (fun _ => fun _ _ _ _ h _ _ => h) hI0
    (fun x a' W => ∃ Bx, EgB W Bx x.2.1 ∧ a' = { tmps := #[.pointer (some ⟨p, 0, none⟩), .int .i64 a, .int .i64 b, undef, undef, undef, .slice none 0 0, .int .i64 0, .int .i64 top, .pointer (some ⟨w1.heap.size, 0, none⟩), undef, .pointer (some ⟨Bx, 0, none⟩), .pointer (some ⟨p, 0, none⟩), .int .i64 a, .bool true, .bool false, .bool false, .pointer (some ⟨p, 0, none⟩), .int .i64 b, .bool true, .bool false, .bool false, .pointer (some ⟨p, 0, none⟩), .int .i64 a, .int .i64 R, .pointer (some ⟨p, 0, none⟩), .int .i64 b, .int .i64 R, .bool false, .pointer (some ⟨p, 0, none⟩), .int .i64 a, .int .i64 b, .int .i64 top, .pointer (some ⟨p, 0, none⟩), .int .i64 a, .int .i64 top, .slice a1 qa.length c1, .pointer (some ⟨p, 0, none⟩), .int .i64 b, .int .i64 top, .slice a2 qb.length c2, .func (.func 51) #[] #[.pointer (some ⟨w2.heap.size, 0, none⟩)], .int .i64 (x.1 : Int), egV x.2.1, undef, undef, undef, undef, undef, undef], defers := [] })
    (fun x a' _ X Y row hs hg hr => by obtain ⟨Bx, g1, g3⟩ := hs; exact ⟨Bx, g1.same (grownBy_keeps_cells hg (fun r e => (hr r e).2) g1.blk rfl), g3⟩)
    ?assign ?body ?done ?stop
  case assign =>
    rintro l pre ⟨xi, ⟨⟨xf, xt, xw, xb⟩, hxi⟩⟩ W K hIW hK
    have hone := hxi.one
    have hst : ∀ (P : Program) (w : World) (a : Addr) (md : Mode), (store a xw md).run P w = stored P w a xw md := fun P w a md => run_store P w a xw md hone
    have hcl := hxi.cells
    unfold egV
    simp only
    gi_wp2
    refine hK _ _ ((KeepsOthers.alloc _ _).from _) (KpE.below ((Below.refl _ W).alloc (Nat.le_refl _) _)) ((WayI.own (B := w.heap.size) (Nat.le_refl _)) pre W _ none hIW (World.grownBy_alloc W _ none) (fun r e => by cases e)) ⟨W.heap.size, ⟨Deep.blk_alloc_new _ _⟩, rfl⟩
  case body =>
    rintro l pre ⟨xi, ⟨⟨xf, xt, xw, xb⟩, hxi⟩⟩ a' W hl _ hIW ⟨Bx, hEx, rfl⟩ hlt
    obtain ⟨v, hbk, hrow, hfar⟩ := hIW.way
    have hone := hxi.one
    have hst : ∀ (P : Program) (w : World) (a : Addr) (md : Mode), (store a xw md).run P w = stored P w a xw md := fun P w a md => run_store P w a xw md hone
    have hcl := hxi.cells
    obtain ⟨va, vc, rfl⟩ := rw_form hrow
    have hLb : (qa.map (cz J V) ++ pre.map fun x => x.2.1.tn).length + 1 ≤ 1048576 := by
      have := HLEN.out
      simp only [List.length_append, List.length_map]; omega
    obtain ⟨Wd, hWd⟩ : ∃ Wd : World, { W with drawn := W.drawn + 1 } = Wd := ⟨_, rfl⟩
    have hBd : Below W.heap.size W Wd := by rw [← hWd]; exact ⟨rfl, rfl, rfl, Nat.le_refl _, fun _ _ => rfl⟩
    have hd0 : Wd.heap[w1.heap.size]? = some (.cells #[.slice va (qa.map (cz J V) ++ pre.map fun x => x.2.1.tn).length vc] 36 (0, 0)) := (hBd.block _ (lt_of_block hbk)).trans hbk
    have hdE : EgB Wd Bx ⟨xf, xt, xw, xb⟩ := hEx.same (hBd.block _ hEx.lt)
    have k0 : ∀ W', Below Wd.heap.size Wd W' → W'.cell? ⟨w1.heap.size, 0, none⟩ = some (.slice va (qa.map (cz J V) ++ pre.map fun x => x.2.1.tn).length vc) := fun W' hW' => by
      have := (hW'.block _ (lt_of_block hd0)).trans hd0
      simp [World.cell?, this]
    have HK0 : Hid (∀ W', Below Wd.heap.size Wd W' → W'.cell? ⟨w1.heap.size, 0, none⟩ = some (.slice va (qa.map (cz J V) ++ pre.map fun x => x.2.1.tn).length vc)) := k0
    have q := k0 Wd (Below.refl _ _)
    have q0 := hdE.c0
    have q1 := hdE.c1
    have q2 := hdE.c2
    have q3 := hdE.c3
    simp only at q0 q1 q2 q3
    have cT : Hid (∀ W : World, Calls Try.prog 34 #[.agg #[.int .i64 xf, .int .i64 xt, xw, .bool xb] ] W fun e w'' => e = .returned (.agg #[.int .i64 xt, .int .i64 xf, xw, .bool (!xb)]) ∧ Below W.heap.size W w'') := fun W => fturn_any _ ⟨xf, xt, xw, xb⟩ hxi
    obtain ⟨i0, hi, hz0, hz1', hz2'⟩ := info_parts Try.infoEg
    have HFIN : Hid (∀ (Wt W4 : World) (g6 cap6 : Nat) (o : Obj), Below Wd.heap.size Wd Wt → W4.ownsRow w.heap.size 44 4 (.slice (some ⟨g6, 0, none⟩) ((qa.map (cz J V) ++ pre.map fun x => x.2.1.tn).length + 1) cap6) ((qa.map (cz J V) ++ pre.map fun x => x.2.1.tn).length + 1) (egCells (qa.map (cz J V) ++ pre.map fun x => x.2.1.tn) ++ [.int .i64 xt, .int .i64 xf, xw, .bool (!xb)]) → (Wt.alloc o).grownBy W4 (Value.slice va (qa.map (cz J V) ++ pre.map fun x => x.2.1.tn).length vc).ownBlock → ((Value.slice va (qa.map (cz J V) ++ pre.map fun x => x.2.1.tn).length vc).ownBlock = some g6 ∨ g6 = (Wt.alloc o).heap.size) →
        KeepsOthers W (W4.setCell ⟨w1.heap.size, 0, none⟩ (.slice (some ⟨g6, 0, none⟩) ((qa.map (cz J V) ++ pre.map fun x => x.2.1.tn).length + 1) cap6)) ∧ KpE w2.heap.size b2 W (W4.setCell ⟨w1.heap.size, 0, none⟩ (.slice (some ⟨g6, 0, none⟩) ((qa.map (cz J V) ++ pre.map fun x => x.2.1.tn).length + 1) cap6)) ∧ WayI w w1.heap.size (w2.heap.size + 1) (qa.map (cz J V)) (pre ++ [(xi, ⟨⟨xf, xt, xw, xb⟩, hxi⟩)]) (W4.setCell ⟨w1.heap.size, 0, none⟩ (.slice (some ⟨g6, 0, none⟩) ((qa.map (cz J V) ++ pre.map fun x => x.2.1.tn).length + 1) cap6))) := fun Wt W4 g6 cap6 o hWt h4 hg hat => WayI.put (x := (xi, ⟨⟨xf, xt, xw, xb⟩, hxi⟩)) (by omega) (by omega) ⟨by omega, by omega⟩ ⟨hb21, hb22⟩ hIW.sz hIW.be hbk hrow hfar (hBd.trans (hWt.mono hBd.size)) h4 hg hat
    have HRW : Hid (∀ W' o, Below Wd.heap.size Wd W' → (W'.alloc o).ownsRow w.heap.size 44 4 (.slice va (qa.map (cz J V) ++ pre.map fun x => x.2.1.tn).length vc) (qa.map (cz J V) ++ pre.map fun x => x.2.1.tn).length (egCells (qa.map (cz J V) ++ pre.map fun x => x.2.1.tn))) := fun W' o hW' => World.ownsRow.alloc (OwnE.below (OwnE.below hrow hBd) hW') o
    have hzd := hBd.size
    have hzw := hIW.be.size
    have HNE : Hid (∀ g, (Value.slice va (qa.map (cz J V) ++ pre.map fun x => x.2.1.tn).length vc).ownBlock = some g → g ≠ w1.heap.size) := fun g e => by rcases hfar g e with h | h <;> omega
    have HSW : Hid (w1.heap.size < Wd.heap.size) := lt_of_block hd0
    have HFR : Hid (Wd.frozen? ⟨w1.heap.size, 0, none⟩ = false) := by rw [Hid]; simp [World.frozen?, hd0]
    generalize (qa.map (cz J V) ++ pre.map fun x => x.2.1.tn).length = L at *
    unfold egV
    simp only
    gi_wp2
    refine wpIn_region_any (by kernel_rfl) ?_
    rw [hWd]
    clear hWd k0 hd0 hdE hBd hEx hrow hbk hfar
    refine wpAnyIn_ready (rs := [0, 1]) (by kernel_rfl) (by simp) ?_
    refine AllReadyIn.cons rfl (fun K hK => ?_) (AllReadyIn.cons rfl (fun K hK => ?_) AllReadyIn.nil)
    · go_simp
      refine hK _ _ ?_
      clear hK K
      refine wpAnyIn_ready (rs := [1]) (by kernel_rfl) (by simp) ?_
      refine AllReadyIn.cons rfl (fun K hK => ?_) AllReadyIn.nil
      go_simp
      refine hK _ _ ?_
      clear hK K
      refine wpAnyIn_ready (rs := [2]) (by kernel_rfl) (by simp) ?_
      refine AllReadyIn.cons rfl (fun K hK => ?_) AllReadyIn.nil
      go_simp
      refine ⟨trivial, (inrnd (cT.out _)).mono ?_⟩
      rintro e Wt ⟨rfl, hbt⟩
      have hzt := hbt.size
      have q := HK0.out Wt hbt
      refine hK _ _ ?_
      clear hK K
      refine wpAnyIn_ready (rs := [3]) (by kernel_rfl) (by simp) ?_
      refine AllReadyIn.cons rfl (fun K hK => ?_) AllReadyIn.nil
      go_simp
      have q := HK0.out (Wt.alloc (.cells #[.int .i64 xt, .int .i64 xf, xw, .bool (!xb)] 44)) (hbt.alloc hbt.size _)
      refine hK _ _ ?_
      clear hK K
      refine wpAnyIn_ready (rs := [4]) (by kernel_rfl) (by simp) ?_
      refine AllReadyIn.cons rfl (fun K hK => ?_) AllReadyIn.nil
      refine stepIn_append_lies rfl (.tmp 44) (.tmp 47) 36 rfl w.heap.size 44 i0 (.agg #[.int .i64 0, .int .i64 0, .nilIface, .bool false]) 4 40 Try.underlying36 hi hz0 hz1' hz2' rfl (by decide) _ _ _ (by simp [Act.eval, Act.put]) (HRW.out Wt _ hbt) ⟨Wt.heap.size, 0, none⟩ 1 1 [.int .i64 xt, .int .i64 xf, xw, .bool (!xb)] (by simp [Act.eval, Act.put]) rfl (cell_news4' _ _ _ _ _ _ _ rfl) (one4 hone) (by omega) (by unfold maxLen; omega) (by omega) (by simp; omega) _ rfl ?_
      intro g6 cap6 W4 hown6 hg6 hat6 hl6
      have hz4 := hg6.size
      rw [World.size_alloc] at hz4
      have hblk : W4.heap[w1.heap.size]? = Wt.heap[w1.heap.size]? := (hg6.block _ (by rw [World.size_alloc]; have := HSW.out; omega) (fun e => HNE.out _ e.symm rfl)).trans (Deep.blk_alloc_lt _ _ _ (by have := HSW.out; omega))
      have q := (World.cell?_of_block (a := ⟨w1.heap.size, 0, none⟩) hblk).trans (HK0.out Wt hbt)
      have qf : W4.frozen? ⟨w1.heap.size, 0, none⟩ = false := (World.frozen?_of_block (a := ⟨w1.heap.size, 0, none⟩) hblk).trans ((hbt.frozen (p := ⟨w1.heap.size, 0, none⟩) HSW.out).trans HFR.out)
      have HE := HFIN.out Wt W4 g6 cap6 _ hbt hown6 hg6 hat6
      refine hK _ _ ?_
      clear hK K
      refine wpAnyIn_ready (rs := [5]) (by kernel_rfl) (by simp) ?_
      refine AllReadyIn.cons rfl (fun K hK => ?_) AllReadyIn.nil
      go_simp
      refine hK _ _ ?_
      clear hK K
      refine wpAnyIn_done (by kernel_rfl) ?_ _
      exact ⟨HE.1.from _, HE.2.1, HE.2.2⟩
    · go_simp
      refine hK _ _ ?_
      clear hK K
      refine wpAnyIn_ready (rs := [0, 2]) (by kernel_rfl) (by simp) ?_
      refine AllReadyIn.cons rfl (fun K hK => ?_) (AllReadyIn.cons rfl (fun K hK => ?_) AllReadyIn.nil)
      · go_simp
        refine hK _ _ ?_
        clear hK K
        refine wpAnyIn_ready (rs := [2]) (by kernel_rfl) (by simp) ?_
        refine AllReadyIn.cons rfl (fun K hK => ?_) AllReadyIn.nil
        go_simp
        refine ⟨trivial, (inrnd (cT.out _)).mono ?_⟩
        rintro e Wt ⟨rfl, hbt⟩
        have hzt := hbt.size
        have q := HK0.out Wt hbt
        refine hK _ _ ?_
        clear hK K
        refine wpAnyIn_ready (rs := [3]) (by kernel_rfl) (by simp) ?_
        refine AllReadyIn.cons rfl (fun K hK => ?_) AllReadyIn.nil
        go_simp
        have q := HK0.out (Wt.alloc (.cells #[.int .i64 xt, .int .i64 xf, xw, .bool (!xb)] 44)) (hbt.alloc hbt.size _)
        refine hK _ _ ?_
        clear hK K
        refine wpAnyIn_ready (rs := [4]) (by kernel_rfl) (by simp) ?_
        refine AllReadyIn.cons rfl (fun K hK => ?_) AllReadyIn.nil
        refine stepIn_append_lies rfl (.tmp 44) (.tmp 47) 36 rfl w.heap.size 44 i0 (.agg #[.int .i64 0, .int .i64 0, .nilIface, .bool false]) 4 40 Try.underlying36 hi hz0 hz1' hz2' rfl (by decide) _ _ _ (by simp [Act.eval, Act.put]) (HRW.out Wt _ hbt) ⟨Wt.heap.size, 0, none⟩ 1 1 [.int .i64 xt, .int .i64 xf, xw, .bool (!xb)] (by simp [Act.eval, Act.put]) rfl (cell_news4' _ _ _ _ _ _ _ rfl) (one4 hone) (by omega) (by unfold maxLen; omega) (by omega) (by simp; omega) _ rfl ?_
        intro g6 cap6 W4 hown6 hg6 hat6 hl6
        have hz4 := hg6.size
        rw [World.size_alloc] at hz4
        have hblk : W4.heap[w1.heap.size]? = Wt.heap[w1.heap.size]? := (hg6.block _ (by rw [World.size_alloc]; have := HSW.out; omega) (fun e => HNE.out _ e.symm rfl)).trans (Deep.blk_alloc_lt _ _ _ (by have := HSW.out; omega))
        have q := (World.cell?_of_block (a := ⟨w1.heap.size, 0, none⟩) hblk).trans (HK0.out Wt hbt)
        have qf : W4.frozen? ⟨w1.heap.size, 0, none⟩ = false := (World.frozen?_of_block (a := ⟨w1.heap.size, 0, none⟩) hblk).trans ((hbt.frozen (p := ⟨w1.heap.size, 0, none⟩) HSW.out).trans HFR.out)
        have HE := HFIN.out Wt W4 g6 cap6 _ hbt hown6 hg6 hat6
        refine hK _ _ ?_
        clear hK K
        refine wpAnyIn_ready (rs := [5]) (by kernel_rfl) (by simp) ?_
        refine AllReadyIn.cons rfl (fun K hK => ?_) AllReadyIn.nil
        go_simp
        refine hK _ _ ?_
        clear hK K
        refine wpAnyIn_done (by kernel_rfl) ?_ _
        exact ⟨HE.1.from _, HE.2.1, HE.2.2⟩
      · go_simp
        refine ⟨trivial, (inrnd (cT.out _)).mono ?_⟩
        rintro e Wt ⟨rfl, hbt⟩
        have hzt := hbt.size
        have q := HK0.out Wt hbt
        refine hK _ _ ?_
        clear hK K
        refine wpAnyIn_ready (rs := [0, 3]) (by kernel_rfl) (by simp) ?_
        refine AllReadyIn.cons rfl (fun K hK => ?_) (AllReadyIn.cons rfl (fun K hK => ?_) AllReadyIn.nil)
        · go_simp
          refine hK _ _ ?_
          clear hK K
          refine wpAnyIn_ready (rs := [3]) (by kernel_rfl) (by simp) ?_
          refine AllReadyIn.cons rfl (fun K hK => ?_) AllReadyIn.nil
          go_simp
          have q := HK0.out (Wt.alloc (.cells #[.int .i64 xt, .int .i64 xf, xw, .bool (!xb)] 44)) (hbt.alloc hbt.size _)
          refine hK _ _ ?_
          clear hK K
          refine wpAnyIn_ready (rs := [4]) (by kernel_rfl) (by simp) ?_
          refine AllReadyIn.cons rfl (fun K hK => ?_) AllReadyIn.nil
          refine stepIn_append_lies rfl (.tmp 44) (.tmp 47) 36 rfl w.heap.size 44 i0 (.agg #[.int .i64 0, .int .i64 0, .nilIface, .bool false]) 4 40 Try.underlying36 hi hz0 hz1' hz2' rfl (by decide) _ _ _ (by simp [Act.eval, Act.put]) (HRW.out Wt _ hbt) ⟨Wt.heap.size, 0, none⟩ 1 1 [.int .i64 xt, .int .i64 xf, xw, .bool (!xb)] (by simp [Act.eval, Act.put]) rfl (cell_news4' _ _ _ _ _ _ _ rfl) (one4 hone) (by omega) (by unfold maxLen; omega) (by omega) (by simp; omega) _ rfl ?_
          intro g6 cap6 W4 hown6 hg6 hat6 hl6
          have hz4 := hg6.size
          rw [World.size_alloc] at hz4
          have hblk : W4.heap[w1.heap.size]? = Wt.heap[w1.heap.size]? := (hg6.block _ (by rw [World.size_alloc]; have := HSW.out; omega) (fun e => HNE.out _ e.symm rfl)).trans (Deep.blk_alloc_lt _ _ _ (by have := HSW.out; omega))
          have q := (World.cell?_of_block (a := ⟨w1.heap.size, 0, none⟩) hblk).trans (HK0.out Wt hbt)
          have qf : W4.frozen? ⟨w1.heap.size, 0, none⟩ = false := (World.frozen?_of_block (a := ⟨w1.heap.size, 0, none⟩) hblk).trans ((hbt.frozen (p := ⟨w1.heap.size, 0, none⟩) HSW.out).trans HFR.out)
          have HE := HFIN.out Wt W4 g6 cap6 _ hbt hown6 hg6 hat6
          refine hK _ _ ?_
          clear hK K
          refine wpAnyIn_ready (rs := [5]) (by kernel_rfl) (by simp) ?_
          refine AllReadyIn.cons rfl (fun K hK => ?_) AllReadyIn.nil
          go_simp
          refine hK _ _ ?_
          clear hK K
          refine wpAnyIn_done (by kernel_rfl) ?_ _
          exact ⟨HE.1.from _, HE.2.1, HE.2.2⟩
        · go_simp
          have q := HK0.out (Wt.alloc (.cells #[.int .i64 xt, .int .i64 xf, xw, .bool (!xb)] 44)) (hbt.alloc hbt.size _)
          refine hK _ _ ?_
          clear hK K
          refine wpAnyIn_ready (rs := [0]) (by kernel_rfl) (by simp) ?_
          refine AllReadyIn.cons rfl (fun K hK => ?_) AllReadyIn.nil
          go_simp
          refine hK _ _ ?_
          clear hK K
          refine wpAnyIn_ready (rs := [4]) (by kernel_rfl) (by simp) ?_
          refine AllReadyIn.cons rfl (fun K hK => ?_) AllReadyIn.nil
          refine stepIn_append_lies rfl (.tmp 44) (.tmp 47) 36 rfl w.heap.size 44 i0 (.agg #[.int .i64 0, .int .i64 0, .nilIface, .bool false]) 4 40 Try.underlying36 hi hz0 hz1' hz2' rfl (by decide) _ _ _ (by simp [Act.eval, Act.put]) (HRW.out Wt _ hbt) ⟨Wt.heap.size, 0, none⟩ 1 1 [.int .i64 xt, .int .i64 xf, xw, .bool (!xb)] (by simp [Act.eval, Act.put]) rfl (cell_news4' _ _ _ _ _ _ _ rfl) (one4 hone) (by omega) (by unfold maxLen; omega) (by omega) (by simp; omega) _ rfl ?_
          intro g6 cap6 W4 hown6 hg6 hat6 hl6
          have hz4 := hg6.size
          rw [World.size_alloc] at hz4
          have hblk : W4.heap[w1.heap.size]? = Wt.heap[w1.heap.size]? := (hg6.block _ (by rw [World.size_alloc]; have := HSW.out; omega) (fun e => HNE.out _ e.symm rfl)).trans (Deep.blk_alloc_lt _ _ _ (by have := HSW.out; omega))
          have q := (World.cell?_of_block (a := ⟨w1.heap.size, 0, none⟩) hblk).trans (HK0.out Wt hbt)
          have qf : W4.frozen? ⟨w1.heap.size, 0, none⟩ = false := (World.frozen?_of_block (a := ⟨w1.heap.size, 0, none⟩) hblk).trans ((hbt.frozen (p := ⟨w1.heap.size, 0, none⟩) HSW.out).trans HFR.out)
          have HE := HFIN.out Wt W4 g6 cap6 _ hbt hown6 hg6 hat6
          refine hK _ _ ?_
          clear hK K
          refine wpAnyIn_ready (rs := [5]) (by kernel_rfl) (by simp) ?_
          refine AllReadyIn.cons rfl (fun K hK => ?_) AllReadyIn.nil
          go_simp
          refine hK _ _ ?_
          clear hK K
          refine wpAnyIn_done (by kernel_rfl) ?_ _
          exact ⟨HE.1.from _, HE.2.1, HE.2.2⟩
  case done =>
    rintro D ys W hD rfl hIW hKD
    obtain ⟨v, hbk, hrow, hfar⟩ := hIW.way
    rw [HOUT.out] at hrow
    have q : W.cell? ⟨w1.heap.size, 0, none⟩ = some v := by simp [World.cell?, hbk]
    have HRO : Hid (OwnE W w.heap.size v ((qa ++ rv qb).map (cz J V))) := hrow
    have HBE : Hid (Below w.heap.size w W) := hIW.be
    obtain ⟨va, vc, rfl⟩ : ∃ va vc, v = .slice va (qa ++ rv qb).length vc := by
      obtain ⟨x1, x2, hx⟩ := rw_form hrow
      exact ⟨x1, x2, by rw [hx, List.length_map]⟩
    generalize (qa ++ rv qb).length = L at *
    gi_wp2
    refine ⟨by simp, .inl ⟨_, _, rfl, run_takeDeferred hKD, ?_⟩⟩
    refine ⟨.tuple #[.slice va L vc, .int .i64 0], ?_, qa ++ rv qb, _, HPAB.out, rfl, ?_, ?_⟩
    · simp [results, Try.f13, go_sem]
    · refine rw_same HRO.out (fun b hb' => ?_)
      obtain ⟨_, _, cap, cur, _, hbk2, _⟩ := rw_block HRO.out hb'
      exact grownBy_keeps_cells (grownBy_putObj' _ D (.deferred none)) (fun r e => by cases e; exact ⟨_, hKD, rfl⟩) hbk2 rfl
    · exact HBE.out.grown (grownBy_putObj' _ D (.deferred none)) HBE.out.size (fun k e => by cases e; omega)
  case stop => 
    rintro D c pre W hD _ h
    exact h.elim
end Go.Proofs.Ytfnbkffphpidbaa
