/-
  TableKeeps, walked.
-/
import Derived.Test.YtaonednimkoeiaaDoorTbE3
import Derived.Test.YtaonednimkoeiaaDoorTbL2
import Derived.Test.YtaonednimkoeiaaDoorBkX
import Derived.Test.YtaonednimkoeiaaDoorRmKpW
set_option linter.unusedSimpArgs false
set_option linter.unusedVariables false
namespace Go.Proofs.YtaonednimkoeiaaDoor
open Go.RowKit Go.Lib Go.Sort Go.Maps

theorem own_pre {w : World} {base : Nat} {e : TypeId} {s n n' g cap : Nat} {xs : List Value} (h : w.ownsRow base e s (.slice (some ⟨g, 0, none⟩) n cap) n xs) (hn : n' ≤ n) : w.ownsRow base e s (.slice (some ⟨g, 0, none⟩) n' cap) n' (xs.take (n' * s)) := by
  obtain ⟨h1, h2⟩ := h
  have hm := Nat.mul_le_mul_right s hn
  refine ⟨by rw [List.length_take, h1]; exact Nat.min_eq_left hm, ?_⟩
  rcases h2 with ⟨h2, _⟩ | ⟨g', cap', cur, e1, hb, hg, hc, hx, hs, ht⟩
  · cases h2
  · cases e1
    exact .inr ⟨g, cap, cur, rfl, hb, hg, by omega, hx, hs, by rw [← ht, List.take_take, Nat.min_eq_left hm]⟩
theorem own_low {w : World} {base base' : Nat} {e : TypeId} {s n : Nat} {v : Value} {xs : List Value} (h : w.ownsRow base e s v n xs) (hb : base' ≤ base) : w.ownsRow base' e s v n xs :=
  ⟨h.1, h.2.imp id fun ⟨g, cap, cur, h1, h2, h3⟩ => ⟨g, cap, cur, h1, by omega, h3⟩⟩
theorem ownP_low {w : World} {base base' : Nat} {v : Value} {q : List (Nd × Value)} (h : OwnP w base v q) (hb : base' ≤ base) : OwnP w base' v q := ⟨own_low h.row hb, fun y hy => own_low (h.kids y hy) hb⟩
theorem ndCells_take : ∀ (p : List (Nd × Value)) (n : Nat), (ndCells p).take (n * 4) = ndCells (p.take n)
  | [], n => by simp [ndCells]
  | y :: p, 0 => by simp [ndCells]
  | y :: p, n + 1 => by
    have ih := ndCells_take p n
    have e : (n + 1) * 4 = n * 4 + 4 := by omega
    rw [e]
    simp only [List.take_succ_cons, ndCells, List.flatMap_cons] at ih ⊢
    simp [ih]
theorem RoomOk.exp {w w' : World} {R : Nat} {l : List Nd} {vw vf vk : Value} {p : List (Nd × Value)} {ks : List Value} (h : RoomOk w R l vw vf vk p ks w') : ∃ fb fc, vf = .slice (some ⟨fb, 0, none⟩) (l.length + 7) fc ∧ OwnP w' (R + 1) (.slice (some ⟨fb, 0, none⟩) l.length fc) (p.take l.length) ∧ (p.take l.length).map (·.1) = l ∧ (p.take l.length).length = l.length := by
  have hpl : p.length = l.length + 7 := by have := congrArg List.length h.nodes; simp [exL_len] at this; exact this
  obtain ⟨fb, fc, hv, _, _⟩ := rw_some h.full.row (by omega)
  rw [hpl] at hv
  subst hv
  have hr := h.full.row
  rw [hpl] at hr
  have ht : (p.take l.length).length = l.length := by rw [List.length_take]; omega
  refine ⟨fb, fc, rfl, ⟨?_, fun y hy => h.full.kids y (List.mem_of_mem_take hy)⟩, by rw [List.map_take, h.nodes]; simp, ht⟩
  rw [ht, ← ndCells_take]
  exact own_pre hr (by omega)
/-- The room behind a call that turns the table. -/
theorem RoomOk.tb {w w' w'' : World} {R : Nat} {l : List Nd} {vw vf vk : Value} {p : List (Nd × Value)} {ks : List Value} (h : RoomOk w R l vw vf vk p ks w') {p0 : Nat} {ev mv : Value} {L : List Nd} (hM : TbM w' p0 ev mv L) (ht : Tk (TbS p0 ev mv) w' w'') :
    RoomOk { w'' with heap := #[] } R l vw vf vk p ks w'' := by
  have hl := lt_of_block h.blk
  refine ⟨Nat.zero_le _, (ht.same R hl (hM.typed h.blk (by decide) (by decide))).trans h.blk, ?_, h.full.tb hM ht, h.nodes, own_tb hM ht h.klist (by decide) (by decide), fun i hi => (h.kids i hi).tb hM ht, ⟨rfl, rfl, rfl, Nat.zero_le _, fun b hb => absurd hb (Nat.not_lt_zero _)⟩⟩
  obtain ⟨q, hq1, hq2⟩ := h.was
  exact ⟨q, hq1, ownP_low (hq2.tb hM ht) (Nat.zero_le _)⟩

/-- Where nothing but lists of numbers from base on has turned. -/
structure KpI (base : Nat) (ws wr : World) : Prop where
  bel : Below base ws wr
  kp : ∀ b, b < ws.heap.size → wr.heap[b]? = ws.heap[b]? ∨ ∃ cs cs' : Array Value, ws.heap[b]? = some (.cells cs 3 (0, 0)) ∧ wr.heap[b]? = some (.cells cs' 3 (0, 0)) ∧ cs'.size = cs.size
theorem KpI.refl (base : Nat) (w : World) : KpI base w w := ⟨Below.refl _ _, fun _ _ => .inl rfl⟩
theorem KpI.below {base : Nat} {ws wr w' : World} (h : KpI base ws wr) (hb : Below wr.heap.size wr w') (hs : base ≤ wr.heap.size) : KpI base ws w' :=
  ⟨h.bel.trans (hb.mono hs), fun b hl => by
    have h1 := hb.block b (Nat.lt_of_lt_of_le hl h.bel.size)
    rcases h.kp b hl with h2 | ⟨cs, cs', h2, h3, h4⟩
    · exact .inl (h1.trans h2)
    · exact .inr ⟨cs, cs', h2, h1.trans h3, h4⟩⟩
theorem KpI.set {base : Nat} {ws wr : World} (h : KpI base ws wr) {g k : Nat} (hg : base ≤ g) (hl : g < ws.heap.size) {cs cs' : Array Value} (h2 : ws.heap[g]? = some (.cells cs 3 (0, 0))) (h3 : wr.heap[g]? = some (.cells cs' 3 (0, 0))) (h4 : cs'.size = cs.size) (u : Value) : KpI base ws (wr.setCell ⟨g, k, none⟩ u) :=
  ⟨h.bel.setCell (p := ⟨g, k, none⟩) hg _, fun b hb => by
    by_cases hbg : b = g
    · subst hbg
      exact .inr ⟨cs, _, h2, heap_setCell_same wr b k cs' _ u h3, by simp [h4]⟩
    · have e := Deep.blk_setCell_other wr ⟨g, k, none⟩ u b hbg
      rcases h.kp b hb with h5 | ⟨c1, c2, h5, h6, h7⟩
      · exact .inl (e.trans h5)
      · exact .inr ⟨c1, c2, h5, e.trans h6, h7⟩⟩
theorem KpI.at_ {base : Nat} {ws wr : World} (h : KpI base ws wr) {b : Nat} {cs : Array Value} {e : TypeId} {fr : Nat × Nat} (hb : ws.heap[b]? = some (.cells cs e fr)) (he : e ≠ 3) : wr.heap[b]? = some (.cells cs e fr) := by
  rcases h.kp b (lt_of_block hb) with h5 | ⟨c1, c2, h5, h6, h7⟩
  · exact h5.trans hb
  · rw [hb] at h5
    injection h5 with h5
    injection h5 with _ h5 _
    exact absurd h5 he
theorem KpI.row {base : Nat} {ws wr : World} (h : KpI base ws wr) {bs : Nat} {e : TypeId} {s n : Nat} {v : Value} {xs : List Value} (ho : ws.ownsRow bs e s v n xs) (he : e ≠ 3) : wr.ownsRow bs e s v n xs :=
  rw_same ho fun b hb => by
    obtain ⟨_, _, cap, cur, _, hc, _⟩ := rw_block ho hb
    rw [hc]; exact h.at_ hc he
theorem KpI.tb {base : Nat} {ws wr : World} (h : KpI base ws wr) {p : Nat} {ev mv : Value} {L : List Nd} (hM : TbM ws p ev mv L) : TbM wr p ev mv L :=
  hM.same fun b hb hs => by
    rcases h.kp b hb with h5 | ⟨c1, c2, h5, h6, h7⟩
    · exact h5
    · exact absurd hs (hM.typed h5 (by decide) (by decide))
theorem KpI.kids {base : Nat} {ws wr : World} (h : KpI base ws wr) {bs n k : Nat} {v : Value} {xs : List Value} (ho : ws.ownsRow bs 3 1 v n xs) (hk : k < n) (hbs : base ≤ bs) : ∃ g cap u, v = .slice (some ⟨g, 0, none⟩) n cap ∧ n ≤ cap ∧ cap ≤ maxLen ∧ wr.cell? ⟨g, k, none⟩ = some u ∧ wr.frozen? ⟨g, k, none⟩ = false ∧ ∀ x, KpI base ws (wr.setCell ⟨g, k, none⟩ x) := by
  rcases ho.2 with ⟨_, h0⟩ | ⟨g, cap, cur, rfl, hb, hg, hc, hm, hs, ht⟩
  · omega
  · have hl := lt_of_block hg
    obtain ⟨cs', h3, h4⟩ : ∃ cs', wr.heap[g]? = some (.cells cs' 3 (0, 0)) ∧ cs'.size = cur.size := by
      rcases h.kp g hl with h5 | ⟨c1, c2, h5, h6, h7⟩
      · exact ⟨cur, h5.trans hg, rfl⟩
      · rw [hg] at h5
        injection h5 with h5
        injection h5 with h5 _ _
        subst h5
        exact ⟨c2, h6, h7⟩
    have hk2 : k < cs'.size := by rw [h4, hs]; omega
    exact ⟨g, cap, cs'[k], rfl, hc, hm, by simp [World.cell?, h3, hk2], by simp [World.frozen?, h3], fun x => h.set (by omega) hl hg h3 h4 x⟩
set_option maxRecDepth 20000 in
set_option maxHeartbeats 1000000 in
/-- Room's Expr, of its block alone. -/
theorem roomExpr' (w : World) (R fb fc n wc : Nat) (wa : Option Addr) (vk : Value) (c0 : w.cell? ⟨R, 0, none⟩ = some (.slice wa n wc)) (c1 : w.cell? ⟨R, 1, none⟩ = some (.slice (some ⟨fb, 0, none⟩) (n + 7) fc)) (hf1 : n + 7 ≤ fc) (hf2 : fc ≤ maxLen) :
    Calls Tryd.prog 23 #[.pointer (some ⟨R, 0, none⟩)] w fun e w' => e = .returned (.slice (some ⟨fb, 0, none⟩) n fc) ∧ Below w.heap.size w w' := by
  unfold maxLen at hf2
  have hcut : (n : Int) ≤ (fc : Int) := by omega
  go_enter Tryd.func23, Tryd.ntmps23
  go_wp2_with fail
  go_quiet (fail)
  go_wp2_with fail
  go_ret
  exact ⟨rfl, below_drewN' (Below.refl _ _) _⟩
/-- The node that is put. -/
def ngX : Nd := ⟨3, 0, ⟨#[]⟩, [0]⟩
theorem ngX_form : formB ngX = true := by
  have : (⟨#[]⟩ : ByteArray).toList.isEmpty = true := by decide +kernel
  simp [formB, fitB, ngX, aritI, this]
theorem keep_put {L : List Nd} (hI : TbI L) (h0 : 0 < L.length) (hl : L.length < 1048576) : ∃ R2 L2, ptR L ngX = (R2, 0, L2) ∧ R2 < L2.length ∧ edA L2 R2 = ngX ∧ ∃ M, L2 = L ++ M := by
  have hh : hasT L 0 = true := hasT_iff.2 ⟨0, rfl, h0⟩
  have hs : shE L ngX = 0 := by
    unfold shE
    rw [if_pos ngX_form, if_pos (by simp [ngX, hh])]
  unfold ptR putS
  rw [if_pos hs]
  cases hx : ixL L ngX with
  | some i =>
    obtain ⟨h1, h2⟩ := ixL_at hx
    exact ⟨i, L, rfl, h1, h2, [], by simp⟩
  | none => exact ⟨L.length, L ++ [ngX], by simp [hl], by simp, edA_end _ _, [ngX], rfl⟩
/-- The rows of kids. -/
def kR (q : List (Nd × Value)) : List Rw := q.map fun y => (y.2, y.1.kids.length, y.1.kids.map (Value.int .i64))
theorem kR_v (q : List (Nd × Value)) : (kR q).map (·.1) = q.map (·.2) := by simp [kR]
/-- Rows one after the other. -/
def LiesR (R : List Rw) (lo hi : Nat) : Prop := ∀ r ∈ R, ∀ b, r.1.ownBlock = some b → lo ≤ b ∧ b < hi
theorem RwL.app {w : World} {base : Nat} {e : TypeId} {s : Nat} {R S : List Rw} (h : RwL w base e s R) (k : RwL w base e s S) (hd : ∀ r ∈ R, ∀ t ∈ S, ∀ b, r.1.ownBlock = some b → t.1.ownBlock ≠ some b) : RwL w base e s (R ++ S) :=
  ⟨fun r hr => (List.mem_append.1 hr).elim (h.own r) (k.own r), List.pairwise_append.2 ⟨h.ap, k.ap, hd⟩⟩
theorem lies_apart {R S : List Rw} {a b c d : Nat} (h : LiesR R a b) (k : LiesR S c d) (hbc : b ≤ c ∨ d ≤ a) : ∀ r ∈ R, ∀ t ∈ S, ∀ g, r.1.ownBlock = some g → t.1.ownBlock ≠ some g := fun r hr t ht g h1 h2 => by
  have := h r hr g h1; have := k t ht g h2; omega
theorem RwL.one {w : World} {base : Nat} {e : TypeId} {s : Nat} {r : Rw} (h : w.ownsRow base e s r.1 r.2.1 r.2.2) : RwL w base e s [r] := ⟨fun x hx => by simp at hx; subst hx; exact h, List.pairwise_singleton _ _⟩
theorem RwL.lies {w : World} {base : Nat} {e : TypeId} {s : Nat} {R : List Rw} (h : RwL w base e s R) : LiesR R base w.heap.size := fun r hr b hb => by
  obtain ⟨h1, h2, _⟩ := rw_block (h.own r hr) hb
  exact ⟨h1, h2⟩
theorem RwL.low {w : World} {base base' : Nat} {e : TypeId} {s : Nat} {R : List Rw} (h : RwL w base e s R) (hb : base' ≤ base) : RwL w base' e s R := ⟨fun r hr => own_low (h.own r hr) hb, h.ap⟩
theorem RwL.bel {w w' : World} {base : Nat} {e : TypeId} {s : Nat} {R : List Rw} (h : RwL w base e s R) (hb : Below w.heap.size w w') : RwL w' base e s R := h.keep fun r hr b hv => hb.block b (rw_block (h.own r hr) hv).2.1
theorem LiesR.app {R S : List Rw} {a b : Nat} (h : LiesR R a b) (k : LiesR S a b) : LiesR (R ++ S) a b := fun r hr => (List.mem_append.1 hr).elim (h r) (k r)
theorem LiesR.wide {R : List Rw} {a b a' b' : Nat} (h : LiesR R a b) (h1 : a' ≤ a) (h2 : b ≤ b') : LiesR R a' b' := fun r hr g hg => by have := h r hr g hg; omega
theorem kR_own {w : World} {base : Nat} {v : Value} {q : List (Nd × Value)} (h : OwnP w base v q) (ha : KdAp q) : RwL w base 3 1 (kR q) :=
  ⟨fun r hr => by
    obtain ⟨y, hy, rfl⟩ := List.mem_map.1 hr
    exact h.kids y hy, List.pairwise_map.2 ha⟩
end Go.Proofs.YtaonednimkoeiaaDoor

namespace Go.Proofs.YtaonednimkoeiaaDoor
open Go.RowKit Go.Lib Go.Sort Go.Maps

theorem adP_one {L l : List Nd} {ids : List Nat} {L' : List Nd} (h : AdOk L l ids L') (h0 : 0 < l.length) : 0 < L'.length := Nat.lt_of_le_of_lt (Nat.zero_le _) (h.lt h0)

theorem keep_rows {W : World} {z0 z1 z2 z3 z4 z5 : Nat} {q1 q2 : List (Nd × Value)} {v1 v2 : Value} {r1 r2 r3 : Rw} (h1 : OwnP W z0 v1 q1) (d1 : KdAp q1) (l1 : LiesR (kR q1) z0 z1) (h2 : OwnP W z1 v2 q2) (d2 : KdAp q2) (l2 : LiesR (kR q2) z1 z2)
    (g1 : W.ownsRow z2 3 1 r1.1 r1.2.1 r1.2.2) (m1 : LiesR [r1] z2 z3) (g2 : W.ownsRow z3 3 1 r2.1 r2.2.1 r2.2.2) (m2 : LiesR [r2] z3 z4) (g3 : W.ownsRow z4 3 1 r3.1 r3.2.1 r3.2.2) (m3 : LiesR [r3] z4 z5) (a1 : z0 ≤ z1) (a2 : z1 ≤ z2) (a3 : z2 ≤ z3) (a4 : z3 ≤ z4) (a5 : z4 ≤ z5) : RwL W z0 3 1 ([r1, r2, r3] ++ kR q1 ++ kR q2) := by
  have e1 : RwL W z0 3 1 ([r1] ++ [r2]) := ((RwL.one g1).low (by omega)).app ((RwL.one g2).low (by omega)) (lies_apart m1 m2 (by omega))
  have n1 : LiesR ([r1] ++ [r2]) z2 z4 := (m1.wide (by omega) (by omega)).app (m2.wide (by omega) (by omega))
  have e2 : RwL W z0 3 1 (([r1] ++ [r2]) ++ [r3]) := e1.app ((RwL.one g3).low (by omega)) (lies_apart n1 m3 (by omega))
  have n2 : LiesR (([r1] ++ [r2]) ++ [r3]) z2 z5 := (n1.wide (by omega) (by omega)).app (m3.wide (by omega) (by omega))
  have e3 := e2.app (kR_own h1 d1) (lies_apart n2 l1 (by omega))
  have n3 : LiesR ((([r1] ++ [r2]) ++ [r3]) ++ kR q1) z0 z5 := (n2.wide (by omega) (by omega)).app (l1.wide (by omega) (by omega))
  refine e3.app ((kR_own h2 d2).low a1) fun r hr t ht g hg1 hg2 => ?_
  have hb := l2 t ht g hg2
  rcases List.mem_append.1 hr with h | h
  · have := n2 r h g hg1; omega
  · have := l1 r h g hg1; omega
theorem keep_nodes {W : World} {z0 z1 z2 : Nat} {q1 q2 : List (Nd × Value)} {v1 v2 : Value} (h1 : OwnP W z0 v1 q1) (h2 : OwnP W z1 v2 q2) (l1 : ∀ b, v1.ownBlock = some b → b < z1) (a1 : z0 ≤ z1) : RwL W z0 59 4 [(v1, q1.length, ndCells q1), (v2, q2.length, ndCells q2)] := by
  have e1 := ((RwL.one (r := (v1, q1.length, ndCells q1)) h1.row)).app ((RwL.one (r := (v2, q2.length, ndCells q2)) h2.row).low a1) (fun r hr t ht g hg1 hg2 => by
    simp at hr ht; subst hr ht
    have := l1 g hg1
    have := (rw_block h2.row hg2).1
    omega)
  exact e1
theorem ownP_below {w w' : World} {base : Nat} {v : Value} {q : List (Nd × Value)} (h : OwnP w base v q) (hb : Below w.heap.size w w') : OwnP w' base v q :=
  ⟨rw_same h.row (fun b hv => hb.block b (rw_block h.row hv).2.1), fun y hy => rw_same (h.kids y hy) (fun b hv => hb.block b (rw_block (h.kids y hy) hv).2.1)⟩
theorem row_below {w w' : World} {base : Nat} {e : TypeId} {s n : Nat} {v : Value} {xs : List Value} (h : w.ownsRow base e s v n xs) (hb : Below w.heap.size w w') : w'.ownsRow base e s v n xs := rw_same h (fun b hv => hb.block b (rw_block h hv).2.1)

set_option maxRecDepth 20000 in
set_option maxHeartbeats 32000000 in
theorem tableKeeps_walk (w : World) (ao : Option Addr) (ac : Nat) (a : List Nd) (hT : SpanCells w) (hRa : Rd w ao ac a) (hFa : FitX a) :
    Calls Tryd.prog 7 #[.slice ao a.length ac] w fun e w' => e = .returned (.bool true) ∧ Below w.heap.size w w' := by
  have hFR : FitR a := ⟨hFa.len, hFa.kids, hFa.name⟩
  obtain ⟨⟨R1, E1, L1⟩, hA1⟩ : ∃ t, adP [] a = t := ⟨_, rfl⟩
  have hlen1 := adP_len (l := a) TbI.nil (by simp)
  rw [hA1] at hlen1
  obtain ⟨hl1, hI1⟩ := hlen1
  simp only [List.length_nil, Nat.zero_add] at hl1 hI1
  obtain ⟨⟨R2, E2, L2⟩, hP2⟩ : ∃ t, ptR L1 ngX = t := ⟨_, rfl⟩
  have HRa : Sld (∀ W, Below w.heap.size w W → Rd W ao ac a) := ⟨fun W hW => hRa.below hW hW.size⟩
  have HT : Sld (SpanCells w) := ⟨hT⟩
  have HF : Sld (FitX a ∧ FitR a) := ⟨hFa, hFR⟩
  have C1 : Sld (∀ W ev mv base vs, TbM W w.heap.size ev mv [] → Below w.heap.size w W → OwnN W base vs a → Calls Tryd.prog 39 #[.pointer (some ⟨w.heap.size, 0, none⟩), vs] W fun e w' => e = .returned (.tuple #[.int .i64 (R1 : Nat), .int .i64 E1]) ∧ ∃ ev' mv', TbT W w.heap.size ev mv ev' mv' L1 w') := ⟨fun W ev mv base vs h1 h2 h3 => by
    have := tAdd_room W w.heap.size ev mv [] a base vs h1 (hT.below h2) h3 hFa.num (by simp)
    rw [hA1] at this
    exact this⟩
  have C2 : Sld (∀ W ev mv ka kc, TbM W w.heap.size ev mv L1 → Below w.heap.size w W → Ints W W.heap.size (.slice ka 1 kc) [0] → Calls Tryd.prog 33 #[.pointer (some ⟨w.heap.size, 0, none⟩), .agg #[.int .i64 3, .int .i64 0, .string ⟨#[]⟩, .slice ka 1 kc]] W fun e w' => e = .returned (.tuple #[.int .i64 (R2 : Nat), .int .i64 E2]) ∧ ∃ ev' mv', TbT W w.heap.size ev mv ev' mv' L2 w') := ⟨fun W ev mv ka kc h1 h2 h3 => by
    have := tPut_any W w.heap.size ev mv L1 ngX ka kc h1 (hT.below h2) ⟨h3, by unfold N6 ngX; decide, Nat.zero_le _⟩
    rw [hP2] at this
    exact this⟩
  obtain ⟨w1, hw1⟩ : ∃ w1, w.alloc (.cells #[.slice none 0 0, .map none] 99) = w1 := ⟨_, rfl⟩
  have HB1 : Sld (Below w.heap.size w w1) := ⟨by rw [← hw1]; exact (Below.refl _ _).alloc (Nat.le_refl _) _⟩
  have HM1 : Sld (TbM w1 w.heap.size (.slice none 0 0) (.map none) []) := ⟨by rw [← hw1]; exact TbM.fresh w⟩
  have CN : Sld (Calls Tryd.prog 31 #[] w fun e w' => e = .returned (.pointer (some ⟨w.heap.size, 0, none⟩)) ∧ w' = w1) := ⟨by rw [← hw1]; exact tnew_any w⟩
  have CA : Sld (Calls Tryd.prog 32 #[] w1 fun e w' => e = .returned (.bool true) ∧ Below w1.heap.size w1 w') := ⟨awake10_any w1 (hT.below HB1.out)⟩
  have CK : Sld (∀ W, Below w.heap.size w W → Calls Tryd.prog 11 #[.slice ao a.length ac] W fun e w' => e = .returned (.int .i64 (chkE a)) ∧ Below W.heap.size W w') := ⟨fun W hW => rchkR (HRa.out W hW) hFa.fit _ rfl⟩
  have HA1 : Sld (adP [] a = (R1, E1, L1) ∧ ptR L1 ngX = (R2, E2, L2) ∧ TbI L1) := ⟨hA1, hP2, hI1⟩
  obtain ⟨B, hB1, hB2, HBB⟩ : ∃ B, (E1 == 0) = B ∧ (chkE a == 0) = B ∧ Sld (B = true ↔ ∃ fr, begL a = some fr) := by
    cases hb : begL a with
    | none =>
      rw [adP_bad hb] at hA1
      have hc : chkE a = 1 := chkE_no (by simp [sndB, hb])
      have h1 : (1 : Int) = E1 := (Prod.mk.inj (Prod.mk.inj hA1).2).1
      exact ⟨false, by rw [← h1]; rfl, by rw [hc]; rfl, ⟨by simp⟩⟩
    | some fr =>
      obtain ⟨ids, L', hAd, hA⟩ := adP_snd TbI.nil hb (by simp)
      rw [hA] at hA1
      have hc : chkE a = 0 := chkE_yes (by simp [sndB, hb])
      have h1 : (0 : Int) = E1 := (Prod.mk.inj (Prod.mk.inj hA1).2).1
      exact ⟨true, by rw [← h1]; rfl, by rw [hc]; rfl, ⟨by simp⟩⟩
  generalize chkE a = CE at *
  clear hw1 hT hRa hFa hA1 hI1 hFR hP2
  go_enter Tryd.func7, Tryd.ntmps7
  go_wp2_with fail
  refine CN.out.mono ?_
  rintro e w2 ⟨rfl, hw2⟩
  subst hw2
  go_wp2_with fail
  refine CA.out.mono ?_
  rintro e w3 ⟨rfl, hb3⟩
  have HB3 : Sld (Below w.heap.size w w3) := ⟨HB1.out.trans (hb3.mono HB1.out.size)⟩
  have HM3 : Sld (TbM w3 w.heap.size (.slice none 0 0) (.map none) []) := ⟨HM1.out.below hb3⟩
  clear hb3 HB1 HM1 CN CA
  go_wp2_with fail
  refine (roomy_any ao ac a w3 (HRa.out w3 HB3.out) HF.out.2).mono ?_
  rintro e w4 ⟨R, vw, vf, vk, p, ks, rfl, hRo⟩
  have HRO : Sld (RoomOk w3 R a vw vf vk p ks w4) := ⟨hRo⟩
  have HB4 : Sld (Below w.heap.size w w4) := ⟨HB3.out.trans (hRo.below.mono HB3.out.size)⟩
  have HM4 : Sld (TbM w4 w.heap.size (.slice none 0 0) (.map none) []) := ⟨HM3.out.below hRo.below⟩
  obtain ⟨fb, fc, hvf, hOx, hpm, hptl⟩ := hRo.exp
  obtain ⟨wa, wc, hvw, _⟩ := Rd_of_own hRo.was
  have hfc : a.length + 7 ≤ fc ∧ fc ≤ maxLen := by
    have hfr := hRo.full.row
    have hpl : p.length = a.length + 7 := by have := congrArg List.length hRo.nodes; simp [exL_len] at this; exact this
    rw [hpl, hvf] at hfr
    rcases hfr.2 with ⟨h7, _⟩ | ⟨g', cap', cur, h7, _, _, h8, h9, _⟩
    · cases h7
    · injection h7 with _ _ h7c
      subst h7c
      exact ⟨h8, h9⟩
  have hRlo : w.heap.size ≤ R := Nat.le_trans HB3.out.size hRo.lo
  have HRR : Sld (w.heap.size ≤ R ∧ a.length + 7 ≤ fc ∧ fc ≤ maxLen ∧ vf = .slice (some ⟨fb, 0, none⟩) (a.length + 7) fc ∧ vw = .slice wa a.length wc) := ⟨hRlo, hfc.1, hfc.2, hvf, hvw⟩
  have CX : Sld (∀ W, W.heap[R]? = some (.cells #[vw, vf, vk] 83 (0, 0)) → Calls Tryd.prog 23 #[.pointer (some ⟨R, 0, none⟩)] W fun e w' => e = .returned (.slice (some ⟨fb, 0, none⟩) a.length fc) ∧ Below W.heap.size W w') := ⟨fun W hW => roomExpr' W R fb fc a.length wc wa vk (by simp [World.cell?, hW, hvw]) (by simp [World.cell?, hW, hvf]) hfc.1 hfc.2⟩
  have HOX : Sld (OwnP w4 (R + 1) (.slice (some ⟨fb, 0, none⟩) a.length fc) (p.take a.length) ∧ (p.take a.length).map (·.1) = a ∧ (p.take a.length).length = a.length) := ⟨hOx, hpm, hptl⟩
  clear hRo hOx hpm hptl hvf hvw hfc hRlo HB3 HM3
  go_wp2_with fail
  refine (CX.out w4 HRO.out.blk).mono ?_
  rintro e w5 ⟨rfl, hb5⟩
  have HB5 : Sld (Below w4.heap.size w4 w5) := ⟨hb5⟩
  have HM5 : Sld (TbM w5 w.heap.size (.slice none 0 0) (.map none) []) := ⟨HM4.out.below hb5⟩
  have HBB5 : Sld (Below w.heap.size w w5) := ⟨HB4.out.trans (hb5.mono HB4.out.size)⟩
  have HO5 : Sld (OwnP w5 (R + 1) (.slice (some ⟨fb, 0, none⟩) a.length fc) (p.take a.length)) := ⟨⟨rw_same HOX.out.1.row (fun b hb => hb5.block b (rw_block HOX.out.1.row hb).2.1), fun y hy => rw_same (HOX.out.1.kids y hy) (fun b hb => hb5.block b (rw_block (HOX.out.1.kids y hy) hb).2.1)⟩⟩
  have HRO5 : Sld (RoomOk w3 R a vw vf vk p ks w5) := ⟨⟨HRO.out.lo, (hb5.block _ (lt_of_block HRO.out.blk)).trans HRO.out.blk, by
      obtain ⟨q, hq1, hq2⟩ := HRO.out.was
      exact ⟨q, hq1, ⟨rw_same hq2.row (fun b hb => hb5.block b (rw_block hq2.row hb).2.1), fun y hy => rw_same (hq2.kids y hy) (fun b hb => hb5.block b (rw_block (hq2.kids y hy) hb).2.1)⟩⟩,
    ⟨rw_same HRO.out.full.row (fun b hb => hb5.block b (rw_block HRO.out.full.row hb).2.1), fun y hy => rw_same (HRO.out.full.kids y hy) (fun b hb => hb5.block b (rw_block (HRO.out.full.kids y hy) hb).2.1)⟩, HRO.out.nodes,
    rw_same HRO.out.klist (fun b hb => hb5.block b (rw_block HRO.out.klist hb).2.1), fun i hi => rw_same (HRO.out.kids i hi) (fun b hb => hb5.block b (rw_block (HRO.out.kids i hi) hb).2.1), HRO.out.below.trans (hb5.mono HRO.out.below.size)⟩⟩
  have HD1 : Sld _ := ⟨C1.out w5 _ _ _ _ HM5.out HBB5.out ⟨p.take a.length, HOX.out.2.1, HO5.out⟩⟩
  clear hb5 HRO HB4 HM4 C1
  go_wp2_with fail
  refine HD1.out.mono ?_
  rintro e w6 ⟨rfl, ev6, mv6, hT6⟩
  have HB6 : Sld (Below w.heap.size w w6) := ⟨hT6.b HM5.out HBB5.out (Nat.le_refl _)⟩
  have HM6 : Sld (TbM w6 w.heap.size ev6 mv6 L1) := ⟨hT6.tb⟩
  have hRO6 := HRO5.out.tb HM5.out hT6.tk
  have HRB6 : Sld (w6.heap[R]? = some (.cells #[vw, vf, vk] 83 (0, 0))) := ⟨hRO6.blk⟩
  have HO6 : Sld (OwnP w6 (R + 1) (.slice (some ⟨fb, 0, none⟩) a.length fc) (p.take a.length)) := ⟨HO5.out.tb HM5.out hT6.tk⟩
  obtain ⟨wa', wc', fb', fc', ka', kc', hRd6⟩ := hRO6.rd
  have CKe : Sld (Calls Tryd.prog 28 #[.pointer (some ⟨R, 0, none⟩)] w6 fun e w' => e = .returned (.bool true) ∧ Below w6.heap.size w6 w') := ⟨kept_any hRd6 HF.out.2⟩
  clear hT6 HD1 hRO6 hRd6 HRO5 HM5 HBB5 HB5 HO5 HF
  go_wp2_with fail
  refine CKe.out.mono ?_
  rintro e w7 ⟨rfl, hb7⟩
  have HB7 : Sld (Below w6.heap.size w6 w7) := ⟨hb7⟩
  have HBB7 : Sld (Below w.heap.size w w7) := ⟨HB6.out.trans (hb7.mono HB6.out.size)⟩
  clear hb7 CKe
  go_wp2_with fail
  refine (CK.out w7 HBB7.out).mono ?_
  rintro e w8 ⟨rfl, hb8⟩
  have HB8 : Sld (Below w6.heap.size w6 w8) := ⟨HB7.out.trans (hb8.mono HB7.out.size)⟩
  clear hb8 HB7 HBB7 CK
  have hB8 := HB8.out
  obtain ⟨w9, hw9⟩ : ∃ w9, w8.alloc (.cells #[.int .i64 0] 3) = w9 := ⟨_, rfl⟩
  have hb9 : Below w8.heap.size w8 w9 := by rw [← hw9]; exact (Below.refl _ _).alloc (Nat.le_refl _) _
  have hk9 : w9.heap[w8.heap.size]? = some (.cells #[.int .i64 0] 3 (0, 0)) := by rw [← hw9, Deep.blk_alloc_new]
  have HB9 : Sld (Below w6.heap.size w6 w9) := ⟨HB8.out.trans (hb9.mono HB8.out.size)⟩
  have HK9 : Sld (w9.heap[w8.heap.size]? = some (.cells #[.int .i64 0] 3 (0, 0)) ∧ w6.heap.size ≤ w8.heap.size) := ⟨hk9, HB8.out.size⟩
  clear hb9 hk9 hB8
  go_wp2_with fail
  have hM9 := HM6.out.below HB9.out
  have hBB9 := HB6.out.trans (HB9.out.mono HB6.out.size)
  have HI9 : Sld (Ints w9 w9.heap.size (.slice (some ⟨w8.heap.size, 0, none⟩) 1 1) [0]) := ⟨⟨some ⟨w8.heap.size, 0, none⟩, 1, rfl, by simp, ⟨by unfold maxLen; omega, fun h => by cases h⟩, .inr ⟨w8.heap.size, 0, rfl, lt_of_block HK9.out.1, fun j hj => by
    have hj0 : j = 0 := by simp at hj; exact hj
    subst hj0
    simp [World.cell?, HK9.out.1]⟩⟩⟩
  try rw [hw9]
  have HD2 : Sld _ := ⟨C2.out w9 ev6 mv6 _ _ hM9 hBB9 HI9.out⟩
  refine HD2.out.mono ?_
  rintro e w10 ⟨rfl, ev10, mv10, hT10⟩
  have HB10 : Sld (Below w.heap.size w w10) := ⟨hT10.b hM9 hBB9 (Nat.le_refl _)⟩
  have HM10 : Sld (TbM w10 w.heap.size ev10 mv10 L2) := ⟨hT10.tb⟩
  have hR9 := (HB9.out.block _ (lt_of_block HRB6.out)).trans HRB6.out
  have HRB10 : Sld (w10.heap[R]? = some (.cells #[vw, vf, vk] 83 (0, 0))) := ⟨(hT10.tk.same R (lt_of_block hR9) (hM9.typed hR9 (by decide) (by decide))).trans hR9⟩
  have hk10 : w10.heap[w8.heap.size]? = some (.cells #[.int .i64 0] 3 (0, 0)) := (hT10.tk.same _ (lt_of_block HK9.out.1) (hM9.typed HK9.out.1 (by decide) (by decide))).trans HK9.out.1
  have hO9 : OwnP w9 (R + 1) (.slice (some ⟨fb, 0, none⟩) a.length fc) (p.take a.length) := ⟨rw_same HO6.out.row (fun b hb => HB9.out.block b (rw_block HO6.out.row hb).2.1), fun y hy => rw_same (HO6.out.kids y hy) (fun b hb => HB9.out.block b (rw_block (HO6.out.kids y hy) hb).2.1)⟩
  have HO10 : Sld (OwnP w10 (R + 1) (.slice (some ⟨fb, 0, none⟩) a.length fc) (p.take a.length)) := ⟨hO9.tb hM9 hT10.tk⟩
  have hRk : R + 1 ≤ w8.heap.size := by have := lt_of_block HRB6.out; have := HK9.out.2; omega
  have hK11 : KpI (R + 1) w10 (w10.setCell ⟨w8.heap.size, 0, none⟩ (.int .i64 7)) := (KpI.refl (R + 1) w10).set hRk (lt_of_block hk10) hk10 hk10 rfl _
  have k10 : w10.cell? ⟨w8.heap.size, 0, none⟩ = some (.int .i64 0) := by simp [World.cell?, hk10]
  have k10f : w10.frozen? ⟨w8.heap.size, 0, none⟩ = false := by simp [World.frozen?, hk10]
  obtain ⟨w11, hw11⟩ : ∃ w11, w10.setCell ⟨w8.heap.size, 0, none⟩ (.int .i64 7) = w11 := ⟨_, rfl⟩
  rw [hw11] at hK11
  have HK11 : Sld (KpI (R + 1) w10 w11) := ⟨hK11⟩
  clear hK11 hO9 hk10 hR9 hT10 HD2 HI9 hM9 hBB9 HB9 HK9 HO6 HRB6 HM6 HB6 hw9 C2 hRk HB8
  go_wp2_with fail
  try rw [hw11]
  clear hw11 k10 k10f
  have haI : (a.length : Int) + 7 ≤ (fc : Int) := by have := HRR.out.2.1; omega
  have hfI : (fc : Int) ≤ 9223372036854775807 := by have := HRR.out.2.2.1; unfold maxLen at this; omega
  go_loopw [10] (fun ii wr => ∃ i : Nat, i ≤ a.length ∧ ii = .int .i64 i ∧ KpI (R + 1) w10 wr) (fun ii _ => a.length - (RowKit.intOf ii).toNat)
  case atStart => exact ⟨0, by omega, rfl, HK11.out⟩
  case round =>
    obtain ⟨i, hi, rfl, hK⟩ := hrel
    have HK : Sld (KpI (R + 1) w10 wr) := ⟨hK⟩
    clear hK HK11
    by_cases hlt : i < a.length
    · have hltI : (i : Int) < (a.length : Int) := by omega
      have hpi : i < (p.take a.length).length := by rw [HOX.out.2.2]; exact hlt
      obtain ⟨ka, kc, hkv⟩ := rw_form (HO10.out.kids _ (List.getElem_mem hpi))
      obtain ⟨kl, hkl⟩ : ∃ kl, (p.take a.length)[i].1.kids.length = kl := ⟨_, rfl⟩
      rw [hkl] at hkv
      have FK : Sld (∀ W, KpI (R + 1) w10 W → W.heap[R]? = some (.cells #[vw, vf, vk] 83 (0, 0)) ∧ W.cell? ⟨fb, i * 4 + 3, none⟩ = some (.slice ka kl kc) ∧ R + 1 ≤ W.heap.size) := ⟨fun W hW => by
        have hr := hW.at_ HRB10.out (by decide)
        have hqi : (p.take a.length)[i]? = some ((p.take a.length)[i].1, (p.take a.length)[i].2) := by rw [List.getElem?_eq_getElem hpi]
        obtain ⟨_, _, _, a3⟩ := ndCells_at (p.take a.length) i _ _ hqi
        have hc := (rdr_own (hW.row HO10.out.row (by decide))).cell (b := fb) rfl a3
        rw [hkv] at hc
        exact ⟨hr, hc, lt_of_block hr⟩⟩
      have FW : Sld (∀ W k, KpI (R + 1) w10 W → k < kl → ∃ g u, ka = some ⟨g, 0, none⟩ ∧ kl ≤ kc ∧ kc ≤ maxLen ∧ W.cell? ⟨g, k, none⟩ = some u ∧ W.frozen? ⟨g, k, none⟩ = false ∧ ∀ x, KpI (R + 1) w10 (W.setCell ⟨g, k, none⟩ x)) := ⟨fun W k hW hk => by
        have ho := HO10.out.kids _ (List.getElem_mem hpi)
        unfold OwnI at ho
        rw [hkl] at ho
        obtain ⟨g, cap, u, h1, h2, h3, h4, h5, h6⟩ := hW.kids ho hk (Nat.le_refl _)
        rw [hkv] at h1
        injection h1 with h1 _ h1c
        exact ⟨g, u, h1, by omega, by omega, h4, h5, h6⟩⟩
      clear hpi hkv hkl
      go_wp2_with fail
      go_loopw [11] (fun kk wq => ∃ k : Nat, k ≤ kl ∧ kk = .int .i64 k ∧ KpI (R + 1) w10 wq) (fun kk _ => kl - (RowKit.intOf kk).toNat)
      case atStart => exact ⟨0, by omega, rfl, HK.out⟩
      case round =>
        obtain ⟨k, hk, rfl, hKq⟩ := hrel
        obtain ⟨f1, f2, f3⟩ := FK.out _ hKq
        have HK1 : Sld (KpI (R + 1) w10 wr) := ⟨hKq⟩
        have HF1 : Sld (wr.heap[R]? = some (.cells #[vw, vf, vk] 83 (0, 0))) := ⟨f1⟩
        clear f1 f2 f3 hKq
        go_wp2_with fail
        refine (CX.out _ HF1.out).mono ?_
        rintro e w12 ⟨rfl, hb12⟩
        have hK12 := HK1.out.below hb12 (FK.out _ HK1.out).2.2
        obtain ⟨f1, f2, f3⟩ := FK.out _ hK12
        have HK2 : Sld (KpI (R + 1) w10 w12) := ⟨hK12⟩
        have HF2 : Sld (w12.heap[R]? = some (.cells #[vw, vf, vk] 83 (0, 0))) := ⟨f1⟩
        clear f1 f3 hb12 hK12 HK1 HF1
        by_cases hkk : k < kl
        · have hkI : (k : Int) < (kl : Int) := by omega
          go_wp2_with fail
          refine (CX.out _ HF2.out).mono ?_
          rintro e w13 ⟨rfl, hb13⟩
          have hK13 := HK2.out.below hb13 (FK.out _ HK2.out).2.2
          obtain ⟨_, g2, _⟩ := FK.out _ hK13
          obtain ⟨g, u, rfl, hc1, hc2, hc3, hc4, hc5⟩ := FW.out _ k hK13 hkk
          have HK3 : Sld (∀ x, KpI (R + 1) w10 (w13.setCell ⟨g, k, none⟩ x)) := ⟨hc5⟩
          have hkc : (kl : Int) ≤ (kc : Int) := by omega
          unfold maxLen at hc2
          have hkm : (kc : Int) ≤ 9223372036854775807 := by omega
          clear hb13 hK13 hc5 f2
          go_wp2_with fail
          exact ⟨⟨k + 1, by omega, by go_num, HK3.out _⟩, by simp [RowKit.intOf]; omega⟩
        · have hke : k = kl := by omega
          subst hke
          go_wp2_with fail
          exact ⟨⟨i + 1, by omega, by go_num, HK2.out⟩, by simp [RowKit.intOf]; omega⟩
    · have hie : i = a.length := by omega
      subst hie
      have HBz : Sld (Below w.heap.size w wr) := ⟨HB10.out.trans (HK.out.bel.mono (by have := HRR.out.1; omega))⟩
      have HMz : Sld (TbM wr w.heap.size ev10 mv10 L2) := ⟨HK.out.tb HM10.out⟩
      cases B with
      | false =>
        have hE : (E1 != 0) = true := by simp [bne, hB1]
        clear HK HB10 HM10 HO10 HRB10 HOX HRR CX
        go_wp2_with fail
        go_ret
        exact ⟨rfl, HBz.out⟩
      | true =>
        obtain ⟨fr, hfr⟩ := HBB.out.1 rfl
        have hE0 : E1 = 0 := by simpa using hB1
        subst hE0
        obtain ⟨ids, L', hAd, hA⟩ := adP_snd TbI.nil hfr (by simp)
        have hA' := HA1.out.1
        rw [hA] at hA'
        have h1 : ids.getD (a.length - 1) 0 = R1 := (Prod.mk.inj hA').1
        have h4' : L1 = L' := ((Prod.mk.inj (Prod.mk.inj hA').2).2).symm
        subst h4'
        obtain ⟨ha0, ha64, _, _⟩ := begL_some hfr
        have hlt1 : R1 < L1.length := by rw [← h1]; exact hAd.lt ha0
        have hex : exA L1 R1 = a := by rw [← h1]; exact hAd.whole hfr
        obtain ⟨R2', L2', hp, hR2, hed, M, hM⟩ := keep_put HA1.out.2.2 (by omega) (by omega)
        rw [HA1.out.2.1] at hp
        have e1 : R2' = R2 := (Prod.mk.inj hp).1.symm
        have e2 : L2' = L2 := (Prod.mk.inj (Prod.mk.inj hp).2).2.symm
        rw [e1, e2] at hR2 hed
        rw [e2] at hM
        have hlt2 : R1 < L2.length := by rw [hM, List.length_append]; omega
        have hex2 : exA L2 R1 = a := by rw [hM, exA_app hlt1]; exact hex
        have hk3 := formB_kids (HMz.out.inv.form R1 hlt2)
        have CE : Sld (∀ W, Below wr.heap.size wr W → Calls Tryd.prog 36 #[.pointer (some ⟨w.heap.size, 0, none⟩), .int .i64 R1] W fun e w' => ∃ xo xc q, e = .returned (.tuple #[.slice xo a.length xc, .int .i64 0]) ∧ (q.map (·.1) = a ∧ OwnP w' W.heap.size (.slice xo a.length xc) q ∧ KdAp q) ∧ Below W.heap.size W w') := ⟨fun W hW => by
          have := tExpr_ok W w.heap.size ev10 mv10 L2 R1 (HMz.out.below hW) hlt2 (by rw [hex2]; exact ha64)
          rw [hex2] at this
          refine this.mono fun e w' ⟨xo, xc, h5, h6⟩ => ?_
          obtain ⟨q, g1, g2, g3⟩ := h6.ex
          exact ⟨xo, xc, q, h5, ⟨g1, g2, g3⟩, h6.below⟩⟩
        have CN1 : Sld (∀ W, Below wr.heap.size wr W → Calls Tryd.prog 38 #[.pointer (some ⟨w.heap.size, 0, none⟩), .int .i64 R1] W fun e w' => ∃ ka kc, e = .returned (.tuple #[.agg #[.int .i64 (edA L2 R1).op, .int .i64 (edA L2 R1).n, .string (edA L2 R1).name, .slice ka (edA L2 R1).kids.length kc], .int .i64 0]) ∧ OwnI w' W.heap.size (.slice ka (edA L2 R1).kids.length kc) (edA L2 R1).kids ∧ Below W.heap.size W w') := ⟨fun W hW => tNode_ok W w.heap.size ev10 mv10 L2 R1 (HMz.out.below hW) hlt2⟩
        have CN2 : Sld (∀ W, Below wr.heap.size wr W → Calls Tryd.prog 38 #[.pointer (some ⟨w.heap.size, 0, none⟩), .int .i64 R2] W fun e w' => ∃ ka kc, e = .returned (.tuple #[.agg #[.int .i64 3, .int .i64 0, .string ⟨#[]⟩, .slice ka 1 kc], .int .i64 0]) ∧ OwnI w' W.heap.size (.slice ka 1 kc) [0] ∧ Below W.heap.size W w') := ⟨fun W hW => by
          have := tNode_ok W w.heap.size ev10 mv10 L2 R2 (HMz.out.below hW) hR2
          rw [hed] at this
          exact this⟩
        generalize edA L2 R1 = X at *
        obtain ⟨xo, xn, xm, xk⟩ := X
        simp only at CN1 hk3
        have CSN : Sld (∀ W k1 c1 k2 c2, Ints W W.heap.size (.slice k1 xk.length c1) xk → Ints W W.heap.size (.slice k2 xk.length c2) xk → Calls Tryd.prog 42 #[.agg #[.int .i64 xo, .int .i64 xn, .string xm, .slice k1 xk.length c1], .agg #[.int .i64 xo, .int .i64 xn, .string xm, .slice k2 xk.length c2]] W fun e w' => e = .returned (.bool true) ∧ Below W.heap.size W w') := ⟨fun W k1 c1 k2 c2 i1 i2 => by
          have := sameNode_any ⟨xo, xn, xm, xk⟩ ⟨xo, xn, xm, xk⟩ _ _ W _ (Nat.le_refl _) i1 i2
          rw [(ndEq_iff _ _).2 rfl] at this
          exact this⟩
        have HKA : Sld (∀ x ∈ a, x.kids.length ≤ 100000) := ⟨fun x hx => by
          obtain ⟨_, _, hbr, _⟩ := begL_some hfr
          obtain ⟨j, hj, rfl⟩ := List.mem_iff_getElem.1 hx
          have := formB_kids ((begOk_of hbr).at_ j hj).1
          simp [hj] at this
          omega⟩
        have HRz : Sld (∀ W, Below wr.heap.size wr W → Rd W ao ac a) := ⟨fun W hW => HRa.out W (HBz.out.trans (hW.mono HBz.out.size))⟩
        clear hA hA' h1 hAd hex hp e1 e2 hM hed hex2 hB1 hB2 HBB HA1 HK HB10 HM10 HO10 HRB10 HOX HRR CX hfr HMz HRa
        go_wp2_with fail
        refine (CE.out wr (Below.refl _ _)).mono ?_
        rintro e w12 ⟨ao1, cp1, q1, rfl, hq1, hb12⟩
        have H1 : Sld (q1.map (·.1) = a ∧ OwnP w12 wr.heap.size (.slice ao1 a.length cp1) q1 ∧ KdAp q1) := ⟨hq1⟩
        have B12 : Sld (Below wr.heap.size wr w12) := ⟨hb12⟩
        clear hq1 hb12
        go_wp2_with fail
        refine (CE.out w12 B12.out).mono ?_
        rintro e w13 ⟨ao2, cp2, q2, rfl, hq2, hb13⟩
        have H2 : Sld (q2.map (·.1) = a ∧ OwnP w13 w12.heap.size (.slice ao2 a.length cp2) q2 ∧ KdAp q2) := ⟨hq2⟩
        have D13 : Sld (Below w12.heap.size w12 w13) := ⟨hb13⟩
        have B13 : Sld (Below wr.heap.size wr w13) := ⟨B12.out.trans (hb13.mono B12.out.size)⟩
        clear hq2 hb13
        go_wp2_with fail
        refine (CN1.out w13 B13.out).mono ?_
        rintro e w14 ⟨ka1, kc1, rfl, hO14, hb14⟩
        obtain ⟨w15, hw15⟩ : ∃ w15, w14.alloc (.cells #[.int .i64 xo, .int .i64 xn, .string xm, .slice ka1 xk.length kc1] 59) = w15 := ⟨_, rfl⟩
        have D15 : Sld (Below w13.heap.size w13 w15) := ⟨by rw [← hw15]; exact hb14.alloc hb14.size _⟩
        have K15 : Sld (w15.heap[w14.heap.size]? = some (.cells #[.int .i64 xo, .int .i64 xn, .string xm, .slice ka1 xk.length kc1] 59 (0, 0))) := ⟨by rw [← hw15, Deep.blk_alloc_new]⟩
        have O15 : Sld (OwnI w15 w13.heap.size (.slice ka1 xk.length kc1) xk) := ⟨by rw [← hw15]; exact row_below hO14 ((Below.refl _ _).alloc (Nat.le_refl _) _)⟩
        have B15 : Sld (Below wr.heap.size wr w15) := ⟨B13.out.trans (D15.out.mono B13.out.size)⟩
        clear hO14 hb14
        go_wp2_with fail
        try rw [hw15]
        clear hw15
        refine (CN1.out w15 B15.out).mono ?_
        rintro e w16 ⟨ka2, kc2, rfl, hO16, hb16⟩
        obtain ⟨w17, hw17⟩ : ∃ w17, w16.alloc (.cells #[.int .i64 xo, .int .i64 xn, .string xm, .slice ka2 xk.length kc2] 59) = w17 := ⟨_, rfl⟩
        have D17 : Sld (Below w15.heap.size w15 w17) := ⟨by rw [← hw17]; exact hb16.alloc hb16.size _⟩
        have K17 : Sld (w17.heap[w16.heap.size]? = some (.cells #[.int .i64 xo, .int .i64 xn, .string xm, .slice ka2 xk.length kc2] 59 (0, 0))) := ⟨by rw [← hw17, Deep.blk_alloc_new]⟩
        have O17 : Sld (OwnI w17 w15.heap.size (.slice ka2 xk.length kc2) xk) := ⟨by rw [← hw17]; exact row_below hO16 ((Below.refl _ _).alloc (Nat.le_refl _) _)⟩
        have B17 : Sld (Below wr.heap.size wr w17) := ⟨B15.out.trans (D17.out.mono B15.out.size)⟩
        clear hO16 hb16
        go_wp2_with fail
        try rw [hw17]
        clear hw17
        refine (CN2.out w17 B17.out).mono ?_
        rintro e w18 ⟨ka3, kc3, rfl, hO18, hb18⟩
        obtain ⟨w19, hw19⟩ : ∃ w19, w18.alloc (.cells #[.int .i64 3, .int .i64 0, .string ⟨#[]⟩, .slice ka3 1 kc3] 59) = w19 := ⟨_, rfl⟩
        have D19 : Sld (Below w17.heap.size w17 w19) := ⟨by rw [← hw19]; exact hb18.alloc hb18.size _⟩
        have K19 : Sld (w19.heap[w18.heap.size]? = some (.cells #[.int .i64 3, .int .i64 0, .string ⟨#[]⟩, .slice ka3 1 kc3] 59 (0, 0))) := ⟨by rw [← hw19, Deep.blk_alloc_new]⟩
        have O19 : Sld (OwnI w19 w17.heap.size (.slice ka3 1 kc3) [0]) := ⟨by rw [← hw19]; exact row_below hO18 ((Below.refl _ _).alloc (Nat.le_refl _) _)⟩
        have B19 : Sld (Below wr.heap.size wr w19) := ⟨B17.out.trans (D19.out.mono B17.out.size)⟩
        clear hO18 hb18
        go_wp2_with fail
        try rw [hw19]
        clear hw19
        have hql1 : q1.length = a.length := by have := congrArg List.length H1.out.1; simpa using this
        have hql2 : q2.length = a.length := by have := congrArg List.length H2.out.1; simpa using this
        have ALL : Sld (∀ W, Below w19.heap.size w19 W → OwnP W wr.heap.size (.slice ao1 a.length cp1) q1 ∧ OwnP W w12.heap.size (.slice ao2 a.length cp2) q2 ∧ OwnI W w13.heap.size (.slice ka1 xk.length kc1) xk ∧ OwnI W w15.heap.size (.slice ka2 xk.length kc2) xk ∧ OwnI W w17.heap.size (.slice ka3 1 kc3) [0] ∧
            W.heap[w14.heap.size]? = some (.cells #[.int .i64 xo, .int .i64 xn, .string xm, .slice ka1 xk.length kc1] 59 (0, 0)) ∧ W.heap[w16.heap.size]? = some (.cells #[.int .i64 xo, .int .i64 xn, .string xm, .slice ka2 xk.length kc2] 59 (0, 0)) ∧ W.heap[w18.heap.size]? = some (.cells #[.int .i64 3, .int .i64 0, .string ⟨#[]⟩, .slice ka3 1 kc3] 59 (0, 0))) := ⟨fun W hW => by
          have g17 : Below w17.heap.size w17 W := D19.out.trans (hW.mono D19.out.size)
          have g15 : Below w15.heap.size w15 W := D17.out.trans (g17.mono D17.out.size)
          have g13 : Below w13.heap.size w13 W := D15.out.trans (g15.mono D15.out.size)
          have g12 : Below w12.heap.size w12 W := D13.out.trans (g13.mono D13.out.size)
          exact ⟨ownP_below H1.out.2.1 g12, ownP_below H2.out.2.1 g13, row_below O15.out g15, row_below O17.out g17, row_below O19.out hW, (g15.block _ (lt_of_block K15.out)).trans K15.out, (g17.block _ (lt_of_block K17.out)).trans K17.out, (hW.block _ (lt_of_block K19.out)).trans K19.out⟩⟩
        have RDA : Sld (∀ W, Below w19.heap.size w19 W → Rd W ao1 cp1 a ∧ Rd W ao2 cp2 a ∧ Rd W ao ac a) := ⟨fun W hW => ⟨Nodes_of_own ⟨q1, H1.out.1, (ALL.out W hW).1⟩ (Nat.le_refl _), Nodes_of_own ⟨q2, H2.out.1, (ALL.out W hW).2.1⟩ (Nat.le_refl _), HRz.out W (B19.out.trans (hW.mono B19.out.size))⟩⟩
        refine (sameR (RDA.out w19 (Below.refl _ _)).1 (RDA.out w19 (Below.refl _ _)).2.2 true (by simp)).mono ?_
        rintro e w20 ⟨rfl, hb20⟩
        have B20 : Sld (Below w19.heap.size w19 w20) := ⟨hb20⟩
        clear hb20
        go_wp2_with fail
        refine (sameR (RDA.out w20 B20.out).2.1 (RDA.out w20 B20.out).2.2 true (by simp)).mono ?_
        rintro e w21 ⟨rfl, hb21⟩
        have hB21 := B20.out.trans (hb21.mono B20.out.size)
        have B21 : Sld (Below w19.heap.size w19 w21) := ⟨hB21⟩
        obtain ⟨_, _, hi1, hi2, _, hk1, hk2, _⟩ := ALL.out w21 hB21
        obtain ⟨y0, y1, y2, y3, _⟩ := blk4 hk1
        obtain ⟨z0, z1, z2, z3, _⟩ := blk4 hk2
        have HII : Sld (Ints w21 w21.heap.size (.slice ka1 xk.length kc1) xk ∧ Ints w21 w21.heap.size (.slice ka2 xk.length kc2) xk) := ⟨Ints_of_own hi1 (Nat.le_refl _), Ints_of_own hi2 (Nat.le_refl _)⟩
        clear hb21 hB21 hi1 hi2 hk1 hk2
        go_wp2_with fail
        refine (CSN.out w21 _ _ _ _ HII.out.1 HII.out.2).mono ?_
        rintro e w22 ⟨rfl, hb22⟩
        have hB22 := B21.out.trans (hb22.mono B21.out.size)
        have B22 : Sld (Below w19.heap.size w19 w22) := ⟨hB22⟩
        clear y0 y1 y2 y3 z0 z1 z2 z3
        obtain ⟨_, _, _, _, hi3, hk1, hk2, hk3'⟩ := ALL.out w22 hB22
        obtain ⟨_, _, _, y3, _⟩ := blk4 hk1
        obtain ⟨_, _, _, z3, _⟩ := blk4 hk2
        obtain ⟨_, _, _, x3, _⟩ := blk4 hk3'
        obtain ⟨g3, hg3⟩ : ∃ g3, ka3 = some ⟨g3, 0, none⟩ ∧ 1 ≤ kc3 ∧ kc3 ≤ maxLen ∧ w22.cell? ⟨g3, 0, none⟩ = some (.int .i64 0) := by
          rcases hi3.2 with ⟨_, h0⟩ | ⟨g, cap, cur, h7, _, _, h8, h9, _⟩
          · simp at h0
          · injection h7 with h7a _ h7c
            subst h7c
            refine ⟨g, h7a, h8, h9, ?_⟩
            have hi3' := hi3
            rw [h7a] at hi3'
            exact (rdr_own hi3').cell (b := g) rfl (i := 0) (u := .int .i64 0) rfl
        obtain ⟨hg3a, hg3b, hg3c, hg3d⟩ := hg3
        subst hg3a
        unfold maxLen at hg3c
        have hkcI : (1 : Int) ≤ (kc3 : Int) := by omega
        have hkcM : (kc3 : Int) ≤ 9223372036854775807 := by omega
        obtain ⟨w24, hw24⟩ : ∃ w24, (w22.alloc (.cells #[.slice ka1 xk.length kc1, .slice ka2 xk.length kc2, .slice (some ⟨g3, 0, none⟩) 1 kc3] 57)).alloc (.cells #[.slice none 0 0, .slice (some ⟨w22.heap.size, 0, none⟩) 3 3, .slice none 0 0, .slice none 0 0, .slice none 0 0, .slice none 0 0] 52) = w24 := ⟨_, rfl⟩
        have hb24 : Below w22.heap.size w22 w24 := by rw [← hw24]; exact ((Below.refl _ _).alloc (Nat.le_refl _) _).alloc (by simp) _
        have hB24 := B22.out.trans (hb24.mono B22.out.size)
        have B24 : Sld (Below w19.heap.size w19 w24) := ⟨hB24⟩
        have hz22 : wr.heap.size ≤ w22.heap.size := Nat.le_trans B19.out.size B22.out.size
        have BK : Sld (BkH w24 wr.heap.size (w22.heap.size + 1) (.slice none 0 0) (.slice (some ⟨w22.heap.size, 0, none⟩) 3 3) [] [.slice ka1 xk.length kc1, .slice ka2 xk.length kc2, .slice (some ⟨g3, 0, none⟩) 1 kc3] ∧ wr.heap.size ≤ w22.heap.size + 1) := ⟨⟨⟨by
            rw [← hw24]
            have := Deep.blk_alloc_new (w22.alloc (.cells #[.slice ka1 xk.length kc1, .slice ka2 xk.length kc2, .slice (some ⟨g3, 0, none⟩) 1 kc3] 57)) (.cells #[.slice none 0 0, .slice (some ⟨w22.heap.size, 0, none⟩) 3 3, .slice none 0 0, .slice none 0 0, .slice none 0 0, .slice none 0 0] 52)
            rw [World.size_alloc] at this
            exact this, World.ownsRow_nil _ _ _ _, ⟨rfl, .inr ⟨w22.heap.size, 3, #[.slice ka1 xk.length kc1, .slice ka2 xk.length kc2, .slice (some ⟨g3, 0, none⟩) 1 kc3], rfl, hz22, by rw [← hw24, Deep.blk_alloc_lt _ _ _ (by simp), Deep.blk_alloc_new], Nat.le_refl _, by unfold maxLen; omega, rfl, rfl⟩⟩⟩, by omega⟩⟩
        have OA : Sld (OwnP w24 wr.heap.size (.slice ao1 q1.length cp1) q1 ∧ OwnP w24 wr.heap.size (.slice ao2 q2.length cp2) q2) := ⟨by rw [hql1]; exact (ALL.out w24 hB24).1, by rw [hql2]; exact ownP_low (ALL.out w24 hB24).2.1 B12.out.size⟩
        have L1S : Sld (LiesR (kR q1) wr.heap.size w12.heap.size ∧ LiesR (kR q2) w12.heap.size w13.heap.size ∧ ∀ b, (Value.slice ao1 a.length cp1).ownBlock = some b → b < w12.heap.size) := ⟨(kR_own H1.out.2.1 H1.out.2.2).lies, (kR_own H2.out.2.1 H2.out.2.2).lies, fun b hb => (rw_block H1.out.2.1.row hb).2.1⟩
        have HW24 : Sld ((w22.alloc (.cells #[.slice ka1 xk.length kc1, .slice ka2 xk.length kc2, .slice (some ⟨g3, 0, none⟩) 1 kc3] 57)).alloc (.cells #[.slice none 0 0, .slice (some ⟨w22.heap.size, 0, none⟩) 3 3, .slice none 0 0, .slice none 0 0, .slice none 0 0, .slice none 0 0] 52) = w24) := ⟨hw24⟩
        clear hb24 hB24 hk1 hk2 hk3' hi3 hb22 hB22 CSN HII CN1 CN2 hw24
        go_wp2_with fail
        rw [HW24.out]
        clear HW24 y3 z3 x3 hg3d
        have CB1 := bookExpr_any w24 wr.heap.size (w22.heap.size + 1) _ _ _ _ ao1 cp1 q1 BK.out.1 BK.out.2 OA.out.1 (by simp) (by simp) (by omega)
        rw [hql1] at CB1
        refine CB1.mono ?_
        rintro e w25 ⟨rfl, hn1, hi1, hbk1, hbl1, hkk1⟩
        have K25 : Sld (BkH w25 wr.heap.size (w22.heap.size + 1) hn1 hi1 ([] ++ [.slice ao1 a.length cp1]) ([.slice ka1 xk.length kc1, .slice ka2 xk.length kc2, .slice (some ⟨g3, 0, none⟩) 1 kc3] ++ q1.map (·.2)) ∧ Below wr.heap.size w24 w25 ∧ BkK w24 w25) := ⟨hbk1, hbl1, hkk1⟩
        clear CB1 hbk1 hbl1 hkk1
        go_wp2_with fail
        have CB2 := bookExpr_any w25 wr.heap.size (w22.heap.size + 1) _ _ _ _ ao2 cp2 q2 K25.out.1 BK.out.2 (K25.out.2.2.ownP OA.out.2) (by simp) (by simp; omega) (by omega)
        rw [hql2] at CB2
        refine CB2.mono ?_
        rintro e w26 ⟨rfl, hn2, hi2, hbk2, hbl2, hkk2⟩
        have K26 : Sld (BkH w26 wr.heap.size (w22.heap.size + 1) hn2 hi2 ([] ++ [.slice ao1 a.length cp1] ++ [.slice ao2 a.length cp2]) ([.slice ka1 xk.length kc1, .slice ka2 xk.length kc2, .slice (some ⟨g3, 0, none⟩) 1 kc3] ++ q1.map (·.2) ++ q2.map (·.2)) ∧ Below wr.heap.size w24 w26 ∧ BkK w24 w26) := ⟨hbk2, K25.out.2.1.trans hbl2, K25.out.2.2.trans hkk2⟩
        clear CB2 hbk2 hbl2 hkk2 K25
        obtain ⟨_, _, _, hx1, hx2⟩ : ∃ _ : True, ∃ _ : True, ∃ _ : True, (w13.heap.size ≤ w15.heap.size) ∧ (w15.heap.size ≤ w17.heap.size) := ⟨trivial, trivial, trivial, D15.out.size, D17.out.size⟩
        obtain ⟨hp1, hp2, hp3, hp4, hp5, _⟩ := ALL.out w24 B24.out
        have RI : RwL w24 wr.heap.size 3 1 ([((.slice ka1 xk.length kc1, xk.length, xk.map (Value.int .i64)) : Rw), (.slice ka2 xk.length kc2, xk.length, xk.map (Value.int .i64)), (.slice (some ⟨g3, 0, none⟩) 1 kc3, 1, [Value.int .i64 0])] ++ kR q1 ++ kR q2) := by
          have m1 : LiesR [((.slice ka1 xk.length kc1, xk.length, xk.map (Value.int .i64)) : Rw)] w13.heap.size w15.heap.size := (RwL.one (r := (.slice ka1 xk.length kc1, xk.length, xk.map (Value.int .i64))) O15.out).lies
          have m2 : LiesR [((.slice ka2 xk.length kc2, xk.length, xk.map (Value.int .i64)) : Rw)] w15.heap.size w17.heap.size := (RwL.one (r := (.slice ka2 xk.length kc2, xk.length, xk.map (Value.int .i64))) O17.out).lies
          have m3 : LiesR [((.slice (some ⟨g3, 0, none⟩) 1 kc3, 1, [Value.int .i64 0]) : Rw)] w17.heap.size w19.heap.size := (RwL.one (r := (.slice (some ⟨g3, 0, none⟩) 1 kc3, 1, [Value.int .i64 0])) O19.out).lies
          exact keep_rows hp1 H1.out.2.2 L1S.out.1 hp2 H2.out.2.2 L1S.out.2.1 hp3 m1 hp4 m2 hp5 m3 B12.out.size D13.out.size hx1 hx2 D19.out.size
        have RN : RwL w24 wr.heap.size 59 4 [((.slice ao1 a.length cp1, q1.length, ndCells q1) : Rw), (.slice ao2 a.length cp2, q2.length, ndCells q2)] := keep_nodes (z2 := 0) hp1 hp2 L1S.out.2.2 B12.out.size
        have hkr : ∀ q : List (Nd × Value), q.map (·.1) = a → ∀ r ∈ kR q, r.2.1 ≤ 100000 := fun q hq r hr => by
          obtain ⟨y, hy, rfl⟩ := List.mem_map.1 hr
          have : y.1 ∈ a := by rw [← hq]; exact List.mem_map_of_mem hy
          exact HKA.out _ this
        have CAp := bookIN_any w26 wr.heap.size (w22.heap.size + 1) hn2 hi2 [((.slice ao1 a.length cp1, q1.length, ndCells q1) : Rw), (.slice ao2 a.length cp2, q2.length, ndCells q2)] ([((.slice ka1 xk.length kc1, xk.length, xk.map (Value.int .i64)) : Rw), (.slice ka2 xk.length kc2, xk.length, xk.map (Value.int .i64)), (.slice (some ⟨g3, 0, none⟩) 1 kc3, 1, [Value.int .i64 0])] ++ kR q1 ++ kR q2)
          (Nat.le_trans (Nat.le_trans B19.out.size B24.out.size) K26.out.2.1.size) (by
            have := K26.out.1
            simp only [List.map_append, List.map_cons, List.map_nil, kR_v]
            exact this) (K26.out.2.2.rwl RN (by decide) (by decide) (by decide)) (K26.out.2.2.rwl RI (by decide) (by decide) (by decide))
          (by simp [hql1, hql2]; omega) (by simp) (fun r hr => by
            simp only [List.cons_append, List.nil_append, List.mem_cons, List.mem_append] at hr
            rcases hr with rfl | rfl | rfl | hr | hr
            · show xk.length ≤ 100000; omega
            · show xk.length ≤ 100000; omega
            · show 1 ≤ 100000; omega
            · exact hkr q1 H1.out.1 r hr
            · exact hkr q2 H2.out.1 r hr) (by simp [kR]; omega)
        have CAP : Sld _ := ⟨CAp⟩
        clear CAp RI RN hp1 hp2 hp3 hp4 hp5 hkr
        go_wp2_with fail
        refine CAP.out.mono ?_
        rintro e w27 ⟨rfl, hb27, _⟩
        have B27 : Sld (Below wr.heap.size wr w27) := ⟨(B19.out.trans (B24.out.mono B19.out.size)).trans (K26.out.2.1.trans hb27)⟩
        clear hb27 CAP K26 BK OA L1S ALL
        go_wp2_with fail
        refine (CE.out w27 B27.out).mono ?_
        rintro e w28 ⟨ao3, cp3, q3, rfl, hq3, hb28⟩
        have hB28 := B27.out.trans (hb28.mono B27.out.size)
        have B28 : Sld (Below wr.heap.size wr w28) := ⟨hB28⟩
        have CSZ : Sld (Calls Tryd.prog 14 #[.slice ao3 a.length cp3, .slice ao a.length ac] w28 fun e w' => e = .returned (.bool true) ∧ Below w28.heap.size w28 w') := ⟨sameR (Nodes_of_own ⟨q3, hq3.1, hq3.2.1⟩ (Nat.le_refl _)) (HRz.out w28 hB28) true (by simp)⟩
        clear hq3 hb28 hB28
        go_wp2_with fail
        refine CSZ.out.mono ?_
        rintro e w29 ⟨rfl, hb29⟩
        have B29 : Sld (Below w.heap.size w w29) := ⟨HBz.out.trans ((B28.out.trans (hb29.mono B28.out.size)).mono HBz.out.size)⟩
        clear hb29
        go_wp2_with fail
        go_ret
        exact ⟨rfl, B29.out⟩
end Go.Proofs.YtaonednimkoeiaaDoor
