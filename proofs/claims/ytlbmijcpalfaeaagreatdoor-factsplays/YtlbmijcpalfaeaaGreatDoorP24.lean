/-
  TbW6.
-/
import Derived.Test.YtlbmijcpalfaeaaGreatDoorP22
set_option linter.unusedSimpArgs false
set_option linter.unusedVariables false
namespace Go.Proofs.YtlbmijcpalfaeaaGreatDoor
open Go.RowKit Go.Lib Go.Sort Go.Maps

theorem cell_news7 (w : World) (a b c d e f g : Value) (t : TypeId) : ∀ j u, [a, b, c, d, e, f, g][j]? = some u → (w.alloc (.cells #[a, b, c, d, e, f, g] t)).cell? ((⟨w.heap.size, 0, none⟩ : Addr).add j) = some u := by
  intro j u hj
  match j, hj with
  | 0, hj => simp at hj; subst hj; simp [Addr.add]
  | 1, hj => simp at hj; subst hj; simp [Addr.add]
  | 2, hj => simp at hj; subst hj; simp [Addr.add]
  | 3, hj => simp at hj; subst hj; simp [Addr.add]
  | 4, hj => simp at hj; subst hj; simp [Addr.add]
  | 5, hj => simp at hj; subst hj; simp [Addr.add]
  | 6, hj => simp at hj; subst hj; simp [Addr.add]
theorem step_append_far {P : Program} (w : World) {ops : Array Oper} {o : Oper} {a : Act} {K : Act → World → Prop} {Q : Exit → Act → World → Prop} {E : Prop} (hgd : o.guard = none) (s x : Operand) (t : TypeId)
    (ho : o.op = .call { callee := .builtin .append, args := #[s, x], argTypes := #[t, t] })
    (base : Nat) (e : TypeId) (i : TypeInfo) (z : Value) (size bytes : Nat) (ht : P.underlying t = some (.slice e)) (hi : P.info? e = some i) (hz : i.zero = some z)
    (hsize : i.size = size) (hby : i.bytes = bytes) (hzs : z.cells.size = size) (hsz : 0 < size)
    (v : Value) (n : Nat) (xs : List Value) (hs : a.eval s = v) (hown : w.ownsRow base e size v n xs)
    (ad : Addr) (m c : Nat) (news : List Value) (hx : a.eval x = .slice (some ad) m c) (hl : news.length = m * size) (hnews : ∀ j u, news[j]? = some u → w.cell? (ad.add j) = some u) (h1 : ∀ u ∈ news, u.oneCell' = true)
    (hm : 0 < m) (h63 : n + m ≤ maxLen) (hbytes : (n + m) * bytes ≤ 140737488355328) (hbase : base ≤ w.heap.size) (H : Nat) (hH : w.heap.size = H)
    (h : ∀ g cap w', w'.ownsRow base e size (.slice (some ⟨g, 0, none⟩) (n + m) cap) (n + m) (xs ++ news) → w.grownBy w' v.ownBlock → (v.ownBlock = some g ∨ (g = H ∧ w.grownBy w' none)) → g < w'.heap.size → K (a.put o.dst (.slice (some ⟨g, 0, none⟩) (n + m) cap)) w') :
    if Region.wanted o (yielded ops a.tmps) = true then Oper.wp P o a w K Q else E := by
  have hw : Region.wanted o (yielded ops a.tmps) = true := by simp [Region.wanted, hgd]
  rw [if_pos hw]
  obtain ⟨g, cap, w', hr, h2, h3, h4, h5⟩ := run_append_far (P := P) w t o.type base e i z size bytes ht hi hz hsize hby hzs hsz v n xs hown ad m c news hl hnews h1 hm h63 hbytes hbase H hH
  unfold Oper.wp execOp
  simp only [ho, resolve, invoke, builtin, Sem.run_bind, Sem.run_pure, Result.andThen_ok, List.map_toArray, List.map_cons, List.map_nil, hs, hx, hr]
  exact h g cap w' h2 h3 h4 h5
theorem eqm_none (w : World) : (binOp .eql 85 (.map none) (.map none)).run Tryz.prog w = .ok (.bool true) w := by kernel_rfl
theorem eqm_some (B : Nat) (w : World) : (binOp .eql 85 (.map (some B)) (.map none)).run Tryz.prog w = .ok (.bool false) w := by kernel_rfl
theorem putMid_there {w w1 : World} {p : Nat} {ev : Value} {B : Nat} {L : List Nd} {x : Nd} (h : TbM w p ev (.map (some B)) L) (hb : Below w.heap.size w w1) (hx : w1.heap[w.heap.size]? = some (.cells #[.int .i64 x.op, .int .i64 x.n, .string x.name, .int .i64 (x.kids.getD 0 0), .int .i64 (x.kids.getD 1 0), .int .i64 (x.kids.getD 2 0)] 143 (0, 0))) (n : Nat) :
    PutMid w p ev (.map (some B)) B L w.heap.size x (w1.drewN n) :=
  ⟨(h.below hb).drew n, (Tk.of_below hb).trans (T := fun _ => False) ⟨rfl, rfl, rfl, Nat.le_refl _, fun _ _ _ => rfl⟩ (fun _ hf => hf.elim), .inl rfl, hx⟩
theorem putMid_made {w w1 : World} {p : Nat} {ev : Value} {x : Nd} (h : TbM w p ev (.map none) []) (hb : Below w.heap.size w w1) (hs1 : w.heap.size < w1.heap.size) (hx : w1.heap[w.heap.size]? = some (.cells #[.int .i64 x.op, .int .i64 x.n, .string x.name, .int .i64 (x.kids.getD 0 0), .int .i64 (x.kids.getD 1 0), .int .i64 (x.kids.getD 2 0)] 143 (0, 0))) (n : Nat) :
    PutMid w p ev (.map none) w1.heap.size [] w.heap.size x (((w1.drewN n).alloc (.map #[] 0)).setCell ⟨p, 1, none⟩ (.map (some w1.heap.size))) := by
  have hpl := h.lt
  have h1 := (h.below hb).drew n
  have hba : Below w1.heap.size (w1.drewN n) ((w1.drewN n).alloc (.map #[] 0)) := (Below.refl w1.heap.size (w1.drewN n)).alloc (show w1.heap.size ≤ (w1.drewN n).heap.size from Nat.le_refl _) _
  have hm : IdF ((w1.drewN n).alloc (.map #[] 0)) w1.heap.size (fun _ => none) 0 := IdF.made (w1.drewN n)
  have hpb : ((w1.drewN n).alloc (.map #[] 0)).heap[p]? = some (.cells #[ev, .map none] 87 (0, 0)) := (hba.block p (by omega)).trans h1.blk
  refine ⟨⟨?_, ?_, .inr ⟨_, rfl, by omega, ?_⟩, h.inv, by simp⟩, ?_, .inr ⟨rfl, by omega⟩, ?_⟩
  · have := heap_setCell_same _ p 1 #[ev, .map none] 87 (.map (some w1.heap.size)) hpb
    simpa using this
  · have h2 := (h1.below hba).on
    exact rw_same h2 (fun b hb' => Deep.blk_setCell_other _ _ _ _ (by have := (rw_block h2 hb').1; show b ≠ p; omega))
  · have := hm.block (w' := ((w1.drewN n).alloc (.map #[] 0)).setCell ⟨p, 1, none⟩ (.map (some w1.heap.size))) (Deep.blk_setCell_other _ _ _ _ (by show w1.heap.size ≠ p; omega))
    exact this.congr (fun y _ => (ixL_nil y).symm) rfl
  · refine ((Tk.of_below hb).trans (w' := w1) (T := TbS p ev (.map none)) (w'' := (((w1.drewN n).alloc (.map #[] 0)).setCell ⟨p, 1, none⟩ (.map (some w1.heap.size)))) ?_ (fun b h => .inl h))
    have k1 : Tk (TbS p ev (.map none)) w1 ((w1.drewN n).alloc (.map #[] 0)) := ⟨rfl, rfl, rfl, hba.size, fun b hb' _ => hba.block b hb'⟩
    exact k1.trans (Tk.set (TbS p ev (.map none)) (.inl rfl)) (fun b h => .inl h)
  · rw [Deep.blk_setCell_other _ _ _ _ (by show w.heap.size ≠ p; omega)]
    exact (hba.block w.heap.size (by omega)).trans hx
theorem PutMid.bxp {w : World} {p : Nat} {ev mv : Value} {B : Nat} {L : List Nd} {bx : Nat} {x : Nd} {W : World} (h : PutMid w p ev mv B L bx x W) : bx ≠ p ∧ ev.ownBlock ≠ some bx ∧ bx ≠ B := by
  refine ⟨fun e => ?_, fun e => ?_, fun e => ?_⟩
  · have h1 := h.box
    rw [e, h.tm.blk] at h1
    simp at h1
  · obtain ⟨_, _, cap, cur, _, h1, _⟩ := rw_block h.tm.on e
    rw [h.box] at h1
    simp at h1
  · rcases h.tm.ids with ⟨h1, _⟩ | ⟨B', h1, _, h3⟩
    · cases h1
    · cases h1
      obtain ⟨es, c, h2⟩ := h3.obj
      rw [← e, h.box] at h2
      cases h2

set_option maxRecDepth 20000 in
set_option maxHeartbeats 8000000 in
theorem tput_new (w : World) (p : Nat) (ev mv : Value) (L : List Nd) (x : Nd) (h : TbM w p ev mv L) (hx : NdK x) (hi : ixL L x = none) (hf : L.length < 1048576) (hk : ∀ k ∈ x.kids, 0 ≤ k ∧ k < (L.length : Int)) (hnm : x.name.size ≤ 281474976710656) :
    Calls Tryz.prog 94 #[.pointer (some ⟨p, 0, none⟩), shV x] w fun e w' => e = .returned (.tuple #[.int .i64 (L.length : Nat), .int .i64 0]) ∧ ∃ ev' mv', TbT w p ev mv ev' mv' (L ++ [x]) w' := by
  obtain ⟨i0, hi0, hz0, hz1, hz2⟩ := info_parts Tryz.infoEn
  have hl : ∀ W, Below w.heap.size w W → ∀ n, (Instr.lookup 85 mv (shV x) true).run Tryz.prog (W.drewN n) = .ok (.tuple #[.int .i64 0, .bool false]) (W.drewN n) := fun W hW n => by
    have := ((h.below hW).drew n).look hx
    rw [hi] at this
    exact this
  have hpl := h.lt
  have c1 := h.c1
  have c0 := h.c0
  have HM : Sld (TbM w p ev mv L) := ⟨h⟩
  have HX : Sld (NdK x) := ⟨hx⟩
  have HI : Sld (ixL L x = none) := ⟨hi⟩
  have HK : Sld (∀ k ∈ x.kids, 0 ≤ k ∧ k < (L.length : Int)) := ⟨hk⟩
  have HPE : Sld (∀ {W w5 w6 : World} {B : Nat} {bx : Nat}, PutMid w p ev mv B L bx x W → IdF w5 B (fun y => if y = x then some L.length else ixL L y) (L.length + 1) → Tk (TbS p ev (.map (some B))) W w5 → w5.heap[p]? = W.heap[p]? →
      ∀ {g6 cap6 : Nat}, w6.ownsRow (p + 1) 159 7 (.slice (some ⟨g6, 0, none⟩) (L.length + 1) cap6) (L.length + 1) (enCells (enL L) ++ enC (x, szK (szL L) 1 x.kids)) → (w5.grownBy w6 ev.ownBlock ∨ ∃ w5', Below w5.heap.size w5 w5' ∧ w5'.grownBy w6 ev.ownBlock) → (ev.ownBlock = some g6 ∨ W.heap.size ≤ g6) → (ev.ownBlock = some g6 ∨ w6.ownsRow (p + 1) 159 7 ev L.length (enCells (enL L))) →
      TbT w p ev mv (.slice (some ⟨g6, 0, none⟩) (L.length + 1) cap6) (.map (some B)) (L ++ [x]) (w6.setCell ⟨p, 0, none⟩ (.slice (some ⟨g6, 0, none⟩) (L.length + 1) cap6))) := ⟨fun h1 h2 h3 h4 _ _ h5 h6 h7 h8 => put_end h1 hx hi hf hk h2 h3 h4 h5 h6 h7 h h8⟩
  have CS : Sld (∀ W mv', TbR W p ev mv' L → Calls Tryz.prog 106 #[.pointer (some ⟨p, 0, none⟩), shV x] W fun e w' => e = .returned (.int .i64 (szK (szL L) 1 x.kids : Nat)) ∧ Below W.heap.size W w') := ⟨fun W mv' hW => sizeOf_any W p ev mv' L x hW hx.form hk⟩
  have HPUT : Sld (∀ {W : World} {B bx : Nat}, PutMid w p ev mv B L bx x W → ∃ w', (Instr.mapUpdate 85 (.map (some B)) (shV x) (.int .i64 (L.length : Int))).run Tryz.prog W.drew = .ok () w' ∧ IdF w' B (fun y => if y = x then some L.length else ixL L y) (L.length + 1) ∧ W.drew.mapTurned w' B) := ⟨fun {W B bx} hm => by
    have h1 : IdF W.drew B (ixL L) L.length := by
      rcases hm.tm.ids with ⟨h1, _⟩ | ⟨B', h1, _, h3⟩
      · cases h1
      · cases h1; exact h3.block rfl
    exact h1.put hx hi (by omega) (by omega)⟩
  obtain ⟨ao, cap, hev⟩ := h.form
  have hfI : ¬ (1048576 : Int) ≤ (L.length : Int) := by omega
  obtain ⟨w1, hw1⟩ : ∃ w1, w.alloc (.cells #[.int .i64 x.op, .int .i64 x.n, .string x.name, .int .i64 (x.kids.getD 0 0), .int .i64 (x.kids.getD 1 0), .int .i64 (x.kids.getD 2 0)] 143) = w1 := ⟨_, rfl⟩
  have HB1 : Hid (Below w.heap.size w w1) := by rw [← hw1]; exact (Below.refl _ _).alloc (Nat.le_refl _) _
  have hsz1 : w1.heap.size = w.heap.size + 1 := by rw [← hw1]; simp
  have hb : w1.heap[w.heap.size]? = some (.cells #[.int .i64 x.op, .int .i64 x.n, .string x.name, .int .i64 (x.kids.getD 0 0), .int .i64 (x.kids.getD 1 0), .int .i64 (x.kids.getD 2 0)] 143 (0, 0)) := by rw [← hw1, Deep.blk_alloc_new]
  have HM1 : Sld ((mv = .map none ∧ L = [] ∧ ∀ n, PutMid w p ev mv w1.heap.size L w.heap.size x (((w1.drewN n).alloc (.map #[] 0)).setCell ⟨p, 1, none⟩ (.map (some w1.heap.size)))) ∨ ∃ B, mv = .map (some B) ∧ ∀ n, PutMid w p ev mv B L w.heap.size x (w1.drewN n)) := by
    rcases h.ids with ⟨rfl, rfl⟩ | ⟨B, rfl, _, _⟩
    · exact ⟨.inl ⟨rfl, rfl, fun n => putMid_made h HB1.out (by omega) hb n⟩⟩
    · exact ⟨.inr ⟨B, rfl, fun n => putMid_there h HB1.out hb n⟩⟩
  have HBX : Sld (∀ {W : World} {B bx : Nat}, PutMid w p ev mv B L bx x W → W.heap[bx]? = some (.cells #[.int .i64 x.op, .int .i64 x.n, .string x.name, .int .i64 (x.kids.getD 0 0), .int .i64 (x.kids.getD 1 0), .int .i64 (x.kids.getD 2 0)] 143 (0, 0))) := ⟨fun h => h.box⟩
  have HEN : Sld (enC (x, szK (szL L) 1 x.kids) = [.int .i64 x.op, .int .i64 x.n, .string x.name, .int .i64 (x.kids.getD 0 0), .int .i64 (x.kids.getD 1 0), .int .i64 (x.kids.getD 2 0), .int .i64 (szK (szL L) 1 x.kids : Nat)]) := ⟨rfl⟩
  have HSV : Sld (shV x = .agg #[.int .i64 x.op, .int .i64 x.n, .string x.name, .int .i64 (x.kids.getD 0 0), .int .i64 (x.kids.getD 1 0), .int .i64 (x.kids.getD 2 0)]) := ⟨rfl⟩
  rw [HSV.out] at hl CS HPUT ⊢
  obtain ⟨T, hT⟩ : ∃ T, szK (szL L) 1 x.kids = T := ⟨_, rfl⟩
  rw [hT] at CS HPE HEN
  generalize x.op = op at *
  generalize x.n = n at *
  generalize x.name = nm at *
  generalize x.kids.getD 0 0 = k0 at *
  generalize x.kids.getD 1 0 = k1 at *
  generalize x.kids.getD 2 0 = k2 at *
  obtain ⟨N, hN⟩ : ∃ N, L.length = N := ⟨_, rfl⟩
  have HN : Hid (L.length = N) := hN
  rw [hN] at hev hf hfI HPUT HPE ⊢
  obtain ⟨b0, b1, b2, b3, b4, b5, _⟩ := blk6 hb
  have d0 : w1.cell? ⟨p, 0, none⟩ = some (.slice ao N cap) := ((HB1.out.cell (p := ⟨p, 0, none⟩) hpl).trans c0).trans (by rw [hev])
  have d1 : w1.cell? ⟨p, 1, none⟩ = some mv := (HB1.out.cell (p := ⟨p, 1, none⟩) hpl).trans c1
  have HP1 : Hid (w1.heap[p]? = some (.cells #[ev, mv] 87 (0, 0))) := (HB1.out.block p hpl).trans h.blk
  have HEV : Hid (ev = .slice ao N cap) := hev
  have HW : Hid (w.alloc (.cells #[.int .i64 op, .int .i64 n, .string nm, .int .i64 k0, .int .i64 k1, .int .i64 k2] 143) = w1) := hw1
  have hl1 := hl w1 HB1.out
  have HSZ1 : Hid (w1.heap.size = w.heap.size + 1) := hsz1
  clear hw1 hb h c1 hl c0 hk hi hN hev hsz1 hT
  have hM1 := HM1.out
  clear HM1
  rcases hM1 with ⟨hmv, hLn, hPM⟩ | ⟨B, hmv, hPM⟩
  case' inl =>
    subst hmv
    have HPM : Sld (∀ n, PutMid w p ev (.map none) w1.heap.size L w.heap.size x (((w1.drewN n).alloc (.map #[] 0)).setCell ⟨p, 1, none⟩ (.map (some w1.heap.size)))) := ⟨hPM⟩
    have hp1 : ∀ n, ((w1.drewN n).alloc (.map #[] 0)).cell? ⟨p, 1, none⟩ = some (.map none) := fun n => (World.cell?_alloc_past _ _ _ (by show p < w1.heap.size; have := HSZ1.out; omega)).trans d1
    have hp1f : ∀ n, ((w1.drewN n).alloc (.map #[] 0)).frozen? ⟨p, 1, none⟩ = false := fun n => by
      have h1 : ((w1.drewN n).alloc (.map #[] 0)).heap[p]? = some (.cells #[ev, .map none] 87 (0, 0)) := (Deep.blk_alloc_lt _ _ _ (by show p < w1.heap.size; have := HSZ1.out; omega)).trans HP1.out
      simp [World.frozen?, h1]
    have hcn : ∀ n, (((w1.drewN n).alloc (.map #[] 0)).setCell ⟨p, 1, none⟩ (.map (some w1.heap.size))).cell? ⟨w.heap.size, 2, none⟩ = some (.string nm) := fun n => (blk6 (HBX.out (hPM n))).2.2.1
    obtain ⟨B, hB⟩ : ∃ B, w1.heap.size = B := ⟨_, rfl⟩
    have HBB : Hid (w1.heap.size = B) := hB
    clear hPM hLn hB
  case' inr =>
    subst hmv
    have HPM : Sld (∀ n, PutMid w p ev (.map (some B)) B L w.heap.size x (w1.drewN n)) := ⟨hPM⟩
    clear hPM
  all_goals
    have hfd : decide ((1048576 : Int) ≤ (N : Int)) = false := decide_eq_false hfI
    have HF : Hid (N < 1048576) := hf
    clear hfI hf
    have hmm := @run_makeMap Tryz.prog
    have hq0 := eqm_none
    have hq1 := eqm_some
    go_enter Tryz.func94, Tryz.ntmps94
    go_wp2_with fail
    rw [HW.out]
    go_quiet (fail)
    go_wp2_with fail
    refine (clone_any nm _ hnm).mono ?_
    rintro e w4 ⟨rfl, hb4⟩
    first
    | (have hPM4 := (HPM.out nq).far hb4
       rw [HBB.out] at hPM4)
    | have hPM4 := (HPM.out nq).far hb4
    have hbx4 := HBX.out hPM4
    obtain ⟨x0, x1, x2, x3, x4, x5, xf⟩ := blk6 hbx4
    have hs2 := set_same6 x2
    have hPM5 := hPM4.nodes hs2 rfl rfl rfl (by simp)
    clear hs2 hb4
    go_wp2_with fail
    obtain ⟨w5, hw5⟩ : ∃ w5, w4.setCell ⟨w.heap.size, 2, none⟩ (.string nm) = w5 := ⟨_, rfl⟩
    rw [hw5] at hPM5 ⊢
    have hbx5 := HBX.out hPM5
    obtain ⟨y0, y1, y2, y3, y4, y5, yf⟩ := blk6 hbx5
    have p1 := hPM5.tm.c1
    obtain ⟨w6, hrun6, hid6, htn6⟩ := HPUT.out hPM5
    have HPM5 : Sld (PutMid w p ev _ B L w.heap.size x w5.drew) := ⟨hPM5.nodes (fun _ => rfl) rfl rfl rfl rfl⟩
    have HID6 : Sld (IdF w6 B (fun y => if y = x then some N else ixL L y) (N + 1)) := ⟨hid6⟩
    have HTN6 : Sld (w5.drew.mapTurned w6 B) := ⟨htn6⟩
    clear hPM4 hPM5 x0 x1 x2 x3 x4 x5 xf hw5 hbx4 hid6 htn6
    go_region
    clear hrun6 y0 y1 y2 y3 y4 y5 p1 yf hbx5
    have hg6 := HTN6.out.grown
    obtain ⟨hne1, hne2, hne3⟩ := HPM5.out.bxp
    have HTK6 : Sld (Tk (TbS p ev (.map (some B))) w5.drew w6) := ⟨Tk.turned HTN6.out _ (.inr (.inr rfl))⟩
    have HS6 : Sld (∀ k, k < w5.heap.size → k ≠ B → w6.heap[k]? = w5.heap[k]?) := ⟨fun k hk hkB => hg6.block k hk (fun e => hkB (by cases e; rfl))⟩
    have hbxl := lt_of_block HPM5.out.box
    have hbxd := HBX.out HPM5.out
    have hbx6 : w6.heap[w.heap.size]? = some (.cells #[.int .i64 op, .int .i64 n, .string nm, .int .i64 k0, .int .i64 k1, .int .i64 k2] 143 (0, 0)) := (HS6.out _ hbxl hne3).trans hbxd
    have hpB : p < B := by
      rcases HPM5.out.tm.ids with ⟨h1, _⟩ | ⟨B', h1, h2, _⟩
      · cases h1
      · cases h1; exact h2
    have hTR6 : TbR w6 p ev (.map (some B)) L := HPM5.out.tm.r.same fun b hb hb2 => HS6.out b hb (fun e => by
      subst e
      rcases hb2 with h1 | h1
      · omega
      · obtain ⟨_, _, cap', cur, _, h2, _⟩ := rw_block HPM5.out.tm.on h1
        obtain ⟨es, c, h3⟩ : ∃ es c, w5.drew.heap[b]? = some (.map es c) := by
          rcases HPM5.out.tm.ids with ⟨h4, _⟩ | ⟨B', h4, _, h5⟩
          · cases h4
          · cases h4; exact h5.obj
        rw [h2] at h3; cases h3)
    have HTR6 : Sld (TbR w6 p ev (.map (some B)) L) := ⟨hTR6⟩
    have HZ6 : Hid (w5.heap.size ≤ w6.heap.size) := hg6.size
    have HP6 : Hid (w6.heap[p]? = w5.heap[p]?) := HS6.out p (lt_of_block HPM5.out.tm.blk) (by omega)
    have hpl6 := hTR6.lt
    have hbl6 := lt_of_block hbx6
    have HFAR : Sld (∀ w7, Below w6.heap.size w6 w7 → (∀ o w8, (w7.alloc o).grownBy w8 ev.ownBlock → w8.heap[p]? = w6.heap[p]? ∧ w8.heap[w.heap.size]? = w6.heap[w.heap.size]?)) := ⟨fun w7 h7 o w8 h8 => by
      have hs7 := h7.size
      refine ⟨?_, ?_⟩
      · rw [h8.block p (by rw [World.size_alloc]; omega) (fun e => by have := (rw_block hTR6.on e.symm).1; omega), Deep.blk_alloc_lt _ _ _ (by omega)]
        exact h7.block p hpl6
      · rw [h8.block w.heap.size (by rw [World.size_alloc]; omega) (fun e => hne2 e.symm), Deep.blk_alloc_lt _ _ _ (by omega)]
        exact h7.block _ hbl6⟩
    have HCE : Sld (∀ W : World, W.heap[p]? = w6.heap[p]? → W.heap[w.heap.size]? = w6.heap[w.heap.size]? → (W.cell? ⟨p, 0, none⟩ = some (.slice ao N cap) ∧ W.cell? ⟨w.heap.size, 0, none⟩ = some (.int .i64 op) ∧ W.cell? ⟨w.heap.size, 1, none⟩ = some (.int .i64 n) ∧ W.cell? ⟨w.heap.size, 2, none⟩ = some (.string nm) ∧ W.cell? ⟨w.heap.size, 3, none⟩ = some (.int .i64 k0) ∧ W.cell? ⟨w.heap.size, 4, none⟩ = some (.int .i64 k1) ∧ W.cell? ⟨w.heap.size, 5, none⟩ = some (.int .i64 k2)) ∧ W.frozen? ⟨p, 0, none⟩ = false) := ⟨fun W h1 h2 => by
      obtain ⟨q0, q1, q2, q3, q4, q5, _⟩ := blk6 (h2.trans hbx6)
      have h3 := h1.trans hTR6.blk
      exact ⟨⟨by rw [← HEV.out]; simp [World.cell?, h3], q0, q1, q2, q3, q4, q5⟩, by simp [World.frozen?, h3]⟩⟩
    have HOW : Sld (∀ w7, Below w6.heap.size w6 w7 → ∀ o, (w7.alloc o).ownsRow (p + 1) 159 7 (.slice ao N cap) N (enCells (enL L))) := ⟨fun w7 h7 o => by
      have := (hTR6.below h7).on.alloc o
      rw [HN.out, HEV.out] at this
      exact this⟩
    obtain ⟨⟨z0, z1, z2, z3, z4, z5, z6⟩, zf⟩ := HCE.out w6.drew rfl rfl
    clear hbxd hTR6 hbx6 hg6 hne1 hne2 hne3
    rw [HEV.out] at HFAR
    go_wp2_with fail
    go_region_law (first | (refine step_append_far _ rfl (.tmp 50) (.tmp 56) 84 rfl (p + 1) 159 i0 (.agg #[.int .i64 0, .int .i64 0, .string ⟨#[]⟩, .int .i64 0, .int .i64 0, .int .i64 0, .int .i64 0]) 7 64 Tryz.underlying84 hi0 hz0 hz1 hz2 rfl (by decide) _ _ _ (by simp [Act.eval, Act.put]) (HOW.out w7 HB7.out _) ⟨w7.heap.size, 0, none⟩ 1 1 [.int .i64 op, .int .i64 n, .string nm, .int .i64 k0, .int .i64 k1, .int .i64 k2, .int .i64 (T : Nat)] (by simp [Act.eval, Act.put]) rfl (cell_news7 w7 _ _ _ _ _ _ _ _) (by simp [Value.oneCell']) (by omega) (by have := HF.out; unfold maxLen; omega) (by have := HF.out; omega) (by simp; omega) _ rfl ?_; intro g8 cap8 w8 hown8 hg8 hat8 hl8; obtain ⟨hp8, hx8⟩ := HFAR.out w7 HB7.out _ w8 hg8; obtain ⟨⟨m0, m1, m2, m3, m4, m5, m6⟩, mf⟩ := HCE.out w8 hp8 hx8; have HOWN8 : Sld (w8.ownsRow (p + 1) 159 7 (.slice (some ⟨g8, 0, none⟩) (N + 1) cap8) (N + 1) (enCells (enL L) ++ [.int .i64 op, .int .i64 n, .string nm, .int .i64 k0, .int .i64 k1, .int .i64 k2, .int .i64 (T : Nat)])) := ⟨hown8⟩; have HG8 : Sld ((w7.alloc (.cells #[.int .i64 op, .int .i64 n, .string nm, .int .i64 k0, .int .i64 k1, .int .i64 k2, .int .i64 (T : Nat)] 159)).grownBy w8 (Value.slice ao N cap).ownBlock) := ⟨hg8⟩; have HAT8 : Sld ((Value.slice ao N cap).ownBlock = some g8 ∨ (g8 = (w7.alloc (.cells #[.int .i64 op, .int .i64 n, .string nm, .int .i64 k0, .int .i64 k1, .int .i64 k2, .int .i64 (T : Nat)] 159)).heap.size ∧ (w7.alloc (.cells #[.int .i64 op, .int .i64 n, .string nm, .int .i64 k0, .int .i64 k1, .int .i64 k2, .int .i64 (T : Nat)] 159)).grownBy w8 none)) := ⟨hat8⟩; clear hown8 hg8 hat8) | (go_simp; go_at_call 106; refine (CS.out _ (.map (some B)) (HTR6.out.below (Below.refl _ _).drew)).mono ?_; rintro e w7 ⟨rfl, hb7⟩; have hb7' : Below w6.heap.size w6 w7 := (Below.refl _ _).drew.trans hb7; have HB7 : Sld (Below w6.heap.size w6 w7) := ⟨hb7'⟩; obtain ⟨⟨j0, j1, j2, j3, j4, j5, j6⟩, jf⟩ := HCE.out w7 (hb7'.block p hpl6) (hb7'.block _ hbl6); have hs7 := hb7'.size; have jj : ∀ o, (w7.alloc o).cell? ⟨p, 0, none⟩ = some (.slice ao N cap) := (fun o => (World.cell?_alloc_past _ _ _ (by show p < w7.heap.size; omega)).trans j0)))
    all_goals
      have HE := HPE.out HPM5.out HID6.out HTK6.out HP6.out (g6 := g8) (cap6 := cap8) (by rw [HEN.out]; exact HOWN8.out) (.inr ⟨_, HB7.out.alloc HB7.out.size _, by rw [HEV.out]; exact HG8.out⟩) (by
        rcases HAT8.out with h1 | h1
        · left; rw [HEV.out]; exact h1
        · right
          rw [h1.1, World.size_alloc]
          have := HZ6.out
          have := HB7.out.size
          show w5.heap.size ≤ _
          omega) (by
        rcases HAT8.out with h1 | h1
        · left; rw [HEV.out]; exact h1
        · right
          have h9 := HOW.out w7 HB7.out (.cells #[.int .i64 op, .int .i64 n, .string nm, .int .i64 k0, .int .i64 k1, .int .i64 k2, .int .i64 (T : Nat)] 159)
          have hh := HN.out
          rw [HEV.out]
          try rw [hh]
          exact rw_same h9 (fun b hb => h1.2.block b (rw_block h9 hb).2.1 (fun e => nomatch e)))
      have HEE : Sld _ := ⟨HE⟩
      clear HE
      go_wp2_with fail
      go_ret2
      exact ⟨rfl, _, _, HEE.out⟩
end Go.Proofs.YtlbmijcpalfaeaaGreatDoor
