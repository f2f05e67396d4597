/-
  TgW8, GmM, GmS.
-/
import Derived.Test.YtlbmijcpalfaeaaGreatDoorP25
set_option linter.unusedSimpArgs false
set_option linter.unusedVariables false
set_option linter.unusedSectionVars false
namespace Go.Proofs.YtlbmijcpalfaeaaGreatDoor.Gt
open Go.RowKit Go.Lib Go.Sort Go.Maps
variable [Gr]

theorem tput_any (w : World) (p : Nat) (ev mv : Value) (L : List Nd) (x : Nd) (h : TbM w p ev mv L) (hx : NdK x) (hk : ∀ k ∈ x.kids, 0 ≤ k ∧ k < (L.length : Int)) (hnm : x.name.size ≤ 281474976710656) :
    Calls Tryz.prog 94 #[.pointer (some ⟨p, 0, none⟩), shV x] w fun e w' => e = .returned (.tuple #[.int .i64 ((putS L x).1 : Nat), .int .i64 (putS L x).2.1]) ∧ ∃ ev' mv', TbT w p ev mv ev' mv' (putS L x).2.2 w' := by
  unfold putS
  cases hi : ixL L x with
  | some i => exact (tput_there w p ev mv L x i h hx hi).mono fun e w' ⟨h1, h2⟩ => ⟨h1, ev, mv, TbT.of_below h h2⟩
  | none =>
    by_cases hf : L.length < 1048576
    · simp only [hf, if_true]
      exact tput_new w p ev mv L x h hx hi hf hk hnm
    · simp only [hf, if_false]
      exact (tput_full w p ev mv L x h hx hi (by omega)).mono fun e w' ⟨h1, h2⟩ => ⟨h1, ev, mv, TbT.of_below h h2⟩
/-- What shapeOf answers. -/
theorem shapeOf_any (w : World) (p : Nat) (ev mv : Value) (L : List Nd) (x : Nd) (ka : Option Addr) (kc : Nat) (h : TbM w p ev mv L) (hT : SpanCells w) (hv : NdV w x ka kc) :
    Calls Tryz.prog 93 #[.pointer (some ⟨p, 0, none⟩), .agg #[.int .i64 x.op, .int .i64 x.n, .string x.name, .slice ka x.kids.length kc]] w fun e w' => e = .returned (.tuple #[if shE L x = 0 then shV x else shV nd0, .int .i64 (shE L x)]) ∧ Below w.heap.size w w' := by
  obtain ⟨op, n, nm, ks⟩ := x
  simp only
  unfold shE
  by_cases hf : formB ⟨op, n, nm, ks⟩ = true
  · rw [if_pos hf]
    cases ha : ks.all (hasT L) with
    | true =>
      simp only [ha, if_true]
      exact shapeOf_fit w p ev mv L op n nm ks ka kc h hT hv.ints hf _ _ (.inl ⟨ha, rfl, rfl⟩)
    | false =>
      simp [ha]
      exact shapeOf_fit w p ev mv L op n nm ks ka kc h hT hv.ints hf _ _ (.inr ⟨ha, rfl, rfl⟩)
  · rw [if_neg hf]
    simp
    exact shapeOf_form w p op n nm ka ks.length kc hT (by simpa [formB] using hf)

set_option maxRecDepth 20000 in
set_option maxHeartbeats 4000000 in
theorem tPut_any (w : World) (p : Nat) (ev mv : Value) (L : List Nd) (x : Nd) (ka : Option Addr) (kc : Nat) (h : TbM w p ev mv L) (hT : SpanCells w) (hv : NdV w x ka kc) :
    Calls Tryz.prog 64 #[.pointer (some ⟨p, 0, none⟩), .agg #[.int .i64 x.op, .int .i64 x.n, .string x.name, .slice ka x.kids.length kc]] w fun e w' => e = .returned (.tuple #[.int .i64 ((ptR L x).1 : Nat), .int .i64 (ptR L x).2.1]) ∧ ∃ ev' mv', TbT w p ev mv ev' mv' (ptR L x).2.2 w' := by
  have HM : Sld (TbM w p ev mv L) := ⟨h⟩
  have HV : Sld (NdV w x ka kc) := ⟨hv⟩
  have CSh : Sld (∀ W, Below w.heap.size w W → Calls Tryz.prog 93 #[.pointer (some ⟨p, 0, none⟩), .agg #[.int .i64 x.op, .int .i64 x.n, .string x.name, .slice ka x.kids.length kc]] W fun e w' => e = .returned (.tuple #[if shE L x = 0 then shV x else shV nd0, .int .i64 (shE L x)]) ∧ Below W.heap.size W w') := ⟨fun W hW => shapeOf_any W p ev mv L x ka kc (h.below hW) (hT.below hW) (hv.below hW)⟩
  have hle := h.inv.le
  have CPu : Sld (shE L x = 0 → ∀ W, Below w.heap.size w W → Calls Tryz.prog 94 #[.pointer (some ⟨p, 0, none⟩), shV x] W fun e w' => e = .returned (.tuple #[.int .i64 ((ptR L x).1 : Nat), .int .i64 (ptR L x).2.1]) ∧ ∃ ev' mv', TbT w p ev mv ev' mv' (ptR L x).2.2 w') := ⟨fun hs W hW => by
    have h3 : formB x = true ∧ x.kids.all (hasT L) = true := by
      rcases shE_cases L x with ⟨h1, _⟩ | ⟨h1, _⟩ | ⟨_, h2⟩
      · omega
      · omega
      · exact h2
    have := tput_any W p ev mv L x (h.below hW) (hv.ndk h3.1 hle h3.2) (all_has h3.2) hv.nm
    unfold ptR
    rw [if_pos hs]
    refine this.mono fun e w' ⟨h1, ev', mv', h2⟩ => ⟨h1, ev', mv', ?_⟩
    exact (TbT.of_below h hW).trans h2⟩
  have HR : Sld (shE L x ≠ 0 → ptR L x = (0, shE L x, L)) := ⟨fun hs => by unfold ptR; rw [if_neg hs]⟩
  have HBT : Sld (∀ W, Below w.heap.size w W → TbT w p ev mv ev mv L W) := ⟨fun W hW => TbT.of_below h hW⟩
  have HS0 : Sld (shV x = .agg #[.int .i64 x.op, .int .i64 x.n, .string x.name, .int .i64 (x.kids.getD 0 0), .int .i64 (x.kids.getD 1 0), .int .i64 (x.kids.getD 2 0)] ∧ shV nd0 = .agg #[.int .i64 0, .int .i64 0, .string ⟨#[]⟩, .int .i64 0, .int .i64 0, .int .i64 0]) := ⟨rfl, rfl⟩
  rw [HS0.out.1] at CSh CPu
  rw [HS0.out.2] at CSh
  obtain ⟨E, hE⟩ : ∃ E, shE L x = E := ⟨_, rfl⟩
  rw [hE] at CSh CPu HR
  obtain ⟨w1, hw1⟩ : ∃ w1, w.alloc (.cells #[.int .i64 x.op, .int .i64 x.n, .string x.name, .slice ka x.kids.length kc] 41) = w1 := ⟨_, rfl⟩
  have HB1 : Hid (Below w.heap.size w w1) := by rw [← hw1]; exact (Below.refl _ _).alloc (Nat.le_refl _) _
  have hb : w1.heap[w.heap.size]? = some (.cells #[.int .i64 x.op, .int .i64 x.n, .string x.name, .slice ka x.kids.length kc] 41 (0, 0)) := by rw [← hw1, Deep.blk_alloc_new]
  obtain ⟨b0, b1, b2, b3, _⟩ := blk4 hb
  have HW : Hid (w.alloc (.cells #[.int .i64 x.op, .int .i64 x.n, .string x.name, .slice ka x.kids.length kc] 41) = w1) := hw1
  clear hw1 hb h hv hT hle hE
  generalize x.op = op at *
  generalize x.n = n at *
  generalize x.name = nm at *
  generalize x.kids.getD 0 0 = k0 at *
  generalize x.kids.getD 1 0 = k1 at *
  generalize x.kids.getD 2 0 = k2 at *
  generalize x.kids.length = kl at *
  by_cases h0 : E = 0
  · subst h0
    generalize (ptR L x).1 = R1 at *
    have CP := CPu.out rfl
    have CS := CSh.out
    simp only [if_true] at CS
    have CS' : Sld (∀ W, Below w.heap.size w W → Calls Tryz.prog 93 #[.pointer (some ⟨p, 0, none⟩), .agg #[.int .i64 op, .int .i64 n, .string nm, .slice ka kl kc]] W fun e w' => e = .returned (.tuple #[.agg #[.int .i64 op, .int .i64 n, .string nm, .int .i64 k0, .int .i64 k1, .int .i64 k2], .int .i64 0]) ∧ Below W.heap.size W w') := ⟨CS⟩
    have CP' : Sld (∀ W, Below w.heap.size w W → Calls Tryz.prog 94 #[.pointer (some ⟨p, 0, none⟩), .agg #[.int .i64 op, .int .i64 n, .string nm, .int .i64 k0, .int .i64 k1, .int .i64 k2]] W fun e w' => e = .returned (.tuple #[.int .i64 (R1 : Nat), .int .i64 (ptR L x).2.1]) ∧ ∃ ev' mv', TbT w p ev mv ev' mv' (ptR L x).2.2 w') := ⟨CP⟩
    clear CS CP CSh CPu
    generalize (ptR L x).2.1 = R2 at *
    go_enter Tryz.func64, Tryz.ntmps64
    go_wp2_with fail
    rw [HW.out]
    go_wp2_with fail
    refine (CS'.out _ HB1.out).mono ?_
    rintro e w2 ⟨rfl, hb2⟩
    have HB2 : Hid (Below w.heap.size w w2) := HB1.out.trans (hb2.mono HB1.out.size)
    clear hb2
    go_wp2_with fail
    refine (CP'.out _ (HB2.out.alloc HB2.out.size _)).mono ?_
    rintro e w3 ⟨rfl, hT3⟩
    have HT3 : Sld (∃ ev' mv', TbT w p ev mv ev' mv' (ptR L x).2.2 w3) := ⟨hT3⟩
    clear hT3
    go_wp2_with fail
    go_ret2
    exact ⟨rfl, HT3.out⟩
  · have CS := CSh.out
    simp only [if_neg h0] at CS
    have CS' : Sld (∀ W, Below w.heap.size w W → Calls Tryz.prog 93 #[.pointer (some ⟨p, 0, none⟩), .agg #[.int .i64 op, .int .i64 n, .string nm, .slice ka kl kc]] W fun e w' => e = .returned (.tuple #[.agg #[.int .i64 0, .int .i64 0, .string ⟨#[]⟩, .int .i64 0, .int .i64 0, .int .i64 0], .int .i64 E]) ∧ Below W.heap.size W w') := ⟨CS⟩
    have HR' := HR.out h0
    have hne : (E == 0) = false := by simpa using h0
    rw [HR']
    clear CS CSh CPu HR HR'
    go_enter Tryz.func64, Tryz.ntmps64
    go_wp2_with fail
    rw [HW.out]
    go_wp2_with fail
    refine (CS'.out _ HB1.out).mono ?_
    rintro e w2 ⟨rfl, hb2⟩
    have HB2 : Hid (Below w.heap.size w w2) := HB1.out.trans (hb2.mono HB1.out.size)
    clear hb2
    go_wp2_with fail
    go_ret2
    exact ⟨rfl, ev, mv, HBT.out _ (HB2.out.alloc HB2.out.size _)⟩
end Go.Proofs.YtlbmijcpalfaeaaGreatDoor.Gt

set_option linter.unusedSimpArgs false
set_option linter.unusedVariables false
namespace Go.Proofs.YtlbmijcpalfaeaaGreatDoor.Gt
open Go.RowKit Go.Lib

/-- A seat, with the slice of its uses. -/
structure Se where
  kn : Bool
  lv : Bool
  up : Int
  wt : Int
  us : List Int
  uv : Value
def se0 : Se := ⟨false, false, 0, 0, [], .slice none 0 0⟩
def seC (s : Se) : List Value := [.bool s.kn, .bool s.lv, .int .i64 s.up, .int .i64 s.wt, s.uv]
def seCells : List Se → List Value
  | [] => []
  | s :: r => seC s ++ seCells r
theorem seCells_len (l : List Se) : (seCells l).length = l.length * 5 := by
  induction l with
  | nil => rfl
  | cons a r ih => simp [seCells, seC, ih]; omega
theorem seCells_app (l m : List Se) : seCells (l ++ m) = seCells l ++ seCells m := by
  induction l with
  | nil => rfl
  | cons a r ih => simp [seCells, ih]
theorem seCells_at (l : List Se) (i k : Nat) (hi : i < l.length) (hk : k < 5) : (seCells l)[i * 5 + k]? = (seC (l.getD i se0))[k]? := by
  induction l generalizing i with
  | nil => simp at hi
  | cons a r ih =>
    cases i with
    | zero =>
      simp only [seCells, Nat.zero_mul, Nat.zero_add]
      rw [List.getElem?_append_left (by simp [seC]; omega)]
      rfl
    | succ i =>
      have e : (a :: r).getD (i + 1) se0 = r.getD i se0 := rfl
      rw [e, ← ih i (by simpa using hi)]
      have e2 : (i + 1) * 5 + k = 5 + (i * 5 + k) := by omega
      rw [e2]
      simp only [seCells]
      rw [List.getElem?_append_right (by simp [seC])]
      congr 1
      simp [seC]
theorem seCells_set (l : List Se) (i k : Nat) (u : Value) (s' : Se) (hi : i < l.length) (hk : k < 5) (h : (seC (l.getD i se0)).set k u = seC s') : (seCells l).set (i * 5 + k) u = seCells (l.set i s') := by
  induction l generalizing i with
  | nil => simp at hi
  | cons a r ih =>
    cases i with
    | zero =>
      have h : (seC a).set k u = seC s' := h
      simp only [seCells, Nat.zero_mul, Nat.zero_add, List.set_cons_zero]
      rw [List.set_append_left _ _ (by simp [seC]; omega), h]
    | succ i =>
      have h : (seC (r.getD i se0)).set k u = seC s' := h
      have e2 : (i + 1) * 5 + k = 5 + (i * 5 + k) := by omega
      rw [e2]
      simp only [seCells, List.set_cons_succ]
      rw [← ih i (by simpa using hi) h, List.set_append_right _ _ (by simp [seC])]
      congr 2
      simp [seC]

/-- What a graph holds. -/
structure Gs where
  ev : Value
  mv : Value
  sv : Value
  rv : Value
  cl : Int
  nd : Int
  L : List Nd
  ss : List Se
  rs : List Int
abbrev Gs.gr (G : Gs) : Gr := ⟨G.sv, .int .i64 G.cl, .int .i64 G.nd, G.rv⟩
def seRows (ss : List Se) : List (Value × List Int) := ss.map fun s => (s.uv, s.us)
structure GrM (w : World) (p : Nat) (G : Gs) : Prop where
  tb : @TbM G.gr w p G.ev G.mv G.L
  row : w.ownsRow (p + 1) 120 5 G.sv G.ss.length (seCells G.ss)
  rows : OwR w (p + 1) ((G.rv, G.rs) :: seRows G.ss)
  le : G.ss.length ≤ G.L.length
/-- A graph's blocks. -/
def GrS (p : Nat) (G : Gs) (b : Nat) : Prop := TbS p G.ev G.mv b ∨ G.sv.ownBlock = some b ∨ ∃ r ∈ (G.rv, G.rs) :: seRows G.ss, r.1.ownBlock = some b
/-- What a call leaves that may turn the graph. -/
structure GrT (w : World) (p : Nat) (G G' : Gs) (w' : World) : Prop where
  gr : GrM w' p G'
  tk : Tk (GrS p G) w w'
  yo : ∀ b, GrS p G' b → GrS p G b ∨ w.heap.size ≤ b
theorem GrM.lt {w : World} {p : Nat} {G : Gs} (h : GrM w p G) : p < w.heap.size := @TbM.lt G.gr _ _ _ _ _ h.tb
theorem GrM.blk {w : World} {p : Nat} {G : Gs} (h : GrM w p G) : w.heap[p]? = some (.cells #[G.ev, G.mv, G.sv, .int .i64 G.cl, .int .i64 G.nd, G.rv] 90 (0, 0)) := @TbM.blk G.gr _ _ _ _ _ h.tb
theorem GrM.below {w w' : World} {p : Nat} {G : Gs} (h : GrM w p G) (hb : Below w.heap.size w w') : GrM w' p G :=
  ⟨@TbM.below G.gr _ _ _ _ _ _ h.tb hb, ownsRow_below h.row hb, h.rows.below hb, h.le⟩
theorem GrM.base {w : World} {p : Nat} {G : Gs} (h : GrM w p G) : ∀ b, GrS p G b → p ≤ b := by
  rintro b (hb | hb | ⟨r, hr, hb⟩)
  · exact @TbM.base G.gr _ _ _ _ _ h.tb b hb
  · have := (own_lt h.row hb).1; omega
  · have := (own_lt (h.rows.own r hr) hb).1; omega
theorem GrT.trans {w w' w'' : World} {p : Nat} {G G' G'' : Gs} (h : GrT w p G G' w') (k : GrT w' p G' G'' w'') : GrT w p G G'' w'' :=
  ⟨k.gr, h.tk.trans k.tk h.yo, fun b hb => by
    rcases k.yo b hb with h1 | h1
    · exact h.yo b h1
    · right; have := h.tk.size; omega⟩
theorem GrT.of_below {w w' : World} {p : Nat} {G : Gs} (h : GrM w p G) (hb : Below w.heap.size w w') : GrT w p G G w' := ⟨h.below hb, Tk.of_below hb, fun b hb => .inl hb⟩
theorem GrT.below {w w' : World} {p : Nat} {G G' : Gs} (h : GrT w p G G' w') (hm : GrM w p G) : Below p w w' := h.tk.below (by have := hm.lt; omega) hm.base

/-- What is of another type is no block of the table. -/
theorem TbM.typed [Gr] {w : World} {p : Nat} {ev mv : Value} {L : List Nd} (h : TbM w p ev mv L) {b : Nat} {cur : Array Value} {e : TypeId} {fr : Nat × Nat} (hb : w.heap[b]? = some (.cells cur e fr)) (h1 : e ≠ 90) (h2 : e ≠ 159) : ¬ TbS p ev mv b := by
  rintro (rfl | hr | hm)
  · rw [h.blk] at hb
    injection hb with hb
    injection hb with _ hb
    exact h1 hb.symm
  · obtain ⟨_, _, cap, cu, _, h3, _⟩ := rw_block h.on hr
    rw [h3] at hb
    injection hb with hb
    injection hb with _ hb
    exact h2 hb.symm
  · rcases h.ids with ⟨h3, _⟩ | ⟨B, h3, _, h4⟩
    · rw [h3] at hm; cases hm
    · rw [h3] at hm
      cases hm
      obtain ⟨es, c, h5⟩ := h4.obj
      rw [h5] at hb; cases hb
theorem own_tb [Gr] {w w' : World} {p : Nat} {ev mv : Value} {L : List Nd} (h : TbM w p ev mv L) (ht : Tk (TbS p ev mv) w w') {base : Nat} {e : TypeId} {s n : Nat} {v : Value} {xs : List Value} (ho : w.ownsRow base e s v n xs) (h1 : e ≠ 90) (h2 : e ≠ 159) : w'.ownsRow base e s v n xs :=
  rw_same ho (fun b hb => by
    obtain ⟨_, h3, cap, cu, _, h4, _⟩ := rw_block ho hb
    exact ht.same b h3 (h.typed h4 h1 h2))
/-- The table has turned. -/
theorem GrM.put {w w' : World} {p : Nat} {G : Gs} (h : GrM w p G) {ev' mv' : Value} {L' : List Nd} (ht : @TbT G.gr w p G.ev G.mv ev' mv' L' w') (hl : G.L.length ≤ L'.length) : GrT w p G { G with ev := ev', mv := mv', L := L' } w' := by
  letI := G.gr
  refine ⟨⟨ht.tb, own_tb h.tb ht.tk h.row (by decide) (by decide), ⟨fun r hr => own_tb h.tb ht.tk (h.rows.own r hr) (by decide) (by decide), h.rows.ap⟩, Nat.le_trans h.le hl⟩, ⟨ht.tk.os, ht.tk.tape, ht.tk.output, ht.tk.size, fun b hb hn => ht.tk.same b hb fun hc => hn (.inl hc)⟩, fun b hb => ?_⟩
  rcases hb with hb | hb | hb
  · rcases ht.yo b hb with h1 | h1
    · exact .inl (.inl h1)
    · exact .inr h1
  · exact .inl (.inr (.inl hb))
  · exact .inl (.inr (.inr hb))
theorem TbM.facts [Gr] {w : World} {p : Nat} {ev mv : Value} {L : List Nd} (h : TbM w p ev mv L) : w.ownsRow (p + 1) 159 7 ev L.length (enCells (enL L)) ∧ ((mv = .map none ∧ L = []) ∨ ∃ B, mv = .map (some B) ∧ p < B ∧ IdF w B (ixL L) L.length) ∧ TbI L ∧ ∀ x ∈ L, N6 x.n ∧ x.name.size ≤ maxLen :=
  ⟨h.on, h.ids, h.inv, h.nr⟩
/-- The table stands while the rest of the graph's block has turned. -/
theorem TbM.tail {I I' : Gr} {w w' : World} {p : Nat} {ev mv : Value} {L : List Nd} (h : @TbM I w p ev mv L) (hb : w'.heap[p]? = some (.cells #[ev, mv, @Gr.a I', @Gr.b I', @Gr.c I', @Gr.d I'] 90 (0, 0)))
    (hs : ∀ b, b < w.heap.size → b ≠ p → TbS p ev mv b → w'.heap[b]? = w.heap[b]?) : @TbM I' w' p ev mv L := by
  obtain ⟨h1, h2, h3, h4⟩ := @TbM.facts I _ _ _ _ _ h
  refine @TbM.mk I' _ _ _ _ _ hb (rw_same h1 (fun b hb => hs b (rw_block h1 hb).2.1 (by have := (rw_block h1 hb).1; omega) (.inr (.inl hb)))) ?_ h3 h4
  rcases h2 with h5 | ⟨B, h5, h6, h7⟩
  · exact .inl h5
  · exact .inr ⟨B, h5, h6, h7.block (hs B h7.lt (by omega) (.inr (.inr h5)))⟩
/-- A cell of the graph's block is set: how many classes, how many nodes. -/
theorem GrM.classes {w : World} {p : Nat} {G : Gs} (h : GrM w p G) (c : Int) : GrT w p G { G with cl := c } (w.setCell ⟨p, 3, none⟩ (.int .i64 c)) := by
  have hne : ∀ b, b ≠ p → (w.setCell ⟨p, 3, none⟩ (.int .i64 c)).heap[b]? = w.heap[b]? := fun b hb => Deep.blk_setCell_other _ _ _ _ hb
  refine ⟨⟨TbM.tail h.tb ?_ fun b _ hb _ => hne b hb, own_set' h.row (row_ne_ty h.row h.blk (by decide)), h.rows.kept (grown_set _ _ _ _) fun r hr b hb e => ?_, h.le⟩, Tk.set _ (.inl (.inl rfl)), fun b hb => .inl hb⟩
  · have := heap_setCell_same w p 3 _ _ (.int .i64 c) h.blk
    rw [this]; rfl
  · cases e
    exact row_ne_ty (h.rows.own r hr) h.blk (by decide) hb
theorem GrM.nodes {w : World} {p : Nat} {G : Gs} (h : GrM w p G) (c : Int) : GrT w p G { G with nd := c } (w.setCell ⟨p, 4, none⟩ (.int .i64 c)) := by
  have hne : ∀ b, b ≠ p → (w.setCell ⟨p, 4, none⟩ (.int .i64 c)).heap[b]? = w.heap[b]? := fun b hb => Deep.blk_setCell_other _ _ _ _ hb
  refine ⟨⟨TbM.tail h.tb ?_ fun b _ hb _ => hne b hb, own_set' h.row (row_ne_ty h.row h.blk (by decide)), h.rows.kept (grown_set _ _ _ _) fun r hr b hb e => ?_, h.le⟩, Tk.set _ (.inl (.inl rfl)), fun b hb => .inl hb⟩
  · have := heap_setCell_same w p 4 _ _ (.int .i64 c) h.blk
    rw [this]; rfl
  · cases e
    exact row_ne_ty (h.rows.own r hr) h.blk (by decide) hb
/-- The row of seats turns: not the table. -/
theorem GrM.tbRow {w w' : World} {p : Nat} {G : Gs} (h : GrM w p G) (hg : w.grownBy w' G.sv.ownBlock) : @TbM G.gr w' p G.ev G.mv G.L := by
  refine TbM.tail h.tb ((hg.block p h.lt fun e => row_ne_ty h.row h.blk (by decide) e.symm).trans h.blk) fun b hb hne hs => hg.block b hb fun e => ?_
  obtain ⟨_, _, cap, cu, _, h4, _⟩ := rw_block h.row e.symm
  exact @TbM.typed G.gr _ _ _ _ _ h.tb _ _ _ _ h4 (by decide) (by decide) hs
theorem GrM.rowsRow {w w' : World} {p : Nat} {G : Gs} (h : GrM w p G) (hg : w.grownBy w' G.sv.ownBlock) : OwR w' (p + 1) ((G.rv, G.rs) :: seRows G.ss) :=
  h.rows.kept hg fun r hr b hb e => by
    rcases ownBlock_ne (h.rows.own r hr) h.row (by decide) with n | n
    · rw [n] at hb; cases hb
    · exact n (by rw [hb, e])
/-- A cell of a seat is set, but for its uses. -/
theorem GrM.seat {w : World} {p sg cap i k : Nat} {G : Gs} (h : GrM w p G) (hsv : G.sv = .slice (some ⟨sg, 0, none⟩) G.ss.length cap) (hi : i < G.ss.length) (hk : k < 4) (s' : Se) (u : Value) (hs : (seC (G.ss.getD i se0)).set k u = seC s') (hu : s'.us = (G.ss.getD i se0).us) :
    GrT w p G { G with ss := G.ss.set i s' } (w.setCell ⟨sg, i * 5 + k, none⟩ u) := by
  have hg : w.grownBy (w.setCell ⟨sg, i * 5 + k, none⟩ u) G.sv.ownBlock := by rw [hsv]; exact grown_set _ _ _ _
  have huv : s'.uv = (G.ss.getD i se0).uv := by
    have := congrArg (fun l => l[4]?) hs
    rw [List.getElem?_set_ne (by omega)] at this
    simpa [seC] using this.symm
  have hrows : seRows (G.ss.set i s') = seRows G.ss := by
    unfold seRows
    rw [List.map_set]
    have : (s'.uv, s'.us) = (G.ss.map fun s => (s.uv, s.us))[i]'(by simpa using hi) := by
      rw [huv, hu]; simp [hi]
    rw [this, List.set_getElem_self]
  refine ⟨⟨h.tbRow hg, ?_, by rw [show ({ G with ss := G.ss.set i s' } : Gs).ss = G.ss.set i s' from rfl, hrows]; exact h.rowsRow hg, by simpa using h.le⟩, Tk.set _ (.inr (.inl (by rw [hsv]; rfl))), fun b hb => .inl ?_⟩
  · have hr := h.row
    rw [hsv] at hr
    have := own_put hr (i := i * 5 + k) (u := u) (by rw [seCells_len]; omega)
    rw [seCells_set _ i k u s' hi (by omega) hs] at this
    simp only [List.length_set]
    rw [hsv]
    exact this
  · unfold GrS at hb ⊢
    simp only at hb
    rw [hrows] at hb
    exact hb
end Go.Proofs.YtlbmijcpalfaeaaGreatDoor.Gt

set_option linter.unusedSimpArgs false
set_option linter.unusedVariables false
namespace Go.Proofs.YtlbmijcpalfaeaaGreatDoor.Gt
open Go.RowKit Go.Lib Go.Sort

theorem GrM.cells {w : World} {p : Nat} {G : Gs} (h : GrM w p G) : w.cell? ⟨p, 0, none⟩ = some G.ev ∧ w.cell? ⟨p, 1, none⟩ = some G.mv ∧ w.cell? ⟨p, 2, none⟩ = some G.sv ∧ w.cell? ⟨p, 3, none⟩ = some (.int .i64 G.cl) ∧ w.cell? ⟨p, 4, none⟩ = some (.int .i64 G.nd) ∧ w.cell? ⟨p, 5, none⟩ = some G.rv ∧ (∀ j, w.frozen? ⟨p, j, none⟩ = false) := by
  refine ⟨?_, ?_, ?_, ?_, ?_, ?_, fun j => frozen_of_heap h.blk _⟩ <;> rw [cell_of_heap h.blk] <;> rfl
/-- The cells of seat i. -/
structure SeAt (w : World) (g o : Nat) (s : Se) : Prop where
  c0 : w.cell? ⟨g, o, none⟩ = some (.bool s.kn)
  c1 : w.cell? ⟨g, o + 1, none⟩ = some (.bool s.lv)
  c2 : w.cell? ⟨g, o + 2, none⟩ = some (.int .i64 s.up)
  c3 : w.cell? ⟨g, o + 3, none⟩ = some (.int .i64 s.wt)
  c4 : w.cell? ⟨g, o + 4, none⟩ = some s.uv
  fr : ∀ j, w.frozen? ⟨g, j, none⟩ = false
theorem GrM.form {w : World} {p : Nat} {G : Gs} (h : GrM w p G) : ∃ ao cap, G.sv = .slice ao G.ss.length cap ∧ G.ss.length ≤ cap ∧ cap ≤ maxLen ∧ (0 < G.ss.length → ∃ sg, ao = some ⟨sg, 0, none⟩ ∧ p + 1 ≤ sg ∧ sg < w.heap.size ∧ ∀ i, i < G.ss.length → SeAt w sg (i * 5) (G.ss.getD i se0)) := by
  have hr := h.row
  obtain ⟨_, h2⟩ := h.row
  rcases h2 with ⟨e, h0⟩ | ⟨g, cap, cur, e, hb, hg, hn, hm, hs, ht⟩
  · exact ⟨none, 0, by rw [e, h0], by omega, by simp, fun h => by omega⟩
  · refine ⟨_, cap, e, hn, hm, fun _ => ⟨g, rfl, hb, lt_of_block hg, fun i hi => ?_⟩⟩
    rw [e] at hr
    have key : ∀ k, k < 5 → w.cell? ⟨g, i * 5 + k, none⟩ = (seC (G.ss.getD i se0))[k]? := fun k hk => by
      obtain ⟨u, h1, h2⟩ := rw_cell hr (i := i * 5 + k) (by omega)
      rw [h1, ← h2, seCells_at _ i k hi hk]
    exact ⟨key 0 (by omega), key 1 (by omega), key 2 (by omega), key 3 (by omega), key 4 (by omega), fun j => frozen_of_heap hg _⟩
theorem GrM.leMax {w : World} {p : Nat} {G : Gs} (h : GrM w p G) : G.ss.length ≤ 1048576 := Nat.le_trans h.le (@TbM.facts G.gr _ _ _ _ _ h.tb).2.2.1.le
def knG (ss : List Se) (k : Nat) : Bool := decide (k < ss.length) && (ss.getD k se0).kn
set_option maxHeartbeats 1000000 in
theorem known_any {w : World} {p : Nat} {G : Gs} (h : GrM w p G) (k : Nat) :
    Calls Tryz.prog 65 #[.pointer (some ⟨p, 0, none⟩), .int .i64 k] w fun e w' => e = .returned (.bool (knG G.ss k)) ∧ w' = w := by
  obtain ⟨_, _, c2, _⟩ := h.cells
  obtain ⟨ao, cap, hsv, hs1, hs2, hs3⟩ := h.form
  rw [hsv] at c2
  have hle := h.leMax
  unfold maxLen at hs2
  clear hsv
  by_cases hk : k < G.ss.length
  · obtain ⟨sg, rfl, _, _, hs4⟩ := hs3 (by omega)
    have HK : Hid (knG G.ss k = (G.ss.getD k se0).kn) := by show _ = _; simp [knG, hk]
    obtain ⟨d0, _⟩ := hs4 k hk
    generalize (G.ss.getD k se0).kn = b at *
    generalize G.ss.length = n at *
    clear h hs3 hs4
    go_enter Tryz.func65, Tryz.ntmps65
    go_wp2
    go_ret
    exact ⟨by rw [HK.out]; rfl, rfl⟩
  · have HK : Hid (knG G.ss k = false) := by show _ = _; simp [knG, hk]
    generalize G.ss.length = n at *
    clear h hs3
    go_enter Tryz.func65, Tryz.ntmps65
    go_wp2
    go_ret
    exact ⟨by rw [HK.out]; rfl, rfl⟩
/-- From entry i one comes to r in n steps, and r stands for itself. -/
inductive StN (ss : List Se) : Nat → Nat → Nat → Prop
  | here {r : Nat} (h : r < ss.length) (e : (ss.getD r se0).up = (r : Int)) : StN ss 0 r r
  | up {n i j r : Nat} (h : i < ss.length) (e : (ss.getD i se0).up = (j : Int)) (ne : j ≠ i) (k : StN ss n j r) : StN ss (n + 1) i r
/-- How many steps it is from entry i, at most f. -/
def stn (ss : List Se) : Nat → Nat → Nat
  | 0, _ => 0
  | f + 1, i => if (ss.getD i se0).up = (i : Int) then 0 else stn ss f (ss.getD i se0).up.toNat + 1
theorem StN.steps {ss : List Se} {n i r : Nat} (h : StN ss n i r) : ∀ f, n ≤ f → stn ss f i = n := by
  induction h with
  | here h e =>
    intro f _
    cases f with
    | zero => rfl
    | succ f => simp only [stn]; rw [if_pos e]
  | up h e ne k ih =>
    intro f hf
    cases f with
    | zero => omega
    | succ f =>
      simp only [stn]
      rw [if_neg (by rw [e]; omega), e, Int.toNat_natCast, ih f (by omega)]
theorem StN.lt {ss : List Se} {n i r : Nat} (h : StN ss n i r) : i < ss.length := by cases h <;> assumption
set_option maxRecDepth 20000 in
set_option maxHeartbeats 2000000 in
theorem stands_any {w : World} {p : Nat} {G : Gs} (h : GrM w p G) {n i r : Nat} (hst : StN G.ss n i r) :
    Calls Tryz.prog 42 #[.pointer (some ⟨p, 0, none⟩), .int .i64 i] w fun e w' => e = .returned (.int .i64 r) ∧ w' = w := by
  obtain ⟨_, _, c2, _⟩ := h.cells
  obtain ⟨ao, cap, hsv, hs1, hs2, hs3⟩ := h.form
  have hpos : 0 < G.ss.length := by cases hst <;> omega
  obtain ⟨sg, rfl, _, _, hs4⟩ := hs3 hpos
  rw [hsv] at c2
  have hle := h.leMax
  unfold maxLen at hs2
  have HS : Sld (StN G.ss n i r) := ⟨hst⟩
  have H4 : Sld (∀ i, i < G.ss.length → SeAt w sg (i * 5) (G.ss.getD i se0)) := ⟨hs4⟩
  clear hsv h hs3 hs4 hst
  go_enter Tryz.func42, Tryz.ntmps42
  go_wp2_with fail
  go_loopw [1] (fun x wr => ∃ j m : Nat, m ≤ n ∧ x = .int .i64 j ∧ wr = w ∧ Sld (StN G.ss m j r)) (fun x _ => stn G.ss n (RowKit.intOf x).toNat)
  case atStart => exact ⟨i, n, Nat.le_refl _, rfl, rfl, HS⟩
  case round =>
    obtain ⟨j, m, hm, rfl, hwr, HR⟩ := hrel
    subst hwr
    have hj := HR.out.lt
    obtain ⟨_, _, d2, _⟩ := H4.out j hj
    have HE := HR.out
    cases HE with
    | here _ e =>
      rw [e] at d2
      go_wp2_with fail
      go_ret
      exact ⟨rfl, rfl⟩
    | @up m j j' r hlt e ne k =>
      rw [e] at d2
      have ne2 : ((j' : Int) == (j : Int)) = false := by rw [beq_eq_false_iff_ne]; omega
      have HV : Sld (stn G.ss n j' < stn G.ss n j) := ⟨by rw [k.steps n (by omega), HR.out.steps n (by omega)]; omega⟩
      have HK := Sld.mk k
      clear e k
      go_wp2_with fail
      exact ⟨⟨j', m, by omega, rfl, trivial, HK⟩, by simpa [RowKit.intOf] using HV.out⟩
end Go.Proofs.YtlbmijcpalfaeaaGreatDoor.Gt
