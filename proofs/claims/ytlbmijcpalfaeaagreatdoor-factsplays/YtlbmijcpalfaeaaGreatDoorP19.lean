/-
  TbM.
-/
import Derived.Test.YtlbmijcpalfaeaaGreatDoorP18
import Derived.Maps.OwnSet
import Derived.Maps.Keyed
import Derived.DeepKeys4
set_option linter.unusedSimpArgs false
set_option linter.unusedVariables false
namespace Go.Proofs.YtlbmijcpalfaeaaGreatDoor
open Go.RowKit Go.Lib Go.Maps Go.WideMaps

/-- A shape as a value. -/
def shC (x : Nd) : List Value := [.int .i64 x.op, .int .i64 x.n, .string x.name, .int .i64 (x.kids.getD 0 0), .int .i64 (x.kids.getD 1 0), .int .i64 (x.kids.getD 2 0)]
def shV (x : Nd) : Value := .agg #[.int .i64 x.op, .int .i64 x.n, .string x.name, .int .i64 (x.kids.getD 0 0), .int .i64 (x.kids.getD 1 0), .int .i64 (x.kids.getD 2 0)]
theorem Tryz.infoEn : (Tryz.prog.info? 159).map (fun i => (i.zero, i.size, i.bytes)) = some (some (.agg #[.int .i64 0, .int .i64 0, .string ⟨#[]⟩, .int .i64 0, .int .i64 0, .int .i64 0, .int .i64 0]), 7, 64) := by kernel_rfl

/-- Numbers of 64 bits. -/
def N6 (n : Int) : Prop := -9223372036854775808 ≤ n ∧ n ≤ 9223372036854775807
theorem N6.wf {n : Int} (h : N6 n) : (Lit.int .i64 n).wf = true := by
  have e1 : IntKind.min .i64 = -9223372036854775808 := by decide
  have e2 : IntKind.max .i64 = 9223372036854775807 := by decide
  simp only [Lit.wf, e1, e2, Bool.and_eq_true, decide_eq_true_eq]
  exact h
/-- What a key may be made of. -/
structure KeyN (x : Nd) : Prop where
  op : N6 x.op
  n : N6 x.n
  nm : x.name.size ≤ maxLen
  kids : ∀ k ∈ x.kids, N6 k
theorem KeyN.kid {x : Nd} (h : KeyN x) (j : Nat) : N6 (x.kids.getD j 0) := by
  rcases Nat.lt_or_ge j x.kids.length with h1 | h1
  · exact h.kids _ (by simp [h1])
  · rw [List.getD_eq_getElem?_getD, List.getElem?_eq_none h1]; simp [N6]

theorem Tryz.laidOutT : laidOutB Tryz.prog = true := by kernel_rfl
theorem rowSh : (143 : TypeId) < Tryz.prog.types.size := of_decide_eq_true (by kernel_rfl)
theorem wideSh : (match Tryz.prog.underlying 143 with | some (.array _ _) | some (.struct _) => true | _ => false) = true := by kernel_rfl
set_option maxRecDepth 100000 in
theorem lawSh : Keyed Tryz.prog 143 := Keyed.of_law (deep_law_laid Tryz.laidOutT (m := 4) (by omega) rowSh (by kernel_rfl) wideSh)
theorem keyTySh : Tryz.prog.keyType 143 = true := by kernel_rfl
theorem cellsSh : Tryz.prog.cellsOf 143 = 6 := by kernel_rfl
theorem cellsArr : Tryz.prog.cellsOf 141 = 3 := by kernel_rfl
theorem cellsI3 : Tryz.prog.cellsOf 3 = 1 := by kernel_rfl
theorem cellsI2 : Tryz.prog.cellsOf 2 = 1 := by kernel_rfl
theorem cellsStr : Tryz.prog.cellsOf 9 = 1 := by kernel_rfl
theorem typesSz : ∃ d, Tryz.prog.types.size + 1 = d + 3 := ⟨Tryz.prog.types.size - 2, by
  have : 2 ≤ Tryz.prog.types.size := of_decide_eq_true (by kernel_rfl)
  omega⟩
theorem keyLits_sh {x : Nd} (h : KeyN x) : Tryz.prog.keyLits (Tryz.prog.types.size + 1) 143 (shV x).cells.toList = some [.int .i64 x.op, .int .i64 x.n, .string x.name.data.toList, .int .i64 (x.kids.getD 0 0), .int .i64 (x.kids.getD 1 0), .int .i64 (x.kids.getD 2 0)] := by
  obtain ⟨d, hd⟩ := typesSz
  rw [hd]
  have w0 := h.op.wf
  have w1 := h.n.wf
  have w2 := h.nm
  have w3 := (h.kid 0).wf
  have w4 := (h.kid 1).wf
  have w5 := (h.kid 2).wf
  have a0 : ∀ (q : Int) d', (Lit.int .i64 q).wf = true → Tryz.prog.keyLits (d' + 1) 3 [.int .i64 q] = some [.int .i64 q] := fun q d' hq => by simp [Program.keyLits, Tryz.underlying3, hq]
  have a1 : ∀ (q : Int) d', (Lit.int .i64 q).wf = true → Tryz.prog.keyLits (d' + 1) 2 [.int .i64 q] = some [.int .i64 q] := fun q d' hq => by simp [Program.keyLits, Tryz.underlying2, hq]
  have a2 : ∀ (s : ByteArray) d', s.size ≤ maxLen → Tryz.prog.keyLits (d' + 1) 9 [.string s] = some [.string s.data.toList] := fun q d' hq => by simp [Program.keyLits, Tryz.underlying9, hq]
  have a3 : ∀ (p q r : Int) d', (Lit.int .i64 p).wf = true → (Lit.int .i64 q).wf = true → (Lit.int .i64 r).wf = true → Tryz.prog.keyLits (d' + 1 + 1) 141 [.int .i64 p, .int .i64 q, .int .i64 r] = some [.int .i64 p, .int .i64 q, .int .i64 r] := fun p q r d' hp hq hr => by
    simp [Program.keyLits, Tryz.underlying141, cellsArr, cellsI3, Tryz.underlying3, List.range_succ, hp, hq, hr]
  have b0 := a0 x.op (d + 1) w0
  have b1 := a1 x.n (d + 1) w1
  have b2 := a2 x.name (d + 1) w2
  have b3 := a3 _ _ _ d w3 w4 w5
  generalize hy : d + 1 + 1 = y at *
  show Tryz.prog.keyLits (d + 1 + 1 + 1) _ _ = _
  rw [hy]
  unfold shV
  clear w3 w4 w5
  generalize x.kids.getD 0 0 = k0 at *
  generalize x.kids.getD 1 0 = k1 at *
  generalize x.kids.getD 2 0 = k2 at *
  unfold Program.keyLits
  simp only [Tryz.underlying143, cellsSh, Value.cells]
  simp [cellsI3, cellsI2, cellsStr, cellsArr, b0, b1, b2, b3]
def klS (x : Nd) : Lit := .string (keyBytes [.int .i64 x.op, .int .i64 x.n, .string x.name.data.toList, .int .i64 (x.kids.getD 0 0), .int .i64 (x.kids.getD 1 0), .int .i64 (x.kids.getD 2 0)])
theorem keyS {x : Nd} (h : KeyN x) : keyOf Tryz.prog 143 (shV x) = some (klS x) := by
  unfold keyOf
  rw [Tryz.underlying143 ]
  simp only
  rw [keyLits_sh h, keyTySh]
  have : (shV x).formed Tryz.prog 143 = true := by simp [shV, Value.formed, Tryz.underlying143, cellsSh]
  rw [this]
  rfl
theorem three_eq {a b : List Int} (hl : a.length = b.length) (h3 : a.length ≤ 3) (h0 : a.getD 0 0 = b.getD 0 0) (h1 : a.getD 1 0 = b.getD 1 0) (h2 : a.getD 2 0 = b.getD 2 0) : a = b := by
  apply List.ext_getElem hl
  intro i hi hi'
  match i, hi with
  | 0, hi => simpa [hi, hi'] using h0
  | 1, hi => simpa [hi, hi'] using h1
  | 2, hi => simpa [hi, hi'] using h2
  | i + 3, hi => omega
theorem formB_arit {x : Nd} (h : formB x = true) : (x.kids.length : Int) = aritI x.op := by
  unfold formB fitB at h
  simp only [Bool.and_eq_true, decide_eq_true_eq] at h
  exact h.1.1.2
theorem klS_inj {x y : Nd} (hx : KeyN x) (hy : KeyN y) (fx : formB x = true) (fy : formB y = true) (h : klS x = klS y) : x = y := by
  have e := lawSh.inj (keyS hx) (by rw [h]; exact keyS hy)
  unfold shV at e
  simp only [Value.agg.injEq, Array.mk.injEq, List.cons.injEq, Value.int.injEq, Value.string.injEq, true_and, and_true] at e
  obtain ⟨e1, e2, e3, e4, e5, e6⟩ := e
  have l1 := formB_arit fx
  have l2 := formB_arit fy
  rw [e1] at l1
  have := formB_kids fx
  have e7 := three_eq (a := x.kids) (b := y.kids) (by omega) this e4 e5 e6
  obtain ⟨a, b, c, d⟩ := x
  obtain ⟨a', b', c', d'⟩ := y
  simp only at e1 e2 e3 e7
  subst e1; subst e2; subst e3; subst e7
  rfl

/-- Nodes that may be asked for. -/
structure NdK (x : Nd) : Prop where
  key : KeyN x
  form : formB x = true
/-- Block B is a map of n entries, that tells of each node what f tells. -/
def IdF (w : World) (B : Nat) (f : Nd → Option Nat) (n : Nat) : Prop :=
  ∃ D : DataW Unit, w.ownsMap Tryz.prog 143 (plainElem (H := Unit) Tryz.prog 3) B n D ∧ Maps.size D = n ∧ ∀ x, NdK x → has D (klS x) = (f x).isSome ∧ D.atKey (klS x) (.lit (.int .i64 0)) = .lit (.int .i64 (((f x).getD 0 : Nat) : Int))
theorem zeroI3 (w : World) : (zeroValue 3).run Tryz.prog w = .ok (.int .i64 0) w := by kernel_rfl
theorem ownsMap_shrink {P : Program} {k : TypeId} {R : Value → Option (DataW Unit × List MemPlace)} {w : World} {b n : Nat} {D : DataW Unit} (h : w.ownsMap P k R b n D) : w.ownsMap P k R b (Maps.size D) D := by
  obtain ⟨es, clock, hb, F, _, rfl⟩ := h
  refine ⟨es, clock, hb, F, ?_, rfl⟩
  simp [Maps.size, length_read]
theorem IdF.made (w : World) : IdF (w.alloc (.map #[] 0)) w.heap.size (fun _ => none) 0 :=
  ⟨.map [], World.ownsMap_made _ _ _ _, rfl, fun x _ => ⟨rfl, rfl⟩⟩
theorem IdF.lt {w : World} {B n : Nat} {f : Nd → Option Nat} (h : IdF w B f n) : B < w.heap.size := let ⟨_, h, _⟩ := h; World.ownsMap.lt h
theorem IdF.obj {w : World} {B n : Nat} {f : Nd → Option Nat} (h : IdF w B f n) : ∃ es c, w.heap[B]? = some (.map es c) := let ⟨_, ⟨es, c, hb, _⟩, _⟩ := h; ⟨es, c, hb⟩
theorem IdF.block {w w' : World} {B n : Nat} {f : Nd → Option Nat} (h : IdF w B f n) (hb : w'.heap[B]? = w.heap[B]?) : IdF w' B f n := by
  obtain ⟨D, ⟨es, c, h1, h2⟩, h3⟩ := h
  exact ⟨D, ⟨es, c, hb.trans h1, h2⟩, h3⟩
theorem IdF.congr {w : World} {B n m : Nat} {f g : Nd → Option Nat} (h : IdF w B f n) (hfg : ∀ x, NdK x → f x = g x) (hnm : n = m) : IdF w B g m := by
  subst hnm
  obtain ⟨D, h1, h2, h3⟩ := h
  exact ⟨D, h1, h2, fun x hx => by rw [← hfg x hx]; exact h3 x hx⟩
theorem IdF.look {w : World} {B n : Nat} {f : Nd → Option Nat} (h : IdF w B f n) {x : Nd} (hx : NdK x) :
    (Instr.lookup 85 (.map (some B)) (shV x) true).run Tryz.prog w = .ok (.tuple #[.int .i64 (((f x).getD 0 : Nat) : Int), .bool (f x).isSome]) w := by
  obtain ⟨D, h1, _, h3⟩ := h
  obtain ⟨h4, h5⟩ := h3 x hx
  obtain ⟨v, ps, hr, hv⟩ := h1.look_ok lawSh Tryz.underlying85 (zeroI3 w) (plainElem_int Tryz.underlying3 (by decide)) (keyS hx.key)
  rw [h4] at hr
  rw [h5] at hv
  obtain ⟨c, rfl, hc, hwc⟩ := plainElem_int_inv Tryz.underlying3 hv
  have : c = (((f x).getD 0 : Nat) : Int) := by
    have := congrArg Prod.fst hc
    simpa using this.symm
  rw [hr, this]
theorem look_none {w : World} {x : Nd} (hx : KeyN x) : (Instr.lookup 85 (.map none) (shV x) true).run Tryz.prog w = .ok (.tuple #[.int .i64 0, .bool false]) w := by
  have := Maps.look_nil (w := w) true lawSh Tryz.underlying85 (zeroI3 w) (keyS hx)
  simpa using this
theorem IdF.put {w : World} {B n : Nat} {f : Nd → Option Nat} (h : IdF w B f n) {x : Nd} (hx : NdK x) (hn : f x = none) (hl : n ≤ 1048576) {i : Nat} (hi : i ≤ 1048576) :
    ∃ w', (Instr.mapUpdate 85 (.map (some B)) (shV x) (.int .i64 (i : Int))).run Tryz.prog w = .ok () w' ∧ IdF w' B (fun y => if y = x then some i else f y) (n + 1) ∧ w.mapTurned w' B := by
  obtain ⟨D, h1, h2, h3⟩ := h
  obtain ⟨w', hr, ho, ht⟩ := h1.store lawSh Tryz.underlying85 (by unfold maxLen; omega) (keyS hx.key) (plainElem_int Tryz.underlying3 (q := .i64) (a := (i : Int)) (N6.wf ⟨by omega, by omega⟩))
  have hk : WideAt.IsKeyLit (klS x) := lawSh.key (keyS hx.key)
  have hsz := size_put (h1.tidy lawSh) (k := klS x) (.lit (.int .i64 (i : Int)))
  rw [(h3 x hx).1, hn, h2] at hsz
  simp at hsz
  refine ⟨w', hr, ⟨_, ho, hsz, fun y hy => ?_⟩, ht⟩
  by_cases e : y = x
  · subst e
    simp only [if_true]
    exact ⟨has_put_same h1.isMap hk _, atKey_put_same h1.isMap hk _ _⟩
  · simp only [e, if_false]
    have hne : klS y ≠ klS x := fun e2 => e (klS_inj hy.key hx.key hy.form hx.form e2)
    rw [has_put_other hne, atKey_put_other hne]
    exact h3 y hy
theorem IdF.drop {w : World} {B n : Nat} {f : Nd → Option Nat} (h : IdF w B f n) {x : Nd} (hx : NdK x) (hs : (f x).isSome = true) (ty : TypeId) :
    ∃ w', (Builtin.delete_ #[85, 143 ] ty #[.map (some B), shV x]).run Tryz.prog w = .ok (.tuple #[]) w' ∧ IdF w' B (fun y => if y = x then none else f y) (n - 1) ∧ w.mapTurned w' B := by
  obtain ⟨D, h1, h2, h3⟩ := h
  obtain ⟨w', hr, ho, ht⟩ := h1.drop lawSh Tryz.underlying85 (keyS hx.key) ty
  have hsz := size_del (h1.tidy lawSh) (k := klS x)
  rw [(h3 x hx).1, hs, h2] at hsz
  simp at hsz
  have hsz2 : Maps.size (D.del (klS x)) = n - 1 := by omega
  refine ⟨w', hr, ⟨_, by rw [← hsz2]; exact ownsMap_shrink ho, hsz2, fun y hy => ?_⟩, ht⟩
  by_cases e : y = x
  · subst e
    simp only [if_true]
    exact ⟨has_del_same, atKey_del_same _⟩
  · simp only [e, if_false]
    have hne : klS y ≠ klS x := fun e2 => e (klS_inj hy.key hx.key hy.form hx.form e2)
    rw [has_del_other hne, atKey_del_other hne]
    exact h3 y hy

/-- Entries with their sizes: seven cells. -/
def enC (q : Nd × Nat) : List Value := shC q.1 ++ [.int .i64 (q.2 : Int)]
def enCells : List (Nd × Nat) → List Value
  | [] => []
  | q :: r => enC q ++ enCells r
theorem enCells_length (l : List (Nd × Nat)) : (enCells l).length = l.length * 7 := by
  induction l with
  | nil => rfl
  | cons a r ih => simp [enCells, enC, shC, ih]; omega
theorem enCells_append (l m : List (Nd × Nat)) : enCells (l ++ m) = enCells l ++ enCells m := by
  induction l with
  | nil => rfl
  | cons a r ih => simp [enCells, ih]
theorem enCells_at (l : List (Nd × Nat)) (i k : Nat) (hi : i < l.length) (hk : k < 7) : (enCells l)[i * 7 + k]? = (enC (l.getD i (nd0, 0)))[k]? := by
  induction l generalizing i with
  | nil => simp at hi
  | cons a r ih =>
    cases i with
    | zero =>
      simp only [enCells, Nat.zero_mul, Nat.zero_add]
      rw [List.getElem?_append_left (by simp [enC, shC]; omega)]
      rfl
    | succ i =>
      have e : (a :: r).getD (i + 1) (nd0, 0) = r.getD i (nd0, 0) := rfl
      rw [e, ← ih i (by simpa using hi)]
      have e2 : (i + 1) * 7 + k = 7 + (i * 7 + k) := by omega
      rw [e2]
      simp only [enCells]
      rw [List.getElem?_append_right (by simp [enC, shC])]
      congr 1
      simp [enC, shC]
def enL (L : List Nd) : List (Nd × Nat) := L.zip (szL L)
theorem enL_len (L : List Nd) : (enL L).length = L.length := by unfold enL; rw [List.length_zip, szL_len]; omega
theorem enL_at (L : List Nd) {i : Nat} (h : i < L.length) : (enL L).getD i (nd0, 0) = (edA L i, (szL L).getD i 0) := by
  have h2 : i < (szL L).length := by rw [szL_len]; exact h
  have h3 : i < (L.zip (szL L)).length := by rw [List.length_zip]; omega
  unfold enL edA
  simp only [List.getD_eq_getElem?_getD, List.getElem?_eq_getElem h, List.getElem?_eq_getElem h2, List.getElem?_eq_getElem h3, List.getElem_zip, Option.getD_some]
theorem enL_snoc (L : List Nd) (x : Nd) : enL (L ++ [x]) = enL L ++ [(x, szK (szL L) 1 x.kids)] := by
  unfold enL
  rw [szL_snoc, List.zip_append (by rw [szL_len])]
  rfl
structure TbM (w : World) (p : Nat) (ev mv : Value) (L : List Nd) : Prop where
  blk : w.heap[p]? = some (.cells #[ev, mv] 87 (0, 0))
  on : w.ownsRow (p + 1) 159 7 ev L.length (enCells (enL L))
  ids : (mv = .map none ∧ L = []) ∨ ∃ B, mv = .map (some B) ∧ p < B ∧ IdF w B (ixL L) L.length
  inv : TbI L
  nr : ∀ x ∈ L, N6 x.n ∧ x.name.size ≤ maxLen
theorem TbM.lt {w : World} {p : Nat} {ev mv : Value} {L : List Nd} (h : TbM w p ev mv L) : p < w.heap.size := lt_of_block h.blk
/-- The block and the row alone. -/
structure TbR (w : World) (p : Nat) (ev mv : Value) (L : List Nd) : Prop where
  blk : w.heap[p]? = some (.cells #[ev, mv] 87 (0, 0))
  on : w.ownsRow (p + 1) 159 7 ev L.length (enCells (enL L))
theorem TbM.r {w : World} {p : Nat} {ev mv : Value} {L : List Nd} (h : TbM w p ev mv L) : TbR w p ev mv L := ⟨h.blk, h.on⟩
theorem TbR.lt {w : World} {p : Nat} {ev mv : Value} {L : List Nd} (h : TbR w p ev mv L) : p < w.heap.size := lt_of_block h.blk
theorem TbR.same {w w' : World} {p : Nat} {ev mv : Value} {L : List Nd} (h : TbR w p ev mv L) (hs : ∀ b, b < w.heap.size → b = p ∨ ev.ownBlock = some b → w'.heap[b]? = w.heap[b]?) : TbR w' p ev mv L :=
  ⟨(hs p h.lt (.inl rfl)).trans h.blk, rw_same h.on (fun b hb => hs b (rw_block h.on hb).2.1 (.inr hb))⟩
theorem TbR.below {w w' : World} {p : Nat} {ev mv : Value} {L : List Nd} (h : TbR w p ev mv L) (hb : Below w.heap.size w w') : TbR w' p ev mv L := h.same fun b h1 _ => hb.block b h1
theorem TbR.c0 {w : World} {p : Nat} {ev mv : Value} {L : List Nd} (h : TbR w p ev mv L) : w.cell? ⟨p, 0, none⟩ = some ev := by simp [World.cell?, h.blk]
theorem TbR.row {w : World} {p : Nat} {ev mv : Value} {L : List Nd} (h : TbR w p ev mv L) {x : Nat} (hx : x < L.length) : ∃ g cap, ev = .slice (some ⟨g, 0, none⟩) L.length cap ∧ p + 1 ≤ g ∧ g < w.heap.size ∧ L.length ≤ cap ∧ cap ≤ maxLen := by
  obtain ⟨h1, h2⟩ := h.on
  rcases h2 with ⟨rfl, h0⟩ | ⟨g, cap, cur, rfl, hb, hg, hn, hm, hs, ht⟩
  · omega
  · exact ⟨g, cap, rfl, hb, lt_of_block hg, hn, hm⟩
/-- The blocks of a table. -/
def TbS (p : Nat) (ev mv : Value) (b : Nat) : Prop := b = p ∨ ev.ownBlock = some b ∨ mv = .map (some b)
theorem TbM.same {w w' : World} {p : Nat} {ev mv : Value} {L : List Nd} (h : TbM w p ev mv L) (hs : ∀ b, b < w.heap.size → TbS p ev mv b → w'.heap[b]? = w.heap[b]?) : TbM w' p ev mv L := by
  refine ⟨(hs p h.lt (.inl rfl)).trans h.blk, rw_same h.on (fun b hb => hs b (rw_block h.on hb).2.1 (.inr (.inl hb))), ?_, h.inv, h.nr⟩
  rcases h.ids with h1 | ⟨B, h1, h2, h3⟩
  · exact .inl h1
  · exact .inr ⟨B, h1, h2, h3.block (hs B h3.lt (.inr (.inr h1)))⟩
theorem TbM.below {w w' : World} {p : Nat} {ev mv : Value} {L : List Nd} (h : TbM w p ev mv L) (hb : Below w.heap.size w w') : TbM w' p ev mv L := h.same fun b h1 _ => hb.block b h1
theorem TbM.c0 {w : World} {p : Nat} {ev mv : Value} {L : List Nd} (h : TbM w p ev mv L) : w.cell? ⟨p, 0, none⟩ = some ev := by simp [World.cell?, h.blk]
theorem TbM.c1 {w : World} {p : Nat} {ev mv : Value} {L : List Nd} (h : TbM w p ev mv L) : w.cell? ⟨p, 1, none⟩ = some mv := by simp [World.cell?, h.blk]
theorem TbM.form {w : World} {p : Nat} {ev mv : Value} {L : List Nd} (h : TbM w p ev mv L) : ∃ ao cap, ev = .slice ao L.length cap := rw_form h.on
theorem TbM.row {w : World} {p : Nat} {ev mv : Value} {L : List Nd} (h : TbM w p ev mv L) {x : Nat} (hx : x < L.length) : ∃ g cap, ev = .slice (some ⟨g, 0, none⟩) L.length cap ∧ p + 1 ≤ g ∧ g < w.heap.size ∧ L.length ≤ cap ∧ cap ≤ maxLen := by
  obtain ⟨h1, h2⟩ := h.on
  rcases h2 with ⟨rfl, h0⟩ | ⟨g, cap, cur, rfl, hb, hg, hn, hm, hs, ht⟩
  · omega
  · exact ⟨g, cap, rfl, hb, lt_of_block hg, hn, hm⟩
/-- An entry's cells. -/
structure EnAt (w : World) (g o : Nat) (x : Nd) (s : Nat) : Prop where
  c0 : w.cell? ⟨g, o, none⟩ = some (.int .i64 x.op)
  c1 : w.cell? ⟨g, o + 1, none⟩ = some (.int .i64 x.n)
  c2 : w.cell? ⟨g, o + 2, none⟩ = some (.string x.name)
  c3 : w.cell? ⟨g, o + 3, none⟩ = some (.int .i64 (x.kids.getD 0 0))
  c4 : w.cell? ⟨g, o + 4, none⟩ = some (.int .i64 (x.kids.getD 1 0))
  c5 : w.cell? ⟨g, o + 5, none⟩ = some (.int .i64 (x.kids.getD 2 0))
  c6 : w.cell? ⟨g, o + 6, none⟩ = some (.int .i64 (s : Int))
theorem enAt_of {w : World} {base g cap : Nat} {L : List Nd} {n : Nat} (h : w.ownsRow base 159 7 (.slice (some ⟨g, 0, none⟩) n cap) n (enCells (enL L))) (hn : n = L.length) {i : Nat} (hi : i < L.length) : EnAt w g (i * 7) (edA L i) ((szL L).getD i 0) := by
  subst hn
  have key : ∀ k, k < 7 → w.cell? ⟨g, i * 7 + k, none⟩ = (enC (edA L i, (szL L).getD i 0))[k]? := fun k hk => by
    obtain ⟨u, h1, h2⟩ := rw_cell h (i := i * 7 + k) (by omega)
    rw [h1, ← h2, enCells_at _ i k (by rw [enL_len]; exact hi) hk, enL_at L hi]
  exact ⟨key 0 (by omega), key 1 (by omega), key 2 (by omega), key 3 (by omega), key 4 (by omega), key 5 (by omega), key 6 (by omega)⟩
theorem TbM.at_ {w : World} {p g cap : Nat} {mv : Value} {L : List Nd} (h : TbM w p (.slice (some ⟨g, 0, none⟩) L.length cap) mv L) {i : Nat} (hi : i < L.length) : EnAt w g (i * 7) (edA L i) ((szL L).getD i 0) := enAt_of h.on rfl hi
theorem TbR.at_ {w : World} {p g cap : Nat} {mv : Value} {L : List Nd} (h : TbR w p (.slice (some ⟨g, 0, none⟩) L.length cap) mv L) {i : Nat} (hi : i < L.length) : EnAt w g (i * 7) (edA L i) ((szL L).getD i 0) := enAt_of h.on rfl hi
theorem EnAt.below {w w' : World} {g o : Nat} {x : Nd} {s B : Nat} (h : EnAt w g o x s) (hb : Below B w w') (hg : g < B) : EnAt w' g o x s :=
  ⟨(hb.cell (p := ⟨g, o, none⟩) hg).trans h.c0, (hb.cell (p := ⟨g, o + 1, none⟩) hg).trans h.c1, (hb.cell (p := ⟨g, o + 2, none⟩) hg).trans h.c2, (hb.cell (p := ⟨g, o + 3, none⟩) hg).trans h.c3, (hb.cell (p := ⟨g, o + 4, none⟩) hg).trans h.c4, (hb.cell (p := ⟨g, o + 5, none⟩) hg).trans h.c5, (hb.cell (p := ⟨g, o + 6, none⟩) hg).trans h.c6⟩
theorem NdK.of {x : Nd} (hf : formB x = true) (hn : N6 x.n) (hs : x.name.size ≤ maxLen) (hk : ∀ k ∈ x.kids, 0 ≤ k ∧ k < 9000000) : NdK x := by
  refine ⟨⟨?_, hn, hs, fun k h => by have := hk k h; unfold N6; omega⟩, hf⟩
  have h0 : 0 ≤ aritI x.op := by
    unfold formB fitB at hf
    simp only [Bool.and_eq_true, decide_eq_true_eq] at hf
    exact hf.1.1.1
  unfold aritI at h0
  unfold N6
  split at h0
  · omega
  · split at h0
    · omega
    · split at h0
      · omega
      · split at h0
        · omega
        · omega
theorem TbM.ndk {w : World} {p : Nat} {ev mv : Value} {L : List Nd} (h : TbM w p ev mv L) {i : Nat} (hi : i < L.length) : NdK (edA L i) := by
  obtain ⟨h1, h2⟩ := h.nr _ (edA_mem hi)
  have hl := h.inv.le
  exact NdK.of (h.inv.form i hi) h1 h2 fun k hk => by have := h.inv.kids i hi k hk; omega

/-- What calls on a table turn: its blocks, and what is young. -/
structure Tk (S : Nat → Prop) (w w' : World) : Prop where
  os : w'.os = w.os
  tape : w'.tape = w.tape
  output : w'.output = w.output
  size : w.heap.size ≤ w'.heap.size
  same : ∀ b, b < w.heap.size → ¬ S b → w'.heap[b]? = w.heap[b]?
theorem Tk.of_below {S : Nat → Prop} {w w' : World} (h : Below w.heap.size w w') : Tk S w w' := ⟨h.os, h.tape, h.output, h.size, fun b hb _ => h.block b hb⟩
theorem Tk.refl (S : Nat → Prop) (w : World) : Tk S w w := Tk.of_below (Below.refl _ _)
theorem Tk.trans {S T : Nat → Prop} {w w' w'' : World} (h : Tk S w w') (k : Tk T w' w'') (hT : ∀ b, T b → S b ∨ w.heap.size ≤ b) : Tk S w w'' :=
  ⟨k.os.trans h.os, k.tape.trans h.tape, k.output.trans h.output, Nat.le_trans h.size k.size, fun b hb hs => (k.same b (Nat.lt_of_lt_of_le hb h.size) (fun ht => by rcases hT b ht with h1 | h1; exact hs h1; omega)).trans (h.same b hb hs)⟩
theorem Tk.below {S : Nat → Prop} {w w' : World} {B : Nat} (h : Tk S w w') (hB : B ≤ w.heap.size) (hS : ∀ b, S b → B ≤ b) : Below B w w' := ⟨h.os, h.tape, h.output, h.size, fun b hb => h.same b (by omega) (fun hs => by have := hS b hs; omega)⟩
theorem Tk.turned {w w' : World} {B : Nat} (h : w.mapTurned w' B) (S : Nat → Prop) (hS : S B) : Tk S w w' := by
  have hg := h.grown
  exact ⟨hg.os, hg.tape, hg.output, hg.size, fun b hb hs => hg.block b hb (fun e => hs (by cases e; exact hS))⟩
theorem Tk.grown {w w' : World} {r : Option Nat} (hg : w.grownBy w' r) (S : Nat → Prop) (hS : ∀ b, r = some b → S b) : Tk S w w' :=
  ⟨hg.os, hg.tape, hg.output, hg.size, fun b hb hs => hg.block b hb (fun e => hs (hS b e.symm))⟩
theorem Tk.set {w : World} {b o : Nat} {u : Value} (S : Nat → Prop) (hS : S b) : Tk S w (w.setCell ⟨b, o, none⟩ u) := by
  have hb := (Below.refl b w).setCell (p := ⟨b, o, none⟩) (Nat.le_refl b) u
  exact ⟨hb.os, hb.tape, hb.output, hb.size, fun k _ hs => Deep.blk_setCell_other _ _ _ _ (fun e => hs (by rw [show k = b from e]; exact hS))⟩
theorem TbM.base {w : World} {p : Nat} {ev mv : Value} {L : List Nd} (h : TbM w p ev mv L) : ∀ b, TbS p ev mv b → p ≤ b := by
  rintro b (rfl | hb | hb)
  · exact Nat.le_refl _
  · have := (rw_block h.on hb).1; omega
  · rcases h.ids with ⟨h1, _⟩ | ⟨B, h1, h2, _⟩
    · rw [h1] at hb; cases hb
    · rw [h1] at hb; cases hb; omega
/-- How many entries a row's value holds. -/
def lenV : Value → Nat
  | .slice _ n _ => n
  | _ => 0
/-- What a call leaves that may turn the table. -/
structure TbT (w : World) (p : Nat) (ev mv ev' mv' : Value) (L' : List Nd) (w' : World) : Prop where
  tb : TbM w' p ev' mv' L'
  tk : Tk (TbS p ev mv) w w'
  yo : ∀ b, TbS p ev' mv' b → TbS p ev mv b ∨ w.heap.size ≤ b
  mp : ∀ B, mv = .map (some B) → mv' = .map (some B)
  gr : lenV ev ≤ lenV ev'
  st : ∀ g, ev.ownBlock = some g → p < g → ∀ j u, j < lenV ev * 7 → w.cell? ⟨g, j, none⟩ = some u → w'.cell? ⟨g, j, none⟩ = some u
theorem TbT.below {w w' : World} {p : Nat} {ev mv ev' mv' : Value} {L L' : List Nd} (h : TbT w p ev mv ev' mv' L' w') (hm : TbM w p ev mv L) : Below p w w' := h.tk.below (by have := hm.lt; omega) hm.base
theorem TbT.trans {w w' w'' : World} {p : Nat} {ev mv ev' mv' ev'' mv'' : Value} {L' L'' : List Nd} (h : TbT w p ev mv ev' mv' L' w') (k : TbT w' p ev' mv' ev'' mv'' L'' w'') : TbT w p ev mv ev'' mv'' L'' w'' :=
  ⟨k.tb, h.tk.trans k.tk h.yo, fun b hb => by
    rcases k.yo b hb with h1 | h1
    · exact h.yo b h1
    · right; have := h.tk.size; omega, fun B e => k.mp B (h.mp B e), Nat.le_trans h.gr k.gr, fun g hg hpg j u hj hu => by
    have h1 := h.st g hg hpg j u hj hu
    by_cases he : ev'.ownBlock = some g
    · exact k.st g he hpg j u (Nat.lt_of_lt_of_le hj (Nat.mul_le_mul_right 7 h.gr)) h1
    · have hne : ¬ TbS p ev' mv' g := by
        rintro (e | e | e)
        · omega
        · exact he e
        · rcases h.tb.ids with ⟨h2, _⟩ | ⟨B, h2, _, h3⟩
          · rw [h2] at e; cases e
          · rw [h2] at e
            cases e
            obtain ⟨es, c, h4⟩ := h3.obj
            simp [World.cell?, h4] at h1
      have h2 := k.tk.same g (World.block_lt_of_cell? w' _ h1) hne
      simp only [World.cell?] at h1 ⊢
      rw [h2]
      exact h1⟩
theorem TbT.of_below {w w' : World} {p : Nat} {ev mv : Value} {L : List Nd} (h : TbM w p ev mv L) (hb : Below w.heap.size w w') : TbT w p ev mv ev mv L w' := ⟨h.below hb, Tk.of_below hb, fun b hb => .inl hb, fun B e => e, Nat.le_refl _, fun g _ _ j u _ hu => (hb.cell (p := ⟨g, j, none⟩) (World.block_lt_of_cell? w _ hu)).trans hu⟩
end Go.Proofs.YtlbmijcpalfaeaaGreatDoor
