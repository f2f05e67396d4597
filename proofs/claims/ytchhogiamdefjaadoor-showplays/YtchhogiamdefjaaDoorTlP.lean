/-
  The texts of the nodes in memory while they are told.
-/
import Derived.Test.YtchhogiamdefjaaDoorBtW
import Derived.Test.YtchhogiamdefjaaDoorLfW
import Derived.Test.YtchhogiamdefjaaDoorSndW
set_option linter.unusedSimpArgs false
set_option linter.unusedVariables false
namespace Go.Proofs.YtchhogiamdefjaaDoor
open Go.RowKit Go.Lib

/-- The tables that Show and Lisp read. -/
structure Tb5 (w : World) : Prop where
  wr : WrCells w
  pw : Pows w
  sp : SpanCells w
theorem Tb5.below {w w' : World} (h : Tb5 w) (hb : Below w.heap.size w w') : Tb5 w' := ⟨h.wr.below hb, h.pw.below hb, h.sp.below hb⟩

theorem op_of_form {x : Nd} (h : formB (fillN x) = true) : 1 ≤ x.op ∧ x.op ≤ 18 := by
  unfold formB fitB at h
  simp only [Bool.and_eq_true, decide_eq_true_eq] at h
  have h0 := h.1.1.1
  unfold aritI at h0
  by_cases e : x.op = 18
  · omega
  · have e2 : (fillN x).op = x.op := by simp [fillN, e]
    rw [e2] at h0
    split at h0
    · omega
    · split at h0
      · omega
      · split at h0
        · omega
        · split at h0
          · omega
          · omega

theorem getD_append_left {α : Type} (a b : List α) (d : α) (i : Nat) (h : i < a.length) : (a ++ b).getD i d = a.getD i d := by
  simp only [List.getD_eq_getElem?_getD]; rw [List.getElem?_append_left h]

/-! ### five cells set -/
def set5T (w : World) (G o : Nat) (v0 v1 v2 v3 v4 : Value) : World := ((((w.setCell ⟨G, o, none⟩ v0).setCell ⟨G, o + 1, none⟩ v1).setCell ⟨G, o + 2, none⟩ v2).setCell ⟨G, o + 3, none⟩ v3).setCell ⟨G, o + 4, none⟩ v4
theorem below_set5T {B : Nat} {w0 w : World} {G : Nat} (h : Below B w0 w) (hB : B ≤ G) (o : Nat) (v0 v1 v2 v3 v4 : Value) : Below B w0 (set5T w G o v0 v1 v2 v3 v4) :=
  ((((h.setCell (p := ⟨G, o, none⟩) hB _).setCell (p := ⟨G, o + 1, none⟩) hB _).setCell (p := ⟨G, o + 2, none⟩) hB _).setCell (p := ⟨G, o + 3, none⟩) hB _).setCell (p := ⟨G, o + 4, none⟩) hB _
theorem list_set5 (a : List Value) (r0 r1 r2 r3 r4 : Value) (r : List Value) (v0 v1 v2 v3 v4 : Value) :
    (((((a ++ r0 :: r1 :: r2 :: r3 :: r4 :: r).set a.length v0).set (a.length + 1) v1).set (a.length + 2) v2).set (a.length + 3) v3).set (a.length + 4) v4 = a ++ v0 :: v1 :: v2 :: v3 :: v4 :: r := by
  induction a with
  | nil => rfl
  | cons x a ih =>
    simp only [List.cons_append, List.length_cons]
    have e : ∀ j, a.length + 1 + j = (a.length + j) + 1 := fun j => by omega
    rw [e 1, e 2, e 3, e 4]
    simp only [List.set_cons_succ]
    rw [ih]
theorem OwnT.set5 {w : World} {base G cap n : Nat} {q : List ((Nd × ByteArray) × Value)} {rest : List Value} (h : OwnT w base (.slice (some ⟨G, 0, none⟩) n cap) n q rest) (hr : 5 ≤ rest.length) (x : Nd) (s : ByteArray) (ka : Option Addr) (kn kc : Nat) :
    OwnT (set5T w G (q.length * 5) (.int .i64 x.op) (.int .i64 x.n) (.string x.name) (.slice ka kn kc) (.string s)) base (.slice (some ⟨G, 0, none⟩) n cap) n (q ++ [((x, s), .slice ka kn kc)]) (rest.drop 5) := by
  obtain ⟨h1, h2⟩ := h
  match rest, hr with
  | r0 :: r1 :: r2 :: r3 :: r4 :: r, _ =>
    have hl : (ptCells q).length = q.length * 5 := ptCells_length q
    have hL : (ptCells q ++ r0 :: r1 :: r2 :: r3 :: r4 :: r).length = q.length * 5 + 5 + r.length := by rw [List.length_append, hl]; simp; omega
    have k0 := own_put h1 (i := q.length * 5) (u := .int .i64 x.op) (by omega)
    have k1 := own_put k0 (i := q.length * 5 + 1) (u := .int .i64 x.n) (by simp only [List.length_set]; omega)
    have k2 := own_put k1 (i := q.length * 5 + 2) (u := .string x.name) (by simp only [List.length_set]; omega)
    have k3 := own_put k2 (i := q.length * 5 + 3) (u := .slice ka kn kc) (by simp only [List.length_set]; omega)
    have k4 := own_put k3 (i := q.length * 5 + 4) (u := .string s) (by simp only [List.length_set]; omega)
    refine ⟨?_, fun y hy => ?_⟩
    · have e := list_set5 (ptCells q) r0 r1 r2 r3 r4 r (.int .i64 x.op) (.int .i64 x.n) (.string x.name) (.slice ka kn kc) (.string s)
      rw [hl] at e
      rw [e] at k4
      have e2 : ptCells (q ++ [((x, s), .slice ka kn kc)]) ++ (r0 :: r1 :: r2 :: r3 :: r4 :: r).drop 5 = ptCells q ++ .int .i64 x.op :: .int .i64 x.n :: .string x.name :: .slice ka kn kc :: .string s :: r := by
        rw [ptCells_append, List.append_assoc]; rfl
      rw [e2]; exact k4
    · rcases List.mem_append.1 hy with hy | hy
      · exact h2 y hy
      · simp at hy; subst hy; exact ⟨ka, kn, kc, rfl⟩

/-! ### the outer loop -/
structure TlMid (w1 : World) (J : JT) (l : List Nd) (k : Nat) (wr : World) : Prop where
  own : ∃ q rest, q.map (·.1) = tlL J (l.take k) ∧ OwnT wr w1.heap.size (.slice (some ⟨w1.heap.size, 0, none⟩) l.length l.length) l.length q rest ∧ rest.length = (l.length - k) * 5
  below : Below w1.heap.size w1 wr
theorem TlMid.pt {w1 : World} {J : JT} {l : List Nd} {k : Nat} {wr : World} (h : TlMid w1 J l k wr) (hk : k ≤ l.length) {j : Nat} (hj : j < k) : w1.heap.size < wr.heap.size ∧ PtAt wr w1.heap.size (j * 5) ((tlL J (l.take k)).getD j pt0) := by
  obtain ⟨⟨q, rest, hq, hO, hr⟩, _⟩ := h
  have hl : q.length = k := by have := congrArg List.length hq; rw [tlL_len] at this; simp at this; omega
  obtain ⟨ao, cap, e, _, _, h3⟩ := hO.pts (by omega)
  cases e
  rcases h3 with h3 | ⟨b, e, hb, _, hc⟩
  · subst h3; simp at hl; omega
  · cases e
    have := hc j (by omega)
    rw [hq] at this
    exact ⟨hb, this⟩
theorem TlMid.lt {w1 : World} {J : JT} {l : List Nd} {k : Nat} {wr : World} (h : TlMid w1 J l k wr) (hl : 0 < l.length) : w1.heap.size < wr.heap.size := by
  obtain ⟨⟨q, rest, hq, hO, hr⟩, _⟩ := h
  rcases hO.1.2 with ⟨e, _⟩ | ⟨g, cap, cur, e, _, hg, _⟩
  · simp at e
  · cases e; exact lt_of_block hg
/-- Where the next is stored. -/
theorem TlMid.free {w1 : World} {J : JT} {l : List Nd} {k : Nat} {wr : World} (h : TlMid w1 J l k wr) (hk : k < l.length) : (∀ i, i < 5 → ∃ u, wr.cell? ⟨w1.heap.size, k * 5 + i, none⟩ = some u) ∧ ∀ i, wr.frozen? ⟨w1.heap.size, i, none⟩ = false := by
  obtain ⟨⟨q, rest, hq, hO, hr⟩, _⟩ := h
  have hl : q.length = k := by have := congrArg List.length hq; rw [tlL_len] at this; simp at this; omega
  obtain ⟨h1, h2⟩ := hO.1
  rcases h2 with ⟨e, _⟩ | ⟨g, cap, cur, e, _, hg, hn, _, hs, ht⟩
  · simp at e
  · cases e
    refine ⟨fun i hi => ?_, fun i => frozen_of_heap hg i⟩
    have hi2 : k * 5 + i < cur.size := by rw [hs]; omega
    exact ⟨cur[k * 5 + i], by rw [cell_of_heap hg]; simp [hi2]⟩
theorem TlMid.up {w1 : World} {J : JT} {l : List Nd} {k : Nat} {wr w' : World} (h : TlMid w1 J l k wr) (hb : Below wr.heap.size wr w') : TlMid w1 J l k w' := by
  obtain ⟨⟨q, rest, hq, hO, hr⟩, hbl⟩ := h
  exact ⟨⟨q, rest, hq, hO.below hb, hr⟩, hbl.trans (hb.mono hbl.size)⟩
theorem TlMid.store {w1 : World} {J : JT} {l : List Nd} {k : Nat} {wr : World} (h : TlMid w1 J l k wr) (hk : k < l.length) (ka : Option Addr) (kn kc : Nat) :
    TlMid w1 J l (k + 1) (set5T wr w1.heap.size (k * 5) (.int .i64 (l.getD k nd0).op) (.int .i64 (l.getD k nd0).n) (.string (l.getD k nd0).name) (.slice ka kn kc) (.string (ndT J (tlL J (l.take k)) (l.getD k nd0)))) := by
  obtain ⟨⟨q, rest, hq, hO, hr⟩, hbl⟩ := h
  have hl : q.length = k := by have := congrArg List.length hq; rw [tlL_len] at this; simp at this; omega
  have h5 := hO.set5 (by omega) (l.getD k nd0) (ndT J (tlL J (l.take k)) (l.getD k nd0)) ka kn kc
  rw [hl] at h5
  exact ⟨⟨_, _, by rw [List.map_append, hq, tlL_take hk]; rfl, h5, by rw [List.length_drop]; omega⟩, below_set5T hbl (Nat.le_refl _) _ _ _ _ _ _⟩

/-! ### the inner loop -/
structure KdMid (wo : World) (told : List (Nd × ByteArray)) (ks : List Int) (j : Nat) (v : Value) (wq : World) : Prop where
  own : ∃ q, q.map (·.1) = kidsP told (ks.take j) ∧ OwnT wq wo.heap.size v q.length q [] ∧ q.length = j
  below : Below wo.heap.size wo wq
theorem KdMid.start (wo : World) (told : List (Nd × ByteArray)) (ks : List Int) : KdMid wo told ks 0 (.slice none 0 0) wo :=
  ⟨⟨[], rfl, ⟨World.ownsRow_nil _ _ _ _, by simp⟩, rfl⟩, Below.refl _ _⟩
theorem kids_take (told : List (Nd × ByteArray)) (ks : List Int) (j : Nat) (h : j < ks.length) : kidsP told (ks.take (j + 1)) = kidsP told (ks.take j) ++ [told.getD (ks.getD j 0).toNat pt0] := by
  unfold kidsP
  rw [List.take_succ_eq_append_getElem h, List.map_append]
  simp [h]
theorem cell_news5 (w : World) (a b c d e : Value) (t : TypeId) (H : Nat) (hH : w.heap.size = H) : ∀ j u, [a, b, c, d, e][j]? = some u → (w.alloc (.cells #[a, b, c, d, e] t)).cell? ((⟨H, 0, none⟩ : Addr).add j) = some u := by
  subst hH
  intro j u hj
  rw [Go.WideShapes.add_plain, Nat.zero_add]
  match j, hj with
  | 0, hj => simpa using hj
  | 1, hj => simpa using hj
  | 2, hj => simpa using hj
  | 3, hj => simpa using hj
  | 4, hj => simpa using hj
theorem Tryd.infoPart : (Tryd.prog.info? 86).map (fun i => (i.zero, i.size, i.bytes)) = some (some (.agg #[.int .i64 0, .int .i64 0, .string ⟨#[]⟩, .slice none 0 0, .string ⟨#[]⟩]), 5, 72) := by kernel_rfl
theorem KdMid.app {wo : World} {told : List (Nd × ByteArray)} {ks : List Int} {j : Nat} {v : Value} {wq w6 : World} {o : Obj} {q : List ((Nd × ByteArray) × Value)} {g cap : Nat} {x : Nd} {s : ByteArray} {ka : Option Addr} {kn kc : Nat} (hb : Below wo.heap.size wo wq) (hj : j < ks.length)
    (hq : q.map (·.1) = kidsP told (ks.take j)) (hO : OwnT wq wo.heap.size v q.length q []) (hl : q.length = j) (hx : told.getD (ks.getD j 0).toNat pt0 = (x, s))
    (hown : w6.ownsRow wo.heap.size 86 5 (.slice (some ⟨g, 0, none⟩) (q.length + 1) cap) (q.length + 1) (ptCells q ++ [] ++ [.int .i64 x.op, .int .i64 x.n, .string x.name, .slice ka kn kc, .string s])) (hg : (wq.alloc o).grownBy w6 v.ownBlock) : KdMid wo told ks (j + 1) (.slice (some ⟨g, 0, none⟩) (j + 1) cap) w6 := by
  have hs := hb.size
  subst hl
  refine ⟨⟨q ++ [((x, s), .slice ka kn kc)], ?_, ⟨?_, fun y hy => ?_⟩, by simp⟩, (hb.alloc hs _).grown hg (by simp; omega) (fun k hk => (own_block' hO.1 k hk).1)⟩
  · rw [List.map_append, hq, kids_take told ks _ hj, hx]; rfl
  · have e : ptCells (q ++ [((x, s), .slice ka kn kc)]) ++ [] = ptCells q ++ [] ++ [.int .i64 x.op, .int .i64 x.n, .string x.name, .slice ka kn kc, .string s] := by rw [ptCells_append]; simp [ptCells]
    have e2 : (q ++ [((x, s), Value.slice ka kn kc)]).length = q.length + 1 := by simp
    rw [e, e2]; exact hown
  · rcases List.mem_append.1 hy with hy | hy
    · exact hO.2 y hy
    · simp at hy; subst hy; exact ⟨ka, kn, kc, rfl⟩
theorem KdMid.read {wo : World} {told : List (Nd × ByteArray)} {ks : List Int} {v : Value} {wq : World} (h : KdMid wo told ks ks.length v wq) : ∃ ao cap, v = .slice ao ks.length cap ∧ Pts wq ao cap (kidsP told ks) := by
  obtain ⟨⟨q, hq, hO, hl⟩, _⟩ := h
  obtain ⟨ao, cap, e, hP⟩ := hO.read
  rw [hq, List.take_length] at hP
  rw [hl] at e
  exact ⟨ao, cap, e, hP⟩
end Go.Proofs.YtchhogiamdefjaaDoor
