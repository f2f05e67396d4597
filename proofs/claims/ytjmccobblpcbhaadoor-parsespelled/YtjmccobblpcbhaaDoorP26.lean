/-
  SnW, TlP, TlW, RfP.
-/
import Derived.Shelf.Unicode.DecodeSlow
import Derived.Laws.RangeAny
import Derived.Shelf.Strings.Builder1
import Derived.Shelf.Small.Utf8
import Derived.Shelf.Small.Bits
import Derived.Shelf.Strings.BuilderF
import Derived.Shelf.Strings.BuilderK
import Derived.Shelf.Strings.BuilderRune
import Derived.Shelf.Utf8.AppendRune
import Derived.Shelf.Strconv.Itoa0
import Derived.Shelf.Strconv.Itoa1
import Derived.Shelf.LaysM
import Derived.Shelf.Strconv.Itoa2
import Derived.Shelf.Strconv.Itoa3
import Derived.Shelf.Strconv.Itoa4
import Derived.Shelf.Strings.Prefix
import Derived.Shelf.Unicode.DecodeAny
import Derived.Test.YtjmccobblpcbhaaDoorProg
import Derived.WalkKit
import Derived.Deep.DeepFit
import Derived.Lib.OthersKept
import Derived.Lib.RuneCountTail
import Derived.Deep.AppendLies
import Derived.Deep.OwnRows
import Derived.Laws.AppendOwnNone
import Derived.Deep.QuietTactic
import Derived.BigQuiet
import Derived.Deep.RegionWith
import Derived.Laws.DeepStrings4
import Derived.Lib.QuietBelow
import Derived.StillTail
import Derived.Lib.MapLaws
import Derived.Sort.Walk0
import Derived.Lib.ItoaNum
import Derived.Maps.OwnSet
import Derived.StringKeys
import Derived.BigCall
import Derived.Lib.LaidTab
import Derived.Deep.Slices
import Derived.Laws.OwnMore
import Derived.Test.YtjmccobblpcbhaaDoorP01
import Derived.Test.YtjmccobblpcbhaaDoorP02
import Derived.Test.YtjmccobblpcbhaaDoorP04
import Derived.Test.YtjmccobblpcbhaaDoorP05
import Derived.Test.YtjmccobblpcbhaaDoorP06
import Derived.Test.YtjmccobblpcbhaaDoorP07
import Derived.Test.YtjmccobblpcbhaaDoorP08
import Derived.Test.YtjmccobblpcbhaaDoorP11
import Derived.Test.YtjmccobblpcbhaaDoorP12
import Derived.Test.YtjmccobblpcbhaaDoorP16
import Derived.Test.YtjmccobblpcbhaaDoorP17
import Derived.Test.YtjmccobblpcbhaaDoorP25
set_option linter.unusedSimpArgs false
set_option linter.unusedVariables false
namespace Go.Proofs.YtjmccobblpcbhaaDoor
open Go.RowKit Go.Lib Go.Maps Go.Deep

/-- Nodes of the call's own whose kids are others'. -/
structure ClN (w : World) (base B : Nat) (v : Value) (p : List (Nd × Value)) : Prop where
  row : w.ownsRow base 60 4 v p.length (ndCells p)
  kids : ∀ q ∈ p, Ints w B q.2 q.1.kids
theorem ClN.nodes {w : World} {base B C : Nat} {v : Value} {p : List (Nd × Value)} (h : ClN w base B v p) (hB : w.heap.size ≤ C) (hC : B ≤ C) : Nodes w C v (p.map (·.1)) := by
  obtain ⟨h1, h2⟩ := h.row
  rcases h2 with ⟨rfl, h0⟩ | ⟨g, cap, cur, rfl, hb, hg, hn, hm, hs, ht⟩
  · have : p = [] := List.length_eq_zero_iff.1 h0
    subst this
    exact ⟨none, 0, rfl, by simp, by simp, .inl rfl⟩
  · refine ⟨_, cap, by simp, by simpa using hn, hm, .inr ⟨g, 0, rfl, ?_, fun i hi => ?_⟩⟩
    · have := lt_of_block hg; omega
    · simp at hi
      have hp : p[i]? = some (p[i].1, p[i].2) := by simp [hi]
      have hx : (p.map (·.1)).getD i nd0 = p[i].1 := by simp [hi]
      obtain ⟨a0, a1, a2, a3⟩ := ndCells_at p i _ _ hp
      have hc : ∀ j, j < p.length * 4 → w.cell? ⟨g, j, none⟩ = (ndCells p)[j]? := by
        intro j hj
        have : w.cell? ⟨g, j, none⟩ = cur[j]? := by simp [World.cell?, hg]
        rw [this, ← Array.getElem?_toList, ← ht, List.getElem?_take, if_pos (by omega)]
      rw [hx]
      refine ⟨p[i].2, ?_, ?_, ?_, ?_, ?_⟩
      · rw [Nat.zero_add, hc _ (by omega), a0]
      · rw [Nat.zero_add, hc _ (by omega), a1]
      · rw [Nat.zero_add, hc _ (by omega), a2]
      · rw [Nat.zero_add, hc _ (by omega), a3]
      · exact (h.kids p[i] (by simp)).mono hC

theorem ndCells_op (p : List (Nd × Value)) (k : Nat) (x : Nd) (kv : Value) (z : Int) (h : p[k]? = some (x, kv)) : ndCells (p.set k ({ x with op := z }, kv)) = (ndCells p).set (k * 4) (.int .i64 z) := by
  induction p generalizing k with
  | nil => simp at h
  | cons a r ih =>
    obtain ⟨y, kw⟩ := a
    cases k with
    | zero =>
      simp at h
      obtain ⟨rfl, rfl⟩ := h
      simp [ndCells]
    | succ k =>
      have := ih k (by simpa using h)
      have e : (k + 1) * 4 = k * 4 + 4 := by omega
      rw [e]
      simp [ndCells, this]

/-- Between two nodes: those ahead of k are filled. -/
structure SnMid (w : World) (l : List Nd) (M : Nat) (v : Value) (k : Nat) (wr : World) : Prop where
  p : ∃ p, p.map (·.1) = (l.take k).map fillN ++ l.drop k ∧ ClN wr w.heap.size w.heap.size v p
  map : ∃ n, n ≤ k ∧ CntM wr M n (hlsL (l.take k))
  below : Below w.heap.size w wr
  le : w.heap.size ≤ M

theorem fill_step {l : List Nd} {k : Nat} (hk : k < l.length) (h : (l.getD k nd0).op ≠ 18) : (l.take (k + 1)).map fillN ++ l.drop (k + 1) = (l.take k).map fillN ++ l.drop k := by
  rw [List.take_succ_eq_append_getElem hk, List.map_append, List.drop_eq_getElem_cons hk]
  have e : l.getD k nd0 = l[k] := by simp [hk]
  rw [e] at h
  simp [fillN, h]
theorem SnMid.skip {w : World} {l : List Nd} {M : Nat} {v : Value} {k : Nat} {wr : World} (h : SnMid w l M v k wr) (hk : k < l.length) (hop : (l.getD k nd0).op ≠ 18) (o : Obj) : SnMid w l M v (k + 1) (wr.alloc o) := by
  obtain ⟨⟨p, hp, hc⟩, ⟨n, hn, hm⟩, hb, hle⟩ := h
  have hs := hb.size
  refine ⟨⟨p, by rw [fill_step hk hop]; exact hp, hc.row.alloc _, fun q hq => (hc.kids q hq).below (((Below.refl _ _).alloc hs _)) (Nat.le_refl _)⟩, ⟨n, by omega, ?_⟩, hb.alloc hs _, hle⟩
  have e : hlsL (l.take (k + 1)) = hlsL (l.take k) := by
    rw [List.take_succ_eq_append_getElem hk, hlsL_snoc]
    have e : l.getD k nd0 = l[k] := by simp [hk]
    rw [e] at hop
    simp [addNm, hop]
  rw [e]; exact hm.alloc _

/-- The cell that is set. -/
theorem SnMid.at_ {w : World} {l : List Nd} {M : Nat} {v : Value} {k : Nat} {wr : World} (h : SnMid w l M v k wr) (hk : k < l.length) : ∃ g cap, v = .slice (some ⟨g, 0, none⟩) l.length cap ∧ w.heap.size ≤ g ∧ g < wr.heap.size ∧ g ≠ M ∧ l.length ≤ cap ∧ cap ≤ maxLen ∧ (∃ c, wr.cell? ⟨g, k * 4, none⟩ = some (.int .i64 c)) ∧ wr.frozen? ⟨g, k * 4, none⟩ = false := by
  obtain ⟨⟨p, hp, hc⟩, ⟨n, hn, hm⟩, hb, hle⟩ := h
  have hpl : p.length = l.length := by have := congrArg List.length hp; simp at this; omega
  rcases hc.row.2 with ⟨rfl, h0⟩ | ⟨g, cap, cur, rfl, hg0, hg, h1, h2, h3, h4⟩
  · omega
  · refine ⟨g, cap, by rw [hpl], hg0, lt_of_block hg, ?_, by omega, h2, ?_, frozen_of_heap hg _⟩
    · rintro rfl
      obtain ⟨D, ⟨es, c, h5, _⟩, _⟩ := hm
      rw [hg] at h5; cases h5
    · have hp2 : p[k]? = some (p[k].1, p[k].2) := by simp [hpl, hk]
      have := (ndCells_at p k _ _ hp2).1
      refine ⟨p[k].1.op, ?_⟩
      rw [cell_of_heap hg, ← Array.getElem?_toList, ← this, ← h4, List.getElem?_take, if_pos (by omega)]

theorem SnMid.fill {w : World} {l : List Nd} {M : Nat} {g cap : Nat} {k : Nat} {wr w' : World} {o : Obj} {n : Nat} (h : SnMid w l M (.slice (some ⟨g, 0, none⟩) l.length cap) k wr) (hk : k < l.length) (hop : (l.getD k nd0).op = 18) (hn : n ≤ k)
    (hm : CntM w' M (n + 1) (if (hlsL (l.take k)).any (fun y => decide (y = (l.getD k nd0).name)) = true then hlsL (l.take k) else hlsL (l.take k) ++ [(l.getD k nd0).name])) (hg : (wr.alloc o).grownBy w' (some M)) : SnMid w l M (.slice (some ⟨g, 0, none⟩) l.length cap) (k + 1) (w'.setCell ⟨g, k * 4, none⟩ (.int .i64 2)) := by
  obtain ⟨g', cap', e1, hg0, hgl, hgM, _⟩ := h.at_ hk
  cases e1
  obtain ⟨⟨p, hp, hc⟩, _, hb, hle⟩ := h
  have hs := hb.size
  have hpl : p.length = l.length := by have := congrArg List.length hp; simp at this; omega
  have hbA : Below w.heap.size w (wr.alloc o) := hb.alloc hs _
  have hb' : Below w.heap.size w w' := hbA.grown hg (by simp; omega) (fun k hk => by cases hk; exact hle)
  have hb2 : Below w.heap.size wr w' := ((Below.refl _ _).alloc hs _).grown hg (by simp; omega) (fun k hk => by cases hk; exact hle)
  have e : l.getD k nd0 = l[k] := by simp [hk]
  have hx : ((l.take k).map fillN ++ l.drop k)[k]? = some l[k] := by
    rw [List.getElem?_append_right (by simp; omega)]
    have : k - ((l.take k).map fillN).length = 0 := by simp; omega
    rw [this]; simp [hk]
  have hpk : p[k]? = some (l[k], (p.getD k (nd0, .slice none 0 0)).2) := by
    have hkp : k < p.length := by omega
    have : (p.map (·.1))[k]? = some l[k] := by rw [hp]; exact hx
    simp [hkp] at this
    simp [hkp, ← this]
  have hrow : w'.ownsRow w.heap.size 60 4 (.slice (some ⟨g, 0, none⟩) l.length cap) l.length (ndCells p) := by
    have h1 := World.ownsRow.kept (hc.row.alloc o) hg (.inr (by simp [Value.ownBlock]; exact hgM))
    rw [hpl] at h1; exact h1
  have hfl : fillN l[k] = { l[k] with op := 2 } := by rw [e] at hop; simp [fillN, hop]
  refine ⟨⟨p.set k ({ l[k] with op := 2 }, (p.getD k (nd0, .slice none 0 0)).2), ?_, ?_, ?_⟩, ⟨n + 1, by omega, ?_⟩, hb'.setCell (p := ⟨g, k * 4, none⟩) hg0 _, hle⟩
  · rw [List.map_set, hp, ← hfl]
    rw [List.take_succ_eq_append_getElem hk, List.map_append, List.set_append_right _ _ (by simp; omega)]
    have : k - ((l.take k).map fillN).length = 0 := by simp; omega
    rw [this, List.drop_eq_getElem_cons hk, List.set_cons_zero, List.append_assoc]
    rfl
  · rw [ndCells_op p k _ _ 2 hpk, List.length_set, hpl]
    exact own_put hrow (by rw [ndCells_length]; omega)
  · intro q hq
    have hin : ∀ q ∈ p, Ints (w'.setCell ⟨g, k * 4, none⟩ (.int .i64 2)) w.heap.size q.2 q.1.kids := fun q hq => (hc.kids q hq).below (hb2.setCell (p := ⟨g, k * 4, none⟩) hg0 _) (Nat.le_refl _)
    rcases List.mem_or_eq_of_mem_set hq with hq | rfl
    · exact hin q hq
    · exact hin (l[k], _) (List.mem_of_getElem? hpk)
  · have e2 : hlsL (l.take (k + 1)) = addNm (hlsL (l.take k)) (l.getD k nd0) := by rw [List.take_succ_eq_append_getElem hk, hlsL_snoc, e]
    have e3 : addNm (hlsL (l.take k)) (l.getD k nd0) = if (hlsL (l.take k)).any (fun y => decide (y = (l.getD k nd0).name)) = true then hlsL (l.take k) else hlsL (l.take k) ++ [(l.getD k nd0).name] := by unfold addNm; rw [if_pos hop]
    rw [e2, e3]
    exact hm.setCell (by show M ≠ g; omega) _
end Go.Proofs.YtjmccobblpcbhaaDoor

set_option linter.unusedSimpArgs false
set_option linter.unusedVariables false
namespace Go.Proofs.YtjmccobblpcbhaaDoor
open Go.RowKit Go.Lib

/-- The tables that Show and Lisp read. -/
structure Tb5 (w : World) : Prop where
  wr : WrCells w
  pw : Pows w
  sp : SpanCells w
theorem Tb5.below {w w' : World} (h : Tb5 w) (hb : Below w.heap.size w w') : Tb5 w' := ⟨h.wr.below hb, h.pw.below hb, h.sp.below hb⟩

theorem op_of_form {x : Nd} (h : formB (fillN x) = true) : 1 ≤ x.op ∧ x.op ≤ 18 := by
  unfold formB fitB at h
  simp only [Bool.and_eq_true, decide_eq_true_eq] at h
  have h0 := h.1.1.1
  unfold aritI at h0
  by_cases e : x.op = 18
  · omega
  · have e2 : (fillN x).op = x.op := by simp [fillN, e]
    rw [e2] at h0
    split at h0
    · omega
    · split at h0
      · omega
      · split at h0
        · omega
        · split at h0
          · omega
          · omega

theorem getD_append_left {α : Type} (a b : List α) (d : α) (i : Nat) (h : i < a.length) : (a ++ b).getD i d = a.getD i d := by
  simp only [List.getD_eq_getElem?_getD]; rw [List.getElem?_append_left h]

/-! ### five cells set -/
/-! ### the outer loop -/
structure TlMid (w1 : World) (J : JT) (l : List Nd) (k : Nat) (wr : World) : Prop where
  own : ∃ q rest, q.map (·.1) = tlL J (l.take k) ∧ OwnT wr w1.heap.size (.slice (some ⟨w1.heap.size, 0, none⟩) l.length l.length) l.length q rest ∧ rest.length = (l.length - k) * 5
  below : Below w1.heap.size w1 wr
theorem TlMid.lt {w1 : World} {J : JT} {l : List Nd} {k : Nat} {wr : World} (h : TlMid w1 J l k wr) (hl : 0 < l.length) : w1.heap.size < wr.heap.size := by
  obtain ⟨⟨q, rest, hq, hO, hr⟩, _⟩ := h
  rcases hO.1.2 with ⟨e, _⟩ | ⟨g, cap, cur, e, _, hg, _⟩
  · simp at e
  · cases e; exact lt_of_block hg
theorem TlMid.up {w1 : World} {J : JT} {l : List Nd} {k : Nat} {wr w' : World} (h : TlMid w1 J l k wr) (hb : Below wr.heap.size wr w') : TlMid w1 J l k w' := by
  obtain ⟨⟨q, rest, hq, hO, hr⟩, hbl⟩ := h
  exact ⟨⟨q, rest, hq, hO.below hb, hr⟩, hbl.trans (hb.mono hbl.size)⟩
/-! ### the inner loop -/
structure KdMid (wo : World) (told : List (Nd × ByteArray)) (ks : List Int) (j : Nat) (v : Value) (wq : World) : Prop where
  own : ∃ q, q.map (·.1) = kidsP told (ks.take j) ∧ OwnT wq wo.heap.size v q.length q [] ∧ q.length = j
  below : Below wo.heap.size wo wq
theorem KdMid.start (wo : World) (told : List (Nd × ByteArray)) (ks : List Int) : KdMid wo told ks 0 (.slice none 0 0) wo :=
  ⟨⟨[], rfl, ⟨World.ownsRow_nil _ _ _ _, by simp⟩, rfl⟩, Below.refl _ _⟩
theorem kids_take (told : List (Nd × ByteArray)) (ks : List Int) (j : Nat) (h : j < ks.length) : kidsP told (ks.take (j + 1)) = kidsP told (ks.take j) ++ [told.getD (ks.getD j 0).toNat pt0] := by
  unfold kidsP
  rw [List.take_succ_eq_append_getElem h, List.map_append]
  simp [h]
theorem KdMid.app {wo : World} {told : List (Nd × ByteArray)} {ks : List Int} {j : Nat} {v : Value} {wq w6 : World} {o : Obj} {q : List ((Nd × ByteArray) × Value)} {g cap : Nat} {x : Nd} {s : ByteArray} {ka : Option Addr} {kn kc : Nat} (hb : Below wo.heap.size wo wq) (hj : j < ks.length)
    (hq : q.map (·.1) = kidsP told (ks.take j)) (hO : OwnT wq wo.heap.size v q.length q []) (hl : q.length = j) (hx : told.getD (ks.getD j 0).toNat pt0 = (x, s))
    (hown : w6.ownsRow wo.heap.size 141 5 (.slice (some ⟨g, 0, none⟩) (q.length + 1) cap) (q.length + 1) (ptCells q ++ [] ++ [.int .i64 x.op, .int .i64 x.n, .string x.name, .slice ka kn kc, .string s])) (hg : (wq.alloc o).grownBy w6 v.ownBlock) : KdMid wo told ks (j + 1) (.slice (some ⟨g, 0, none⟩) (j + 1) cap) w6 := by
  have hs := hb.size
  subst hl
  refine ⟨⟨q ++ [((x, s), .slice ka kn kc)], ?_, ⟨?_, fun y hy => ?_⟩, by simp⟩, (hb.alloc hs _).grown hg (by simp; omega) (fun k hk => (own_block' hO.1 k hk).1)⟩
  · rw [List.map_append, hq, kids_take told ks _ hj, hx]; rfl
  · have e : ptCells (q ++ [((x, s), .slice ka kn kc)]) ++ [] = ptCells q ++ [] ++ [.int .i64 x.op, .int .i64 x.n, .string x.name, .slice ka kn kc, .string s] := by rw [ptCells_append]; simp [ptCells]
    have e2 : (q ++ [((x, s), Value.slice ka kn kc)]).length = q.length + 1 := by simp
    rw [e, e2]; exact hown
  · rcases List.mem_append.1 hy with hy | hy
    · exact hO.2 y hy
    · simp at hy; subst hy; exact ⟨ka, kn, kc, rfl⟩
end Go.Proofs.YtjmccobblpcbhaaDoor

set_option linter.unusedSimpArgs false
set_option linter.unusedVariables false
namespace Go.Proofs.YtjmccobblpcbhaaDoor
open Go.RowKit Go.Lib Go.Sort

theorem tl_ops (J : JT) (l : List Nd) (fr : List Nat) (hb : begL (l.map fillN) = some fr) : ∀ k, k ≤ l.length → ∀ j, j < k → 0 ≤ ((tlL J (l.take k)).getD j pt0).1.op ∧ ((tlL J (l.take k)).getD j pt0).1.op < 19
  | 0, _, j, hj => by omega
  | k + 1, hk, j, hj => by
    rw [tlL_take (by omega)]
    have hl : (tlL J (l.take k)).length = k := by rw [tlL_len]; simp; omega
    by_cases e : j < k
    · rw [getD_append_left _ _ _ _ (by omega)]
      exact tl_ops J l fr hb k (by omega) j e
    · have : j = k := by omega
      subst this
      have := op_of_form (ndAt_of hb (show j < l.length by omega)).form
      simp [List.getD_eq_getElem?_getD, List.getElem?_append_right, hl]
      simp [List.getD_eq_getElem?_getD] at this
      omega

theorem kids_getD (told : List (Nd × ByteArray)) (ks : List Int) (j : Nat) (hj : j < ks.length) : (kidsP told ks).getD j pt0 = told.getD (ks.getD j 0).toNat pt0 := by
  unfold kidsP
  simp [hj]
theorem mem_getD (ks : List Int) (j : Nat) (hj : j < ks.length) : ks.getD j 0 ∈ ks := by simp [hj]

/-- The facts at one node. -/
structure NdF (J : JT) (l : List Nd) (k : Nat) : Prop where
  op : 1 ≤ (l.getD k nd0).op ∧ (l.getD k nd0).op ≤ 18
  kids : ∀ q ∈ (l.getD k nd0).kids, 0 ≤ q ∧ q < (k : Int)
  three : (l.getD k nd0).kids.length ≤ 3
  sz : szs (kidsP (tlL J (l.take k)) (l.getD k nd0).kids) ≤ 1000000
  ops : ∀ j, j < (l.getD k nd0).kids.length → 0 ≤ ((kidsP (tlL J (l.take k)) (l.getD k nd0).kids).getD j pt0).1.op ∧ ((kidsP (tlL J (l.take k)) (l.getD k nd0).kids).getD j pt0).1.op < 19
  chk : (chk (l.getD k nd0).name).2 = 0
  name : (l.getD k nd0).name.size ≤ 64
theorem ndF_of {J : JT} (hJ : JOk J) {l : List Nd} {fr : List Nat} (hb : begL (l.map fillN) = some fr) (hn : ∀ x ∈ l, num64 x.n) {k : Nat} (hk : k < l.length) : NdF J l k := by
  have hA := ndAt_of hb hk
  have hT := tl_ok hJ hb hn k (by omega)
  have hl : (tlL J (l.take k)).length = k := by rw [tlL_len]; simp; omega
  have h64 : l.length ≤ 64 := by have := (snd_bounds hb).1; simpa using this
  have hs := szs_le hT (l.getD k nd0).kids (by rw [hl]; exact hA.kids)
  have hw := wgt_le fr k
  have hsum := hA.sum
  have hf := form_name hA.form
  rw [fillN_name] at hf
  refine ⟨op_of_form hA.form, hA.kids, hA.three, by omega, fun j hj => ?_, hf.1, hf.2⟩
  rw [kids_getD _ _ _ hj]
  have hq := hA.kids _ (mem_getD _ _ hj)
  exact tl_ops J l fr hb k (by omega) _ (by omega)

end Go.Proofs.YtjmccobblpcbhaaDoor

set_option linter.unusedSimpArgs false
set_option linter.unusedVariables false
namespace Go.Proofs.YtjmccobblpcbhaaDoor
open Go.Lib

/-- The text of the node at a place. -/
def tx (J : JT) (l : List Nd) (i : Nat) : ByteArray := ((tlL J l).getD i pt0).2

theorem foldl_tlS_pre (J : JT) : ∀ (m : List Nd) (t : List (Nd × ByteArray)), ∃ r, m.foldl (tlS J) t = t ++ r
  | [], t => ⟨[], by simp⟩
  | x :: m, t => by
    obtain ⟨r, hr⟩ := foldl_tlS_pre J m (tlS J t x)
    exact ⟨[(x, ndT J t x)] ++ r, by rw [List.foldl_cons, hr]; simp [tlS]⟩
theorem tlL_prefix (J : JT) (l : List Nd) (k i : Nat) (hi : i < k) (hk : k ≤ l.length) : (tlL J (l.take k)).getD i pt0 = (tlL J l).getD i pt0 := by
  have e : tlL J l = (l.drop k).foldl (tlS J) (tlL J (l.take k)) := by
    unfold tlL
    rw [← List.foldl_append, List.take_append_drop]
  obtain ⟨r, hr⟩ := foldl_tlS_pre J (l.drop k) (tlL J (l.take k))
  rw [e, hr, getD_append_left]
  rw [tlL_len]; simp; omega
theorem tl_at (J : JT) (l : List Nd) (i : Nat) (hi : i < l.length) : (tlL J l).getD i pt0 = (l.getD i nd0, ndT J (tlL J (l.take i)) (l.getD i nd0)) := by
  rw [← tlL_prefix J l (i + 1) i (by omega) (by omega), tlL_take hi]
  have hl : (tlL J (l.take i)).length = i := by rw [tlL_len]; simp; omega
  simp [List.getD_eq_getElem?_getD, List.getElem?_append_right, hl]
def kdP (J : JT) (l : List Nd) (ks : List Int) : List (Nd × ByteArray) := ks.map fun q => (l.getD q.toNat nd0, tx J l q.toNat)
theorem kids_tx (J : JT) (l : List Nd) (i : Nat) (hi : i < l.length) : ∀ ks : List Int, (∀ q ∈ ks, 0 ≤ q ∧ q < (i : Int)) → kidsP (tlL J (l.take i)) ks = kdP J l ks
  | [], _ => rfl
  | q :: ks, h => by
    have h0 := h q (List.mem_cons_self ..)
    have h1 := kids_tx J l i hi ks fun y hy => h y (List.mem_cons_of_mem _ hy)
    unfold kidsP kdP at h1 ⊢
    rw [List.map_cons, List.map_cons, h1, tlL_prefix J l i q.toNat (by omega) (by omega)]
    have := tl_at J l q.toNat (by omega)
    unfold tx
    rw [this]
theorem tx_eq (J : JT) (l : List Nd) (i : Nat) (hi : i < l.length) (hk : ∀ q ∈ (l.getD i nd0).kids, 0 ≤ q ∧ q < (i : Int)) : tx J l i = if (l.getD i nd0).kids.length = 0 then leafT (l.getD i nd0) else J (l.getD i nd0) (kdP J l (l.getD i nd0).kids) := by
  have h := tl_at J l i hi
  unfold tx
  rw [h]
  show ndT J (tlL J (l.take i)) (l.getD i nd0) = _
  unfold ndT
  rw [kids_tx J l i hi _ hk]
theorem shF_tx (J : JT) (l : List Nd) : shF J l = tx J l (l.length - 1) := rfl
theorem kdP_len (J : JT) (l : List Nd) (ks : List Int) : (kdP J l ks).length = ks.length := by simp [kdP]
theorem kdP_getD (J : JT) (l : List Nd) (ks : List Int) (j : Nat) (hj : j < ks.length) : (kdP J l ks).getD j pt0 = (l.getD (ks.getD j 0).toNat nd0, tx J l (ks.getD j 0).toNat) := by
  unfold kdP
  simp [hj]
theorem tx_size {J : JT} (hJ : JOk J) {l : List Nd} {fr : List Nat} (hb : begL (l.map fillN) = some fr) (hn : ∀ x ∈ l, num64 x.n) (i : Nat) : (tx J l i).size ≤ 6500 := by
  have h64 : l.length ≤ 64 := by have := (snd_bounds hb).1; simpa using this
  by_cases hi : i < l.length
  · have hT := tl_ok hJ hb hn l.length (Nat.le_refl _)
    rw [List.take_length] at hT
    have h1 := hT i (by rw [tlL_len]; exact hi)
    have h2 := wgt_le fr i
    unfold tx
    omega
  · unfold tx
    rw [List.getD_eq_getElem?_getD, List.getElem?_eq_none (by rw [tlL_len]; omega)]
    show (⟨#[]⟩ : ByteArray).size ≤ 6500
    decide

/-! ### brackets -/
def clB (op : Int) (y : Nd) (second : Bool) : Bool :=
  if op = 17 then !second && decide (rkT y.op = 1)
  else if op = 15 ∨ op = 16 then decide (rkT y.op ≤ rkT op)
  else if op = 4 then decide (rkT y.op < 10)
  else if op = 3 then decide (rkT y.op < 10) || (decide (y.op = 1) && decide (0 ≤ y.n))
  else if second = true then decide (rkT y.op ≤ rkT op) else decide (rkT y.op < rkT op)
theorem closed_eq (op : Int) (k : Nat) (y : Nd) (h : op = 3 ∨ op = 4 → k = 0) : clB op y (decide (0 < k)) = brkB op k y := by
  have r17 : rkT 17 = 1 := rfl
  have r4 : rkT 4 = 10 := rfl
  have r3 : rkT 3 = 10 := rfl
  have r1 : rkT 1 = 11 := rfl
  unfold clB brkB
  by_cases h17 : op = 17
  · subst h17
    rw [if_pos rfl, if_pos rfl, r17]
    cases k <;> simp
  · rw [if_neg h17, if_neg h17]
    by_cases h15 : op = 15 ∨ op = 16
    · rw [if_pos h15, if_pos h15]
    · rw [if_neg h15, if_neg h15]
      by_cases h4 : op = 4
      · subst h4
        have hk := h (.inr rfl)
        subst hk
        rw [if_pos rfl, r4]
        simp
      · rw [if_neg h4]
        by_cases h3 : op = 3
        · subst h3
          have hk := h (.inl rfl)
          subst hk
          rw [if_pos rfl, r3]
          by_cases hy : y.op = 1
          · rw [if_pos ⟨rfl, hy⟩, hy, r1]; simp
          · rw [if_neg (fun e => hy e.2), if_pos rfl]; simp [hy]
        · have hh : ¬ (op = 3 ∧ y.op = 1) := fun e => h3 e.1
          rw [if_neg h3]
          cases k <;> simp [hh]
theorem kids_arit {x : Nd} (h : formB (fillN x) = true) : (x.kids.length : Int) = aritI (fillN x).op := by
  unfold formB fitB at h
  simp only [Bool.and_eq_true, decide_eq_true_eq] at h
  rw [fillN_kids] at h
  exact h.1.1.2
theorem arit_three {x : Nd} (h : formB (fillN x) = true) (h3 : x.kids.length = 3) : x.op = 17 := by
  have := kids_arit h
  rw [h3] at this
  by_cases e : x.op = 18
  · simp [fillN, e, aritI] at this
  · have e2 : (fillN x).op = x.op := by simp [fillN, e]
    rw [e2] at this
    unfold aritI at this
    split at this <;> (try split at this) <;> (try split at this) <;> (try split at this) <;> omega
theorem arit_one {x : Nd} (h : formB (fillN x) = true) (h3 : x.op = 3 ∨ x.op = 4) : x.kids.length = 1 := by
  have := kids_arit h
  have e2 : (fillN x).op = x.op := by
    have : x.op ≠ 18 := by omega
    simp [fillN, this]
  rw [e2] at this
  unfold aritI at this
  rw [if_neg (by omega), if_pos h3] at this
  omega

/-! ### putting together -/
theorem ba_ext {a b : ByteArray} (h : a.data.toList = b.data.toList) : a = b := ByteArray.ext (Array.toList_inj.1 h)
theorem put_three (op : Int) (h : op = 17) (a b c : ByteArray) : a ++ txt [32, 63, 32] ++ b ++ txt [32, 58, 32] ++ c = putT op [a, b, c] := by
  subst h
  have e : sgT 17 = txt [63] := rfl
  unfold putT
  rw [e]
  apply ba_ext
  simp [txt]
theorem ok_ref (l : List Nd) : okSh l = (sndB (l.map fillN) && (decide ((hlsL l).length = 0) || (decide ((hlsL l).length ≤ 6) && decide (l.length ≤ 16)))) := by
  unfold okSh
  generalize (hlsL l).length = h
  generalize sndB (l.map fillN) = s
  by_cases h0 : h = 0
  · subst h0; simp
  · by_cases h6 : h ≤ 6
    · have : ¬ 6 < h := by omega
      cases s <;> simp [h0, h6, this]
    · have : 6 < h := by omega
      cases s <;> simp [h0, h6, this]

/-! ### decimals -/
theorem dec_step (u : Nat) (s D : List UInt8) (h : decDigits u ++ s = D) : (u < 10 → UInt8.ofNat (48 + u % 10) :: s = D) ∧ (10 ≤ u → decDigits (u / 10) ++ (UInt8.ofNat (48 + u % 10) :: s) = D) := by
  constructor
  · intro h1
    rw [decDigits, dif_pos h1] at h
    rw [Nat.mod_eq_of_lt h1]
    exact h
  · intro h1
    rw [decDigits, dif_neg (by omega)] at h
    rw [← h]; simp
end Go.Proofs.YtjmccobblpcbhaaDoor
