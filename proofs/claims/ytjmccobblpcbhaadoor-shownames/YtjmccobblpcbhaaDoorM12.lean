/-
  SnW, StrMem, SndW.
-/
import Derived.Shelf.Unicode.DecodeSlow
import Derived.Laws.RangeAny
import Derived.Shelf.Strings.Builder1
import Derived.Shelf.Small.Utf8
import Derived.Shelf.Small.Bits
import Derived.Shelf.Strings.BuilderF
import Derived.Shelf.Strings.BuilderK
import Derived.Shelf.Strings.BuilderRune
import Derived.Shelf.Utf8.AppendRune
import Derived.Shelf.Strconv.Itoa0
import Derived.Shelf.Strconv.Itoa1
import Derived.Shelf.LaysM
import Derived.Shelf.Strconv.Itoa2
import Derived.Shelf.Strconv.Itoa3
import Derived.Shelf.Strconv.Itoa4
import Derived.Shelf.Strings.Prefix
import Derived.Shelf.Unicode.DecodeAny
import Derived.Test.YtjmccobblpcbhaaDoorProg
import Derived.WalkKit
import Derived.Deep.DeepFit
import Derived.Lib.OthersKept
import Derived.Lib.RuneCountTail
import Derived.Lib.MapLaws
import Derived.Sort.Walk0
import Derived.Laws.DeepStrings4
import Derived.Lib.ItoaNum
import Derived.Deep.AppendLies
import Derived.Deep.OwnRows
import Derived.Laws.AppendOwnNone
import Derived.Deep.QuietTactic
import Derived.BigQuiet
import Derived.Deep.RegionWith
import Derived.Maps.OwnSet
import Derived.StringKeys
import Derived.Deep.Slices
import Derived.Test.YtjmccobblpcbhaaDoorM01
import Derived.Test.YtjmccobblpcbhaaDoorM02
import Derived.Test.YtjmccobblpcbhaaDoorM03
import Derived.Test.YtjmccobblpcbhaaDoorM04
import Derived.Test.YtjmccobblpcbhaaDoorM05
import Derived.Test.YtjmccobblpcbhaaDoorM06
import Derived.Test.YtjmccobblpcbhaaDoorM07
import Derived.Test.YtjmccobblpcbhaaDoorM08
import Derived.Test.YtjmccobblpcbhaaDoorM09
import Derived.Test.YtjmccobblpcbhaaDoorM11
set_option linter.unusedSimpArgs false
set_option linter.unusedVariables false
namespace Go.Proofs.YtjmccobblpcbhaaDoor
open Go.RowKit Go.Lib Go.Maps Go.Deep

/-- Nodes of the call's own whose kids are others'. -/
structure ClN (w : World) (base B : Nat) (v : Value) (p : List (Nd × Value)) : Prop where
  row : w.ownsRow base 60 4 v p.length (ndCells p)
  kids : ∀ q ∈ p, Ints w B q.2 q.1.kids
theorem ClN.nodes {w : World} {base B C : Nat} {v : Value} {p : List (Nd × Value)} (h : ClN w base B v p) (hB : w.heap.size ≤ C) (hC : B ≤ C) : Nodes w C v (p.map (·.1)) := by
  obtain ⟨h1, h2⟩ := h.row
  rcases h2 with ⟨rfl, h0⟩ | ⟨g, cap, cur, rfl, hb, hg, hn, hm, hs, ht⟩
  · have : p = [] := List.length_eq_zero_iff.1 h0
    subst this
    exact ⟨none, 0, rfl, by simp, by simp, .inl rfl⟩
  · refine ⟨_, cap, by simp, by simpa using hn, hm, .inr ⟨g, 0, rfl, ?_, fun i hi => ?_⟩⟩
    · have := lt_of_block hg; omega
    · simp at hi
      have hp : p[i]? = some (p[i].1, p[i].2) := by simp [hi]
      have hx : (p.map (·.1)).getD i nd0 = p[i].1 := by simp [hi]
      obtain ⟨a0, a1, a2, a3⟩ := ndCells_at p i _ _ hp
      have hc : ∀ j, j < p.length * 4 → w.cell? ⟨g, j, none⟩ = (ndCells p)[j]? := by
        intro j hj
        have : w.cell? ⟨g, j, none⟩ = cur[j]? := by simp [World.cell?, hg]
        rw [this, ← Array.getElem?_toList, ← ht, List.getElem?_take, if_pos (by omega)]
      rw [hx]
      refine ⟨p[i].2, ?_, ?_, ?_, ?_, ?_⟩
      · rw [Nat.zero_add, hc _ (by omega), a0]
      · rw [Nat.zero_add, hc _ (by omega), a1]
      · rw [Nat.zero_add, hc _ (by omega), a2]
      · rw [Nat.zero_add, hc _ (by omega), a3]
      · exact (h.kids p[i] (by simp)).mono hC

theorem eql_nilN (ao : Option Addr) (n c : Nat) (w : World) : (binOp .eql 22 (.slice ao n c) (.slice none 0 0)).run Tryd.prog w = .ok (.bool ao.isNone) w := by
  cases ao <;> kernel_rfl

theorem nd_one {w : World} {B b o : Nat} {l : List Nd} (h : ∀ i, i < l.length → ∃ kv, NodeAt w B b (o + i * 4) (l.getD i nd0) kv) : ∃ p : List (Nd × Value), p.map (·.1) = l ∧ (∀ q ∈ p, Ints w B q.2 q.1.kids) ∧ ∀ j u, (ndCells p)[j]? = some u → w.cell? ⟨b, o + j, none⟩ = some u := by
  have : Inhabited Value := ⟨.slice none 0 0⟩
  obtain ⟨kf, hk⟩ := choose_lt h
  refine ⟨(List.range l.length).map fun i => (l.getD i nd0, kf i), ?_, ?_, ?_⟩
  · apply List.ext_getElem?
    intro i
    by_cases hi : i < l.length
    · simp [hi]
    · simp [hi]
  · intro q hq
    obtain ⟨i, hi, rfl⟩ := List.mem_map.1 hq
    rw [List.mem_range] at hi
    exact (hk i hi).kids
  · intro j u hj
    have hjl : j < l.length * 4 := by
      have := (List.getElem?_eq_some_iff.1 hj).1
      rw [ndCells_length] at this; simpa using this
    have hi : j / 4 < l.length := by omega
    have hp : ((List.range l.length).map fun i => (l.getD i nd0, kf i))[j / 4]? = some (l.getD (j / 4) nd0, kf (j / 4)) := by simp [hi]
    obtain ⟨a0, a1, a2, a3⟩ := ndCells_at _ _ _ _ hp
    have hN := hk (j / 4) hi
    have hr : j % 4 = 0 ∨ j % 4 = 1 ∨ j % 4 = 2 ∨ j % 4 = 3 := by omega
    rcases hr with hr | hr | hr | hr
    · have e : j = j / 4 * 4 := by omega
      rw [← e] at a0
      rw [a0] at hj; cases hj
      have := hN.c0; rw [← e] at this; exact this
    · have e : j = j / 4 * 4 + 1 := by omega
      rw [← e] at a1
      rw [a1] at hj; cases hj
      have := hN.c1; rw [Nat.add_assoc, ← e] at this; exact this
    · have e : j = j / 4 * 4 + 2 := by omega
      rw [← e] at a2
      rw [a2] at hj; cases hj
      have := hN.c2; rw [Nat.add_assoc, ← e] at this; exact this
    · have e : j = j / 4 * 4 + 3 := by omega
      rw [← e] at a3
      rw [a3] at hj; cases hj
      have := hN.c3; rw [Nat.add_assoc, ← e] at this; exact this

theorem nd_cell1 {p : List (Nd × Value)} (h : ∀ q ∈ p, ∃ a n c, q.2 = .slice a n c) : ∀ u ∈ ndCells p, u.oneCell' = true := by
  induction p with
  | nil => simp [ndCells]
  | cons a r ih =>
    obtain ⟨x, kv⟩ := a
    obtain ⟨ka, kn, kc, rfl⟩ := h (x, kv) (by simp)
    intro u hu
    simp only [ndCells, List.mem_cons] at hu
    rcases hu with rfl | rfl | rfl | rfl | hu
    · rfl
    · rfl
    · rfl
    · rfl
    · exact ih (fun q hq => h q (List.mem_cons_of_mem _ hq)) u hu

def CloneP (w : World) (l : List Nd) (e : Ending) (w' : World) : Prop := ∃ v' p, e = .returned v' ∧ p.map (·.1) = l ∧ ClN w' w.heap.size w.heap.size v' p ∧ Below w.heap.size w w'

set_option maxRecDepth 20000 in
set_option maxHeartbeats 1000000 in
theorem clone_any {w : World} {ao : Option Addr} {cap : Nat} {l : List Nd} (hN : Rd w ao cap l) (hlen : l.length * 56 ≤ 140737488355328) :
    Calls Tryd.prog 130 #[.slice ao l.length cap] w fun e w' => CloneP w l e w' := by
  have hnil := eql_nilN
  obtain ⟨i0, hi, hz0, hz1, hz2⟩ := info_parts Tryd.infoNode
  obtain ⟨ao', cap', e1, hl, hm, hc⟩ := hN
  cases e1
  cases ao with
  | none =>
    have hz : l = [] := by
      rcases hc with h | ⟨b, o, h, _⟩
      · exact h
      · cases h
    subst hz
    go_enter Tryd.func130, Tryd.ntmps130
    go_wp2
    go_ret
    exact ⟨_, [], rfl, rfl, ⟨World.ownsRow_nil _ _ _ _, by simp⟩, Below.refl _ _⟩
  | some ad =>
    obtain ⟨p, hp1, hp2, hp3⟩ : ∃ p : List (Nd × Value), p.map (·.1) = l ∧ (∀ q ∈ p, Ints w w.heap.size q.2 q.1.kids) ∧ ∀ j u, (ndCells p)[j]? = some u → w.cell? (ad.add j) = some u := by
      rcases hc with h | ⟨b, o, h, _, hc⟩
      · subst h; exact ⟨[], rfl, by simp, by simp [ndCells]⟩
      · cases h
        obtain ⟨p, h1, h2, h3⟩ := nd_one hc
        exact ⟨p, h1, h2, fun j u hj => by rw [Go.WideShapes.add_plain]; exact h3 j u hj⟩
    have hpl : p.length = l.length := by rw [← hp1]; simp
    have HP1 : Hid (p.map (·.1) = l) := hp1
    have HP2 : Hid (∀ q ∈ p, Ints w w.heap.size q.2 q.1.kids) := hp2
    have hone : ∀ u ∈ ndCells p, u.oneCell' = true := nd_cell1 fun q hq => by
      obtain ⟨a, c, h, _⟩ := hp2 q hq
      exact ⟨a, _, c, h⟩
    have HN : ∀ j u, (ndCells p)[j]? = some u → (w.alloc (.cells #[] 60)).cell? (ad.add j) = some u := fun j u hj => (((Below.refl w.heap.size w).alloc (Nat.le_refl _) _).cell (World.block_lt_of_cell? w _ (hp3 j u hj))).trans (hp3 j u hj)
    have hnl : (ndCells p).length = l.length * 4 := by rw [ndCells_length, hpl]
    have hm2 : 0 + l.length ≤ maxLen := by omega
    clear hc hp1 hp2 hp3
    go_enter Tryd.func130, Tryd.ntmps130
    go_wp2_with (at_builtin; refine wpList_append_own _ rfl _ _ 22 rfl w.heap.size 60 i0 (.agg #[.int .i64 0, .int .i64 0, .string ⟨#[]⟩, .slice none 0 0]) 4 56 Tryd.underlying22 hi hz0 hz1 hz2 rfl (by decide) _ _ _ rfl (World.ownsRow_made w #[] 0 (Nat.le_refl _) (Nat.zero_le _) (by simp)) ad l.length cap (ndCells p) rfl hnl HN hone hm2 (by omega) (by simp) ?_; intro v' w1 hown hgrow hnil')
    go_ret
    have hbb : Below w.heap.size w w1 := ((Below.refl w.heap.size w).alloc (Nat.le_refl _) _).grown hgrow (by simp) (fun k hk => by have e : some w.heap.size = some k := hk; cases e; exact Nat.le_refl _)
    refine ⟨v', p, rfl, HP1.out, ⟨?_, fun q hq => (HP2.out q hq).below hbb (Nat.le_refl _)⟩, hbb⟩
    rw [hpl]; simpa using hown

theorem ndCells_op (p : List (Nd × Value)) (k : Nat) (x : Nd) (kv : Value) (z : Int) (h : p[k]? = some (x, kv)) : ndCells (p.set k ({ x with op := z }, kv)) = (ndCells p).set (k * 4) (.int .i64 z) := by
  induction p generalizing k with
  | nil => simp at h
  | cons a r ih =>
    obtain ⟨y, kw⟩ := a
    cases k with
    | zero =>
      simp at h
      obtain ⟨rfl, rfl⟩ := h
      simp [ndCells]
    | succ k =>
      have := ih k (by simpa using h)
      have e : (k + 1) * 4 = k * 4 + 4 := by omega
      rw [e]
      simp [ndCells, this]

/-- Between two nodes: those ahead of k are filled. -/
structure SnMid (w : World) (l : List Nd) (M : Nat) (v : Value) (k : Nat) (wr : World) : Prop where
  p : ∃ p, p.map (·.1) = (l.take k).map fillN ++ l.drop k ∧ ClN wr w.heap.size w.heap.size v p
  map : ∃ n, n ≤ k ∧ CntM wr M n (hlsL (l.take k))
  below : Below w.heap.size w wr
  le : w.heap.size ≤ M

theorem fill_step {l : List Nd} {k : Nat} (hk : k < l.length) (h : (l.getD k nd0).op ≠ 18) : (l.take (k + 1)).map fillN ++ l.drop (k + 1) = (l.take k).map fillN ++ l.drop k := by
  rw [List.take_succ_eq_append_getElem hk, List.map_append, List.drop_eq_getElem_cons hk]
  have e : l.getD k nd0 = l[k] := by simp [hk]
  rw [e] at h
  simp [fillN, h]
theorem SnMid.skip {w : World} {l : List Nd} {M : Nat} {v : Value} {k : Nat} {wr : World} (h : SnMid w l M v k wr) (hk : k < l.length) (hop : (l.getD k nd0).op ≠ 18) (o : Obj) : SnMid w l M v (k + 1) (wr.alloc o) := by
  obtain ⟨⟨p, hp, hc⟩, ⟨n, hn, hm⟩, hb, hle⟩ := h
  have hs := hb.size
  refine ⟨⟨p, by rw [fill_step hk hop]; exact hp, hc.row.alloc _, fun q hq => (hc.kids q hq).below (((Below.refl _ _).alloc hs _)) (Nat.le_refl _)⟩, ⟨n, by omega, ?_⟩, hb.alloc hs _, hle⟩
  have e : hlsL (l.take (k + 1)) = hlsL (l.take k) := by
    rw [List.take_succ_eq_append_getElem hk, hlsL_snoc]
    have e : l.getD k nd0 = l[k] := by simp [hk]
    rw [e] at hop
    simp [addNm, hop]
  rw [e]; exact hm.alloc _

/-- The cell that is set. -/
theorem SnMid.at_ {w : World} {l : List Nd} {M : Nat} {v : Value} {k : Nat} {wr : World} (h : SnMid w l M v k wr) (hk : k < l.length) : ∃ g cap, v = .slice (some ⟨g, 0, none⟩) l.length cap ∧ w.heap.size ≤ g ∧ g < wr.heap.size ∧ g ≠ M ∧ l.length ≤ cap ∧ cap ≤ maxLen ∧ (∃ c, wr.cell? ⟨g, k * 4, none⟩ = some (.int .i64 c)) ∧ wr.frozen? ⟨g, k * 4, none⟩ = false := by
  obtain ⟨⟨p, hp, hc⟩, ⟨n, hn, hm⟩, hb, hle⟩ := h
  have hpl : p.length = l.length := by have := congrArg List.length hp; simp at this; omega
  rcases hc.row.2 with ⟨rfl, h0⟩ | ⟨g, cap, cur, rfl, hg0, hg, h1, h2, h3, h4⟩
  · omega
  · refine ⟨g, cap, by rw [hpl], hg0, lt_of_block hg, ?_, by omega, h2, ?_, frozen_of_heap hg _⟩
    · rintro rfl
      obtain ⟨D, ⟨es, c, h5, _⟩, _⟩ := hm
      rw [hg] at h5; cases h5
    · have hp2 : p[k]? = some (p[k].1, p[k].2) := by simp [hpl, hk]
      have := (ndCells_at p k _ _ hp2).1
      refine ⟨p[k].1.op, ?_⟩
      rw [cell_of_heap hg, ← Array.getElem?_toList, ← this, ← h4, List.getElem?_take, if_pos (by omega)]

theorem SnMid.fill {w : World} {l : List Nd} {M : Nat} {g cap : Nat} {k : Nat} {wr w' : World} {o : Obj} {n : Nat} (h : SnMid w l M (.slice (some ⟨g, 0, none⟩) l.length cap) k wr) (hk : k < l.length) (hop : (l.getD k nd0).op = 18) (hn : n ≤ k)
    (hm : CntM w' M (n + 1) (if (hlsL (l.take k)).any (fun y => decide (y = (l.getD k nd0).name)) = true then hlsL (l.take k) else hlsL (l.take k) ++ [(l.getD k nd0).name])) (hg : (wr.alloc o).grownBy w' (some M)) : SnMid w l M (.slice (some ⟨g, 0, none⟩) l.length cap) (k + 1) (w'.setCell ⟨g, k * 4, none⟩ (.int .i64 2)) := by
  obtain ⟨g', cap', e1, hg0, hgl, hgM, _⟩ := h.at_ hk
  cases e1
  obtain ⟨⟨p, hp, hc⟩, _, hb, hle⟩ := h
  have hs := hb.size
  have hpl : p.length = l.length := by have := congrArg List.length hp; simp at this; omega
  have hbA : Below w.heap.size w (wr.alloc o) := hb.alloc hs _
  have hb' : Below w.heap.size w w' := hbA.grown hg (by simp; omega) (fun k hk => by cases hk; exact hle)
  have hb2 : Below w.heap.size wr w' := ((Below.refl _ _).alloc hs _).grown hg (by simp; omega) (fun k hk => by cases hk; exact hle)
  have e : l.getD k nd0 = l[k] := by simp [hk]
  have hx : ((l.take k).map fillN ++ l.drop k)[k]? = some l[k] := by
    rw [List.getElem?_append_right (by simp; omega)]
    have : k - ((l.take k).map fillN).length = 0 := by simp; omega
    rw [this]; simp [hk]
  have hpk : p[k]? = some (l[k], (p.getD k (nd0, .slice none 0 0)).2) := by
    have hkp : k < p.length := by omega
    have : (p.map (·.1))[k]? = some l[k] := by rw [hp]; exact hx
    simp [hkp] at this
    simp [hkp, ← this]
  have hrow : w'.ownsRow w.heap.size 60 4 (.slice (some ⟨g, 0, none⟩) l.length cap) l.length (ndCells p) := by
    have h1 := World.ownsRow.kept (hc.row.alloc o) hg (.inr (by simp [Value.ownBlock]; exact hgM))
    rw [hpl] at h1; exact h1
  have hfl : fillN l[k] = { l[k] with op := 2 } := by rw [e] at hop; simp [fillN, hop]
  refine ⟨⟨p.set k ({ l[k] with op := 2 }, (p.getD k (nd0, .slice none 0 0)).2), ?_, ?_, ?_⟩, ⟨n + 1, by omega, ?_⟩, hb'.setCell (p := ⟨g, k * 4, none⟩) hg0 _, hle⟩
  · rw [List.map_set, hp, ← hfl]
    rw [List.take_succ_eq_append_getElem hk, List.map_append, List.set_append_right _ _ (by simp; omega)]
    have : k - ((l.take k).map fillN).length = 0 := by simp; omega
    rw [this, List.drop_eq_getElem_cons hk, List.set_cons_zero, List.append_assoc]
    rfl
  · rw [ndCells_op p k _ _ 2 hpk, List.length_set, hpl]
    exact own_put hrow (by rw [ndCells_length]; omega)
  · intro q hq
    have hin : ∀ q ∈ p, Ints (w'.setCell ⟨g, k * 4, none⟩ (.int .i64 2)) w.heap.size q.2 q.1.kids := fun q hq => (hc.kids q hq).below (hb2.setCell (p := ⟨g, k * 4, none⟩) hg0 _) (Nat.le_refl _)
    rcases List.mem_or_eq_of_mem_set hq with hq | rfl
    · exact hin q hq
    · exact hin (l[k], _) (List.mem_of_getElem? hpk)
  · have e2 : hlsL (l.take (k + 1)) = addNm (hlsL (l.take k)) (l.getD k nd0) := by rw [List.take_succ_eq_append_getElem hk, hlsL_snoc, e]
    have e3 : addNm (hlsL (l.take k)) (l.getD k nd0) = if (hlsL (l.take k)).any (fun y => decide (y = (l.getD k nd0).name)) = true then hlsL (l.take k) else hlsL (l.take k) ++ [(l.getD k nd0).name] := by unfold addNm; rw [if_pos hop]
    rw [e2, e3]
    exact hm.setCell (by show M ≠ g; omega) _
end Go.Proofs.YtjmccobblpcbhaaDoor

set_option linter.unusedSimpArgs false
set_option linter.unusedVariables false
namespace Go.Proofs.YtjmccobblpcbhaaDoor
open Go.RowKit Go.Lib

/-- The slice reads as the texts qs. -/
def Strs (w : World) (ao : Option Addr) (cap : Nat) (qs : List ByteArray) : Prop :=
  qs.length ≤ cap ∧ cap ≤ maxLen ∧ (qs = [] ∨ ∃ b o, ao = some ⟨b, o, none⟩ ∧ b < w.heap.size ∧ ∀ j, j < qs.length → w.cell? ⟨b, o + j, none⟩ = some (.string (qs.getD j ⟨#[]⟩)))
theorem Strs.below {w w' : World} {ao : Option Addr} {cap : Nat} {qs : List ByteArray} (h : Strs w ao cap qs) (hb : Below w.heap.size w w') : Strs w' ao cap qs := by
  obtain ⟨h1, h2, h3⟩ := h
  refine ⟨h1, h2, ?_⟩
  rcases h3 with h3 | ⟨b, o, e, hlt, hc⟩
  · exact .inl h3
  · exact .inr ⟨b, o, e, Nat.lt_of_lt_of_le hlt hb.size, fun j hj => (hb.cell (p := ⟨b, o + j, none⟩) hlt).trans (hc j hj)⟩
theorem Strs.same {w w' : World} {ao : Option Addr} {cap : Nat} {qs : List ByteArray} (h : Strs w ao cap qs) (hs : w.heap.size ≤ w'.heap.size) (hb : ∀ b : Nat, b < w.heap.size → w'.heap[b]? = w.heap[b]?) : Strs w' ao cap qs := by
  obtain ⟨h1, h2, h3⟩ := h
  refine ⟨h1, h2, ?_⟩
  rcases h3 with h3 | ⟨b, o, e, hlt, hc⟩
  · exact .inl h3
  · exact .inr ⟨b, o, e, by omega, fun j hj => (World.cell?_of_block (a := ⟨b, o + j, none⟩) (hb b hlt)).trans (hc j hj)⟩

theorem Strs.cell {w : World} {ao : Option Addr} {cap : Nat} {qs : List ByteArray} (h : Strs w ao cap qs) {j : Nat} (hj : j < qs.length) : ∃ b o, ao = some ⟨b, o, none⟩ ∧ b < w.heap.size ∧ w.cell? ⟨b, o + j, none⟩ = some (.string (qs.getD j ⟨#[]⟩)) := by
  rcases h.2.2 with h | ⟨b, o, e, hlt, hc⟩
  · subst h; simp at hj
  · exact ⟨b, o, e, hlt, hc j hj⟩
theorem Rd.cell {w : World} {ao : Option Addr} {cap : Nat} {l : List Nd} (h : Rd w ao cap l) {k : Nat} (hk : k < l.length) : ∃ b o kv, ao = some ⟨b, o, none⟩ ∧ b < w.heap.size ∧ NodeAt w w.heap.size b (o + k * 4) (l.getD k nd0) kv := by
  obtain ⟨ao', cap', e1, _, _, hc⟩ := h
  cases e1
  rcases hc with h | ⟨b, o, e, hlt, hc⟩
  · subst h; simp at hk
  · obtain ⟨kv, hn⟩ := hc k hk
    exact ⟨b, o, kv, e, hlt, hn⟩

end Go.Proofs.YtjmccobblpcbhaaDoor

set_option linter.unusedSimpArgs false
set_option linter.unusedVariables false
namespace Go.Proofs.YtjmccobblpcbhaaDoor
open Go.RowKit Go.Lib Go.Maps

theorem snd_big {l : List Nd} (h : 64 < l.length) : sndB l = false := by simp [sndB, begL, h]

set_option maxRecDepth 20000 in
set_option maxHeartbeats 4000000 in
theorem sound_any {w : World} {ao : Option Addr} {cap : Nat} {l : List Nd} (hT : SpanCells w) (hN : Rd w ao cap l) (hnm : ∀ x ∈ l, x.name.size ≤ maxLen) :
    Calls Tryd.prog 101 #[.slice ao l.length cap] w fun e w' => e = .returned (.bool (okSh l)) ∧ Below w.heap.size w w' := by
  obtain ⟨hb1, hb2⟩ := hN.bound
  unfold maxLen at hb2
  by_cases h64 : 64 < l.length
  · have HR : Hid (okSh l = false) := by show okSh l = false; unfold okSh; rw [snd_big (by simpa using h64)]; simp
    have g1 : (64 : Int) < (l.length : Int) := by omega
    generalize okSh l = R at *
    clear hN hnm hT
    go_enter Tryd.func101, Tryd.ntmps101
    go_wp2_with fail
    go_ret
    exact ⟨by rw [HR.out] <;> rfl, Below.refl _ _⟩
  · have g1 : ¬ (64 : Int) < (l.length : Int) := by omega
    have hlen : l.length * 56 ≤ 140737488355328 := by omega
    have cC := clone_any hN hlen
    have HN : Hid (Rd w ao cap l) := hN
    have HT : Hid (SpanCells w) := hT
    have HM : Hid (∀ x ∈ l, x.name.size ≤ maxLen) := hnm
    obtain ⟨R, hR⟩ : ∃ R, okSh l = R := ⟨_, rfl⟩
    have HR : Hid (R = (!(decide (6 < (hlsL l).length)) && (decide ((hlsL l).length = 0) || decide (l.length ≤ 16)) && sndB (l.map fillN))) := hR.symm
    rw [hR]
    clear hN hT hnm hR
    have hmm := @run_makeMap Tryd.prog
    go_enter Tryd.func101, Tryd.ntmps101
    go_wp2_with (go_at_call 130; refine cC.mono ?_; rintro e w1 ⟨v, p, rfl, hp, hcl, hbl⟩)
    have hs1 := hbl.size
    have HS0 : Hid (SnMid w l w1.heap.size v 0 (w1.alloc (.map #[] 0))) := ⟨⟨p, by simpa using hp, hcl.row.alloc _, fun q hq => (hcl.kids q hq).below ((Below.refl _ _).alloc hs1 _) (Nat.le_refl _)⟩, ⟨0, by omega, by simpa [hlsL] using CntM.made w1⟩, hbl.alloc hs1 _, hs1⟩
    clear cC hp hcl
    go_loopw [15] (fun i wr => ∃ k : Nat, k ≤ l.length ∧ i = .int .i64 k ∧ SnMid w l w1.heap.size v k wr) (fun i _ => l.length - (RowKit.intOf i).toNat)
    case atStart => exact ⟨0, by omega, rfl, HS0.out⟩
    case round =>
      obtain ⟨k, hk, rfl, hM⟩ := hrel
      have hbw := hM.below
      have hsw := hbw.size
      by_cases hlt : k < l.length
      · obtain ⟨b, o, kv, rfl, hbk, hna⟩ := Rd.cell (HN.out.below hbw hsw) hlt
        have HNM : Hid ((l.getD k nd0).name.size ≤ maxLen) := HM.out _ (by simp [hlt])
        obtain ⟨c0, c1, c2, c3, hki⟩ := hna
        obtain ⟨ka, kc, rfl, _⟩ := hki
        generalize hkl : (l.getD k nd0).kids.length = kl at *
        by_cases hop : (l.getD k nd0).op = 18
        · obtain ⟨g, cp, rfl, hg0, hgl, hgM, hg1, hg2, ⟨cv, hcv⟩, hfz⟩ := hM.at_ hlt
          unfold maxLen at hg2
          obtain ⟨n, hn, hC⟩ := hM.map
          obtain ⟨c, w5, hcn, hlook, hput, hC5, hg5⟩ := (hC.alloc (.cells #[.int .i64 18, .int .i64 (l.getD k nd0).n, .string (l.getD k nd0).name, .slice ka kl kc] 60)).more (by omega) HNM.out
          have hMl := hC.lt
          have HFI : Hid (SnMid w l w1.heap.size (.slice (some ⟨g, 0, none⟩) l.length cp) (k + 1) (w5.setCell ⟨g, k * 4, none⟩ (.int .i64 2))) := hM.fill hlt hop hn hC5 hg5
          have q0 : w5.cell? ⟨g, k * 4, none⟩ = some (.int .i64 cv) := by
            have e : w5.heap[g]? = wr.heap[g]? := (hg5.block g (by simp; omega) (by simpa using hgM)).trans (alloc_old _ _ _ hgl)
            rw [World.cell?_of_block (a := ⟨g, k * 4, none⟩) e]; exact hcv
          have q1 : w5.frozen? ⟨g, k * 4, none⟩ = false := by
            have e : w5.heap[g]? = wr.heap[g]? := (hg5.block g (by simp; omega) (by simpa using hgM)).trans (alloc_old _ _ _ hgl)
            have := hfz
            unfold World.frozen? at this ⊢
            rw [e]; exact this
          rw [hop] at c0
          have hc64 : (c : Int) ≤ 64 := by omega
          clear hM hC hC5 hg5 hcv hfz
          generalize (l.getD k nd0).name = nm at *
          generalize (l.getD k nd0).n = nn at *
          clear hop hkl
          go_wp2_with fail
          exact ⟨⟨k + 1, by omega, by go_num, HFI.out⟩, by simp [RowKit.intOf]; omega⟩
        · have HSK : Hid (SnMid w l w1.heap.size v (k + 1) (wr.alloc (.cells #[.int .i64 (l.getD k nd0).op, .int .i64 (l.getD k nd0).n, .string (l.getD k nd0).name, .slice ka kl kc] 60))) := hM.skip hlt hop _
          have g18 : ((l.getD k nd0).op == 18) = false := by rw [beq_eq_false_iff_ne]; exact hop
          clear hM hop hkl HNM
          generalize (l.getD k nd0).name = nm at *
          generalize (l.getD k nd0).n = nn at *
          generalize (l.getD k nd0).op = oo at *
          go_wp2_with fail
          exact ⟨⟨k + 1, by omega, by go_num, HSK.out⟩, by simp [RowKit.intOf]; omega⟩
      · have hke : k = l.length := by omega
        subst hke
        obtain ⟨⟨p, hp, hcl⟩, ⟨n, hn, hC⟩, _, hle⟩ := hM
        have hlenM := hC.len
        rw [List.take_length] at hlenM hp
        rw [List.drop_length, List.append_nil] at hp
        have hpl : p.length = l.length := by have := congrArg List.length hp; simpa using this
        have hNd := hcl.nodes (C := wr.heap.size) (Nat.le_refl _) hsw
        rw [hp] at hNd
        have hhl := hlsL_len l
        have cK := check_any v (l.map fillN) wr wr.heap.size (Nat.le_refl _) (HT.out.below hbw) hNd
        have HBW : Hid (Below w.heap.size w wr) := hbw
        clear hC hbw hcl hp
        generalize (hlsL l).length = nh at *
        by_cases h6 : 6 < nh
        · have gg : (6 : Int) < (nh : Int) := by omega
          have HR2 : Hid (R = false) := by show R = false; rw [HR.out]; simp [h6]
          clear HR
          go_wp2_with fail
          go_ret
          exact ⟨by rw [HR2.out] <;> rfl, HBW.out⟩
        · have gg : ¬ (6 : Int) < (nh : Int) := by omega
          by_cases h0 : nh = 0
          · subst h0
            have HR2 : Hid (R = sndB (l.map fillN)) := by show R = _; rw [HR.out]; simp
            clear HR
            generalize sndB (l.map fillN) = sb at *
            cases sb
            · rw [if_neg (by decide)] at cK
              go_wp2_with (go_at_call 9; refine cK.mono ?_; rintro e w6 ⟨rfl, hb6⟩)
              go_ret
              exact ⟨by rw [HR2.out] <;> rfl, HBW.out.trans (hb6.mono HBW.out.size)⟩
            · rw [if_pos rfl] at cK
              go_wp2_with (go_at_call 9; refine cK.mono ?_; rintro e w6 ⟨rfl, hb6⟩)
              go_ret
              exact ⟨by rw [HR2.out] <;> rfl, HBW.out.trans (hb6.mono HBW.out.size)⟩
          · have g0 : (0 : Int) < (nh : Int) := by omega
            by_cases h16 : 16 < l.length
            · have g16 : (16 : Int) < (l.length : Int) := by omega
              have HR2 : Hid (R = false) := by show R = false; rw [HR.out]; simp [h0, show ¬ l.length ≤ 16 by omega]
              clear HR
              go_wp2_with fail
              go_ret
              exact ⟨by rw [HR2.out] <;> rfl, HBW.out⟩
            · have g16 : ¬ (16 : Int) < (l.length : Int) := by omega
              have HR2 : Hid (R = sndB (l.map fillN)) := by show R = _; rw [HR.out]; simp [h6, show l.length ≤ 16 by omega]
              clear HR
              generalize sndB (l.map fillN) = sb at *
              cases sb
              · rw [if_neg (by decide)] at cK
                go_wp2_with (go_at_call 9; refine cK.mono ?_; rintro e w6 ⟨rfl, hb6⟩)
                go_ret
                exact ⟨by rw [HR2.out] <;> rfl, HBW.out.trans (hb6.mono HBW.out.size)⟩
              · rw [if_pos rfl] at cK
                go_wp2_with (go_at_call 9; refine cK.mono ?_; rintro e w6 ⟨rfl, hb6⟩)
                go_ret
                exact ⟨by rw [HR2.out] <;> rfl, HBW.out.trans (hb6.mono HBW.out.size)⟩
end Go.Proofs.YtjmccobblpcbhaaDoor
