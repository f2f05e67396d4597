/-
  ExAddP, ExMakW, ExDecPure, TbP.
-/
import Derived.Test.YtlbmijcpalfaeaaGreatDoorP08
set_option linter.unusedSimpArgs false
set_option linter.unusedVariables false
namespace Go.Proofs.YtlbmijcpalfaeaaGreatDoor
open Go.RowKit Go.Lib

/-- In the middle of it. -/
structure AddMid (w : World) (base : Nat) (v : Value) (p : List (Nd × Value)) (ms : List Nd) (x : Value) (wr : World) : Prop where
  ex : ∃ p', OwnP wr base x (p ++ p') ∧ p'.map (·.1) = ms ∧ (∀ q ∈ p', OwnI wr w.heap.size q.2 q.1.kids) ∧ w.grownBy wr v.ownBlock ∧ (x.ownBlock = v.ownBlock ∨ ∀ g, x.ownBlock = some g → w.heap.size ≤ g) ∧ Below base w wr

theorem AddMid.start {w : World} {base : Nat} {v : Value} {p : List (Nd × Value)} (h : OwnP w base v p) : AddMid w base v p [] v w :=
  ⟨⟨[], by simpa using h, rfl, by simp, World.grownBy.refl _ _, .inl rfl, Below.refl _ _⟩⟩

theorem grown_of_below {w w' : World} (h : Below w.heap.size w w') (row : Option Nat) : w.grownBy w' row := ⟨h.os, h.tape, h.output, h.size, fun k hk _ => h.block k hk⟩

/-- One node more: its kids are owned (new since wr), the append has gone through. -/
theorem AddMid.snoc {w : World} {base : Nat} {v x : Value} {p p' : List (Nd × Value)} {ms : List Nd} {wr W w1 : World} {y : Nd} {kv : Value} {g n cap : Nat} (hP : OwnP wr base x (p ++ p')) (hm : p'.map (·.1) = ms) (hkid : ∀ q ∈ p', OwnI wr w.heap.size q.2 q.1.kids) (hgr : w.grownBy wr v.ownBlock) (hx : x.ownBlock = v.ownBlock ∨ ∀ g, x.ownBlock = some g → w.heap.size ≤ g) (hB : Below base w wr)
    (hbase : base ≤ w.heap.size) (hBW : Below wr.heap.size wr W) (hk : OwnI W wr.heap.size kv y.kids) (hn : n = (p ++ p').length)
    (hown : w1.ownsRow base 41 4 (.slice (some ⟨g, 0, none⟩) (n + 1) cap) (n + 1) (ndCells (p ++ p') ++ [.int .i64 y.op, .int .i64 y.n, .string y.name, kv])) (hg : W.grownBy w1 x.ownBlock) (hat : x.ownBlock = some g ∨ g = W.heap.size) :
    AddMid w base v p (ms ++ [y]) (.slice (some ⟨g, 0, none⟩) (n + 1) cap) w1 := by
  have hsz : w.heap.size ≤ wr.heap.size := hgr.size
  have hPW := hP.below hBW
  have hkb : OwnI W base kv y.kids := ownsRow_mono hk (by omega)
  refine ⟨⟨p' ++ [(y, kv)], ?_, by simp [hm], fun q hq => ?_, ?_, ?_, ?_⟩⟩
  · rw [← List.append_assoc]
    subst hn
    exact hPW.snoc hkb hown hg
  · rcases List.mem_append.1 hq with hq | hq
    · have h1 := (hkid q hq).below hBW
      exact World.ownsRow.kept h1 hg (ownBlock_ne h1 hPW.row (by decide))
    · simp at hq; subst hq
      exact ownsRow_mono (World.ownsRow.kept hk hg (ownBlock_ne hk hPW.row (by decide))) hsz
  · refine ⟨hg.os.trans (hBW.os.trans hgr.os), hg.tape.trans (hBW.tape.trans hgr.tape), hg.output.trans (hBW.output.trans hgr.output), Nat.le_trans hsz (Nat.le_trans hBW.size hg.size), fun k hk1 hk2 => ?_⟩
    rw [hg.block k (by have := hBW.size; omega) (fun he => by
      rcases hx with hx | hx
      · rw [hx] at he; exact hk2 he
      · have := hx k he.symm; omega), hBW.block k (by omega), hgr.block k hk1 hk2]
  · rcases hat with hat | hat
    · rcases hx with hx | hx
      · left; show some g = v.ownBlock; rw [← hx, hat]
      · right; intro g' hg'; have e : g = g' := Option.some.inj hg'; have := hx g hat; omega
    · right; intro g' hg'; have e : g = g' := Option.some.inj hg'; have := hBW.size; omega
  · exact (hB.trans (hBW.mono (by omega))).grown hg (by have := hBW.size; omega) (fun k hk => (hPW.row.lt k hk).1)

end Go.Proofs.YtlbmijcpalfaeaaGreatDoor

namespace Go.Proofs.YtlbmijcpalfaeaaGreatDoor
open Go.RowKit Go.Lib

/-- The slice v reads as the lists ps, in blocks below B. -/
def Lst (w : World) (B : Nat) (v : Value) (ps : List (List Nd)) : Prop :=
  ∃ ao cap, v = .slice ao ps.length cap ∧ ps.length ≤ cap ∧ cap ≤ maxLen ∧ (ps = [] ∨ ∃ b o, ao = some ⟨b, o, none⟩ ∧ b < B ∧ ∀ i, i < ps.length → ∃ pv, w.cell? ⟨b, o + i, none⟩ = some pv ∧ Nodes w B pv (ps.getD i []))

theorem Lst.below {w w' : World} {B B' : Nat} {v : Value} {ps : List (List Nd)} (h : Lst w B v ps) (hb : Below B w w') (hB : B ≤ B') : Lst w' B' v ps := by
  obtain ⟨ao, cap, rfl, h1, h2, h3⟩ := h
  refine ⟨ao, cap, rfl, h1, h2, ?_⟩
  rcases h3 with h3 | ⟨b, o, rfl, hlt, hc⟩
  · exact .inl h3
  · exact .inr ⟨b, o, rfl, by omega, fun i hi => let ⟨pv, h4, h5⟩ := hc i hi; ⟨pv, (hb.cell (p := ⟨b, o + i, none⟩) hlt).trans h4, h5.below hb hB⟩⟩

theorem OwnP.kept {w w' : World} {base base' : Nat} {v v2 : Value} {p : List (Nd × Value)} {e : TypeId} {s n : Nat} {xs : List Value} (h : OwnP w base v p) (hg : w.grownBy w' v2.ownBlock) (hr : w.ownsRow base' e s v2 n xs) (h1 : 41 ≠ e) (h2 : 3 ≠ e) : OwnP w' base v p :=
  ⟨World.ownsRow.kept h.row hg (ownBlock_ne h.row hr h1), fun q hq => World.ownsRow.kept (h.kids q hq) hg (ownBlock_ne (h.kids q hq) hr h2)⟩
theorem OwnN.kept {w w' : World} {base base' : Nat} {v v2 : Value} {l : List Nd} {e : TypeId} {s n : Nat} {xs : List Value} (h : OwnN w base v l) (hg : w.grownBy w' v2.ownBlock) (hr : w.ownsRow base' e s v2 n xs) (h1 : 41 ≠ e) (h2 : 3 ≠ e) : OwnN w' base v l :=
  let ⟨p, h3, h4⟩ := h; ⟨p, h3, h4.kept hg hr h1 h2⟩

/-- Lists of lists of the call's own; pvs: the slices. -/
structure OwnLs (w : World) (base : Nat) (v : Value) (ps : List (List Nd)) (pvs : List Value) : Prop where
  len : pvs.length = ps.length
  row : w.ownsRow base 22 1 v ps.length pvs
  each : ∀ i, i < ps.length → OwnN w base (pvs.getD i (.slice none 0 0)) (ps.getD i [])

theorem OwnLs.snoc {w w1 : World} {base : Nat} {v v' : Value} {ps : List (List Nd)} {pvs : List Value} {l : List Nd} {pv : Value} (h : OwnLs w base v ps pvs) (hl : OwnN w base pv l)
    (hown : w1.ownsRow base 22 1 v' (ps.length + 1) (pvs ++ [pv])) (hg : w.grownBy w1 v.ownBlock) : OwnLs w1 base v' (ps ++ [l]) (pvs ++ [pv]) := by
  have hlen := h.len
  refine ⟨by simp [hlen], by simpa using hown, fun i hi => ?_⟩
  by_cases hlt : i < ps.length
  · have e1 : (pvs ++ [pv]).getD i (.slice none 0 0) = pvs.getD i (.slice none 0 0) := by simp only [List.getD_eq_getElem?_getD]; rw [List.getElem?_append_left (by omega)]
    have e2 : (ps ++ [l]).getD i [] = ps.getD i [] := by simp only [List.getD_eq_getElem?_getD]; rw [List.getElem?_append_left (by omega)]
    rw [e1, e2]
    exact (h.each i hlt).kept hg h.row (by decide) (by decide)
  · have he : i = ps.length := by simp at hi; omega
    have e1 : (pvs ++ [pv]).getD i (.slice none 0 0) = pv := by rw [he, ← hlen]; simp
    have e2 : (ps ++ [l]).getD i [] = l := by rw [he]; simp
    rw [e1, e2]
    exact hl.kept hg h.row (by decide) (by decide)

theorem OwnLs.below {w w' : World} {base : Nat} {v : Value} {ps : List (List Nd)} {pvs : List Value} (h : OwnLs w base v ps pvs) (hb : Below w.heap.size w w') : OwnLs w' base v ps pvs :=
  ⟨h.len, ownsRow_below h.row hb, fun i hi => (h.each i hi).below hb⟩

end Go.Proofs.YtlbmijcpalfaeaaGreatDoor

set_option linter.unusedSimpArgs false
set_option linter.unusedVariables false
namespace Go.Proofs.YtlbmijcpalfaeaaGreatDoor
open Go.RowKit Go.Lib

/-- Parts behind one another, and the places of their own nodes. -/
def accS (ps : List (List Nd)) : List Nd × List Int := ps.foldl (fun s p => (s.1 ++ p.map (mvN 0 s.1.length), s.2 ++ [((s.1.length + p.length : Nat) : Int) - 1])) ([], [])
theorem accS_snoc (ps : List (List Nd)) (p : List Nd) : accS (ps ++ [p]) = ((accS ps).1 ++ p.map (mvN 0 (accS ps).1.length), (accS ps).2 ++ [(((accS ps).1.length + p.length : Nat) : Int) - 1]) := by
  unfold accS; rw [List.foldl_append]; rfl
def joinL (op n : Int) (nm : ByteArray) (ps : List (List Nd)) : List Nd := (accS ps).1 ++ [⟨op, n, nm, (accS ps).2⟩]

theorem OwnP.form {w : World} {base : Nat} {v : Value} {p : List (Nd × Value)} (h : OwnP w base v p) : ∃ ao cap, v = .slice ao p.length cap := by
  obtain ⟨_, h2⟩ := h.row
  rcases h2 with ⟨rfl, h0⟩ | ⟨g, cap, cur, rfl, _⟩
  · exact ⟨none, 0, by rw [h0]⟩
  · exact ⟨_, cap, rfl⟩
end Go.Proofs.YtlbmijcpalfaeaaGreatDoor

set_option linter.unusedSimpArgs false
set_option linter.unusedVariables false
namespace Go.Proofs.YtlbmijcpalfaeaaGreatDoor

/-- The part whose own node stands at a kid's place. -/
def kidPart (l : List Nd) (fr : List Nat) (k : Int) : List Nd := partL l (fr.getD k.toNat 0) k.toNat


theorem cut_split (l : List Nd) (a b c : Nat) (hab : a ≤ b) (hbc : b ≤ c) : (l.drop a).take (c - a) = (l.drop a).take (b - a) ++ (l.drop b).take (c - b) := by
  have e : c - a = (b - a) + (c - b) := by omega
  rw [e, List.take_add, List.drop_drop]
  have e2 : a + (b - a) = b := by omega
  rw [e2]

theorem acc_parts {l : List Nd} {fr : List Nat} (h : BegOk l fr) : ∀ (r : List Int) (c c0 : Nat), c ≤ l.length → chainL fr r c = some c0 →
    accS ((r.reverse).map (kidPart l fr)) = (((l.drop c0).take (c - c0)).map (mvN 0 (-(c0 : Int))), r.reverse.map (· - (c0 : Int))) := by
  intro r
  induction r with
  | nil =>
    intro c c0 _ hc
    simp only [chainL, Option.some.injEq] at hc
    subst hc
    simp [accS]
  | cons k r ih =>
    intro c c0 hcl hc
    simp only [chainL] at hc
    split at hc
    · cases hc
    · rename_i hn
      have hlo := h.low (c - 1)
      have hle := chainL_le h.low _ _ _ hc
      have hi := ih _ c0 (by omega) hc
      have hk : k = ((c - 1 : Nat) : Int) := by omega
      have hkt : k.toNat = c - 1 := by omega
      rw [List.reverse_cons, List.map_append, List.map_cons, List.map_nil, accS_snoc, hi]
      have hins := kids_inside h (c - 1) (by omega)
      have hplen := partL_len l (fr.getD (c - 1) 0) (c - 1) (by omega) hlo
      have hkp : kidPart l fr k = partL l (fr.getD (c - 1) 0) (c - 1) := by unfold kidPart; rw [hkt]
      rw [hkp]
      generalize hb : fr.getD (c - 1) 0 = b at *
      have hAl : ((((l.drop c0).take (b - c0)).map (mvN 0 (-(c0 : Int)))).length) = b - c0 := by simp; omega
      have hpart : (partL l b (c - 1)).map (mvN 0 ((b - c0 : Nat) : Int)) = ((l.drop b).take (c - b)).map (mvN 0 (-(c0 : Int))) := by
        unfold partL
        have e : c - 1 + 1 - b = c - b := by omega
        rw [e, List.map_map]
        apply List.map_congr_left
        intro x hx
        obtain ⟨j, hj, rfl⟩ := List.getElem_of_mem hx
        have hj' : j < c - b := by simp at hj; omega
        have hgx : ((l.drop b).take (c - b))[j] = l.getD (b + j) nd0 := by
          have hlt : b + j < l.length := by omega
          simp [hlt]
        rw [hgx]
        have hin := hins (b + j) (by omega) (by omega)
        show mvN 0 ((b - c0 : Nat) : Int) (mvN 0 (-(b : Int)) (l.getD (b + j) nd0)) = mvN 0 (-(c0 : Int)) (l.getD (b + j) nd0)
        unfold mvN
        simp only [List.map_map, Nd.mk.injEq, true_and]
        apply List.map_congr_left
        intro q hq
        have := hin q hq
        show mvK 0 ((b - c0 : Nat) : Int) (mvK 0 (-(b : Int)) q) = mvK 0 (-(c0 : Int)) q
        have e1 : mvK 0 (-(b : Int)) q = q - b := by unfold mvK; rw [if_pos (by omega)]; omega
        rw [e1]
        unfold mvK
        rw [if_pos (by omega), if_pos (by omega)]
        omega
      rw [hAl, hpart]
      refine Prod.ext ?_ ?_
      · show _ ++ _ = _
        rw [cut_split l c0 b c (by omega) (by omega), List.map_append]
      · show _ ++ _ = (r.reverse ++ [k]).map _
        rw [List.map_append, hplen, hk]
        simp
        omega

/-- The expression at a place is its operator with its parts. -/
theorem part_join {l : List Nd} {fr : List Nat} (h : BegOk l fr) (i : Nat) (hi : i < l.length) :
    partL l (fr.getD i 0) i = joinL (l.getD i nd0).op (l.getD i nd0).n (l.getD i nd0).name ((l.getD i nd0).kids.map (kidPart l fr)) := by
  have hc := (h.at_ i hi).2
  have hlo := h.low i
  have hacc := acc_parts h _ i _ (by omega) hc
  rw [List.reverse_reverse] at hacc
  unfold joinL
  rw [hacc]
  have hk0 := ok_kids h i hi
  generalize fr.getD i 0 = a at *
  unfold partL
  have e : i + 1 - a = (i - a) + 1 := by omega
  have hlt : i - a < (l.drop a).length := by simp; omega
  rw [e, List.take_succ_eq_append_getElem hlt, List.map_append]
  congr 1
  have hg : (l.drop a)[i - a] = l.getD i nd0 := by
    have e2 : a + (i - a) = i := by omega
    simp [e2, hi]
  rw [hg]
  simp only [List.map_cons, List.map_nil, List.cons.injEq, and_true]
  unfold mvN
  simp only [Nd.mk.injEq, true_and]
  apply List.map_congr_left
  intro k hk
  have := hk0 k hk
  unfold mvK
  rw [if_pos this]; omega

/-- The whole, made of its parts again. -/
theorem whole_join {l : List Nd} {fr : List Nat} (hb : begL l = some fr) :
    joinL (l.getD (l.length - 1) nd0).op (l.getD (l.length - 1) nd0).n (l.getD (l.length - 1) nd0).name ((l.getD (l.length - 1) nd0).kids.map (kidPart l fr)) = l := by
  obtain ⟨h0, _, hr, ht⟩ := begL_some hb
  have hok := begOk_of hr
  rw [← part_join hok (l.length - 1) (by omega), ht]
  unfold partL
  have e : l.length - 1 + 1 - 0 = l.length := by omega
  rw [e]
  simp [map_mvN_zero]
end Go.Proofs.YtlbmijcpalfaeaaGreatDoor

set_option linter.unusedSimpArgs false
set_option linter.unusedVariables false
namespace Go.Proofs.YtlbmijcpalfaeaaGreatDoor

/-- The entry of a number. -/
def edA (L : List Nd) (i : Nat) : Nd := L.getD i nd0
theorem edA_lt {L : List Nd} {i : Nat} (h : i < L.length) : edA L i = L[i] := by simp [edA, h]
theorem edA_app {L M : List Nd} {i : Nat} (h : i < L.length) : edA (L ++ M) i = edA L i := by
  unfold edA; rw [List.getD_eq_getElem?_getD, List.getElem?_append_left h, List.getD_eq_getElem?_getD]
theorem edA_end (L : List Nd) (x : Nd) : edA (L ++ [x]) L.length = x := by simp [edA]
theorem edA_mem {L : List Nd} {i : Nat} (h : i < L.length) : edA L i ∈ L := by rw [edA_lt h]; exact List.getElem_mem h

/-- What is true of a table's entries. -/
structure TbI (L : List Nd) : Prop where
  form : ∀ i, i < L.length → formB (edA L i) = true
  kids : ∀ i, i < L.length → ∀ k ∈ (edA L i).kids, 0 ≤ k ∧ k < (i : Int)
  nodup : L.Nodup
  le : L.length ≤ 1048576
theorem TbI.nil : TbI [] := ⟨fun i h => by simp at h, fun i h => by simp at h, List.nodup_nil, by simp⟩
theorem TbI.snoc {L : List Nd} {x : Nd} (h : TbI L) (hf : formB x = true) (hk : ∀ k ∈ x.kids, 0 ≤ k ∧ k < (L.length : Int)) (hn : x ∉ L) (hl : L.length < 1048576) : TbI (L ++ [x]) := by
  refine ⟨fun i hi => ?_, fun i hi => ?_, ?_, by simp; omega⟩
  · simp at hi
    rcases Nat.lt_or_ge i L.length with h1 | h1
    · rw [edA_app h1]; exact h.form i h1
    · obtain rfl : i = L.length := by omega
      rw [edA_end]; exact hf
  · simp at hi
    rcases Nat.lt_or_ge i L.length with h1 | h1
    · rw [edA_app h1]; exact h.kids i h1
    · obtain rfl : i = L.length := by omega
      rw [edA_end]; exact hk
  · rw [List.nodup_append]
    refine ⟨h.nodup, by simp, fun a ha b hb e => ?_⟩
    simp at hb
    subst hb
    subst e
    exact hn ha
theorem TbI.take {L : List Nd} (h : TbI L) (n : Nat) : TbI (L.take n) := by
  have e : ∀ i, i < (L.take n).length → edA (L.take n) i = edA L i := fun i hi => by
    unfold edA
    simp at hi
    rw [List.getD_eq_getElem?_getD, List.getElem?_take, if_pos (by omega), List.getD_eq_getElem?_getD]
  refine ⟨fun i hi => ?_, fun i hi => ?_, h.nodup.sublist (List.take_sublist _ _), by simp; have := h.le; omega⟩
  · rw [e i hi]; exact h.form i (by simp at hi; omega)
  · rw [e i hi]; exact h.kids i (by simp at hi; omega)

/-- The number of a node. -/
def ixL (L : List Nd) (x : Nd) : Option Nat := if x ∈ L then some (L.idxOf x) else none
theorem ixL_at {L : List Nd} {x : Nd} {i : Nat} (h : ixL L x = some i) : i < L.length ∧ edA L i = x := by
  unfold ixL at h
  split at h
  · rename_i hm
    have hl := List.idxOf_lt_length_of_mem hm
    cases h
    refine ⟨hl, ?_⟩
    rw [edA_lt hl]
    exact List.getElem_idxOf hl
  · cases h
theorem nodup_at {L : List Nd} (hn : L.Nodup) {i j : Nat} (hi : i < L.length) (hj : j < L.length) (h : edA L i = edA L j) : i = j := by
  rw [edA_lt hi, edA_lt hj] at h
  have hp := List.pairwise_iff_getElem.1 (List.nodup_iff_pairwise_ne.1 hn)
  rcases Nat.lt_trichotomy i j with h1 | h1 | h1
  · exact absurd h (hp i j hi hj h1)
  · exact h1
  · exact absurd h.symm (hp j i hj hi h1)
theorem ixL_of {L : List Nd} (hn : L.Nodup) {x : Nd} {i : Nat} (hi : i < L.length) (hx : edA L i = x) : ixL L x = some i := by
  have hm : x ∈ L := by rw [← hx]; exact edA_mem hi
  unfold ixL
  rw [if_pos hm]
  have hl := List.idxOf_lt_length_of_mem hm
  have : edA L (L.idxOf x) = x := by rw [edA_lt hl]; exact List.getElem_idxOf hl
  rw [nodup_at hn hl hi (this.trans hx.symm)]
theorem ixL_none {L : List Nd} {x : Nd} : ixL L x = none ↔ x ∉ L := by
  unfold ixL; split <;> simp_all
theorem ixL_nil (x : Nd) : ixL [] x = none := by simp [ixL]

/-- Sizes: of kids onto a size; of all entries. -/
def szK (S : List Nat) : Nat → List Int → Nat
  | s, [] => s
  | s, k :: r => szK S (min 1073741824 (s + S.getD k.toNat 0)) r
def szR (S : List Nat) : List Nd → List Nat
  | [] => S
  | x :: r => szR (S ++ [szK S 1 x.kids]) r
def szL (L : List Nd) : List Nat := szR [] L
theorem szR_app (S : List Nat) (L M : List Nd) : szR S (L ++ M) = szR (szR S L) M := by
  induction L generalizing S with
  | nil => rfl
  | cons x r ih => exact ih _
theorem szL_snoc (L : List Nd) (x : Nd) : szL (L ++ [x]) = szL L ++ [szK (szL L) 1 x.kids] := by
  unfold szL; rw [szR_app]; rfl
theorem szR_len (S : List Nat) (L : List Nd) : (szR S L).length = S.length + L.length := by
  induction L generalizing S with
  | nil => rfl
  | cons x r ih => rw [szR, ih]; simp; omega
theorem szL_len (L : List Nd) : (szL L).length = L.length := by unfold szL; rw [szR_len]; simp
theorem szR_lt (S : List Nat) (L : List Nd) {i : Nat} (h : i < S.length) : (szR S L).getD i 0 = S.getD i 0 := by
  induction L generalizing S with
  | nil => rfl
  | cons x r ih =>
    rw [szR, ih _ (by simp; omega), List.getD_eq_getElem?_getD, List.getElem?_append_left h, List.getD_eq_getElem?_getD]
theorem szL_app {L M : List Nd} {i : Nat} (h : i < L.length) : (szL (L ++ M)).getD i 0 = (szL L).getD i 0 := by
  unfold szL; rw [szR_app]; exact szR_lt _ _ (by rw [szR_len]; simp; omega)
theorem szL_end (L : List Nd) (x : Nd) : (szL (L ++ [x])).getD L.length 0 = szK (szL L) 1 x.kids := by
  rw [szL_snoc]
  have := szL_len L
  simp [List.getD_eq_getElem?_getD, this]
theorem szK_le (S : List Nat) : ∀ (ks : List Int) (s : Nat), s ≤ 1073741824 → szK S s ks ≤ 1073741824
  | [], s, h => h
  | k :: r, s, _ => szK_le S r _ (Nat.min_le_left _ _)
theorem szK_snoc (S : List Nat) : ∀ (ks : List Int) (s : Nat) (k : Int), szK S s (ks ++ [k]) = min 1073741824 (szK S s ks + S.getD k.toNat 0)
  | [], s, k => rfl
  | a :: r, s, k => szK_snoc S r _ k
theorem szL_take (L : List Nd) : ∀ i, i < L.length → (szL L).getD i 0 = szK (szL (L.take i)) 1 (edA L i).kids := by
  intro i hi
  have e : L = (L.take i ++ [edA L i]) ++ L.drop (i + 1) := by
    rw [edA_lt hi, ← List.take_succ_eq_append_getElem hi, List.take_append_drop]
  have hl : (L.take i).length = i := by simp; omega
  conv => lhs; rw [e]
  rw [szL_app (by simp; omega)]
  have := szL_end (L.take i) (edA L i)
  rw [hl] at this
  exact this
theorem szL_bd (L : List Nd) (i : Nat) : (szL L).getD i 0 ≤ 1073741824 := by
  rcases Nat.lt_or_ge i L.length with h | h
  · rw [szL_take L i h]; exact szK_le _ _ _ (by omega)
  · rw [List.getD_eq_getElem?_getD, List.getElem?_eq_none (by rw [szL_len]; exact h)]; simp
/-- The expressions that the entries stand for. -/
def exJ (E : List (List Nd)) (x : Nd) : List Nd := joinL x.op x.n x.name (x.kids.map fun k => E.getD k.toNat [])
def exR (E : List (List Nd)) : List Nd → List (List Nd)
  | [] => E
  | x :: r => exR (E ++ [exJ E x]) r
def exT (L : List Nd) : List (List Nd) := exR [] L
def exA (L : List Nd) (i : Nat) : List Nd := (exT L).getD i []
theorem exR_app (E : List (List Nd)) (L M : List Nd) : exR E (L ++ M) = exR (exR E L) M := by
  induction L generalizing E with
  | nil => rfl
  | cons x r ih => exact ih _
theorem exT_snoc (L : List Nd) (x : Nd) : exT (L ++ [x]) = exT L ++ [exJ (exT L) x] := by
  unfold exT; rw [exR_app]; rfl
theorem exR_len (E : List (List Nd)) (L : List Nd) : (exR E L).length = E.length + L.length := by
  induction L generalizing E with
  | nil => rfl
  | cons x r ih => rw [exR, ih]; simp; omega
theorem exT_len (L : List Nd) : (exT L).length = L.length := by unfold exT; rw [exR_len]; simp
theorem exR_lt (E : List (List Nd)) (L : List Nd) {i : Nat} (h : i < E.length) : (exR E L).getD i [] = E.getD i [] := by
  induction L generalizing E with
  | nil => rfl
  | cons x r ih =>
    rw [exR, ih _ (by simp; omega), List.getD_eq_getElem?_getD, List.getElem?_append_left h, List.getD_eq_getElem?_getD]
theorem exA_app {L M : List Nd} {i : Nat} (h : i < L.length) : exA (L ++ M) i = exA L i := by
  unfold exA exT; rw [exR_app]; exact exR_lt _ _ (by rw [exR_len]; simp; omega)
theorem exA_end (L : List Nd) (x : Nd) : exA (L ++ [x]) L.length = exJ (exT L) x := by
  unfold exA
  rw [exT_snoc]
  have := exT_len L
  simp [List.getD_eq_getElem?_getD, this]
theorem exA_at {L : List Nd} (h : TbI L) {i : Nat} (hi : i < L.length) : exA L i = joinL (edA L i).op (edA L i).n (edA L i).name ((edA L i).kids.map fun k => exA L k.toNat) := by
  have e : L = (L.take i ++ [edA L i]) ++ L.drop (i + 1) := by
    rw [edA_lt hi, ← List.take_succ_eq_append_getElem hi, List.take_append_drop]
  have hl : (L.take i).length = i := by simp; omega
  have h1 : exA L i = exJ (exT (L.take i)) (edA L i) := by
    conv => lhs; rw [e]
    rw [exA_app (by simp; omega)]
    have := exA_end (L.take i) (edA L i)
    rw [hl] at this
    exact this
  rw [h1]
  unfold exJ
  congr 1
  refine List.map_congr_left fun k hk => ?_
  have hk2 := h.kids i hi k hk
  show exA (L.take i) k.toNat = exA L k.toNat
  have e2 : L = L.take i ++ L.drop i := (List.take_append_drop _ _).symm
  conv => rhs; rw [e2]
  rw [exA_app (by omega)]
/-- The node of an expression as an entry: its kids by the numbers of the parts. -/
def adN (ids : List Nat) (x : Nd) : Nd := ⟨x.op, x.n, x.name, x.kids.map fun k => ((ids.getD k.toNat 0 : Nat) : Int)⟩
def stA (s : List Nd × List Nat) (x : Nd) : Option (List Nd × List Nat) :=
  match ixL s.1 (adN s.2 x) with
  | some i => some (s.1, s.2 ++ [i])
  | none => if s.1.length < 1048576 then some (s.1 ++ [adN s.2 x], s.2 ++ [s.1.length]) else none
def addR (s : List Nd × List Nat) : List Nd → Option (List Nd × List Nat)
  | [] => some s
  | x :: r => (stA s x).bind fun s' => addR s' r
theorem addR_app (s : List Nd × List Nat) (l m : List Nd) : addR s (l ++ m) = (addR s l).bind fun s' => addR s' m := by
  induction l generalizing s with
  | nil => rfl
  | cons x r ih =>
    show (stA s x).bind (fun s' => addR s' (r ++ m)) = _
    cases h : stA s x with
    | none => simp [addR, h]
    | some s' => simp [addR, h, ih]
theorem addR_one (s : List Nd × List Nat) (x : Nd) : addR s [x] = stA s x := by
  show (stA s x).bind (fun s' => some s') = _
  cases stA s x <;> rfl

/-- Each node of e is an entry, its kids by the numbers of the parts. -/
structure Fnd (L : List Nd) (e : List Nd) (ids : List Nat) : Prop where
  len : ids.length = e.length
  at_ : ∀ j, j < e.length → ids.getD j 0 < L.length ∧ edA L (ids.getD j 0) = adN ids (e.getD j nd0)
theorem Fnd.more {L M e : List Nd} {ids : List Nat} (h : Fnd L e ids) : Fnd (L ++ M) e ids :=
  ⟨h.len, fun j hj => ⟨by have := (h.at_ j hj).1; rw [List.length_append]; omega, by rw [edA_app (h.at_ j hj).1]; exact (h.at_ j hj).2⟩⟩
theorem adN_congr {ids ids' : List Nat} {x : Nd} (h : ∀ k ∈ x.kids, ids.getD k.toNat 0 = ids'.getD k.toNat 0) : adN ids x = adN ids' x := by
  unfold adN
  congr 1
  exact List.map_congr_left fun k hk => by rw [h k hk]
theorem getD_snocN {ids : List Nat} {i j : Nat} (h : j < ids.length) : (ids ++ [i]).getD j 0 = ids.getD j 0 := by
  rw [List.getD_eq_getElem?_getD, List.getElem?_append_left h, List.getD_eq_getElem?_getD]
theorem getD_endN (ids : List Nat) (i : Nat) : (ids ++ [i]).getD ids.length 0 = i := by simp
theorem take_at {e : List Nd} {j i : Nat} (h : i < j) : (e.take j).getD i nd0 = e.getD i nd0 := by
  rw [List.getD_eq_getElem?_getD, List.getElem?_take, if_pos h, List.getD_eq_getElem?_getD]
/-- One node more. -/
theorem Fnd.snoc {L e : List Nd} {ids : List Nat} {j i : Nat} (hl : KidsLo e) (hj : j < e.length) (h : Fnd L (e.take j) ids) (hi : i < L.length) (he : edA L i = adN ids (e.getD j nd0)) : Fnd L (e.take (j + 1)) (ids ++ [i]) := by
  have hn := h.len
  have ht : (e.take j).length = j := by simp; omega
  have ht1 : (e.take (j + 1)).length = j + 1 := by simp; omega
  have hc : ∀ q, q ≤ j → adN ids (e.getD q nd0) = adN (ids ++ [i]) (e.getD q nd0) := fun q hq => adN_congr fun k hk => by
    have := hl q (by omega) k hk
    rw [getD_snocN (by omega)]
  refine ⟨by simp [hn]; omega, fun q hq => ?_⟩
  rw [ht1] at hq
  rw [take_at (by omega), ← hc q (by omega)]
  rcases Nat.lt_or_ge q j with h1 | h1
  · rw [getD_snocN (by omega)]
    have := h.at_ q (by omega)
    rw [take_at h1] at this
    exact this
  · obtain rfl : q = ids.length := by omega
    rw [getD_endN]
    have e0 : ids.length = j := by omega
    rw [e0]
    exact ⟨hi, he⟩
theorem addR_snoc (s : List Nd × List Nat) (e : List Nd) {j : Nat} (hj : j < e.length) : addR s (e.take (j + 1)) = (addR s (e.take j)).bind fun s' => stA s' (e.getD j nd0) := by
  have : e.take (j + 1) = e.take j ++ [e.getD j nd0] := by
    rw [List.take_succ_eq_append_getElem hj]; simp [hj]
  rw [this, addR_app]
  cases addR s (e.take j) with
  | none => rfl
  | some s' => exact addR_one _ _
/-- What the entries stand for: the parts. -/
theorem Fnd.ex {L e : List Nd} {ids : List Nat} {fr : List Nat} (hI : TbI L) (hb : BegOk e fr) (h : Fnd L e ids) : ∀ j, j < e.length → exA L (ids.getD j 0) = partL e (fr.getD j 0) j := by
  intro j
  induction j using Nat.strongRecOn with
  | ind j ih =>
    intro hj
    obtain ⟨h1, h2⟩ := h.at_ j hj
    rw [exA_at hI h1, h2, part_join hb j hj]
    show joinL _ _ _ (((e.getD j nd0).kids.map fun k => ((ids.getD k.toNat 0 : Nat) : Int)).map fun k => exA L k.toNat) = _
    rw [List.map_map]
    have e3 : ((e.getD j nd0).kids.map ((fun k => exA L k.toNat) ∘ fun k => ((ids.getD k.toNat 0 : Nat) : Int))) = (e.getD j nd0).kids.map (kidPart e fr) := by
      refine List.map_congr_left fun k hk => ?_
      have := kidsLo_ok hb j hj k hk
      show exA L (ids.getD k.toNat 0) = kidPart e fr k
      rw [ih k.toNat (by omega) (by omega)]
      rfl
    rw [e3]
    rfl
theorem Fnd.whole {L e : List Nd} {ids : List Nat} {fr : List Nat} (hI : TbI L) (hb : begL e = some fr) (h : Fnd L e ids) : exA L (ids.getD (e.length - 1) 0) = e := by
  obtain ⟨h0, _, hr, ht⟩ := begL_some hb
  have hok := begOk_of hr
  rw [h.ex hI hok (e.length - 1) (by omega), part_join hok _ (by omega), whole_join hb]
end Go.Proofs.YtlbmijcpalfaeaaGreatDoor
