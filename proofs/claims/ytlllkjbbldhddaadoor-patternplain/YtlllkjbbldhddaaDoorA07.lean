/-
  ExAddP, ExMakW, ExDecPure, PaP, PaF.
-/
import Derived.Shelf.Unicode.DecodeSlow
import Derived.Laws.RangeAny
import Derived.Shelf.Unicode.DecodeAny
import Derived.Test.YtlllkjbbldhddaaDoorProg
import Derived.WalkKit
import Derived.Deep.DeepFit
import Derived.Lib.OthersKept
import Derived.Lib.RuneCountTail
import Derived.Deep.AppendLies
import Derived.Deep.OwnRows
import Derived.Laws.AppendOwnNone
import Derived.Deep.QuietTactic
import Derived.BigQuiet
import Derived.Deep.RegionWith
import Derived.Laws.DeepStrings4
import Derived.Lib.MapLaws
import Derived.Sort.Walk0
import Derived.Lib.ItoaNum
import Derived.Test.YtlllkjbbldhddaaDoorA01
import Derived.Test.YtlllkjbbldhddaaDoorA02
import Derived.Test.YtlllkjbbldhddaaDoorA03
import Derived.Test.YtlllkjbbldhddaaDoorA04
import Derived.Test.YtlllkjbbldhddaaDoorA05
import Derived.Test.YtlllkjbbldhddaaDoorA06
set_option linter.unusedSimpArgs false
set_option linter.unusedVariables false
namespace Go.Proofs.YtlllkjbbldhddaaDoor
open Go.RowKit Go.Lib

/-- In the middle of it. -/
structure AddMid (w : World) (base : Nat) (v : Value) (p : List (Nd × Value)) (ms : List Nd) (x : Value) (wr : World) : Prop where
  ex : ∃ p', OwnP wr base x (p ++ p') ∧ p'.map (·.1) = ms ∧ (∀ q ∈ p', OwnI wr w.heap.size q.2 q.1.kids) ∧ w.grownBy wr v.ownBlock ∧ (x.ownBlock = v.ownBlock ∨ ∀ g, x.ownBlock = some g → w.heap.size ≤ g) ∧ Below base w wr

theorem AddMid.start {w : World} {base : Nat} {v : Value} {p : List (Nd × Value)} (h : OwnP w base v p) : AddMid w base v p [] v w :=
  ⟨⟨[], by simpa using h, rfl, by simp, World.grownBy.refl _ _, .inl rfl, Below.refl _ _⟩⟩

/-- One node more: its kids are owned (new since wr), the append has gone through. -/
theorem AddMid.snoc {w : World} {base : Nat} {v x : Value} {p p' : List (Nd × Value)} {ms : List Nd} {wr W w1 : World} {y : Nd} {kv : Value} {g n cap : Nat} (hP : OwnP wr base x (p ++ p')) (hm : p'.map (·.1) = ms) (hkid : ∀ q ∈ p', OwnI wr w.heap.size q.2 q.1.kids) (hgr : w.grownBy wr v.ownBlock) (hx : x.ownBlock = v.ownBlock ∨ ∀ g, x.ownBlock = some g → w.heap.size ≤ g) (hB : Below base w wr)
    (hbase : base ≤ w.heap.size) (hBW : Below wr.heap.size wr W) (hk : OwnI W wr.heap.size kv y.kids) (hn : n = (p ++ p').length)
    (hown : w1.ownsRow base 63 4 (.slice (some ⟨g, 0, none⟩) (n + 1) cap) (n + 1) (ndCells (p ++ p') ++ [.int .i64 y.op, .int .i64 y.n, .string y.name, kv])) (hg : W.grownBy w1 x.ownBlock) (hat : x.ownBlock = some g ∨ g = W.heap.size) :
    AddMid w base v p (ms ++ [y]) (.slice (some ⟨g, 0, none⟩) (n + 1) cap) w1 := by
  have hsz : w.heap.size ≤ wr.heap.size := hgr.size
  have hPW := hP.below hBW
  have hkb : OwnI W base kv y.kids := ownsRow_mono hk (by omega)
  refine ⟨⟨p' ++ [(y, kv)], ?_, by simp [hm], fun q hq => ?_, ?_, ?_, ?_⟩⟩
  · rw [← List.append_assoc]
    subst hn
    exact hPW.snoc hkb hown hg
  · rcases List.mem_append.1 hq with hq | hq
    · have h1 := (hkid q hq).below hBW
      exact World.ownsRow.kept h1 hg (ownBlock_ne h1 hPW.row (by decide))
    · simp at hq; subst hq
      exact ownsRow_mono (World.ownsRow.kept hk hg (ownBlock_ne hk hPW.row (by decide))) hsz
  · refine ⟨hg.os.trans (hBW.os.trans hgr.os), hg.tape.trans (hBW.tape.trans hgr.tape), hg.output.trans (hBW.output.trans hgr.output), Nat.le_trans hsz (Nat.le_trans hBW.size hg.size), fun k hk1 hk2 => ?_⟩
    rw [hg.block k (by have := hBW.size; omega) (fun he => by
      rcases hx with hx | hx
      · rw [hx] at he; exact hk2 he
      · have := hx k he.symm; omega), hBW.block k (by omega), hgr.block k hk1 hk2]
  · rcases hat with hat | hat
    · rcases hx with hx | hx
      · left; show some g = v.ownBlock; rw [← hx, hat]
      · right; intro g' hg'; have e : g = g' := Option.some.inj hg'; have := hx g hat; omega
    · right; intro g' hg'; have e : g = g' := Option.some.inj hg'; have := hBW.size; omega
  · exact (hB.trans (hBW.mono (by omega))).grown hg (by have := hBW.size; omega) (fun k hk => (hPW.row.lt k hk).1)

end Go.Proofs.YtlllkjbbldhddaaDoor

namespace Go.Proofs.YtlllkjbbldhddaaDoor
open Go.RowKit Go.Lib

/-- The slice v reads as the lists ps, in blocks below B. -/
def Lst (w : World) (B : Nat) (v : Value) (ps : List (List Nd)) : Prop :=
  ∃ ao cap, v = .slice ao ps.length cap ∧ ps.length ≤ cap ∧ cap ≤ maxLen ∧ (ps = [] ∨ ∃ b o, ao = some ⟨b, o, none⟩ ∧ b < B ∧ ∀ i, i < ps.length → ∃ pv, w.cell? ⟨b, o + i, none⟩ = some pv ∧ Nodes w B pv (ps.getD i []))

theorem Lst.below {w w' : World} {B B' : Nat} {v : Value} {ps : List (List Nd)} (h : Lst w B v ps) (hb : Below B w w') (hB : B ≤ B') : Lst w' B' v ps := by
  obtain ⟨ao, cap, rfl, h1, h2, h3⟩ := h
  refine ⟨ao, cap, rfl, h1, h2, ?_⟩
  rcases h3 with h3 | ⟨b, o, rfl, hlt, hc⟩
  · exact .inl h3
  · exact .inr ⟨b, o, rfl, by omega, fun i hi => let ⟨pv, h4, h5⟩ := hc i hi; ⟨pv, (hb.cell (p := ⟨b, o + i, none⟩) hlt).trans h4, h5.below hb hB⟩⟩

theorem OwnP.kept {w w' : World} {base base' : Nat} {v v2 : Value} {p : List (Nd × Value)} {e : TypeId} {s n : Nat} {xs : List Value} (h : OwnP w base v p) (hg : w.grownBy w' v2.ownBlock) (hr : w.ownsRow base' e s v2 n xs) (h1 : 63 ≠ e) (h2 : 3 ≠ e) : OwnP w' base v p :=
  ⟨World.ownsRow.kept h.row hg (ownBlock_ne h.row hr h1), fun q hq => World.ownsRow.kept (h.kids q hq) hg (ownBlock_ne (h.kids q hq) hr h2)⟩
theorem OwnN.kept {w w' : World} {base base' : Nat} {v v2 : Value} {l : List Nd} {e : TypeId} {s n : Nat} {xs : List Value} (h : OwnN w base v l) (hg : w.grownBy w' v2.ownBlock) (hr : w.ownsRow base' e s v2 n xs) (h1 : 63 ≠ e) (h2 : 3 ≠ e) : OwnN w' base v l :=
  let ⟨p, h3, h4⟩ := h; ⟨p, h3, h4.kept hg hr h1 h2⟩

/-- Lists of lists of the call's own; pvs: the slices. -/
structure OwnLs (w : World) (base : Nat) (v : Value) (ps : List (List Nd)) (pvs : List Value) : Prop where
  len : pvs.length = ps.length
  row : w.ownsRow base 22 1 v ps.length pvs
  each : ∀ i, i < ps.length → OwnN w base (pvs.getD i (.slice none 0 0)) (ps.getD i [])

theorem OwnLs.snoc {w w1 : World} {base : Nat} {v v' : Value} {ps : List (List Nd)} {pvs : List Value} {l : List Nd} {pv : Value} (h : OwnLs w base v ps pvs) (hl : OwnN w base pv l)
    (hown : w1.ownsRow base 22 1 v' (ps.length + 1) (pvs ++ [pv])) (hg : w.grownBy w1 v.ownBlock) : OwnLs w1 base v' (ps ++ [l]) (pvs ++ [pv]) := by
  have hlen := h.len
  refine ⟨by simp [hlen], by simpa using hown, fun i hi => ?_⟩
  by_cases hlt : i < ps.length
  · have e1 : (pvs ++ [pv]).getD i (.slice none 0 0) = pvs.getD i (.slice none 0 0) := by simp only [List.getD_eq_getElem?_getD]; rw [List.getElem?_append_left (by omega)]
    have e2 : (ps ++ [l]).getD i [] = ps.getD i [] := by simp only [List.getD_eq_getElem?_getD]; rw [List.getElem?_append_left (by omega)]
    rw [e1, e2]
    exact (h.each i hlt).kept hg h.row (by decide) (by decide)
  · have he : i = ps.length := by simp at hi; omega
    have e1 : (pvs ++ [pv]).getD i (.slice none 0 0) = pv := by rw [he, ← hlen]; simp
    have e2 : (ps ++ [l]).getD i [] = l := by rw [he]; simp
    rw [e1, e2]
    exact hl.kept hg h.row (by decide) (by decide)

theorem OwnLs.below {w w' : World} {base : Nat} {v : Value} {ps : List (List Nd)} {pvs : List Value} (h : OwnLs w base v ps pvs) (hb : Below w.heap.size w w') : OwnLs w' base v ps pvs :=
  ⟨h.len, ownsRow_below h.row hb, fun i hi => (h.each i hi).below hb⟩

theorem Tryd.infoNodes : (Tryd.prog.info? 22).map (fun i => (i.zero, i.size, i.bytes)) = some (some (.slice none 0 0), 1, 24) := by kernel_rfl
end Go.Proofs.YtlllkjbbldhddaaDoor

set_option linter.unusedSimpArgs false
set_option linter.unusedVariables false
namespace Go.Proofs.YtlllkjbbldhddaaDoor
open Go.RowKit Go.Lib

/-- Parts behind one another, and the places of their own nodes. -/
def accS (ps : List (List Nd)) : List Nd × List Int := ps.foldl (fun s p => (s.1 ++ p.map (mvN 0 s.1.length), s.2 ++ [((s.1.length + p.length : Nat) : Int) - 1])) ([], [])
theorem accS_snoc (ps : List (List Nd)) (p : List Nd) : accS (ps ++ [p]) = ((accS ps).1 ++ p.map (mvN 0 (accS ps).1.length), (accS ps).2 ++ [(((accS ps).1.length + p.length : Nat) : Int) - 1]) := by
  unfold accS; rw [List.foldl_append]; rfl
def joinL (op n : Int) (nm : ByteArray) (ps : List (List Nd)) : List Nd := (accS ps).1 ++ [⟨op, n, nm, (accS ps).2⟩]

theorem OwnP.form {w : World} {base : Nat} {v : Value} {p : List (Nd × Value)} (h : OwnP w base v p) : ∃ ao cap, v = .slice ao p.length cap := by
  obtain ⟨_, h2⟩ := h.row
  rcases h2 with ⟨rfl, h0⟩ | ⟨g, cap, cur, rfl, _⟩
  · exact ⟨none, 0, by rw [h0]⟩
  · exact ⟨_, cap, rfl⟩
end Go.Proofs.YtlllkjbbldhddaaDoor

set_option linter.unusedSimpArgs false
set_option linter.unusedVariables false
namespace Go.Proofs.YtlllkjbbldhddaaDoor

/-- The part whose own node stands at a kid's place. -/
def kidPart (l : List Nd) (fr : List Nat) (k : Int) : List Nd := partL l (fr.getD k.toNat 0) k.toNat


theorem cut_split (l : List Nd) (a b c : Nat) (hab : a ≤ b) (hbc : b ≤ c) : (l.drop a).take (c - a) = (l.drop a).take (b - a) ++ (l.drop b).take (c - b) := by
  have e : c - a = (b - a) + (c - b) := by omega
  rw [e, List.take_add, List.drop_drop]
  have e2 : a + (b - a) = b := by omega
  rw [e2]

theorem acc_parts {l : List Nd} {fr : List Nat} (h : BegOk l fr) : ∀ (r : List Int) (c c0 : Nat), c ≤ l.length → chainL fr r c = some c0 →
    accS ((r.reverse).map (kidPart l fr)) = (((l.drop c0).take (c - c0)).map (mvN 0 (-(c0 : Int))), r.reverse.map (· - (c0 : Int))) := by
  intro r
  induction r with
  | nil =>
    intro c c0 _ hc
    simp only [chainL, Option.some.injEq] at hc
    subst hc
    simp [accS]
  | cons k r ih =>
    intro c c0 hcl hc
    simp only [chainL] at hc
    split at hc
    · cases hc
    · rename_i hn
      have hlo := h.low (c - 1)
      have hle := chainL_le h.low _ _ _ hc
      have hi := ih _ c0 (by omega) hc
      have hk : k = ((c - 1 : Nat) : Int) := by omega
      have hkt : k.toNat = c - 1 := by omega
      rw [List.reverse_cons, List.map_append, List.map_cons, List.map_nil, accS_snoc, hi]
      have hins := kids_inside h (c - 1) (by omega)
      have hplen := partL_len l (fr.getD (c - 1) 0) (c - 1) (by omega) hlo
      have hkp : kidPart l fr k = partL l (fr.getD (c - 1) 0) (c - 1) := by unfold kidPart; rw [hkt]
      rw [hkp]
      generalize hb : fr.getD (c - 1) 0 = b at *
      have hAl : ((((l.drop c0).take (b - c0)).map (mvN 0 (-(c0 : Int)))).length) = b - c0 := by simp; omega
      have hpart : (partL l b (c - 1)).map (mvN 0 ((b - c0 : Nat) : Int)) = ((l.drop b).take (c - b)).map (mvN 0 (-(c0 : Int))) := by
        unfold partL
        have e : c - 1 + 1 - b = c - b := by omega
        rw [e, List.map_map]
        apply List.map_congr_left
        intro x hx
        obtain ⟨j, hj, rfl⟩ := List.getElem_of_mem hx
        have hj' : j < c - b := by simp at hj; omega
        have hgx : ((l.drop b).take (c - b))[j] = l.getD (b + j) nd0 := by
          have hlt : b + j < l.length := by omega
          simp [hlt]
        rw [hgx]
        have hin := hins (b + j) (by omega) (by omega)
        show mvN 0 ((b - c0 : Nat) : Int) (mvN 0 (-(b : Int)) (l.getD (b + j) nd0)) = mvN 0 (-(c0 : Int)) (l.getD (b + j) nd0)
        unfold mvN
        simp only [List.map_map, Nd.mk.injEq, true_and]
        apply List.map_congr_left
        intro q hq
        have := hin q hq
        show mvK 0 ((b - c0 : Nat) : Int) (mvK 0 (-(b : Int)) q) = mvK 0 (-(c0 : Int)) q
        have e1 : mvK 0 (-(b : Int)) q = q - b := by unfold mvK; rw [if_pos (by omega)]; omega
        rw [e1]
        unfold mvK
        rw [if_pos (by omega), if_pos (by omega)]
        omega
      rw [hAl, hpart]
      refine Prod.ext ?_ ?_
      · show _ ++ _ = _
        rw [cut_split l c0 b c (by omega) (by omega), List.map_append]
      · show _ ++ _ = (r.reverse ++ [k]).map _
        rw [List.map_append, hplen, hk]
        simp
        omega

/-- The expression at a place is its operator with its parts. -/
theorem part_join {l : List Nd} {fr : List Nat} (h : BegOk l fr) (i : Nat) (hi : i < l.length) :
    partL l (fr.getD i 0) i = joinL (l.getD i nd0).op (l.getD i nd0).n (l.getD i nd0).name ((l.getD i nd0).kids.map (kidPart l fr)) := by
  have hc := (h.at_ i hi).2
  have hlo := h.low i
  have hacc := acc_parts h _ i _ (by omega) hc
  rw [List.reverse_reverse] at hacc
  unfold joinL
  rw [hacc]
  have hk0 := ok_kids h i hi
  generalize fr.getD i 0 = a at *
  unfold partL
  have e : i + 1 - a = (i - a) + 1 := by omega
  have hlt : i - a < (l.drop a).length := by simp; omega
  rw [e, List.take_succ_eq_append_getElem hlt, List.map_append]
  congr 1
  have hg : (l.drop a)[i - a] = l.getD i nd0 := by
    have e2 : a + (i - a) = i := by omega
    simp [e2, hi]
  rw [hg]
  simp only [List.map_cons, List.map_nil, List.cons.injEq, and_true]
  unfold mvN
  simp only [Nd.mk.injEq, true_and]
  apply List.map_congr_left
  intro k hk
  have := hk0 k hk
  unfold mvK
  rw [if_pos this]; omega

end Go.Proofs.YtlllkjbbldhddaaDoor

set_option linter.unusedSimpArgs false
set_option linter.unusedVariables false
namespace Go.Proofs.YtlllkjbbldhddaaDoor

abbrev Hd := Int × Int × ByteArray
def hd (x : Nd) : Hd := (x.op, x.n, x.name)
def hds (l : List Nd) : List Hd := l.map hd
theorem hds_len (l : List Nd) : (hds l).length = l.length := by simp [hds]
theorem hds_app (l m : List Nd) : hds (l ++ m) = hds l ++ hds m := by simp [hds]
theorem hd_mv (f b : Int) (x : Nd) : hd (mvN f b x) = hd x := rfl
theorem hds_mv (f b : Int) (l : List Nd) : hds (l.map (mvN f b)) = hds l := by simp [hds, Function.comp_def, hd_mv]
theorem hds_part (l : List Nd) (a i : Nat) : hds (partL l a i) = ((hds l).drop a).take (i + 1 - a) := by
  unfold partL; rw [hds_mv]; simp [hds]
theorem hds_put (l m : List Nd) (a i : Nat) : hds (putL l a i m) = (hds l).take a ++ hds m ++ (hds l).drop (i + 1) := by
  unfold putL; rw [hds_app, hds_app, hds_mv, hds_mv, hds_mv]; simp [hds]

theorem chain_det {fr : List Nat} : ∀ (ks ms : List Int) (c a b : Nat), ks.length = ms.length → chainL fr ks c = some a → chainL fr ms c = some b → ks = ms ∧ a = b
  | [], [], c, a, b, _, h1, h2 => by simp [chainL] at h1 h2; exact ⟨rfl, by omega⟩
  | k :: ks, m :: ms, c, a, b, hl, h1, h2 => by
    simp only [chainL] at h1 h2
    split at h1
    · cases h1
    · split at h2
      · cases h2
      · obtain ⟨e1, e2⟩ := chain_det ks ms _ _ _ (by simpa using hl) h1 h2
        have : k = m := by omega
        exact ⟨by rw [this, e1], e2⟩
theorem form_ar {x : Nd} (h : formB x = true) : (x.kids.length : Int) = aritI x.op := by
  unfold formB fitB at h
  simp only [Bool.and_eq_true, decide_eq_true_eq] at h
  exact h.1.1.2
theorem stp_det {fr f g : List Nat} {x y : Nd} (h : stp fr x = some f) (h' : stp fr y = some g) (he : hd x = hd y) : x = y ∧ f = g := by
  obtain ⟨hf, a, hc, rfl⟩ := stp_some h
  obtain ⟨hg, b, hd', rfl⟩ := stp_some h'
  obtain ⟨o, n, nm, ks⟩ := x
  obtain ⟨o', n', nm', ks'⟩ := y
  simp only [hd, Prod.mk.injEq] at he
  obtain ⟨rfl, rfl, rfl⟩ := he
  have h1 := form_ar hf
  have h2 := form_ar hg
  simp only at h1 h2 hc hd'
  obtain ⟨e1, e2⟩ := chain_det _ _ _ _ _ (by simp; omega) hc hd'
  have : ks = ks' := by simpa using congrArg List.reverse e1
  subst this; subst e2
  exact ⟨rfl, rfl⟩
theorem beg_det : ∀ (l m : List Nd) (fr f g : List Nat), begR fr l = some f → begR fr m = some g → hds l = hds m → l = m
  | [], [], _, _, _, _, _, _ => rfl
  | x :: l, y :: m, fr, f, g, h1, h2, he => by
    simp only [begR] at h1 h2
    simp only [hds, List.map_cons, List.cons.injEq] at he
    cases hx : stp fr x with
    | none => rw [hx] at h1; cases h1
    | some f1 =>
      cases hy : stp fr y with
      | none => rw [hy] at h2; cases h2
      | some g1 =>
        obtain ⟨e1, e2⟩ := stp_det hx hy he.1
        subst e1; subst e2
        rw [hx] at h1; rw [hy] at h2
        rw [beg_det l m f1 f g h1 h2 he.2]
  | [], _ :: _, _, _, _, _, _, he => by simp [hds] at he
  | _ :: _, [], _, _, _, _, _, he => by simp [hds] at he
theorem snd_det {l m : List Nd} (hl : sndB l = true) (hm : sndB m = true) (he : hds l = hds m) : l = m := by
  obtain ⟨f, hf⟩ := Option.isSome_iff_exists.1 hl
  obtain ⟨g, hg⟩ := Option.isSome_iff_exists.1 hm
  exact beg_det l m [] f g (begL_some hf).2.2.1 (begL_some hg).2.2.1 he

/-! ### how many stand side by side -/
def dep (hs : List Hd) : Int := (hs.map fun h => 1 - aritI h.1).sum
theorem dep_app (a b : List Hd) : dep (a ++ b) = dep a + dep b := by simp [dep]
theorem dep_nil : dep [] = 0 := rfl
theorem dep_one (h : Hd) : dep [h] = 1 - aritI h.1 := by simp [dep]
theorem hds_take_succ {l : List Nd} {k : Nat} (h : k < l.length) : (hds l).take (k + 1) = (hds l).take k ++ [hd (l.getD k nd0)] := by
  rw [List.take_succ_eq_append_getElem (by rw [hds_len]; exact h)]
  simp [hds, h]
theorem dep_chain {l : List Nd} {fr : List Nat} (K : Nat) (ih : ∀ c, c < K → dep ((hds l).take (c + 1)) = dep ((hds l).take (fr.getD c 0)) + 1) (hlow : Low fr) :
    ∀ (ks : List Int) (c a : Nat), c ≤ K → chainL fr ks c = some a → dep ((hds l).take c) = dep ((hds l).take a) + ks.length
  | [], c, a, _, h => by simp [chainL] at h; subst h; simp
  | k :: ks, c, a, hc, h => by
    simp only [chainL] at h
    split at h
    · cases h
    · rename_i hh
      have h1 := ih (c - 1) (by omega)
      have e : c - 1 + 1 = c := by omega
      rw [e] at h1
      have hl := hlow (c - 1)
      have h2 := dep_chain K ih hlow ks _ _ (by omega) h
      rw [h1, h2]; simp; omega
theorem dep_step {l : List Nd} {fr : List Nat} (h : BegOk l fr) : ∀ (n k : Nat), k < n → k < l.length → dep ((hds l).take (k + 1)) = dep ((hds l).take (fr.getD k 0)) + 1
  | 0, k, h0, _ => by omega
  | n + 1, k, h0, hk => by
    obtain ⟨hf, hc⟩ := h.at_ k hk
    have h1 := dep_chain (l := l) k (fun c hc => dep_step h n c (by omega) (by omega)) h.low _ _ _ (Nat.le_refl k) hc
    rw [hds_take_succ hk, dep_app, dep_one, h1]
    have := form_ar hf
    have e : (hd (l.getD k nd0)).1 = (l.getD k nd0).op := rfl
    rw [e, List.length_reverse]; omega
theorem dep_beg {l : List Nd} {fr : List Nat} (h : BegOk l fr) {k : Nat} (hk : k < l.length) : dep ((hds l).take (k + 1)) = dep ((hds l).take (fr.getD k 0)) + 1 := dep_step h (k + 1) k (by omega) hk
theorem dep_ge {l : List Nd} {fr : List Nat} (h : BegOk l fr) : ∀ (n k : Nat), k < n → k ≤ l.length → 0 ≤ dep ((hds l).take k)
  | 0, k, h0, _ => by omega
  | n + 1, 0, _, _ => by simp [dep_nil]
  | n + 1, k + 1, h0, hk => by
    rw [dep_beg h (by omega)]
    have := h.low k
    have := dep_ge h n (fr.getD k 0) (by omega) (by omega)
    omega
theorem dep_nn {l : List Nd} {fr : List Nat} (h : BegOk l fr) {k : Nat} (hk : k ≤ l.length) : 0 ≤ dep ((hds l).take k) := dep_ge h (k + 1) k (by omega) hk
theorem dep_pos {l : List Nd} {fr : List Nat} (h : BegOk l fr) {k : Nat} (h0 : 0 < k) (hk : k ≤ l.length) : 1 ≤ dep ((hds l).take k) := by
  obtain ⟨j, rfl⟩ : ∃ j, k = j + 1 := ⟨k - 1, by omega⟩
  rw [dep_beg h (by omega)]
  have := h.low j
  have := dep_nn h (k := fr.getD j 0) (by omega)
  omega
theorem dep_whole {l : List Nd} {fr : List Nat} (h : begL l = some fr) : dep (hds l) = 1 := by
  obtain ⟨h0, _, hr, ht⟩ := begL_some h
  have := dep_beg (begOk_of hr) (k := l.length - 1) (by omega)
  rw [ht, show l.length - 1 + 1 = (hds l).length by rw [hds_len]; omega, List.take_length] at this
  simpa [dep_nil] using this

/-- What ends at a place and is sound is the part there. -/
theorem part_at {e r : List Nd} {fe fr : List Nat} {A : List Hd} {a : Nat} (he : begL e = some fe) (hr : begL r = some fr) (ha : a ≤ e.length) (h : (hds e).take a = A ++ hds r) :
    fe.getD (a - 1) 0 = A.length ∧ partL e (fe.getD (a - 1) 0) (a - 1) = r := by
  have hok := begOk_of (begL_some he).2.2.1
  have hrk := begOk_of (begL_some hr).2.2.1
  have hr0 := (begL_some hr).1
  have hlen : a = A.length + r.length := by
    have := congrArg List.length h
    simp [hds_len] at this; omega
  obtain ⟨b', hb'⟩ : ∃ b', fe.getD (a - 1) 0 = b' := ⟨_, rfl⟩
  have hlow := hok.low (a - 1)
  have h1 := dep_beg hok (k := a - 1) (by omega)
  rw [hb'] at h1 hlow
  have e1 : a - 1 + 1 = a := by omega
  rw [e1, h, dep_app, dep_whole hr] at h1
  have tk : ∀ c, c ≤ a → (hds e).take c = (A ++ hds r).take c := fun c hc => by
    rw [← h, List.take_take]; congr 1; omega
  have hA : dep ((hds e).take A.length) = dep A := by
    rw [tk _ (by omega), List.take_left]
  have hbA : b' = A.length := by
    rcases Nat.lt_trichotomy b' A.length with hlt | heq | hgt
    · exfalso
      have hp := part_ok hok (a - 1) (by omega)
      rw [hb'] at hp
      have hpl := partL_len e b' (a - 1) (by omega) hlow
      have h2 := dep_pos hp (k := A.length - b') (by omega) (by rw [hpl]; omega)
      rw [hds_part, List.take_take] at h2
      have e2 : min (A.length - b') (a - 1 + 1 - b') = A.length - b' := by omega
      rw [e2] at h2
      have e3 : (hds e).take A.length = (hds e).take b' ++ ((hds e).drop b').take (A.length - b') := by
        have := List.take_add (l := hds e) (i := b') (j := A.length - b')
        rw [← this]; congr 1; omega
      have h3 := hA
      rw [e3, dep_app] at h3
      omega
    · exact heq
    · exfalso
      have h2 := dep_pos hrk (k := b' - A.length) (by omega) (by omega)
      rw [tk _ (by omega), List.take_append, dep_app, List.take_of_length_le (by omega)] at h1
      omega
  refine ⟨by rw [hb']; exact hbA, ?_⟩
  obtain ⟨fo, hfo⟩ := part_snd he (a - 1) (by omega)
  refine snd_det (by unfold sndB; rw [hfo]; rfl) (by unfold sndB; rw [hr]; rfl) ?_
  rw [hds_part, hb', hbA]
  have e2 : a - 1 + 1 - A.length = r.length := by omega
  rw [e2]
  have e3 : (hds e).drop A.length = (A ++ hds r ++ (hds e).drop a).drop A.length := by rw [← h, List.take_append_drop]
  rw [e3, List.append_assoc, List.drop_left, List.take_left' (hds_len r)]
end Go.Proofs.YtlllkjbbldhddaaDoor

set_option linter.unusedSimpArgs false
set_option linter.unusedVariables false
namespace Go.Proofs.YtlllkjbbldhddaaDoor

def numL : List ByteArray → ByteArray → Nat
  | [], _ => 0
  | k :: ks, s => if k = s then 0 else numL ks s + 1
theorem numL_lt {ks : List ByteArray} {s : ByteArray} (h : s ∈ ks) : numL ks s < ks.length := by
  induction ks with
  | nil => simp at h
  | cons k ks ih =>
    unfold numL
    split
    · simp
    · rename_i hne
      rcases List.mem_cons.1 h with rfl | h
      · exact absurd rfl hne
      · have := ih h; simp; omega
theorem numL_app {ks m : List ByteArray} {s : ByteArray} (h : s ∈ ks) : numL (ks ++ m) s = numL ks s := by
  induction ks with
  | nil => simp at h
  | cons k ks ih =>
    simp only [List.cons_append, numL]
    split
    · rfl
    · rename_i hne
      rcases List.mem_cons.1 h with rfl | h
      · exact absurd rfl hne
      · rw [ih h]
theorem numL_new {ks : List ByteArray} {s : ByteArray} (h : s ∉ ks) : numL (ks ++ [s]) s = ks.length := by
  induction ks with
  | nil => simp [numL]
  | cons k ks ih =>
    simp only [List.mem_cons, not_or] at h
    simp only [List.cons_append, numL, if_neg (Ne.symm h.1), ih h.2, List.length_cons]
theorem foldl_mem : ∀ (l : List Nd) (acc : List ByteArray) (s : ByteArray), s ∈ acc → s ∈ l.foldl addNm acc
  | [], acc, s, h => h
  | x :: l, acc, s, h => by
    simp only [List.foldl_cons]
    refine foldl_mem l _ s ?_
    unfold addNm
    split
    · split
      · exact h
      · exact List.mem_append_left _ h
    · exact h
theorem foldl_hole : ∀ (l : List Nd) (acc : List ByteArray) (x : Nd), x ∈ l → x.op = 18 → x.name ∈ l.foldl addNm acc
  | y :: l, acc, x, hx, ho => by
    simp only [List.foldl_cons]
    rcases List.mem_cons.1 hx with rfl | hx
    · refine foldl_mem l _ _ ?_
      unfold addNm
      rw [if_pos ho]
      split
      · rename_i h
        obtain ⟨y, hy, he⟩ := List.any_eq_true.1 h
        rw [← of_decide_eq_true he]; exact hy
      · simp
    · exact foldl_hole l _ x hx ho
theorem mem_hls {l : List Nd} {x : Nd} (hx : x ∈ l) (ho : x.op = 18) : x.name ∈ hlsL l := foldl_hole l [] x hx ho

/-- What stands in a node's place. -/
def flN (ps : List (List Nd)) (ks : List ByteArray) (x : Nd) : List Hd := if x.op = 18 then hds (ps.getD (numL ks x.name) []) else [hd x]
/-- The heads of a filled pattern. -/
def flH (ps : List (List Nd)) (ks : List ByteArray) (l : List Nd) : List Hd := l.flatMap (flN ps ks)
theorem flH_app (ps : List (List Nd)) (ks : List ByteArray) (l m : List Nd) : flH ps ks (l ++ m) = flH ps ks l ++ flH ps ks m := by simp [flH]
theorem flH_one (ps : List (List Nd)) (ks : List ByteArray) (x : Nd) : flH ps ks [x] = flN ps ks x := by simp [flH]
theorem flH_take {ps : List (List Nd)} {ks : List ByteArray} {l : List Nd} {k : Nat} (h : k < l.length) : flH ps ks (l.take (k + 1)) = flH ps ks (l.take k) ++ flN ps ks (l.getD k nd0) := by
  rw [List.take_succ_eq_append_getElem h, flH_app, flH_one]; simp [h]
theorem flH_drop {ps : List (List Nd)} {ks : List ByteArray} {l : List Nd} {k : Nat} (h : k < l.length) : flH ps ks (l.drop k) = flN ps ks (l.getD k nd0) ++ flH ps ks (l.drop (k + 1)) := by
  rw [List.drop_eq_getElem_cons h]
  have : l.getD k nd0 = l[k] := by simp [h]
  rw [this]; exact List.flatMap_cons
/-- Each hole of l has a part with nodes. -/
def PtsOk (ps : List (List Nd)) (ks : List ByteArray) (l : List Nd) : Prop := ∀ x ∈ l, x.op = 18 → sndB (ps.getD (numL ks x.name) []) = true
theorem snd_len {l : List Nd} (h : sndB l = true) : 1 ≤ l.length ∧ l.length ≤ 64 := by
  obtain ⟨f, hf⟩ := Option.isSome_iff_exists.1 h
  have := begL_some hf
  omega
theorem flN_len {ps : List (List Nd)} {ks : List ByteArray} {l : List Nd} (h : PtsOk ps ks l) {x : Nd} (hx : x ∈ l) : 1 ≤ (flN ps ks x).length := by
  unfold flN
  split
  · rename_i ho
    rw [hds_len]; exact (snd_len (h x hx ho)).1
  · simp
theorem flH_ge {ps : List (List Nd)} {ks : List ByteArray} : ∀ {l : List Nd}, PtsOk ps ks l → l.length ≤ (flH ps ks l).length
  | [], _ => by simp [flH]
  | x :: l, h => by
    have h1 := flN_len h (x := x) (by simp)
    have h2 := flH_ge (l := l) (fun y hy => h y (List.mem_cons_of_mem _ hy))
    have e : flH ps ks (x :: l) = flN ps ks x ++ flH ps ks l := by simp [flH]
    rw [e]; simp; omega
theorem hd_fill {x : Nd} (h : x.op ≠ 18) : hd (fillN x) = hd x := by unfold fillN; rw [if_neg h]

/-- Filled from k on. -/
structure FlI (p : List Nd) (ps : List (List Nd)) (ks : List ByteArray) (k : Nat) (e : List Nd) : Prop where
  snd : sndB e = true
  eq : hds e = (hds (p.map fillN)).take k ++ flH ps ks (p.drop k)
theorem FlI.start {p : List Nd} (ps : List (List Nd)) (ks : List ByteArray) (h : sndB (p.map fillN) = true) : FlI p ps ks p.length (p.map fillN) :=
  ⟨h, by rw [List.take_of_length_le (by simp [hds]), List.drop_length]; simp [flH]⟩
theorem fillN_at {p : List Nd} {k : Nat} (hk : k < p.length) : (p.map fillN).getD k nd0 = fillN (p.getD k nd0) := by simp [hk]
theorem FlI.skip {p : List Nd} {ps : List (List Nd)} {ks : List ByteArray} {k : Nat} {e : List Nd} (h : FlI p ps ks (k + 1) e) (hk : k < p.length) (ho : (p.getD k nd0).op ≠ 18) : FlI p ps ks k e := by
  refine ⟨h.snd, ?_⟩
  rw [h.eq, hds_take_succ (by simpa using hk), fillN_at hk, hd_fill ho, flH_drop hk, List.append_assoc]
  unfold flN; rw [if_neg ho]
theorem FlI.at_ {p : List Nd} {ps : List (List Nd)} {ks : List ByteArray} {k : Nat} {e : List Nd} (h : FlI p ps ks (k + 1) e) (hk : k < p.length) (ho : (p.getD k nd0).op = 18) : k < e.length ∧ ∃ fr, begL e = some fr ∧ fr.getD k 0 = k := by
  obtain ⟨fr, hfr⟩ := Option.isSome_iff_exists.1 h.snd
  have hlen : k < e.length := by
    have := congrArg List.length h.eq
    rw [hds_len] at this
    simp [hds_len] at this
    omega
  refine ⟨hlen, fr, hfr, ?_⟩
  have hok := begOk_of (begL_some hfr).2.2.1
  obtain ⟨hf, hc⟩ := hok.at_ k hlen
  have h1 : (hds e).take (k + 1) = (hds (p.map fillN)).take (k + 1) := by
    rw [h.eq, List.take_append_of_le_length (by simp [hds_len]; omega), List.take_take]; congr 1; omega
  rw [hds_take_succ hlen, hds_take_succ (by simpa using hk), fillN_at hk] at h1
  have h2 := (List.append_inj' h1 rfl).2
  simp only [List.cons.injEq, and_true] at h2
  have h3 : (e.getD k nd0).op = 2 := by
    have : (hd (e.getD k nd0)).1 = (hd (fillN (p.getD k nd0))).1 := by rw [h2]
    simp only [hd] at this
    rw [this]; unfold fillN; rw [if_pos ho]
  have h4 := form_ar hf
  rw [h3] at h4
  have h5 : (e.getD k nd0).kids = [] := by
    have : aritI 2 = 0 := by decide
    rw [this] at h4
    exact List.length_eq_zero_iff.1 (by omega)
  rw [h5] at hc
  simp [chainL] at hc
  simpa using hc.symm
theorem FlI.put {p : List Nd} {ps : List (List Nd)} {ks : List ByteArray} {k : Nat} {e : List Nd} (h : FlI p ps ks (k + 1) e) (hk : k < p.length) (ho : (p.getD k nd0).op = 18) (hm : sndB (ps.getD (numL ks (p.getD k nd0).name) []) = true)
    (hl : e.length + (ps.getD (numL ks (p.getD k nd0).name) []).length ≤ 65) : FlI p ps ks k (putL e k k (ps.getD (numL ks (p.getD k nd0).name) [])) := by
  obtain ⟨hke, fr, hfr, hfk⟩ := h.at_ hk ho
  obtain ⟨fm, hfm⟩ := Option.isSome_iff_exists.1 hm
  obtain ⟨fx, hfx, _⟩ := put_snd hfr hfm k hke (by rw [hfk]; omega)
  rw [hfk] at hfx
  refine ⟨by unfold sndB; rw [hfx]; rfl, ?_⟩
  rw [hds_put, h.eq, flH_drop hk]
  have e1 : flN ps ks (p.getD k nd0) = hds (ps.getD (numL ks (p.getD k nd0).name) []) := by unfold flN; rw [if_pos ho]
  have e2 : ((hds (p.map fillN)).take (k + 1)).length = k + 1 := by simp [hds_len]; omega
  rw [e1, List.take_append_of_le_length (by omega), List.take_take, show min k (k + 1) = k by omega, List.drop_left' e2, List.append_assoc]
theorem FlI.large {p : List Nd} {ps : List (List Nd)} {ks : List ByteArray} {k : Nat} {e : List Nd} (h : FlI p ps ks (k + 1) e) (hk : k < p.length) (ho : (p.getD k nd0).op = 18) (hp : PtsOk ps ks p)
    (hl : 65 < e.length + (ps.getD (numL ks (p.getD k nd0).name) []).length) : 64 < (flH ps ks p).length := by
  have h1 := congrArg List.length h.eq
  rw [hds_len] at h1
  simp [hds_len] at h1
  have h2 : flH ps ks p = flH ps ks (p.take k) ++ (flN ps ks (p.getD k nd0) ++ flH ps ks (p.drop (k + 1))) := by rw [← flH_drop hk, ← flH_app, List.take_append_drop]
  have h3 := flH_ge (l := p.take k) (fun x hx => hp x (List.mem_of_mem_take hx))
  have e1 : flN ps ks (p.getD k nd0) = hds (ps.getD (numL ks (p.getD k nd0).name) []) := by unfold flN; rw [if_pos ho]
  rw [h2, e1]
  simp only [List.length_append, hds_len]
  simp at h3
  omega
theorem FlI.done {p : List Nd} {ps : List (List Nd)} {ks : List ByteArray} {e : List Nd} (h : FlI p ps ks 0 e) : hds e = flH ps ks p := by simpa using h.eq
end Go.Proofs.YtlllkjbbldhddaaDoor
