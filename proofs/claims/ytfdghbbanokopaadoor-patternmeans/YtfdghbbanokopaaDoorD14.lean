/-
  ExPartQ, PaFl.
-/
import Derived.Shelf.Unicode.DecodeSlow
import Derived.Laws.RangeAny
import Derived.Shelf.Strconv.Itoa0
import Derived.Shelf.Unicode.DecodeAny
import Derived.Test.YtfdghbbanokopaaDoorProg
import Derived.WalkKit
import Derived.Deep.DeepFit
import Derived.Lib.OthersKept
import Derived.Lib.RuneCountTail
import Derived.Deep.AppendLies
import Derived.Deep.OwnRows
import Derived.Laws.AppendOwnNone
import Derived.Deep.QuietTactic
import Derived.BigQuiet
import Derived.Deep.RegionWith
import Derived.Laws.DeepStrings4
import Derived.Lib.MapLaws
import Derived.Sort.Walk0
import Derived.Lib.ItoaNum
import Derived.Maps.OwnSet
import Derived.StringKeys
import Derived.Deep.Slices
import Derived.Below
import Derived.Laws.ResultCell
import Derived.Deep.RegionHeld3
import Derived.Test.YtfdghbbanokopaaDoorD01
import Derived.Test.YtfdghbbanokopaaDoorD02
import Derived.Test.YtfdghbbanokopaaDoorD03
import Derived.Test.YtfdghbbanokopaaDoorD04
import Derived.Test.YtfdghbbanokopaaDoorD05
import Derived.Test.YtfdghbbanokopaaDoorD06
import Derived.Test.YtfdghbbanokopaaDoorD08
import Derived.Test.YtfdghbbanokopaaDoorD09
import Derived.Test.YtfdghbbanokopaaDoorD10
import Derived.Test.YtfdghbbanokopaaDoorD11
import Derived.Test.YtfdghbbanokopaaDoorD12
import Derived.Test.YtfdghbbanokopaaDoorD13
set_option linter.unusedSimpArgs false
set_option linter.unusedVariables false
namespace Go.Proofs.YtfdghbbanokopaaDoor
open Go.RowKit Go.Lib

/-- Owned, and no two rows of kids are one. -/
def OwnQ (w : World) (base : Nat) (v : Value) (l : List Nd) : Prop := ∃ p : List (Nd × Value), p.map (·.1) = l ∧ OwnP w base v p ∧ KdAp p
theorem OwnQ.n {w : World} {base : Nat} {v : Value} {l : List Nd} (h : OwnQ w base v l) : OwnN w base v l := let ⟨p, h1, h2, _⟩ := h; ⟨p, h1, h2⟩
theorem OwnQ.form {w : World} {base : Nat} {v : Value} {l : List Nd} (h : OwnQ w base v l) : ∃ ao n cap, v = .slice ao n cap := h.n.form
theorem OwnQ.below {w w' : World} {base : Nat} {v : Value} {l : List Nd} (h : OwnQ w base v l) (hb : Below w.heap.size w w') : OwnQ w' base v l := let ⟨p, h1, h2, h3⟩ := h; ⟨p, h1, h2.below hb, h3⟩
theorem OwnQ.mono {w : World} {base base' : Nat} {v : Value} {l : List Nd} (h : OwnQ w base v l) (hb : base' ≤ base) : OwnQ w base' v l := let ⟨p, h1, h2, h3⟩ := h; ⟨p, h1, ⟨ownsRow_mono h2.row hb, fun q hq => ownsRow_mono (h2.kids q hq) hb⟩, h3⟩
theorem OwnQ_nil (w : World) (base : Nat) : OwnQ w base (.slice none 0 0) [] := ⟨[], rfl, ⟨World.ownsRow_nil _ _ _ _, by simp⟩, List.Pairwise.nil⟩

theorem add_a (v vs : Value) (l ns : List Nd) (fr by_ : Int) (w : World) (base : Nat) (hbase : base ≤ w.heap.size) (hO : OwnQ w base v l) (hN : Nodes w base vs ns) (hlen : (l.length + ns.length) * 56 ≤ 140737488355328)
    (hks : ∀ x ∈ ns, x.kids.length * 8 ≤ 140737488351232 ∧ ∀ k ∈ x.kids, -9000 ≤ k ∧ k ≤ 9000) (hb0 : -9000 ≤ by_) (hb1 : by_ ≤ 9000) :
    Calls Tryd.prog 44 #[v, vs, .int .i64 fr, .int .i64 by_] w fun e w' => ∃ v', e = .returned v' ∧ OwnQ w' base v' (l ++ ns.map (mvN fr by_)) ∧ Below base w w' := by
  obtain ⟨p, hp, hO, hA⟩ := hO
  have hl : p.length = l.length := by rw [← hp, List.length_map]
  refine (add_q v vs p ns fr by_ w base hbase hO hN (by rw [hl]; exact hlen) hks hb0 hb1).mono ?_
  rintro e w' ⟨⟨v', p', he, h1, h2, h3, h4, h5, h6⟩⟩
  exact ⟨v', he, ⟨p ++ p', by rw [List.map_append, hp, h2], h1, kdAp_more hO hA h3.1 h3.2⟩, h6⟩

set_option maxHeartbeats 1000000 in
theorem part_q (vs : Value) (l : List Nd) (fr : List Nat) (i a : Nat) (w : World) (B : Nat) (hBw : B ≤ w.heap.size) (hT : SpanCells w) (hN : Nodes w B vs l) (h : begL l = some fr) (hi : i < l.length) (ha : fr.getD i 0 = a) :
    Calls Tryd.prog 11 #[vs, .int .i64 i] w fun e w' => ∃ v', e = .returned (.tuple #[v', .int .i64 0]) ∧ OwnQ w' w.heap.size v' (partL l a i) ∧ Below w.heap.size w w' := by
  have hai : a ≤ i := by rw [← ha]; exact (begR_some (begL_some h).2.2.1 low_nil).2.1 i
  have h64 := (snd_bounds h).1
  have HK := snd_kids h
  have HS : Hid (begL l = some fr) := h
  have HA : Hid (fr.getD i 0 = a) := ha
  clear h ha
  obtain ⟨ao, cap, rfl, hl, hm, hc⟩ := id hN
  obtain ⟨b, o, rfl, hbl, hc'⟩ : ∃ b o, ao = some ⟨b, o, none⟩ ∧ b < B ∧ ∀ i, i < l.length → ∃ kv, NodeAt w B b (o + i * 4) (l.getD i nd0) kv := by
    rcases hc with h | h
    · subst h; simp at hi
    · exact h
  clear hc
  have hm' := hm
  unfold maxLen at hm
  have hnil := eql_nil
  have co : Hid (∀ W, Calls Tryd.prog 43 #[.slice (some ⟨b, o, none⟩) l.length cap, .int .i64 i] W fun e w' => e = .returned (.bool false) ∧ w' = W) := fun W => by
    have := exOutside_any (some ⟨b, o, none⟩) l.length cap i W
    have e : (decide ((i : Int) < 0) || decide ((l.length : Int) ≤ i)) = false := by simp; omega
    rw [e] at this; exact this
  have HCT : Hid (Nodes w B (.slice (some ⟨b, o + a * 4, none⟩) (i + 1 - a) (cap - a)) ((l.drop a).take (i + 1 - a))) := Nodes.cut (cap := cap) hc' hbl a (i + 1 - a) (cap - a) (by omega) (by omega) (by omega) _ (fun _ => rfl)
  clear hc'
  have HK2 : Hid (∀ x ∈ (l.drop a).take (i + 1 - a), x.kids.length * 8 ≤ 140737488351232 ∧ ∀ k ∈ x.kids, -9000 ≤ k ∧ k ≤ 9000) := fun x hx => HK x (List.mem_of_mem_drop (List.mem_of_mem_take hx))
  clear HK
  go_enter Tryd.func11, Tryd.ntmps11
  go_wp2_with (first | (go_at_call 40; refine (begins_some _ l fr _ B hBw hT hN HS.out).mono ?_; rintro e w2 ⟨g, rfl, hg1, hg2, hg3, hb2⟩; have hgi := hg3 i hi; rw [HA.out] at hgi; have HG3 : Hid (∀ j, j < l.length → w2.cell? ⟨g, j, none⟩ = some (.int .i64 (fr.getD j 0 : Nat))) := hg3; clear hg3) | (go_at_call 43; refine (co.out _).mono ?_; rintro e w3 ⟨rfl, rfl⟩))
  have hz := hb2.size
  refine (add_a (.slice none 0 0) _ [] _ 0 (-(a : Int)) _ w3.heap.size (Nat.le_refl _) (OwnQ_nil _ _) (HCT.out.below (hb2.mono hBw) (by omega)) (by simp; omega) HK2.out (by omega) (by omega)).mono ?_
  rintro e w4 ⟨v4, rfl, hO4, hb4⟩
  obtain ⟨ao4, n4, cap4, rfl⟩ := hO4.form
  have HO4 : Hid (OwnQ w4 w.heap.size (.slice ao4 n4 cap4) (partL l a i)) := hO4.mono hz
  clear hO4
  go_wp2
  go_ret2
  exact ⟨_, rfl, HO4.out, hb2.trans (hb4.mono hz)⟩

set_option maxHeartbeats 2000000 in
theorem put_q (vs vp : Value) (l m : List Nd) (fr fm : List Nat) (i a : Nat) (w : World) (B : Nat) (hBw : B ≤ w.heap.size) (hT : SpanCells w) (hN : Nodes w B vs l) (hM : Nodes w B vp m) (h : begL l = some fr) (h2 : begL m = some fm) (hi : i < l.length) (ha : fr.getD i 0 = a) (hsz : l.length + m.length + a ≤ 64 + (i + 1)) :
    Calls Tryd.prog 14 #[vs, .int .i64 i, vp] w fun e w' => ∃ v', e = .returned (.tuple #[v', .int .i64 0]) ∧ OwnQ w' w.heap.size v' (putL l a i m) ∧ Below w.heap.size w w' := by
  have hai : a ≤ i := by rw [← ha]; exact (begR_some (begL_some h).2.2.1 low_nil).2.1 i
  have h64 := (snd_bounds h).1
  have m64 := (snd_bounds h2).1
  have HK := snd_kids h
  have HKM : Hid (∀ x ∈ m, x.kids.length * 8 ≤ 140737488351232 ∧ ∀ k ∈ x.kids, -9000 ≤ k ∧ k ≤ 9000) := snd_kids h2
  have HS : Hid (begL l = some fr) := h
  have HS2 : Hid (begL m = some fm) := h2
  have HA : Hid (fr.getD i 0 = a) := ha
  clear h h2 ha
  obtain ⟨ao, cap, rfl, hl, hm, hc⟩ := id hN
  obtain ⟨am, capm, rfl, hlm, hmm, _⟩ := id hM
  unfold maxLen at hmm
  obtain ⟨b, o, rfl, hbl, hc'⟩ : ∃ b o, ao = some ⟨b, o, none⟩ ∧ b < B ∧ ∀ i, i < l.length → ∃ kv, NodeAt w B b (o + i * 4) (l.getD i nd0) kv := by
    rcases hc with h | h
    · subst h; simp at hi
    · exact h
  clear hc
  have hm' := hm
  unfold maxLen at hm
  have hnil := eql_nil
  have co : Hid (∀ W, Calls Tryd.prog 43 #[.slice (some ⟨b, o, none⟩) l.length cap, .int .i64 i] W fun e w' => e = .returned (.bool false) ∧ w' = W) := fun W => by
    have := exOutside_any (some ⟨b, o, none⟩) l.length cap i W
    have e : (decide ((i : Int) < 0) || decide ((l.length : Int) ≤ i)) = false := by simp; omega
    rw [e] at this; exact this
  have HC1 : Hid (Nodes w B (.slice (some ⟨b, o, none⟩) a cap) (l.take a)) := by
    have := Nodes.cut (cap := cap) hc' hbl 0 a cap (by omega) (by omega) (by omega) (some ⟨b, o, none⟩) (fun _ => by simp)
    rw [List.drop_zero] at this; exact this
  have HC2 : Hid (∀ ao' cap', l.length - (i + 1) ≤ cap' → cap' ≤ maxLen → (l.length - (i + 1) ≠ 0 → ao' = some ⟨b, o + (i + 1) * 4, none⟩) → Nodes w B (.slice ao' (l.length - (i + 1)) cap') (l.drop (i + 1))) := fun ao' cap' h1 h2 hao => by
    have := Nodes.cut (cap := cap) hc' hbl (i + 1) (l.length - (i + 1)) cap' (by omega) h1 h2 ao' hao
    rw [List.take_of_length_le (by simp)] at this; exact this
  clear hc'
  have HK1 : Hid (∀ x ∈ l.take a, x.kids.length * 8 ≤ 140737488351232 ∧ ∀ k ∈ x.kids, -9000 ≤ k ∧ k ≤ 9000) := fun x hx => HK x (List.mem_of_mem_take hx)
  have HK2 : Hid (∀ x ∈ l.drop (i + 1), x.kids.length * 8 ≤ 140737488351232 ∧ ∀ k ∈ x.kids, -9000 ≤ k ∧ k ≤ 9000) := fun x hx => HK x (List.mem_of_mem_drop hx)
  clear HK
  go_enter Tryd.func14, Tryd.ntmps14
  go_wp2_with (first | (go_at_call 40; refine (begins_some _ l fr _ B hBw hT hN HS.out).mono ?_; rintro e w2 ⟨g, rfl, hg1, hg2, hg3, hb2⟩; have hgi := hg3 i hi; rw [HA.out] at hgi; have HG3 : Hid (∀ j, j < l.length → w2.cell? ⟨g, j, none⟩ = some (.int .i64 (fr.getD j 0 : Nat))) := hg3; clear hg3) | (go_at_call 8; refine (check_some _ m fm _ B (by have := hb2.size; omega) (hT.below hb2) (hM.below (hb2.mono hBw) (Nat.le_refl _)) HS2.out).mono ?_; rintro e w3 ⟨rfl, hb3⟩; have hgi3 : w3.cell? ⟨g, i, none⟩ = some (.int .i64 a) := (hb3.cell (p := ⟨g, i, none⟩) hg2).trans hgi) | (go_at_call 43; refine (co.out _).mono ?_; rintro e w4 ⟨rfl, rfl⟩))
  have hb24 : Below w.heap.size w w4 := hb2.trans (hb3.mono hb2.size)
  have hz4 := hb24.size
  clear hgi hgi3 HG3
  refine (add_a (.slice none 0 0) _ [] (l.take a) 0 0 _ w4.heap.size (Nat.le_refl _) (OwnQ_nil _ _) (HC1.out.below (hb24.mono hBw) (by omega)) (by simp; omega) HK1.out (by omega) (by omega)).mono ?_
  rintro e w5 ⟨v5, rfl, hO5, hb5⟩
  obtain ⟨ao5, n5, cap5, rfl⟩ := hO5.form
  have HO5 : Hid (OwnQ w5 w4.heap.size (.slice ao5 n5 cap5) ([] ++ (l.take a).map (mvN 0 0))) := hO5
  clear hO5
  have hz5 := hb5.size
  go_wp2_with fail
  refine (add_a _ _ _ m 0 a _ w4.heap.size hz5 HO5.out (hM.below ((hb24.trans (hb5.mono hz4)).mono hBw) (by omega)) (by simp; omega) HKM.out (by omega) (by omega)).mono ?_
  rintro e w6 ⟨v6, rfl, hO6, hb6⟩
  obtain ⟨ao6, n6, cap6, rfl⟩ := hO6.form
  have HO6 : Hid (OwnQ w6 w4.heap.size (.slice ao6 n6 cap6) ([] ++ (l.take a).map (mvN 0 0) ++ m.map (mvN 0 a))) := hO6
  clear hO6
  have hz6 := hb6.size
  go_wp2_with fail
  all_goals
    refine (add_a _ _ _ (l.drop (i + 1)) i ((m.length : Int) - ((i : Int) + 1 - a)) _ w4.heap.size (by omega) HO6.out ((HC2.out _ _ (by omega) (by unfold maxLen; omega) (by intro hne; first | rfl | (exfalso; omega))).below ((hb24.trans ((hb5.trans hb6).mono hz4)).mono hBw) (by omega)) (by simp; omega) HK2.out (by omega) (by omega)).mono ?_
    rintro e w7 ⟨v7, rfl, hO7, hb7⟩
    obtain ⟨ao7, n7, cap7, rfl⟩ := hO7.form
    have HO7 : Hid (OwnQ w7 w.heap.size (.slice ao7 n7 cap7) (putL l a i m)) := by
      show OwnQ w7 w.heap.size (.slice ao7 n7 cap7) (putL l a i m)
      rw [List.nil_append] at hO7
      exact hO7.mono hz4
    clear hO7
    go_wp2
    go_ret2
    exact ⟨_, rfl, HO7.out, hb24.trans (((hb5.trans hb6).trans hb7).mono hz4)⟩
end Go.Proofs.YtfdghbbanokopaaDoor

set_option linter.unusedSimpArgs false
set_option linter.unusedVariables false
namespace Go.Proofs.YtfdghbbanokopaaDoor
open Go.RowKit Go.Lib Go.Maps Go.Deep

/-- What Fill answers of a sound pattern and as many sound parts. -/
def FillP (w : World) (l : List Nd) (ps : List (List Nd)) (e : Ending) (w' : World) : Prop :=
  Below w.heap.size w w' ∧ (((flH ps (hlsL l) l).length ≤ 64 ∧ ∃ v x, e = .returned (.tuple #[v, .int .i64 0]) ∧ OwnQ w' w.heap.size v x ∧ sndB x = true ∧ hds x = flH ps (hlsL l) l) ∨ (64 < (flH ps (hlsL l) l).length ∧ e = .returned (.tuple #[.slice none 0 0, .int .i64 10])))
/-- On the way. -/
def FlSt (w : World) (l : List Nd) (ps : List (List Nd)) (k : Nat) (bd v : Value) (wr : World) : Prop :=
  Below w.heap.size w wr ∧ ((bd = .int .i64 0 ∧ ∃ x, OwnQ wr w.heap.size v x ∧ FlI l ps (hlsL l) k x) ∨ (bd = .int .i64 10 ∧ v = .slice none 0 0 ∧ 64 < (flH ps (hlsL l) l).length))
theorem patB_snd {l : List Nd} (h : patB l = true) : sndB (l.map fillN) = true := by
  unfold patB at h
  simp only [Bool.and_eq_true] at h
  exact h.2
theorem patB_len {l : List Nd} (h : patB l = true) : 1 ≤ l.length ∧ l.length ≤ 16 := by
  have h1 := snd_len (patB_snd h)
  unfold patB at h
  simp only [Bool.and_eq_true, decide_eq_true_eq] at h
  have := h.1.1
  simp at h1
  omega
theorem partL_all (l : List Nd) (n : Nat) (h : l.length = n + 1) : partL l 0 n = l := by
  unfold partL
  have e : (-((0 : Nat) : Int)) = 0 := by omega
  rw [e, map_mvN_zero, List.drop_zero, List.take_of_length_le (by omega)]
theorem any_snd {ps : List (List Nd)} (h : ps.any (fun l => !sndB l) = false) : ∀ r ∈ ps, sndB r = true := fun r hr => by
  cases hs : sndB r with
  | true => rfl
  | false => rw [List.any_eq_true.2 ⟨r, hr, by rw [hs]; rfl⟩] at h; cases h

theorem RdO.grow {w w1 w2 : World} {l : List Nd} {v nv : Value} {M : Nat} (h : RdO w l v nv M w1) (hs : w.heap.size ≤ w1.heap.size) (hb : Below w1.heap.size w1 w2) : RdO w l v nv M w2 := by
  obtain ⟨⟨p, hp, hc⟩, hr, ⟨n, hm⟩, hM⟩ := h
  exact ⟨⟨p, hp, ownsRow_below hc.row hb, fun x hx => (hc.kids x hx).below (hb.mono hs) (Nat.le_refl _)⟩, ownsRow_below hr hb, ⟨n, hm.below hb⟩, hM⟩
theorem RdO.nodes {w w1 : World} {l : List Nd} {v nv : Value} {M : Nat} (h : RdO w l v nv M w1) (hs : w.heap.size ≤ w1.heap.size) : Nodes w1 w1.heap.size v (l.map fillN) := by
  obtain ⟨p, hp, hc⟩ := h.p
  have := hc.nodes (C := w1.heap.size) (Nat.le_refl _) hs
  rw [hp] at this
  exact this
theorem Lst.part {w W : World} {pa : Option Addr} {pc : Nat} {ps : List (List Nd)} (h : Lst w w.heap.size (.slice pa ps.length pc) ps) (hb : Below w.heap.size w W) {z : Nat} (hz : z < ps.length) :
    ∃ b o qa qc, pa = some ⟨b, o, none⟩ ∧ b < w.heap.size ∧ W.cell? ⟨b, o + z, none⟩ = some (.slice qa (ps.getD z []).length qc) ∧ Nodes W W.heap.size (.slice qa (ps.getD z []).length qc) (ps.getD z []) := by
  obtain ⟨pa', pc', e, hl, hm, hc⟩ := h
  cases e
  rcases hc with h | ⟨b, o, rfl, hlt, hc⟩
  · subst h; simp at hz
  · obtain ⟨pv, h1, h2⟩ := hc z hz
    obtain ⟨qa, qc, rfl, _⟩ := id h2
    exact ⟨b, o, qa, qc, rfl, hlt, (hb.cell (p := ⟨b, o + z, none⟩) hlt).trans h1, h2.below hb hb.size⟩

set_option maxRecDepth 20000 in
set_option maxHeartbeats 4000000 in
theorem fill_walk {w : World} {ao pa : Option Addr} {cap pc n : Nat} {l : List Nd} {ps : List (List Nd)} (hn : l.length = n + 1) (hT : SpanCells w) (hN : Rd w ao cap l) (hnm : ∀ x ∈ l, x.name.size ≤ maxLen)
    (hL : Lst w w.heap.size (.slice pa ps.length pc) ps) (hp : patB l = true) (hs : ps.any (fun l => !sndB l) = false) (hlen : ps.length = (hlsL l).length) :
    Calls Tryd.prog 28 #[.slice ao (n + 1) cap, .slice pa ps.length pc] w fun e w' => FillP w l ps e w' := by
  have h16 := (patB_len hp).2
  rw [hn] at h16
  have hn15 : n ≤ 15 := by omega
  clear h16
  have HT : Hid (SpanCells w) := hT
  have HN : Hid (Rd w ao cap l) := hN
  have HNM : Hid (∀ x ∈ l, x.name.size ≤ maxLen) := hnm
  have HLn : Hid (ps.length = (hlsL l).length) := hlen
  have HSP : Hid (sndB (l.map fillN) = true) := patB_snd hp
  have HPT : Hid (∀ r ∈ ps, sndB r = true) := any_snd hs
  have HLL : Hid (Lst w w.heap.size (.slice pa ps.length pc) ps) := hL
  have HND : Hid (l.length = n + 1) := hn
  have hlen6 : ps.length ≤ 6 := by
    rw [hlen]
    have h := hp
    unfold patB at h
    simp only [Bool.and_eq_true, decide_eq_true_eq] at h
    exact h.1.2
  obtain ⟨pa', pc', epa, hpl, hpm, hpc⟩ := hL
  cases epa
  have HPC : Hid (ps = [] ∨ ∃ b o, pa = some ⟨b, o, none⟩ ∧ b < w.heap.size ∧ ∀ i, i < ps.length → ∃ pv, w.cell? ⟨b, o + i, none⟩ = some pv ∧ Nodes w w.heap.size pv (ps.getD i [])) := hpc
  have cR := read_ok hT hN hnm hp
  rw [hn] at cR
  rw [← hlen] at cR
  have CC : Hid (∀ W, Below w.heap.size w W → Calls Tryd.prog 56 #[.slice pa ps.length pc, .func (.func 57) #[] #[] ] W fun e w' => e = .returned (.bool false) ∧ Below W.heap.size W w') := fun W hb => by
    have := contains_any (HT.out.below hb) (HLL.out.below hb hb.size)
    rw [hs] at this
    exact this
  clear hN hT hnm hp hs hn hlen hpc
  go_enter Tryd.func28, Tryd.ntmps28
  go_wp2_with (go_at_call 55; refine cR.mono ?_; rintro e w1 ⟨va, vc, na, nc, M, rfl, hO, hb⟩; have HB1 : Hid (_) := hb; have HO : Hid (RdO w l (.slice va (n + 1) vc) (.slice na ps.length nc) M w1) := hO; clear hO hb)
  have hs1 := HB1.out.size
  refine (CC.out _ (HB1.out.alloc hs1 _)).mono ?_
  rintro e w2 ⟨rfl, hb2⟩
  have e2 : w2.heap[w1.heap.size]? = some (.cells #[.slice va (n + 1) vc, .slice na ps.length nc, .map (some M)] 90) := (hb2.block w1.heap.size (by simp)).trans (MapKept.heap_alloc w1 _).1
  have hb12 : Below w1.heap.size w1 w2 := ((Below.refl _ _).alloc (Nat.le_refl _) _).trans (hb2.mono (by simp))
  have HO2 : Hid (RdO w l (.slice va (n + 1) vc) (.slice na ps.length nc) M w2) := HO.out.grow hs1 hb12
  have HB2 : Hid (Below w.heap.size w w2) := HB1.out.trans (hb12.mono hs1)
  have HE2 : Hid (_) := e2
  have hs2 := HB2.out.size
  have hl2 : w1.heap.size < w2.heap.size := lt_of_block e2
  obtain ⟨fr, hfr⟩ := Option.isSome_iff_exists.1 HSP.out
  have cP := part_q (.slice va (n + 1) vc) (l.map fillN) fr n 0 w2 w2.heap.size (Nat.le_refl _) (HT.out.below HB2.out) (HO2.out.nodes hs2) hfr (by simp [HND.out]) (by have := (begL_some hfr).2.2.2; simpa [HND.out] using this)
  rw [partL_all _ n (by simp [HND.out])] at cP
  have c0 : w2.cell? ⟨w1.heap.size, 0, none⟩ = some (.slice va (n + 1) vc) := by rw [cell_of_heap e2]; rfl
  have c1 : w2.cell? ⟨w1.heap.size, 1, none⟩ = some (.slice na ps.length nc) := by rw [cell_of_heap e2]; rfl
  clear HO hb12 hb2 e2 HB1
  have hnz : ((n + 1 : Nat) : Int) - 1 = (n : Int) := by omega
  go_wp2_with fail
  refine cP.mono ?_
  rintro e w3 ⟨v3, rfl, hO3, hb3⟩
  have HO3 : Hid (OwnQ w3 w2.heap.size v3 (l.map fillN)) := hO3
  have HB3 : Hid (Below w2.heap.size w2 w3) := hb3
  have HST : Hid (FlSt w l ps (n + 1) (.int .i64 0) v3 w3) := ⟨HB2.out.trans (hb3.mono hs2), .inl ⟨rfl, _, hO3.mono hs2, by have := FlI.start ps (hlsL l) HSP.out; rwa [HND.out] at this⟩⟩
  clear hO3 hb3 c0 c1 cP CC cR
  go_wp2_with fail
  go_loopw [7, 8, 9] (fun bd v i wr => ∃ k : Nat, k ≤ n + 1 ∧ i = .int .i64 ((k : Int) - 1) ∧ Below w2.heap.size w2 wr ∧ Hid (FlSt w l ps k bd v wr)) (fun _ _ i _ => (RowKit.intOf i + 1).toNat)
  case atStart => exact ⟨n + 1, by omega, by first | rfl | go_num, HB3.out, HST⟩
  case round =>
    obtain ⟨k, hk, rfl, hbr, hst⟩ := hrel
    obtain ⟨hbw, hst⟩ := hst.out
    have hsr := hbr.size
    have hsw := hbw.size
    rcases hst with ⟨rfl, x, hO, hF⟩ | ⟨rfl, rfl, h64⟩
    · obtain ⟨va3, xn, vc3, rfl⟩ := hO.form
      obtain ⟨va', vc', e', hNx⟩ := Rd_of_own hO.n
      cases e'
      obtain ⟨hx1, hx2⟩ := hNx.bound
      have hx64 := snd_len hF.snd
      by_cases hk0 : 0 < k
      · obtain ⟨j, rfl⟩ : ∃ j, k = j + 1 := ⟨k - 1, by omega⟩
        have hjl : j < l.length := by rw [HND.out]; omega
        obtain ⟨b, o, kv, rfl, hbk, hna⟩ := Rd.cell (HN.out.below hbw hsw) hjl
        obtain ⟨q0, q1, q2, q3, _⟩ := hna
        have hjj : ((j + 1 : Nat) : Int) - 1 = (j : Int) := by omega
        have hwj : IntKind.i64.wrap ((j : Int) - 1) = (j : Int) - 1 := by rw [IntWalk.i64_in] <;> omega
        rw [hjj]
        have HF : Hid (FlI l ps (hlsL l) (j + 1) x) := hF
        have HOx : Hid (OwnQ wr w.heap.size (.slice va3 x.length vc3) x) := hO
        have HNx : Hid (Rd wr va3 vc3 x) := hNx
        have HBR : Hid (Below w2.heap.size w2 wr) := hbr
        have HBW : Hid (Below w.heap.size w wr) := hbw
        by_cases hop : (l.getD j nd0).op = 18
        · have hxm : l.getD j nd0 ∈ l := getD_mem hjl
          have hmem : (l.getD j nd0).name ∈ hlsL l := mem_hls hxm hop
          have hz : numL (hlsL l) (l.getD j nd0).name < ps.length := by rw [HLn.out]; exact numL_lt hmem
          have hnz := numZ_mem hmem
          obtain ⟨pb, po, qa, qc, rfl, hpb, hpcell, hpn⟩ := HLL.out.part hbw hz
          have hms : sndB (ps.getD (numL (hlsL l) (l.getD j nd0).name) []) = true := HPT.out _ (getD_mem hz)
          obtain ⟨hke, fx, hfx, hfk⟩ := hF.at_ hjl hop
          obtain ⟨fm, hfm⟩ := Option.isSome_iff_exists.1 hms
          have cP2 : Hid (∀ W, Below wr.heap.size wr W → Calls Tryd.prog 14 #[.slice va3 x.length vc3, .int .i64 j, .slice qa (ps.getD (numL (hlsL l) (l.getD j nd0).name) []).length qc] W fun e w' => ∃ bd v', e = .returned (.tuple #[v', .int .i64 bd]) ∧ FlSt w l ps j (.int .i64 bd) v' w' ∧ Below wr.heap.size wr w') := fun W hb => by
            by_cases hsz : x.length + (ps.getD (numL (hlsL l) (l.getD j nd0).name) []).length ≤ 65
            · refine (put_q _ _ x _ fx fm j j W W.heap.size (Nat.le_refl _) (HT.out.below (hbw.trans (hb.mono hsw))) (HNx.out.below hb hb.size) (hpn.below hb hb.size) hfx hfm hke hfk (by omega)).mono ?_
              rintro e w4 ⟨v4, rfl, hO4, hb4⟩
              have hb4' := hb.trans (hb4.mono hb.size)
              exact ⟨0, v4, rfl, ⟨hbw.trans (hb4'.mono hsw), .inl ⟨rfl, _, hO4.mono (by have := hb.size; omega), HF.out.put hjl hop hms hsz⟩⟩, hb4'⟩
            · refine (put_large _ _ x _ fx fm j j W W.heap.size (Nat.le_refl _) (HT.out.below (hbw.trans (hb.mono hsw))) (HNx.out.below hb hb.size) (hpn.below hb hb.size) hfx hfm hke hfk (by omega)).mono ?_
              rintro e w4 ⟨rfl, hb4⟩
              have hb4' := hb.trans (hb4.mono hb.size)
              exact ⟨10, .slice none 0 0, rfl, ⟨hbw.trans (hb4'.mono hsw), .inr ⟨rfl, rfl, HF.out.large hjl hop (fun y hy hy18 => HPT.out _ (getD_mem (by rw [HLn.out]; exact hole_lt hy hy18))) (by omega)⟩⟩, hb4'⟩
          obtain ⟨nM, hM⟩ := HO2.out.map
          have hnms : (l.getD j nd0).name.size ≤ maxLen := HNM.out _ hxm
          have hcR2 : wr.cell? ⟨w1.heap.size, 2, none⟩ = some (.map (some M)) := (hbr.cell (p := ⟨w1.heap.size, 2, none⟩) hl2).trans (by rw [cell_of_heap HE2.out]; rfl)
          have HCE : Hid (∀ W, Below wr.heap.size wr W → W.cell? ⟨w1.heap.size, 2, none⟩ = some (.map (some M)) ∧ W.cell? ⟨b, o + j * 4 + 2, none⟩ = some (.string (l.getD j nd0).name) ∧ (Instr.lookup 88 (.map (some M)) (.string (l.getD j nd0).name) false).run Tryd.prog W = .ok (.int .i64 (numL (hlsL l) (l.getD j nd0).name : Nat)) W ∧ W.cell? ⟨pb, po + numL (hlsL l) (l.getD j nd0).name, none⟩ = some (.slice qa (ps.getD (numL (hlsL l) (l.getD j nd0).name) []).length qc)) := fun W hb => by
            refine ⟨(hb.cell (p := ⟨w1.heap.size, 2, none⟩) (by show w1.heap.size < wr.heap.size; omega)).trans hcR2, (hb.cell (p := ⟨b, o + j * 4 + 2, none⟩) hbk).trans q2, ?_, (hb.cell (p := ⟨pb, _, none⟩) (by show pb < wr.heap.size; omega)).trans hpcell⟩
            have := (hM.below (hbr.trans (hb.mono hsr))).look hnms
            rw [hnz] at this
            exact this
          rw [hop] at q0
          clear hO hF hNx hbr hbw hxm hmem hnz hms hke hfx hfk hM hnms hpn hcR2 q1 q2 q3 hpcell hop hfm HF HOx HNx
          generalize numL (hlsL l) (l.getD j nd0).name = z at *
          generalize (l.getD j nd0).name = nm at *
          generalize (ps.getD z []).length = ml at *
          obtain ⟨k0, k1, k2, k3⟩ := HCE.out wr (Below.refl _ _)
          have hzi : (z : Int) < (ps.length : Int) := by omega
          have hz0 : (0 : Int) ≤ (z : Int) := by omega
          have hj0 : (0 : Int) ≤ (j : Int) := by omega
          have hj1 : (j : Int) < (n : Int) + 1 := by omega
          have hj2 : (j : Int) < ((n + 1 : Nat) : Int) := by omega
          go_wp2_with fail
          go_region_held3 (fun W => W.cell? ⟨w1.heap.size, 2, none⟩ = some (.map (some M)) ∧ W.cell? ⟨b, o + j * 4 + 2, none⟩ = some (.string nm) ∧ (Instr.lookup 88 (.map (some M)) (.string nm) false).run Tryd.prog W = .ok (.int .i64 (z : Nat)) W ∧ W.cell? ⟨pb, po + z, none⟩ = some (.slice qa ml qc)) (exact HCE.out _ (by repeat (first | assumption | exact Below.refl _ _ | refine Below.drew ?_))) (first | (go_at_call 14; refine (cP2.out _ (Below.refl _ _).drew).mono ?_; rintro e w4 ⟨bd, v4, rfl, hst4, hb4⟩; have HST4 : Hid (_) := hst4; have HB4 : Hid (_) := hb4))
          go_wp2_with fail
          exact ⟨⟨j, by omega, by first | rfl | go_num, HBR.out.trans (HB4.out.mono hsr), HST4.out⟩, by simp [RowKit.intOf]; try omega⟩
        · have HSK : Hid (FlSt w l ps j (.int .i64 0) (.slice va3 x.length vc3) wr) := ⟨hbw, .inl ⟨rfl, x, hO, hF.skip hjl hop⟩⟩
          have g18 : ((l.getD j nd0).op == 18) = false := by rw [beq_eq_false_iff_ne]; exact hop
          clear hO hF hNx hbr hbw hop
          generalize (l.getD j nd0).op = oo at *
          go_wp2_with fail
          exact ⟨⟨j, by omega, by first | rfl | go_num, HBR.out, HSK.out⟩, by simp [RowKit.intOf]; try omega⟩
      · obtain rfl : k = 0 := by omega
        have HD : Hid (FillP w l ps (.returned (.tuple #[.slice va3 x.length vc3, .int .i64 0])) wr) := ⟨hbw, .inl ⟨by rw [← hF.done, hds_len]; exact hx64.2, _, x, rfl, hO, hF.snd, hF.done⟩⟩
        clear hO hF hNx hbr hbw
        go_wp2_with fail
        go_ret2
        exact HD.out
    · have HD : Hid (FillP w l ps (.returned (.tuple #[.slice none 0 0, .int .i64 10])) wr) := ⟨hbw, .inr ⟨h64, rfl⟩⟩
      clear hbr hbw h64
      by_cases hk0 : 0 < k
      · obtain ⟨j, rfl⟩ : ∃ j, k = j + 1 := ⟨k - 1, by omega⟩
        have hjj : ((j + 1 : Nat) : Int) - 1 = (j : Int) := by omega
        rw [hjj]
        go_wp2_with fail
        go_ret2
        exact HD.out
      · obtain rfl : k = 0 := by omega
        go_wp2_with fail
        go_ret2
        exact HD.out
end Go.Proofs.YtfdghbbanokopaaDoor
