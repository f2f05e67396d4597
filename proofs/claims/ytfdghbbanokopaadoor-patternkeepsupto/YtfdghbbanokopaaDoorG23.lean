/-
  ExAddQ, ExPartQ.
-/
import Derived.Shelf.Unicode.DecodeSlow
import Derived.Laws.RangeAny
import Derived.Shelf.Strconv.Itoa0
import Derived.Shelf.Unicode.DecodeAny
import Derived.Test.YtfdghbbanokopaaDoorProg
import Derived.WalkKit
import Derived.Deep.DeepFit
import Derived.Lib.OthersKept
import Derived.Lib.RuneCountTail
import Derived.Deep.AppendLies
import Derived.Deep.OwnRows
import Derived.Laws.AppendOwnNone
import Derived.Deep.QuietTactic
import Derived.BigQuiet
import Derived.Deep.RegionWith
import Derived.Laws.DeepStrings4
import Derived.Below
import Derived.Test.YtfdghbbanokopaaDoorG01
import Derived.Test.YtfdghbbanokopaaDoorG02
import Derived.Test.YtfdghbbanokopaaDoorG03
import Derived.Test.YtfdghbbanokopaaDoorG04
import Derived.Test.YtfdghbbanokopaaDoorG05
import Derived.Test.YtfdghbbanokopaaDoorG06
import Derived.Test.YtfdghbbanokopaaDoorG07
import Derived.Test.YtfdghbbanokopaaDoorG13
set_option linter.unusedSimpArgs false
set_option linter.unusedVariables false
namespace Go.Proofs.YtfdghbbanokopaaDoor
open Go.RowKit Go.Lib

/-- What was appended to a list of the call's own. -/
structure AddPoq (w : World) (base : Nat) (v : Value) (p : List (Nd × Value)) (ms : List Nd) (e : Ending) (w' : World) : Prop where
  ex : ∃ v' p', e = .returned v' ∧ OwnP w' base v' (p ++ p') ∧ p'.map (·.1) = ms ∧ ((∀ q ∈ p', OwnI w' w.heap.size q.2 q.1.kids) ∧ KdAp p') ∧ w.grownBy w' v.ownBlock ∧ (v'.ownBlock = v.ownBlock ∨ ∀ g, v'.ownBlock = some g → w.heap.size ≤ g) ∧ Below base w w'

/-- In the middle of it. -/
structure AddMiq (w : World) (base : Nat) (v : Value) (p : List (Nd × Value)) (ms : List Nd) (x : Value) (wr : World) : Prop where
  ex : ∃ p', OwnP wr base x (p ++ p') ∧ p'.map (·.1) = ms ∧ ((∀ q ∈ p', OwnI wr w.heap.size q.2 q.1.kids) ∧ KdAp p') ∧ w.grownBy wr v.ownBlock ∧ (x.ownBlock = v.ownBlock ∨ ∀ g, x.ownBlock = some g → w.heap.size ≤ g) ∧ Below base w wr

theorem AddMiq.start {w : World} {base : Nat} {v : Value} {p : List (Nd × Value)} (h : OwnP w base v p) : AddMiq w base v p [] v w :=
  ⟨⟨[], by simpa using h, rfl, ⟨by simp, List.Pairwise.nil⟩, World.grownBy.refl _ _, .inl rfl, Below.refl _ _⟩⟩

/-- One node more: its kids are owned (new since wr), the append has gone through. -/
theorem AddMiq.snoc {w : World} {base : Nat} {v x : Value} {p p' : List (Nd × Value)} {ms : List Nd} {wr W w1 : World} {y : Nd} {kv : Value} {g n cap : Nat} (hP : OwnP wr base x (p ++ p')) (hm : p'.map (·.1) = ms) (hkidA : (∀ q ∈ p', OwnI wr w.heap.size q.2 q.1.kids) ∧ KdAp p') (hgr : w.grownBy wr v.ownBlock) (hx : x.ownBlock = v.ownBlock ∨ ∀ g, x.ownBlock = some g → w.heap.size ≤ g) (hB : Below base w wr)
    (hbase : base ≤ w.heap.size) (hBW : Below wr.heap.size wr W) (hk : OwnI W wr.heap.size kv y.kids) (hn : n = (p ++ p').length)
    (hown : w1.ownsRow base 50 4 (.slice (some ⟨g, 0, none⟩) (n + 1) cap) (n + 1) (ndCells (p ++ p') ++ [.int .i64 y.op, .int .i64 y.n, .string y.name, kv])) (hg : W.grownBy w1 x.ownBlock) (hat : x.ownBlock = some g ∨ g = W.heap.size) :
    AddMiq w base v p (ms ++ [y]) (.slice (some ⟨g, 0, none⟩) (n + 1) cap) w1 := by
  have hkid := hkidA.1
  have hsz : w.heap.size ≤ wr.heap.size := hgr.size
  have hPW := hP.below hBW
  have hkb : OwnI W base kv y.kids := ownsRow_mono hk (by omega)
  refine ⟨⟨p' ++ [(y, kv)], ?_, by simp [hm], ⟨fun q hq => ?_, ?_⟩, ?_, ?_, ?_⟩⟩
  · rw [← List.append_assoc]
    subst hn
    exact hPW.snoc hkb hown hg
  · rcases List.mem_append.1 hq with hq | hq
    · have h1 := (hkid q hq).below hBW
      exact World.ownsRow.kept h1 hg (ownBlock_ne h1 hPW.row (by decide))
    · simp at hq; subst hq
      exact ownsRow_mono (World.ownsRow.kept hk hg (ownBlock_ne hk hPW.row (by decide))) hsz
  · unfold KdAp
    rw [List.pairwise_append]
    refine ⟨hkidA.2, List.pairwise_singleton _ _, fun a ha b hb g' h5 h6 => ?_⟩
    rw [List.mem_singleton.1 hb] at h6
    have h7 := (rw_block (hkid a ha) h5).2.1
    have h8 := (rw_block hk h6).1
    omega
  · refine ⟨hg.os.trans (hBW.os.trans hgr.os), hg.tape.trans (hBW.tape.trans hgr.tape), hg.output.trans (hBW.output.trans hgr.output), Nat.le_trans hsz (Nat.le_trans hBW.size hg.size), fun k hk1 hk2 => ?_⟩
    rw [hg.block k (by have := hBW.size; omega) (fun he => by
      rcases hx with hx | hx
      · rw [hx] at he; exact hk2 he
      · have := hx k he.symm; omega), hBW.block k (by omega), hgr.block k hk1 hk2]
  · rcases hat with hat | hat
    · rcases hx with hx | hx
      · left; show some g = v.ownBlock; rw [← hx, hat]
      · right; intro g' hg'; have e : g = g' := Option.some.inj hg'; have := hx g hat; omega
    · right; intro g' hg'; have e : g = g' := Option.some.inj hg'; have := hBW.size; omega
  · exact (hB.trans (hBW.mono (by omega))).grown hg (by have := hBW.size; omega) (fun k hk => (hPW.row.lt k hk).1)

set_option maxHeartbeats 1000000 in
theorem add_q (v vs : Value) (p : List (Nd × Value)) (ns : List Nd) (fr by_ : Int) (w : World) (base : Nat) (hbase : base ≤ w.heap.size) (hO : OwnP w base v p) (hN : Nodes w base vs ns) (hlen : (p.length + ns.length) * 56 ≤ 140737488355328)
    (hks : ∀ x ∈ ns, x.kids.length * 8 ≤ 140737488351232 ∧ ∀ k ∈ x.kids, -9000 ≤ k ∧ k ≤ 9000) (hb0 : -9000 ≤ by_) (hb1 : by_ ≤ 9000) :
    Calls Tryd.prog 44 #[v, vs, .int .i64 fr, .int .i64 by_] w fun e w' => AddPoq w base v p (ns.map (mvN fr by_)) e w' := by
  obtain ⟨ao, cap0, rfl, hl, hm, hc⟩ := hN
  obtain ⟨i0, hi, hz0, hz1, hz2⟩ := info_parts Tryd.infoNode
  unfold maxLen at hm
  have HC : Hid (ns = [] ∨ ∃ b o, ao = some ⟨b, o, none⟩ ∧ b < base ∧ ∀ i, i < ns.length → ∃ kv, NodeAt w base b (o + i * 4) (ns.getD i nd0) kv) := hc
  clear hc
  go_enter Tryd.func44, Tryd.ntmps44
  go_wp2
  go_loopw [0, 13] (fun x i wr => ∃ k : Nat, k ≤ ns.length ∧ i = .int .i64 k ∧ AddMiq w base v p ((ns.take k).map (mvN fr by_)) x wr) (fun _ i _ => ns.length - (RowKit.intOf i).toNat)
  case atStart => exact ⟨0, by omega, rfl, AddMiq.start hO⟩
  case round =>
    obtain ⟨k, hk, rfl, hmid⟩ := hrel
    by_cases hlt : k < ns.length
    · obtain ⟨p', hP, hpm, hkid, hgr, hx, hB⟩ := hmid.ex
      have hsz := hB.size
      obtain ⟨b, o, rfl, hbl, hc⟩ : ∃ b o, ao = some ⟨b, o, none⟩ ∧ b < base ∧ ∀ i, i < ns.length → ∃ kv, NodeAt w base b (o + i * 4) (ns.getD i nd0) kv := by
        rcases HC.out with h | h
        · subst h; simp at hlt
        · exact h
      obtain ⟨kv, hNA⟩ := hc k hlt
      clear hc HC
      have hNA := hNA.below hB (Nat.le_refl _) hbl
      have hzr := hks (ns.getD k nd0) (by simp [hlt])
      have HS := take_map_snoc (mvN fr by_) nd0 ns k hlt
      have hMl : ((ns.take k).map (mvN fr by_)).length = k := by simp; omega
      have hpl : (p ++ p').length = p.length + k := by
        rw [List.length_append]
        have := congrArg List.length hpm
        simp only [List.length_map] at this hMl
        omega
      have HPL : Hid ((p ++ p').length = p.length + k) := hpl
      have HPM : Hid (p'.map (·.1) = (ns.take k).map (mvN fr by_)) := hpm
      have HKID : Hid ((∀ q ∈ p', OwnI wr w.heap.size q.2 q.1.kids) ∧ KdAp p') := hkid
      have HGR : Hid (w.grownBy wr v.ownBlock) := hgr
      generalize hQ : p ++ p' = Q at hP HPL
      have HQ : Hid (p ++ p' = Q) := hQ
      have HP : Hid (OwnP wr base _ Q) := hP
      have HX : Hid (_ ∨ _) := hx
      clear hpl hQ hpm hkid hgr hx hmid
      generalize ns.getD k nd0 = x at *
      have HS' : Hid ((ns.take (k + 1)).map (mvN fr by_) = (ns.take k).map (mvN fr by_) ++ [mvN fr by_ x]) := HS
      clear HS hks
      obtain ⟨op, n, nm, kids⟩ := x
      obtain ⟨c0, c1, c2, c3, hki⟩ := hNA
      simp only at c0 c1 c2 c3 hki hzr
      obtain ⟨ka, kc, rfl, hki'⟩ := id hki
      have hb9 : b < wr.heap.size := by omega
      have hb8 : b ≠ wr.heap.size := by omega
      go_wp2_with fail
      refine (moved_any _ kids _ _ _ ?h1 hzr.1 hzr.2 hb0 hb1).mono ?_
      case h1 => exact hki.below ((Below.refl _ _).alloc (by omega) _) (by simp; omega)
      rintro e w2 ⟨v2, rfl, hO2, hB2⟩
      obtain ⟨ao2, cap2, rfl⟩ := hO2.form
      generalize hm2 : kids.map (mvK fr by_) = kids2 at *
      have HM2 : Hid (mvN fr by_ ⟨op, n, nm, kids⟩ = ⟨op, n, nm, kids2⟩) := by show mvN fr by_ ⟨op, n, nm, kids⟩ = ⟨op, n, nm, kids2⟩; rw [← hm2]; rfl
      clear hm2
      have d0 : w2.cell? ⟨wr.heap.size, 0, none⟩ = some (.int .i64 op) := by rw [hB2.cell (p := ⟨wr.heap.size, 0, none⟩) (by simp)]; simp
      have d1 : w2.cell? ⟨wr.heap.size, 1, none⟩ = some (.int .i64 n) := by rw [hB2.cell (p := ⟨wr.heap.size, 1, none⟩) (by simp)]; simp
      have d2 : w2.cell? ⟨wr.heap.size, 2, none⟩ = some (.string nm) := by rw [hB2.cell (p := ⟨wr.heap.size, 2, none⟩) (by simp)]; simp
      have d3 : w2.cell? ⟨wr.heap.size, 3, none⟩ = some (.slice ka kids.length kc) := by rw [hB2.cell (p := ⟨wr.heap.size, 3, none⟩) (by simp)]; simp
      have f3 : w2.frozen? ⟨wr.heap.size, 3, none⟩ = false := by rw [hB2.frozen (p := ⟨wr.heap.size, 3, none⟩) (by simp)]; simp
      have z2 : wr.heap.size + 1 ≤ w2.heap.size := by have := hB2.size; simpa using this
      have hBw2 : Below wr.heap.size wr w2 := ((Below.refl _ _).alloc (Nat.le_refl _) _).trans (hB2.mono (by simp))
      have hBw3 : Below wr.heap.size wr (w2.setCell ⟨wr.heap.size, 3, none⟩ (.slice ao2 kids2.length cap2)) := hBw2.setCell (Nat.le_refl _) _
      have hP3 := hP.below hBw3
      have hO3 : OwnI (w2.setCell ⟨wr.heap.size, 3, none⟩ (.slice ao2 kids2.length cap2)) wr.heap.size (.slice ao2 kids2.length cap2) kids2 := ownsRow_mono (ownsRow_setCell_below hO2 (by simp) _) (by simp)
      clear c0 c1 c2 c3 hki hki' hO2 hB2 hBw2 hO hP
      go_wp2_with (at_builtin; refine wpList_append_lies _ rfl (.tmp 23) (.tmp 25) 22 rfl base 50 i0 (.agg #[.int .i64 0, .int .i64 0, .string ⟨#[]⟩, .slice none 0 0]) 4 56 Tryd.underlying22 hi hz0 hz1 hz2 rfl (by decide) _ _ _ rfl (hP3.row.alloc _) ⟨w2.heap.size, 0, none⟩ 1 1 [.int .i64 op, .int .i64 n, .string nm, .slice ao2 kids2.length cap2] rfl rfl (cell_news4 _ _ _ _ _ _ _ (by simp)) (by simp [Value.oneCell']) (by omega) (by have := HPL.out; unfold maxLen; omega) (by have := HPL.out; omega) (by simp; omega) _ rfl ?_; intro g cap w1 hown1 hg1 hat hl1)
      refine ⟨⟨k + 1, by omega, by go_num, ?_⟩, by simp [RowKit.intOf]; omega⟩
      rw [HS'.out, HM2.out]
      have hPQ := HP.out
      rw [← HQ.out] at hPQ
      refine AddMiq.snoc (p' := p') (y := ⟨op, n, nm, kids2⟩) (kv := .slice ao2 kids2.length cap2) hPQ HPM.out HKID.out HGR.out HX.out hB hbase (hBw3.alloc (by simp; omega) (.cells #[.int .i64 op, .int .i64 n, .string nm, .slice ao2 kids2.length cap2] 50)) (hO3.below ((Below.refl _ _).alloc (Nat.le_refl _) _)) (by rw [HQ.out]) (by rw [HQ.out]; exact hown1) hg1 hat
    · have hke : k = ns.length := by omega
      subst hke
      go_wp2
      go_ret
      rw [List.take_length] at hmid
      obtain ⟨p', h1, h2, h3, h4, h5, h6⟩ := hmid.ex
      exact ⟨⟨_, p', rfl, h1, h2, h3, h4, h5, h6⟩⟩
/-- The old rows and the new ones. -/
theorem kdAp_more {w : World} {base : Nat} {v : Value} {p p' : List (Nd × Value)} {w' : World} (h : OwnP w base v p) (ha : KdAp p) (hn : ∀ q ∈ p', OwnI w' w.heap.size q.2 q.1.kids) (hb : KdAp p') : KdAp (p ++ p') := by
  unfold KdAp
  rw [List.pairwise_append]
  refine ⟨ha, hb, fun a h1 b h2 g h3 h4 => ?_⟩
  have := (rw_block (h.kids a h1) h3).2.1
  have := (rw_block (hn b h2) h4).1
  omega
end Go.Proofs.YtfdghbbanokopaaDoor

set_option linter.unusedSimpArgs false
set_option linter.unusedVariables false
namespace Go.Proofs.YtfdghbbanokopaaDoor
open Go.RowKit Go.Lib

/-- Owned, and no two rows of kids are one. -/
def OwnQ (w : World) (base : Nat) (v : Value) (l : List Nd) : Prop := ∃ p : List (Nd × Value), p.map (·.1) = l ∧ OwnP w base v p ∧ KdAp p
theorem OwnQ.n {w : World} {base : Nat} {v : Value} {l : List Nd} (h : OwnQ w base v l) : OwnN w base v l := let ⟨p, h1, h2, _⟩ := h; ⟨p, h1, h2⟩
theorem OwnQ.form {w : World} {base : Nat} {v : Value} {l : List Nd} (h : OwnQ w base v l) : ∃ ao n cap, v = .slice ao n cap := h.n.form
theorem OwnQ.below {w w' : World} {base : Nat} {v : Value} {l : List Nd} (h : OwnQ w base v l) (hb : Below w.heap.size w w') : OwnQ w' base v l := let ⟨p, h1, h2, h3⟩ := h; ⟨p, h1, h2.below hb, h3⟩
theorem OwnQ.mono {w : World} {base base' : Nat} {v : Value} {l : List Nd} (h : OwnQ w base v l) (hb : base' ≤ base) : OwnQ w base' v l := let ⟨p, h1, h2, h3⟩ := h; ⟨p, h1, ⟨ownsRow_mono h2.row hb, fun q hq => ownsRow_mono (h2.kids q hq) hb⟩, h3⟩
theorem OwnQ_nil (w : World) (base : Nat) : OwnQ w base (.slice none 0 0) [] := ⟨[], rfl, ⟨World.ownsRow_nil _ _ _ _, by simp⟩, List.Pairwise.nil⟩

theorem add_a (v vs : Value) (l ns : List Nd) (fr by_ : Int) (w : World) (base : Nat) (hbase : base ≤ w.heap.size) (hO : OwnQ w base v l) (hN : Nodes w base vs ns) (hlen : (l.length + ns.length) * 56 ≤ 140737488355328)
    (hks : ∀ x ∈ ns, x.kids.length * 8 ≤ 140737488351232 ∧ ∀ k ∈ x.kids, -9000 ≤ k ∧ k ≤ 9000) (hb0 : -9000 ≤ by_) (hb1 : by_ ≤ 9000) :
    Calls Tryd.prog 44 #[v, vs, .int .i64 fr, .int .i64 by_] w fun e w' => ∃ v', e = .returned v' ∧ OwnQ w' base v' (l ++ ns.map (mvN fr by_)) ∧ Below base w w' := by
  obtain ⟨p, hp, hO, hA⟩ := hO
  have hl : p.length = l.length := by rw [← hp, List.length_map]
  refine (add_q v vs p ns fr by_ w base hbase hO hN (by rw [hl]; exact hlen) hks hb0 hb1).mono ?_
  rintro e w' ⟨⟨v', p', he, h1, h2, h3, h4, h5, h6⟩⟩
  exact ⟨v', he, ⟨p ++ p', by rw [List.map_append, hp, h2], h1, kdAp_more hO hA h3.1 h3.2⟩, h6⟩

set_option maxHeartbeats 1000000 in
theorem part_q (vs : Value) (l : List Nd) (fr : List Nat) (i a : Nat) (w : World) (B : Nat) (hBw : B ≤ w.heap.size) (hT : SpanCells w) (hN : Nodes w B vs l) (h : begL l = some fr) (hi : i < l.length) (ha : fr.getD i 0 = a) :
    Calls Tryd.prog 11 #[vs, .int .i64 i] w fun e w' => ∃ v', e = .returned (.tuple #[v', .int .i64 0]) ∧ OwnQ w' w.heap.size v' (partL l a i) ∧ Below w.heap.size w w' := by
  have hai : a ≤ i := by rw [← ha]; exact (begR_some (begL_some h).2.2.1 low_nil).2.1 i
  have h64 := (snd_bounds h).1
  have HK := snd_kids h
  have HS : Hid (begL l = some fr) := h
  have HA : Hid (fr.getD i 0 = a) := ha
  clear h ha
  obtain ⟨ao, cap, rfl, hl, hm, hc⟩ := id hN
  obtain ⟨b, o, rfl, hbl, hc'⟩ : ∃ b o, ao = some ⟨b, o, none⟩ ∧ b < B ∧ ∀ i, i < l.length → ∃ kv, NodeAt w B b (o + i * 4) (l.getD i nd0) kv := by
    rcases hc with h | h
    · subst h; simp at hi
    · exact h
  clear hc
  have hm' := hm
  unfold maxLen at hm
  have hnil := eql_nil
  have co : Hid (∀ W, Calls Tryd.prog 43 #[.slice (some ⟨b, o, none⟩) l.length cap, .int .i64 i] W fun e w' => e = .returned (.bool false) ∧ w' = W) := fun W => by
    have := exOutside_any (some ⟨b, o, none⟩) l.length cap i W
    have e : (decide ((i : Int) < 0) || decide ((l.length : Int) ≤ i)) = false := by simp; omega
    rw [e] at this; exact this
  have HCT : Hid (Nodes w B (.slice (some ⟨b, o + a * 4, none⟩) (i + 1 - a) (cap - a)) ((l.drop a).take (i + 1 - a))) := Nodes.cut (cap := cap) hc' hbl a (i + 1 - a) (cap - a) (by omega) (by omega) (by omega) _ (fun _ => rfl)
  clear hc'
  have HK2 : Hid (∀ x ∈ (l.drop a).take (i + 1 - a), x.kids.length * 8 ≤ 140737488351232 ∧ ∀ k ∈ x.kids, -9000 ≤ k ∧ k ≤ 9000) := fun x hx => HK x (List.mem_of_mem_drop (List.mem_of_mem_take hx))
  clear HK
  go_enter Tryd.func11, Tryd.ntmps11
  go_wp2_with (first | (go_at_call 40; refine (begins_some _ l fr _ B hBw hT hN HS.out).mono ?_; rintro e w2 ⟨g, rfl, hg1, hg2, hg3, hb2⟩; have hgi := hg3 i hi; rw [HA.out] at hgi; have HG3 : Hid (∀ j, j < l.length → w2.cell? ⟨g, j, none⟩ = some (.int .i64 (fr.getD j 0 : Nat))) := hg3; clear hg3) | (go_at_call 43; refine (co.out _).mono ?_; rintro e w3 ⟨rfl, rfl⟩))
  have hz := hb2.size
  refine (add_a (.slice none 0 0) _ [] _ 0 (-(a : Int)) _ w3.heap.size (Nat.le_refl _) (OwnQ_nil _ _) (HCT.out.below (hb2.mono hBw) (by omega)) (by simp; omega) HK2.out (by omega) (by omega)).mono ?_
  rintro e w4 ⟨v4, rfl, hO4, hb4⟩
  obtain ⟨ao4, n4, cap4, rfl⟩ := hO4.form
  have HO4 : Hid (OwnQ w4 w.heap.size (.slice ao4 n4 cap4) (partL l a i)) := hO4.mono hz
  clear hO4
  go_wp2
  go_ret2
  exact ⟨_, rfl, HO4.out, hb2.trans (hb4.mono hz)⟩

set_option maxHeartbeats 2000000 in
theorem put_q (vs vp : Value) (l m : List Nd) (fr fm : List Nat) (i a : Nat) (w : World) (B : Nat) (hBw : B ≤ w.heap.size) (hT : SpanCells w) (hN : Nodes w B vs l) (hM : Nodes w B vp m) (h : begL l = some fr) (h2 : begL m = some fm) (hi : i < l.length) (ha : fr.getD i 0 = a) (hsz : l.length + m.length + a ≤ 64 + (i + 1)) :
    Calls Tryd.prog 14 #[vs, .int .i64 i, vp] w fun e w' => ∃ v', e = .returned (.tuple #[v', .int .i64 0]) ∧ OwnQ w' w.heap.size v' (putL l a i m) ∧ Below w.heap.size w w' := by
  have hai : a ≤ i := by rw [← ha]; exact (begR_some (begL_some h).2.2.1 low_nil).2.1 i
  have h64 := (snd_bounds h).1
  have m64 := (snd_bounds h2).1
  have HK := snd_kids h
  have HKM : Hid (∀ x ∈ m, x.kids.length * 8 ≤ 140737488351232 ∧ ∀ k ∈ x.kids, -9000 ≤ k ∧ k ≤ 9000) := snd_kids h2
  have HS : Hid (begL l = some fr) := h
  have HS2 : Hid (begL m = some fm) := h2
  have HA : Hid (fr.getD i 0 = a) := ha
  clear h h2 ha
  obtain ⟨ao, cap, rfl, hl, hm, hc⟩ := id hN
  obtain ⟨am, capm, rfl, hlm, hmm, _⟩ := id hM
  unfold maxLen at hmm
  obtain ⟨b, o, rfl, hbl, hc'⟩ : ∃ b o, ao = some ⟨b, o, none⟩ ∧ b < B ∧ ∀ i, i < l.length → ∃ kv, NodeAt w B b (o + i * 4) (l.getD i nd0) kv := by
    rcases hc with h | h
    · subst h; simp at hi
    · exact h
  clear hc
  have hm' := hm
  unfold maxLen at hm
  have hnil := eql_nil
  have co : Hid (∀ W, Calls Tryd.prog 43 #[.slice (some ⟨b, o, none⟩) l.length cap, .int .i64 i] W fun e w' => e = .returned (.bool false) ∧ w' = W) := fun W => by
    have := exOutside_any (some ⟨b, o, none⟩) l.length cap i W
    have e : (decide ((i : Int) < 0) || decide ((l.length : Int) ≤ i)) = false := by simp; omega
    rw [e] at this; exact this
  have HC1 : Hid (Nodes w B (.slice (some ⟨b, o, none⟩) a cap) (l.take a)) := by
    have := Nodes.cut (cap := cap) hc' hbl 0 a cap (by omega) (by omega) (by omega) (some ⟨b, o, none⟩) (fun _ => by simp)
    rw [List.drop_zero] at this; exact this
  have HC2 : Hid (∀ ao' cap', l.length - (i + 1) ≤ cap' → cap' ≤ maxLen → (l.length - (i + 1) ≠ 0 → ao' = some ⟨b, o + (i + 1) * 4, none⟩) → Nodes w B (.slice ao' (l.length - (i + 1)) cap') (l.drop (i + 1))) := fun ao' cap' h1 h2 hao => by
    have := Nodes.cut (cap := cap) hc' hbl (i + 1) (l.length - (i + 1)) cap' (by omega) h1 h2 ao' hao
    rw [List.take_of_length_le (by simp)] at this; exact this
  clear hc'
  have HK1 : Hid (∀ x ∈ l.take a, x.kids.length * 8 ≤ 140737488351232 ∧ ∀ k ∈ x.kids, -9000 ≤ k ∧ k ≤ 9000) := fun x hx => HK x (List.mem_of_mem_take hx)
  have HK2 : Hid (∀ x ∈ l.drop (i + 1), x.kids.length * 8 ≤ 140737488351232 ∧ ∀ k ∈ x.kids, -9000 ≤ k ∧ k ≤ 9000) := fun x hx => HK x (List.mem_of_mem_drop hx)
  clear HK
  go_enter Tryd.func14, Tryd.ntmps14
  go_wp2_with (first | (go_at_call 40; refine (begins_some _ l fr _ B hBw hT hN HS.out).mono ?_; rintro e w2 ⟨g, rfl, hg1, hg2, hg3, hb2⟩; have hgi := hg3 i hi; rw [HA.out] at hgi; have HG3 : Hid (∀ j, j < l.length → w2.cell? ⟨g, j, none⟩ = some (.int .i64 (fr.getD j 0 : Nat))) := hg3; clear hg3) | (go_at_call 8; refine (check_some _ m fm _ B (by have := hb2.size; omega) (hT.below hb2) (hM.below (hb2.mono hBw) (Nat.le_refl _)) HS2.out).mono ?_; rintro e w3 ⟨rfl, hb3⟩; have hgi3 : w3.cell? ⟨g, i, none⟩ = some (.int .i64 a) := (hb3.cell (p := ⟨g, i, none⟩) hg2).trans hgi) | (go_at_call 43; refine (co.out _).mono ?_; rintro e w4 ⟨rfl, rfl⟩))
  have hb24 : Below w.heap.size w w4 := hb2.trans (hb3.mono hb2.size)
  have hz4 := hb24.size
  clear hgi hgi3 HG3
  refine (add_a (.slice none 0 0) _ [] (l.take a) 0 0 _ w4.heap.size (Nat.le_refl _) (OwnQ_nil _ _) (HC1.out.below (hb24.mono hBw) (by omega)) (by simp; omega) HK1.out (by omega) (by omega)).mono ?_
  rintro e w5 ⟨v5, rfl, hO5, hb5⟩
  obtain ⟨ao5, n5, cap5, rfl⟩ := hO5.form
  have HO5 : Hid (OwnQ w5 w4.heap.size (.slice ao5 n5 cap5) ([] ++ (l.take a).map (mvN 0 0))) := hO5
  clear hO5
  have hz5 := hb5.size
  go_wp2_with fail
  refine (add_a _ _ _ m 0 a _ w4.heap.size hz5 HO5.out (hM.below ((hb24.trans (hb5.mono hz4)).mono hBw) (by omega)) (by simp; omega) HKM.out (by omega) (by omega)).mono ?_
  rintro e w6 ⟨v6, rfl, hO6, hb6⟩
  obtain ⟨ao6, n6, cap6, rfl⟩ := hO6.form
  have HO6 : Hid (OwnQ w6 w4.heap.size (.slice ao6 n6 cap6) ([] ++ (l.take a).map (mvN 0 0) ++ m.map (mvN 0 a))) := hO6
  clear hO6
  have hz6 := hb6.size
  go_wp2_with fail
  all_goals
    refine (add_a _ _ _ (l.drop (i + 1)) i ((m.length : Int) - ((i : Int) + 1 - a)) _ w4.heap.size (by omega) HO6.out ((HC2.out _ _ (by omega) (by unfold maxLen; omega) (by intro hne; first | rfl | (exfalso; omega))).below ((hb24.trans ((hb5.trans hb6).mono hz4)).mono hBw) (by omega)) (by simp; omega) HK2.out (by omega) (by omega)).mono ?_
    rintro e w7 ⟨v7, rfl, hO7, hb7⟩
    obtain ⟨ao7, n7, cap7, rfl⟩ := hO7.form
    have HO7 : Hid (OwnQ w7 w.heap.size (.slice ao7 n7 cap7) (putL l a i m)) := by
      show OwnQ w7 w.heap.size (.slice ao7 n7 cap7) (putL l a i m)
      rw [List.nil_append] at hO7
      exact hO7.mono hz4
    clear hO7
    go_wp2
    go_ret2
    exact ⟨_, rfl, HO7.out, hb24.trans (((hb5.trans hb6).trans hb7).mono hz4)⟩
end Go.Proofs.YtfdghbbanokopaaDoor
