/-
  add once more, telling which memory is its own; lists of lists.
-/
import Derived.Test.YtkdcjkhpbbcncaaDoorExRdW
set_option linter.unusedSimpArgs false
set_option linter.unusedVariables false
namespace Go.Proofs.YtkdcjkhpbbcncaaDoor
open Go.RowKit Go.Lib

/-- What was appended to a list of the call's own. -/
structure AddPost (w : World) (base : Nat) (v : Value) (p : List (Nd × Value)) (ms : List Nd) (e : Ending) (w' : World) : Prop where
  ex : ∃ v' p', e = .returned v' ∧ OwnP w' base v' (p ++ p') ∧ p'.map (·.1) = ms ∧ (∀ q ∈ p', OwnI w' w.heap.size q.2 q.1.kids) ∧ w.grownBy w' v.ownBlock ∧ (v'.ownBlock = v.ownBlock ∨ ∀ g, v'.ownBlock = some g → w.heap.size ≤ g) ∧ Below base w w'

/-- In the middle of it. -/
structure AddMid (w : World) (base : Nat) (v : Value) (p : List (Nd × Value)) (ms : List Nd) (x : Value) (wr : World) : Prop where
  ex : ∃ p', OwnP wr base x (p ++ p') ∧ p'.map (·.1) = ms ∧ (∀ q ∈ p', OwnI wr w.heap.size q.2 q.1.kids) ∧ w.grownBy wr v.ownBlock ∧ (x.ownBlock = v.ownBlock ∨ ∀ g, x.ownBlock = some g → w.heap.size ≤ g) ∧ Below base w wr

theorem AddMid.start {w : World} {base : Nat} {v : Value} {p : List (Nd × Value)} (h : OwnP w base v p) : AddMid w base v p [] v w :=
  ⟨⟨[], by simpa using h, rfl, by simp, World.grownBy.refl _ _, .inl rfl, Below.refl _ _⟩⟩

theorem grown_of_below {w w' : World} (h : Below w.heap.size w w') (row : Option Nat) : w.grownBy w' row := ⟨h.os, h.tape, h.output, h.size, fun k hk _ => h.block k hk⟩

/-- One node more: its kids are owned (new since wr), the append has gone through. -/
theorem AddMid.snoc {w : World} {base : Nat} {v x : Value} {p p' : List (Nd × Value)} {ms : List Nd} {wr W w1 : World} {y : Nd} {kv : Value} {g n cap : Nat} (hP : OwnP wr base x (p ++ p')) (hm : p'.map (·.1) = ms) (hkid : ∀ q ∈ p', OwnI wr w.heap.size q.2 q.1.kids) (hgr : w.grownBy wr v.ownBlock) (hx : x.ownBlock = v.ownBlock ∨ ∀ g, x.ownBlock = some g → w.heap.size ≤ g) (hB : Below base w wr)
    (hbase : base ≤ w.heap.size) (hBW : Below wr.heap.size wr W) (hk : OwnI W wr.heap.size kv y.kids) (hn : n = (p ++ p').length)
    (hown : w1.ownsRow base 63 4 (.slice (some ⟨g, 0, none⟩) (n + 1) cap) (n + 1) (ndCells (p ++ p') ++ [.int .i64 y.op, .int .i64 y.n, .string y.name, kv])) (hg : W.grownBy w1 x.ownBlock) (hat : x.ownBlock = some g ∨ g = W.heap.size) :
    AddMid w base v p (ms ++ [y]) (.slice (some ⟨g, 0, none⟩) (n + 1) cap) w1 := by
  have hsz : w.heap.size ≤ wr.heap.size := hgr.size
  have hPW := hP.below hBW
  have hkb : OwnI W base kv y.kids := ownsRow_mono hk (by omega)
  refine ⟨⟨p' ++ [(y, kv)], ?_, by simp [hm], fun q hq => ?_, ?_, ?_, ?_⟩⟩
  · rw [← List.append_assoc]
    subst hn
    exact hPW.snoc hkb hown hg
  · rcases List.mem_append.1 hq with hq | hq
    · have h1 := (hkid q hq).below hBW
      exact World.ownsRow.kept h1 hg (ownBlock_ne h1 hPW.row (by decide))
    · simp at hq; subst hq
      exact ownsRow_mono (World.ownsRow.kept hk hg (ownBlock_ne hk hPW.row (by decide))) hsz
  · refine ⟨hg.os.trans (hBW.os.trans hgr.os), hg.tape.trans (hBW.tape.trans hgr.tape), hg.output.trans (hBW.output.trans hgr.output), Nat.le_trans hsz (Nat.le_trans hBW.size hg.size), fun k hk1 hk2 => ?_⟩
    rw [hg.block k (by have := hBW.size; omega) (fun he => by
      rcases hx with hx | hx
      · rw [hx] at he; exact hk2 he
      · have := hx k he.symm; omega), hBW.block k (by omega), hgr.block k hk1 hk2]
  · rcases hat with hat | hat
    · rcases hx with hx | hx
      · left; show some g = v.ownBlock; rw [← hx, hat]
      · right; intro g' hg'; have e : g = g' := Option.some.inj hg'; have := hx g hat; omega
    · right; intro g' hg'; have e : g = g' := Option.some.inj hg'; have := hBW.size; omega
  · exact (hB.trans (hBW.mono (by omega))).grown hg (by have := hBW.size; omega) (fun k hk => (hPW.row.lt k hk).1)

set_option maxHeartbeats 1000000 in
theorem add_p (v vs : Value) (p : List (Nd × Value)) (ns : List Nd) (fr by_ : Int) (w : World) (base : Nat) (hbase : base ≤ w.heap.size) (hO : OwnP w base v p) (hN : Nodes w base vs ns) (hlen : (p.length + ns.length) * 56 ≤ 140737488355328)
    (hks : ∀ x ∈ ns, x.kids.length * 8 ≤ 140737488351232 ∧ ∀ k ∈ x.kids, -9000 ≤ k ∧ k ≤ 9000) (hb0 : -9000 ≤ by_) (hb1 : by_ ≤ 9000) :
    Calls Tryd.prog 48 #[v, vs, .int .i64 fr, .int .i64 by_] w fun e w' => AddPost w base v p (ns.map (mvN fr by_)) e w' := by
  obtain ⟨ao, cap0, rfl, hl, hm, hc⟩ := hN
  obtain ⟨i0, hi, hz0, hz1, hz2⟩ := info_parts Tryd.infoNode
  unfold maxLen at hm
  have HC : Hid (ns = [] ∨ ∃ b o, ao = some ⟨b, o, none⟩ ∧ b < base ∧ ∀ i, i < ns.length → ∃ kv, NodeAt w base b (o + i * 4) (ns.getD i nd0) kv) := hc
  clear hc
  go_enter Tryd.func48, Tryd.ntmps48
  go_wp2
  go_loopw [0, 13] (fun x i wr => ∃ k : Nat, k ≤ ns.length ∧ i = .int .i64 k ∧ AddMid w base v p ((ns.take k).map (mvN fr by_)) x wr) (fun _ i _ => ns.length - (RowKit.intOf i).toNat)
  case atStart => exact ⟨0, by omega, rfl, AddMid.start hO⟩
  case round =>
    obtain ⟨k, hk, rfl, hmid⟩ := hrel
    by_cases hlt : k < ns.length
    · obtain ⟨p', hP, hpm, hkid, hgr, hx, hB⟩ := hmid.ex
      have hsz := hB.size
      obtain ⟨b, o, rfl, hbl, hc⟩ : ∃ b o, ao = some ⟨b, o, none⟩ ∧ b < base ∧ ∀ i, i < ns.length → ∃ kv, NodeAt w base b (o + i * 4) (ns.getD i nd0) kv := by
        rcases HC.out with h | h
        · subst h; simp at hlt
        · exact h
      obtain ⟨kv, hNA⟩ := hc k hlt
      clear hc HC
      have hNA := hNA.below hB (Nat.le_refl _) hbl
      have hzr := hks (ns.getD k nd0) (by simp [hlt])
      have HS := take_map_snoc (mvN fr by_) nd0 ns k hlt
      have hMl : ((ns.take k).map (mvN fr by_)).length = k := by simp; omega
      have hpl : (p ++ p').length = p.length + k := by
        rw [List.length_append]
        have := congrArg List.length hpm
        simp only [List.length_map] at this hMl
        omega
      have HPL : Hid ((p ++ p').length = p.length + k) := hpl
      have HPM : Hid (p'.map (·.1) = (ns.take k).map (mvN fr by_)) := hpm
      have HKID : Hid (∀ q ∈ p', OwnI wr w.heap.size q.2 q.1.kids) := hkid
      have HGR : Hid (w.grownBy wr v.ownBlock) := hgr
      generalize hQ : p ++ p' = Q at hP HPL
      have HQ : Hid (p ++ p' = Q) := hQ
      have HP : Hid (OwnP wr base _ Q) := hP
      have HX : Hid (_ ∨ _) := hx
      clear hpl hQ hpm hkid hgr hx hmid
      generalize ns.getD k nd0 = x at *
      have HS' : Hid ((ns.take (k + 1)).map (mvN fr by_) = (ns.take k).map (mvN fr by_) ++ [mvN fr by_ x]) := HS
      clear HS hks
      obtain ⟨op, n, nm, kids⟩ := x
      obtain ⟨c0, c1, c2, c3, hki⟩ := hNA
      simp only at c0 c1 c2 c3 hki hzr
      obtain ⟨ka, kc, rfl, hki'⟩ := id hki
      have hb9 : b < wr.heap.size := by omega
      have hb8 : b ≠ wr.heap.size := by omega
      go_wp2_with fail
      refine (moved_any _ kids _ _ _ ?h1 hzr.1 hzr.2 hb0 hb1).mono ?_
      case h1 => exact hki.below ((Below.refl _ _).alloc (by omega) _) (by simp; omega)
      rintro e w2 ⟨v2, rfl, hO2, hB2⟩
      obtain ⟨ao2, cap2, rfl⟩ := hO2.form
      generalize hm2 : kids.map (mvK fr by_) = kids2 at *
      have HM2 : Hid (mvN fr by_ ⟨op, n, nm, kids⟩ = ⟨op, n, nm, kids2⟩) := by show mvN fr by_ ⟨op, n, nm, kids⟩ = ⟨op, n, nm, kids2⟩; rw [← hm2]; rfl
      clear hm2
      have d0 : w2.cell? ⟨wr.heap.size, 0, none⟩ = some (.int .i64 op) := by rw [hB2.cell (p := ⟨wr.heap.size, 0, none⟩) (by simp)]; simp
      have d1 : w2.cell? ⟨wr.heap.size, 1, none⟩ = some (.int .i64 n) := by rw [hB2.cell (p := ⟨wr.heap.size, 1, none⟩) (by simp)]; simp
      have d2 : w2.cell? ⟨wr.heap.size, 2, none⟩ = some (.string nm) := by rw [hB2.cell (p := ⟨wr.heap.size, 2, none⟩) (by simp)]; simp
      have d3 : w2.cell? ⟨wr.heap.size, 3, none⟩ = some (.slice ka kids.length kc) := by rw [hB2.cell (p := ⟨wr.heap.size, 3, none⟩) (by simp)]; simp
      have f3 : w2.frozen? ⟨wr.heap.size, 3, none⟩ = false := by rw [hB2.frozen (p := ⟨wr.heap.size, 3, none⟩) (by simp)]; simp
      have z2 : wr.heap.size + 1 ≤ w2.heap.size := by have := hB2.size; simpa using this
      have hBw2 : Below wr.heap.size wr w2 := ((Below.refl _ _).alloc (Nat.le_refl _) _).trans (hB2.mono (by simp))
      have hBw3 : Below wr.heap.size wr (w2.setCell ⟨wr.heap.size, 3, none⟩ (.slice ao2 kids2.length cap2)) := hBw2.setCell (Nat.le_refl _) _
      have hP3 := hP.below hBw3
      have hO3 : OwnI (w2.setCell ⟨wr.heap.size, 3, none⟩ (.slice ao2 kids2.length cap2)) wr.heap.size (.slice ao2 kids2.length cap2) kids2 := ownsRow_mono (ownsRow_setCell_below hO2 (by simp) _) (by simp)
      clear c0 c1 c2 c3 hki hki' hO2 hB2 hBw2 hO hP
      go_wp2_with (at_builtin; refine wpList_append_lies _ rfl (.tmp 23) (.tmp 25) 22 rfl base 63 i0 (.agg #[.int .i64 0, .int .i64 0, .string ⟨#[]⟩, .slice none 0 0]) 4 56 Tryd.underlying22 hi hz0 hz1 hz2 rfl (by decide) _ _ _ rfl (hP3.row.alloc _) ⟨w2.heap.size, 0, none⟩ 1 1 [.int .i64 op, .int .i64 n, .string nm, .slice ao2 kids2.length cap2] rfl rfl (cell_news4 _ _ _ _ _ _ _ (by simp)) (by simp [Value.oneCell']) (by omega) (by have := HPL.out; unfold maxLen; omega) (by have := HPL.out; omega) (by simp; omega) _ rfl ?_; intro g cap w1 hown1 hg1 hat hl1)
      refine ⟨⟨k + 1, by omega, by go_num, ?_⟩, by simp [RowKit.intOf]; omega⟩
      rw [HS'.out, HM2.out]
      have hPQ := HP.out
      rw [← HQ.out] at hPQ
      refine AddMid.snoc (p' := p') (y := ⟨op, n, nm, kids2⟩) (kv := .slice ao2 kids2.length cap2) hPQ HPM.out HKID.out HGR.out HX.out hB hbase (hBw3.alloc (by simp; omega) (.cells #[.int .i64 op, .int .i64 n, .string nm, .slice ao2 kids2.length cap2] 63)) (hO3.below ((Below.refl _ _).alloc (Nat.le_refl _) _)) (by rw [HQ.out]) (by rw [HQ.out]; exact hown1) hg1 hat
    · have hke : k = ns.length := by omega
      subst hke
      go_wp2
      go_ret
      rw [List.take_length] at hmid
      obtain ⟨p', h1, h2, h3, h4, h5, h6⟩ := hmid.ex
      exact ⟨⟨_, p', rfl, h1, h2, h3, h4, h5, h6⟩⟩
end Go.Proofs.YtkdcjkhpbbcncaaDoor

namespace Go.Proofs.YtkdcjkhpbbcncaaDoor
open Go.RowKit Go.Lib

/-- The slice v reads as the lists ps, in blocks below B. -/
def Lst (w : World) (B : Nat) (v : Value) (ps : List (List Nd)) : Prop :=
  ∃ ao cap, v = .slice ao ps.length cap ∧ ps.length ≤ cap ∧ cap ≤ maxLen ∧ (ps = [] ∨ ∃ b o, ao = some ⟨b, o, none⟩ ∧ b < B ∧ ∀ i, i < ps.length → ∃ pv, w.cell? ⟨b, o + i, none⟩ = some pv ∧ Nodes w B pv (ps.getD i []))

theorem Lst.below {w w' : World} {B B' : Nat} {v : Value} {ps : List (List Nd)} (h : Lst w B v ps) (hb : Below B w w') (hB : B ≤ B') : Lst w' B' v ps := by
  obtain ⟨ao, cap, rfl, h1, h2, h3⟩ := h
  refine ⟨ao, cap, rfl, h1, h2, ?_⟩
  rcases h3 with h3 | ⟨b, o, rfl, hlt, hc⟩
  · exact .inl h3
  · exact .inr ⟨b, o, rfl, by omega, fun i hi => let ⟨pv, h4, h5⟩ := hc i hi; ⟨pv, (hb.cell (p := ⟨b, o + i, none⟩) hlt).trans h4, h5.below hb hB⟩⟩

theorem OwnP.kept {w w' : World} {base base' : Nat} {v v2 : Value} {p : List (Nd × Value)} {e : TypeId} {s n : Nat} {xs : List Value} (h : OwnP w base v p) (hg : w.grownBy w' v2.ownBlock) (hr : w.ownsRow base' e s v2 n xs) (h1 : 63 ≠ e) (h2 : 3 ≠ e) : OwnP w' base v p :=
  ⟨World.ownsRow.kept h.row hg (ownBlock_ne h.row hr h1), fun q hq => World.ownsRow.kept (h.kids q hq) hg (ownBlock_ne (h.kids q hq) hr h2)⟩
theorem OwnN.kept {w w' : World} {base base' : Nat} {v v2 : Value} {l : List Nd} {e : TypeId} {s n : Nat} {xs : List Value} (h : OwnN w base v l) (hg : w.grownBy w' v2.ownBlock) (hr : w.ownsRow base' e s v2 n xs) (h1 : 63 ≠ e) (h2 : 3 ≠ e) : OwnN w' base v l :=
  let ⟨p, h3, h4⟩ := h; ⟨p, h3, h4.kept hg hr h1 h2⟩

/-- Lists of lists of the call's own; pvs: the slices. -/
structure OwnLs (w : World) (base : Nat) (v : Value) (ps : List (List Nd)) (pvs : List Value) : Prop where
  len : pvs.length = ps.length
  row : w.ownsRow base 22 1 v ps.length pvs
  each : ∀ i, i < ps.length → OwnN w base (pvs.getD i (.slice none 0 0)) (ps.getD i [])

theorem Lst_of_own {w : World} {base B : Nat} {v : Value} {ps : List (List Nd)} {pvs : List Value} (h : OwnLs w base v ps pvs) (hB : w.heap.size ≤ B) : Lst w B v ps := by
  obtain ⟨h1, h2⟩ := h.row
  rcases h2 with ⟨rfl, h0⟩ | ⟨g, cap, cur, rfl, hb, hg, hn, hm, hs, ht⟩
  · have : ps = [] := List.length_eq_zero_iff.1 h0
    subst this
    exact ⟨none, 0, rfl, by simp, by simp, .inl rfl⟩
  · refine ⟨_, cap, rfl, hn, hm, .inr ⟨g, 0, rfl, ?_, fun i hi => ?_⟩⟩
    · have := lt_of_block hg; omega
    · refine ⟨pvs.getD i (.slice none 0 0), ?_, Nodes_of_own (h.each i hi) hB⟩
      have hc : w.cell? ⟨g, 0 + i, none⟩ = cur[i]? := by simp [World.cell?, hg]
      have hl := h.len
      rw [hc, ← Array.getElem?_toList]
      have e : cur.toList[i]? = (cur.toList.take (ps.length * 1))[i]? := by rw [List.getElem?_take, if_pos (by omega)]
      rw [e, ht]
      simp [show i < pvs.length by omega]

theorem OwnLs.snoc {w w1 : World} {base : Nat} {v v' : Value} {ps : List (List Nd)} {pvs : List Value} {l : List Nd} {pv : Value} (h : OwnLs w base v ps pvs) (hl : OwnN w base pv l)
    (hown : w1.ownsRow base 22 1 v' (ps.length + 1) (pvs ++ [pv])) (hg : w.grownBy w1 v.ownBlock) : OwnLs w1 base v' (ps ++ [l]) (pvs ++ [pv]) := by
  have hlen := h.len
  refine ⟨by simp [hlen], by simpa using hown, fun i hi => ?_⟩
  by_cases hlt : i < ps.length
  · have e1 : (pvs ++ [pv]).getD i (.slice none 0 0) = pvs.getD i (.slice none 0 0) := by simp only [List.getD_eq_getElem?_getD]; rw [List.getElem?_append_left (by omega)]
    have e2 : (ps ++ [l]).getD i [] = ps.getD i [] := by simp only [List.getD_eq_getElem?_getD]; rw [List.getElem?_append_left (by omega)]
    rw [e1, e2]
    exact (h.each i hlt).kept hg h.row (by decide) (by decide)
  · have he : i = ps.length := by simp at hi; omega
    have e1 : (pvs ++ [pv]).getD i (.slice none 0 0) = pv := by rw [he, ← hlen]; simp
    have e2 : (ps ++ [l]).getD i [] = l := by rw [he]; simp
    rw [e1, e2]
    exact hl.kept hg h.row (by decide) (by decide)

theorem OwnLs.below {w w' : World} {base : Nat} {v : Value} {ps : List (List Nd)} {pvs : List Value} (h : OwnLs w base v ps pvs) (hb : Below w.heap.size w w') : OwnLs w' base v ps pvs :=
  ⟨h.len, ownsRow_below h.row hb, fun i hi => (h.each i hi).below hb⟩

theorem Tryd.infoNodes : (Tryd.prog.info? 22).map (fun i => (i.zero, i.size, i.bytes)) = some (some (.slice none 0 0), 1, 24) := by kernel_rfl
end Go.Proofs.YtkdcjkhpbbcncaaDoor
