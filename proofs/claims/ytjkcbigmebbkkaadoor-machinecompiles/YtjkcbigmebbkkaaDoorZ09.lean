/-
  ExAddP, MaU.
-/
import Derived.Shelf.Unicode.DecodeSlow
import Derived.Laws.RangeAny
import Derived.Shelf.Strconv.Itoa0
import Derived.Shelf.Unicode.DecodeAny
import Derived.Test.YtjkcbigmebbkkaaDoorProg
import Derived.WalkKit
import Derived.Deep.DeepFit
import Derived.Lib.OthersKept
import Derived.Lib.RuneCountTail
import Derived.Deep.AppendLies
import Derived.Deep.OwnRows
import Derived.Laws.AppendOwnNone
import Derived.Deep.QuietTactic
import Derived.BigQuiet
import Derived.Deep.RegionWith
import Derived.Laws.DeepStrings4
import Derived.Laws.CopyOwn
import Derived.Laws.MakeOwn
import Derived.Deep.RegionLaw
import Derived.Test.YtjkcbigmebbkkaaDoorZ01
import Derived.Test.YtjkcbigmebbkkaaDoorZ02
import Derived.Test.YtjkcbigmebbkkaaDoorZ03
import Derived.Test.YtjkcbigmebbkkaaDoorZ04
import Derived.Test.YtjkcbigmebbkkaaDoorZ05
import Derived.Test.YtjkcbigmebbkkaaDoorZ06
import Derived.Test.YtjkcbigmebbkkaaDoorZ07
set_option linter.unusedSimpArgs false
set_option linter.unusedVariables false
namespace Go.Proofs.YtjkcbigmebbkkaaDoor
open Go.RowKit Go.Lib

/-- What was appended to a list of the call's own. -/
structure AddPost (w : World) (base : Nat) (v : Value) (p : List (Nd × Value)) (ms : List Nd) (e : Ending) (w' : World) : Prop where
  ex : ∃ v' p', e = .returned v' ∧ OwnP w' base v' (p ++ p') ∧ p'.map (·.1) = ms ∧ (∀ q ∈ p', OwnI w' w.heap.size q.2 q.1.kids) ∧ w.grownBy w' v.ownBlock ∧ (v'.ownBlock = v.ownBlock ∨ ∀ g, v'.ownBlock = some g → w.heap.size ≤ g) ∧ Below base w w'

/-- In the middle of it. -/
structure AddMid (w : World) (base : Nat) (v : Value) (p : List (Nd × Value)) (ms : List Nd) (x : Value) (wr : World) : Prop where
  ex : ∃ p', OwnP wr base x (p ++ p') ∧ p'.map (·.1) = ms ∧ (∀ q ∈ p', OwnI wr w.heap.size q.2 q.1.kids) ∧ w.grownBy wr v.ownBlock ∧ (x.ownBlock = v.ownBlock ∨ ∀ g, x.ownBlock = some g → w.heap.size ≤ g) ∧ Below base w wr

theorem AddMid.start {w : World} {base : Nat} {v : Value} {p : List (Nd × Value)} (h : OwnP w base v p) : AddMid w base v p [] v w :=
  ⟨⟨[], by simpa using h, rfl, by simp, World.grownBy.refl _ _, .inl rfl, Below.refl _ _⟩⟩

/-- One node more: its kids are owned (new since wr), the append has gone through. -/
theorem AddMid.snoc {w : World} {base : Nat} {v x : Value} {p p' : List (Nd × Value)} {ms : List Nd} {wr W w1 : World} {y : Nd} {kv : Value} {g n cap : Nat} (hP : OwnP wr base x (p ++ p')) (hm : p'.map (·.1) = ms) (hkid : ∀ q ∈ p', OwnI wr w.heap.size q.2 q.1.kids) (hgr : w.grownBy wr v.ownBlock) (hx : x.ownBlock = v.ownBlock ∨ ∀ g, x.ownBlock = some g → w.heap.size ≤ g) (hB : Below base w wr)
    (hbase : base ≤ w.heap.size) (hBW : Below wr.heap.size wr W) (hk : OwnI W wr.heap.size kv y.kids) (hn : n = (p ++ p').length)
    (hown : w1.ownsRow base 71 4 (.slice (some ⟨g, 0, none⟩) (n + 1) cap) (n + 1) (ndCells (p ++ p') ++ [.int .i64 y.op, .int .i64 y.n, .string y.name, kv])) (hg : W.grownBy w1 x.ownBlock) (hat : x.ownBlock = some g ∨ g = W.heap.size) :
    AddMid w base v p (ms ++ [y]) (.slice (some ⟨g, 0, none⟩) (n + 1) cap) w1 := by
  have hsz : w.heap.size ≤ wr.heap.size := hgr.size
  have hPW := hP.below hBW
  have hkb : OwnI W base kv y.kids := ownsRow_mono hk (by omega)
  refine ⟨⟨p' ++ [(y, kv)], ?_, by simp [hm], fun q hq => ?_, ?_, ?_, ?_⟩⟩
  · rw [← List.append_assoc]
    subst hn
    exact hPW.snoc hkb hown hg
  · rcases List.mem_append.1 hq with hq | hq
    · have h1 := (hkid q hq).below hBW
      exact World.ownsRow.kept h1 hg (ownBlock_ne h1 hPW.row (by decide))
    · simp at hq; subst hq
      exact ownsRow_mono (World.ownsRow.kept hk hg (ownBlock_ne hk hPW.row (by decide))) hsz
  · refine ⟨hg.os.trans (hBW.os.trans hgr.os), hg.tape.trans (hBW.tape.trans hgr.tape), hg.output.trans (hBW.output.trans hgr.output), Nat.le_trans hsz (Nat.le_trans hBW.size hg.size), fun k hk1 hk2 => ?_⟩
    rw [hg.block k (by have := hBW.size; omega) (fun he => by
      rcases hx with hx | hx
      · rw [hx] at he; exact hk2 he
      · have := hx k he.symm; omega), hBW.block k (by omega), hgr.block k hk1 hk2]
  · rcases hat with hat | hat
    · rcases hx with hx | hx
      · left; show some g = v.ownBlock; rw [← hx, hat]
      · right; intro g' hg'; have e : g = g' := Option.some.inj hg'; have := hx g hat; omega
    · right; intro g' hg'; have e : g = g' := Option.some.inj hg'; have := hBW.size; omega
  · exact (hB.trans (hBW.mono (by omega))).grown hg (by have := hBW.size; omega) (fun k hk => (hPW.row.lt k hk).1)

set_option maxHeartbeats 1000000 in
theorem add_p (v vs : Value) (p : List (Nd × Value)) (ns : List Nd) (fr by_ : Int) (w : World) (base : Nat) (hbase : base ≤ w.heap.size) (hO : OwnP w base v p) (hN : Nodes w base vs ns) (hlen : (p.length + ns.length) * 56 ≤ 140737488355328)
    (hks : ∀ x ∈ ns, x.kids.length * 8 ≤ 140737488351232 ∧ ∀ k ∈ x.kids, -9000 ≤ k ∧ k ≤ 9000) (hb0 : -9000 ≤ by_) (hb1 : by_ ≤ 9000) :
    Calls Tryd.prog 41 #[v, vs, .int .i64 fr, .int .i64 by_] w fun e w' => AddPost w base v p (ns.map (mvN fr by_)) e w' := by
  obtain ⟨ao, cap0, rfl, hl, hm, hc⟩ := hN
  obtain ⟨i0, hi, hz0, hz1, hz2⟩ := info_parts Tryd.infoNode
  unfold maxLen at hm
  have HC : Hid (ns = [] ∨ ∃ b o, ao = some ⟨b, o, none⟩ ∧ b < base ∧ ∀ i, i < ns.length → ∃ kv, NodeAt w base b (o + i * 4) (ns.getD i nd0) kv) := hc
  clear hc
  go_enter Tryd.func41, Tryd.ntmps41
  go_wp2
  go_loopw [0, 13] (fun x i wr => ∃ k : Nat, k ≤ ns.length ∧ i = .int .i64 k ∧ AddMid w base v p ((ns.take k).map (mvN fr by_)) x wr) (fun _ i _ => ns.length - (RowKit.intOf i).toNat)
  case atStart => exact ⟨0, by omega, rfl, AddMid.start hO⟩
  case round =>
    obtain ⟨k, hk, rfl, hmid⟩ := hrel
    by_cases hlt : k < ns.length
    · obtain ⟨p', hP, hpm, hkid, hgr, hx, hB⟩ := hmid.ex
      have hsz := hB.size
      obtain ⟨b, o, rfl, hbl, hc⟩ : ∃ b o, ao = some ⟨b, o, none⟩ ∧ b < base ∧ ∀ i, i < ns.length → ∃ kv, NodeAt w base b (o + i * 4) (ns.getD i nd0) kv := by
        rcases HC.out with h | h
        · subst h; simp at hlt
        · exact h
      obtain ⟨kv, hNA⟩ := hc k hlt
      clear hc HC
      have hNA := hNA.below hB (Nat.le_refl _) hbl
      have hzr := hks (ns.getD k nd0) (by simp [hlt])
      have HS := take_map_snoc (mvN fr by_) nd0 ns k hlt
      have hMl : ((ns.take k).map (mvN fr by_)).length = k := by simp; omega
      have hpl : (p ++ p').length = p.length + k := by
        rw [List.length_append]
        have := congrArg List.length hpm
        simp only [List.length_map] at this hMl
        omega
      have HPL : Hid ((p ++ p').length = p.length + k) := hpl
      have HPM : Hid (p'.map (·.1) = (ns.take k).map (mvN fr by_)) := hpm
      have HKID : Hid (∀ q ∈ p', OwnI wr w.heap.size q.2 q.1.kids) := hkid
      have HGR : Hid (w.grownBy wr v.ownBlock) := hgr
      generalize hQ : p ++ p' = Q at hP HPL
      have HQ : Hid (p ++ p' = Q) := hQ
      have HP : Hid (OwnP wr base _ Q) := hP
      have HX : Hid (_ ∨ _) := hx
      clear hpl hQ hpm hkid hgr hx hmid
      generalize ns.getD k nd0 = x at *
      have HS' : Hid ((ns.take (k + 1)).map (mvN fr by_) = (ns.take k).map (mvN fr by_) ++ [mvN fr by_ x]) := HS
      clear HS hks
      obtain ⟨op, n, nm, kids⟩ := x
      obtain ⟨c0, c1, c2, c3, hki⟩ := hNA
      simp only at c0 c1 c2 c3 hki hzr
      obtain ⟨ka, kc, rfl, hki'⟩ := id hki
      have hb9 : b < wr.heap.size := by omega
      have hb8 : b ≠ wr.heap.size := by omega
      go_wp2_with fail
      refine (moved_any _ kids _ _ _ ?h1 hzr.1 hzr.2 hb0 hb1).mono ?_
      case h1 => exact hki.below ((Below.refl _ _).alloc (by omega) _) (by simp; omega)
      rintro e w2 ⟨v2, rfl, hO2, hB2⟩
      obtain ⟨ao2, cap2, rfl⟩ := hO2.form
      generalize hm2 : kids.map (mvK fr by_) = kids2 at *
      have HM2 : Hid (mvN fr by_ ⟨op, n, nm, kids⟩ = ⟨op, n, nm, kids2⟩) := by show mvN fr by_ ⟨op, n, nm, kids⟩ = ⟨op, n, nm, kids2⟩; rw [← hm2]; rfl
      clear hm2
      have d0 : w2.cell? ⟨wr.heap.size, 0, none⟩ = some (.int .i64 op) := by rw [hB2.cell (p := ⟨wr.heap.size, 0, none⟩) (by simp)]; simp
      have d1 : w2.cell? ⟨wr.heap.size, 1, none⟩ = some (.int .i64 n) := by rw [hB2.cell (p := ⟨wr.heap.size, 1, none⟩) (by simp)]; simp
      have d2 : w2.cell? ⟨wr.heap.size, 2, none⟩ = some (.string nm) := by rw [hB2.cell (p := ⟨wr.heap.size, 2, none⟩) (by simp)]; simp
      have d3 : w2.cell? ⟨wr.heap.size, 3, none⟩ = some (.slice ka kids.length kc) := by rw [hB2.cell (p := ⟨wr.heap.size, 3, none⟩) (by simp)]; simp
      have f3 : w2.frozen? ⟨wr.heap.size, 3, none⟩ = false := by rw [hB2.frozen (p := ⟨wr.heap.size, 3, none⟩) (by simp)]; simp
      have z2 : wr.heap.size + 1 ≤ w2.heap.size := by have := hB2.size; simpa using this
      have hBw2 : Below wr.heap.size wr w2 := ((Below.refl _ _).alloc (Nat.le_refl _) _).trans (hB2.mono (by simp))
      have hBw3 : Below wr.heap.size wr (w2.setCell ⟨wr.heap.size, 3, none⟩ (.slice ao2 kids2.length cap2)) := hBw2.setCell (Nat.le_refl _) _
      have hP3 := hP.below hBw3
      have hO3 : OwnI (w2.setCell ⟨wr.heap.size, 3, none⟩ (.slice ao2 kids2.length cap2)) wr.heap.size (.slice ao2 kids2.length cap2) kids2 := ownsRow_mono (ownsRow_setCell_below hO2 (by simp) _) (by simp)
      clear c0 c1 c2 c3 hki hki' hO2 hB2 hBw2 hO hP
      go_wp2_with (at_builtin; refine wpList_append_lies _ rfl (.tmp 23) (.tmp 25) 22 rfl base 71 i0 (.agg #[.int .i64 0, .int .i64 0, .string ⟨#[]⟩, .slice none 0 0]) 4 56 Tryd.underlying22 hi hz0 hz1 hz2 rfl (by decide) _ _ _ rfl (hP3.row.alloc _) ⟨w2.heap.size, 0, none⟩ 1 1 [.int .i64 op, .int .i64 n, .string nm, .slice ao2 kids2.length cap2] rfl rfl (cell_news4 _ _ _ _ _ _ _ (by simp)) (by simp [Value.oneCell']) (by omega) (by have := HPL.out; unfold maxLen; omega) (by have := HPL.out; omega) (by simp; omega) _ rfl ?_; intro g cap w1 hown1 hg1 hat hl1)
      refine ⟨⟨k + 1, by omega, by go_num, ?_⟩, by simp [RowKit.intOf]; omega⟩
      rw [HS'.out, HM2.out]
      have hPQ := HP.out
      rw [← HQ.out] at hPQ
      refine AddMid.snoc (p' := p') (y := ⟨op, n, nm, kids2⟩) (kv := .slice ao2 kids2.length cap2) hPQ HPM.out HKID.out HGR.out HX.out hB hbase (hBw3.alloc (by simp; omega) (.cells #[.int .i64 op, .int .i64 n, .string nm, .slice ao2 kids2.length cap2] 71)) (hO3.below ((Below.refl _ _).alloc (Nat.le_refl _) _)) (by rw [HQ.out]) (by rw [HQ.out]; exact hown1) hg1 hat
    · have hke : k = ns.length := by omega
      subst hke
      go_wp2
      go_ret
      rw [List.take_length] at hmid
      obtain ⟨p', h1, h2, h3, h4, h5, h6⟩ := hmid.ex
      exact ⟨⟨_, p', rfl, h1, h2, h3, h4, h5, h6⟩⟩
end Go.Proofs.YtjkcbigmebbkkaaDoor

namespace Go.Proofs.YtjkcbigmebbkkaaDoor
open Go.RowKit Go.Lib

/-- The slice v reads as the lists ps, in blocks below B. -/
def Lst (w : World) (B : Nat) (v : Value) (ps : List (List Nd)) : Prop :=
  ∃ ao cap, v = .slice ao ps.length cap ∧ ps.length ≤ cap ∧ cap ≤ maxLen ∧ (ps = [] ∨ ∃ b o, ao = some ⟨b, o, none⟩ ∧ b < B ∧ ∀ i, i < ps.length → ∃ pv, w.cell? ⟨b, o + i, none⟩ = some pv ∧ Nodes w B pv (ps.getD i []))

theorem Lst.below {w w' : World} {B B' : Nat} {v : Value} {ps : List (List Nd)} (h : Lst w B v ps) (hb : Below B w w') (hB : B ≤ B') : Lst w' B' v ps := by
  obtain ⟨ao, cap, rfl, h1, h2, h3⟩ := h
  refine ⟨ao, cap, rfl, h1, h2, ?_⟩
  rcases h3 with h3 | ⟨b, o, rfl, hlt, hc⟩
  · exact .inl h3
  · exact .inr ⟨b, o, rfl, by omega, fun i hi => let ⟨pv, h4, h5⟩ := hc i hi; ⟨pv, (hb.cell (p := ⟨b, o + i, none⟩) hlt).trans h4, h5.below hb hB⟩⟩

theorem OwnP.kept {w w' : World} {base base' : Nat} {v v2 : Value} {p : List (Nd × Value)} {e : TypeId} {s n : Nat} {xs : List Value} (h : OwnP w base v p) (hg : w.grownBy w' v2.ownBlock) (hr : w.ownsRow base' e s v2 n xs) (h1 : 71 ≠ e) (h2 : 3 ≠ e) : OwnP w' base v p :=
  ⟨World.ownsRow.kept h.row hg (ownBlock_ne h.row hr h1), fun q hq => World.ownsRow.kept (h.kids q hq) hg (ownBlock_ne (h.kids q hq) hr h2)⟩
theorem OwnN.kept {w w' : World} {base base' : Nat} {v v2 : Value} {l : List Nd} {e : TypeId} {s n : Nat} {xs : List Value} (h : OwnN w base v l) (hg : w.grownBy w' v2.ownBlock) (hr : w.ownsRow base' e s v2 n xs) (h1 : 71 ≠ e) (h2 : 3 ≠ e) : OwnN w' base v l :=
  let ⟨p, h3, h4⟩ := h; ⟨p, h3, h4.kept hg hr h1 h2⟩

/-- Lists of lists of the call's own; pvs: the slices. -/
structure OwnLs (w : World) (base : Nat) (v : Value) (ps : List (List Nd)) (pvs : List Value) : Prop where
  len : pvs.length = ps.length
  row : w.ownsRow base 22 1 v ps.length pvs
  each : ∀ i, i < ps.length → OwnN w base (pvs.getD i (.slice none 0 0)) (ps.getD i [])

theorem OwnLs.snoc {w w1 : World} {base : Nat} {v v' : Value} {ps : List (List Nd)} {pvs : List Value} {l : List Nd} {pv : Value} (h : OwnLs w base v ps pvs) (hl : OwnN w base pv l)
    (hown : w1.ownsRow base 22 1 v' (ps.length + 1) (pvs ++ [pv])) (hg : w.grownBy w1 v.ownBlock) : OwnLs w1 base v' (ps ++ [l]) (pvs ++ [pv]) := by
  have hlen := h.len
  refine ⟨by simp [hlen], by simpa using hown, fun i hi => ?_⟩
  by_cases hlt : i < ps.length
  · have e1 : (pvs ++ [pv]).getD i (.slice none 0 0) = pvs.getD i (.slice none 0 0) := by simp only [List.getD_eq_getElem?_getD]; rw [List.getElem?_append_left (by omega)]
    have e2 : (ps ++ [l]).getD i [] = ps.getD i [] := by simp only [List.getD_eq_getElem?_getD]; rw [List.getElem?_append_left (by omega)]
    rw [e1, e2]
    exact (h.each i hlt).kept hg h.row (by decide) (by decide)
  · have he : i = ps.length := by simp at hi; omega
    have e1 : (pvs ++ [pv]).getD i (.slice none 0 0) = pv := by rw [he, ← hlen]; simp
    have e2 : (ps ++ [l]).getD i [] = l := by rw [he]; simp
    rw [e1, e2]
    exact hl.kept hg h.row (by decide) (by decide)

theorem OwnLs.below {w w' : World} {base : Nat} {v : Value} {ps : List (List Nd)} {pvs : List Value} (h : OwnLs w base v ps pvs) (hb : Below w.heap.size w w') : OwnLs w' base v ps pvs :=
  ⟨h.len, ownsRow_below h.row hb, fun i hi => (h.each i hi).below hb⟩

theorem Tryd.infoNodes : (Tryd.prog.info? 22).map (fun i => (i.zero, i.size, i.bytes)) = some (some (.slice none 0 0), 1, 24) := by kernel_rfl
end Go.Proofs.YtjkcbigmebbkkaaDoor

set_option linter.unusedSimpArgs false
set_option linter.unusedVariables false
namespace Go.Proofs.YtjkcbigmebbkkaaDoor
open Go.RowKit Go.Lib

set_option maxRecDepth 20000 in
set_option maxHeartbeats 1000000 in
theorem mul64_small (y : Nat) (hy : y ≤ 6) (w : World) : Calls Tryd.prog 126 #[.int .u64 1, .int .u64 (y : Int)] w fun e w' => e = .returned (.tuple #[.int .u64 0, .int .u64 (y : Int)]) ∧ w' = w := by
  have h7 : y = 0 ∨ y = 1 ∨ y = 2 ∨ y = 3 ∨ y = 4 ∨ y = 5 ∨ y = 6 := by omega
  rcases h7 with rfl | rfl | rfl | rfl | rfl | rfl | rfl
  all_goals
    go_enter Tryd.func126, Tryd.ntmps126
    go_wp2
    go_ret2
    exact ⟨rfl, rfl⟩
set_option maxHeartbeats 400000 in
theorem mul_small (y : Nat) (hy : y ≤ 6) (w : World) : Calls Tryd.prog 109 #[.int .u64 1, .int .u64 (y : Int)] w fun e w' => e = .returned (.tuple #[.int .u64 0, .int .u64 (y : Int)]) ∧ w' = w := by
  have c := mul64_small y hy w
  go_enter Tryd.func109, Tryd.ntmps109
  go_wp2_with fail
  refine c.mono ?_
  rintro e w1 ⟨rfl, rfl⟩
  go_wp2_with fail
  go_ret2
  exact ⟨rfl, rfl⟩
theorem made_one (z : Value) (n : Nat) : madeCells #[z] n = (List.replicate n z).toArray := by
  apply Array.ext
  · simp [madeCells]
  · intro i h1 h2
    simp [madeCells]
    have h : i % 1 = 0 := by omega
    simp [Nat.mod_one]
theorem size_info {P : Program} {t : TypeId} {z : Option Value} {s b : Nat} (h : (P.info? t).map (fun i => (i.zero, i.size, i.bytes)) = some (z, s, b)) : (P.info? t).map (·.size) = some s := by
  cases hh : P.info? t with
  | none => rw [hh] at h; cases h
  | some i => rw [hh] at h; simp at h; simp [h.2.1]
/-- How much is written. -/
structure RepI (w : World) (g n k : Nat) (z z0 : Value) (T : TypeId) (wr : World) : Prop where
  blk : wr.heap[g]? = some (.cells (List.replicate k z ++ List.replicate (n - k) z0).toArray T (0, 0))
  below : Below w.heap.size w wr
  le : k ≤ n
theorem rep_splice (z z0 : Value) (n k c : Nat) (hc : c ≤ n - k) (hk : k ≤ n) : splice (List.replicate k z ++ List.replicate (n - k) z0) k (List.replicate c z) = List.replicate (k + c) z ++ List.replicate (n - (k + c)) z0 := by
  unfold splice
  rw [List.take_append_of_le_length (by simp), List.take_of_length_le (by simp), List.length_replicate, List.drop_append, List.drop_of_length_le (by simp), List.nil_append, List.drop_replicate, List.length_replicate, ← List.append_assoc, List.replicate_append_replicate]
  congr 2
  omega
theorem rep_cell {w wr : World} {g n k : Nat} {z z0 : Value} {T : TypeId} (h : RepI w g n k z z0 T wr) {j : Nat} (hj : j < k) : wr.cell? ⟨g, j, none⟩ = some z := by
  rw [cell_of_heap h.blk]
  simp [List.getElem?_append_left, hj]


set_option maxRecDepth 20000 in
set_option maxHeartbeats 4000000 in
theorem repeat_int {w : World} {b o : Nat} {z : Value} (hz : w.cell? ⟨b, o, none⟩ = some z) (hz1 : z.oneCell' = true) (n : Nat) (hn : n ≤ 6) :
    Calls Tryd.prog 84 #[.slice (some ⟨b, o, none⟩) 1 1, .int .i64 (n : Int)] w fun e w' => ∃ g, e = .returned (.slice (some ⟨g, 0, none⟩) n n) ∧ w.heap.size ≤ g ∧ w'.heap[g]? = some (.cells (List.replicate n z).toArray 3 (0, 0)) ∧ Below w.heap.size w w' := by
  have hmk := run_make_row' (P := Tryd.prog) 61 3 (Value.int .i64 0) 8 Tryd.underlying61 Tryd.info3 rfl .i64 .i64 n (by omega) (by omega)
  rw [made_one] at hmk
  have c := mul_small n hn
  have hsz := size_info Tryd.info3
  have ha : b < w.heap.size := World.block_lt_of_cell? w _ hz
  have hb0 : Below w.heap.size w (w.alloc (.cells (List.replicate n (Value.int .i64 0)).toArray 3)) := (Below.refl _ _).alloc (Nat.le_refl _) _
  have HSRC : Hid (∀ j v, (List.replicate (min 1 n) z)[j]? = some v → (w.alloc (.cells (List.replicate n (Value.int .i64 0)).toArray 3)).cell? (Addr.add ⟨b, o, none⟩ j) = some v) := by
    intro j v h
    have h1 := List.getElem?_eq_some_iff.1 h
    obtain ⟨hj, hv⟩ := h1
    simp at hj hv
    subst hv
    have : j = 0 := by omega
    subst this
    exact (hb0.cell (p := ⟨b, o, none⟩) ha).trans hz
  have HBLK : Hid ((w.alloc (.cells (List.replicate n (Value.int .i64 0)).toArray 3)).heap[w.heap.size]? = some (.cells (List.replicate n (Value.int .i64 0)).toArray 3 (0, 0))) := by
    show _ = _
    simpa using (MapKept.heap_alloc w (.cells (List.replicate n (Value.int .i64 0)).toArray 3)).1
  have hcp := run_copy_row (P := Tryd.prog) (w.alloc (.cells (List.replicate n (Value.int .i64 0)).toArray 3)) 61 61 3 3 w.heap.size 0 n n ⟨b, o, none⟩ 1 1 _ _ (List.replicate (min 1 n) z) Tryd.underlying61 hsz HBLK.out List.length_replicate HSRC.out (by simp; omega) (fun v hv => by rw [List.eq_of_mem_replicate hv]; exact hz1)
  have hI : RepI w w.heap.size n (min 1 n) z (Value.int .i64 0) 3 ((w.alloc (.cells (List.replicate n (Value.int .i64 0)).toArray 3)).setRow w.heap.size (((List.replicate n (Value.int .i64 0)).toArray.toList.take 0 ++ List.replicate (min 1 n) z ++ (List.replicate n (Value.int .i64 0)).toArray.toList.drop (0 + (List.replicate (min 1 n) z).length)).toArray)) := by
    refine ⟨?_, below_setRow hb0 (Nat.le_refl _) _, by omega⟩
    rw [setRow_heap _ _ _ _ _ _ HBLK.out]
    have := rep_splice z (Value.int .i64 0) n 0 (min 1 n) (by omega) (by omega)
    unfold splice at this
    simp at this ⊢
  rw [List.length_replicate] at hcp
  obtain ⟨w2, hw2⟩ : ∃ w2, (w.alloc (.cells (List.replicate n (Value.int .i64 0)).toArray 3)).setRow w.heap.size (((List.replicate n (Value.int .i64 0)).toArray.toList.take 0 ++ List.replicate (min 1 n) z ++ (List.replicate n (Value.int .i64 0)).toArray.toList.drop (0 + (List.replicate (min 1 n) z).length)).toArray) = w2 := ⟨_, rfl⟩
  rw [hw2] at hI
  rw [List.length_replicate] at hw2
  rw [hw2] at hcp
  have HI : Hid (RepI w w.heap.size n (min 1 n) z (Value.int .i64 0) 3 w2) := hI
  clear hw2 hI HBLK HSRC
  replace hmk := hmk w
  obtain ⟨wm, hwm⟩ : ∃ wm, w.alloc (.cells (List.replicate n (Value.int .i64 0)).toArray 3) = wm := ⟨_, rfl⟩
  rw [hwm] at hmk hcp hb0
  clear hwm
  have HCR : Hid (∀ (k : Nat) (wr : World), RepI w w.heap.size n k z (Value.int .i64 0) 3 wr → 1 ≤ k → ∃ wn, (Builtin.copy_ #[61, 61 ] 3 #[.slice (some ⟨w.heap.size, k, none⟩) (n - k) (n - k), .slice (some ⟨w.heap.size, 0, none⟩) k n]).run Tryd.prog wr = .ok (.int .i64 ((min k (n - k) : Nat) : Int)) wn ∧ RepI w w.heap.size n (k + min k (n - k)) z (Value.int .i64 0) 3 wn) := by
    intro k wr hR hk
    have hle := hR.le
    have h := run_copy_row (P := Tryd.prog) wr 61 61 3 3 w.heap.size k (n - k) (n - k) ⟨w.heap.size, 0, none⟩ k n _ _ (List.replicate (min k (n - k)) z) Tryd.underlying61 hsz hR.blk List.length_replicate (fun j v h => by
      obtain ⟨hj, hv⟩ := List.getElem?_eq_some_iff.1 h
      simp at hj hv
      subst hv
      have := rep_cell hR (j := j) (by omega)
      by_cases hj0 : j = 0
      · subst hj0; simpa [Addr.add] using this
      · simpa [Addr.add, hj0] using this) (by simp; omega) (fun v hv => by rw [List.eq_of_mem_replicate hv]; exact hz1)
    rw [List.length_replicate] at h
    refine ⟨_, h, ?_, below_setRow hR.below (Nat.le_refl _) _, by omega⟩
    rw [setRow_heap _ _ _ _ _ _ hR.blk]
    have := rep_splice z (Value.int .i64 0) n k (min k (n - k)) (by omega) hle
    unfold splice at this
    rw [List.length_replicate] at this
    rw [List.append_assoc]
    rw [List.toList_toArray, this]
  have n0 : ¬ ((n : Int) < 0) := by omega
  have ncu : IntKind.u64.wrap (n : Int) = n := by rw [IntKind.wrap_u64]; omega
  have nci : IntKind.i64.wrap (n : Int) = n := by rw [IntKind.wrap_i64]; omega
  have nbig : ¬ (9223372036854775807 < (n : Int)) := by omega
  obtain ⟨m1, hm1⟩ : ∃ m1, min 1 n = m1 := ⟨_, rfl⟩
  have hmm : m1 ≤ n ∧ (1 ≤ n → 1 ≤ m1) := by omega
  rw [hm1] at hcp HI
  clear hz hz1 hb0 hm1
  go_enter Tryd.func84, Tryd.ntmps84
  go_wp2_with fail
  refine (c _).mono ?_
  rintro e w1 ⟨rfl, rfl⟩
  go_wp2_with fail
  go_loopw [8] (fun q wr => ∃ k : Nat, q = .int .i64 k ∧ (1 ≤ n → 1 ≤ k) ∧ RepI w1 w1.heap.size n k z (Value.int .i64 0) 3 wr) (fun q _ => n - (RowKit.intOf q).toNat)
  case atStart => exact ⟨m1, rfl, hmm.2, HI.out⟩
  case round =>
    obtain ⟨k, rfl, hk1, hR⟩ := hrel
    have hle := hR.le
    by_cases hlt : k < n
    · have hk := hk1 (by omega)
      obtain ⟨wn, hcn, hN⟩ := HCR.out k wr.drew ⟨hR.blk, hR.below.drew, hR.le⟩ hk
      have HN : Hid (_) := hN
      have hkk : (k : Int) < (n : Int) := by omega
      obtain ⟨d, hd⟩ : ∃ d, min k (n - k) = d := ⟨_, rfl⟩
      rw [hd] at hcn HN
      have hd1 : 1 ≤ d ∧ k + d ≤ n := by omega
      have hwr : IntKind.i64.wrap ((k : Int) + (d : Int)) = (k : Int) + d := by rw [IntKind.wrap_i64]; omega
      clear hR hN hcp hmk
      go_wp2_with fail
      go_region
      go_wp2_with fail
      exact ⟨⟨k + d, by go_num, fun _ => by omega, HN.out⟩, by simp [RowKit.intOf]; omega⟩
    · have hke : k = n := by omega
      subst hke
      have hblk := hR.blk
      rw [Nat.sub_self, List.replicate_zero, List.append_nil] at hblk
      have HBK : Hid (_) := hblk
      have HBB : Hid (_) := hR.below
      clear hR hblk hcp hmk
      go_wp2_with fail
      go_ret
      exact ⟨_, rfl, Nat.le_refl _, HBK.out, HBB.out⟩


set_option maxRecDepth 20000 in
set_option maxHeartbeats 4000000 in
theorem repeat_nodes {w : World} {b o : Nat} {z : Value} (hz : w.cell? ⟨b, o, none⟩ = some z) (hz1 : z.oneCell' = true) (n : Nat) (hn : n ≤ 6) :
    Calls Tryd.prog 127 #[.slice (some ⟨b, o, none⟩) 1 1, .int .i64 (n : Int)] w fun e w' => ∃ g, e = .returned (.slice (some ⟨g, 0, none⟩) n n) ∧ w.heap.size ≤ g ∧ w'.heap[g]? = some (.cells (List.replicate n z).toArray 22 (0, 0)) ∧ Below w.heap.size w w' := by
  have hmk := run_make_row' (P := Tryd.prog) 46 22 (Value.slice none 0 0) 24 Tryd.underlying46 Tryd.infoNodes rfl .i64 .i64 n (by omega) (by omega)
  rw [made_one] at hmk
  have c := mul_small n hn
  have hsz := size_info Tryd.infoNodes
  have ha : b < w.heap.size := World.block_lt_of_cell? w _ hz
  have hb0 : Below w.heap.size w (w.alloc (.cells (List.replicate n (Value.slice none 0 0)).toArray 22)) := (Below.refl _ _).alloc (Nat.le_refl _) _
  have HSRC : Hid (∀ j v, (List.replicate (min 1 n) z)[j]? = some v → (w.alloc (.cells (List.replicate n (Value.slice none 0 0)).toArray 22)).cell? (Addr.add ⟨b, o, none⟩ j) = some v) := by
    intro j v h
    have h1 := List.getElem?_eq_some_iff.1 h
    obtain ⟨hj, hv⟩ := h1
    simp at hj hv
    subst hv
    have : j = 0 := by omega
    subst this
    exact (hb0.cell (p := ⟨b, o, none⟩) ha).trans hz
  have HBLK : Hid ((w.alloc (.cells (List.replicate n (Value.slice none 0 0)).toArray 22)).heap[w.heap.size]? = some (.cells (List.replicate n (Value.slice none 0 0)).toArray 22 (0, 0))) := by
    show _ = _
    simpa using (MapKept.heap_alloc w (.cells (List.replicate n (Value.slice none 0 0)).toArray 22)).1
  have hcp := run_copy_row (P := Tryd.prog) (w.alloc (.cells (List.replicate n (Value.slice none 0 0)).toArray 22)) 46 46 3 22 w.heap.size 0 n n ⟨b, o, none⟩ 1 1 _ _ (List.replicate (min 1 n) z) Tryd.underlying46 hsz HBLK.out List.length_replicate HSRC.out (by simp; omega) (fun v hv => by rw [List.eq_of_mem_replicate hv]; exact hz1)
  have hI : RepI w w.heap.size n (min 1 n) z (Value.slice none 0 0) 22 ((w.alloc (.cells (List.replicate n (Value.slice none 0 0)).toArray 22)).setRow w.heap.size (((List.replicate n (Value.slice none 0 0)).toArray.toList.take 0 ++ List.replicate (min 1 n) z ++ (List.replicate n (Value.slice none 0 0)).toArray.toList.drop (0 + (List.replicate (min 1 n) z).length)).toArray)) := by
    refine ⟨?_, below_setRow hb0 (Nat.le_refl _) _, by omega⟩
    rw [setRow_heap _ _ _ _ _ _ HBLK.out]
    have := rep_splice z (Value.slice none 0 0) n 0 (min 1 n) (by omega) (by omega)
    unfold splice at this
    simp at this ⊢
  rw [List.length_replicate] at hcp
  obtain ⟨w2, hw2⟩ : ∃ w2, (w.alloc (.cells (List.replicate n (Value.slice none 0 0)).toArray 22)).setRow w.heap.size (((List.replicate n (Value.slice none 0 0)).toArray.toList.take 0 ++ List.replicate (min 1 n) z ++ (List.replicate n (Value.slice none 0 0)).toArray.toList.drop (0 + (List.replicate (min 1 n) z).length)).toArray) = w2 := ⟨_, rfl⟩
  rw [hw2] at hI
  rw [List.length_replicate] at hw2
  rw [hw2] at hcp
  have HI : Hid (RepI w w.heap.size n (min 1 n) z (Value.slice none 0 0) 22 w2) := hI
  clear hw2 hI HBLK HSRC
  replace hmk := hmk w
  obtain ⟨wm, hwm⟩ : ∃ wm, w.alloc (.cells (List.replicate n (Value.slice none 0 0)).toArray 22) = wm := ⟨_, rfl⟩
  rw [hwm] at hmk hcp hb0
  clear hwm
  have HCR : Hid (∀ (k : Nat) (wr : World), RepI w w.heap.size n k z (Value.slice none 0 0) 22 wr → 1 ≤ k → ∃ wn, (Builtin.copy_ #[46, 46 ] 3 #[.slice (some ⟨w.heap.size, k, none⟩) (n - k) (n - k), .slice (some ⟨w.heap.size, 0, none⟩) k n]).run Tryd.prog wr = .ok (.int .i64 ((min k (n - k) : Nat) : Int)) wn ∧ RepI w w.heap.size n (k + min k (n - k)) z (Value.slice none 0 0) 22 wn) := by
    intro k wr hR hk
    have hle := hR.le
    have h := run_copy_row (P := Tryd.prog) wr 46 46 3 22 w.heap.size k (n - k) (n - k) ⟨w.heap.size, 0, none⟩ k n _ _ (List.replicate (min k (n - k)) z) Tryd.underlying46 hsz hR.blk List.length_replicate (fun j v h => by
      obtain ⟨hj, hv⟩ := List.getElem?_eq_some_iff.1 h
      simp at hj hv
      subst hv
      have := rep_cell hR (j := j) (by omega)
      by_cases hj0 : j = 0
      · subst hj0; simpa [Addr.add] using this
      · simpa [Addr.add, hj0] using this) (by simp; omega) (fun v hv => by rw [List.eq_of_mem_replicate hv]; exact hz1)
    rw [List.length_replicate] at h
    refine ⟨_, h, ?_, below_setRow hR.below (Nat.le_refl _) _, by omega⟩
    rw [setRow_heap _ _ _ _ _ _ hR.blk]
    have := rep_splice z (Value.slice none 0 0) n k (min k (n - k)) (by omega) hle
    unfold splice at this
    rw [List.length_replicate] at this
    rw [List.append_assoc]
    rw [List.toList_toArray, this]
  have n0 : ¬ ((n : Int) < 0) := by omega
  have ncu : IntKind.u64.wrap (n : Int) = n := by rw [IntKind.wrap_u64]; omega
  have nci : IntKind.i64.wrap (n : Int) = n := by rw [IntKind.wrap_i64]; omega
  have nbig : ¬ (9223372036854775807 < (n : Int)) := by omega
  obtain ⟨m1, hm1⟩ : ∃ m1, min 1 n = m1 := ⟨_, rfl⟩
  have hmm : m1 ≤ n ∧ (1 ≤ n → 1 ≤ m1) := by omega
  rw [hm1] at hcp HI
  clear hz hz1 hb0 hm1
  go_enter Tryd.func127, Tryd.ntmps127
  go_wp2_with fail
  refine (c _).mono ?_
  rintro e w1 ⟨rfl, rfl⟩
  go_wp2_with fail
  go_loopw [8] (fun q wr => ∃ k : Nat, q = .int .i64 k ∧ (1 ≤ n → 1 ≤ k) ∧ RepI w1 w1.heap.size n k z (Value.slice none 0 0) 22 wr) (fun q _ => n - (RowKit.intOf q).toNat)
  case atStart => exact ⟨m1, rfl, hmm.2, HI.out⟩
  case round =>
    obtain ⟨k, rfl, hk1, hR⟩ := hrel
    have hle := hR.le
    by_cases hlt : k < n
    · have hk := hk1 (by omega)
      obtain ⟨wn, hcn, hN⟩ := HCR.out k wr.drew ⟨hR.blk, hR.below.drew, hR.le⟩ hk
      have HN : Hid (_) := hN
      have hkk : (k : Int) < (n : Int) := by omega
      obtain ⟨d, hd⟩ : ∃ d, min k (n - k) = d := ⟨_, rfl⟩
      rw [hd] at hcn HN
      have hd1 : 1 ≤ d ∧ k + d ≤ n := by omega
      have hwr : IntKind.i64.wrap ((k : Int) + (d : Int)) = (k : Int) + d := by rw [IntKind.wrap_i64]; omega
      clear hR hN hcp hmk
      go_wp2_with fail
      go_region
      go_wp2_with fail
      exact ⟨⟨k + d, by go_num, fun _ => by omega, HN.out⟩, by simp [RowKit.intOf]; omega⟩
    · have hke : k = n := by omega
      subst hke
      have hblk := hR.blk
      rw [Nat.sub_self, List.replicate_zero, List.append_nil] at hblk
      have HBK : Hid (_) := hblk
      have HBB : Hid (_) := hR.below
      clear hR hblk hcp hmk
      go_wp2_with fail
      go_ret
      exact ⟨_, rfl, Nat.le_refl _, HBK.out, HBB.out⟩

end Go.Proofs.YtjkcbigmebbkkaaDoor
