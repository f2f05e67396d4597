/-
  ExAddP, SwPure, ShMem.
-/
import Derived.Shelf.Unicode.DecodeSlow
import Derived.Laws.RangeAny
import Derived.Shelf.Strings.Builder1
import Derived.Shelf.Small.Utf8
import Derived.Shelf.Small.Bits
import Derived.Shelf.Strings.BuilderF
import Derived.Shelf.Strings.BuilderK
import Derived.Shelf.Strings.BuilderRune
import Derived.Shelf.Utf8.AppendRune
import Derived.Shelf.Strconv.Itoa0
import Derived.Shelf.Strconv.Itoa1
import Derived.Shelf.LaysM
import Derived.Shelf.Strconv.Itoa2
import Derived.Shelf.Strconv.Itoa3
import Derived.Shelf.Strconv.Itoa4
import Derived.Shelf.Strings.Prefix
import Derived.Shelf.Unicode.DecodeAny
import Derived.Test.YtjmccobblpcbhaaDoorProg
import Derived.WalkKit
import Derived.Deep.DeepFit
import Derived.Lib.OthersKept
import Derived.Lib.RuneCountTail
import Derived.Lib.MapLaws
import Derived.Sort.Walk0
import Derived.Laws.DeepStrings4
import Derived.Lib.ItoaNum
import Derived.Deep.AppendLies
import Derived.Deep.OwnRows
import Derived.Laws.AppendOwnNone
import Derived.Deep.QuietTactic
import Derived.BigQuiet
import Derived.Deep.RegionWith
import Derived.Test.YtjmccobblpcbhaaDoorM01
import Derived.Test.YtjmccobblpcbhaaDoorM02
import Derived.Test.YtjmccobblpcbhaaDoorM03
import Derived.Test.YtjmccobblpcbhaaDoorM04
import Derived.Test.YtjmccobblpcbhaaDoorM05
import Derived.Test.YtjmccobblpcbhaaDoorM06
import Derived.Test.YtjmccobblpcbhaaDoorM07
import Derived.Test.YtjmccobblpcbhaaDoorM08
set_option linter.unusedSimpArgs false
set_option linter.unusedVariables false
namespace Go.Proofs.YtjmccobblpcbhaaDoor
open Go.RowKit Go.Lib

/-- What was appended to a list of the call's own. -/
structure AddPost (w : World) (base : Nat) (v : Value) (p : List (Nd × Value)) (ms : List Nd) (e : Ending) (w' : World) : Prop where
  ex : ∃ v' p', e = .returned v' ∧ OwnP w' base v' (p ++ p') ∧ p'.map (·.1) = ms ∧ (∀ q ∈ p', OwnI w' w.heap.size q.2 q.1.kids) ∧ w.grownBy w' v.ownBlock ∧ (v'.ownBlock = v.ownBlock ∨ ∀ g, v'.ownBlock = some g → w.heap.size ≤ g) ∧ Below base w w'

/-- In the middle of it. -/
structure AddMid (w : World) (base : Nat) (v : Value) (p : List (Nd × Value)) (ms : List Nd) (x : Value) (wr : World) : Prop where
  ex : ∃ p', OwnP wr base x (p ++ p') ∧ p'.map (·.1) = ms ∧ (∀ q ∈ p', OwnI wr w.heap.size q.2 q.1.kids) ∧ w.grownBy wr v.ownBlock ∧ (x.ownBlock = v.ownBlock ∨ ∀ g, x.ownBlock = some g → w.heap.size ≤ g) ∧ Below base w wr

theorem AddMid.start {w : World} {base : Nat} {v : Value} {p : List (Nd × Value)} (h : OwnP w base v p) : AddMid w base v p [] v w :=
  ⟨⟨[], by simpa using h, rfl, by simp, World.grownBy.refl _ _, .inl rfl, Below.refl _ _⟩⟩

/-- One node more: its kids are owned (new since wr), the append has gone through. -/
theorem AddMid.snoc {w : World} {base : Nat} {v x : Value} {p p' : List (Nd × Value)} {ms : List Nd} {wr W w1 : World} {y : Nd} {kv : Value} {g n cap : Nat} (hP : OwnP wr base x (p ++ p')) (hm : p'.map (·.1) = ms) (hkid : ∀ q ∈ p', OwnI wr w.heap.size q.2 q.1.kids) (hgr : w.grownBy wr v.ownBlock) (hx : x.ownBlock = v.ownBlock ∨ ∀ g, x.ownBlock = some g → w.heap.size ≤ g) (hB : Below base w wr)
    (hbase : base ≤ w.heap.size) (hBW : Below wr.heap.size wr W) (hk : OwnI W wr.heap.size kv y.kids) (hn : n = (p ++ p').length)
    (hown : w1.ownsRow base 60 4 (.slice (some ⟨g, 0, none⟩) (n + 1) cap) (n + 1) (ndCells (p ++ p') ++ [.int .i64 y.op, .int .i64 y.n, .string y.name, kv])) (hg : W.grownBy w1 x.ownBlock) (hat : x.ownBlock = some g ∨ g = W.heap.size) :
    AddMid w base v p (ms ++ [y]) (.slice (some ⟨g, 0, none⟩) (n + 1) cap) w1 := by
  have hsz : w.heap.size ≤ wr.heap.size := hgr.size
  have hPW := hP.below hBW
  have hkb : OwnI W base kv y.kids := ownsRow_mono hk (by omega)
  refine ⟨⟨p' ++ [(y, kv)], ?_, by simp [hm], fun q hq => ?_, ?_, ?_, ?_⟩⟩
  · rw [← List.append_assoc]
    subst hn
    exact hPW.snoc hkb hown hg
  · rcases List.mem_append.1 hq with hq | hq
    · have h1 := (hkid q hq).below hBW
      exact World.ownsRow.kept h1 hg (ownBlock_ne h1 hPW.row (by decide))
    · simp at hq; subst hq
      exact ownsRow_mono (World.ownsRow.kept hk hg (ownBlock_ne hk hPW.row (by decide))) hsz
  · refine ⟨hg.os.trans (hBW.os.trans hgr.os), hg.tape.trans (hBW.tape.trans hgr.tape), hg.output.trans (hBW.output.trans hgr.output), Nat.le_trans hsz (Nat.le_trans hBW.size hg.size), fun k hk1 hk2 => ?_⟩
    rw [hg.block k (by have := hBW.size; omega) (fun he => by
      rcases hx with hx | hx
      · rw [hx] at he; exact hk2 he
      · have := hx k he.symm; omega), hBW.block k (by omega), hgr.block k hk1 hk2]
  · rcases hat with hat | hat
    · rcases hx with hx | hx
      · left; show some g = v.ownBlock; rw [← hx, hat]
      · right; intro g' hg'; have e : g = g' := Option.some.inj hg'; have := hx g hat; omega
    · right; intro g' hg'; have e : g = g' := Option.some.inj hg'; have := hBW.size; omega
  · exact (hB.trans (hBW.mono (by omega))).grown hg (by have := hBW.size; omega) (fun k hk => (hPW.row.lt k hk).1)

set_option maxHeartbeats 1000000 in
theorem add_p (v vs : Value) (p : List (Nd × Value)) (ns : List Nd) (fr by_ : Int) (w : World) (base : Nat) (hbase : base ≤ w.heap.size) (hO : OwnP w base v p) (hN : Nodes w base vs ns) (hlen : (p.length + ns.length) * 56 ≤ 140737488355328)
    (hks : ∀ x ∈ ns, x.kids.length * 8 ≤ 140737488351232 ∧ ∀ k ∈ x.kids, -9000 ≤ k ∧ k ≤ 9000) (hb0 : -9000 ≤ by_) (hb1 : by_ ≤ 9000) :
    Calls Tryd.prog 43 #[v, vs, .int .i64 fr, .int .i64 by_] w fun e w' => AddPost w base v p (ns.map (mvN fr by_)) e w' := by
  obtain ⟨ao, cap0, rfl, hl, hm, hc⟩ := hN
  obtain ⟨i0, hi, hz0, hz1, hz2⟩ := info_parts Tryd.infoNode
  unfold maxLen at hm
  have HC : Hid (ns = [] ∨ ∃ b o, ao = some ⟨b, o, none⟩ ∧ b < base ∧ ∀ i, i < ns.length → ∃ kv, NodeAt w base b (o + i * 4) (ns.getD i nd0) kv) := hc
  clear hc
  go_enter Tryd.func43, Tryd.ntmps43
  go_wp2
  go_loopw [0, 13] (fun x i wr => ∃ k : Nat, k ≤ ns.length ∧ i = .int .i64 k ∧ AddMid w base v p ((ns.take k).map (mvN fr by_)) x wr) (fun _ i _ => ns.length - (RowKit.intOf i).toNat)
  case atStart => exact ⟨0, by omega, rfl, AddMid.start hO⟩
  case round =>
    obtain ⟨k, hk, rfl, hmid⟩ := hrel
    by_cases hlt : k < ns.length
    · obtain ⟨p', hP, hpm, hkid, hgr, hx, hB⟩ := hmid.ex
      have hsz := hB.size
      obtain ⟨b, o, rfl, hbl, hc⟩ : ∃ b o, ao = some ⟨b, o, none⟩ ∧ b < base ∧ ∀ i, i < ns.length → ∃ kv, NodeAt w base b (o + i * 4) (ns.getD i nd0) kv := by
        rcases HC.out with h | h
        · subst h; simp at hlt
        · exact h
      obtain ⟨kv, hNA⟩ := hc k hlt
      clear hc HC
      have hNA := hNA.below hB (Nat.le_refl _) hbl
      have hzr := hks (ns.getD k nd0) (by simp [hlt])
      have HS := take_map_snoc (mvN fr by_) nd0 ns k hlt
      have hMl : ((ns.take k).map (mvN fr by_)).length = k := by simp; omega
      have hpl : (p ++ p').length = p.length + k := by
        rw [List.length_append]
        have := congrArg List.length hpm
        simp only [List.length_map] at this hMl
        omega
      have HPL : Hid ((p ++ p').length = p.length + k) := hpl
      have HPM : Hid (p'.map (·.1) = (ns.take k).map (mvN fr by_)) := hpm
      have HKID : Hid (∀ q ∈ p', OwnI wr w.heap.size q.2 q.1.kids) := hkid
      have HGR : Hid (w.grownBy wr v.ownBlock) := hgr
      generalize hQ : p ++ p' = Q at hP HPL
      have HQ : Hid (p ++ p' = Q) := hQ
      have HP : Hid (OwnP wr base _ Q) := hP
      have HX : Hid (_ ∨ _) := hx
      clear hpl hQ hpm hkid hgr hx hmid
      generalize ns.getD k nd0 = x at *
      have HS' : Hid ((ns.take (k + 1)).map (mvN fr by_) = (ns.take k).map (mvN fr by_) ++ [mvN fr by_ x]) := HS
      clear HS hks
      obtain ⟨op, n, nm, kids⟩ := x
      obtain ⟨c0, c1, c2, c3, hki⟩ := hNA
      simp only at c0 c1 c2 c3 hki hzr
      obtain ⟨ka, kc, rfl, hki'⟩ := id hki
      have hb9 : b < wr.heap.size := by omega
      have hb8 : b ≠ wr.heap.size := by omega
      go_wp2_with fail
      refine (moved_any _ kids _ _ _ ?h1 hzr.1 hzr.2 hb0 hb1).mono ?_
      case h1 => exact hki.below ((Below.refl _ _).alloc (by omega) _) (by simp; omega)
      rintro e w2 ⟨v2, rfl, hO2, hB2⟩
      obtain ⟨ao2, cap2, rfl⟩ := hO2.form
      generalize hm2 : kids.map (mvK fr by_) = kids2 at *
      have HM2 : Hid (mvN fr by_ ⟨op, n, nm, kids⟩ = ⟨op, n, nm, kids2⟩) := by show mvN fr by_ ⟨op, n, nm, kids⟩ = ⟨op, n, nm, kids2⟩; rw [← hm2]; rfl
      clear hm2
      have d0 : w2.cell? ⟨wr.heap.size, 0, none⟩ = some (.int .i64 op) := by rw [hB2.cell (p := ⟨wr.heap.size, 0, none⟩) (by simp)]; simp
      have d1 : w2.cell? ⟨wr.heap.size, 1, none⟩ = some (.int .i64 n) := by rw [hB2.cell (p := ⟨wr.heap.size, 1, none⟩) (by simp)]; simp
      have d2 : w2.cell? ⟨wr.heap.size, 2, none⟩ = some (.string nm) := by rw [hB2.cell (p := ⟨wr.heap.size, 2, none⟩) (by simp)]; simp
      have d3 : w2.cell? ⟨wr.heap.size, 3, none⟩ = some (.slice ka kids.length kc) := by rw [hB2.cell (p := ⟨wr.heap.size, 3, none⟩) (by simp)]; simp
      have f3 : w2.frozen? ⟨wr.heap.size, 3, none⟩ = false := by rw [hB2.frozen (p := ⟨wr.heap.size, 3, none⟩) (by simp)]; simp
      have z2 : wr.heap.size + 1 ≤ w2.heap.size := by have := hB2.size; simpa using this
      have hBw2 : Below wr.heap.size wr w2 := ((Below.refl _ _).alloc (Nat.le_refl _) _).trans (hB2.mono (by simp))
      have hBw3 : Below wr.heap.size wr (w2.setCell ⟨wr.heap.size, 3, none⟩ (.slice ao2 kids2.length cap2)) := hBw2.setCell (Nat.le_refl _) _
      have hP3 := hP.below hBw3
      have hO3 : OwnI (w2.setCell ⟨wr.heap.size, 3, none⟩ (.slice ao2 kids2.length cap2)) wr.heap.size (.slice ao2 kids2.length cap2) kids2 := ownsRow_mono (ownsRow_setCell_below hO2 (by simp) _) (by simp)
      clear c0 c1 c2 c3 hki hki' hO2 hB2 hBw2 hO hP
      go_wp2_with (at_builtin; refine wpList_append_lies _ rfl (.tmp 23) (.tmp 25) 22 rfl base 60 i0 (.agg #[.int .i64 0, .int .i64 0, .string ⟨#[]⟩, .slice none 0 0]) 4 56 Tryd.underlying22 hi hz0 hz1 hz2 rfl (by decide) _ _ _ rfl (hP3.row.alloc _) ⟨w2.heap.size, 0, none⟩ 1 1 [.int .i64 op, .int .i64 n, .string nm, .slice ao2 kids2.length cap2] rfl rfl (cell_news4 _ _ _ _ _ _ _ (by simp)) (by simp [Value.oneCell']) (by omega) (by have := HPL.out; unfold maxLen; omega) (by have := HPL.out; omega) (by simp; omega) _ rfl ?_; intro g cap w1 hown1 hg1 hat hl1)
      refine ⟨⟨k + 1, by omega, by go_num, ?_⟩, by simp [RowKit.intOf]; omega⟩
      rw [HS'.out, HM2.out]
      have hPQ := HP.out
      rw [← HQ.out] at hPQ
      refine AddMid.snoc (p' := p') (y := ⟨op, n, nm, kids2⟩) (kv := .slice ao2 kids2.length cap2) hPQ HPM.out HKID.out HGR.out HX.out hB hbase (hBw3.alloc (by simp; omega) (.cells #[.int .i64 op, .int .i64 n, .string nm, .slice ao2 kids2.length cap2] 60)) (hO3.below ((Below.refl _ _).alloc (Nat.le_refl _) _)) (by rw [HQ.out]) (by rw [HQ.out]; exact hown1) hg1 hat
    · have hke : k = ns.length := by omega
      subst hke
      go_wp2
      go_ret
      rw [List.take_length] at hmid
      obtain ⟨p', h1, h2, h3, h4, h5, h6⟩ := hmid.ex
      exact ⟨⟨_, p', rfl, h1, h2, h3, h4, h5, h6⟩⟩
end Go.Proofs.YtjmccobblpcbhaaDoor

namespace Go.Proofs.YtjmccobblpcbhaaDoor
open Go.RowKit Go.Lib

/-- The slice v reads as the lists ps, in blocks below B. -/
def Lst (w : World) (B : Nat) (v : Value) (ps : List (List Nd)) : Prop :=
  ∃ ao cap, v = .slice ao ps.length cap ∧ ps.length ≤ cap ∧ cap ≤ maxLen ∧ (ps = [] ∨ ∃ b o, ao = some ⟨b, o, none⟩ ∧ b < B ∧ ∀ i, i < ps.length → ∃ pv, w.cell? ⟨b, o + i, none⟩ = some pv ∧ Nodes w B pv (ps.getD i []))

theorem Lst.below {w w' : World} {B B' : Nat} {v : Value} {ps : List (List Nd)} (h : Lst w B v ps) (hb : Below B w w') (hB : B ≤ B') : Lst w' B' v ps := by
  obtain ⟨ao, cap, rfl, h1, h2, h3⟩ := h
  refine ⟨ao, cap, rfl, h1, h2, ?_⟩
  rcases h3 with h3 | ⟨b, o, rfl, hlt, hc⟩
  · exact .inl h3
  · exact .inr ⟨b, o, rfl, by omega, fun i hi => let ⟨pv, h4, h5⟩ := hc i hi; ⟨pv, (hb.cell (p := ⟨b, o + i, none⟩) hlt).trans h4, h5.below hb hB⟩⟩

theorem OwnP.kept {w w' : World} {base base' : Nat} {v v2 : Value} {p : List (Nd × Value)} {e : TypeId} {s n : Nat} {xs : List Value} (h : OwnP w base v p) (hg : w.grownBy w' v2.ownBlock) (hr : w.ownsRow base' e s v2 n xs) (h1 : 60 ≠ e) (h2 : 3 ≠ e) : OwnP w' base v p :=
  ⟨World.ownsRow.kept h.row hg (ownBlock_ne h.row hr h1), fun q hq => World.ownsRow.kept (h.kids q hq) hg (ownBlock_ne (h.kids q hq) hr h2)⟩
theorem OwnN.kept {w w' : World} {base base' : Nat} {v v2 : Value} {l : List Nd} {e : TypeId} {s n : Nat} {xs : List Value} (h : OwnN w base v l) (hg : w.grownBy w' v2.ownBlock) (hr : w.ownsRow base' e s v2 n xs) (h1 : 60 ≠ e) (h2 : 3 ≠ e) : OwnN w' base v l :=
  let ⟨p, h3, h4⟩ := h; ⟨p, h3, h4.kept hg hr h1 h2⟩

/-- Lists of lists of the call's own; pvs: the slices. -/
structure OwnLs (w : World) (base : Nat) (v : Value) (ps : List (List Nd)) (pvs : List Value) : Prop where
  len : pvs.length = ps.length
  row : w.ownsRow base 22 1 v ps.length pvs
  each : ∀ i, i < ps.length → OwnN w base (pvs.getD i (.slice none 0 0)) (ps.getD i [])

theorem OwnLs.snoc {w w1 : World} {base : Nat} {v v' : Value} {ps : List (List Nd)} {pvs : List Value} {l : List Nd} {pv : Value} (h : OwnLs w base v ps pvs) (hl : OwnN w base pv l)
    (hown : w1.ownsRow base 22 1 v' (ps.length + 1) (pvs ++ [pv])) (hg : w.grownBy w1 v.ownBlock) : OwnLs w1 base v' (ps ++ [l]) (pvs ++ [pv]) := by
  have hlen := h.len
  refine ⟨by simp [hlen], by simpa using hown, fun i hi => ?_⟩
  by_cases hlt : i < ps.length
  · have e1 : (pvs ++ [pv]).getD i (.slice none 0 0) = pvs.getD i (.slice none 0 0) := by simp only [List.getD_eq_getElem?_getD]; rw [List.getElem?_append_left (by omega)]
    have e2 : (ps ++ [l]).getD i [] = ps.getD i [] := by simp only [List.getD_eq_getElem?_getD]; rw [List.getElem?_append_left (by omega)]
    rw [e1, e2]
    exact (h.each i hlt).kept hg h.row (by decide) (by decide)
  · have he : i = ps.length := by simp at hi; omega
    have e1 : (pvs ++ [pv]).getD i (.slice none 0 0) = pv := by rw [he, ← hlen]; simp
    have e2 : (ps ++ [l]).getD i [] = l := by rw [he]; simp
    rw [e1, e2]
    exact hl.kept hg h.row (by decide) (by decide)

theorem OwnLs.below {w w' : World} {base : Nat} {v : Value} {ps : List (List Nd)} {pvs : List Value} (h : OwnLs w base v ps pvs) (hb : Below w.heap.size w w') : OwnLs w' base v ps pvs :=
  ⟨h.len, ownsRow_below h.row hb, fun i hi => (h.each i hi).below hb⟩

end Go.Proofs.YtjmccobblpcbhaaDoor

set_option linter.unusedSimpArgs false
set_option linter.unusedVariables false
namespace Go.Proofs.YtjmccobblpcbhaaDoor
open Go.RowKit Go.Lib

/-- One cell of an owned row is set. -/
theorem own_put {w : World} {base : Nat} {e : TypeId} {s n g cap : Nat} {xs : List Value} {i : Nat} {u : Value} (h : w.ownsRow base e s (.slice (some ⟨g, 0, none⟩) n cap) n xs) (hi : i < xs.length) : (w.setCell ⟨g, i, none⟩ u).ownsRow base e s (.slice (some ⟨g, 0, none⟩) n cap) n (xs.set i u) := by
  obtain ⟨h1, h2⟩ := h
  refine ⟨by simpa using h1, ?_⟩
  rcases h2 with ⟨h2, _⟩ | ⟨g', cap', cur, h3, hb, hg, hn, hm, hs, ht⟩
  · cases h2
  · cases h3
    refine .inr ⟨g, cap, cur.setIfInBounds i u, rfl, hb, heap_setCell_same w g i cur e u hg, hn, hm, by simpa using hs, ?_⟩
    rw [← ht]
    simp [List.take_set]

theorem ndCells_set (p : List (Nd × Value)) (k : Nat) (x : Nd) (kv : Value) (s : ByteArray) (h : p[k]? = some (x, kv)) : ndCells (p.set k ({ x with name := s }, kv)) = (ndCells p).set (k * 4 + 2) (.string s) := by
  induction p generalizing k with
  | nil => simp at h
  | cons a r ih =>
    obtain ⟨y, kw⟩ := a
    cases k with
    | zero =>
      simp at h
      obtain ⟨rfl, rfl⟩ := h
      simp [ndCells]
    | succ k =>
      have := ih k (by simpa using h)
      have e : (k + 1) * 4 + 2 = (k * 4 + 2) + 4 := by omega
      rw [e]
      simp [ndCells, this]

theorem own_block' {w : World} {base : Nat} {e : TypeId} {s n : Nat} {v : Value} {xs : List Value} (h : w.ownsRow base e s v n xs) : ∀ b, v.ownBlock = some b → base ≤ b ∧ b < w.heap.size := by
  intro b hb
  rcases h.2 with ⟨rfl, _⟩ | ⟨g, cap, cur, rfl, h1, h2, _⟩
  · cases hb
  · simp [Value.ownBlock] at hb; subst hb; exact ⟨h1, lt_of_block h2⟩
theorem own_same' {w w' : World} {base : Nat} {e : TypeId} {s n : Nat} {v : Value} {xs : List Value} (h : w.ownsRow base e s v n xs) (hb : ∀ b, v.ownBlock = some b → w'.heap[b]? = w.heap[b]?) : w'.ownsRow base e s v n xs := by
  rcases h with ⟨h1, h2⟩
  refine ⟨h1, ?_⟩
  rcases h2 with h2 | ⟨g, cap, cur, rfl, hg, h3, r⟩
  · exact .inl h2
  · exact .inr ⟨g, cap, cur, rfl, hg, (hb g rfl).trans h3, r⟩
theorem row_form' {w : World} {base : Nat} {e : TypeId} {s n : Nat} {v : Value} {xs : List Value} (h : w.ownsRow base e s v n xs) : ∃ ao cap, v = .slice ao n cap := by
  rcases h.2 with ⟨rfl, h0⟩ | ⟨g', cap', cur, rfl, _⟩
  · exact ⟨none, 0, by rw [h0]⟩
  · exact ⟨_, _, rfl⟩

theorem own_set' {w : World} {base p o : Nat} {e : TypeId} {s n : Nat} {v u : Value} {xs : List Value} (h : w.ownsRow base e s v n xs) (hp : v.ownBlock ≠ some p) : (w.setCell ⟨p, o, none⟩ u).ownsRow base e s v n xs :=
  own_same' h fun b hb => Deep.blk_setCell_other _ _ _ _ (by show b ≠ p; intro e; subst e; exact hp hb)

/-- The names' list, the number to stop at: where the function finds them. -/
structure Cst (w : World) (A Sb Nb : Nat) (stop : Int) (na : Option Addr) (nc : Nat) (names : List ByteArray) : Prop where
  sb : Sb < A
  nb : Nb < A
  stopC : w.cell? ⟨Sb, 0, none⟩ = some (.int .i64 stop)
  namesC : w.cell? ⟨Nb, 0, none⟩ = some (.slice na names.length nc)
  len : names.length ≤ nc ∧ nc ≤ maxLen
  row : names = [] ∨ ∃ b o, na = some ⟨b, o, none⟩ ∧ b < A ∧ ∀ j, j < names.length → w.cell? ⟨b, o + j, none⟩ = some (.string (names.getD j ⟨#[]⟩))
theorem Cst.below {w w' : World} {A Sb Nb : Nat} {stop : Int} {na : Option Addr} {nc : Nat} {names : List ByteArray} (h : Cst w A Sb Nb stop na nc names) (hb : Below A w w') : Cst w' A Sb Nb stop na nc names :=
  ⟨h.sb, h.nb, (hb.cell (p := ⟨Sb, 0, none⟩) h.sb).trans h.stopC, (hb.cell (p := ⟨Nb, 0, none⟩) h.nb).trans h.namesC, h.len, by
    rcases h.row with h | ⟨b, o, e, hlt, hc⟩
    · exact .inl h
    · exact .inr ⟨b, o, e, hlt, fun j hj => (hb.cell (p := ⟨b, o + j, none⟩) hlt).trans (hc j hj)⟩⟩

/-- What has been asked. -/
structure AskAt (w : World) (A : Nat) (va : Value) (qs : List ByteArray) : Prop where
  blk : w.heap[A]? = some (.cells #[va] 33 (0, 0))
  row : w.ownsRow (A + 1) 9 1 va qs.length (qs.map Value.string)
theorem AskAt.below {w w' : World} {A : Nat} {va : Value} {qs : List ByteArray} (h : AskAt w A va qs) (hb : Below w.heap.size w w') : AskAt w' A va qs :=
  ⟨(hb.block _ (lt_of_block h.blk)).trans h.blk, ownsRow_below h.row hb⟩

theorem row_cell {w : World} {base : Nat} {e : TypeId} {v : Value} {n : Nat} {xs : List Value} (h : w.ownsRow base e 1 v n xs) {i : Nat} (hi : i < n) {d : Value} : ∃ g cap, v = .slice (some ⟨g, 0, none⟩) n cap ∧ g < w.heap.size ∧ n ≤ cap ∧ cap ≤ maxLen ∧ w.cell? ⟨g, i, none⟩ = some (xs.getD i d) := by
  obtain ⟨h1, h2⟩ := h
  rcases h2 with ⟨rfl, h0⟩ | ⟨g, cap, cur, rfl, hb, hg, hn, hm, hs, ht⟩
  · omega
  · refine ⟨g, cap, rfl, lt_of_block hg, hn, hm, ?_⟩
    have hc : w.cell? ⟨g, i, none⟩ = cur[i]? := by simp [World.cell?, hg]
    rw [hc, ← Array.getElem?_toList]
    have e : cur.toList[i]? = (cur.toList.take (n * 1))[i]? := by rw [List.getElem?_take, if_pos (by omega)]
    rw [e, ht]
    simp [show i < xs.length by omega]
end Go.Proofs.YtjmccobblpcbhaaDoor

set_option linter.unusedSimpArgs false
set_option linter.unusedVariables false
namespace Go.Proofs.YtjmccobblpcbhaaDoor
open Go.RowKit Go.Lib

/-- The table lies in memory. -/
def WrCells (w : World) : Prop := ∀ k, k < 19 →
  w.cell? ⟨0, k * 3, none⟩ = some (.string (txt (wrTab.getD k ([], [], 0)).1)) ∧ w.cell? ⟨0, k * 3 + 1, none⟩ = some (.string (txt (wrTab.getD k ([], [], 0)).2.1)) ∧ w.cell? ⟨0, k * 3 + 2, none⟩ = some (.int .i64 (wrTab.getD k ([], [], 0)).2.2)
theorem WrCells.below {w w' : World} (h : WrCells w) (hb : Below w.heap.size w w') : WrCells w' := by
  intro k hk
  obtain ⟨h0, h1, h2⟩ := h k hk
  exact ⟨(hb.cell (World.block_lt_of_cell? w _ h0)).trans h0, (hb.cell (World.block_lt_of_cell? w _ h1)).trans h1, (hb.cell (World.block_lt_of_cell? w _ h2)).trans h2⟩

/-- A part at b, o. -/
structure PtAt (w : World) (b o : Nat) (p : Nd × ByteArray) : Prop where
  c0 : w.cell? ⟨b, o, none⟩ = some (.int .i64 p.1.op)
  c1 : w.cell? ⟨b, o + 1, none⟩ = some (.int .i64 p.1.n)
  c2 : w.cell? ⟨b, o + 2, none⟩ = some (.string p.1.name)
  c3 : ∃ ka kn kc, w.cell? ⟨b, o + 3, none⟩ = some (.slice ka kn kc)
  c4 : w.cell? ⟨b, o + 4, none⟩ = some (.string p.2)
theorem PtAt.below {w w' : World} {b o : Nat} {p : Nd × ByteArray} (h : PtAt w b o p) (hlt : b < w.heap.size) (hb : Below w.heap.size w w') : PtAt w' b o p := by
  obtain ⟨h0, h1, h2, ⟨ka, kn, kc, h3⟩, h4⟩ := h
  exact ⟨(hb.cell (p := ⟨b, o, none⟩) hlt).trans h0, (hb.cell (p := ⟨b, o + 1, none⟩) hlt).trans h1, (hb.cell (p := ⟨b, o + 2, none⟩) hlt).trans h2, ⟨ka, kn, kc, (hb.cell (p := ⟨b, o + 3, none⟩) hlt).trans h3⟩, (hb.cell (p := ⟨b, o + 4, none⟩) hlt).trans h4⟩
/-- The slice reads as the parts ps. -/
def Pts (w : World) (ao : Option Addr) (cap : Nat) (ps : List (Nd × ByteArray)) : Prop :=
  ps.length ≤ cap ∧ cap ≤ maxLen ∧ (ps = [] ∨ ∃ b o, ao = some ⟨b, o, none⟩ ∧ b < w.heap.size ∧ ∀ i, i < ps.length → PtAt w b (o + i * 5) (ps.getD i pt0))
theorem Pts.below {w w' : World} {ao : Option Addr} {cap : Nat} {ps : List (Nd × ByteArray)} (h : Pts w ao cap ps) (hb : Below w.heap.size w w') : Pts w' ao cap ps := by
  obtain ⟨h1, h2, h3⟩ := h
  refine ⟨h1, h2, ?_⟩
  rcases h3 with h3 | ⟨b, o, e, hlt, hc⟩
  · exact .inl h3
  · exact .inr ⟨b, o, e, Nat.lt_of_lt_of_le hlt hb.size, fun i hi => (hc i hi).below hlt hb⟩
theorem Pts.at_ {w : World} {ao : Option Addr} {cap : Nat} {ps : List (Nd × ByteArray)} (h : Pts w ao cap ps) {i : Nat} (hi : i < ps.length) : ∃ b o, ao = some ⟨b, o, none⟩ ∧ b < w.heap.size ∧ PtAt w b (o + i * 5) (ps.getD i pt0) := by
  rcases h.2.2 with h | ⟨b, o, e, hlt, hc⟩
  · subst h; simp at hi
  · exact ⟨b, o, e, hlt, hc i hi⟩

/-! ### rows of parts of the call's own -/
def ptCells : List ((Nd × ByteArray) × Value) → List Value
  | [] => []
  | (p, kv) :: r => .int .i64 p.1.op :: .int .i64 p.1.n :: .string p.1.name :: kv :: .string p.2 :: ptCells r
theorem ptCells_length (l : List ((Nd × ByteArray) × Value)) : (ptCells l).length = l.length * 5 := by
  induction l with
  | nil => rfl
  | cons a r ih => obtain ⟨x, kv⟩ := a; simp [ptCells, ih]; omega
theorem ptCells_append (l m : List ((Nd × ByteArray) × Value)) : ptCells (l ++ m) = ptCells l ++ ptCells m := by
  induction l with
  | nil => rfl
  | cons a r ih => obtain ⟨x, kv⟩ := a; simp [ptCells, ih]
theorem ptCells_at (l : List ((Nd × ByteArray) × Value)) (i : Nat) (x : Nd × ByteArray) (kv : Value) (h : l[i]? = some (x, kv)) :
    (ptCells l)[i * 5]? = some (.int .i64 x.1.op) ∧ (ptCells l)[i * 5 + 1]? = some (.int .i64 x.1.n) ∧ (ptCells l)[i * 5 + 2]? = some (.string x.1.name) ∧ (ptCells l)[i * 5 + 3]? = some kv ∧ (ptCells l)[i * 5 + 4]? = some (.string x.2) := by
  induction l generalizing i with
  | nil => simp at h
  | cons a r ih =>
    obtain ⟨y, kw⟩ := a
    cases i with
    | zero => simp at h; obtain ⟨rfl, rfl⟩ := h; simp [ptCells]
    | succ i =>
      have := ih i (by simpa using h)
      have e : (i + 1) * 5 = i * 5 + 5 := by omega
      rw [e]
      simpa [ptCells] using this
def Slc (v : Value) : Prop := ∃ ka kn kc, v = .slice ka kn kc
/-- Parts of the call's own; more may lie behind them. -/
def OwnT (w : World) (base : Nat) (v : Value) (n : Nat) (q : List ((Nd × ByteArray) × Value)) (rest : List Value) : Prop :=
  w.ownsRow base 141 5 v n (ptCells q ++ rest) ∧ ∀ x ∈ q, Slc x.2
theorem OwnT.pts {w : World} {base : Nat} {v : Value} {n : Nat} {q : List ((Nd × ByteArray) × Value)} {rest : List Value} (h : OwnT w base v n q rest) (hq : q.length ≤ n) : ∃ ao cap, v = .slice ao n cap ∧ n ≤ cap ∧ cap ≤ maxLen ∧ (q = [] ∨ ∃ b, ao = some ⟨b, 0, none⟩ ∧ b < w.heap.size ∧ base ≤ b ∧ ∀ i, i < q.length → PtAt w b (i * 5) ((q.map (·.1)).getD i pt0)) := by
  obtain ⟨⟨h1, h2⟩, hS⟩ := h
  rcases h2 with ⟨rfl, h0⟩ | ⟨g, cap, cur, rfl, hb, hg, hn, hm, hs, ht⟩
  · subst h0
    exact ⟨none, 0, rfl, Nat.le_refl _, by simp [maxLen], .inl (List.length_eq_zero_iff.1 (by omega))⟩
  · refine ⟨_, cap, rfl, hn, hm, .inr ⟨g, rfl, lt_of_block hg, hb, fun i hi => ?_⟩⟩
    have hp : q[i]? = some (q[i].1, q[i].2) := by simp [hi]
    have hx : (q.map (·.1)).getD i pt0 = q[i].1 := by simp [hi]
    obtain ⟨a0, a1, a2, a3, a4⟩ := ptCells_at q i _ _ hp
    have hl : (ptCells q).length = q.length * 5 := ptCells_length q
    have hc : ∀ j, j < q.length * 5 → w.cell? ⟨g, j, none⟩ = (ptCells q)[j]? := by
      intro j hj
      have e : w.cell? ⟨g, j, none⟩ = cur[j]? := by simp [World.cell?, hg]
      have e2 : (cur.toList.take (n * 5))[j]? = (ptCells q)[j]? := by rw [ht, List.getElem?_append_left (by omega)]
      rw [e, ← Array.getElem?_toList, ← e2, List.getElem?_take, if_pos (by omega)]
    obtain ⟨ka, kn, kc, hk⟩ := hS q[i] (by simp)
    rw [hx]
    refine ⟨?_, ?_, ?_, ⟨ka, kn, kc, ?_⟩, ?_⟩
    · rw [hc _ (by omega), a0]
    · rw [hc _ (by omega), a1]
    · rw [hc _ (by omega), a2]
    · rw [hc _ (by omega), a3, hk]
    · rw [hc _ (by omega), a4]
theorem OwnT.below {w w' : World} {base : Nat} {v : Value} {n : Nat} {q : List ((Nd × ByteArray) × Value)} {rest : List Value} (h : OwnT w base v n q rest) (hb : Below w.heap.size w w') : OwnT w' base v n q rest := ⟨ownsRow_below h.1 hb, h.2⟩
theorem OwnT.read {w : World} {base : Nat} {v : Value} {q : List ((Nd × ByteArray) × Value)} (h : OwnT w base v q.length q []) : ∃ ao cap, v = .slice ao q.length cap ∧ Pts w ao cap (q.map (·.1)) := by
  obtain ⟨ao, cap, e, h1, h2, h3⟩ := h.pts (Nat.le_refl _)
  refine ⟨ao, cap, e, by simpa using h1, h2, ?_⟩
  rcases h3 with h3 | ⟨b, e, hl, _, hc⟩
  · subst h3; exact .inl rfl
  · exact .inr ⟨b, 0, e, hl, fun i hi => by rw [Nat.zero_add]; exact hc i (by simpa using hi)⟩
end Go.Proofs.YtjmccobblpcbhaaDoor
