/-
  ExAddQ, ExPartQ, PaFl, PaFm, PaCk, MaV, MaT, MpC.
-/
import Derived.Shelf.Unicode.DecodeSlow
import Derived.Laws.RangeAny
import Derived.Shelf.Strconv.Itoa0
import Derived.Shelf.Unicode.DecodeAny
import Derived.Test.YtjkcbigmebbkkaaDoorProg
import Derived.WalkKit
import Derived.Deep.DeepFit
import Derived.Lib.OthersKept
import Derived.Lib.RuneCountTail
import Derived.Deep.AppendLies
import Derived.Deep.OwnRows
import Derived.Laws.AppendOwnNone
import Derived.Deep.QuietTactic
import Derived.BigQuiet
import Derived.Deep.RegionWith
import Derived.Laws.DeepStrings4
import Derived.Laws.CopyOwn
import Derived.Laws.MakeOwn
import Derived.Deep.RegionLaw
import Derived.Below
import Derived.Deep.RegionHeld3
import Derived.Lib.QuietBelow
import Derived.StillTail
import Derived.Lib.MapLaws
import Derived.Sort.Walk0
import Derived.Lib.ItoaNum
import Derived.Maps.OwnSet
import Derived.StringKeys
import Derived.Deep.Slices
import Derived.Laws.ResultCell
import Derived.Test.YtjkcbigmebbkkaaDoorY01
import Derived.Test.YtjkcbigmebbkkaaDoorY02
import Derived.Test.YtjkcbigmebbkkaaDoorY03
import Derived.Test.YtjkcbigmebbkkaaDoorY04
import Derived.Test.YtjkcbigmebbkkaaDoorY05
import Derived.Test.YtjkcbigmebbkkaaDoorY06
import Derived.Test.YtjkcbigmebbkkaaDoorY07
import Derived.Test.YtjkcbigmebbkkaaDoorY08
import Derived.Test.YtjkcbigmebbkkaaDoorY09
import Derived.Test.YtjkcbigmebbkkaaDoorY10
import Derived.Test.YtjkcbigmebbkkaaDoorY11
import Derived.Test.YtjkcbigmebbkkaaDoorY12
import Derived.Test.YtjkcbigmebbkkaaDoorY13
import Derived.Test.YtjkcbigmebbkkaaDoorY14
import Derived.Test.YtjkcbigmebbkkaaDoorY15
import Derived.Test.YtjkcbigmebbkkaaDoorY16
import Derived.Test.YtjkcbigmebbkkaaDoorY17
import Derived.Test.YtjkcbigmebbkkaaDoorY18
set_option linter.unusedSimpArgs false
set_option linter.unusedVariables false
namespace Go.Proofs.YtjkcbigmebbkkaaDoor
open Go.RowKit Go.Lib

/-- In the middle of it. -/
structure AddMiq (w : World) (base : Nat) (v : Value) (p : List (Nd × Value)) (ms : List Nd) (x : Value) (wr : World) : Prop where
  ex : ∃ p', OwnP wr base x (p ++ p') ∧ p'.map (·.1) = ms ∧ ((∀ q ∈ p', OwnI wr w.heap.size q.2 q.1.kids) ∧ KdAp p') ∧ w.grownBy wr v.ownBlock ∧ (x.ownBlock = v.ownBlock ∨ ∀ g, x.ownBlock = some g → w.heap.size ≤ g) ∧ Below base w wr

theorem AddMiq.start {w : World} {base : Nat} {v : Value} {p : List (Nd × Value)} (h : OwnP w base v p) : AddMiq w base v p [] v w :=
  ⟨⟨[], by simpa using h, rfl, ⟨by simp, List.Pairwise.nil⟩, World.grownBy.refl _ _, .inl rfl, Below.refl _ _⟩⟩

/-- One node more: its kids are owned (new since wr), the append has gone through. -/
theorem AddMiq.snoc {w : World} {base : Nat} {v x : Value} {p p' : List (Nd × Value)} {ms : List Nd} {wr W w1 : World} {y : Nd} {kv : Value} {g n cap : Nat} (hP : OwnP wr base x (p ++ p')) (hm : p'.map (·.1) = ms) (hkidA : (∀ q ∈ p', OwnI wr w.heap.size q.2 q.1.kids) ∧ KdAp p') (hgr : w.grownBy wr v.ownBlock) (hx : x.ownBlock = v.ownBlock ∨ ∀ g, x.ownBlock = some g → w.heap.size ≤ g) (hB : Below base w wr)
    (hbase : base ≤ w.heap.size) (hBW : Below wr.heap.size wr W) (hk : OwnI W wr.heap.size kv y.kids) (hn : n = (p ++ p').length)
    (hown : w1.ownsRow base 71 4 (.slice (some ⟨g, 0, none⟩) (n + 1) cap) (n + 1) (ndCells (p ++ p') ++ [.int .i64 y.op, .int .i64 y.n, .string y.name, kv])) (hg : W.grownBy w1 x.ownBlock) (hat : x.ownBlock = some g ∨ g = W.heap.size) :
    AddMiq w base v p (ms ++ [y]) (.slice (some ⟨g, 0, none⟩) (n + 1) cap) w1 := by
  have hkid := hkidA.1
  have hsz : w.heap.size ≤ wr.heap.size := hgr.size
  have hPW := hP.below hBW
  have hkb : OwnI W base kv y.kids := ownsRow_mono hk (by omega)
  refine ⟨⟨p' ++ [(y, kv)], ?_, by simp [hm], ⟨fun q hq => ?_, ?_⟩, ?_, ?_, ?_⟩⟩
  · rw [← List.append_assoc]
    subst hn
    exact hPW.snoc hkb hown hg
  · rcases List.mem_append.1 hq with hq | hq
    · have h1 := (hkid q hq).below hBW
      exact World.ownsRow.kept h1 hg (ownBlock_ne h1 hPW.row (by decide))
    · simp at hq; subst hq
      exact ownsRow_mono (World.ownsRow.kept hk hg (ownBlock_ne hk hPW.row (by decide))) hsz
  · unfold KdAp
    rw [List.pairwise_append]
    refine ⟨hkidA.2, List.pairwise_singleton _ _, fun a ha b hb g' h5 h6 => ?_⟩
    rw [List.mem_singleton.1 hb] at h6
    have h7 := (rw_block (hkid a ha) h5).2.1
    have h8 := (rw_block hk h6).1
    omega
  · refine ⟨hg.os.trans (hBW.os.trans hgr.os), hg.tape.trans (hBW.tape.trans hgr.tape), hg.output.trans (hBW.output.trans hgr.output), Nat.le_trans hsz (Nat.le_trans hBW.size hg.size), fun k hk1 hk2 => ?_⟩
    rw [hg.block k (by have := hBW.size; omega) (fun he => by
      rcases hx with hx | hx
      · rw [hx] at he; exact hk2 he
      · have := hx k he.symm; omega), hBW.block k (by omega), hgr.block k hk1 hk2]
  · rcases hat with hat | hat
    · rcases hx with hx | hx
      · left; show some g = v.ownBlock; rw [← hx, hat]
      · right; intro g' hg'; have e : g = g' := Option.some.inj hg'; have := hx g hat; omega
    · right; intro g' hg'; have e : g = g' := Option.some.inj hg'; have := hBW.size; omega
  · exact (hB.trans (hBW.mono (by omega))).grown hg (by have := hBW.size; omega) (fun k hk => (hPW.row.lt k hk).1)

end Go.Proofs.YtjkcbigmebbkkaaDoor

set_option linter.unusedSimpArgs false
set_option linter.unusedVariables false
namespace Go.Proofs.YtjkcbigmebbkkaaDoor
open Go.RowKit Go.Lib

/-- Owned, and no two rows of kids are one. -/
def OwnQ (w : World) (base : Nat) (v : Value) (l : List Nd) : Prop := ∃ p : List (Nd × Value), p.map (·.1) = l ∧ OwnP w base v p ∧ KdAp p
theorem OwnQ.n {w : World} {base : Nat} {v : Value} {l : List Nd} (h : OwnQ w base v l) : OwnN w base v l := let ⟨p, h1, h2, _⟩ := h; ⟨p, h1, h2⟩
theorem OwnQ.form {w : World} {base : Nat} {v : Value} {l : List Nd} (h : OwnQ w base v l) : ∃ ao n cap, v = .slice ao n cap := h.n.form
theorem OwnQ.below {w w' : World} {base : Nat} {v : Value} {l : List Nd} (h : OwnQ w base v l) (hb : Below w.heap.size w w') : OwnQ w' base v l := let ⟨p, h1, h2, h3⟩ := h; ⟨p, h1, h2.below hb, h3⟩
theorem OwnQ.mono {w : World} {base base' : Nat} {v : Value} {l : List Nd} (h : OwnQ w base v l) (hb : base' ≤ base) : OwnQ w base' v l := let ⟨p, h1, h2, h3⟩ := h; ⟨p, h1, ⟨ownsRow_mono h2.row hb, fun q hq => ownsRow_mono (h2.kids q hq) hb⟩, h3⟩
end Go.Proofs.YtjkcbigmebbkkaaDoor

set_option linter.unusedSimpArgs false
set_option linter.unusedVariables false
namespace Go.Proofs.YtjkcbigmebbkkaaDoor
open Go.RowKit Go.Lib Go.Maps Go.Deep

theorem RdO.grow {w w1 w2 : World} {l : List Nd} {v nv : Value} {M : Nat} (h : RdO w l v nv M w1) (hs : w.heap.size ≤ w1.heap.size) (hb : Below w1.heap.size w1 w2) : RdO w l v nv M w2 := by
  obtain ⟨⟨p, hp, hc⟩, hr, ⟨n, hm⟩, hM⟩ := h
  exact ⟨⟨p, hp, ownsRow_below hc.row hb, fun x hx => (hc.kids x hx).below (hb.mono hs) (Nat.le_refl _)⟩, ownsRow_below hr hb, ⟨n, hm.below hb⟩, hM⟩
theorem RdO.nodes {w w1 : World} {l : List Nd} {v nv : Value} {M : Nat} (h : RdO w l v nv M w1) (hs : w.heap.size ≤ w1.heap.size) : Nodes w1 w1.heap.size v (l.map fillN) := by
  obtain ⟨p, hp, hc⟩ := h.p
  have := hc.nodes (C := w1.heap.size) (Nat.le_refl _) hs
  rw [hp] at this
  exact this
end Go.Proofs.YtjkcbigmebbkkaaDoor

set_option linter.unusedSimpArgs false
set_option linter.unusedVariables false
namespace Go.Proofs.YtjkcbigmebbkkaaDoor
open Go.RowKit Go.Lib Go.Maps Go.Deep

structure FlOk (l : List Nd) (ps : List (List Nd)) : Prop where
  pat : patB l = true
  snd : ∀ r ∈ ps, sndB r = true
  len : ps.length = (hlsL l).length
theorem FlOk.pts {l : List Nd} {ps : List (List Nd)} (h : FlOk l ps) : PtsOk ps (hlsL l) l := fun x hx ho => h.snd _ (getD_mem (by rw [h.len]; exact hole_lt hx ho))
end Go.Proofs.YtjkcbigmebbkkaaDoor

set_option linter.unusedSimpArgs false
set_option linter.unusedVariables false
namespace Go.Proofs.YtjkcbigmebbkkaaDoor
open Go.RowKit Go.Lib

/-- Between two nodes of the copy. -/
structure PcMid (w : World) (l : List Nd) (v : Value) (k : Nat) (wr : World) : Prop where
  p : ∃ p, p.map (·.1) = (l.take k).map fillN ++ l.drop k ∧ OwnP wr w.heap.size v p
  below : Below w.heap.size w wr
theorem PcMid.at_ {w : World} {l : List Nd} {v : Value} {k : Nat} {wr : World} (h : PcMid w l v k wr) (hk : k < l.length) : ∃ g cap, v = .slice (some ⟨g, 0, none⟩) l.length cap ∧ w.heap.size ≤ g ∧ g < wr.heap.size ∧ l.length ≤ cap ∧ cap ≤ maxLen ∧ wr.cell? ⟨g, k * 4, none⟩ = some (.int .i64 (l.getD k nd0).op) ∧ wr.frozen? ⟨g, k * 4, none⟩ = false := by
  obtain ⟨⟨p, hp, hc⟩, hb⟩ := h
  have hpl : p.length = l.length := by have := congrArg List.length hp; simp at this; omega
  rcases hc.row.2 with ⟨rfl, h0⟩ | ⟨g, cap, cur, rfl, hg0, hg, h1, h2, h3, h4⟩
  · omega
  · refine ⟨g, cap, by rw [hpl], hg0, lt_of_block hg, by omega, h2, ?_, frozen_of_heap hg _⟩
    have hp2 : p[k]? = some (p[k].1, p[k].2) := by simp [hpl, hk]
    have := (ndCells_at p k _ _ hp2).1
    have hx : ((l.take k).map fillN ++ l.drop k)[k]? = some l[k] := by
      rw [List.getElem?_append_right (by simp; omega)]
      have : k - ((l.take k).map fillN).length = 0 := by simp; omega
      rw [this]; simp [hk]
    have hkp : k < p.length := by omega
    have e : p[k].1 = l.getD k nd0 := by
      have h5 : (p.map (·.1))[k]? = some l[k] := by rw [hp]; exact hx
      simp [hkp] at h5
      simp [hk, h5]
    rw [cell_of_heap hg, ← Array.getElem?_toList, ← e, ← this, ← h4, List.getElem?_take, if_pos (by omega)]
end Go.Proofs.YtjkcbigmebbkkaaDoor

set_option linter.unusedSimpArgs false
set_option linter.unusedVariables false
namespace Go.Proofs.YtjkcbigmebbkkaaDoor
open Go.RowKit Go.Lib Go.Maps

def hole15 : Nd := ⟨18, 0, ⟨#[97]⟩, []⟩
theorem hole15_pat : patB [hole15] = true := by decide +kernel
theorem hole15_rd {w : World} : Rd (w.alloc (.cells #[.int .i64 18, .int .i64 0, .string ⟨#[97]⟩, .slice none 0 0] 71)) (some ⟨w.heap.size, 0, none⟩) 1 [hole15] := by
  have hblk : (w.alloc (.cells #[.int .i64 18, .int .i64 0, .string ⟨#[97]⟩, .slice none 0 0] 71)).heap[w.heap.size]? = some (.cells #[.int .i64 18, .int .i64 0, .string ⟨#[97]⟩, .slice none 0 0] 71 (0, 0)) := (MapKept.heap_alloc w _).1
  refine ⟨some ⟨w.heap.size, 0, none⟩, 1, rfl, by simp, by unfold maxLen; omega, .inr ⟨w.heap.size, 0, rfl, lt_of_block hblk, fun j hj => ⟨.slice none 0 0, ?_⟩⟩⟩
  have : j = 0 := by simp at hj; omega
  subst this
  refine ⟨?_, ?_, ?_, ?_, ⟨none, 0, rfl, by simp [hole15], by simp, .inl rfl⟩⟩ <;> rw [cell_of_heap hblk] <;> rfl
set_option maxRecDepth 20000 in
set_option maxHeartbeats 1000000 in
theorem awake15_any {w : World} (hT : SpanCells w) :
    Calls Tryd.prog 30 #[] w fun e w' => e = .returned (.bool true) ∧ Below w.heap.size w w' := by
  have hb : Below w.heap.size w (w.alloc (.cells #[.int .i64 18, .int .i64 0, .string ⟨#[97]⟩, .slice none 0 0] 71)) := (Below.refl _ _).alloc (Nat.le_refl _) _
  have c := compile_ok (l := [hole15]) (hT.below hb) hole15_rd (fun x hx => by simp at hx; subst hx; decide) hole15_pat
  have hsz : (w.alloc (.cells #[.int .i64 18, .int .i64 0, .string ⟨#[97]⟩, .slice none 0 0] 71)).heap.size = w.heap.size + 1 := by simp
  obtain ⟨w1, hw1⟩ : ∃ w1, w.alloc (.cells #[.int .i64 18, .int .i64 0, .string ⟨#[97]⟩, .slice none 0 0] 71) = w1 := ⟨_, rfl⟩
  rw [hw1] at hb c hsz
  have HB : Hid (_) := hb
  clear hb hT
  go_enter Tryd.func30, Tryd.ntmps30
  go_wp2_with (rw [hw1])
  refine c.mono ?_
  rintro e w2 ⟨pa, pc, rfl, _, hb2⟩
  have HB2 : Hid (Below w.heap.size w w2) := HB.out.trans (hb2.mono HB.out.size)
  clear c hb2
  go_wp2_with fail
  go_ret
  exact ⟨rfl, HB2.out⟩
end Go.Proofs.YtjkcbigmebbkkaaDoor

set_option linter.unusedSimpArgs false
set_option linter.unusedVariables false
namespace Go.Proofs.YtjkcbigmebbkkaaDoor
open Go.RowKit Go.Lib Go.Sort

/-- Between two commands. -/
structure Rc15 (w : World) (l : List Cm) (n g : Nat) (s : Nat × List Bool) (k : Nat) (wr : World) : Prop where
  ck : ckL (1, List.replicate n false) (l.take k) = some s
  len : s.2.length = n
  reg : s.1 ≤ 1 + 3 * k
  blk : wr.heap[g]? = some (.cells (s.2.map Value.bool).toArray 4 (0, 0))
  leg : w.heap.size ≤ g
  below : Below w.heap.size w wr
theorem Rc15.cell {w wr : World} {l : List Cm} {n g k : Nat} {s : Nat × List Bool} (h : Rc15 w l n g s k wr) {j : Nat} (hj : j < n) : wr.cell? ⟨g, j, none⟩ = some (.bool (s.2.getD j true)) ∧ wr.frozen? ⟨g, j, none⟩ = false := by
  have hl := h.len
  refine ⟨?_, frozen_of_heap h.blk _⟩
  rw [cell_of_heap h.blk]
  simp [show j < s.2.length by omega]
theorem Rc15.grow {w wr w' : World} {l : List Cm} {n g k : Nat} {s : Nat × List Bool} (h : Rc15 w l n g s k wr) (hb : Below wr.heap.size wr w') : Rc15 w l n g s k w' :=
  ⟨h.ck, h.len, h.reg, (hb.block g (lt_of_block h.blk)).trans h.blk, h.leg, h.below.trans (hb.mono h.below.size)⟩
end Go.Proofs.YtjkcbigmebbkkaaDoor

set_option linter.unusedSimpArgs false
set_option linter.unusedVariables false
namespace Go.Proofs.YtjkcbigmebbkkaaDoor
open Go.RowKit Go.Lib Go.Maps

theorem append_srcM {P : Program} (w : World) {ops : Array Oper} {rest : List Oper} {o : Oper} {a : Act} {Q : Exit → Act → World → Prop} (hgd : o.guard = none) (s x : Operand) (t : TypeId)
    (ho : o.op = .call { callee := .builtin .append, args := #[s, x], argTypes := #[t, t] })
    (base : Nat) (e : TypeId) (i : TypeInfo) (z : Value) (size bytes : Nat) (ht : P.underlying t = some (.slice e)) (hi : P.info? e = some i) (hz : i.zero = some z)
    (hsize : i.size = size) (hby : i.bytes = bytes) (hzs : z.cells.size = size) (hsz : 0 < size)
    (v : Value) (n : Nat) (xs : List Value) (hs : a.eval s = v) (hown : w.ownsRow base e size v n xs)
    (ao : Option Addr) (m c : Nat) (news : List Value) (hx : a.eval x = .slice ao m c) (hnone : ao = none → m = 0 ∧ c = 0) (hl : news.length = m * size) (hnews : ∀ ad, ao = some ad → ∀ j u, news[j]? = some u → w.cell? (ad.add j) = some u) (h1 : ∀ u ∈ news, u.oneCell' = true)
    (h63 : n + m ≤ maxLen) (hbytes : (n + m) * bytes ≤ 140737488355328) (hbase : base ≤ w.heap.size)
    (h : ∀ v' w', w'.ownsRow base e size v' (n + m) (xs ++ news) → w.grownBy w' v.ownBlock → wpList P ops Q rest (a.put o.dst v') w') : wpList P ops Q (o :: rest) a w := by
  cases ao with
  | none =>
    obtain ⟨rfl, rfl⟩ := hnone rfl
    have hn : news = [] := List.length_eq_zero_iff.1 (by omega)
    subst hn
    exact wpList_append_own_none hgd s x t ho base e i size ht hi v n xs hs hown hx (h v w (by simpa using hown) (grown_refl _ _))
  | some ad => exact wpList_append_own w hgd s x t ho base e i z size bytes ht hi hz hsize hby hzs hsz v n xs hs hown ad m c news hx hl (hnews ad rfl) h1 h63 hbytes hbase (fun v' w' h2 h3 _ => h v' w' h2 h3)
theorem cmCells_one (l : List Cm) : ∀ u ∈ cmCells l, u.oneCell' = true := by
  induction l with
  | nil => simp [cmCells]
  | cons a r ih =>
    intro u hu
    simp only [cmCells, List.mem_cons] at hu
    rcases hu with rfl | rfl | rfl | rfl | rfl | rfl | hu
    · rfl
    · rfl
    · rfl
    · rfl
    · rfl
    · rfl
    · exact ih u hu
theorem cmCells_get : ∀ (l : List Cm) (j : Nat) (u : Value), (cmCells l)[j]? = some u → ∃ i k, i < l.length ∧ j = i * 6 + k ∧ k < 6 ∧ ([Value.int .i64 (l.getD i cm0).kind, .int .i64 (l.getD i cm0).r, .int .i64 (l.getD i cm0).to, .int .i64 (l.getD i cm0).op, .int .i64 (l.getD i cm0).n, .string (l.getD i cm0).name])[k]? = some u
  | [], j, u, h => by simp [cmCells] at h
  | c :: r, j, u, h => by
    by_cases hj : j < 6
    · refine ⟨0, j, by simp, by omega, hj, ?_⟩
      have h6 : j = 0 ∨ j = 1 ∨ j = 2 ∨ j = 3 ∨ j = 4 ∨ j = 5 := by omega
      rcases h6 with rfl | rfl | rfl | rfl | rfl | rfl <;> simpa [cmCells] using h
    · obtain ⟨j', rfl⟩ : ∃ j', j = j' + 6 := ⟨j - 6, by omega⟩
      have h2 : (cmCells r)[j']? = some u := by simpa [cmCells] using h
      obtain ⟨i, k, h3, h4, h5, h6⟩ := cmCells_get r j' u h2
      exact ⟨i + 1, k, by simp; omega, by omega, h5, by simpa using h6⟩
/-- A program's cells, by an address. -/
theorem Cms.src {w : World} {ao : Option Addr} {cap : Nat} {l : List Cm} (h : Cms w ao cap l) : ∀ ad, ao = some ad → ∀ j u, (cmCells l)[j]? = some u → w.cell? (ad.add j) = some u := by
  intro ad hao j u hu
  obtain ⟨i, k, h1, h2, h3, h4⟩ := cmCells_get l j u hu
  rcases h.2.2 with h0 | ⟨b, o, hb, _, hc⟩
  · rw [h0] at h1; simp at h1
  · rw [hao] at hb
    injection hb with hb
    subst hb
    have hA := hc i h1
    have e : (⟨b, o, none⟩ : Addr).add j = ⟨b, o + i * 6 + k, none⟩ := by
      have e0 : (⟨b, o, none⟩ : Addr).add j = ⟨b, o + j, none⟩ := by unfold Addr.add; split <;> simp_all
      rw [e0, h2, Nat.add_assoc]
    rw [e]
    have h6 : k = 0 ∨ k = 1 ∨ k = 2 ∨ k = 3 ∨ k = 4 ∨ k = 5 := by omega
    rcases h6 with rfl | rfl | rfl | rfl | rfl | rfl <;> simp at h4 <;> subst h4
    · exact hA.c0
    · exact hA.c1
    · exact hA.c2
    · exact hA.c3
    · exact hA.c4
    · exact hA.c5
theorem Cms.take {w : World} {ao : Option Addr} {cap : Nat} {l : List Cm} (h : Cms w ao cap l) (i : Nat) (hi : i ≤ l.length) : Cms w ao cap (l.take i) := by
  obtain ⟨h1, h2, h3⟩ := h
  refine ⟨by simp; omega, h2, ?_⟩
  rcases h3 with rfl | ⟨b, o, e, hb, hc⟩
  · left; simp
  · refine .inr ⟨b, o, e, hb, fun j hj => ?_⟩
    have hj2 : j < l.length := by simp at hj; omega
    have hj3 : j < i := by simp at hj; omega
    have e2 : (l.take i).getD j cm0 = l.getD j cm0 := by simp [hj2, hj3]
    rw [e2]; exact hc j hj2

set_option maxRecDepth 20000 in
set_option maxHeartbeats 1000000 in
theorem copied15_any (ao : Option Addr) (cap : Nat) (l : List Cm) (hreach : l.length * 56 ≤ 140737488355328) (w : World) (hI : Cms w ao cap l) (hnc : ao = none → l.length = 0 ∧ cap = 0) :
    Calls Tryd.prog 36 #[.slice ao l.length cap] w fun e W' => ∃ a' c', e = .returned (.slice a' l.length c') ∧ W'.ownsRow w.heap.size 68 6 (.slice a' l.length c') l.length (cmCells l) ∧ Below w.heap.size w W' := by
  obtain ⟨i0, hi, hz0, hz1, hz2⟩ := info_parts Tryd.infoCmd
  have hm := hI.2.1
  have hl1 := hI.1
  have HI : Hid (Cms w ao cap l) := hI
  have HS : Hid (∀ ad, ao = some ad → ∀ j u, (cmCells l)[j]? = some u → (w.alloc (.cells #[] 68)).cell? (ad.add j) = some u) := (HI.out.below ((Below.refl w.heap.size w).alloc (Nat.le_refl _) _)).src
  have HO : Hid ((w.alloc (.cells #[] 68)).ownsRow w.heap.size 68 6 (.slice (some ⟨w.heap.size, 0, none⟩) 0 0) 0 []) := World.ownsRow_made w #[] 0 (Nat.le_refl _) (Nat.zero_le _) (by simp)
  have HL : Hid ((cmCells l).length = l.length * 6) := cmCells_len l
  have HN : Hid (ao = none → l.length = 0 ∧ cap = 0) := hnc
  clear hI hnc
  go_enter Tryd.func36, Tryd.ntmps36
  go_wp2_with (at_builtin; refine append_srcM _ rfl _ _ 54 rfl w.heap.size 68 i0 (.agg #[.int .i64 0, .int .i64 0, .int .i64 0, .int .i64 0, .int .i64 0, .string ⟨#[]⟩]) 6 56 Tryd.underlying54 hi hz0 hz1 hz2 rfl (by decide) _ _ _ rfl HO.out ao l.length cap (cmCells l) rfl HN.out HL.out HS.out (cmCells_one l) (by omega) (by omega) (by simp) ?_; intro v' w1 hown hgrow)
  go_ret
  rw [Nat.zero_add, List.nil_append] at hown
  obtain ⟨a', c', rfl⟩ := row_form' hown
  exact ⟨a', c', rfl, hown, ((Below.refl w.heap.size w).alloc (Nat.le_refl _) _).grown hgrow (by simp) (fun k hk => by have e : some w.heap.size = some k := hk; cases e; exact Nat.le_refl _)⟩

/-- How many holes a program takes. -/
def cntT (l : List Cm) : Nat := l.countP fun c => decide (c.kind = 3)
theorem cnt_set : ∀ (l : List Bool) (k : Nat), l.getD k true = false → (l.set k true).count true = l.count true + 1
  | [], k, h => by simp at h
  | b :: l, 0, h => by simp at h; subst h; simp
  | b :: l, k + 1, h => by
    have := cnt_set l k (by simpa using h)
    simp only [List.set_cons_succ, List.count_cons, this]
    omega
theorem ck_cnt {s s' : Nat × List Bool} {c : Cm} (h : ckS s c = some s') : s'.2.length = s.2.length ∧ s'.2.count true = s.2.count true + (if c.kind = 3 then 1 else 0) := by
  unfold ckS at h
  split at h
  · split at h
    · rename_i k1
      split at h
      · cases h; rw [if_neg (by omega)]; simp
      · cases h
    · split at h
      · rename_i k1 k2
        split at h
        · cases h; rw [if_neg (by omega)]; simp
        · cases h
      · split at h
        · rename_i k3
          split at h
          · rename_i hc
            cases h
            rw [if_pos k3]
            exact ⟨by simp, cnt_set _ _ hc.2.2.2⟩
          · cases h
        · cases h
  · cases h
theorem ckL_cnt : ∀ {l : List Cm} {s s' : Nat × List Bool}, ckL s l = some s' → s'.2.length = s.2.length ∧ s'.2.count true = s.2.count true + cntT l
  | [], s, s', h => by cases h; simp [cntT]
  | c :: l, s, s', h => by
    simp only [ckL] at h
    cases hs : ckS s c with
    | none => rw [hs] at h; cases h
    | some s1 =>
      rw [hs] at h
      obtain ⟨h1, h2⟩ := ck_cnt hs
      obtain ⟨h3, h4⟩ := ckL_cnt h
      refine ⟨by omega, ?_⟩
      rw [h4, h2]
      unfold cntT
      rw [List.countP_cons]
      by_cases k3 : c.kind = 3 <;> simp [k3] <;> omega
theorem all_cnt (l : List Bool) : l.all (fun b => b) = true ↔ l.count true = l.length := by
  rw [List.count_eq_length, List.all_eq_true]
  constructor
  · intro h b hb; exact (h b hb).symm
  · intro h b hb; exact (h b hb).symm
theorem cntT_take {l : List Cm} {i : Nat} (hi : i < l.length) : cntT (l.take (i + 1)) = cntT (l.take i) + (if (l.getD i cm0).kind = 3 then 1 else 0) := by
  have e : l.take (i + 1) = l.take i ++ [l.getD i cm0] := by rw [List.take_succ_eq_append_getElem hi]; simp [hi]
  unfold cntT
  rw [e, List.countP_append, List.countP_singleton]
  by_cases k3 : (l.getD i cm0).kind = 3 <;> simp [k3]
/-- Of a sound program: each beginning. -/
theorem pre_some {l : List Cm} {h : Int} (hs : ckA l h = true) (i : Nat) : ∃ s, ckL (1, List.replicate h.toNat false) (l.take i) = some s := by
  unfold ckA at hs
  rw [Bool.and_eq_true] at hs
  cases hc : ckL (1, List.replicate h.toNat false) (l.take i) with
  | some s => exact ⟨s, rfl⟩
  | none =>
    have := ckL_stop hc
    rw [this] at hs
    exact absurd hs.2 (by simp)
theorem pre_ok {l : List Cm} {h : Int} (hs : ckA l h = true) : 0 ≤ h ∧ h ≤ 6 ∧ l.length ≤ 64 := by
  unfold ckA at hs
  rw [Bool.and_eq_true] at hs
  exact of_decide_eq_true hs.1
theorem pre_iff {l : List Cm} {h : Int} (hs : ckA l h = true) (i : Nat) (hi : i ≤ l.length) : (ckE (l.take i) h = 0) ↔ ((cntT (l.take i) : Int) = h) := by
  obtain ⟨s, hc⟩ := pre_some hs i
  obtain ⟨h0, h6, h64⟩ := pre_ok hs
  obtain ⟨c1, c2⟩ := ckL_cnt hc
  have c0 : (List.replicate h.toNat false).count true = 0 := by simp [List.count_replicate]
  simp only [List.length_replicate, c0, Nat.zero_add] at c1 c2
  have key := all_cnt s.2
  unfold ckE ckA
  rw [decide_eq_true ⟨h0, h6, by simp; omega⟩, Bool.true_and, hc]
  show (if s.2.all (fun b => b) = true then (0 : Int) else 1) = 0 ↔ _
  by_cases hall : s.2.all (fun b => b) = true
  · rw [if_pos hall]
    have := key.1 hall
    exact ⟨fun _ => by omega, fun _ => rfl⟩
  · rw [if_neg hall]
    exact ⟨fun h => (by cases h), fun hh => absurd (key.2 (by omega)) hall⟩
theorem ck_take {s s' : Nat × List Bool} {c : Cm} (h : ckS s c = some s') (hk : c.kind = 3) : ckS s' c = none := by
  have hn : ∀ t : Nat × List Bool, t.2.getD c.to.toNat true = true → ckS t c = none := by
    intro t ht
    unfold ckS
    split
    · rw [if_neg (show ¬ c.kind = 1 by omega), if_neg (show ¬ c.kind = 2 by omega), if_neg (fun q => by rw [ht] at q; cases q.2.2.2)]
    · rfl
  refine hn s' ?_
  unfold ckS at h
  split at h
  · simp only [hk] at h
    rw [if_neg (by decide), if_neg (by decide)] at h
    split at h
    · rename_i hq
      cases h
      have : c.to.toNat < s.2.length := by have := hq.2.2.1; have := hq.2.1; omega
      simp [this]
    · cases h
  · cases h
theorem pre_again {l : List Cm} {h : Int} (hs : ckA l h = true) (i : Nat) (hi : i < l.length) (hk : (l.getD i cm0).kind = 3) : ckE (l.take (i + 1) ++ [l.getD i cm0]) h = 1 := by
  obtain ⟨s, hc⟩ := pre_some hs (i + 1)
  obtain ⟨s0, hc0⟩ := pre_some hs i
  have hst := ckL_take (s := (1, List.replicate h.toNat false)) hi
  rw [hc, hc0] at hst
  simp only [Option.bind_some] at hst
  have hn : ckS s (l.getD i cm0) = none := ck_take hst.symm hk
  have hcl : ckL (1, List.replicate h.toNat false) (l.take (i + 1) ++ [l.getD i cm0]) = none := by rw [ckL_app, hc, Option.bind_some, ckL_one, hn]
  unfold ckE ckA
  rw [hcl, Bool.and_false]; rfl
end Go.Proofs.YtjkcbigmebbkkaaDoor
