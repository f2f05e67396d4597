/-
  TbJ2, TbC2, TbC3, PoW, TbJ3.
-/
import Derived.Test.YtkcjplgjidjmoaaDoorChecked
import GoSem.PinnedTables
import GoSem.Claim
import GoSem.ClaimJoined
import GoSem.ClaimMapViews
import Derived.JoinedTies
import Derived.KernelRfl
import Derived.Shelf.Unicode.DecodeSlow
import Derived.Laws.RangeAny
import Derived.Shelf.Small.Bits
import Derived.Shelf.Strconv.Itoa0
import Derived.Shelf.LaysM
import Derived.Shelf.Strconv.Clone
import Derived.Shelf.Unicode.DecodeAny
import Derived.Shelf.Slices.CompactS
import Derived.Ground.SlsfProg
import Derived.Shelf.SlSortCmp.Insertion
import Derived.Shelf.SlSortCmp.SiftDown1
import Derived.Shelf.SlSortCmp.HeapSort1
import Derived.Shelf.SlSortCmp.Insertion1
import Derived.Shelf.SlSortCmp.Median1
import Derived.Shelf.SlSortCmp.Pivot1
import Derived.Shelf.SlSortCmp.ReverseRange1
import Derived.Shelf.SlSortCmp.PartialInsertion1
import Derived.Shelf.SlSortCmp.PartitionEqual1
import Derived.Shelf.SlSortCmp.Partition1
import Derived.Shelf.SlSortCmp.Pdq1
import Derived.Shelf.SlSortCmp.Whole1
import Derived.Test.YtkcjplgjidjmoaaDoorProg
import Derived.WalkKit
import Derived.Deep.DeepFit
import Derived.Lib.OthersKept
import Derived.Lib.RuneCountTail
import Derived.Lib.LaidU8
import Derived.MakeChecks
import Derived.ProofKit
import Derived.OpenShut
import Derived.Deep.DeepHandedRow
import Derived.Deep.AppendLies
import Derived.Deep.OwnRows
import Derived.Laws.AppendOwnNone
import Derived.Deep.QuietTactic
import Derived.BigQuiet
import Derived.Deep.RegionWith
import Derived.Laws.DeepStrings4
import Derived.Deep.Slices
import Derived.SizedLaws
import Derived.Below
import Derived.Maps.OwnSet
import Derived.Maps.Keyed
import Derived.DeepKeys4
import Derived.Lib.QuietBelow
import Derived.StillTail
import Derived.Deep.RegionHeld3
import Derived.Laws.ResultCell
import Derived.Laws.CopyOwn
import Derived.RangeFuncNested
import Derived.RangeFuncBound
import Derived.RangeFuncCalls
import Derived.RangeFuncLeaves
import Derived.RangeFuncBox
import Derived.Shelf.Abstract
import Derived.Shelf.RegionOpen
import Derived.OwnWalkIn
import Derived.TacticsInMore
import Derived.LoopNIn
import Derived.LoopIn
import Derived.Laws.OwnMore
import Derived.Lib.MapLaws
import Derived.Sort.Walk0
import Derived.Test.YtkcjplgjidjmoaaDoorRows
import Derived.Test.YtkcjplgjidjmoaaDoorI01
import Derived.Test.YtkcjplgjidjmoaaDoorI02
import Derived.Test.YtkcjplgjidjmoaaDoorI03
import Derived.Test.YtkcjplgjidjmoaaDoorI04
import Derived.Test.YtkcjplgjidjmoaaDoorI05
import Derived.Test.YtkcjplgjidjmoaaDoorI06
import Derived.Test.YtkcjplgjidjmoaaDoorI07
import Derived.Test.YtkcjplgjidjmoaaDoorI08
import Derived.Test.YtkcjplgjidjmoaaDoorI09
import Derived.Test.YtkcjplgjidjmoaaDoorI10
import Derived.Test.YtkcjplgjidjmoaaDoorI11
import Derived.Test.YtkcjplgjidjmoaaDoorI12
import Derived.Test.YtkcjplgjidjmoaaDoorI13
import Derived.Test.YtkcjplgjidjmoaaDoorI14
set_option linter.unusedSimpArgs false
set_option linter.unusedVariables false
namespace Go.Proofs.YtkcjplgjidjmoaaDoor
open Go.RowKit Go.Lib Go.Sort Go.Maps Go.Shelf
attribute [local go_sem] Oper.semAt_some

theorem TbT.keeps {W W' : World} {p S : Nat} {ev mv ev' mv' : Value} {L L' : List Nd} (h : TbT W p ev mv ev' mv' L' W') (hM : TbM W p ev mv L) (hBm : ∀ Bm, mv = .map (some Bm) → Bm < S) : KeepsFrom S W W' :=
  ⟨h.tk.size, fun k o hk ho hc => (h.tk.same k (lt_of_block ho) (fun hs => by
    rcases hs with rfl | e | e
    · rw [hM.blk] at ho; cases ho; cases hc
    · obtain ⟨_, _, cap, cur, _, h4, _⟩ := rw_block hM.on e
      rw [h4] at ho; cases ho; cases hc
    · have := hBm k e; omega)).trans ho⟩
theorem YdL.put {L : List Nd} {b0 k l : Nat} {args : Array Value} {W : World} {o o' : Obj} (h : YdL L b0 k args W) (ho : W.heap[l]? = some o) (hc : o.isCells = false) : YdL L b0 k args (W.putObj l o') := by
  obtain ⟨ao, cap, h1, h2⟩ := h
  refine ⟨ao, cap, h1, rw_same h2 (fun b hb => World.putObj_heap_other (fun e => ?_))⟩
  obtain ⟨_, _, c, cur, _, h3, _⟩ := rw_block h2 hb
  subst e
  rw [ho] at h3; cases h3; cases hc
theorem YdL.below {L : List Nd} {b0 k : Nat} {args : Array Value} {W W' : World} (h : YdL L b0 k args W) (hb : Below W.heap.size W W') : YdL L b0 k args W' := by
  obtain ⟨ao, cap, h1, h2⟩ := h
  exact ⟨ao, cap, h1, h2.below hb⟩
/-- Between two rounds. -/
structure ItR (w V wz : World) (S q p B : Nat) (oa : Option Addr) (oc : Nat) (ol : List Nd) (cut : Int) (ev0 : Value) (L0 L1 : List Nd) (mv0 : Value) (k : Nat) (W : World) : Prop where
  n : W.heap[V.heap.size]? = some (.cells #[.int .i64 (k : Int)] 3 (0, 0))
  it : ItI w q p B oa oc ol cut ev0 L0 L1 mv0 W
  kf : KeepsFrom S V W
  sz : wz.heap.size ≤ W.heap.size
theorem kf_own {S : Nat} {V W W' : World} {B : Nat} {row : Option Nat} (h : KeepsFrom S V W) (hV : V.heap.size ≤ B) (hg : W.grownBy W' row) (hr : ∀ r, row = some r → B ≤ r) : KeepsFrom S V W' :=
  ⟨Nat.le_trans h.size hg.size, fun k o hk ho hc => by
    have h1 := h.same k o hk ho hc
    have h2 := lt_of_block ho
    exact (hg.block k (lt_of_block h1) (fun e => by have := hr k e.symm; omega)).trans h1⟩
theorem ItR.own {w V wz : World} {S q p B : Nat} {oa : Option Addr} {oc : Nat} {ol : List Nd} {cut : Int} {ev0 mv0 : Value} {L0 L1 : List Nd} (hw : w.heap.size ≤ wz.heap.size) (hV : V.heap.size ≤ wz.heap.size) (hBm : ∀ Bm, mv0 = .map (some Bm) → Bm < wz.heap.size) : OwnFrom wz.heap.size (ItR w V wz S q p B oa oc ol cut ev0 L0 L1 mv0) := fun k W W' row h hg hr =>
  ⟨blk_ownT h.n hg (fun r e => (hr r e).2), h.it.own hw hBm hg hr, kf_own h.kf hV hg (fun r e => (hr r e).1), Nat.le_trans h.sz hg.size⟩
/-- Left by break. -/
structure ItX (w V : World) (S q p B : Nat) (oa : Option Addr) (oc : Nat) (ol : List Nd) (cut : Int) (ev0 : Value) (L0 L1 : List Nd) (mv0 : Value) (c : Code) (k : Nat) (W : World) : Prop where
  ex : c = .exit 2
  n : W.heap[V.heap.size]? = some (.cells #[.int .i64 cut] 3 (0, 0))
  it : ItI w q p B oa oc ol cut ev0 L0 L1 mv0 W
  kf : KeepsFrom S V W
theorem ItX.own {w V wz : World} {S q p B : Nat} {oa : Option Addr} {oc : Nat} {ol : List Nd} {cut : Int} {ev0 mv0 : Value} {L0 L1 : List Nd} (hw : w.heap.size ≤ wz.heap.size) (hV : V.heap.size ≤ wz.heap.size) (hBm : ∀ Bm, mv0 = .map (some Bm) → Bm < wz.heap.size) (c : Code) : OwnFrom wz.heap.size (ItX w V S q p B oa oc ol cut ev0 L0 L1 mv0 c) := fun k W W' row h hg hr =>
  ⟨h.ex, blk_ownT h.n hg (fun r e => (hr r e).2), h.it.own hw hBm hg hr, kf_own h.kf hV hg (fun r e => (hr r e).1)⟩
theorem MksT.kf {w0 W W' : World} {ds : List Nat} {S : Nat} (h : MksT w0 W ds) (hk : KeepsFrom S W W') (hS : ∀ D ∈ ds, S ≤ D) : MksT w0 W' ds := ⟨h.nd, fun D hD => by
  obtain ⟨h1, h2, h3⟩ := h.at_ D hD
  have h4 := hk.same D _ (hS D hD) h3 rfl
  exact ⟨h1, lt_of_block h4, h4⟩⟩
theorem MksT.add {w0 W W' : World} {ds : List Nat} {S D : Nat} (h : MksT w0 W ds) (hk : KeepsFrom S W W') (hS : ∀ D ∈ ds, S ≤ D) (hD : W.heap.size ≤ D) (hw : w0.heap.size + 3 ≤ W.heap.size) (hd : W'.heap[D]? = some (.deferred (some []))) : MksT w0 W' (D :: ds) := by
  have h' := h.kf hk hS
  refine ⟨List.nodup_cons.2 ⟨fun hm => by have := (h.at_ D hm).2.1; omega, h.nd⟩, fun E hE => ?_⟩
  rcases List.mem_cons.1 hE with rfl | hE
  · exact ⟨by omega, lt_of_block hd, hd⟩
  · exact h'.at_ E hE
end Go.Proofs.YtkcjplgjidjmoaaDoor

set_option linter.unusedSimpArgs false
set_option linter.unusedVariables false
namespace Go.Proofs.YtkcjplgjidjmoaaDoor
open Go.RowKit Go.Lib

end Go.Proofs.YtkcjplgjidjmoaaDoor

namespace Go.Proofs.YtkcjplgjidjmoaaDoor
open Go.RowKit Go.Lib

theorem ndCells_setK (q : List (Nd × Value)) (i : Nat) (y : Nd) (kv : Value) (z : Nd) (h : q[i]? = some (y, kv)) (h1 : z.op = y.op) (h2 : z.n = y.n) (h3 : z.name = y.name) : ndCells (q.set i (z, kv)) = ndCells q := by
  induction q generalizing i with
  | nil => simp at h
  | cons a r ih =>
    obtain ⟨b, kb⟩ := a
    cases i with
    | zero =>
      simp at h
      obtain ⟨rfl, rfl⟩ := h
      simp [ndCells, h1, h2, h3]
    | succ i => simp [ndCells, ih i (by simpa using h)]
/-- One kid of one node is set. -/
theorem OwnP.setKid {w : World} {base : Nat} {x : Value} {q : List (Nd × Value)} (h : OwnP w base x q) (ha : KdAp q) {i j : Nat} {y : Nd} {g n cap : Nat} (hq : q[i]? = some (y, .slice (some ⟨g, 0, none⟩) n cap)) (hn : y.kids.length = n) (u : Int) :
    OwnP (w.setCell ⟨g, j, none⟩ (.int .i64 u)) base x (q.set i (⟨y.op, y.n, y.name, y.kids.set j u⟩, .slice (some ⟨g, 0, none⟩) n cap)) ∧ KdAp (q.set i (⟨y.op, y.n, y.name, y.kids.set j u⟩, .slice (some ⟨g, 0, none⟩) n cap)) := by
  have hm : (y, Value.slice (some ⟨g, 0, none⟩) n cap) ∈ q := List.mem_of_getElem? hq
  have hk := h.kids _ hm
  simp only at hk
  obtain ⟨hil, hqe⟩ := List.getElem?_eq_some_iff.1 hq
  have hp := List.pairwise_iff_getElem.1 ha
  have hoth : ∀ b, b ≠ g → (w.setCell ⟨g, j, none⟩ (.int .i64 u)).heap[b]? = w.heap[b]? := fun b hb => Deep.blk_setCell_other _ _ _ _ hb
  have hgt : ∃ cur, w.heap[g]? = some (.cells cur 3 (0, 0)) := by
    obtain ⟨_, _, _, cur, _, h3, _⟩ := rw_block hk (b := g) rfl
    exact ⟨cur, h3⟩
  obtain ⟨cur, hgc⟩ := hgt
  refine ⟨⟨?_, fun z hz => ?_⟩, ?_⟩
  · rw [ndCells_setK q i y _ ⟨y.op, y.n, y.name, y.kids.set j u⟩ hq rfl rfl rfl, List.length_set]
    exact rw_same h.row (fun b hb => hoth b (fun e => by
      subst e
      obtain ⟨_, _, _, cu, _, h3, _⟩ := rw_block h.row hb
      rw [h3] at hgc
      simp at hgc))
  · obtain ⟨k, hkl, rfl⟩ := List.mem_iff_getElem.1 hz
    have hkq : k < q.length := by rw [List.length_set] at hkl; exact hkl
    rw [List.getElem_set]
    split
    · rename_i hik
      simp only
      exact hk.putT hn j u
    · rename_i hik
      refine rw_same (h.kids _ (List.getElem_mem hkq)) (fun b hb => hoth b (fun e => ?_))
      subst e
      rcases Nat.lt_or_gt_of_ne hik with h1 | h1
      · exact hp i k hil hkq h1 b (by rw [hqe]; rfl) hb
      · exact hp k i hkq hil h1 b hb (by rw [hqe]; rfl)
  · unfold KdAp
    rw [List.pairwise_iff_getElem]
    intro a b hal hbl hab
    rw [List.length_set] at hal hbl
    rw [List.getElem_set, List.getElem_set]
    have h0 := hp a b hal hbl hab
    split
    · rename_i e1
      subst e1
      rw [if_neg (by omega)]
      rw [hqe] at h0
      exact h0
    · split
      · rename_i e1 e2
        subst e2
        rw [hqe] at h0
        exact h0
      · exact h0
/-- Kids of which the first k are moved down. -/
def dnK (a : Int) (ks : List Int) (k : Nat) : List Int := (ks.take k).map (fun q => q - a) ++ ks.drop k
theorem dnK_len (a : Int) (ks : List Int) (k : Nat) : (dnK a ks k).length = ks.length := by simp [dnK]; omega
theorem dnK_at (a : Int) (ks : List Int) {k : Nat} (hk : k < ks.length) : (dnK a ks k).getD k 0 = ks.getD k 0 := by
  unfold dnK
  rw [List.getD_eq_getElem?_getD, List.getElem?_append_right (by simp; omega), List.length_map, List.length_take, List.getElem?_drop]
  have : k + (k - min k ks.length) = k := by omega
  rw [this, List.getD_eq_getElem?_getD]
theorem dnK_set (a : Int) (ks : List Int) {k : Nat} (hk : k < ks.length) : (dnK a ks k).set k (ks.getD k 0 - a) = dnK a ks (k + 1) := by
  unfold dnK
  have e1 : ((ks.take k).map (fun q => q - a)).length = k := by simp; omega
  have e : (ks.drop k).set 0 (ks.getD k 0 - a) = (ks.getD k 0 - a) :: ks.drop (k + 1) := by rw [List.drop_eq_getElem_cons hk]; rfl
  rw [List.set_append_right _ _ (by omega), e1, Nat.sub_self, e, List.take_succ_eq_append_getElem hk, List.map_append]
  simp [hk]
/-- The nodes between two steps: i are moved, of the next one k kids. -/
def dnN (a : Int) (l : List Nd) (i k : Nat) : List Nd := (l.take i).map (mvN 0 (-a)) ++ (match l.drop i with | [] => [] | x :: r => ⟨x.op, x.n, x.name, dnK a x.kids k⟩ :: r)
theorem dnN_len (a : Int) (l : List Nd) (i k : Nat) (hi : i ≤ l.length) : (dnN a l i k).length = l.length := by
  unfold dnN
  cases h : l.drop i with
  | nil => have := congrArg List.length h; simp at this ⊢; omega
  | cons x r => have := congrArg List.length h; simp at this ⊢; omega
theorem dnN_split (a : Int) (l : List Nd) {i : Nat} (hi : i < l.length) (k : Nat) : dnN a l i k = (l.take i).map (mvN 0 (-a)) ++ ⟨(l.getD i nd0).op, (l.getD i nd0).n, (l.getD i nd0).name, dnK a (l.getD i nd0).kids k⟩ :: l.drop (i + 1) := by
  unfold dnN
  rw [List.drop_eq_getElem_cons hi]
  simp [hi]
theorem dnN_at (a : Int) (l : List Nd) {i : Nat} (hi : i < l.length) (k : Nat) : (dnN a l i k)[i]? = some ⟨(l.getD i nd0).op, (l.getD i nd0).n, (l.getD i nd0).name, dnK a (l.getD i nd0).kids k⟩ := by
  have e1 : ((l.take i).map (mvN 0 (-a))).length = i := by simp; omega
  rw [dnN_split a l hi, List.getElem?_append_right (by omega), e1, Nat.sub_self]
  rfl
theorem dnN_set (a : Int) (l : List Nd) {i : Nat} (hi : i < l.length) (k k' : Nat) : (dnN a l i k).set i ⟨(l.getD i nd0).op, (l.getD i nd0).n, (l.getD i nd0).name, dnK a (l.getD i nd0).kids k'⟩ = dnN a l i k' := by
  have e1 : ((l.take i).map (mvN 0 (-a))).length = i := by simp; omega
  rw [dnN_split a l hi, dnN_split a l hi, List.set_append_right _ _ (by omega), e1, Nat.sub_self]
  rfl
end Go.Proofs.YtkcjplgjidjmoaaDoor

set_option linter.unusedSimpArgs false
set_option linter.unusedVariables false
namespace Go.Proofs.YtkcjplgjidjmoaaDoor
open Go.RowKit Go.Lib

/-- Between two steps. -/
structure PoMid (w : World) (a : Int) (m : List Nd) (x : Value) (i k : Nat) (wr : World) : Prop where
  ex : ∃ q : List (Nd × Value), q.map (·.1) = dnN a m i k ∧ OwnP wr w.heap.size x q ∧ KdAp q
  below : Below w.heap.size w wr
theorem PoMid.drew {w wr : World} {a : Int} {m : List Nd} {x : Value} {i k : Nat} (h : PoMid w a m x i k wr) : PoMid w a m x i k wr.drew := by
  obtain ⟨q, hq1, hq2, hq3⟩ := h.ex
  exact ⟨⟨q, hq1, ⟨rw_same hq2.row (fun _ _ => rfl), fun y hy => rw_same (hq2.kids y hy) (fun _ _ => rfl)⟩, hq3⟩, h.below.trans ⟨rfl, rfl, rfl, Nat.le_refl _, fun _ _ => rfl⟩⟩
theorem PoMid.step {w wr : World} {a : Int} {m : List Nd} {x : Value} {i k : Nat} (h : PoMid w a m x i k wr) (hi : i < m.length) (hk : k < (m.getD i nd0).kids.length) {rb rc : Nat} (hx : x = .slice (some ⟨rb, 0, none⟩) m.length rc) :
    ∃ g cap, wr.cell? ⟨rb, i * 4 + 3, none⟩ = some (.slice (some ⟨g, 0, none⟩) (m.getD i nd0).kids.length cap) ∧ (m.getD i nd0).kids.length ≤ cap ∧ cap ≤ maxLen ∧ wr.cell? ⟨g, k, none⟩ = some (.int .i64 ((m.getD i nd0).kids.getD k 0)) ∧ wr.frozen? ⟨g, k, none⟩ = false ∧ g ≠ rb ∧
      PoMid w a m x i (k + 1) (wr.setCell ⟨g, k, none⟩ (.int .i64 ((m.getD i nd0).kids.getD k 0 - a))) := by
  obtain ⟨q, hq1, hq2, hq3⟩ := h.ex
  have hql : q.length = m.length := by
    have := congrArg List.length hq1
    rw [List.length_map, dnN_len _ _ _ _ (by omega)] at this
    exact this
  have hiq : i < q.length := by omega
  have hat : q[i].1 = ⟨(m.getD i nd0).op, (m.getD i nd0).n, (m.getD i nd0).name, dnK a (m.getD i nd0).kids k⟩ := by
    have h1 := dnN_at a m hi k
    rw [← hq1, List.getElem?_map, List.getElem?_eq_getElem hiq] at h1
    simpa using h1
  have hkd := hq2.kids _ (List.getElem_mem hiq)
  have hlk : q[i].1.kids.length = (m.getD i nd0).kids.length := by rw [hat]; exact dnK_len _ _ _
  obtain ⟨g, cap, hkv, hg1, hg2⟩ := rw_some (show wr.ownsRow w.heap.size 3 1 q[i].2 q[i].1.kids.length _ from hkd) (by omega)
  rw [hlk] at hkv
  have hqi : q[i]? = some (q[i].1, .slice (some ⟨g, 0, none⟩) (m.getD i nd0).kids.length cap) := by rw [List.getElem?_eq_getElem hiq, ← hkv]
  subst hx
  have hrow := hq2.row
  rw [hql] at hrow
  have hc3 : wr.cell? ⟨rb, i * 4 + 3, none⟩ = some (.slice (some ⟨g, 0, none⟩) (m.getD i nd0).kids.length cap) := by
    obtain ⟨_, _, _, a3⟩ := ndCells_at q i _ _ hqi
    obtain ⟨u, h1, h2⟩ := rw_cell hrow (i := i * 4 + 3) (by omega)
    rw [h1, ← h2, a3]
  rw [hkv] at hkd
  have hkc := hkd.cellT hlk (i := k) hk
  have hkf := hkd.frT hlk k
  have e4 : q[i].1.kids.getD k 0 = (m.getD i nd0).kids.getD k 0 := by rw [hat]; exact dnK_at a _ hk
  rw [e4] at hkc
  have hst := hq2.setKid hq3 (j := k) hqi hlk ((m.getD i nd0).kids.getD k 0 - a)
  have hcap : (m.getD i nd0).kids.length ≤ cap ∧ cap ≤ maxLen := by
    have h6 := hkd.2
    rcases h6 with ⟨h7, _⟩ | ⟨g', cap', cur, h7, _, _, h8, h9, _⟩
    · cases h7
    · injection h7 with _ _ h7c
      subst h7c
      rw [hlk] at h8; exact ⟨h8, h9⟩
  have hgr : g ≠ rb := fun e => by
    subst e
    obtain ⟨_, _, _, c1, _, h7, _⟩ := rw_block hkd (b := g) rfl
    obtain ⟨_, _, _, c2, _, h8, _⟩ := rw_block hrow (b := g) rfl
    rw [h7] at h8; simp at h8
  refine ⟨g, cap, hc3, hcap.1, hcap.2, hkc, hkf, hgr, ⟨⟨_, ?_, hst.1, hst.2⟩, h.below.setCell (p := ⟨g, k, none⟩) hg1 _⟩⟩
  rw [List.map_set, hq1, hat]
  simp only
  rw [dnK_set a _ hk]
  exact dnN_set a m hi k (k + 1)
end Go.Proofs.YtkcjplgjidjmoaaDoor

set_option linter.unusedSimpArgs false
set_option linter.unusedVariables false
namespace Go.Proofs.YtkcjplgjidjmoaaDoor
open Go.RowKit Go.Lib

/-- Copy, all of its memory young. -/
theorem copy_ownB (w : World) (ao : Option Addr) (cap : Nat) (l : List Nd) (hR : Rd w ao cap l) (hF : FitX l) :
    Calls Tryd.prog 9 #[.slice ao l.length cap] w fun e w' => ∃ v', e = .returned v' ∧ OwnN w' w.heap.size v' l ∧ Below w.heap.size w w' :=
  copy_any _ l w _ (Nat.le_refl _) hR (by have := hF.len; omega) (fun x hx => by have := hF.kids x hx; omega)

end Go.Proofs.YtkcjplgjidjmoaaDoor

set_option linter.unusedSimpArgs false
set_option linter.unusedVariables false
namespace Go.Proofs.YtkcjplgjidjmoaaDoor
open Go.RowKit Go.Lib Go.Sort Go.Maps Go.Shelf

theorem ndEq_self (x : Nd) : ndEq x x = true := by simp [ndEq]
theorem keepsFrom_up {B B' : Nat} {X Y : World} (h : KeepsFrom B X Y) (hb : B ≤ B') : KeepsFrom B' X Y := ⟨h.size, fun i o hi ho hc => h.same i o (by omega) ho hc⟩
/-- In a round. -/
structure ItM (w V wz W : World) (S q p B xb : Nat) (oa : Option Addr) (oc : Nat) (ol : List Nd) (cut : Int) (ev0 : Value) (L0 L1 : List Nd) (mv0 : Value) (k : Nat) (x : Nd) (xo : Option Addr) (xc : Nat) (Wr : World) : Prop where
  n : Wr.heap[V.heap.size]? = some (.cells #[.int .i64 (k : Int)] 3 (0, 0))
  it : ItI w q p B oa oc ol cut ev0 L0 L1 mv0 Wr
  kf : KeepsFrom S W Wr
  kp : KpL B ev0 L0.length W Wr
  xat : Wr.heap[xb]? = some (.cells #[.int .i64 x.op, .int .i64 x.n, .string x.name, .slice xo x.kids.length xc] 47 (0, 0))
  row : ∃ ks : List Int, ks.length = x.kids.length ∧ OwnI Wr wz.heap.size (.slice xo x.kids.length xc) ks
section
variable {w V wz W : World} {S q p B xb : Nat} {oa : Option Addr} {oc : Nat} {ol : List Nd} {cut : Int} {ev0 : Value} {L0 L1 : List Nd} {mv0 : Value} {k : Nat} {x : Nd} {xo : Option Addr} {xc : Nat} {Wr Wr' : World}
theorem ItM.below (h : ItM w V wz W S q p B xb oa oc ol cut ev0 L0 L1 mv0 k x xo xc Wr) (hb : Below Wr.heap.size Wr Wr') : ItM w V wz W S q p B xb oa oc ol cut ev0 L0 L1 mv0 k x xo xc Wr' := by
  obtain ⟨ks, h1, h2⟩ := h.row
  exact ⟨(hb.block _ (lt_of_block h.n)).trans h.n, h.it.below hb, h.kf.trans ((ko_belowT hb).from _), h.kp.trans (KpL.below hb), (hb.block _ (lt_of_block h.xat)).trans h.xat, ks, h1, h2.below hb⟩
theorem ItM.put {g i : Nat} {u : Int} (h : ItM w V wz W S q p B xb oa oc ol cut ev0 L0 L1 mv0 k x (some ⟨g, 0, none⟩) xc Wr) (hV : V.heap.size < wz.heap.size) (hw : w.heap.size + 3 ≤ wz.heap.size) (hq : q < wz.heap.size) (hB : B < wz.heap.size) (hg : ∀ g, ev0.ownBlock = some g → g < wz.heap.size) : ItM w V wz W S q p B xb oa oc ol cut ev0 L0 L1 mv0 k x (some ⟨g, 0, none⟩) xc (Wr.setCell ⟨g, i, none⟩ (.int .i64 u)) := by
  obtain ⟨ks, h1, h2⟩ := h.row
  obtain ⟨g1, g2, cp, cur, e1, hc, _⟩ := rw_block h2 (b := g) rfl
  have hxg : xb ≠ g := fun e => by
    have h3 := h.xat
    rw [e, hc] at h3
    injection h3 with h3
    injection h3 with _ h4 _
    exact absurd h4 (by decide)
  refine ⟨(Deep.blk_setCell_other _ _ _ _ (by show V.heap.size ≠ g; omega)).trans h.n, h.it.set hc (by decide) (by decide) (by omega) (by omega) (by omega) (fun g' e => by have := hg g' e; omega), h.kf.trans ((KeepsOthers.setCell _ _ _).from _), h.kp.trans (KpL.set (by omega) (fun g' e => by have := hg g' e; omega)), (Deep.blk_setCell_other _ _ _ _ (by show xb ≠ g; exact hxg)).trans h.xat, ks.set i u, by simpa using h1, ?_⟩
  exact OwnI.putT h2 h1 i u
end
end Go.Proofs.YtkcjplgjidjmoaaDoor
