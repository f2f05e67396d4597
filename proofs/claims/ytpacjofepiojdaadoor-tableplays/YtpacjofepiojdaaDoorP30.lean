/-
  TbJ, TbJ2, TbPk, TbOp.
-/
import Derived.Test.YtpacjofepiojdaaDoorChecked
import GoSem.PinnedTables
import GoSem.Claim
import GoSem.ClaimJoined
import GoSem.ClaimMapViews
import Derived.JoinedTies
import Derived.KernelRfl
import Derived.Shelf.Unicode.DecodeSlow
import Derived.Laws.RangeAny
import Derived.Shelf.Small.Bits
import Derived.Shelf.Strconv.Itoa0
import Derived.Shelf.LaysM
import Derived.Shelf.Strconv.Clone
import Derived.Shelf.Unicode.DecodeAny
import Derived.Shelf.Slices.CompactS
import Derived.Ground.SlsfProg
import Derived.Shelf.SlSortCmp.Insertion
import Derived.Shelf.SlSortCmp.SiftDown1
import Derived.Shelf.SlSortCmp.HeapSort1
import Derived.Shelf.SlSortCmp.Insertion1
import Derived.Shelf.SlSortCmp.Median1
import Derived.Shelf.SlSortCmp.Pivot1
import Derived.Shelf.SlSortCmp.ReverseRange1
import Derived.Shelf.SlSortCmp.PartialInsertion1
import Derived.Shelf.SlSortCmp.PartitionEqual1
import Derived.Shelf.SlSortCmp.Partition1
import Derived.Shelf.SlSortCmp.Pdq1
import Derived.Shelf.SlSortCmp.Whole1
import Derived.Test.YtpacjofepiojdaaDoorProg
import Derived.WalkKit
import Derived.Deep.DeepFit
import Derived.Lib.OthersKept
import Derived.Lib.RuneCountTail
import Derived.Lib.LaidU8
import Derived.MakeChecks
import Derived.ProofKit
import Derived.OpenShut
import Derived.Deep.DeepHandedRow
import Derived.Deep.AppendLies
import Derived.Deep.OwnRows
import Derived.Laws.AppendOwnNone
import Derived.Deep.QuietTactic
import Derived.BigQuiet
import Derived.Deep.RegionWith
import Derived.Laws.DeepStrings4
import Derived.Below
import Derived.Maps.OwnSet
import Derived.Maps.Keyed
import Derived.DeepKeys4
import Derived.Lib.QuietBelow
import Derived.StillTail
import Derived.Deep.RegionHeld3
import Derived.Laws.ResultCell
import Derived.Laws.CopyOwn
import Derived.Deep.RegionLaw
import Derived.Laws.OwnMore
import Derived.Lib.MapLaws
import Derived.Sort.Walk0
import Derived.Deep.Slices
import Derived.SizedLaws
import Derived.Lib.SliceRun
import Derived.RangeFuncNested
import Derived.RangeFuncBound
import Derived.RangeFuncCalls
import Derived.RangeFuncLeaves
import Derived.RangeFuncBox
import Derived.Shelf.Abstract
import Derived.Shelf.RegionOpen
import Derived.OwnWalkIn
import Derived.TacticsInMore
import Derived.LoopNIn
import Derived.LoopIn
import Derived.OrdersIn
import Derived.Test.YtpacjofepiojdaaDoorRows
import Derived.Test.YtpacjofepiojdaaDoorP01
import Derived.Test.YtpacjofepiojdaaDoorP02
import Derived.Test.YtpacjofepiojdaaDoorP03
import Derived.Test.YtpacjofepiojdaaDoorP04
import Derived.Test.YtpacjofepiojdaaDoorP05
import Derived.Test.YtpacjofepiojdaaDoorP06
import Derived.Test.YtpacjofepiojdaaDoorP07
import Derived.Test.YtpacjofepiojdaaDoorP08
import Derived.Test.YtpacjofepiojdaaDoorP09
import Derived.Test.YtpacjofepiojdaaDoorP10
import Derived.Test.YtpacjofepiojdaaDoorP11
import Derived.Test.YtpacjofepiojdaaDoorP12
import Derived.Test.YtpacjofepiojdaaDoorP13
import Derived.Test.YtpacjofepiojdaaDoorP14
import Derived.Test.YtpacjofepiojdaaDoorP15
import Derived.Test.YtpacjofepiojdaaDoorP16
import Derived.Test.YtpacjofepiojdaaDoorP17
import Derived.Test.YtpacjofepiojdaaDoorP18
import Derived.Test.YtpacjofepiojdaaDoorP19
import Derived.Test.YtpacjofepiojdaaDoorP20
import Derived.Test.YtpacjofepiojdaaDoorP21
import Derived.Test.YtpacjofepiojdaaDoorP22
import Derived.Test.YtpacjofepiojdaaDoorP23
import Derived.Test.YtpacjofepiojdaaDoorP24
import Derived.Test.YtpacjofepiojdaaDoorP25
import Derived.Test.YtpacjofepiojdaaDoorP26
import Derived.Test.YtpacjofepiojdaaDoorP27
import Derived.Test.YtpacjofepiojdaaDoorP28
import Derived.Test.YtpacjofepiojdaaDoorP29
set_option linter.unusedSimpArgs false
set_option linter.unusedVariables false
namespace Go.Proofs.YtpacjofepiojdaaDoor
open Go.RowKit Go.Lib Go.Sort Go.Maps Go.Shelf
attribute [local go_sem] Oper.semAt_some

/-- Added twice is added once. -/
theorem adP_pre {L l : List Nd} (hI : TbI L) (hr : L.length + 64 ≤ 1048576) : (∃ M, (adP L l).2.2 = L ++ M) ∧ TbI (adP L l).2.2 ∧ (adP L l).2.2.length ≤ L.length + 64 ∧ (adP (adP L l).2.2 l).2.2 = (adP L l).2.2 := by
  have h64 := adP_len (l := l) hI hr
  cases hb : begL l with
  | none =>
    rw [adP_bad hb]
    refine ⟨⟨[], by simp⟩, hI, by simp, ?_⟩
    simp only
    rw [adP_bad hb]
  | some fr =>
    obtain ⟨ids, L', h1, h2⟩ := adP_snd hI hb hr
    rw [h2] at h64 ⊢
    obtain ⟨M, h3, _⟩ := h1.pre
    refine ⟨⟨M, h3⟩, h1.inv, h64.1, ?_⟩
    simp only
    rw [adP_fnd h1.inv hb h1.fnd]
theorem TbM.lenV {w : World} {p : Nat} {ev mv : Value} {L : List Nd} (h : TbM w p ev mv L) : lenV ev = L.length := by
  obtain ⟨ao, cap, rfl⟩ := h.form
  rfl
/-- A block of cells of another type is none of the table's. -/
theorem TbM.apart {w : World} {p b : Nat} {ev mv : Value} {L : List Nd} {c : Array Value} {T : TypeId} {f : Nat × Nat} (h : TbM w p ev mv L) (hb : w.heap[b]? = some (.cells c T f)) (h1 : T ≠ 104) (h2 : T ≠ 118) : ¬ TbS p ev mv b := by
  rintro (rfl | e | e)
  · rw [h.blk] at hb; cases hb; exact h1 rfl
  · obtain ⟨_, _, cap, cur, _, h3, _⟩ := rw_block h.on e
    rw [h3] at hb; cases hb; exact h2 rfl
  · rcases h.ids with ⟨h3, _⟩ | ⟨B, h3, _, h4⟩
    · rw [h3] at e; cases e
    · rw [h3] at e; cases e
      obtain ⟨es, cc, h5⟩ := h4.obj
      rw [h5] at hb; cases hb
theorem TbM.setFar {w : World} {p b o : Nat} {ev mv u : Value} {L : List Nd} {c : Array Value} {T : TypeId} {f : Nat × Nat} (h : TbM w p ev mv L) (hb : w.heap[b]? = some (.cells c T f)) (h1 : T ≠ 104) (h2 : T ≠ 118) : TbM (w.setCell ⟨b, o, none⟩ u) p ev mv L :=
  h.same fun k _ hk => Deep.blk_setCell_other _ _ _ _ (fun e => h.apart hb h1 h2 (by rw [← show k = b from e]; exact hk))
/-- What a call on the table leaves of what the function holds. -/
theorem TbT.kpl {W W' : World} {p B : Nat} {ev mv ev' mv' ev0 : Value} {L L' L0 : List Nd} (h : TbT W p ev mv ev' mv' L' W') (hM : TbM W p ev mv L) (hA : AlAt W B ev0 L0) (hg : ∀ g, ev0.ownBlock = some g → p < g) (hl : L0.length ≤ L.length) : KpL B ev0 L0.length W W' := by
  refine ⟨h.tk.size, fun o ho => ?_, fun g e j u hj hu => ?_⟩
  · rw [hA.blk] at ho
    cases ho
    exact (h.tk.same B (lt_of_block hA.blk) (hM.apart hA.blk (by decide) (by decide))).trans hA.blk
  · by_cases he : ev.ownBlock = some g
    · exact h.st g he (hg g e) j u (by rw [hM.lenV]; exact Nat.lt_of_lt_of_le hj (Nat.mul_le_mul_right 7 hl)) hu
    · have hne : ¬ TbS p ev mv g := by
        rintro (e1 | e1 | e1)
        · have := hg g e; omega
        · exact he e1
        · rcases hM.ids with ⟨h3, _⟩ | ⟨B', h3, _, h4⟩
          · rw [h3] at e1; cases e1
          · rw [h3] at e1; cases e1
            obtain ⟨es, cc, h5⟩ := h4.obj
            simp [World.cell?, h5] at hu
      have h2 := h.tk.same g (cell_lt hu) hne
      simp only [World.cell?] at hu ⊢
      rw [h2]
      exact hu
theorem KpL.set {W : World} {B b o n : Nat} {ev u : Value} (hB : B ≠ b) (hg : ∀ g, ev.ownBlock = some g → g ≠ b) : KpL B ev n W (W.setCell ⟨b, o, none⟩ u) :=
  ⟨by simp, fun o' h => (Deep.blk_setCell_other _ _ _ _ (by show B ≠ b; exact hB)).trans h, fun g e j u' _ h => by
    have h1 := Deep.blk_setCell_other W ⟨b, o, none⟩ u g (by show g ≠ b; exact hg g e)
    simp only [World.cell?] at h ⊢
    rw [h1]
    exact h⟩

/-- What stays. -/
structure ItI (w : World) (q p B : Nat) (oa : Option Addr) (oc : Nat) (ol : List Nd) (cut : Int) (ev0 : Value) (L0 L1 : List Nd) (mv0 : Value) (V : World) : Prop where
  b4 : V.heap[w.heap.size]? = some (.cells #[.slice oa ol.length oc] 22 (0, 0))
  b5 : V.heap[w.heap.size + 1]? = some (.cells #[.int .i64 cut] 3 (0, 0))
  b6 : V.heap[w.heap.size + 1 + 1]? = some (.cells #[.bool false] 4 (0, 0))
  b7 : V.heap[q]? = some (.cells #[.pointer (some ⟨p, 0, none⟩)] 55 (0, 0))
  al : AlAt V B ev0 L0
  tb : ∃ ev L', TbM V p ev mv0 L' ∧ (L' = L0 ∨ L' = L1)
  be : Below w.heap.size w V
theorem ItI.below {w V V' : World} {q p B : Nat} {oa : Option Addr} {oc : Nat} {ol : List Nd} {cut : Int} {ev0 : Value} {L0 L1 : List Nd} {mv0 : Value} (h : ItI w q p B oa oc ol cut ev0 L0 L1 mv0 V) (hb : Below V.heap.size V V') : ItI w q p B oa oc ol cut ev0 L0 L1 mv0 V' := by
  obtain ⟨ev, L', h1, h2⟩ := h.tb
  exact ⟨(hb.block _ (lt_of_block h.b4)).trans h.b4, (hb.block _ (lt_of_block h.b5)).trans h.b5, (hb.block _ (lt_of_block h.b6)).trans h.b6, (hb.block _ (lt_of_block h.b7)).trans h.b7, h.al.below hb, ⟨ev, L', h1.below hb, h2⟩, h.be.trans (hb.mono h.be.size)⟩
theorem ItI.set {w V : World} {q p B b o : Nat} {u : Value} {oa : Option Addr} {oc : Nat} {ol : List Nd} {cut : Int} {ev0 : Value} {L0 L1 : List Nd} {mv0 : Value} {c : Array Value} {T : TypeId} {f : Nat × Nat} (h : ItI w q p B oa oc ol cut ev0 L0 L1 mv0 V) (hb : V.heap[b]? = some (.cells c T f)) (h1 : T ≠ 104) (h2 : T ≠ 118) (hw : w.heap.size + 3 ≤ b) (hq : q < b) (hB : B < b) (hg : ∀ g, ev0.ownBlock = some g → g < b) : ItI w q p B oa oc ol cut ev0 L0 L1 mv0 (V.setCell ⟨b, o, none⟩ u) := by
  obtain ⟨ev, L', h3, h4⟩ := h.tb
  have k : ∀ k, k < b → (V.setCell ⟨b, o, none⟩ u).heap[k]? = V.heap[k]? := fun k hk => Deep.blk_setCell_other _ _ _ _ (by show k ≠ b; omega)
  exact ⟨(k _ (by omega)).trans h.b4, (k _ (by omega)).trans h.b5, (k _ (by omega)).trans h.b6, (k _ hq).trans h.b7, h.al.kp (KpL.set (by omega) (fun g e => by have := hg g e; omega)), ⟨ev, L', h3.setFar hb h1 h2, h4⟩, h.be.setCell (p := ⟨b, o, none⟩) (by show w.heap.size ≤ b; omega) _⟩
/-- A further Add. -/
theorem ItI.add {w V V' : World} {q p B : Nat} {oa : Option Addr} {oc : Nat} {ol : List Nd} {cut : Int} {ev0 ev ev' mv' : Value} {L0 L' : List Nd} {mv0 : Value} (h : ItI w q p B oa oc ol cut ev0 L0 (adP L0 ol).2.2 mv0 V) (hM : TbM V p ev mv0 L') (hL : L' = L0 ∨ L' = (adP L0 ol).2.2) (hm : ∃ Bm, mv0 = .map (some Bm)) (ht : TbT V p ev mv0 ev' mv' (adP L' ol).2.2 V') (hI : TbI L0) (hr : L0.length + 128 ≤ 1048576) (hp : w.heap.size + 3 ≤ p) (hg : ∀ g, ev0.ownBlock = some g → p < g) :
    ItI w q p B oa oc ol cut ev0 L0 (adP L0 ol).2.2 mv0 V' ∧ KpL B ev0 L0.length V V' := by
  obtain ⟨⟨M, hp1⟩, _, _, hp2⟩ := adP_pre (l := ol) hI (by omega)
  have hl : L0.length ≤ L'.length := by
    rcases hL with rfl | e
    · exact Nat.le_refl _
    · rw [e, hp1]; simp
  have hk := ht.kpl hM h.al hg hl
  have hT' : TbM V' p ev' mv0 (adP L' ol).2.2 := by
    obtain ⟨Bm, rfl⟩ := hm
    have := ht.tb
    rw [ht.mp Bm rfl] at this
    exact this
  have k : ∀ (b : Nat) (c : Array Value) (T : TypeId) (f : Nat × Nat), V.heap[b]? = some (.cells c T f) → T ≠ 104 → T ≠ 118 → V'.heap[b]? = some (.cells c T f) := fun b c T f hb h1 h2 => (ht.tk.same b (lt_of_block hb) (hM.apart hb h1 h2)).trans hb
  refine ⟨⟨k _ _ _ _ h.b4 (by decide) (by decide), k _ _ _ _ h.b5 (by decide) (by decide), k _ _ _ _ h.b6 (by decide) (by decide), k _ _ _ _ h.b7 (by decide) (by decide), h.al.kp hk, ⟨ev', _, hT', .inr ?_⟩, h.be.trans ((ht.below hM).mono (by omega))⟩, hk⟩
  rcases hL with rfl | e
  · rfl
  · rw [e]; exact hp2
/-- What the range's own blocks turn is not ours. -/
theorem ItI.own {w W W' : World} {q p B S : Nat} {oa : Option Addr} {oc : Nat} {ol : List Nd} {cut : Int} {ev0 mv0 : Value} {L0 L1 : List Nd} {row : Option Nat} (h : ItI w q p B oa oc ol cut ev0 L0 L1 mv0 W) (hw : w.heap.size ≤ S) (hBm : ∀ Bm, mv0 = .map (some Bm) → Bm < S) (hg : W.grownBy W' row) (hr : ∀ r, row = some r → S ≤ r ∧ ∃ o : Obj, W.heap[r]? = some o ∧ o.isCells = false) : ItI w q p B oa oc ol cut ev0 L0 L1 mv0 W' := by
  have hr' : ∀ r, row = some r → ∃ o : Obj, W.heap[r]? = some o ∧ o.isCells = false := fun r e => (hr r e).2
  obtain ⟨ev, L', h1, h2⟩ := h.tb
  refine ⟨blk_ownT h.b4 hg hr', blk_ownT h.b5 hg hr', blk_ownT h.b6 hg hr', blk_ownT h.b7 hg hr', h.al.kp ⟨hg.size, fun o ho => ?_, fun g e j u hj hu => ?_⟩, ⟨ev, L', h1.same fun b hb hs => hg.block b hb (fun e => ?_), h2⟩, h.be.grown hg h.be.size (fun r e => by have := (hr r e).1; omega)⟩
  · rw [h.al.blk] at ho
    cases ho
    exact blk_ownT h.al.blk hg hr'
  · have hb := hg.block g (cell_lt hu) (fun e' => by
      obtain ⟨o, ho, hc⟩ := hr' g e'.symm
      cases o <;> first | (simp [World.cell?, ho] at hu; done) | (cases hc; done))
    simp only [World.cell?] at hu ⊢
    rw [hb]
    exact hu
  · obtain ⟨h3, o, ho, hc⟩ := hr b e.symm
    rcases hs with rfl | e1 | e1
    · rw [h1.blk] at ho; cases ho; cases hc
    · obtain ⟨_, _, cap, cur, _, h4, _⟩ := rw_block h1.on e1
      rw [h4] at ho; cases ho; cases hc
    · have := hBm b e1; omega
end Go.Proofs.YtpacjofepiojdaaDoor

set_option linter.unusedSimpArgs false
set_option linter.unusedVariables false
namespace Go.Proofs.YtpacjofepiojdaaDoor
open Go.RowKit Go.Lib Go.Sort Go.Maps Go.Shelf
attribute [local go_sem] Oper.semAt_some

theorem YdL.put {L : List Nd} {b0 k l : Nat} {args : Array Value} {W : World} {o o' : Obj} (h : YdL L b0 k args W) (ho : W.heap[l]? = some o) (hc : o.isCells = false) : YdL L b0 k args (W.putObj l o') := by
  obtain ⟨ao, cap, h1, h2⟩ := h
  refine ⟨ao, cap, h1, rw_same h2 (fun b hb => World.putObj_heap_other (fun e => ?_))⟩
  obtain ⟨_, _, c, cur, _, h3, _⟩ := rw_block h2 hb
  subst e
  rw [ho] at h3; cases h3; cases hc
theorem YdL.below {L : List Nd} {b0 k : Nat} {args : Array Value} {W W' : World} (h : YdL L b0 k args W) (hb : Below W.heap.size W W') : YdL L b0 k args W' := by
  obtain ⟨ao, cap, h1, h2⟩ := h
  exact ⟨ao, cap, h1, h2.below hb⟩
/-- Between two rounds. -/
structure ItR (w V wz : World) (S q p B : Nat) (oa : Option Addr) (oc : Nat) (ol : List Nd) (cut : Int) (ev0 : Value) (L0 L1 : List Nd) (mv0 : Value) (k : Nat) (W : World) : Prop where
  n : W.heap[V.heap.size]? = some (.cells #[.int .i64 (k : Int)] 3 (0, 0))
  it : ItI w q p B oa oc ol cut ev0 L0 L1 mv0 W
  kf : KeepsFrom S V W
  sz : wz.heap.size ≤ W.heap.size
theorem kf_own {S : Nat} {V W W' : World} {B : Nat} {row : Option Nat} (h : KeepsFrom S V W) (hV : V.heap.size ≤ B) (hg : W.grownBy W' row) (hr : ∀ r, row = some r → B ≤ r) : KeepsFrom S V W' :=
  ⟨Nat.le_trans h.size hg.size, fun k o hk ho hc => by
    have h1 := h.same k o hk ho hc
    have h2 := lt_of_block ho
    exact (hg.block k (lt_of_block h1) (fun e => by have := hr k e.symm; omega)).trans h1⟩
theorem ItR.own {w V wz : World} {S q p B : Nat} {oa : Option Addr} {oc : Nat} {ol : List Nd} {cut : Int} {ev0 mv0 : Value} {L0 L1 : List Nd} (hw : w.heap.size ≤ wz.heap.size) (hV : V.heap.size ≤ wz.heap.size) (hBm : ∀ Bm, mv0 = .map (some Bm) → Bm < wz.heap.size) : OwnFrom wz.heap.size (ItR w V wz S q p B oa oc ol cut ev0 L0 L1 mv0) := fun k W W' row h hg hr =>
  ⟨blk_ownT h.n hg (fun r e => (hr r e).2), h.it.own hw hBm hg hr, kf_own h.kf hV hg (fun r e => (hr r e).1), Nat.le_trans h.sz hg.size⟩
/-- Left by break. -/
structure ItX (w V : World) (S q p B : Nat) (oa : Option Addr) (oc : Nat) (ol : List Nd) (cut : Int) (ev0 : Value) (L0 L1 : List Nd) (mv0 : Value) (c : Code) (k : Nat) (W : World) : Prop where
  ex : c = .exit 2
  n : W.heap[V.heap.size]? = some (.cells #[.int .i64 cut] 3 (0, 0))
  it : ItI w q p B oa oc ol cut ev0 L0 L1 mv0 W
  kf : KeepsFrom S V W
theorem ItX.own {w V wz : World} {S q p B : Nat} {oa : Option Addr} {oc : Nat} {ol : List Nd} {cut : Int} {ev0 mv0 : Value} {L0 L1 : List Nd} (hw : w.heap.size ≤ wz.heap.size) (hV : V.heap.size ≤ wz.heap.size) (hBm : ∀ Bm, mv0 = .map (some Bm) → Bm < wz.heap.size) (c : Code) : OwnFrom wz.heap.size (ItX w V S q p B oa oc ol cut ev0 L0 L1 mv0 c) := fun k W W' row h hg hr =>
  ⟨h.ex, blk_ownT h.n hg (fun r e => (hr r e).2), h.it.own hw hBm hg hr, kf_own h.kf hV hg (fun r e => (hr r e).1)⟩
theorem MksT.kf {w0 W W' : World} {ds : List Nat} {S : Nat} (h : MksT w0 W ds) (hk : KeepsFrom S W W') (hS : ∀ D ∈ ds, S ≤ D) : MksT w0 W' ds := ⟨h.nd, fun D hD => by
  obtain ⟨h1, h2, h3⟩ := h.at_ D hD
  have h4 := hk.same D _ (hS D hD) h3 rfl
  exact ⟨h1, lt_of_block h4, h4⟩⟩
theorem MksT.add {w0 W W' : World} {ds : List Nat} {S D : Nat} (h : MksT w0 W ds) (hk : KeepsFrom S W W') (hS : ∀ D ∈ ds, S ≤ D) (hD : W.heap.size ≤ D) (hw : w0.heap.size + 3 ≤ W.heap.size) (hd : W'.heap[D]? = some (.deferred (some []))) : MksT w0 W' (D :: ds) := by
  have h' := h.kf hk hS
  refine ⟨List.nodup_cons.2 ⟨fun hm => by have := (h.at_ D hm).2.1; omega, h.nd⟩, fun E hE => ?_⟩
  rcases List.mem_cons.1 hE with rfl | hE
  · exact ⟨by omega, lt_of_block hd, hd⟩
  · exact h'.at_ E hE
end Go.Proofs.YtpacjofepiojdaaDoor

set_option linter.unusedSimpArgs false
set_option linter.unusedVariables false
namespace Go.Proofs.YtpacjofepiojdaaDoor
open Go.RowKit Go.Lib Go.Sort Go.Maps Go.Shelf
attribute [local go_sem] Oper.semAt_some

def op0 : OpT := ⟨0, 0, nd0, []⟩
/-- A script, read. -/
def Scr (w : World) (ao : Option Addr) (cap : Nat) (l : List OpT) : Prop :=
  l.length ≤ cap ∧ cap ≤ maxLen ∧ (l = [] ∨ ∃ b o, ao = some ⟨b, o, none⟩ ∧ b < w.heap.size ∧ ∀ i, i < l.length → ∃ ka kc ea ec, (w.cell? ⟨b, o + i * 7, none⟩ = some (.int .i64 (l.getD i op0).kind) ∧ w.cell? ⟨b, o + i * 7 + 1, none⟩ = some (.int .i64 (l.getD i op0).id) ∧ w.cell? ⟨b, o + i * 7 + 2, none⟩ = some (.int .i64 (l.getD i op0).x.op) ∧ w.cell? ⟨b, o + i * 7 + 3, none⟩ = some (.int .i64 (l.getD i op0).x.n) ∧ w.cell? ⟨b, o + i * 7 + 4, none⟩ = some (.string (l.getD i op0).x.name) ∧ w.cell? ⟨b, o + i * 7 + 5, none⟩ = some (.slice ka (l.getD i op0).x.kids.length kc) ∧ w.cell? ⟨b, o + i * 7 + 6, none⟩ = some (.slice ea (l.getD i op0).e.length ec)) ∧ OpA w (l.getD i op0) ka kc ea ec)
theorem OpA.below {w W : World} {o : OpT} {ka : Option Addr} {kc : Nat} {ea : Option Addr} {ec : Nat} (h : OpA w o ka kc ea ec) (hb : Below w.heap.size w W) : OpA W o ka kc ea ec := ⟨h.ki.below hb hb.size, h.en.below hb hb.size, h.n6, h.nm, h.kl, h.ft⟩
theorem eqP_nil (B : Nat) (w : World) : (binOp .eql 68 (.func (.func 71) #[] #[.pointer (some ⟨B, 0, none⟩)]) .nilFunc).run Tryd.prog w = .ok (.bool false) w := by kernel_rfl
theorem cellP1 {w : World} {b : Nat} {v : Value} {T : TypeId} (h : w.heap[b]? = some (.cells #[v] T (0, 0))) : w.cell? ⟨b, 0, none⟩ = some v ∧ w.frozen? ⟨b, 0, none⟩ = false := by simp [World.cell?, World.frozen?, h]

/-- Between two calls of the script. -/
structure PlM (Wb : World) (p q tv : Nat) (ev mv lv : Value) (pl : List (Nd × Value)) (L : List Nd) (wr : World) : Prop where
  bt : Bt wr p q ev mv lv pl L
  tvb : wr.heap[tv]? = some (.cells #[.pointer (some ⟨q, 0, none⟩)] 57 (0, 0))
  be : Below Wb.heap.size Wb wr

theorem RtM.grown {w w' : World} {q : Nat} {lv : Value} {pl : List (Nd × Value)} {L : List Nd} {row : Option Nat} (h : RtM w q lv pl L) (hg : w.grownBy w' row) (hr : ∀ r, row = some r → ∃ o : Obj, w.heap[r]? = some o ∧ o.isCells = false) : RtM w' q lv pl L := by
  have key : ∀ (b : Nat) (c : Array Value) (T : TypeId) (f : Nat × Nat), w.heap[b]? = some (.cells c T f) → w'.heap[b]? = w.heap[b]? := fun b c T f h => (blk_ownT h hg hr).trans h.symm
  refine ⟨blk_ownT h.blk hg hr, ⟨rw_same h.own.row (fun b hv => ?_), fun y hy => rw_same (h.own.kids y hy) (fun b hv => ?_)⟩, h.nodes⟩
  · obtain ⟨_, _, _, cu, _, h3, _⟩ := rw_block h.own.row hv
    exact key _ _ _ _ h3
  · obtain ⟨_, _, _, cu, _, h3, _⟩ := rw_block (h.own.kids y hy) hv
    exact key _ _ _ _ h3
/-- Its blocks are older. -/
def RtO (nb q : Nat) (lv : Value) (pl : List (Nd × Value)) : Prop := q < nb ∧ (∀ b, lv.ownBlock = some b → b < nb) ∧ ∀ y ∈ pl, ∀ b, y.2.ownBlock = some b → b < nb
theorem RtM.old {w : World} {q nb : Nat} {lv : Value} {pl : List (Nd × Value)} {L : List Nd} (h : RtM w q lv pl L) (hn : w.heap.size ≤ nb) : RtO nb q lv pl := ⟨Nat.lt_of_lt_of_le h.lt hn, fun b hb => Nat.lt_of_lt_of_le (rw_block h.own.row hb).2.1 hn, fun y hy b hb => Nat.lt_of_lt_of_le (rw_block (h.own.kids y hy) hb).2.1 hn⟩
theorem RtM.setFar {w : World} {q nb : Nat} {lv : Value} {pl : List (Nd × Value)} {L : List Nd} (h : RtM w q lv pl L) (ho : RtO nb q lv pl) (v : Value) : RtM (w.setCell ⟨nb, 0, none⟩ v) q lv pl L := by
  have key : ∀ b, b < nb → (w.setCell ⟨nb, 0, none⟩ v).heap[b]? = w.heap[b]? := fun b hb => Deep.blk_setCell_other _ _ _ _ (by show b ≠ nb; omega)
  exact ⟨(key _ ho.1).trans h.blk, ⟨rw_same h.own.row (fun b hv => key _ (ho.2.1 b hv)), fun y hy => rw_same (h.own.kids y hy) (fun b hv => key _ (ho.2.2 y hy b hv))⟩, h.nodes⟩
/-- Between two rounds of the range. -/
structure PlR (w wz : World) (nb q tv : Nat) (lv : Value) (pl : List (Nd × Value)) (L : List Nd) (k : Nat) (W : World) : Prop where
  n : W.heap[nb]? = some (.cells #[.int .i64 (k : Int)] 3 (0, 0))
  r : RtM W q lv pl L
  tv : W.heap[tv]? = some (.cells #[.pointer (some ⟨q, 0, none⟩)] 57 (0, 0))
  rb : W.heap[w.heap.size]? = some (.cells #[.bool false] 4 (0, 0))
  be : Below w.heap.size w W
  sz : wz.heap.size ≤ W.heap.size
theorem PlR.own {w wz : World} {nb q tv : Nat} {lv : Value} {pl : List (Nd × Value)} {L : List Nd} (hw : w.heap.size ≤ wz.heap.size) : OwnFrom wz.heap.size (PlR w wz nb q tv lv pl L) := fun k W W' row h hg hr =>
  ⟨blk_ownT h.n hg (fun r e => (hr r e).2), h.r.grown hg (fun r e => (hr r e).2), blk_ownT h.tv hg (fun r e => (hr r e).2), blk_ownT h.rb hg (fun r e => (hr r e).2), h.be.grown hg h.be.size (fun r e => by have := (hr r e).1; omega), Nat.le_trans h.sz hg.size⟩
theorem PlR.below {w wz W W' : World} {nb q tv k : Nat} {lv : Value} {pl : List (Nd × Value)} {L : List Nd} (h : PlR w wz nb q tv lv pl L k W) (hb : Below W.heap.size W W') : PlR w wz nb q tv lv pl L k W' :=
  ⟨(hb.block _ (lt_of_block h.n)).trans h.n, h.r.below hb, (hb.block _ (lt_of_block h.tv)).trans h.tv, (hb.block _ (lt_of_block h.rb)).trans h.rb, h.be.trans (hb.mono h.be.size), Nat.le_trans h.sz hb.size⟩
theorem PlR.step {w wz W : World} {nb q tv k : Nat} {lv : Value} {pl : List (Nd × Value)} {L : List Nd} (h : PlR w wz nb q tv lv pl L k W) (ho : RtO nb q lv pl) (ht : tv < nb) (hn : w.heap.size < nb) : PlR w wz nb q tv lv pl L (k + 1) (W.setCell ⟨nb, 0, none⟩ (.int .i64 ((k : Int) + 1))) := by
  have key : ∀ b, b < nb → (W.setCell ⟨nb, 0, none⟩ (.int .i64 ((k : Int) + 1))).heap[b]? = W.heap[b]? := fun b hb => Deep.blk_setCell_other _ _ _ _ (by show b ≠ nb; omega)
  have n6 : (W.setCell ⟨nb, 0, none⟩ (.int .i64 ((k : Int) + 1))).heap[nb]? = some (.cells #[.int .i64 ((k : Int) + 1)] 3 (0, 0)) := by simpa using heap_setCell_same W nb 0 #[.int .i64 (k : Int)] 3 (.int .i64 ((k : Int) + 1)) h.n
  exact ⟨by exact_mod_cast n6, h.r.setFar ho _, (key _ ht).trans h.tv, (key _ hn).trans h.rb, h.be.setCell (p := ⟨nb, 0, none⟩) (by show w.heap.size ≤ nb; omega) _, by simpa using h.sz⟩
end Go.Proofs.YtpacjofepiojdaaDoor

set_option linter.unusedSimpArgs false
set_option linter.unusedVariables false
namespace Go.Proofs.YtpacjofepiojdaaDoor
open Go.RowKit Go.Lib Go.ChangeShapes Go.WideShapes Go.Deep

theorem Tryd.cellsTOp : Tryd.prog.cellsOf 65 = 7 := by kernel_rfl
theorem Tryd.cellsNodes : Tryd.prog.cellsOf 22 = 1 := by kernel_rfl
theorem len7 {α : Type} (l : List α) (h : l.length = 7) : ∃ a b c d e f g, l = [a, b, c, d, e, f, g] := by
  match l, h with
  | [a, b, c, d, e, f, g], _ => exact ⟨a, b, c, d, e, f, g, rfl⟩
theorem N6.of_wf {n : Int} (hw : (Lit.int .i64 n).wf = true) : N6 n := by
  have e1 : IntKind.min .i64 = -9223372036854775808 := by decide
  have e2 : IntKind.max .i64 = 9223372036854775807 := by decide
  simp only [Lit.wf, e1, e2, Bool.and_eq_true, decide_eq_true_eq] at hw
  exact hw

section
variable {H : Type} {enc : TypeId × Value → H} {w : World}

/-- One node, its name within reach. -/
theorem open_nodeN {fuel : Nat} {cs : List Value} {x : DataW H × List MemPlace} (h : DataW.trod enc Tryd.prog w 0 (fun _ => true) true fuel 63 cs = some x) :
    ∃ (y : Nd) (kv : Value), cs = [.int .i64 y.op, .int .i64 y.n, .string y.name, kv] ∧ Ints w w.heap.size kv y.kids ∧ N6 y.n ∧ ((∀ n ∈ x.1.weights Tryd.prog 63, n ≤ reachBytes) → y.kids.length * 8 ≤ 140737488351232 ∧ y.name.size ≤ 281474976710656) := by
  obtain ⟨xs, n, _, rfl, hl, hxl, hall⟩ := DataW.trod_struct Tryd.underlying63 h
  rw [Tryd.cellsNode] at hl
  obtain ⟨v0, v1, v2, v3, rfl⟩ := len4 cs hl
  obtain ⟨x0, x1, x2, x3, rfl⟩ := len4 xs hxl
  have g0 : DataW.trod enc Tryd.prog w 0 (fun _ => true) true n 3 (([v0, v1, v2, v3].drop 0).take (Tryd.prog.cellsOf 3)) = some x0 := hall 0 _ rfl
  have g1 : DataW.trod enc Tryd.prog w 0 (fun _ => true) true n 2 (([v0, v1, v2, v3].drop 1).take (Tryd.prog.cellsOf 2)) = some x1 := hall 1 _ rfl
  have g2 : DataW.trod enc Tryd.prog w 0 (fun _ => true) true n 9 (([v0, v1, v2, v3].drop 2).take (Tryd.prog.cellsOf 9)) = some x2 := hall 2 _ rfl
  have g3 : DataW.trod enc Tryd.prog w 0 (fun _ => true) true n 61 (([v0, v1, v2, v3].drop 3).take (Tryd.prog.cellsOf 61)) = some x3 := hall 3 _ rfl
  rw [Tryd.cells3] at g0
  rw [Tryd.cells2] at g1
  rw [Tryd.cellsStr] at g2
  rw [Tryd.cellsInts] at g3
  obtain ⟨z0, k0, _, _⟩ := DataW.trod_int Tryd.underlying3 g0
  obtain ⟨z1, k1, _, hz1⟩ := DataW.trod_int Tryd.underlying2 g1
  obtain ⟨s, k2, hx2, hs⟩ := DataW.trod_string Tryd.underlying9 g2
  simp at k0 k1 k2
  subst k0; subst k1; subst k2
  obtain ⟨ks, hI, hw⟩ := open_kids (v := v3) g3
  refine ⟨⟨z0, z1, s, ks⟩, v3, rfl, hI, N6.of_wf hz1, fun hh => ⟨hw fun q hq => hh q ?_, ?_⟩⟩
  · simp only [DataW.weights, Tryd.underlying63 ]
    exact DataW.weights_mem_each (j := 3) (t := 61) (d := x3.1) rfl rfl q hq
  · have := hh s.data.toList.length (by
      simp only [DataW.weights, Tryd.underlying63 ]
      refine DataW.weights_mem_each (j := 2) (t := 9) (d := x2.1) rfl rfl _ ?_
      rw [hx2]
      simp [DataW.weights])
    have e : s.data.toList.length = s.size := Array.length_toList
    rw [e] at this
    unfold reachBytes at this
    show s.size ≤ 281474976710656
    omega

/-- One call. -/
theorem open_top {fuel : Nat} {cs : List Value} {x : DataW H × List MemPlace} (h : DataW.trod enc Tryd.prog w 0 (fun _ => true) true fuel 65 cs = some x) :
    ∃ (y : OpT) (ka : Option Addr) (kc : Nat) (ea : Option Addr) (ec : Nat), cs = [.int .i64 y.kind, .int .i64 y.id, .int .i64 y.x.op, .int .i64 y.x.n, .string y.x.name, .slice ka y.x.kids.length kc, .slice ea y.e.length ec] ∧ ((∀ n ∈ x.1.weights Tryd.prog 65, n ≤ reachBytes) → OpA w y ka kc ea ec) := by
  obtain ⟨xs, n, _, rfl, hl, hxl, hall⟩ := DataW.trod_struct Tryd.underlying65 h
  rw [Tryd.cellsTOp] at hl
  obtain ⟨v0, v1, v2, v3, v4, v5, v6, rfl⟩ := len7 cs hl
  obtain ⟨x0, x1, x2, x3, rfl⟩ := len4 xs hxl
  have g0 : DataW.trod enc Tryd.prog w 0 (fun _ => true) true n 3 (([v0, v1, v2, v3, v4, v5, v6].drop 0).take (Tryd.prog.cellsOf 3)) = some x0 := hall 0 _ rfl
  have g1 : DataW.trod enc Tryd.prog w 0 (fun _ => true) true n 3 (([v0, v1, v2, v3, v4, v5, v6].drop 1).take (Tryd.prog.cellsOf 3)) = some x1 := hall 1 _ rfl
  have g2 : DataW.trod enc Tryd.prog w 0 (fun _ => true) true n 63 (([v0, v1, v2, v3, v4, v5, v6].drop 2).take (Tryd.prog.cellsOf 63)) = some x2 := hall 2 _ rfl
  have g3 : DataW.trod enc Tryd.prog w 0 (fun _ => true) true n 22 (([v0, v1, v2, v3, v4, v5, v6].drop 6).take (Tryd.prog.cellsOf 22)) = some x3 := hall 3 _ rfl
  rw [Tryd.cells3] at g0 g1
  rw [Tryd.cellsNode] at g2
  rw [Tryd.cellsNodes] at g3
  obtain ⟨z0, k0, _, _⟩ := DataW.trod_int Tryd.underlying3 g0
  obtain ⟨z1, k1, _, _⟩ := DataW.trod_int Tryd.underlying3 g1
  simp at k0 k1
  subst k0; subst k1
  obtain ⟨y, kv, hcs, hI, h6, hF⟩ := open_nodeN (cs := [v2, v3, v4, v5]) g2
  simp only [List.cons.injEq, and_true] at hcs
  obtain ⟨rfl, rfl, rfl, rfl⟩ := hcs
  obtain ⟨ea, ec, l, rfl, hR, hX⟩ := open_nodesX (v := v6) g3
  obtain ⟨ka, kc, rfl, hI'⟩ := id hI
  refine ⟨⟨z0, z1, y, l⟩, ka, kc, ea, ec, rfl, fun hw => ?_⟩
  obtain ⟨f1, f2⟩ := hF fun q hq => hw q (by
    simp only [DataW.weights, Tryd.underlying65 ]
    exact DataW.weights_mem_each (j := 2) (t := 63) (d := x2.1) rfl rfl q hq)
  exact ⟨hI, hR, h6, f2, f1, hX fun q hq => hw q (by
    simp only [DataW.weights, Tryd.underlying65 ]
    exact DataW.weights_mem_each (j := 3) (t := 22) (d := x3.1) rfl rfl q hq)⟩

/-- The whole argument. -/
theorem open_tops {fuel : Nat} {v : Value} {x : DataW H × List MemPlace} (h : DataW.trod enc Tryd.prog w 0 (fun _ => true) true fuel 54 [v] = some x) :
    ∃ (ao : Option Addr) (cap : Nat) (l : List OpT), v = .slice ao l.length cap ∧ ((∀ n ∈ x.1.weights Tryd.prog 54, n ≤ reachBytes) → Scr w ao cap l) := by
  rcases open_slice Tryd.underlying54 h with ⟨hcs, rfl⟩ | ⟨a, len, cap, m, n, D, Pl, hcs, _, hl, hm, hmm, rfl, hx⟩
  · simp only [List.cons.injEq, and_true] at hcs
    subst hcs
    exact ⟨none, 0, [], rfl, fun _ => ⟨by simp, by simp, .inl rfl⟩⟩
  · simp only [List.cons.injEq, and_true] at hcs
    subst hcs
    simp only [if_true] at hmm
    subst hmm
    have each : ∀ i, i < m → ∃ y : OpT, ∃ cs' ka kc ea ec, w.cells? 0 (a.add (i * 7)) 7 = some cs' ∧ cs' = [.int .i64 y.kind, .int .i64 y.id, .int .i64 y.x.op, .int .i64 y.x.n, .string y.x.name, .slice ka y.x.kids.length kc, .slice ea y.e.length ec] ∧ ((∀ n ∈ (D i).weights Tryd.prog 65, n ≤ reachBytes) → OpA w y ka kc ea ec) := by
      intro i hi
      obtain ⟨cs', h1, h2⟩ := hx i hi
      rw [Tryd.cellsTOp] at h1
      obtain ⟨y, ka, kc, ea, ec, e, h3⟩ := open_top h2
      exact ⟨y, cs', ka, kc, ea, ec, h1, e, h3⟩
    have : Inhabited OpT := ⟨op0⟩
    obtain ⟨q, hq⟩ := choose_lt each
    have hlen : ((List.range len).map fun i => q i).length = len := by simp
    have hget : ∀ i, i < len → ((List.range len).map fun i => q i).getD i op0 = q i := fun i hi => by simp [hi]
    refine ⟨some a, m, (List.range len).map fun i => q i, by rw [hlen], fun hw => ⟨by rw [hlen]; exact hl, hm, ?_⟩⟩
    by_cases h0 : len = 0
    · left; subst h0; rfl
    · right
      have hc0 : w.cell? a = some (.int .i64 (q 0).kind) := by
        obtain ⟨cs', _, _, _, _, h1, rfl, _⟩ := hq 0 (by omega)
        have := (World.cells?_some h1).2.2 0 (by omega)
        rw [Nat.zero_mul] at this
        exact this
      obtain ⟨b, o, sp⟩ := a
      have hsp : sp = none := spot_none hc0
      subst hsp
      refine ⟨b, o, rfl, World.block_lt_of_cell? _ _ hc0, fun i hi => ?_⟩
      rw [hlen] at hi
      rw [hget i hi]
      obtain ⟨cs', ka, kc, ea, ec, h1, rfl, h3⟩ := hq i (by omega)
      have hcell := (World.cells?_some h1).2.2
      rw [Go.WideShapes.add_plain] at hcell
      refine ⟨ka, kc, ea, ec, ⟨?_, ?_, ?_, ?_, ?_, ?_, ?_⟩, h3 fun n hn => hw n (by
        simp only [DataW.weights, Tryd.underlying54, List.mem_cons, List.mem_append]
        exact .inr (.inl (mem_weightsAll (List.mem_map.2 ⟨i, List.mem_range.2 hi, rfl⟩) hn)))⟩
      · have := hcell 0 (by omega); rw [Go.WideShapes.add_plain] at this; exact this
      · have := hcell 1 (by omega); rw [Go.WideShapes.add_plain] at this; exact this
      · have := hcell 2 (by omega); rw [Go.WideShapes.add_plain] at this; exact this
      · have := hcell 3 (by omega); rw [Go.WideShapes.add_plain] at this; exact this
      · have := hcell 4 (by omega); rw [Go.WideShapes.add_plain] at this; exact this
      · have := hcell 5 (by omega); rw [Go.WideShapes.add_plain] at this; exact this
      · have := hcell 6 (by omega); rw [Go.WideShapes.add_plain] at this; exact this
end
end Go.Proofs.YtpacjofepiojdaaDoor
