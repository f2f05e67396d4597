/-
  TbW8.
-/
import Derived.Shelf.Unicode.DecodeSlow
import Derived.Laws.RangeAny
import Derived.Shelf.Small.Bits
import Derived.Shelf.Strconv.Itoa0
import Derived.Shelf.LaysM
import Derived.Shelf.Strconv.Clone
import Derived.Shelf.Unicode.DecodeAny
import Derived.Shelf.Slices.CompactS
import Derived.Ground.SlsfProg
import Derived.Shelf.SlSortCmp.Insertion
import Derived.Shelf.SlSortCmp.SiftDown1
import Derived.Shelf.SlSortCmp.HeapSort1
import Derived.Shelf.SlSortCmp.Insertion1
import Derived.Shelf.SlSortCmp.Median1
import Derived.Shelf.SlSortCmp.Pivot1
import Derived.Shelf.SlSortCmp.ReverseRange1
import Derived.Shelf.SlSortCmp.PartialInsertion1
import Derived.Shelf.SlSortCmp.PartitionEqual1
import Derived.Shelf.SlSortCmp.Partition1
import Derived.Shelf.SlSortCmp.Pdq1
import Derived.Shelf.SlSortCmp.Whole1
import Derived.Test.YtpacjofepiojdaaDoorProg
import Derived.WalkKit
import Derived.Deep.DeepFit
import Derived.Lib.OthersKept
import Derived.Lib.RuneCountTail
import Derived.Deep.AppendLies
import Derived.Deep.OwnRows
import Derived.Laws.AppendOwnNone
import Derived.Deep.QuietTactic
import Derived.BigQuiet
import Derived.Deep.RegionWith
import Derived.Laws.DeepStrings4
import Derived.Below
import Derived.Maps.OwnSet
import Derived.Maps.Keyed
import Derived.DeepKeys4
import Derived.Lib.QuietBelow
import Derived.StillTail
import Derived.Deep.RegionHeld3
import Derived.Laws.ResultCell
import Derived.Laws.CopyOwn
import Derived.Test.YtpacjofepiojdaaDoorP01
import Derived.Test.YtpacjofepiojdaaDoorP02
import Derived.Test.YtpacjofepiojdaaDoorP03
import Derived.Test.YtpacjofepiojdaaDoorP04
import Derived.Test.YtpacjofepiojdaaDoorP05
import Derived.Test.YtpacjofepiojdaaDoorP06
import Derived.Test.YtpacjofepiojdaaDoorP07
import Derived.Test.YtpacjofepiojdaaDoorP08
import Derived.Test.YtpacjofepiojdaaDoorP09
import Derived.Test.YtpacjofepiojdaaDoorP10
import Derived.Test.YtpacjofepiojdaaDoorP11
import Derived.Test.YtpacjofepiojdaaDoorP12
import Derived.Test.YtpacjofepiojdaaDoorP13
import Derived.Test.YtpacjofepiojdaaDoorP14
import Derived.Test.YtpacjofepiojdaaDoorP15
set_option linter.unusedSimpArgs false
set_option linter.unusedVariables false
namespace Go.Proofs.YtpacjofepiojdaaDoor
open Go.RowKit Go.Lib Go.Sort Go.Maps

/-- What put answers: the number, the error, the entries. -/
def putS (L : List Nd) (x : Nd) : Nat × Int × List Nd :=
  match ixL L x with
  | some i => (i, 0, L)
  | none => if L.length < 1048576 then (L.length, 0, L ++ [x]) else (0, 10, L)
theorem tput_any (w : World) (p : Nat) (ev mv : Value) (L : List Nd) (x : Nd) (h : TbM w p ev mv L) (hx : NdK x) (hk : ∀ k ∈ x.kids, 0 ≤ k ∧ k < (L.length : Int)) (hnm : x.name.size ≤ 281474976710656) :
    Calls Tryd.prog 75 #[.pointer (some ⟨p, 0, none⟩), shV x] w fun e w' => e = .returned (.tuple #[.int .i64 ((putS L x).1 : Nat), .int .i64 (putS L x).2.1]) ∧ ∃ ev' mv', TbT w p ev mv ev' mv' (putS L x).2.2 w' := by
  unfold putS
  cases hi : ixL L x with
  | some i => exact (tput_there w p ev mv L x i h hx hi).mono fun e w' ⟨h1, h2⟩ => ⟨h1, ev, mv, TbT.of_below h h2⟩
  | none =>
    by_cases hf : L.length < 1048576
    · simp only [hf, if_true]
      exact tput_new w p ev mv L x h hx hi hf hk hnm
    · simp only [hf, if_false]
      exact (tput_full w p ev mv L x h hx hi (by omega)).mono fun e w' ⟨h1, h2⟩ => ⟨h1, ev, mv, TbT.of_below h h2⟩
theorem all_has {L : List Nd} {ks : List Int} (h : ks.all (hasT L) = true) : ∀ k ∈ ks, 0 ≤ k ∧ k < (L.length : Int) := fun k hk => by
  obtain ⟨q, rfl, hq⟩ := hasT_iff.1 (List.all_eq_true.1 h k hk)
  omega
/-- A node as a value, its kids read. -/
structure NdV (w : World) (x : Nd) (ka : Option Addr) (kc : Nat) : Prop where
  ints : Ints w w.heap.size (.slice ka x.kids.length kc) x.kids
  n6 : N6 x.n
  nm : x.name.size ≤ 281474976710656
theorem NdV.below {w w' : World} {x : Nd} {ka : Option Addr} {kc : Nat} (h : NdV w x ka kc) (hb : Below w.heap.size w w') : NdV w' x ka kc := ⟨h.ints.below hb hb.size, h.n6, h.nm⟩
theorem NdV.ndk {w : World} {x : Nd} {ka : Option Addr} {kc : Nat} {L : List Nd} (h : NdV w x ka kc) (hf : formB x = true) (hl : L.length ≤ 1048576) (ha : x.kids.all (hasT L) = true) : NdK x :=
  NdK.of hf h.n6 (by have := h.nm; unfold maxLen; omega) fun k hk => by have := all_has ha k hk; omega
/-- What shapeOf answers. -/
theorem shapeOf_any (w : World) (p : Nat) (ev mv : Value) (L : List Nd) (x : Nd) (ka : Option Addr) (kc : Nat) (h : TbM w p ev mv L) (hT : SpanCells w) (hv : NdV w x ka kc) :
    Calls Tryd.prog 74 #[.pointer (some ⟨p, 0, none⟩), .agg #[.int .i64 x.op, .int .i64 x.n, .string x.name, .slice ka x.kids.length kc]] w fun e w' => e = .returned (.tuple #[if shE L x = 0 then shV x else shV nd0, .int .i64 (shE L x)]) ∧ Below w.heap.size w w' := by
  obtain ⟨op, n, nm, ks⟩ := x
  simp only
  unfold shE
  by_cases hf : formB ⟨op, n, nm, ks⟩ = true
  · rw [if_pos hf]
    cases ha : ks.all (hasT L) with
    | true =>
      simp only [ha, if_true]
      exact shapeOf_fit w p ev mv L op n nm ks ka kc h hT hv.ints hf _ _ (.inl ⟨ha, rfl, rfl⟩)
    | false =>
      simp [ha]
      exact shapeOf_fit w p ev mv L op n nm ks ka kc h hT hv.ints hf _ _ (.inr ⟨ha, rfl, rfl⟩)
  · rw [if_neg hf]
    simp
    exact shapeOf_form w p op n nm ka ks.length kc hT (by simpa [formB] using hf)

/-- What Put answers. -/
def ptR (L : List Nd) (x : Nd) : Nat × Int × List Nd := if shE L x = 0 then putS L x else (0, shE L x, L)
theorem shE_cases (L : List Nd) (x : Nd) : shE L x = 1 ∧ formB x = false ∨ shE L x = 2 ∧ formB x = true ∧ x.kids.all (hasT L) = false ∨ shE L x = 0 ∧ formB x = true ∧ x.kids.all (hasT L) = true := by
  unfold shE
  cases hf : formB x with
  | false => simp
  | true =>
    cases ha : x.kids.all (hasT L) with
    | true => simp
    | false => simp

set_option maxRecDepth 20000 in
set_option maxHeartbeats 4000000 in
theorem tPut_any (w : World) (p : Nat) (ev mv : Value) (L : List Nd) (x : Nd) (ka : Option Addr) (kc : Nat) (h : TbM w p ev mv L) (hT : SpanCells w) (hv : NdV w x ka kc) :
    Calls Tryd.prog 36 #[.pointer (some ⟨p, 0, none⟩), .agg #[.int .i64 x.op, .int .i64 x.n, .string x.name, .slice ka x.kids.length kc]] w fun e w' => e = .returned (.tuple #[.int .i64 ((ptR L x).1 : Nat), .int .i64 (ptR L x).2.1]) ∧ ∃ ev' mv', TbT w p ev mv ev' mv' (ptR L x).2.2 w' := by
  have HM : Sld (TbM w p ev mv L) := ⟨h⟩
  have HV : Sld (NdV w x ka kc) := ⟨hv⟩
  have CSh : Sld (∀ W, Below w.heap.size w W → Calls Tryd.prog 74 #[.pointer (some ⟨p, 0, none⟩), .agg #[.int .i64 x.op, .int .i64 x.n, .string x.name, .slice ka x.kids.length kc]] W fun e w' => e = .returned (.tuple #[if shE L x = 0 then shV x else shV nd0, .int .i64 (shE L x)]) ∧ Below W.heap.size W w') := ⟨fun W hW => shapeOf_any W p ev mv L x ka kc (h.below hW) (hT.below hW) (hv.below hW)⟩
  have hle := h.inv.le
  have CPu : Sld (shE L x = 0 → ∀ W, Below w.heap.size w W → Calls Tryd.prog 75 #[.pointer (some ⟨p, 0, none⟩), shV x] W fun e w' => e = .returned (.tuple #[.int .i64 ((ptR L x).1 : Nat), .int .i64 (ptR L x).2.1]) ∧ ∃ ev' mv', TbT w p ev mv ev' mv' (ptR L x).2.2 w') := ⟨fun hs W hW => by
    have h3 : formB x = true ∧ x.kids.all (hasT L) = true := by
      rcases shE_cases L x with ⟨h1, _⟩ | ⟨h1, _⟩ | ⟨_, h2⟩
      · omega
      · omega
      · exact h2
    have := tput_any W p ev mv L x (h.below hW) (hv.ndk h3.1 hle h3.2) (all_has h3.2) hv.nm
    unfold ptR
    rw [if_pos hs]
    refine this.mono fun e w' ⟨h1, ev', mv', h2⟩ => ⟨h1, ev', mv', ?_⟩
    exact (TbT.of_below h hW).trans h2⟩
  have HR : Sld (shE L x ≠ 0 → ptR L x = (0, shE L x, L)) := ⟨fun hs => by unfold ptR; rw [if_neg hs]⟩
  have HBT : Sld (∀ W, Below w.heap.size w W → TbT w p ev mv ev mv L W) := ⟨fun W hW => TbT.of_below h hW⟩
  have HS0 : Sld (shV x = .agg #[.int .i64 x.op, .int .i64 x.n, .string x.name, .int .i64 (x.kids.getD 0 0), .int .i64 (x.kids.getD 1 0), .int .i64 (x.kids.getD 2 0)] ∧ shV nd0 = .agg #[.int .i64 0, .int .i64 0, .string ⟨#[]⟩, .int .i64 0, .int .i64 0, .int .i64 0]) := ⟨rfl, rfl⟩
  rw [HS0.out.1] at CSh CPu
  rw [HS0.out.2] at CSh
  obtain ⟨E, hE⟩ : ∃ E, shE L x = E := ⟨_, rfl⟩
  rw [hE] at CSh CPu HR
  obtain ⟨w1, hw1⟩ : ∃ w1, w.alloc (.cells #[.int .i64 x.op, .int .i64 x.n, .string x.name, .slice ka x.kids.length kc] 63) = w1 := ⟨_, rfl⟩
  have HB1 : Hid (Below w.heap.size w w1) := by rw [← hw1]; exact (Below.refl _ _).alloc (Nat.le_refl _) _
  have hb : w1.heap[w.heap.size]? = some (.cells #[.int .i64 x.op, .int .i64 x.n, .string x.name, .slice ka x.kids.length kc] 63 (0, 0)) := by rw [← hw1, Deep.blk_alloc_new]
  obtain ⟨b0, b1, b2, b3, _⟩ := blk4 hb
  have HW : Hid (w.alloc (.cells #[.int .i64 x.op, .int .i64 x.n, .string x.name, .slice ka x.kids.length kc] 63) = w1) := hw1
  clear hw1 hb h hv hT hle hE
  generalize x.op = op at *
  generalize x.n = n at *
  generalize x.name = nm at *
  generalize x.kids.getD 0 0 = k0 at *
  generalize x.kids.getD 1 0 = k1 at *
  generalize x.kids.getD 2 0 = k2 at *
  generalize x.kids.length = kl at *
  by_cases h0 : E = 0
  · subst h0
    generalize (ptR L x).1 = R1 at *
    have CP := CPu.out rfl
    have CS := CSh.out
    simp only [if_true] at CS
    have CS' : Sld (∀ W, Below w.heap.size w W → Calls Tryd.prog 74 #[.pointer (some ⟨p, 0, none⟩), .agg #[.int .i64 op, .int .i64 n, .string nm, .slice ka kl kc]] W fun e w' => e = .returned (.tuple #[.agg #[.int .i64 op, .int .i64 n, .string nm, .int .i64 k0, .int .i64 k1, .int .i64 k2], .int .i64 0]) ∧ Below W.heap.size W w') := ⟨CS⟩
    have CP' : Sld (∀ W, Below w.heap.size w W → Calls Tryd.prog 75 #[.pointer (some ⟨p, 0, none⟩), .agg #[.int .i64 op, .int .i64 n, .string nm, .int .i64 k0, .int .i64 k1, .int .i64 k2]] W fun e w' => e = .returned (.tuple #[.int .i64 (R1 : Nat), .int .i64 (ptR L x).2.1]) ∧ ∃ ev' mv', TbT w p ev mv ev' mv' (ptR L x).2.2 w') := ⟨CP⟩
    clear CS CP CSh CPu
    generalize (ptR L x).2.1 = R2 at *
    go_enter Tryd.func36, Tryd.ntmps36
    go_wp2_with fail
    rw [HW.out]
    go_wp2_with fail
    refine (CS'.out _ HB1.out).mono ?_
    rintro e w2 ⟨rfl, hb2⟩
    have HB2 : Hid (Below w.heap.size w w2) := HB1.out.trans (hb2.mono HB1.out.size)
    clear hb2
    go_wp2_with fail
    refine (CP'.out _ (HB2.out.alloc HB2.out.size _)).mono ?_
    rintro e w3 ⟨rfl, hT3⟩
    have HT3 : Sld (∃ ev' mv', TbT w p ev mv ev' mv' (ptR L x).2.2 w3) := ⟨hT3⟩
    clear hT3
    go_wp2_with fail
    go_ret2
    exact ⟨rfl, HT3.out⟩
  · have CS := CSh.out
    simp only [if_neg h0] at CS
    have CS' : Sld (∀ W, Below w.heap.size w W → Calls Tryd.prog 74 #[.pointer (some ⟨p, 0, none⟩), .agg #[.int .i64 op, .int .i64 n, .string nm, .slice ka kl kc]] W fun e w' => e = .returned (.tuple #[.agg #[.int .i64 0, .int .i64 0, .string ⟨#[]⟩, .int .i64 0, .int .i64 0, .int .i64 0], .int .i64 E]) ∧ Below W.heap.size W w') := ⟨CS⟩
    have HR' := HR.out h0
    have hne : (E == 0) = false := by simpa using h0
    rw [HR']
    clear CS CSh CPu HR HR'
    go_enter Tryd.func36, Tryd.ntmps36
    go_wp2_with fail
    rw [HW.out]
    go_wp2_with fail
    refine (CS'.out _ HB1.out).mono ?_
    rintro e w2 ⟨rfl, hb2⟩
    have HB2 : Hid (Below w.heap.size w w2) := HB1.out.trans (hb2.mono HB1.out.size)
    clear hb2
    go_wp2_with fail
    go_ret2
    exact ⟨rfl, ev, mv, HBT.out _ (HB2.out.alloc HB2.out.size _)⟩
end Go.Proofs.YtpacjofepiojdaaDoor

namespace Go.Proofs.YtpacjofepiojdaaDoor
open Go.RowKit Go.Lib Go.Sort Go.Maps

/-- What Find answers. -/
def fdR (L : List Nd) (x : Nd) : Nat × Int := if shE L x = 0 then (match ixL L x with | some i => (i, 0) | none => (0, 11)) else (0, shE L x)
set_option maxRecDepth 20000 in
set_option maxHeartbeats 4000000 in
theorem tFind_any (w : World) (p : Nat) (ev mv : Value) (L : List Nd) (x : Nd) (ka : Option Addr) (kc : Nat) (h : TbM w p ev mv L) (hT : SpanCells w) (hv : NdV w x ka kc) :
    Calls Tryd.prog 64 #[.pointer (some ⟨p, 0, none⟩), .agg #[.int .i64 x.op, .int .i64 x.n, .string x.name, .slice ka x.kids.length kc]] w fun e w' => e = .returned (.tuple #[.int .i64 ((fdR L x).1 : Nat), .int .i64 (fdR L x).2]) ∧ Below w.heap.size w w' := by
  have HV : Sld (NdV w x ka kc) := ⟨hv⟩
  have hle := h.inv.le
  have CSh : Sld (∀ W, Below w.heap.size w W → Calls Tryd.prog 74 #[.pointer (some ⟨p, 0, none⟩), .agg #[.int .i64 x.op, .int .i64 x.n, .string x.name, .slice ka x.kids.length kc]] W fun e w' => e = .returned (.tuple #[if shE L x = 0 then shV x else shV nd0, .int .i64 (shE L x)]) ∧ Below W.heap.size W w') := ⟨fun W hW => shapeOf_any W p ev mv L x ka kc (h.below hW) (hT.below hW) (hv.below hW)⟩
  have HLK : Sld (shE L x = 0 → ∀ W, Below w.heap.size w W → ∀ n, (Instr.lookup 102 mv (shV x) true).run Tryd.prog (W.drewN n) = .ok (.tuple #[.int .i64 (((ixL L x).getD 0 : Nat) : Int), .bool (ixL L x).isSome]) (W.drewN n)) := ⟨fun hs W hW n => by
    have h3 : formB x = true ∧ x.kids.all (hasT L) = true := by
      rcases shE_cases L x with ⟨h1, _⟩ | ⟨h1, _⟩ | ⟨_, h2⟩
      · omega
      · omega
      · exact h2
    exact ((h.below hW).drew n).look (hv.ndk h3.1 hle h3.2)⟩
  have HS0 : Sld (shV x = .agg #[.int .i64 x.op, .int .i64 x.n, .string x.name, .int .i64 (x.kids.getD 0 0), .int .i64 (x.kids.getD 1 0), .int .i64 (x.kids.getD 2 0)] ∧ shV nd0 = .agg #[.int .i64 0, .int .i64 0, .string ⟨#[]⟩, .int .i64 0, .int .i64 0, .int .i64 0]) := ⟨rfl, rfl⟩
  rw [HS0.out.1] at CSh HLK
  rw [HS0.out.2] at CSh
  have HP : Sld (∀ W, Below w.heap.size w W → W.cell? ⟨p, 1, none⟩ = some mv) := ⟨fun W hW => (h.below hW).c1⟩
  unfold fdR
  obtain ⟨E, hE⟩ : ∃ E, shE L x = E := ⟨_, rfl⟩
  rw [hE] at CSh HLK ⊢
  obtain ⟨w1, hw1⟩ : ∃ w1, w.alloc (.cells #[.int .i64 x.op, .int .i64 x.n, .string x.name, .slice ka x.kids.length kc] 63) = w1 := ⟨_, rfl⟩
  have HB1 : Hid (Below w.heap.size w w1) := by rw [← hw1]; exact (Below.refl _ _).alloc (Nat.le_refl _) _
  have hb : w1.heap[w.heap.size]? = some (.cells #[.int .i64 x.op, .int .i64 x.n, .string x.name, .slice ka x.kids.length kc] 63 (0, 0)) := by rw [← hw1, Deep.blk_alloc_new]
  obtain ⟨b0, b1, b2, b3, _⟩ := blk4 hb
  have HW : Hid (w.alloc (.cells #[.int .i64 x.op, .int .i64 x.n, .string x.name, .slice ka x.kids.length kc] 63) = w1) := hw1
  clear hw1 hb h hv hT hle hE
  obtain ⟨ix, hix⟩ : ∃ ix, ixL L x = ix := ⟨_, rfl⟩
  rw [hix] at HLK ⊢
  clear hix
  generalize x.op = op at *
  generalize x.n = n at *
  generalize x.name = nm at *
  generalize x.kids.getD 0 0 = k0 at *
  generalize x.kids.getD 1 0 = k1 at *
  generalize x.kids.getD 2 0 = k2 at *
  generalize x.kids.length = kl at *
  by_cases h0 : E = 0
  · subst h0
    have LK := HLK.out rfl
    have CS := CSh.out
    simp only [if_true] at CS ⊢
    have CS' : Sld (∀ W, Below w.heap.size w W → Calls Tryd.prog 74 #[.pointer (some ⟨p, 0, none⟩), .agg #[.int .i64 op, .int .i64 n, .string nm, .slice ka kl kc]] W fun e w' => e = .returned (.tuple #[.agg #[.int .i64 op, .int .i64 n, .string nm, .int .i64 k0, .int .i64 k1, .int .i64 k2], .int .i64 0]) ∧ Below W.heap.size W w') := ⟨CS⟩
    have LK' : Sld (∀ W, Below w.heap.size w W → ∀ n', (Instr.lookup 102 mv (.agg #[.int .i64 op, .int .i64 n, .string nm, .int .i64 k0, .int .i64 k1, .int .i64 k2]) true).run Tryd.prog (W.drewN n') = .ok (.tuple #[.int .i64 ((ix.getD 0 : Nat) : Int), .bool ix.isSome]) (W.drewN n')) := ⟨LK⟩
    clear CS LK CSh HLK
    cases ix with
    | none =>
      simp only [Option.getD_none, Option.isSome_none] at LK'
      go_enter Tryd.func64, Tryd.ntmps64
      go_wp2_with fail
      rw [HW.out]
      go_wp2_with fail
      refine (CS'.out _ HB1.out).mono ?_
      rintro e w2 ⟨rfl, hb2⟩
      have HB2 : Hid (Below w.heap.size w w2) := HB1.out.trans (hb2.mono HB1.out.size)
      obtain ⟨w3, hw3⟩ : ∃ w3, w2.alloc (.cells #[.int .i64 op, .int .i64 n, .string nm, .int .i64 k0, .int .i64 k1, .int .i64 k2] 116) = w3 := ⟨_, rfl⟩
      have HB3 : Hid (Below w.heap.size w w3) := by rw [← hw3]; exact HB2.out.alloc HB2.out.size _
      have hb3 : w3.heap[w2.heap.size]? = some (.cells #[.int .i64 op, .int .i64 n, .string nm, .int .i64 k0, .int .i64 k1, .int .i64 k2] 116 (0, 0)) := by rw [← hw3, Deep.blk_alloc_new]
      obtain ⟨d0, d1, d2, d3, d4, d5, _⟩ := blk6 hb3
      have c1 := HP.out w3 HB3.out
      have lk := LK'.out w3 HB3.out
      have HW3 : Hid (w2.alloc (.cells #[.int .i64 op, .int .i64 n, .string nm, .int .i64 k0, .int .i64 k1, .int .i64 k2] 116) = w3) := hw3
      clear hb2 hw3 hb3
      go_wp2_with fail
      rw [HW3.out]
      go_quiet (fail)
      go_wp2_with fail
      go_ret2
      exact ⟨rfl, HB3.out.trans ⟨rfl, rfl, rfl, Nat.le_refl _, fun _ _ => rfl⟩⟩
    | some i =>
      simp only [Option.getD_some, Option.isSome_some] at LK'
      go_enter Tryd.func64, Tryd.ntmps64
      go_wp2_with fail
      rw [HW.out]
      go_wp2_with fail
      refine (CS'.out _ HB1.out).mono ?_
      rintro e w2 ⟨rfl, hb2⟩
      have HB2 : Hid (Below w.heap.size w w2) := HB1.out.trans (hb2.mono HB1.out.size)
      obtain ⟨w3, hw3⟩ : ∃ w3, w2.alloc (.cells #[.int .i64 op, .int .i64 n, .string nm, .int .i64 k0, .int .i64 k1, .int .i64 k2] 116) = w3 := ⟨_, rfl⟩
      have HB3 : Hid (Below w.heap.size w w3) := by rw [← hw3]; exact HB2.out.alloc HB2.out.size _
      have hb3 : w3.heap[w2.heap.size]? = some (.cells #[.int .i64 op, .int .i64 n, .string nm, .int .i64 k0, .int .i64 k1, .int .i64 k2] 116 (0, 0)) := by rw [← hw3, Deep.blk_alloc_new]
      obtain ⟨d0, d1, d2, d3, d4, d5, _⟩ := blk6 hb3
      have c1 := HP.out w3 HB3.out
      have lk := LK'.out w3 HB3.out
      have HW3 : Hid (w2.alloc (.cells #[.int .i64 op, .int .i64 n, .string nm, .int .i64 k0, .int .i64 k1, .int .i64 k2] 116) = w3) := hw3
      clear hb2 hw3 hb3
      go_wp2_with fail
      rw [HW3.out]
      go_quiet (fail)
      go_wp2_with fail
      go_ret2
      exact ⟨rfl, HB3.out.trans ⟨rfl, rfl, rfl, Nat.le_refl _, fun _ _ => rfl⟩⟩
  · have CS := CSh.out
    simp only [if_neg h0] at CS ⊢
    have CS' : Sld (∀ W, Below w.heap.size w W → Calls Tryd.prog 74 #[.pointer (some ⟨p, 0, none⟩), .agg #[.int .i64 op, .int .i64 n, .string nm, .slice ka kl kc]] W fun e w' => e = .returned (.tuple #[.agg #[.int .i64 0, .int .i64 0, .string ⟨#[]⟩, .int .i64 0, .int .i64 0, .int .i64 0], .int .i64 E]) ∧ Below W.heap.size W w') := ⟨CS⟩
    have hne : (E == 0) = false := by simpa using h0
    clear CS CSh HLK
    go_enter Tryd.func64, Tryd.ntmps64
    go_wp2_with fail
    rw [HW.out]
    go_wp2_with fail
    refine (CS'.out _ HB1.out).mono ?_
    rintro e w2 ⟨rfl, hb2⟩
    have HB2 : Hid (Below w.heap.size w w2) := HB1.out.trans (hb2.mono HB1.out.size)
    clear hb2
    go_wp2_with fail
    go_ret2
    exact ⟨rfl, HB2.out.alloc HB2.out.size _⟩


set_option maxRecDepth 20000 in
set_option maxHeartbeats 4000000 in
theorem tSize_ok (w : World) (p : Nat) (ev mv : Value) (L : List Nd) (i : Nat) (h : TbM w p ev mv L) (hi : i < L.length) :
    Calls Tryd.prog 38 #[.pointer (some ⟨p, 0, none⟩), .int .i64 i] w fun e w' => e = .returned (.tuple #[.int .i64 ((szL L).getD i 0 : Nat), .int .i64 0]) ∧ w' = w := by
  have ch : Sld (Calls Tryd.prog 76 #[.pointer (some ⟨p, 0, none⟩), .int .i64 i] w fun e w' => e = .returned (.bool true) ∧ w' = w) := ⟨by
    have := thas_any w p ev mv L i h
    rw [hasT_iff.2 ⟨i, rfl, hi⟩] at this
    exact this⟩
  obtain ⟨g, cap, rfl, hg, hgl, hcc, hcm⟩ := h.row hi
  have ce := (h.at_ hi).c6
  have t0 := h.c0
  have hiI : (i : Int) < (L.length : Int) := by omega
  unfold maxLen at hcm
  generalize (szL L).getD i 0 = Z at *
  clear h
  go_enter Tryd.func38, Tryd.ntmps38
  go_wp2_with (go_at_call 76; refine ch.out.mono ?_; rintro e w4 ⟨rfl, hw4⟩; subst hw4)
  go_ret2
  exact ⟨rfl, rfl⟩
set_option maxRecDepth 20000 in
set_option maxHeartbeats 4000000 in
theorem tSize_bad (w : World) (p : Nat) (ev mv : Value) (L : List Nd) (a : Int) (h : TbM w p ev mv L) (hi : hasT L a = false) :
    Calls Tryd.prog 38 #[.pointer (some ⟨p, 0, none⟩), .int .i64 a] w fun e w' => e = .returned (.tuple #[.int .i64 0, .int .i64 2]) ∧ w' = w := by
  have ch : Sld (Calls Tryd.prog 76 #[.pointer (some ⟨p, 0, none⟩), .int .i64 a] w fun e w' => e = .returned (.bool false) ∧ w' = w) := ⟨by
    have := thas_any w p ev mv L a h
    rw [hi] at this
    exact this⟩
  clear h
  go_enter Tryd.func38, Tryd.ntmps38
  go_wp2_with (go_at_call 76; refine ch.out.mono ?_; rintro e w4 ⟨rfl, hw4⟩; subst hw4)
  go_ret2
  exact ⟨rfl, rfl⟩

set_option maxRecDepth 20000 in
set_option maxHeartbeats 4000000 in
theorem tNode_ok (w : World) (p : Nat) (ev mv : Value) (L : List Nd) (i : Nat) (h : TbM w p ev mv L) (hi : i < L.length) :
    Calls Tryd.prog 66 #[.pointer (some ⟨p, 0, none⟩), .int .i64 i] w fun e w' => ∃ ao cap, e = .returned (.tuple #[.agg #[.int .i64 (edA L i).op, .int .i64 (edA L i).n, .string (edA L i).name, .slice ao (edA L i).kids.length cap], .int .i64 0]) ∧ OwnI w' w.heap.size (.slice ao (edA L i).kids.length cap) (edA L i).kids ∧ Below w.heap.size w w' := by
  obtain ⟨w1, hw1⟩ : ∃ w1, w.alloc (.cells #[.int .i64 0, .int .i64 0, .string ⟨#[]⟩, .slice none 0 0] 63) = w1 := ⟨_, rfl⟩
  have HB1 : Hid (Below w.heap.size w w1) := by rw [← hw1]; exact (Below.refl _ _).alloc (Nat.le_refl _) _
  have hsz1 : w1.heap.size = w.heap.size + 1 := by rw [← hw1]; simp
  have hb : w1.heap[w.heap.size]? = some (.cells #[.int .i64 0, .int .i64 0, .string ⟨#[]⟩, .slice none 0 0] 63 (0, 0)) := by rw [← hw1, Deep.blk_alloc_new]
  have h1 := h.below HB1.out
  have ch : Sld (Calls Tryd.prog 76 #[.pointer (some ⟨p, 0, none⟩), .int .i64 i] w1 fun e w' => e = .returned (.bool true) ∧ w' = w1) := ⟨by
    have := thas_any w1 p ev mv L i h1
    rw [hasT_iff.2 ⟨i, rfl, hi⟩] at this
    exact this⟩
  have cn : Sld (∀ W, Calls Tryd.prog 72 #[shV (edA L i)] W fun e w' => ∃ ao cap, e = .returned (.agg #[.int .i64 (edA L i).op, .int .i64 (edA L i).n, .string (edA L i).name, .slice ao (edA L i).kids.length cap]) ∧ OwnI w' W.heap.size (.slice ao (edA L i).kids.length cap) (edA L i).kids ∧ Below W.heap.size W w') := ⟨fun W => tnode_any _ W (h.inv.form i hi)⟩
  obtain ⟨g, cap, rfl, hg, hgl, hcc, hcm⟩ := h1.row hi
  obtain ⟨e0, e1, e2, e3, e4, e5, e6⟩ := h1.at_ hi
  have t0 := h1.c0
  have hiI : (i : Int) < (L.length : Int) := by omega
  unfold maxLen at hcm
  have HW : Hid (w.alloc (.cells #[.int .i64 0, .int .i64 0, .string ⟨#[]⟩, .slice none 0 0] 63) = w1) := hw1
  have HSZ : Hid (w1.heap.size = w.heap.size + 1) := hsz1
  have HBK : Hid (w1.heap[w.heap.size]? = some (.cells #[.int .i64 0, .int .i64 0, .string ⟨#[]⟩, .slice none 0 0] 63 (0, 0))) := hb
  clear h h1 hw1 hsz1 hb
  generalize edA L i = x at *
  obtain ⟨op, n, nm, ks⟩ := x
  rw [shV_eq] at cn
  simp only at e0 e1 e2 e3 e4 e5 cn ⊢
  generalize ks.getD 0 0 = k0 at *
  generalize ks.getD 1 0 = k1 at *
  generalize ks.getD 2 0 = k2 at *
  go_enter Tryd.func66, Tryd.ntmps66
  go_wp2_with fail
  rw [HW.out]
  go_wp2_with fail
  refine ch.out.mono ?_
  rintro e w4 ⟨rfl, hw4⟩
  subst hw4
  go_wp2_with fail
  refine (cn.out _).mono ?_
  rintro e w5 ⟨ao5, cap5, rfl, hO5, hb5⟩
  have hn5 : w5.heap[w.heap.size]? = some (.cells #[.int .i64 0, .int .i64 0, .string ⟨#[]⟩, .slice none 0 0] 63 (0, 0)) := (hb5.block _ (by have := HSZ.out; omega)).trans HBK.out
  obtain ⟨y0, y1, y2, y3, yf⟩ := blk4 hn5
  have HO5 : Hid (OwnI w5 w4.heap.size (.slice ao5 ks.length cap5) ks) := hO5
  have HB5 : Hid (Below w.heap.size w w5) := HB1.out.trans (hb5.mono HB1.out.size)
  clear hO5 hb5
  go_wp2_with fail
  have hS := set4 hn5 (.int .i64 op) (.int .i64 n) (.string nm) (.slice ao5 ks.length cap5)
  have HBE := below_set4 HB5.out (Nat.le_refl w.heap.size) (.int .i64 op) (.int .i64 n) (.string nm) (.slice ao5 ks.length cap5)
  have HOE : OwnI ((((w5.setCell ⟨w.heap.size, 0, none⟩ (.int .i64 op)).setCell ⟨w.heap.size, 1, none⟩ (.int .i64 n)).setCell ⟨w.heap.size, 2, none⟩ (.string nm)).setCell ⟨w.heap.size, 3, none⟩ (.slice ao5 ks.length cap5)) w.heap.size (.slice ao5 ks.length cap5) ks := by
    have := ownI_far (b := w.heap.size) HO5.out (by have := HSZ.out; omega) (w' := (((w5.setCell ⟨w.heap.size, 0, none⟩ (.int .i64 op)).setCell ⟨w.heap.size, 1, none⟩ (.int .i64 n)).setCell ⟨w.heap.size, 2, none⟩ (.string nm)).setCell ⟨w.heap.size, 3, none⟩ (.slice ao5 ks.length cap5)) (fun k hk => by
      rw [Deep.blk_setCell_other _ _ _ _ hk, Deep.blk_setCell_other _ _ _ _ hk, Deep.blk_setCell_other _ _ _ _ hk, Deep.blk_setCell_other _ _ _ _ hk])
    exact ownsRow_mono this (by have := HSZ.out; omega)
  generalize (((w5.setCell ⟨w.heap.size, 0, none⟩ (.int .i64 op)).setCell ⟨w.heap.size, 1, none⟩ (.int .i64 n)).setCell ⟨w.heap.size, 2, none⟩ (.string nm)).setCell ⟨w.heap.size, 3, none⟩ (.slice ao5 ks.length cap5) = W at *
  obtain ⟨x0, x1, x2, x3, _⟩ := blk4 hS
  refine bodyPost_ret (v := .tuple #[.agg #[.int .i64 op, .int .i64 n, .string nm, .slice ao5 ks.length cap5], .int .i64 0]) (by simp [results, Tryd.results66, go_sem, x0, x1, x2, x3]) rfl ⟨ao5, cap5, rfl, HOE, HBE⟩
set_option maxRecDepth 20000 in
set_option maxHeartbeats 4000000 in
theorem tNode_bad (w : World) (p : Nat) (ev mv : Value) (L : List Nd) (a : Int) (h : TbM w p ev mv L) (hi : hasT L a = false) :
    Calls Tryd.prog 66 #[.pointer (some ⟨p, 0, none⟩), .int .i64 a] w fun e w' => e = .returned (.tuple #[.agg #[.int .i64 0, .int .i64 0, .string ⟨#[]⟩, .slice none 0 0], .int .i64 2]) ∧ Below w.heap.size w w' := by
  obtain ⟨w1, hw1⟩ : ∃ w1, w.alloc (.cells #[.int .i64 0, .int .i64 0, .string ⟨#[]⟩, .slice none 0 0] 63) = w1 := ⟨_, rfl⟩
  have HB1 : Hid (Below w.heap.size w w1) := by rw [← hw1]; exact (Below.refl _ _).alloc (Nat.le_refl _) _
  have hb : w1.heap[w.heap.size]? = some (.cells #[.int .i64 0, .int .i64 0, .string ⟨#[]⟩, .slice none 0 0] 63 (0, 0)) := by rw [← hw1, Deep.blk_alloc_new]
  have ch : Sld (Calls Tryd.prog 76 #[.pointer (some ⟨p, 0, none⟩), .int .i64 a] w1 fun e w' => e = .returned (.bool false) ∧ w' = w1) := ⟨by
    have := thas_any w1 p ev mv L a (h.below HB1.out)
    rw [hi] at this
    exact this⟩
  have HW : Hid (w.alloc (.cells #[.int .i64 0, .int .i64 0, .string ⟨#[]⟩, .slice none 0 0] 63) = w1) := hw1
  obtain ⟨y0, y1, y2, y3, yf⟩ := blk4 hb
  clear h hw1
  go_enter Tryd.func66, Tryd.ntmps66
  go_wp2_with fail
  rw [HW.out]
  go_wp2_with fail
  refine ch.out.mono ?_
  rintro e w4 ⟨rfl, hw4⟩
  subst hw4
  go_wp2_with fail
  have hS := set4 hb (.int .i64 0) (.int .i64 0) (.string ⟨#[]⟩) (.slice none 0 0)
  have HBE := below_set4 HB1.out (Nat.le_refl w.heap.size) (.int .i64 0) (.int .i64 0) (.string ⟨#[]⟩) (.slice none 0 0)
  generalize (((w4.setCell ⟨w.heap.size, 0, none⟩ (.int .i64 0)).setCell ⟨w.heap.size, 1, none⟩ (.int .i64 0)).setCell ⟨w.heap.size, 2, none⟩ (.string ⟨#[]⟩)).setCell ⟨w.heap.size, 3, none⟩ (.slice none 0 0) = W at *
  obtain ⟨x0, x1, x2, x3, _⟩ := blk4 hS
  refine bodyPost_ret (v := .tuple #[.agg #[.int .i64 0, .int .i64 0, .string ⟨#[]⟩, .slice none 0 0], .int .i64 2]) (by simp [results, Tryd.results66, go_sem, x0, x1, x2, x3]) rfl ⟨rfl, HBE⟩
end Go.Proofs.YtpacjofepiojdaaDoor
