/-
  PkLtW, PkJnW, PkCdW.
-/
import Derived.Shelf.Unicode.DecodeSlow
import Derived.Laws.RangeAny
import Derived.Shelf.Strings.Builder1
import Derived.Shelf.Small.Utf8
import Derived.Shelf.Small.Bits
import Derived.Shelf.Strings.BuilderF
import Derived.Shelf.Strings.BuilderK
import Derived.Shelf.Strings.BuilderRune
import Derived.Shelf.Utf8.AppendRune
import Derived.Shelf.Strconv.Itoa0
import Derived.Shelf.Strconv.Itoa1
import Derived.Shelf.LaysM
import Derived.Shelf.Strconv.Itoa2
import Derived.Shelf.Strconv.Itoa3
import Derived.Shelf.Strconv.Itoa4
import Derived.Shelf.Strings.Prefix
import Derived.Shelf.Unicode.DecodeAny
import Derived.Shelf.Slices.CompactS
import Derived.Ground.SlsfProg
import Derived.Shelf.SlSortCmp.Insertion
import Derived.Shelf.SlSortCmp.SiftDown1
import Derived.Shelf.SlSortCmp.HeapSort1
import Derived.Shelf.SlSortCmp.Insertion1
import Derived.Shelf.SlSortCmp.Median1
import Derived.Shelf.SlSortCmp.Pivot1
import Derived.Shelf.SlSortCmp.ReverseRange1
import Derived.Shelf.SlSortCmp.PartialInsertion1
import Derived.Shelf.SlSortCmp.PartitionEqual1
import Derived.Shelf.SlSortCmp.Partition1
import Derived.Shelf.SlSortCmp.Pdq1
import Derived.Shelf.SlSortCmp.Whole1
import Derived.Test.YtdcfffcimikfeaaDoorProg
import Derived.WalkKit
import Derived.Deep.DeepFit
import Derived.Lib.OthersKept
import Derived.Lib.RuneCountTail
import Derived.Deep.AppendLies
import Derived.Deep.OwnRows
import Derived.Laws.AppendOwnNone
import Derived.Deep.QuietTactic
import Derived.BigQuiet
import Derived.Deep.RegionWith
import Derived.Laws.DeepStrings4
import Derived.Lib.Small
import Derived.Lib.Strings
import Derived.Lib.MapLaws
import Derived.Deep.RegionHeld3
import Derived.Laws.ResultCell
import Derived.Lib.QuietBelow
import Derived.Deep.Heap
import Derived.Laws.Rows
import Derived.StillTail
import Derived.Deep.RegionLaw
import Derived.Laws.OwnMore
import Derived.Test.YtdcfffcimikfeaaDoorZ01
import Derived.Test.YtdcfffcimikfeaaDoorZ02
import Derived.Test.YtdcfffcimikfeaaDoorZ03
import Derived.Test.YtdcfffcimikfeaaDoorZ04
import Derived.Test.YtdcfffcimikfeaaDoorZ05
import Derived.Test.YtdcfffcimikfeaaDoorZ06
import Derived.Test.YtdcfffcimikfeaaDoorZ07
import Derived.Test.YtdcfffcimikfeaaDoorZ08
import Derived.Test.YtdcfffcimikfeaaDoorZ09
import Derived.Test.YtdcfffcimikfeaaDoorZ10
import Derived.Test.YtdcfffcimikfeaaDoorZ11
import Derived.Test.YtdcfffcimikfeaaDoorZ12
set_option linter.unusedSimpArgs false
set_option linter.unusedVariables false
namespace Go.Proofs.YtdcfffcimikfeaaDoor
open Go.RowKit Go.Lib Go.Sort

theorem psEx_what {s : ByteArray} {pat : Bool} {c : Int} {st st1 : Ps} (h : psEx s pat c st = .ok st1) : st.now.what = c ∧ st.now.err = 0 := by
  unfold psEx at h
  split at h
  · split at h
    · exact ⟨by assumption, by assumption⟩
    · cases h
  · cases h

set_option maxHeartbeats 2000000 in
theorem plit_any (w0 w : World) (B : Nat) (s : ByteArray) (pat : Bool) (st : Ps) (v : Value) (z vv : Int) (hE : PEnv w0 B w) (hM : PsM w B s pat st v) (hs : s.size ≤ 4096) (hto : st.now.err = 0 → st.now.to ≤ s.size) (hlen : st.nodes.length ≤ 100000) (hz : st.now.what = 48 → st.now.err = 0 → IntKind.i64.wrap z = vv) :
    Calls Tryd.prog 161 #[.pointer (some ⟨B, 0, none⟩), .int .u64 z] w fun e w' => AdP w B s pat (psLit s pat vv st) e w' := by
  have c := expect_any w0 w B s pat st v 48 hE hM hs hto
  have hno := psEx_in s pat 48 st
  have hkp := @psEx_keeps s pat 48 st
  have hwh := @psEx_what s pat 48 st
  have hBl := hM.lt
  unfold psLit
  generalize psEx s pat 48 st = X at *
  clear hM hE
  cases X with
  | ok st1 =>
    have c' : Calls Tryd.prog 90 #[.pointer (some ⟨B, 0, none⟩), .int .i32 48] w fun e w' => (e = .returned (.tuple #[]) ∧ PsM w' B s pat st1 v) ∧ w.grownBy w' (some B) := c
    have hn1 := (hkp rfl).1
    have hz := hz (hwh rfl).1 (hwh rfl).2
    have CA : Hid (∀ W, PsM W B s pat st1 v → Calls Tryd.prog 151 #[.pointer (some ⟨B, 0, none⟩), .agg #[.int .i64 1, .int .i64 vv, .string ⟨#[]⟩, .slice none 0 0] ] W fun e w' => (e = .returned (.int .i64 ((psAdd ⟨1, vv, ⟨#[]⟩, []⟩ st1).1 : Int)) ∧ ∃ v', PsM w' B s pat (psAdd ⟨1, vv, ⟨#[]⟩, []⟩ st1).2 v') ∧ RowKit.Below B W w') := fun W hW => padd_any W B s pat st1 v ⟨1, vv, ⟨#[]⟩, []⟩ none 0 hW (OwnI_nil _ _) (by rw [hn1]; exact hlen)
    show Calls _ _ _ _ fun e w' => AdP w B s pat (.ok (psAdd ⟨1, vv, ⟨#[]⟩, []⟩ st1)) e w'
    generalize psAdd ⟨1, vv, ⟨#[]⟩, []⟩ st1 = r at *
    clear c hno hkp hn1 hwh
    go_enter Tryd.func161, Tryd.ntmps161
    go_wp2_with (first | (go_at_call 90; refine c'.mono ?_; rintro e w2 ⟨⟨rfl, h2⟩, hb2⟩) | (go_at_call 151; refine (CA.out _ h2).mono ?_; rintro e w3 ⟨⟨rfl, h3⟩, hb3⟩))
    go_ret
    exact ⟨⟨rfl, h3⟩, (below_of_gr hb2 (by omega)).trans hb3⟩
  | bad p er =>
    have c' : Calls Tryd.prog 90 #[.pointer (some ⟨B, 0, none⟩), .int .i32 48] w fun e w' => e = .panicked [{ v := fltV p er, recovered := false }] ∧ w.grownBy w' (some B) := c
    clear c hno hkp hwh hz
    go_enter Tryd.func161, Tryd.ntmps161
    go_wp2_with (go_at_call 90; refine c'.mono ?_; rintro e w2 ⟨rfl, hb2⟩)
    exact ⟨rfl, rfl, below_of_gr hb2 (by omega)⟩
  | out => exact absurd rfl hno

set_option maxRecDepth 20000 in
set_option maxHeartbeats 2000000 in
theorem pnamed_any (w0 w : World) (B : Nat) (s : ByteArray) (pat : Bool) (st : Ps) (v : Value) (op : Int) (hE : PEnv w0 B w) (hM : PsM w B s pat st v) (hs : s.size ≤ 4096) (hto : st.now.err = 0 → st.now.to ≤ s.size) (hnm : st.now.what = 97 → st.now.from_ < st.now.to ∧ st.now.to ≤ s.size) (hlen : st.nodes.length ≤ 100000) :
    Calls Tryd.prog 174 #[.pointer (some ⟨B, 0, none⟩), .int .i64 op] w fun e w' => AdP w B s pat (psNamed s pat op st) e w' := by
  have hBl := hM.lt
  have c2 : w.cell? ⟨B, 2, none⟩ = some (.int .i32 st.now.what) := hM.cell 2
  have c3 : w.cell? ⟨B, 3, none⟩ = some (.int .i64 (st.now.from_ : Int)) := hM.cell 3
  have c4 : w.cell? ⟨B, 4, none⟩ = some (.int .i64 (st.now.to : Int)) := hM.cell 4
  have c5 : w.cell? ⟨B, 5, none⟩ = some (.int .u64 (st.now.n : Int)) := hM.cell 5
  have c6 : w.cell? ⟨B, 6, none⟩ = some (.int .i64 st.now.err) := hM.cell 6
  obtain ⟨W1, hW1⟩ : ∃ W1, w.alloc (.cells #[.int .i32 st.now.what, .int .i64 (st.now.from_ : Int), .int .i64 (st.now.to : Int), .int .u64 (st.now.n : Int), .int .i64 st.now.err] 114) = W1 := ⟨_, rfl⟩
  have hb1 : RowKit.Below w.heap.size w W1 := by rw [← hW1]; exact (Below.refl _ _).alloc (Nat.le_refl _) _
  have F1 : Tk5 W1 w.heap.size (.int .i32 st.now.what) (.int .i64 (st.now.from_ : Int)) (.int .i64 (st.now.to : Int)) (.int .u64 (st.now.n : Int)) (.int .i64 st.now.err) := ⟨by rw [← hW1, Deep.blk_alloc_new]⟩
  have hM1 := hM.below hb1
  have hB1 : RowKit.Below B w W1 := hb1.mono (by omega)
  have c := expect_any w0 W1 B s pat st v 97 (hE.next hB1) hM1 hs hto
  have hno := psEx_in s pat 97 st
  have hkp := @psEx_keeps s pat 97 st
  have hzz : W1.heap.size = w.heap.size + 1 := by rw [← hW1]; simp
  have HW1 : Hid (w.alloc (.cells #[.int .i32 st.now.what, .int .i64 (st.now.from_ : Int), .int .i64 (st.now.to : Int), .int .u64 (st.now.n : Int), .int .i64 st.now.err] 114) = W1) := hW1
  have HB1 : Hid (RowKit.Below B w W1) := hB1
  have hwh : ∀ st1, psEx s pat 97 st = .ok st1 → st.now.what = 97 := by
    intro st1 h
    unfold psEx at h
    split at h
    · assumption
    · cases h
  unfold psNamed
  clear hM hE hM1 hb1 hB1 hW1
  cases X : psEx s pat 97 st with
  | ok st1 =>
    rw [X] at c
    have hn1 := (hkp X).1
    obtain ⟨hft, hts⟩ := hnm (hwh st1 X)
    clear hno hkp hwh X hnm hto
    generalize st.now.what = wh at *
    generalize st.now.from_ = fr at *
    generalize st.now.to = to at *
    generalize st.now.n = tn at *
    generalize st.now.err = er at *
    have c' : Calls Tryd.prog 90 #[.pointer (some ⟨B, 0, none⟩), .int .i32 97] W1 fun e w' => (e = .returned (.tuple #[]) ∧ PsM w' B s pat st1 v) ∧ W1.grownBy w' (some B) := c
    obtain ⟨nm, hnm⟩ : ∃ nm, s.extract fr to = nm := ⟨_, rfl⟩
    have CA : Hid (∀ W, PsM W B s pat st1 v → Calls Tryd.prog 151 #[.pointer (some ⟨B, 0, none⟩), .agg #[.int .i64 op, .int .i64 0, .string nm, .slice none 0 0] ] W fun e w' => (e = .returned (.int .i64 ((psAdd ⟨op, 0, nm, []⟩ st1).1 : Int)) ∧ ∃ v', PsM w' B s pat (psAdd ⟨op, 0, nm, []⟩ st1).2 v') ∧ RowKit.Below B W w') := fun W hW => padd_any W B s pat st1 v ⟨op, 0, nm, []⟩ none 0 hW (OwnI_nil _ _) (by rw [hn1]; exact hlen)
    show Calls _ _ _ _ fun e w' => AdP w B s pat (.ok (psAdd ⟨op, 0, s.extract fr to, []⟩ st1)) e w'
    rw [hnm]
    generalize psAdd ⟨op, 0, nm, []⟩ st1 = r at *
    have HNM : Hid (s.extract fr to = nm) := hnm
    clear c hn1 hnm
    go_enter Tryd.func174, Tryd.ntmps174
    go_wp2_with fail
    rw [HW1.out]
    refine c'.mono ?_
    rintro e w2 ⟨⟨rfl, h2⟩, hb2⟩
    have hs2 := hb2.size
    have F2 : Tk5 w2 w.heap.size (.int .i32 wh) (.int .i64 (fr : Int)) (.int .i64 (to : Int)) (.int .u64 (tn : Int)) (.int .i64 er) := ⟨(hb2.block _ (by omega) (by intro e; cases e; omega)).trans F1.blk⟩
    obtain ⟨_, p1, p2, _, _⟩ := F2.cells
    have g0 := cell_regrown h2.tx.text
    have g1 := cell_regrown p1
    have g2 := cell_regrown p2
    have H2 : Hid (PsM w2 B s pat st1 v) := h2
    have HBB : Hid (RowKit.Below B w w2) := HB1.out.trans (below_of_gr hb2 (by omega))
    have hB2 := h2.lt
    clear F1 F2 hb2 h2 p1 p2
    go_wp2_with fail
    refine wp_region_quiet_then 13 (by kernel_rfl) (by kernel_rfl) ?_
    simp only [List.take_succ_cons, List.take_zero]
    iterate 13 (go_big_quiet_step (fail))
    refine wpQuiet_nil ?_
    intro w' hw'
    obtain ⟨⟨dq, osq⟩, hw''⟩ := hw'
    subst hw''
    simp only [List.drop_succ_cons, List.drop_zero]
    rw [HNM.out]
    obtain ⟨w5, hw5⟩ : ∃ w5, grow (redrawn w2 dq) osq = w5 := ⟨_, rfl⟩
    rw [hw5]
    have hb5 : RowKit.Below w2.heap.size w2 w5 := by rw [← hw5]; exact below_regrown w2 dq osq
    have h5 := H2.out.below hb5
    have HB5 : Hid (RowKit.Below B w w5) := HBB.out.trans (hb5.mono (by omega))
    clear hw5 g0 g1 g2 hb5
    go_wp2_with (go_at_call 151; refine (CA.out _ h5).mono ?_; rintro e w6 ⟨⟨rfl, h6⟩, hb6⟩)
    go_ret
    exact ⟨⟨rfl, h6⟩, HB5.out.trans hb6⟩
  | bad p er =>
    rw [X] at c
    have c' : Calls Tryd.prog 90 #[.pointer (some ⟨B, 0, none⟩), .int .i32 97] W1 fun e w' => e = .panicked [{ v := fltV p er, recovered := false }] ∧ W1.grownBy w' (some B) := c
    generalize st.now.what = wh at *
    generalize st.now.from_ = fr at *
    generalize st.now.to = to at *
    generalize st.now.n = tn at *
    generalize st.now.err = er at *
    clear c hno hkp hwh X hnm hto
    go_enter Tryd.func174, Tryd.ntmps174
    go_wp2_with fail
    rw [HW1.out]
    refine c'.mono ?_
    rintro e w2 ⟨rfl, hb2⟩
    exact ⟨rfl, rfl, HB1.out.trans (below_of_gr hb2 (by omega))⟩
  | out => exact absurd X hno
end Go.Proofs.YtdcfffcimikfeaaDoor

set_option linter.unusedSimpArgs false
set_option linter.unusedVariables false
namespace Go.Proofs.YtdcfffcimikfeaaDoor
open Go.RowKit Go.Lib Go.Sort

theorem own_new {W : World} {B : Nat} (hB : B < W.heap.size) (ks : List Nat) (hk : ks.length ≤ 3) : OwnI (W.alloc (.cells (ks.map fun (k : Nat) => Value.int .i64 (k : Int)).toArray 3)) (B + 1) (.slice (some ⟨W.heap.size, 0, none⟩) ks.length ks.length) (ks.map Int.ofNat) := by
  unfold OwnI
  have h := World.ownsRow_lit (base := B + 1) (e := 3) (size := 1) W (ks.map fun (k : Nat) => Value.int .i64 (k : Int)).toArray ks.length (by omega) (by unfold maxLen; omega) (by simp)
  have e : ((ks.map Int.ofNat).map (Value.int .i64)) = (ks.map fun (k : Nat) => Value.int .i64 (k : Int)).toArray.toList := by simp
  rw [e, List.length_map]
  exact h
theorem join_new {W : World} {B : Nat} {s : ByteArray} {pat : Bool} {st : Ps} {v : Value} (op : Int) (ks : List Nat) (hk : ks.length ≤ 3) (hM : PsM W B s pat st v) (hlen : st.nodes.length ≤ 100000) :
    Calls Tryd.prog 131 #[.pointer (some ⟨B, 0, none⟩), .int .i64 op, .slice (some ⟨W.heap.size, 0, none⟩) ks.length ks.length] (W.alloc (.cells (ks.map fun (k : Nat) => Value.int .i64 (k : Int)).toArray 3)) fun e w' => (e = .returned (.int .i64 ((psJoin op ks st).1 : Int)) ∧ ∃ v', PsM w' B s pat (psJoin op ks st).2 v') ∧ RowKit.Below B W w' := by
  have hB := hM.lt
  have hb : RowKit.Below W.heap.size W (W.alloc (.cells (ks.map fun (k : Nat) => Value.int .i64 (k : Int)).toArray 3)) := (Below.refl _ _).alloc (Nat.le_refl _) _
  refine (pjoin_any _ B s pat st v op ks (some ⟨W.heap.size, 0, none⟩) ks.length (hM.below hb) (own_new hB ks hk) hlen).mono ?_
  rintro e w' ⟨h1, h2⟩
  exact ⟨h1, (hb.mono (by omega)).trans h2⟩

/-- What is known where a rule begins. -/
structure RB (w0 w : World) (B : Nat) (s : ByteArray) (pat : Bool) (st : Ps) (v : Value) : Prop where
  env : PEnv w0 B w
  mem : PsM w B s pat st v
  ok : StN s st
theorem RB.next {w0 w w' : World} {B : Nat} {s : ByteArray} {pat : Bool} {st st' : Ps} {v v' : Value} (h : RB w0 w B s pat st v) (hb : RowKit.Below B w w') (hm : PsM w' B s pat st' v') (ho : StN s st') : RB w0 w' B s pat st' v' := ⟨h.env.next hb, hm, ho⟩
theorem RB.to {w0 w : World} {B : Nat} {s : ByteArray} {pat : Bool} {st : Ps} {v : Value} (h : RB w0 w B s pat st v) (he : st.now.err = 0) : st.now.to ≤ s.size := (h.ok.st.tk.good he).2.1
theorem RB.len {w0 w : World} {B : Nat} {s : ByteArray} {pat : Bool} {st : Ps} {v : Value} (h : RB w0 w B s pat st v) (hs : s.size ≤ 4096) : st.nodes.length ≤ 100000 := by
  have := h.ok.st.few
  have := h.ok.st.tk.in_
  omega
def AdOk (w : World) (B : Nat) (s : ByteArray) (pat : Bool) (r : Nat × Ps) (e : Ending) (w' : World) : Prop := (e = .returned (.int .i64 (r.1 : Int)) ∧ ∃ v', PsM w' B s pat r.2 v') ∧ RowKit.Below B w w'
def AdBad (w : World) (B p : Nat) (er : Int) (e : Ending) (w' : World) : Prop := e = .panicked [{ v := fltV p er, recovered := false }] ∧ RowKit.Below B w w'
/-- What a rule's method does with fuel f. -/
structure RunC (s : ByteArray) (pat : Bool) (f : Nat) : Prop where
  cond : ∀ w0 w B st v, RB w0 w B s pat st v → psRun s pat f .cond st ≠ .out → Calls Tryd.prog 89 #[.pointer (some ⟨B, 0, none⟩)] w fun e w' => AdP w B s pat (psRun s pat f .cond st) e w'
  pair : ∀ w0 w B st v (lv : Nat), 0 < lv → lv ≤ 9 → RB w0 w B s pat st v → psRun s pat f (.pair lv) st ≠ .out → Calls Tryd.prog 130 #[.pointer (some ⟨B, 0, none⟩), .int .i64 lv] w fun e w' => AdP w B s pat (psRun s pat f (.pair lv) st) e w'
  un : ∀ w0 w B st v, RB w0 w B s pat st v → psRun s pat f .un st ≠ .out → Calls Tryd.prog 149 #[.pointer (some ⟨B, 0, none⟩)] w fun e w' => AdP w B s pat (psRun s pat f .un st) e w'
  atom : ∀ w0 w B st v, RB w0 w B s pat st v → psRun s pat f .atom st ≠ .out → Calls Tryd.prog 162 #[.pointer (some ⟨B, 0, none⟩)] w fun e w' => AdP w B s pat (psRun s pat f .atom st) e w'
end Go.Proofs.YtdcfffcimikfeaaDoor

set_option linter.unusedSimpArgs false
set_option linter.unusedVariables false
namespace Go.Proofs.YtdcfffcimikfeaaDoor
open Go.RowKit Go.Lib Go.Sort

theorem tk_err {s : ByteArray} {st : Ps} (h : StN s st) (h1 : st.now.what ≠ 48) (h2 : st.now.what ≠ 97) : st.now.err = 0 := h.st.tk.sign h1 h2
theorem st_len {s : ByteArray} {st : Ps} (h : StN s st) (hs : s.size ≤ 4096) : st.nodes.length ≤ 100000 := by
  have := h.st.few
  have := h.st.tk.in_
  omega

set_option maxRecDepth 20000 in
set_option maxHeartbeats 8000000 in
theorem cond_step (s : ByteArray) (pat : Bool) (hs : s.size ≤ 4096) (f : Nat) (ih : RunC s pat f) (w0 w : World) (B : Nat) (st : Ps) (v : Value) (hR : RB w0 w B s pat st v) (hno : psRun s pat (f + 1) .cond st ≠ .out) :
    Calls Tryd.prog 89 #[.pointer (some ⟨B, 0, none⟩)] w fun e w' => AdP w B s pat (psRun s pat (f + 1) .cond st) e w' := by
  have c1 : psRun s pat f (.pair 1) st ≠ .out → Calls Tryd.prog 130 #[.pointer (some ⟨B, 0, none⟩), .int .i64 1] w fun e w' => AdP w B s pat (psRun s pat f (.pair 1) st) e w' := fun h => ih.pair w0 w B st v 1 (by omega) (by omega) hR h
  cases h1 : psRun s pat f (.pair 1) st with
  | out => exact absurd (by simp [psRun, h1, Pr.bind]) hno
  | bad p er =>
    have hRes : psRun s pat (f + 1) .cond st = .bad p er := by simp [psRun, h1, Pr.bind]
    rw [hRes]
    have c1' : Calls Tryd.prog 130 #[.pointer (some ⟨B, 0, none⟩), .int .i64 1] w fun e w' => AdBad w B p er e w' := by
      have := c1 (by rw [h1]; simp)
      rw [h1] at this; exact this
    clear c1 hRes h1 hno ih hR
    go_enter Tryd.func89, Tryd.ntmps89
    go_wp2_with (first | (go_at_call 130; refine c1'.mono ?_; rintro e w1 ⟨rfl, hb1⟩))
    exact ⟨rfl, rfl, hb1⟩
  | ok c =>
    have HO1 : Hid (StN s c.2) := run_n (q := .pair 1) hR.ok trivial ⟨by omega, by omega⟩ h1
    have c1' : Calls Tryd.prog 130 #[.pointer (some ⟨B, 0, none⟩), .int .i64 1] w fun e w' => AdOk w B s pat c e w' := by
      have := c1 (by rw [h1]; simp)
      rw [h1] at this; exact this
    clear c1
    by_cases hq : c.2.now.what = 63
    · have he := tk_err HO1.out (by omega) (by omega)
      have C2 : ∀ W v, RB w0 W B s pat c.2 v → Calls Tryd.prog 88 #[.pointer (some ⟨B, 0, none⟩)] W fun e w' => ExP W B s pat v (psNx s pat mx63 c.2) e w' := fun W v h => next_any w0 W B s pat c.2 v h.env h.mem hs (h.to he)
      have gq : (c.2.now.what != 63) = false := by simp [hq]
      cases h2 : psNx s pat mx63 c.2 with
      | out => exact absurd h2 (psNx_in _ _ _ _)
      | bad p er =>
        have hRes : psRun s pat (f + 1) .cond st = .bad p er := by simp [psRun, h1, Pr.bind, hq, h2]
        rw [hRes]
        rw [h2] at C2
        have D2 : Hid (∀ W v, RB w0 W B s pat c.2 v → Calls Tryd.prog 88 #[.pointer (some ⟨B, 0, none⟩)] W fun e w' => e = .panicked [{ v := fltV p er, recovered := false }] ∧ W.grownBy w' (some B)) := C2
        clear C2 hRes h1 h2 hno ih hq
        go_enter Tryd.func89, Tryd.ntmps89
        go_wp2_with (first | (go_at_call 88; refine (D2.out w1 v1 R1).mono ?_; rintro e w2 ⟨rfl, hg2⟩; have hb2 := below_of_gr hg2 (Nat.le_of_lt m1.lt)) | (go_at_call 130; refine c1'.mono ?_; rintro e w1 ⟨⟨rfl, v1, m1⟩, hb1⟩; have R1 := hR.next hb1 m1 HO1.out; have d2 : w1.cell? ⟨B, 2, none⟩ = some (.int .i32 c.2.now.what) := m1.cell 2))
        exact ⟨rfl, rfl, hb1.trans hb2⟩
      | ok st2 =>
        rw [h2] at C2
        have D2 : Hid (∀ W v, RB w0 W B s pat c.2 v → Calls Tryd.prog 88 #[.pointer (some ⟨B, 0, none⟩)] W fun e w' => (e = .returned (.tuple #[]) ∧ PsM w' B s pat st2 v) ∧ W.grownBy w' (some B)) := C2
        have HO2 : Hid (StN s st2) := nx_n HO1.out he (by omega) h2
        have C3 : psRun s pat f .cond st2 ≠ .out → ∀ W v, RB w0 W B s pat st2 v → Calls Tryd.prog 89 #[.pointer (some ⟨B, 0, none⟩)] W fun e w' => AdP W B s pat (psRun s pat f .cond st2) e w' := fun h W v hh => ih.cond w0 W B st2 v hh h
        clear C2
        cases h3 : psRun s pat f .cond st2 with
        | out => exact absurd (by simp [psRun, h1, Pr.bind, hq, h2, h3]) hno
        | bad p er =>
          have hRes : psRun s pat (f + 1) .cond st = .bad p er := by simp [psRun, h1, Pr.bind, hq, h2, h3]
          rw [hRes]
          have C3' := C3 (by rw [h3]; simp)
          rw [h3] at C3'
          have D3 : Hid (∀ W v, RB w0 W B s pat st2 v → Calls Tryd.prog 89 #[.pointer (some ⟨B, 0, none⟩)] W fun e w' => AdBad W B p er e w') := C3'
          clear C3 C3' hRes h1 h2 h3 hno ih hq
          go_enter Tryd.func89, Tryd.ntmps89
          go_wp2_with (first | (go_at_call 89; refine (D3.out w2 v1 R2).mono ?_; rintro e w3 ⟨rfl, hb3⟩) | (go_at_call 88; refine (D2.out w1 v1 R1).mono ?_; rintro e w2 ⟨⟨rfl, m2⟩, hg2⟩; have hb2 := below_of_gr hg2 (Nat.le_of_lt m1.lt); have R2 := R1.next hb2 m2 HO2.out) | (go_at_call 130; refine c1'.mono ?_; rintro e w1 ⟨⟨rfl, v1, m1⟩, hb1⟩; have R1 := hR.next hb1 m1 HO1.out; have d2 : w1.cell? ⟨B, 2, none⟩ = some (.int .i32 c.2.now.what) := m1.cell 2))
          exact ⟨rfl, rfl, (hb1.trans hb2).trans hb3⟩
        | ok a =>
          have C3' := C3 (by rw [h3]; simp)
          rw [h3] at C3'
          have D3 : Hid (∀ W v, RB w0 W B s pat st2 v → Calls Tryd.prog 89 #[.pointer (some ⟨B, 0, none⟩)] W fun e w' => AdOk W B s pat a e w') := C3'
          have HO3 : Hid (StN s a.2) := run_n (q := .cond) HO2.out trivial trivial h3
          have C4 : ∀ W v, RB w0 W B s pat a.2 v → Calls Tryd.prog 90 #[.pointer (some ⟨B, 0, none⟩), .int .i32 58] W fun e w' => ExP W B s pat v (psEx s pat 58 a.2) e w' := fun W v h => expect_any w0 W B s pat a.2 v 58 h.env h.mem hs h.to
          clear C3 C3'
          cases h4 : psEx s pat 58 a.2 with
          | out => exact absurd h4 (psEx_in _ _ _ _)
          | bad p er =>
            have hRes : psRun s pat (f + 1) .cond st = .bad p er := by simp [psRun, h1, Pr.bind, hq, h2, h3, h4]
            rw [hRes]
            rw [h4] at C4
            have D4 : Hid (∀ W v, RB w0 W B s pat a.2 v → Calls Tryd.prog 90 #[.pointer (some ⟨B, 0, none⟩), .int .i32 58] W fun e w' => e = .panicked [{ v := fltV p er, recovered := false }] ∧ W.grownBy w' (some B)) := C4
            clear C4 hRes h1 h2 h3 h4 hno ih hq
            go_enter Tryd.func89, Tryd.ntmps89
            go_wp2_with (first | (go_at_call 90; refine (D4.out w3 v3 R3).mono ?_; rintro e w4 ⟨rfl, hg4⟩; have hb4 := below_of_gr hg4 (Nat.le_of_lt m3.lt)) | (go_at_call 89; refine (D3.out w2 v1 R2).mono ?_; rintro e w3 ⟨⟨rfl, v3, m3⟩, hb3⟩; have R3 := R2.next hb3 m3 HO3.out) | (go_at_call 88; refine (D2.out w1 v1 R1).mono ?_; rintro e w2 ⟨⟨rfl, m2⟩, hg2⟩; have hb2 := below_of_gr hg2 (Nat.le_of_lt m1.lt); have R2 := R1.next hb2 m2 HO2.out) | (go_at_call 130; refine c1'.mono ?_; rintro e w1 ⟨⟨rfl, v1, m1⟩, hb1⟩; have R1 := hR.next hb1 m1 HO1.out; have d2 : w1.cell? ⟨B, 2, none⟩ = some (.int .i32 c.2.now.what) := m1.cell 2))
            exact ⟨rfl, rfl, ((hb1.trans hb2).trans hb3).trans hb4⟩
          | ok st4 =>
            rw [h4] at C4
            have D4 : Hid (∀ W v, RB w0 W B s pat a.2 v → Calls Tryd.prog 90 #[.pointer (some ⟨B, 0, none⟩), .int .i32 58] W fun e w' => (e = .returned (.tuple #[]) ∧ PsM w' B s pat st4 v) ∧ W.grownBy w' (some B)) := C4
            have HO4 : Hid (StN s st4) := ex_n HO3.out (by omega) h4
            have C5 : psRun s pat f .cond st4 ≠ .out → ∀ W v, RB w0 W B s pat st4 v → Calls Tryd.prog 89 #[.pointer (some ⟨B, 0, none⟩)] W fun e w' => AdP W B s pat (psRun s pat f .cond st4) e w' := fun h W v hh => ih.cond w0 W B st4 v hh h
            clear C4
            cases h5 : psRun s pat f .cond st4 with
            | out => exact absurd (by simp [psRun, h1, Pr.bind, hq, h2, h3, h4, h5]) hno
            | bad p er =>
              have hRes : psRun s pat (f + 1) .cond st = .bad p er := by simp [psRun, h1, Pr.bind, hq, h2, h3, h4, h5]
              rw [hRes]
              have C5' := C5 (by rw [h5]; simp)
              rw [h5] at C5'
              have D5 : Hid (∀ W v, RB w0 W B s pat st4 v → Calls Tryd.prog 89 #[.pointer (some ⟨B, 0, none⟩)] W fun e w' => AdBad W B p er e w') := C5'
              clear C5 C5' hRes h1 h2 h3 h4 h5 hno ih hq
              go_enter Tryd.func89, Tryd.ntmps89
              go_wp2_with (first | (go_at_call 89; refine (D5.out w4 v3 R4).mono ?_; rintro e w5 ⟨rfl, hb5⟩) | (go_at_call 90; refine (D4.out w3 v3 R3).mono ?_; rintro e w4 ⟨⟨rfl, m4⟩, hg4⟩; have hb4 := below_of_gr hg4 (Nat.le_of_lt m3.lt); have R4 := R3.next hb4 m4 HO4.out) | (go_at_call 89; refine (D3.out w2 v1 R2).mono ?_; rintro e w3 ⟨⟨rfl, v3, m3⟩, hb3⟩; have R3 := R2.next hb3 m3 HO3.out) | (go_at_call 88; refine (D2.out w1 v1 R1).mono ?_; rintro e w2 ⟨⟨rfl, m2⟩, hg2⟩; have hb2 := below_of_gr hg2 (Nat.le_of_lt m1.lt); have R2 := R1.next hb2 m2 HO2.out) | (go_at_call 130; refine c1'.mono ?_; rintro e w1 ⟨⟨rfl, v1, m1⟩, hb1⟩; have R1 := hR.next hb1 m1 HO1.out; have d2 : w1.cell? ⟨B, 2, none⟩ = some (.int .i32 c.2.now.what) := m1.cell 2))
              exact ⟨rfl, rfl, (((hb1.trans hb2).trans hb3).trans hb4).trans hb5⟩
            | ok b =>
              have hRes : psRun s pat (f + 1) .cond st = .ok (psJoin 17 [c.1, a.1, b.1] b.2) := by simp [psRun, h1, Pr.bind, hq, h2, h3, h4, h5]
              rw [hRes]
              have C5' := C5 (by rw [h5]; simp)
              rw [h5] at C5'
              have D5 : Hid (∀ W v, RB w0 W B s pat st4 v → Calls Tryd.prog 89 #[.pointer (some ⟨B, 0, none⟩)] W fun e w' => AdOk W B s pat b e w') := C5'
              have HO5 : Hid (StN s b.2) := run_n (q := .cond) HO4.out trivial trivial h5
              have D6 : Hid (∀ W v, PsM W B s pat b.2 v → Calls Tryd.prog 131 #[.pointer (some ⟨B, 0, none⟩), .int .i64 17, .slice (some ⟨W.heap.size, 0, none⟩) 3 3] (W.alloc (.cells #[.int .i64 (c.1 : Int), .int .i64 (a.1 : Int), .int .i64 (b.1 : Int)] 3)) fun e w' => AdOk W B s pat (psJoin 17 [c.1, a.1, b.1] b.2) e w') := fun W v h => join_new 17 [c.1, a.1, b.1] (by simp) h (st_len HO5.out hs)
              generalize psJoin 17 [c.1, a.1, b.1] b.2 = r at *
              clear C5 C5' hRes h1 h2 h3 h4 h5 hno ih hq
              go_enter Tryd.func89, Tryd.ntmps89
              go_wp2_with (first | (go_at_call 131; refine (D6.out w5 v5 m5).mono ?_; rintro e w6 ⟨⟨rfl, h6⟩, hb6⟩) | (go_at_call 89; refine (D5.out w4 v3 R4).mono ?_; rintro e w5 ⟨⟨rfl, v5, m5⟩, hb5⟩; have R5 := R4.next hb5 m5 HO5.out) | (go_at_call 90; refine (D4.out w3 v3 R3).mono ?_; rintro e w4 ⟨⟨rfl, m4⟩, hg4⟩; have hb4 := below_of_gr hg4 (Nat.le_of_lt m3.lt); have R4 := R3.next hb4 m4 HO4.out) | (go_at_call 89; refine (D3.out w2 v1 R2).mono ?_; rintro e w3 ⟨⟨rfl, v3, m3⟩, hb3⟩; have R3 := R2.next hb3 m3 HO3.out) | (go_at_call 88; refine (D2.out w1 v1 R1).mono ?_; rintro e w2 ⟨⟨rfl, m2⟩, hg2⟩; have hb2 := below_of_gr hg2 (Nat.le_of_lt m1.lt); have R2 := R1.next hb2 m2 HO2.out) | (go_at_call 130; refine c1'.mono ?_; rintro e w1 ⟨⟨rfl, v1, m1⟩, hb1⟩; have R1 := hR.next hb1 m1 HO1.out; have d2 : w1.cell? ⟨B, 2, none⟩ = some (.int .i32 c.2.now.what) := m1.cell 2))
              go_ret
              exact ⟨⟨rfl, h6⟩, ((((hb1.trans hb2).trans hb3).trans hb4).trans hb5).trans hb6⟩
    · have hRes : psRun s pat (f + 1) .cond st = .ok c := by simp [psRun, h1, Pr.bind, hq]
      rw [hRes]
      have gq : (c.2.now.what != 63) = true := by simp [hq]
      clear hRes h1 hno ih hq
      go_enter Tryd.func89, Tryd.ntmps89
      go_wp2_with (first | (go_at_call 130; refine c1'.mono ?_; rintro e w1 ⟨⟨rfl, v1, m1⟩, hb1⟩; have R1 := hR.next hb1 m1 HO1.out; have d2 : w1.cell? ⟨B, 2, none⟩ = some (.int .i32 c.2.now.what) := m1.cell 2))
      go_ret
      exact ⟨⟨rfl, v1, m1⟩, hb1⟩
end Go.Proofs.YtdcfffcimikfeaaDoor
