/-
  PkNuW, PkExW, PkAdW.
-/
import Derived.Shelf.Unicode.DecodeSlow
import Derived.Laws.RangeAny
import Derived.Shelf.Strings.Builder1
import Derived.Shelf.Small.Utf8
import Derived.Shelf.Small.Bits
import Derived.Shelf.Strings.BuilderF
import Derived.Shelf.Strings.BuilderK
import Derived.Shelf.Strings.BuilderRune
import Derived.Shelf.Utf8.AppendRune
import Derived.Shelf.Strconv.Itoa0
import Derived.Shelf.Strconv.Itoa1
import Derived.Shelf.LaysM
import Derived.Shelf.Strconv.Itoa2
import Derived.Shelf.Strconv.Itoa3
import Derived.Shelf.Strconv.Itoa4
import Derived.Shelf.Strings.Prefix
import Derived.Shelf.Unicode.DecodeAny
import Derived.Shelf.Slices.CompactS
import Derived.Ground.SlsfProg
import Derived.Shelf.SlSortCmp.Insertion
import Derived.Shelf.SlSortCmp.SiftDown1
import Derived.Shelf.SlSortCmp.HeapSort1
import Derived.Shelf.SlSortCmp.Insertion1
import Derived.Shelf.SlSortCmp.Median1
import Derived.Shelf.SlSortCmp.Pivot1
import Derived.Shelf.SlSortCmp.ReverseRange1
import Derived.Shelf.SlSortCmp.PartialInsertion1
import Derived.Shelf.SlSortCmp.PartitionEqual1
import Derived.Shelf.SlSortCmp.Partition1
import Derived.Shelf.SlSortCmp.Pdq1
import Derived.Shelf.SlSortCmp.Whole1
import Derived.Test.YtdcfffcimikfeaaDoorProg
import Derived.WalkKit
import Derived.Deep.DeepFit
import Derived.Lib.OthersKept
import Derived.Lib.RuneCountTail
import Derived.Deep.AppendLies
import Derived.Deep.OwnRows
import Derived.Laws.AppendOwnNone
import Derived.Deep.QuietTactic
import Derived.BigQuiet
import Derived.Deep.RegionWith
import Derived.Laws.DeepStrings4
import Derived.Lib.Small
import Derived.Lib.Strings
import Derived.Lib.MapLaws
import Derived.Deep.RegionHeld3
import Derived.Laws.ResultCell
import Derived.Lib.QuietBelow
import Derived.Deep.Heap
import Derived.Laws.Rows
import Derived.StillTail
import Derived.Deep.RegionLaw
import Derived.Test.YtdcfffcimikfeaaDoorZ01
import Derived.Test.YtdcfffcimikfeaaDoorZ02
import Derived.Test.YtdcfffcimikfeaaDoorZ03
import Derived.Test.YtdcfffcimikfeaaDoorZ04
import Derived.Test.YtdcfffcimikfeaaDoorZ05
import Derived.Test.YtdcfffcimikfeaaDoorZ06
import Derived.Test.YtdcfffcimikfeaaDoorZ07
import Derived.Test.YtdcfffcimikfeaaDoorZ08
import Derived.Test.YtdcfffcimikfeaaDoorZ09
import Derived.Test.YtdcfffcimikfeaaDoorZ10
import Derived.Test.YtdcfffcimikfeaaDoorZ11
set_option linter.unusedSimpArgs false
set_option linter.unusedVariables false
namespace Go.Proofs.YtdcfffcimikfeaaDoor
open Go.RowKit Go.Lib Go.Sort

theorem psAt_in (s : ByteArray) (pat : Bool) (most p : Nat) (r : Int) : psAt s pat most p r ≠ .out := by
  unfold psAt
  split
  · intro h; cases h
  · split
    · intro h; cases h
    · split <;> (intro h; cases h)

/-- What nextUpTo does. -/
def NuP (w : World) (B : Nat) (s : ByteArray) (pat : Bool) (st : Ps) (v : Value) (x : Pr Tk) (e : Ending) (w' : World) : Prop :=
  Ends x e (fun t => e = .returned (.tuple #[]) ∧ PsM w' B s pat { st with now := t } v) ∧ w.grownBy w' (some B)

set_option maxRecDepth 20000 in
set_option maxHeartbeats 4000000 in
theorem nextUp_any (w0 w : World) (B : Nat) (s : ByteArray) (pat : Bool) (st : Ps) (v : Value) (most : Nat) (hE : PEnv w0 B w) (hM : PsM w B s pat st v) (hs : s.size ≤ 4096) (hto : st.now.to ≤ s.size) (hm : most ≤ 9223372036854775808) :
    Calls Tryd.prog 129 #[.pointer (some ⟨B, 0, none⟩), .int .u64 most] w fun e w' => NuP w B s pat st v (psNext s pat most st.now.to) e w' := by
  have c0 := hM.tx.text
  have c4 : w.cell? ⟨B, 4, none⟩ = some (.int .i64 (st.now.to : Int)) := hM.cell 4
  have hBl := hM.lt
  have hBn : B ≠ w.heap.size := by omega
  have HM : Hid (PsM w B s pat st v) := hM
  have HE : Hid (PEnv w0 B w) := hE
  obtain ⟨X, hX⟩ : ∃ X, psNext s pat most st.now.to = X := ⟨_, rfl⟩
  have HX : Hid (X = psFrom s pat most (psSkip s s.size st.now.to)) := hX.symm
  rw [hX]
  clear hX
  generalize hto' : st.now.to = to at *
  obtain ⟨t, ht⟩ : ∃ t, s.extract to s.size = t := ⟨_, rfl⟩
  have hts : t.size = s.size - to := by rw [← ht]; exact tail_size s to
  have HT : Hid (s.extract to s.size = t) := ht
  have HD : Hid (∀ i, Utf8.decode t i = Utf8.decode s (to + i)) := fun i => by rw [← ht]; exact dec_tail s to i
  clear hto' hM hE ht
  go_enter Tryd.func129, Tryd.ntmps129
  go_wp2_with fail
  rw [HT.out]
  go_loopw [] (fun wr => ∃ pos f : Nat, It w t pos wr ∧ Hid (psSkip s f (to + pos) = psSkip s s.size to) ∧ s.size ≤ to + pos + f ∧ pos ≤ t.size) (fun wr => t.size - wr.iterPos w.heap.size)
  case atStart => exact ⟨0, s.size, It.start w t, rfl, by omega, by omega⟩
  case round =>
    obtain ⟨pos, f, hI, hsk, hf, hpt⟩ := hrel
    have hit := hI.at_
    by_cases hp : pos < t.size
    · have hnx : ∀ ty, (Instr.next (.pointer (some ⟨w.heap.size, 0, none⟩)) true ty).run Tryd.prog wr = _ := fun ty => run_next_any_at wr w.heap.size t pos ty hit hp
      have hwd := width_pos t pos hp
      have hle := dec_le t pos hp
      have hps : to + pos < s.size := by omega
      obtain ⟨f, rfl⟩ : ∃ g, f = g + 1 := ⟨f - 1, by omega⟩
      have hst := psSkip_step s f (to + pos) hps
      rw [← HD.out pos] at hst
      have hI2 := hI.next (pos + (Utf8.decode t pos).2)
      have hpos := hI.pos
      have HR : Hid (((Utf8.decode s (to + pos)).1 : Int) = ((Utf8.decode t pos).1 : Int)) := by show _ = _; rw [HD.out pos]
      generalize hw2 : (Utf8.decode t pos).2 = wd at *
      generalize hr2 : ((Utf8.decode t pos).1 : Int) = r at *
      clear hw2 hr2
      have HST : Hid (psSkip s (f + 1) (to + pos) = if kd r = 3 then psSkip s f (to + pos + wd) else to + pos) := hst
      have hTab : Tabs (wr.iterAt w.heap.size t (pos + wd)) := HE.out.tab.below hI2.below
      have cK := kind_any r _ hTab.spans
      have HI2 : Hid (It w t (pos + wd) (wr.iterAt w.heap.size t (pos + wd))) := hI2
      clear hst hI hI2
      by_cases hk : kd r = 3
      · rw [hk] at cK
        have HSK : Hid (psSkip s f (to + (pos + wd)) = psSkip s s.size to) := by show _ = _; rw [← hsk.out, HST.out, if_pos hk, Nat.add_assoc]
        clear hk hsk HST
        go_wp2_with (go_at_call 140; refine cK.mono ?_; rintro e w2 ⟨rfl, hb2⟩)
        exact ⟨⟨pos + wd, f, HI2.out.call hb2, HSK.out, by omega, by omega⟩, by rw [(HI2.out.call hb2).pos, hpos]; omega⟩
      · have HXX : Hid (X = psAt s pat most (to + pos) r) := by
          show X = _
          rw [HX.out, ← hsk.out, HST.out, if_neg hk]
          unfold psFrom
          rw [if_pos hps, HR.out]
        have HNO : Hid (X ≠ .out) := by show X ≠ _; rw [HXX.out]; exact psAt_in _ _ _ _ _
        have hkb : (kd r != 3) = true := by simpa using hk
        generalize kd r = kr at *
        clear hk hsk HST
        go_wp2_with (go_at_call 140; refine cK.mono ?_; rintro e w2 ⟨rfl, hb2⟩)
        have hI3 := HI2.out.call hb2
        have hM2 := HM.out.below hI3.below
        have hbw2 : RowKit.Below w.heap.size w w2 := hI3.below
        have cA := at_any w2 B s pat most (to + pos) r (HE.out.tab.below hI3.below) hM2.tx hps hs hm HR.out
        rw [← HXX.out, Int.natCast_add] at cA
        have HM2 : Hid (PsM w2 B s pat st v) := hM2
        have HB2 : Hid (RowKit.Below w.heap.size w w2) := hbw2
        have hB2 := hM2.lt
        clear hI3 hM2 hbw2 HI2 HXX HX cK
        cases X with
        | ok tk =>
          have cA' : Calls Tryd.prog 148 #[.pointer (some ⟨B, 0, none⟩), .int .i64 ((to : Int) + (pos : Int)), .int .i32 r, .int .u64 most] w2 fun e w' => e = .returned (.agg #[.int .i32 tk.what, .int .i64 tk.from_, .int .i64 tk.to, .int .u64 tk.n, .int .i64 tk.err]) ∧ Below w2.heap.size w2 w' := cA
          clear cA
          go_wp2_with (go_at_call 148; refine cA'.mono ?_; rintro e w3 ⟨rfl, hb3⟩; have q2 : w3.cell? ⟨B, 2, none⟩ = some (.int .i32 st.now.what) := (HM2.out.below hb3).cell 2; have q3 : w3.cell? ⟨B, 3, none⟩ = some (.int .i64 st.now.from_) := (HM2.out.below hb3).cell 3; have q4 : w3.cell? ⟨B, 4, none⟩ = some (.int .i64 st.now.to) := (HM2.out.below hb3).cell 4; have q5 : w3.cell? ⟨B, 5, none⟩ = some (.int .u64 st.now.n) := (HM2.out.below hb3).cell 5; have q6 : w3.cell? ⟨B, 6, none⟩ = some (.int .i64 st.now.err) := (HM2.out.below hb3).cell 6; have qf := (HM2.out.below hb3).frozen)
          go_end0
          exact ⟨⟨rfl, (HM2.out.below hb3).tok tk⟩, gr_setNow (gr_of_below (HB2.out.trans (hb3.mono HB2.out.size)) _) tk⟩
        | bad p er =>
          have cA' : Calls Tryd.prog 148 #[.pointer (some ⟨B, 0, none⟩), .int .i64 ((to : Int) + (pos : Int)), .int .i32 r, .int .u64 most] w2 fun e w' => e = .panicked [{ v := fltV p er, recovered := false }] ∧ Below w2.heap.size w2 w' := cA
          clear cA
          go_wp2_with (go_at_call 148; refine cA'.mono ?_; rintro e w3 ⟨rfl, hb3⟩)
          exact ⟨rfl, rfl, gr_of_below (HB2.out.trans (hb3.mono HB2.out.size)) _⟩
        | out => exact absurd rfl HNO.out
    · have hnx : ∀ ty, (Instr.next (.pointer (some ⟨w.heap.size, 0, none⟩)) true ty).run Tryd.prog wr = _ := fun ty => run_next_end_at wr w.heap.size t pos ty hit hp
      have hXe : X = .ok (psEnd s) := by
        rw [HX.out, ← hsk.out, psSkip_end s f (to + pos) (by omega)]
        unfold psFrom
        rw [if_neg (by omega)]
      subst hXe
      have hM2 := HM.out.below hI.below
      have g0 := cell_regrown hM2.tx.text
      have HM2 : Hid (PsM wr B s pat st v) := hM2
      have HB2 : Hid (RowKit.Below w.heap.size w wr) := hI.below
      have hB2 := hM2.lt
      clear hsk hI hM2 HX
      go_wp2_with fail
      refine wp_region_quiet_then 14 (by kernel_rfl) (by kernel_rfl) ?_
      simp only [List.take_succ_cons, List.take_zero]
      iterate 14 (go_big_quiet_step (fail))
      refine wpQuiet_nil ?_
      intro w' hw'
      obtain ⟨⟨dq, osq⟩, hw''⟩ := hw'
      subst hw''
      simp only [List.drop_succ_cons, List.drop_zero]
      obtain ⟨w5, hw5⟩ : ∃ w5, grow (redrawn wr dq) osq = w5 := ⟨_, rfl⟩
      rw [hw5]
      have hb5 : RowKit.Below wr.heap.size wr w5 := by rw [← hw5]; exact below_regrown wr dq osq
      have hM5 := HM2.out.below hb5
      have q2 : w5.cell? ⟨B, 2, none⟩ = some (.int .i32 st.now.what) := hM5.cell 2
      have q3 : w5.cell? ⟨B, 3, none⟩ = some (.int .i64 st.now.from_) := hM5.cell 3
      have q4 : w5.cell? ⟨B, 4, none⟩ = some (.int .i64 st.now.to) := hM5.cell 4
      have q5 : w5.cell? ⟨B, 5, none⟩ = some (.int .u64 st.now.n) := hM5.cell 5
      have q6 : w5.cell? ⟨B, 6, none⟩ = some (.int .i64 st.now.err) := hM5.cell 6
      have qf := hM5.frozen
      have HFI : Hid (PsM (setNow w5 B (psEnd s)) B s pat { st with now := psEnd s } v) := hM5.tok (psEnd s)
      have HBI : Hid (w.grownBy (setNow w5 B (psEnd s)) (some B)) := gr_setNow (gr_of_below (HB2.out.trans (hb5.mono HB2.out.size)) _) _
      clear hM5 hw5 g0 hb5
      go_wp2_with fail
      go_end0
      exact ⟨⟨rfl, HFI.out⟩, HBI.out⟩
end Go.Proofs.YtdcfffcimikfeaaDoor

set_option linter.unusedSimpArgs false
set_option linter.unusedVariables false
namespace Go.Proofs.YtdcfffcimikfeaaDoor
open Go.RowKit Go.Lib Go.Sort

/-- What a call that leaves a state does. -/
def ExP (w : World) (B : Nat) (s : ByteArray) (pat : Bool) (v : Value) (x : Pr Ps) (e : Ending) (w' : World) : Prop :=
  Ends x e (fun st' => e = .returned (.tuple #[]) ∧ PsM w' B s pat st' v) ∧ w.grownBy w' (some B)
theorem psNext_in (s : ByteArray) (pat : Bool) (most p : Nat) : psNext s pat most p ≠ .out := by
  unfold psNext psFrom
  split
  · exact psAt_in _ _ _ _ _
  · intro h; cases h

set_option maxHeartbeats 1000000 in
theorem next_any (w0 w : World) (B : Nat) (s : ByteArray) (pat : Bool) (st : Ps) (v : Value) (hE : PEnv w0 B w) (hM : PsM w B s pat st v) (hs : s.size ≤ 4096) (hto : st.now.to ≤ s.size) :
    Calls Tryd.prog 88 #[.pointer (some ⟨B, 0, none⟩)] w fun e w' => ExP w B s pat v (psNx s pat mx63 st) e w' := by
  have c := nextUp_any w0 w B s pat st v mx63 hE hM hs hto (by unfold mx63; omega)
  have hno := psNext_in s pat mx63 st.now.to
  unfold psNx
  have e63 : ((mx63 : Nat) : Int) = 9223372036854775807 := rfl
  rw [e63] at c
  generalize psNext s pat mx63 st.now.to = X at *
  clear hE hM
  cases X with
  | ok t =>
    have c' : Calls Tryd.prog 129 #[.pointer (some ⟨B, 0, none⟩), .int .u64 9223372036854775807] w fun e w' => (e = .returned (.tuple #[]) ∧ PsM w' B s pat { st with now := t } v) ∧ w.grownBy w' (some B) := c
    clear c hno
    go_enter Tryd.func88, Tryd.ntmps88
    go_wp2_with (go_at_call 129; refine c'.mono ?_; rintro e w2 ⟨⟨rfl, h2⟩, hb2⟩)
    go_end0
    exact ⟨⟨rfl, h2⟩, hb2⟩
  | bad p er =>
    have c' : Calls Tryd.prog 129 #[.pointer (some ⟨B, 0, none⟩), .int .u64 9223372036854775807] w fun e w' => e = .panicked [{ v := fltV p er, recovered := false }] ∧ w.grownBy w' (some B) := c
    clear c hno
    go_enter Tryd.func88, Tryd.ntmps88
    go_wp2_with (go_at_call 129; refine c'.mono ?_; rintro e w2 ⟨rfl, hb2⟩)
    exact ⟨rfl, rfl, hb2⟩
  | out => exact absurd rfl hno

set_option maxHeartbeats 1000000 in
theorem touches_any (w0 w : World) (B : Nat) (s : ByteArray) (pat : Bool) (st : Ps) (v : Value) (hE : PEnv w0 B w) (hM : PsM w B s pat st v) (hs : s.size ≤ 4096) :
    Calls Tryd.prog 160 #[.pointer (some ⟨B, 0, none⟩)] w fun e w' => e = .returned (.bool (decide ((numI s st.now.to).2.2 ≠ 11))) ∧ RowKit.Below w.heap.size w w' := by
  have g0 := cell_regrown hM.tx.text
  have c4 : w.cell? ⟨B, 4, none⟩ = some (.int .i64 (st.now.to : Int)) := hM.cell 4
  have g4 := cell_regrown c4
  have cN : Hid (∀ d os, Calls Tryd.prog 71 #[.string s, .int .i64 (st.now.to : Int)] (grow (redrawn w d) os) fun e w'' => e = .returned (.tuple #[.int .u64 (numI s st.now.to).1, .int .i64 (numI s st.now.to).2.1, .int .i64 (numI s st.now.to).2.2]) ∧ ∃ p : Regrown, w'' = grow (redrawn w p.d) p.os) := fun d os =>
    Calls.regrown_of (number_any s (st.now.to : Int) _ (hE.tab.below (below_regrown w d os)) (by unfold maxLen; omega))
  generalize st.now.to = to at *
  generalize numI s (to : Int) = x at *
  obtain ⟨n, b, er⟩ := x
  simp only at cN
  have HB : Hid (decide (er ≠ 11) = (er != 11)) := by show _ = _; by_cases h : er = 11 <;> simp [h]
  show Calls _ _ _ _ fun e w' => e = .returned (.bool (decide (er ≠ 11))) ∧ _
  rw [HB.out]
  clear hM hE c4 HB
  go_enter Tryd.func160, Tryd.ntmps160
  go_wp2_with fail
  refine wp_region_quiet_below (by kernel_rfl) (by kernel_rfl) ?_
  iterate 17 (go_big_quiet_step ((go_at_call 71; exact cN.out _ _)))
  refine wpQuiet_nil ?_
  intro _ hw'
  obtain ⟨⟨ds, oss⟩, hw''⟩ := hw'
  subst hw''
  go_wp2_with fail
  go_ret
  exact ⟨rfl, below_regrown w ds oss⟩

set_option maxHeartbeats 1000000 in
theorem operator_any (c : Int) (w : World) :
    Calls Tryd.prog 150 #[.int .i32 c] w fun e w' => e = .returned (.tuple #[.int .i64 (psOp c).1, .int .i64 ((psOp c).2 : Nat)]) ∧ w' = w := by
  go_enter Tryd.func150, Tryd.ntmps150
  go_wp2
  all_goals go_ret2
  all_goals exact ⟨by first | (unfold psOp; simp_all; done) | (unfold psOp; simp_all; omega), rfl⟩
end Go.Proofs.YtdcfffcimikfeaaDoor

set_option linter.unusedSimpArgs false
set_option linter.unusedVariables false
namespace Go.Proofs.YtdcfffcimikfeaaDoor
open Go.RowKit Go.Lib Go.Sort

set_option maxHeartbeats 2000000 in
theorem expect_any (w0 w : World) (B : Nat) (s : ByteArray) (pat : Bool) (st : Ps) (v : Value) (c : Int) (hE : PEnv w0 B w) (hM : PsM w B s pat st v) (hs : s.size ≤ 4096) (hto : st.now.err = 0 → st.now.to ≤ s.size) :
    Calls Tryd.prog 90 #[.pointer (some ⟨B, 0, none⟩), .int .i32 c] w fun e w' => ExP w B s pat v (psEx s pat c st) e w' := by
  have hpn : ∀ (x : Value) (w : World), (Instr.panic (.iface 111 x)).run Tryd.prog w = .halt (.panic (.iface 111 x)) w := fun _ _ => rfl
  have c2 : w.cell? ⟨B, 2, none⟩ = some (.int .i32 st.now.what) := hM.cell 2
  have c3 : w.cell? ⟨B, 3, none⟩ = some (.int .i64 (st.now.from_ : Int)) := hM.cell 3
  have c6 : w.cell? ⟨B, 6, none⟩ = some (.int .i64 st.now.err) := hM.cell 6
  unfold psEx
  by_cases hw : st.now.what = c
  · rw [if_pos hw]
    by_cases he : st.now.err = 0
    · rw [if_pos he]
      have hno := psNx_in s pat mx63 st
      have cN := next_any w0 w B s pat st v hE hM hs (hto he)
      have gw : (st.now.what != c) = false := by simp [hw]
      have ge : (st.now.err != 0) = false := by simp [he]
      generalize psNx s pat mx63 st = X at *
      generalize st.now.what = wh at *
      generalize st.now.err = er at *
      clear hw he hM hE hto
      cases X with
      | ok t =>
        have c' : Calls Tryd.prog 88 #[.pointer (some ⟨B, 0, none⟩)] w fun e w' => (e = .returned (.tuple #[]) ∧ PsM w' B s pat t v) ∧ w.grownBy w' (some B) := cN
        clear cN hno
        go_enter Tryd.func90, Tryd.ntmps90
        go_wp2_with (go_at_call 88; refine c'.mono ?_; rintro e w2 ⟨⟨rfl, h2⟩, hb2⟩)
        go_end0
        exact ⟨⟨rfl, h2⟩, hb2⟩
      | bad p er =>
        have c' : Calls Tryd.prog 88 #[.pointer (some ⟨B, 0, none⟩)] w fun e w' => e = .panicked [{ v := fltV p er, recovered := false }] ∧ w.grownBy w' (some B) := cN
        clear cN hno
        go_enter Tryd.func90, Tryd.ntmps90
        go_wp2_with (go_at_call 88; refine c'.mono ?_; rintro e w2 ⟨rfl, hb2⟩)
        exact ⟨rfl, rfl, hb2⟩
      | out => exact absurd rfl hno
    · rw [if_neg he]
      have gw : (st.now.what != c) = false := by simp [hw]
      have ge : (st.now.err != 0) = true := by simp [he]
      generalize st.now.what = wh at *
      generalize st.now.err = er at *
      generalize st.now.from_ = fr at *
      have g3 := cell_regrown c3
      have g6 := cell_regrown c6
      clear hw he hM hE hto
      go_enter Tryd.func90, Tryd.ntmps90
      go_wp2_with fail
      refine wp_region_quiet_then 14 (by kernel_rfl) (by kernel_rfl) ?_
      simp only [List.take_succ_cons, List.take_zero]
      iterate 14 (go_big_quiet_step (fail))
      refine wpQuiet_nil ?_
      intro w' hw'
      obtain ⟨⟨dq, osq⟩, hw''⟩ := hw'
      subst hw''
      simp only [List.drop_succ_cons, List.drop_zero]
      have hb5 : w.grownBy (grow (redrawn w dq) osq) (some B) := gr_of_below (below_regrown w dq osq) _
      go_wp2_with fail
      exact ⟨rfl, rfl, hb5⟩
  · rw [if_neg hw]
    have gw : (st.now.what != c) = true := by simp [hw]
    generalize st.now.what = wh at *
    generalize st.now.from_ = fr at *
    clear hw hM hE hto
    go_enter Tryd.func90, Tryd.ntmps90
    go_wp2_with fail
    exact ⟨rfl, rfl, World.grownBy.refl _ _⟩

/-- What a call that leaves a place and a state does. -/
def AdP (w : World) (B : Nat) (s : ByteArray) (pat : Bool) (x : Pr (Nat × Ps)) (e : Ending) (w' : World) : Prop :=
  Ends x e (fun r => e = .returned (.int .i64 (r.1 : Int)) ∧ ∃ v', PsM w' B s pat r.2 v') ∧ RowKit.Below B w w'

set_option maxRecDepth 20000 in
set_option maxHeartbeats 4000000 in
theorem padd_any (w : World) (B : Nat) (s : ByteArray) (pat : Bool) (st : Ps) (v : Value) (x : Nd) (ka : Option Addr) (kc : Nat) (hM : PsM w B s pat st v) (hk : OwnI w (B + 1) (.slice ka x.kids.length kc) x.kids) (hlen : st.nodes.length ≤ 100000) :
    Calls Tryd.prog 151 #[.pointer (some ⟨B, 0, none⟩), .agg #[.int .i64 x.op, .int .i64 x.n, .string x.name, .slice ka x.kids.length kc] ] w fun e w' => AdP w B s pat (.ok (psAdd x st)) e w' := by
  obtain ⟨i0, hi, hz0, hz1, hz2⟩ := info_parts Tryd.infoNode
  obtain ⟨p, hp, hO⟩ := hM.own
  have hpl : p.length = st.nodes.length := by rw [← hp]; simp
  obtain ⟨va, vc, hv⟩ := row_form' hO.row
  subst hv
  have hBl := hM.lt
  have c7 : w.cell? ⟨B, 7, none⟩ = some (.slice va p.length vc) := hM.cell 7
  have f7 : w.frozen? ⟨B, 7, none⟩ = false := hM.frozen 7
  have HM : Hid (PsM w B s pat st (.slice va p.length vc)) := hM
  have HO : Hid (OwnP w (B + 1) (.slice va p.length vc) p) := hO
  have HK : Hid (OwnI w (B + 1) (.slice ka x.kids.length kc) x.kids) := hk
  have HP : Hid (p.map (·.1) = st.nodes) := hp
  obtain ⟨op, n, nm, ks⟩ := x
  simp only at HK
  obtain ⟨W1, hW1⟩ : ∃ W1, w.alloc (.cells #[.int .i64 op, .int .i64 n, .string nm, .slice ka ks.length kc] 62) = W1 := ⟨_, rfl⟩
  have hb1 : RowKit.Below w.heap.size w W1 := by rw [← hW1]; exact (Below.refl _ _).alloc (Nat.le_refl _) _
  have hz : W1.heap.size = w.heap.size + 1 := by rw [← hW1]; simp
  have e0 : W1.cell? ⟨w.heap.size, 0, none⟩ = some (.int .i64 op) := by rw [← hW1]; simp
  have e1 : W1.cell? ⟨w.heap.size, 1, none⟩ = some (.int .i64 n) := by rw [← hW1]; simp
  have e2 : W1.cell? ⟨w.heap.size, 2, none⟩ = some (.string nm) := by rw [← hW1]; simp
  have e3 : W1.cell? ⟨w.heap.size, 3, none⟩ = some (.slice ka ks.length kc) := by rw [← hW1]; simp
  have c7' : W1.cell? ⟨B, 7, none⟩ = some (.slice va p.length vc) := (hb1.cell (p := ⟨B, 7, none⟩) hBl).trans c7
  have f7' : W1.frozen? ⟨B, 7, none⟩ = false := (HM.out.below hb1).frozen 7
  have HW1 : Hid (w.alloc (.cells #[.int .i64 op, .int .i64 n, .string nm, .slice ka ks.length kc] 62) = W1) := hW1
  have z7 : ∀ o, (W1.alloc o).cell? ⟨B, 7, none⟩ = some (.slice va p.length vc) := fun o => (World.cell?_alloc_past _ _ _ (by show B < W1.heap.size; omega)).trans c7'
  have hrow := (hO.below hb1).row
  have HP6 : Hid (∀ (o : Obj) (w6 : World), (W1.alloc o).drew.grownBy w6 (Value.slice va p.length vc).ownBlock → w6.heap[B]? = W1.heap[B]?) := fun o w6 hg => by
    have h1 := hg.block B (by show B < (W1.alloc o).heap.size; rw [World.size_alloc]; omega) (fun e => by have := (own_block' hrow B e.symm).1; omega)
    exact h1.trans (alloc_old _ _ _ (by omega))
  have HB1 : Hid (RowKit.Below w.heap.size w W1) := hb1
  obtain ⟨PL, hPL⟩ : ∃ PL, p.length = PL := ⟨_, rfl⟩
  rw [hPL] at c7' z7 hrow
  have HPL : Hid (p.length = PL) := hPL
  have hPL2 : PL ≤ 100000 := by omega
  clear hM hO hk hp hW1 hb1 c7 f7
  go_enter Tryd.func151, Tryd.ntmps151
  go_wp2_with fail
  rw [HW1.out]
  go_region_law (refine step_append_lies _ rfl (.tmp 9) (.tmp 11) 22 rfl (B + 1) 62 i0 (.agg #[.int .i64 0, .int .i64 0, .string ⟨#[]⟩, .slice none 0 0]) 4 56 Tryd.underlying22 hi hz0 hz1 hz2 rfl (by decide) _ _ _ (by simp [Act.eval, Act.put]) (hrow.alloc _) ⟨W1.heap.size, 0, none⟩ 1 1 [.int .i64 op, .int .i64 n, .string nm, .slice ka ks.length kc] (by simp [Act.eval, Act.put]) rfl (cell_news4 W1 _ _ _ _ _ _ rfl) (by simp [Value.oneCell']) (by omega) (by unfold maxLen; omega) (by omega) (by simp; omega) _ rfl ?_; intro g6 cap6 w6 hown6 hg6 hat6 hl6; have hnd6 := HP6.out _ w6 (by rw [HPL.out]; exact hg6); have m6 : w6.cell? ⟨B, 7, none⟩ = some (.slice va PL vc) := (World.cell?_of_block (a := ⟨B, 7, none⟩) hnd6).trans c7'; have m6f : w6.frozen? ⟨B, 7, none⟩ = false := (World.frozen?_of_block (a := ⟨B, 7, none⟩) hnd6).trans f7')
  all_goals
    have hbA : RowKit.Below W1.heap.size W1 (W1.alloc (.cells #[.int .i64 op, .int .i64 n, .string nm, .slice ka ks.length kc] 62)).drew := ((Below.refl _ _).alloc (Nat.le_refl _) _).drew
    have hO1 := (HO.out.below HB1.out).below hbA
    have hK1 := (HK.out.below HB1.out).below hbA
    have hg6' := hg6
    rw [← HPL.out] at hown6 hg6'
    have hO6 := OwnP.snoc (x := ⟨op, n, nm, ks⟩) hO1 hK1 hown6 hg6'
    have hbB : w6.heap[B]? = w.heap[B]? := hnd6.trans (HB1.out.block B hBl)
    have hN6 : OwnN w6 (B + 1) (.slice (some ⟨g6, 0, none⟩) (p.length + 1) cap6) (st.nodes ++ [⟨op, n, nm, ks⟩]) := ⟨_, by rw [List.map_append, HP.out]; rfl, hO6⟩
    have hFin := HM.out.nds hbB hN6
    rw [HPL.out] at hFin
    have HFIN : Hid (PsM (w6.setCell ⟨B, 7, none⟩ (.slice (some ⟨g6, 0, none⟩) (PL + 1) cap6)) B s pat { st with nodes := st.nodes ++ [⟨op, n, nm, ks⟩] } (.slice (some ⟨g6, 0, none⟩) (PL + 1) cap6)) := hFin
    have q7 : (w6.setCell ⟨B, 7, none⟩ (.slice (some ⟨g6, 0, none⟩) (PL + 1) cap6)).cell? ⟨B, 7, none⟩ = some (.slice (some ⟨g6, 0, none⟩) (PL + 1) cap6) := hFin.cell 7
    have hB0 : RowKit.Below B w W1 := HB1.out.mono (by omega)
    have hB1 : RowKit.Below B w (W1.alloc (.cells #[.int .i64 op, .int .i64 n, .string nm, .slice ka ks.length kc] 62)).drew := hB0.trans (hbA.mono (by omega))
    have hB2 : RowKit.Below B w w6 := hB1.grown hg6 (by show B ≤ (W1.alloc _).heap.size; rw [World.size_alloc]; omega) (fun j hj => by have := (own_block' hrow j hj).1; omega)
    have HBF : Hid (RowKit.Below B w (w6.setCell ⟨B, 7, none⟩ (.slice (some ⟨g6, 0, none⟩) (PL + 1) cap6))) := hB2.setCell (p := ⟨B, 7, none⟩) (Nat.le_refl B) _
    clear hB0 hB1 hB2
    obtain ⟨w7, hw7⟩ : ∃ w7, w6.setCell ⟨B, 7, none⟩ (.slice (some ⟨g6, 0, none⟩) (PL + 1) cap6) = w7 := ⟨_, rfl⟩
    rw [hw7] at HFIN q7 HBF
    rw [hw7]
    have HLL : Hid ((psAdd ⟨op, n, nm, ks⟩ st).1 = PL) := by show st.nodes.length = PL; rw [← hpl, HPL.out]
    clear hbA hO1 hK1 hg6' hO6 hN6 hFin hw7 hown6 hg6 m6 m6f z7 c7' e0 e1 e2 e3
    go_wp2_with fail
    go_ret
    refine ⟨⟨?_, _, HFIN.out⟩, HBF.out⟩
    rw [HLL.out]
    first | rfl | (congr 2; omega)

set_option maxHeartbeats 1000000 in
theorem pjoin_any (w : World) (B : Nat) (s : ByteArray) (pat : Bool) (st : Ps) (v : Value) (op : Int) (ks : List Nat) (ka : Option Addr) (kc : Nat) (hM : PsM w B s pat st v) (hk : OwnI w (B + 1) (.slice ka ks.length kc) (ks.map Int.ofNat)) (hlen : st.nodes.length ≤ 100000) :
    Calls Tryd.prog 131 #[.pointer (some ⟨B, 0, none⟩), .int .i64 op, .slice ka ks.length kc] w fun e w' => AdP w B s pat (.ok (psJoin op ks st)) e w' := by
  have c := padd_any w B s pat st v ⟨op, 0, ⟨#[]⟩, ks.map Int.ofNat⟩ ka kc hM (by simpa using hk) hlen
  simp only [List.length_map] at c
  obtain ⟨r, hr⟩ : ∃ r, psAdd ⟨op, 0, ⟨#[]⟩, ks.map Int.ofNat⟩ st = r := ⟨_, rfl⟩
  show Calls _ _ _ _ fun e w' => AdP w B s pat (.ok (psAdd ⟨op, 0, ⟨#[]⟩, ks.map Int.ofNat⟩ st)) e w'
  rw [hr] at c ⊢
  have c' : Calls Tryd.prog 151 #[.pointer (some ⟨B, 0, none⟩), .agg #[.int .i64 op, .int .i64 0, .string ⟨#[]⟩, .slice ka ks.length kc] ] w fun e w' => (e = .returned (.int .i64 (r.1 : Int)) ∧ ∃ v', PsM w' B s pat r.2 v') ∧ RowKit.Below B w w' := c
  clear c hM hk hr
  generalize ks.length = kl at *
  go_enter Tryd.func131, Tryd.ntmps131
  go_wp2_with (go_at_call 151; refine c'.mono ?_; rintro e w2 ⟨⟨rfl, h2⟩, hb2⟩)
  go_ret
  exact ⟨⟨rfl, h2⟩, hb2⟩
end Go.Proofs.YtdcfffcimikfeaaDoor
