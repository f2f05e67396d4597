/-
  PkSt, PkNuW, PkExW.
-/
import Derived.Shelf.Unicode.DecodeSlow
import Derived.Laws.RangeAny
import Derived.Shelf.Strings.Builder1
import Derived.Shelf.Small.Utf8
import Derived.Shelf.Small.Bits
import Derived.Shelf.Strings.BuilderF
import Derived.Shelf.Strings.BuilderK
import Derived.Shelf.Strings.BuilderRune
import Derived.Shelf.Utf8.AppendRune
import Derived.Shelf.Strconv.Itoa0
import Derived.Shelf.Strconv.Itoa1
import Derived.Shelf.LaysM
import Derived.Shelf.Strconv.Itoa2
import Derived.Shelf.Strconv.Itoa3
import Derived.Shelf.Strconv.Itoa4
import Derived.Shelf.Strings.Prefix
import Derived.Shelf.Unicode.DecodeAny
import Derived.Test.YtjmccobblpcbhaaDoorProg
import Derived.WalkKit
import Derived.Deep.DeepFit
import Derived.Lib.OthersKept
import Derived.Lib.RuneCountTail
import Derived.Laws.DeepStrings4
import Derived.Deep.AppendLies
import Derived.Deep.OwnRows
import Derived.Laws.AppendOwnNone
import Derived.Deep.QuietTactic
import Derived.BigQuiet
import Derived.Deep.RegionWith
import Derived.Lib.QuietBelow
import Derived.StillTail
import Derived.Below
import Derived.Lib.Small
import Derived.Lib.Strings
import Derived.Lib.MapLaws
import Derived.Deep.RegionHeld3
import Derived.Laws.ResultCell
import Derived.Deep.Heap
import Derived.Laws.Rows
import Derived.Test.YtjmccobblpcbhaaDoorM01
import Derived.Test.YtjmccobblpcbhaaDoorM02
import Derived.Test.YtjmccobblpcbhaaDoorM03
import Derived.Test.YtjmccobblpcbhaaDoorM04
import Derived.Test.YtjmccobblpcbhaaDoorM05
import Derived.Test.YtjmccobblpcbhaaDoorM06
import Derived.Test.YtjmccobblpcbhaaDoorM07
import Derived.Test.YtjmccobblpcbhaaDoorM08
import Derived.Test.YtjmccobblpcbhaaDoorM09
import Derived.Test.YtjmccobblpcbhaaDoorM13
import Derived.Test.YtjmccobblpcbhaaDoorM15
import Derived.Test.YtjmccobblpcbhaaDoorM16
import Derived.Test.YtjmccobblpcbhaaDoorM17
import Derived.Test.YtjmccobblpcbhaaDoorM18
import Derived.Test.YtjmccobblpcbhaaDoorM19
import Derived.Test.YtjmccobblpcbhaaDoorM20
set_option linter.unusedSimpArgs false
set_option linter.unusedVariables false
namespace Go.Proofs.YtjmccobblpcbhaaDoor
open Go.RowKit Go.Lib

def psCs (s : ByteArray) (pat : Bool) (t : Tk) (v : Value) (brk : Nat) : Array Value := #[.string s, .bool pat, .int .i32 t.what, .int .i64 t.from_, .int .i64 t.to, .int .u64 t.n, .int .i64 t.err, v, .int .i64 brk]
/-- Nodes that are owned, no two rows of kids one. -/
def OwnA (w : World) (base : Nat) (v : Value) (l : List Nd) : Prop := ∃ p : List (Nd × Value), p.map (·.1) = l ∧ OwnP w base v p ∧ KdAp p
theorem OwnA.n {w : World} {base : Nat} {v : Value} {l : List Nd} (h : OwnA w base v l) : OwnN w base v l := let ⟨p, h1, h2, _⟩ := h; ⟨p, h1, h2⟩
theorem OwnA.below {w w' : World} {base : Nat} {v : Value} {l : List Nd} (h : OwnA w base v l) (hb : Below w.heap.size w w') : OwnA w' base v l := let ⟨p, h1, h2, h3⟩ := h; ⟨p, h1, h2.below hb, h3⟩
theorem OwnA.mono {w : World} {base base' : Nat} {v : Value} {l : List Nd} (h : OwnA w base v l) (hb : base' ≤ base) : OwnA w base' v l := let ⟨p, h1, h2, h3⟩ := h; ⟨p, h1, ⟨ownsRow_mono h2.row hb, fun q hq => ownsRow_mono (h2.kids q hq) hb⟩, h3⟩
theorem OwnA_nil (w : World) (base : Nat) : OwnA w base (.slice none 0 0) [] := ⟨[], rfl, ⟨World.ownsRow_nil _ _ _ _, by simp⟩, List.Pairwise.nil⟩
/-- Block B is the parser in the state st; v holds its nodes. -/
structure PsM (w : World) (B : Nat) (s : ByteArray) (pat : Bool) (st : Ps) (v : Value) : Prop where
  blk : w.heap[B]? = some (.cells (psCs s pat st.now v st.brk) 121 (0, 0))
  own : OwnA w (B + 1) v st.nodes
theorem PsM.lt {w : World} {B : Nat} {s : ByteArray} {pat : Bool} {st : Ps} {v : Value} (h : PsM w B s pat st v) : B < w.heap.size := lt_of_block h.blk
theorem PsM.below {w w' : World} {B : Nat} {s : ByteArray} {pat : Bool} {st : Ps} {v : Value} (h : PsM w B s pat st v) (hb : Below w.heap.size w w') : PsM w' B s pat st v :=
  ⟨(hb.block _ h.lt).trans h.blk, h.own.below hb⟩
theorem PsM.cell {w : World} {B : Nat} {s : ByteArray} {pat : Bool} {st : Ps} {v : Value} (h : PsM w B s pat st v) (i : Nat) : w.cell? ⟨B, i, none⟩ = (psCs s pat st.now v st.brk)[i]? := by simp [World.cell?, h.blk]
theorem PsM.tx {w : World} {B : Nat} {s : ByteArray} {pat : Bool} {st : Ps} {v : Value} (h : PsM w B s pat st v) : TxAt w B s pat := ⟨h.cell 0, h.cell 1⟩
theorem PsM.frozen {w : World} {B : Nat} {s : ByteArray} {pat : Bool} {st : Ps} {v : Value} (h : PsM w B s pat st v) (i : Nat) : w.frozen? ⟨B, i, none⟩ = false := by simp [World.frozen?, h.blk]

theorem own_setB {w : World} {B o : Nat} {u v : Value} {l : List Nd} (h : OwnA w (B + 1) v l) : OwnA (w.setCell ⟨B, o, none⟩ u) (B + 1) v l := by
  have key : ∀ {e : TypeId} {s n : Nat} {v : Value} {xs : List Value}, w.ownsRow (B + 1) e s v n xs → (w.setCell ⟨B, o, none⟩ u).ownsRow (B + 1) e s v n xs := fun {e s n v xs} hr =>
    World.ownsRow.kept (row := some B) hr ⟨rfl, rfl, rfl, by simp [World.setCell], fun k _ hk => Below.heap_setCell _ _ _ _ (fun e => hk (by simp [e]))⟩ (by
      cases hv : v.ownBlock with
      | none => exact .inl rfl
      | some j => exact .inr (fun e => by have h1 := (own_block' hr j hv).1; have : j = B := by simpa using e
                                          omega))
  obtain ⟨p, h1, h2, h3⟩ := h
  exact ⟨p, h1, ⟨key h2.row, fun q hq => key (h2.kids q hq)⟩, h3⟩

/-- The token set. -/
def setNow (w : World) (B : Nat) (t : Tk) : World := ((((w.setCell ⟨B, 2, none⟩ (.int .i32 t.what)).setCell ⟨B, 3, none⟩ (.int .i64 t.from_)).setCell ⟨B, 4, none⟩ (.int .i64 t.to)).setCell ⟨B, 5, none⟩ (.int .u64 t.n)).setCell ⟨B, 6, none⟩ (.int .i64 t.err)
theorem PsM.tok {w : World} {B : Nat} {s : ByteArray} {pat : Bool} {st : Ps} {v : Value} (h : PsM w B s pat st v) (t : Tk) : PsM (setNow w B t) B s pat { st with now := t } v := by
  refine ⟨?_, own_setB (own_setB (own_setB (own_setB (own_setB h.own))))⟩
  have h0 := heap_setCell_same w B 2 _ _ (.int .i32 t.what) h.blk
  have h1 := heap_setCell_same _ B 3 _ _ (.int .i64 (t.from_ : Int)) h0
  have h2 := heap_setCell_same _ B 4 _ _ (.int .i64 (t.to : Int)) h1
  have h3 := heap_setCell_same _ B 5 _ _ (.int .u64 (t.n : Int)) h2
  have h4 := heap_setCell_same _ B 6 _ _ (.int .i64 t.err) h3
  exact h4
/-- The nodes set. -/
theorem PsM.nds {w w' : World} {B : Nat} {s : ByteArray} {pat : Bool} {st : Ps} {v v' : Value} {l : List Nd} (h : PsM w B s pat st v) (hb : w'.heap[B]? = w.heap[B]?) (hO : OwnA w' (B + 1) v' l) : PsM (w'.setCell ⟨B, 7, none⟩ v') B s pat { st with nodes := l } v' :=
  ⟨heap_setCell_same w' B 7 _ _ v' (hb.trans h.blk), own_setB hO⟩
/-- The brackets set. -/
theorem PsM.brks {w : World} {B : Nat} {s : ByteArray} {pat : Bool} {st : Ps} {v : Value} (h : PsM w B s pat st v) (k : Nat) : PsM (w.setCell ⟨B, 8, none⟩ (.int .i64 k)) B s pat { st with brk := k } v :=
  ⟨heap_setCell_same w B 8 _ _ (.int .i64 (k : Int)) h.blk, own_setB h.own⟩

/-- The tables lie below the parser, since the world w0. -/
structure PEnv (w0 : World) (B : Nat) (w : World) : Prop where
  tabs : Tabs w0
  le : w0.heap.size ≤ B
  bel : Below w0.heap.size w0 w
theorem PEnv.tab {w0 : World} {B : Nat} {w : World} (h : PEnv w0 B w) : Tabs w := h.tabs.below h.bel
theorem PEnv.next {w0 : World} {B : Nat} {w w' : World} (h : PEnv w0 B w) (hb : Below B w w') : PEnv w0 B w' := ⟨h.tabs, h.le, h.bel.trans (hb.mono h.le)⟩

theorem psSkip_step (s : ByteArray) (f p : Nat) (hp : p < s.size) : psSkip s (f + 1) p = if kd (Utf8.decode s p).1 = 3 then psSkip s f (p + (Utf8.decode s p).2) else p := by
  simp [psSkip, hp]
theorem psSkip_end (s : ByteArray) (f p : Nat) (hp : ¬ p < s.size) : psSkip s f p = p := by cases f <;> simp [psSkip, hp]
theorem Ends.mono {α : Type} {x : Pr α} {e : Ending} {Q Q' : α → Prop} (h : Ends x e Q) (hq : ∀ a, x = .ok a → Q a → Q' a) : Ends x e Q' := by
  cases x with
  | ok a => exact hq a rfl h
  | bad p er => exact h
  | out => trivial
theorem Ends.map {α β : Type} {x : Pr α} {e : Ending} {f : α → β} {Q : β → Prop} (h : Ends x e (fun a => Q (f a))) : Ends (x.bind fun a => .ok (f a)) e Q := by
  cases x with
  | ok a => exact h
  | bad p er => exact h
  | out => trivial

/-- All but block B stands, and what is new lies behind. -/
theorem gr_of_below {w w' : World} (h : RowKit.Below w.heap.size w w') (row : Option Nat) : w.grownBy w' row := ⟨h.os, h.tape, h.output, h.size, fun k hk _ => h.block k hk⟩
theorem gr_setB {w0 w : World} {B o : Nat} {u : Value} (h : w0.grownBy w (some B)) : w0.grownBy (w.setCell ⟨B, o, none⟩ u) (some B) :=
  ⟨h.os, h.tape, h.output, by simpa [World.setCell] using h.size, fun k hk hne => (Below.heap_setCell _ _ _ _ (fun e => hne (by rw [e]))).trans (h.block k hk hne)⟩
theorem gr_setNow {w0 w : World} {B : Nat} (h : w0.grownBy w (some B)) (t : Tk) : w0.grownBy (setNow w B t) (some B) := gr_setB (gr_setB (gr_setB (gr_setB (gr_setB h))))
theorem below_of_gr {w w' : World} {B : Nat} (h : w.grownBy w' (some B)) (hB : B ≤ w.heap.size) : RowKit.Below B w w' := ⟨h.os, h.tape, h.output, h.size, fun k hk => h.block k (by omega) (by intro e; cases e; omega)⟩
end Go.Proofs.YtjmccobblpcbhaaDoor

set_option linter.unusedSimpArgs false
set_option linter.unusedVariables false
namespace Go.Proofs.YtjmccobblpcbhaaDoor
open Go.RowKit Go.Lib Go.Sort

theorem psAt_in (s : ByteArray) (pat : Bool) (most p : Nat) (r : Int) : psAt s pat most p r ≠ .out := by
  unfold psAt
  split
  · intro h; cases h
  · split
    · intro h; cases h
    · split <;> (intro h; cases h)

/-- What nextUpTo does. -/
def NuP (w : World) (B : Nat) (s : ByteArray) (pat : Bool) (st : Ps) (v : Value) (x : Pr Tk) (e : Ending) (w' : World) : Prop :=
  Ends x e (fun t => e = .returned (.tuple #[]) ∧ PsM w' B s pat { st with now := t } v) ∧ w.grownBy w' (some B)

set_option maxRecDepth 20000 in
set_option maxHeartbeats 4000000 in
theorem nextUp_any (w0 w : World) (B : Nat) (s : ByteArray) (pat : Bool) (st : Ps) (v : Value) (most : Nat) (hE : PEnv w0 B w) (hM : PsM w B s pat st v) (hs : s.size ≤ 4096) (hto : st.now.to ≤ s.size) (hm : most ≤ 9223372036854775808) :
    Calls Tryd.prog 123 #[.pointer (some ⟨B, 0, none⟩), .int .u64 most] w fun e w' => NuP w B s pat st v (psNext s pat most st.now.to) e w' := by
  have c0 := hM.tx.text
  have c4 : w.cell? ⟨B, 4, none⟩ = some (.int .i64 (st.now.to : Int)) := hM.cell 4
  have hBl := hM.lt
  have hBn : B ≠ w.heap.size := by omega
  have HM : Hid (PsM w B s pat st v) := hM
  have HE : Hid (PEnv w0 B w) := hE
  obtain ⟨X, hX⟩ : ∃ X, psNext s pat most st.now.to = X := ⟨_, rfl⟩
  have HX : Hid (X = psFrom s pat most (psSkip s s.size st.now.to)) := hX.symm
  rw [hX]
  clear hX
  generalize hto' : st.now.to = to at *
  obtain ⟨t, ht⟩ : ∃ t, s.extract to s.size = t := ⟨_, rfl⟩
  have hts : t.size = s.size - to := by rw [← ht]; exact tail_size s to
  have HT : Hid (s.extract to s.size = t) := ht
  have HD : Hid (∀ i, Utf8.decode t i = Utf8.decode s (to + i)) := fun i => by rw [← ht]; exact dec_tail s to i
  clear hto' hM hE ht
  go_enter Tryd.func123, Tryd.ntmps123
  go_wp2_with fail
  rw [HT.out]
  go_loopw [] (fun wr => ∃ pos f : Nat, It w t pos wr ∧ Hid (psSkip s f (to + pos) = psSkip s s.size to) ∧ s.size ≤ to + pos + f ∧ pos ≤ t.size) (fun wr => t.size - wr.iterPos w.heap.size)
  case atStart => exact ⟨0, s.size, It.start w t, rfl, by omega, by omega⟩
  case round =>
    obtain ⟨pos, f, hI, hsk, hf, hpt⟩ := hrel
    have hit := hI.at_
    by_cases hp : pos < t.size
    · have hnx : ∀ ty, (Instr.next (.pointer (some ⟨w.heap.size, 0, none⟩)) true ty).run Tryd.prog wr = _ := fun ty => run_next_any_at wr w.heap.size t pos ty hit hp
      have hwd := width_pos t pos hp
      have hle := dec_le t pos hp
      have hps : to + pos < s.size := by omega
      obtain ⟨f, rfl⟩ : ∃ g, f = g + 1 := ⟨f - 1, by omega⟩
      have hst := psSkip_step s f (to + pos) hps
      rw [← HD.out pos] at hst
      have hI2 := hI.next (pos + (Utf8.decode t pos).2)
      have hpos := hI.pos
      have HR : Hid (((Utf8.decode s (to + pos)).1 : Int) = ((Utf8.decode t pos).1 : Int)) := by show _ = _; rw [HD.out pos]
      generalize hw2 : (Utf8.decode t pos).2 = wd at *
      generalize hr2 : ((Utf8.decode t pos).1 : Int) = r at *
      clear hw2 hr2
      have HST : Hid (psSkip s (f + 1) (to + pos) = if kd r = 3 then psSkip s f (to + pos + wd) else to + pos) := hst
      have hTab : Tabs (wr.iterAt w.heap.size t (pos + wd)) := HE.out.tab.below hI2.below
      have cK := kind_any r _ hTab.spans
      have HI2 : Hid (It w t (pos + wd) (wr.iterAt w.heap.size t (pos + wd))) := hI2
      clear hst hI hI2
      by_cases hk : kd r = 3
      · rw [hk] at cK
        have HSK : Hid (psSkip s f (to + (pos + wd)) = psSkip s s.size to) := by show _ = _; rw [← hsk.out, HST.out, if_pos hk, Nat.add_assoc]
        clear hk hsk HST
        go_wp2_with (go_at_call 104; refine cK.mono ?_; rintro e w2 ⟨rfl, hb2⟩)
        exact ⟨⟨pos + wd, f, HI2.out.call hb2, HSK.out, by omega, by omega⟩, by rw [(HI2.out.call hb2).pos, hpos]; omega⟩
      · have HXX : Hid (X = psAt s pat most (to + pos) r) := by
          show X = _
          rw [HX.out, ← hsk.out, HST.out, if_neg hk]
          unfold psFrom
          rw [if_pos hps, HR.out]
        have HNO : Hid (X ≠ .out) := by show X ≠ _; rw [HXX.out]; exact psAt_in _ _ _ _ _
        have hkb : (kd r != 3) = true := by simpa using hk
        generalize kd r = kr at *
        clear hk hsk HST
        go_wp2_with (go_at_call 104; refine cK.mono ?_; rintro e w2 ⟨rfl, hb2⟩)
        have hI3 := HI2.out.call hb2
        have hM2 := HM.out.below hI3.below
        have hbw2 : RowKit.Below w.heap.size w w2 := hI3.below
        have cA := at_any w2 B s pat most (to + pos) r (HE.out.tab.below hI3.below) hM2.tx hps hs hm HR.out
        rw [← HXX.out, Int.natCast_add] at cA
        have HM2 : Hid (PsM w2 B s pat st v) := hM2
        have HB2 : Hid (RowKit.Below w.heap.size w w2) := hbw2
        have hB2 := hM2.lt
        clear hI3 hM2 hbw2 HI2 HXX HX cK
        cases X with
        | ok tk =>
          have cA' : Calls Tryd.prog 141 #[.pointer (some ⟨B, 0, none⟩), .int .i64 ((to : Int) + (pos : Int)), .int .i32 r, .int .u64 most] w2 fun e w' => e = .returned (.agg #[.int .i32 tk.what, .int .i64 tk.from_, .int .i64 tk.to, .int .u64 tk.n, .int .i64 tk.err]) ∧ Below w2.heap.size w2 w' := cA
          clear cA
          go_wp2_with (go_at_call 141; refine cA'.mono ?_; rintro e w3 ⟨rfl, hb3⟩; have q2 : w3.cell? ⟨B, 2, none⟩ = some (.int .i32 st.now.what) := (HM2.out.below hb3).cell 2; have q3 : w3.cell? ⟨B, 3, none⟩ = some (.int .i64 st.now.from_) := (HM2.out.below hb3).cell 3; have q4 : w3.cell? ⟨B, 4, none⟩ = some (.int .i64 st.now.to) := (HM2.out.below hb3).cell 4; have q5 : w3.cell? ⟨B, 5, none⟩ = some (.int .u64 st.now.n) := (HM2.out.below hb3).cell 5; have q6 : w3.cell? ⟨B, 6, none⟩ = some (.int .i64 st.now.err) := (HM2.out.below hb3).cell 6; have qf := (HM2.out.below hb3).frozen)
          go_end0
          exact ⟨⟨rfl, (HM2.out.below hb3).tok tk⟩, gr_setNow (gr_of_below (HB2.out.trans (hb3.mono HB2.out.size)) _) tk⟩
        | bad p er =>
          have cA' : Calls Tryd.prog 141 #[.pointer (some ⟨B, 0, none⟩), .int .i64 ((to : Int) + (pos : Int)), .int .i32 r, .int .u64 most] w2 fun e w' => e = .panicked [{ v := fltV p er, recovered := false }] ∧ Below w2.heap.size w2 w' := cA
          clear cA
          go_wp2_with (go_at_call 141; refine cA'.mono ?_; rintro e w3 ⟨rfl, hb3⟩)
          exact ⟨rfl, rfl, gr_of_below (HB2.out.trans (hb3.mono HB2.out.size)) _⟩
        | out => exact absurd rfl HNO.out
    · have hnx : ∀ ty, (Instr.next (.pointer (some ⟨w.heap.size, 0, none⟩)) true ty).run Tryd.prog wr = _ := fun ty => run_next_end_at wr w.heap.size t pos ty hit hp
      have hXe : X = .ok (psEnd s) := by
        rw [HX.out, ← hsk.out, psSkip_end s f (to + pos) (by omega)]
        unfold psFrom
        rw [if_neg (by omega)]
      subst hXe
      have hM2 := HM.out.below hI.below
      have g0 := cell_regrown hM2.tx.text
      have HM2 : Hid (PsM wr B s pat st v) := hM2
      have HB2 : Hid (RowKit.Below w.heap.size w wr) := hI.below
      have hB2 := hM2.lt
      clear hsk hI hM2 HX
      go_wp2_with fail
      refine wp_region_quiet_then 14 (by kernel_rfl) (by kernel_rfl) ?_
      simp only [List.take_succ_cons, List.take_zero]
      iterate 14 (go_big_quiet_step (fail))
      refine wpQuiet_nil ?_
      intro w' hw'
      obtain ⟨⟨dq, osq⟩, hw''⟩ := hw'
      subst hw''
      simp only [List.drop_succ_cons, List.drop_zero]
      obtain ⟨w5, hw5⟩ : ∃ w5, grow (redrawn wr dq) osq = w5 := ⟨_, rfl⟩
      rw [hw5]
      have hb5 : RowKit.Below wr.heap.size wr w5 := by rw [← hw5]; exact below_regrown wr dq osq
      have hM5 := HM2.out.below hb5
      have q2 : w5.cell? ⟨B, 2, none⟩ = some (.int .i32 st.now.what) := hM5.cell 2
      have q3 : w5.cell? ⟨B, 3, none⟩ = some (.int .i64 st.now.from_) := hM5.cell 3
      have q4 : w5.cell? ⟨B, 4, none⟩ = some (.int .i64 st.now.to) := hM5.cell 4
      have q5 : w5.cell? ⟨B, 5, none⟩ = some (.int .u64 st.now.n) := hM5.cell 5
      have q6 : w5.cell? ⟨B, 6, none⟩ = some (.int .i64 st.now.err) := hM5.cell 6
      have qf := hM5.frozen
      have HFI : Hid (PsM (setNow w5 B (psEnd s)) B s pat { st with now := psEnd s } v) := hM5.tok (psEnd s)
      have HBI : Hid (w.grownBy (setNow w5 B (psEnd s)) (some B)) := gr_setNow (gr_of_below (HB2.out.trans (hb5.mono HB2.out.size)) _) _
      clear hM5 hw5 g0 hb5
      go_wp2_with fail
      go_end0
      exact ⟨⟨rfl, HFI.out⟩, HBI.out⟩
end Go.Proofs.YtjmccobblpcbhaaDoor

set_option linter.unusedSimpArgs false
set_option linter.unusedVariables false
namespace Go.Proofs.YtjmccobblpcbhaaDoor
open Go.RowKit Go.Lib Go.Sort

/-- What a call that leaves a state does. -/
def ExP (w : World) (B : Nat) (s : ByteArray) (pat : Bool) (v : Value) (x : Pr Ps) (e : Ending) (w' : World) : Prop :=
  Ends x e (fun st' => e = .returned (.tuple #[]) ∧ PsM w' B s pat st' v) ∧ w.grownBy w' (some B)
theorem psNext_in (s : ByteArray) (pat : Bool) (most p : Nat) : psNext s pat most p ≠ .out := by
  unfold psNext psFrom
  split
  · exact psAt_in _ _ _ _ _
  · intro h; cases h

set_option maxHeartbeats 1000000 in
theorem next_any (w0 w : World) (B : Nat) (s : ByteArray) (pat : Bool) (st : Ps) (v : Value) (hE : PEnv w0 B w) (hM : PsM w B s pat st v) (hs : s.size ≤ 4096) (hto : st.now.to ≤ s.size) :
    Calls Tryd.prog 91 #[.pointer (some ⟨B, 0, none⟩)] w fun e w' => ExP w B s pat v (psNx s pat mx63 st) e w' := by
  have c := nextUp_any w0 w B s pat st v mx63 hE hM hs hto (by unfold mx63; omega)
  have hno := psNext_in s pat mx63 st.now.to
  unfold psNx
  have e63 : ((mx63 : Nat) : Int) = 9223372036854775807 := rfl
  rw [e63] at c
  generalize psNext s pat mx63 st.now.to = X at *
  clear hE hM
  cases X with
  | ok t =>
    have c' : Calls Tryd.prog 123 #[.pointer (some ⟨B, 0, none⟩), .int .u64 9223372036854775807] w fun e w' => (e = .returned (.tuple #[]) ∧ PsM w' B s pat { st with now := t } v) ∧ w.grownBy w' (some B) := c
    clear c hno
    go_enter Tryd.func91, Tryd.ntmps91
    go_wp2_with (go_at_call 123; refine c'.mono ?_; rintro e w2 ⟨⟨rfl, h2⟩, hb2⟩)
    go_end0
    exact ⟨⟨rfl, h2⟩, hb2⟩
  | bad p er =>
    have c' : Calls Tryd.prog 123 #[.pointer (some ⟨B, 0, none⟩), .int .u64 9223372036854775807] w fun e w' => e = .panicked [{ v := fltV p er, recovered := false }] ∧ w.grownBy w' (some B) := c
    clear c hno
    go_enter Tryd.func91, Tryd.ntmps91
    go_wp2_with (go_at_call 123; refine c'.mono ?_; rintro e w2 ⟨rfl, hb2⟩)
    exact ⟨rfl, rfl, hb2⟩
  | out => exact absurd rfl hno

set_option maxHeartbeats 1000000 in
theorem touches_any (w0 w : World) (B : Nat) (s : ByteArray) (pat : Bool) (st : Ps) (v : Value) (hE : PEnv w0 B w) (hM : PsM w B s pat st v) (hs : s.size ≤ 4096) :
    Calls Tryd.prog 155 #[.pointer (some ⟨B, 0, none⟩)] w fun e w' => e = .returned (.bool (decide ((numI s st.now.to).2.2 ≠ 11))) ∧ RowKit.Below w.heap.size w w' := by
  have g0 := cell_regrown hM.tx.text
  have c4 : w.cell? ⟨B, 4, none⟩ = some (.int .i64 (st.now.to : Int)) := hM.cell 4
  have g4 := cell_regrown c4
  have cN : Hid (∀ d os, Calls Tryd.prog 153 #[.string s, .int .i64 (st.now.to : Int)] (grow (redrawn w d) os) fun e w'' => e = .returned (.tuple #[.int .u64 (numI s st.now.to).1, .int .i64 (numI s st.now.to).2.1, .int .i64 (numI s st.now.to).2.2]) ∧ ∃ p : Regrown, w'' = grow (redrawn w p.d) p.os) := fun d os =>
    Calls.regrown_of (number_any s (st.now.to : Int) _ (hE.tab.below (below_regrown w d os)) (by unfold maxLen; omega))
  generalize st.now.to = to at *
  generalize numI s (to : Int) = x at *
  obtain ⟨n, b, er⟩ := x
  simp only at cN
  have HB : Hid (decide (er ≠ 11) = (er != 11)) := by show _ = _; by_cases h : er = 11 <;> simp [h]
  show Calls _ _ _ _ fun e w' => e = .returned (.bool (decide (er ≠ 11))) ∧ _
  rw [HB.out]
  clear hM hE c4 HB
  go_enter Tryd.func155, Tryd.ntmps155
  go_wp2_with fail
  refine wp_region_quiet_below (by kernel_rfl) (by kernel_rfl) ?_
  iterate 17 (go_big_quiet_step ((go_at_call 153; exact cN.out _ _)))
  refine wpQuiet_nil ?_
  intro _ hw'
  obtain ⟨⟨ds, oss⟩, hw''⟩ := hw'
  subst hw''
  go_wp2_with fail
  go_ret
  exact ⟨rfl, below_regrown w ds oss⟩

set_option maxHeartbeats 1000000 in
theorem operator_any (c : Int) (w : World) :
    Calls Tryd.prog 143 #[.int .i32 c] w fun e w' => e = .returned (.tuple #[.int .i64 (psOp c).1, .int .i64 ((psOp c).2 : Nat)]) ∧ w' = w := by
  go_enter Tryd.func143, Tryd.ntmps143
  go_wp2
  all_goals go_ret2
  all_goals exact ⟨by first | (unfold psOp; simp_all; done) | (unfold psOp; simp_all; omega), rfl⟩
end Go.Proofs.YtjmccobblpcbhaaDoor
