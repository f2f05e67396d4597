/-
  PkAtW, PkNxW.
-/
import Derived.Shelf.Unicode.DecodeSlow
import Derived.Laws.RangeAny
import Derived.Shelf.Strings.Builder1
import Derived.Shelf.Small.Utf8
import Derived.Shelf.Small.Bits
import Derived.Shelf.Strings.BuilderF
import Derived.Shelf.Strings.BuilderK
import Derived.Shelf.Strings.BuilderRune
import Derived.Shelf.Utf8.AppendRune
import Derived.Shelf.Strconv.Itoa0
import Derived.Shelf.Strconv.Itoa1
import Derived.Shelf.LaysM
import Derived.Shelf.Strconv.Itoa2
import Derived.Shelf.Strconv.Itoa3
import Derived.Shelf.Strconv.Itoa4
import Derived.Shelf.Strings.Prefix
import Derived.Shelf.Unicode.DecodeAny
import Derived.Test.YtjmccobblpcbhaaDoorProg
import Derived.WalkKit
import Derived.Deep.DeepFit
import Derived.Lib.OthersKept
import Derived.Lib.RuneCountTail
import Derived.Laws.DeepStrings4
import Derived.Lib.Small
import Derived.Lib.Strings
import Derived.Lib.MapLaws
import Derived.Deep.RegionHeld3
import Derived.Laws.ResultCell
import Derived.Lib.QuietBelow
import Derived.BigQuiet
import Derived.Deep.Heap
import Derived.Laws.Rows
import Derived.Test.YtjmccobblpcbhaaDoorM01
import Derived.Test.YtjmccobblpcbhaaDoorM02
import Derived.Test.YtjmccobblpcbhaaDoorM03
import Derived.Test.YtjmccobblpcbhaaDoorM04
import Derived.Test.YtjmccobblpcbhaaDoorM16
import Derived.Test.YtjmccobblpcbhaaDoorM18
import Derived.Test.YtjmccobblpcbhaaDoorM19
set_option linter.unusedSimpArgs false
set_option linter.unusedVariables false
namespace Go.Proofs.YtjmccobblpcbhaaDoor
open Go.RowKit Go.Lib
open Go.Sort (grow)

/-- A token in memory. -/
def tkV (t : Tk) : Value := .agg #[.int .i32 t.what, .int .i64 t.from_, .int .i64 t.to, .int .u64 t.n, .int .i64 t.err]
/-- What the parser gives up with. -/
def fltV (p : Nat) (e : Int) : Value := .iface 112 (.agg #[.int .i64 p, .int .i64 e])
/-- How a call ends. -/
def Ends {α : Type} (x : Pr α) (e : Ending) (Q : α → Prop) : Prop := match x with
  | .ok a => Q a
  | .bad p er => e = .panicked [{ v := fltV p er, recovered := false }]
  | .out => True

/-- Five cells. -/
structure Tk5 (w : World) (F : Nat) (a b c d e : Value) : Prop where
  blk : w.heap[F]? = some (.cells #[a, b, c, d, e] 116 (0, 0))
theorem Tk5.lt {w : World} {F : Nat} {a b c d e : Value} (h : Tk5 w F a b c d e) : F < w.heap.size := lt_of_block h.blk
theorem Tk5.below {w w' : World} {F : Nat} {a b c d e : Value} (h : Tk5 w F a b c d e) (hb : Below w.heap.size w w') : Tk5 w' F a b c d e := ⟨(hb.block _ h.lt).trans h.blk⟩
theorem Tk5.cells {w : World} {F : Nat} {a b c d e : Value} (h : Tk5 w F a b c d e) : w.cell? ⟨F, 0, none⟩ = some a ∧ w.cell? ⟨F, 1, none⟩ = some b ∧ w.cell? ⟨F, 2, none⟩ = some c ∧ w.cell? ⟨F, 3, none⟩ = some d ∧ w.cell? ⟨F, 4, none⟩ = some e := by
  simp [World.cell?, h.blk]
theorem Tk5.frozen {w : World} {F : Nat} {a b c d e : Value} (h : Tk5 w F a b c d e) (i : Nat) : w.frozen? ⟨F, i, none⟩ = false := by simp [World.frozen?, h.blk]
theorem Tk5.other {w : World} {F G i : Nat} {a b c d e u : Value} (h : Tk5 w F a b c d e) (hne : F ≠ G) : Tk5 (w.setCell ⟨G, i, none⟩ u) F a b c d e := ⟨(Deep.blk_setCell_other _ _ _ _ hne).trans h.blk⟩
theorem Tk5.set {w : World} {F i : Nat} {a b c d e u : Value} (h : Tk5 w F a b c d e) : (w.setCell ⟨F, i, none⟩ u).heap[F]? = some (.cells (#[a, b, c, d, e].setIfInBounds i u) 116 (0, 0)) := heap_setCell_same w F i _ _ u h.blk

def set5 (w : World) (R : Nat) (v0 v1 v2 v3 v4 : Value) : World := ((((w.setCell ⟨R, 0, none⟩ v0).setCell ⟨R, 1, none⟩ v1).setCell ⟨R, 2, none⟩ v2).setCell ⟨R, 3, none⟩ v3).setCell ⟨R, 4, none⟩ v4
theorem below_set5 {w0 w : World} {R : Nat} (h : Below R w0 w) (v0 v1 v2 v3 v4 : Value) : Below R w0 (set5 w R v0 v1 v2 v3 v4) :=
  ((((h.setCell (Nat.le_refl _) _).setCell (Nat.le_refl _) _).setCell (Nat.le_refl _) _).setCell (Nat.le_refl _) _).setCell (Nat.le_refl _) _
theorem five_set {w : World} {R : Nat} {a b c d e : Value} (h : Tk5 w R a b c d e) (v0 v1 v2 v3 v4 : Value) :
    Tk5 (set5 w R v0 v1 v2 v3 v4) R v0 v1 v2 v3 v4 := by
  have h0 : Tk5 (w.setCell ⟨R, 0, none⟩ v0) R v0 b c d e := ⟨by simpa using h.set (i := 0) (u := v0)⟩
  have h1 : Tk5 ((w.setCell ⟨R, 0, none⟩ v0).setCell ⟨R, 1, none⟩ v1) R v0 v1 c d e := ⟨by simpa using h0.set (i := 1) (u := v1)⟩
  have h2 : Tk5 (((w.setCell ⟨R, 0, none⟩ v0).setCell ⟨R, 1, none⟩ v1).setCell ⟨R, 2, none⟩ v2) R v0 v1 v2 d e := ⟨by simpa using h1.set (i := 2) (u := v2)⟩
  have h3 : Tk5 ((((w.setCell ⟨R, 0, none⟩ v0).setCell ⟨R, 1, none⟩ v1).setCell ⟨R, 2, none⟩ v2).setCell ⟨R, 3, none⟩ v3) R v0 v1 v2 v3 e := ⟨by simpa using h2.set (i := 3) (u := v3)⟩
  exact ⟨by unfold set5; simpa using h3.set (i := 4) (u := v4)⟩

/-- The result, once it lies there. -/
theorem at_ret {w : World} {R : Nat} {a b c d e : Value} (h : Tk5 w R a b c d e) {tmps : Array Value} (ht : tmps[8]?.getD undef = .pointer (some ⟨R, 0, none⟩)) :
    (results Tryd.f141 tmps).run Tryd.prog w = .ok (.agg #[a, b, c, d, e]) w := by
  obtain ⟨h0, h1, h2, h3, h4⟩ := h.cells
  simp [results, Tryd.results141, ht, go_sem, h0, h1, h2, h3, h4]

set_option maxHeartbeats 2000000 in
theorem at_letter (w : World) (B : Nat) (s : ByteArray) (pat : Bool) (most p : Nat) (r : Int) (hT : Tabs w) (hX : TxAt w B s pat) (hp : p < s.size) (hs : s.size ≤ 4096) (hr : ((Utf8.decode s p).1 : Int) = r) (hk : kd r = 1) :
    Calls Tryd.prog 141 #[.pointer (some ⟨B, 0, none⟩), .int .i64 p, .int .i32 r, .int .u64 most] w fun e w' => e = .returned (tkV ⟨97, p, spF s s.size p, 0, if nameB (s.extract p (spF s s.size p)) then 0 else 7⟩) ∧ Below w.heap.size w w' := by
  have hBl := hX.lt
  have hBn : B ≠ w.heap.size := by omega
  have hS := span_in' s p hp (by rw [hr]; exact hk)
  obtain ⟨W0, hW0⟩ : ∃ W0, w.alloc (.cells #[.int .i32 0, .int .i64 0, .int .i64 0, .int .u64 0, .int .i64 0] 116) = W0 := ⟨_, rfl⟩
  have b0 : Below w.heap.size w W0 := by rw [← hW0]; exact (Below.refl _ _).alloc (Nat.le_refl _) _
  have R0 : Tk5 W0 w.heap.size (.int .i32 0) (.int .i64 0) (.int .i64 0) (.int .u64 0) (.int .i64 0) := ⟨by rw [← hW0, Deep.blk_alloc_new]⟩
  have T0 := hT.below b0
  have X0 := hX.below b0
  have HW0 : Hid (w.alloc (.cells #[.int .i32 0, .int .i64 0, .int .i64 0, .int .u64 0, .int .i64 0] 116) = W0) := hW0
  have hkb : (kd r == 1) = true := by simp [hk]
  have cK := kind_any r W0 T0.spans
  have HSP : Hid (spanI s p = (((spF s s.size p : Nat) : Int), 0)) := hS.1
  have hto1 := hS.2.1
  have hto2 := hS.2.2
  generalize spF s s.size p = to at *
  obtain ⟨q, hq⟩ : ∃ q, s.extract p to = q := ⟨_, rfl⟩
  rw [hq]
  obtain ⟨er, her⟩ : ∃ er : Int, (if nameB q then 0 else 7) = er := ⟨_, rfl⟩
  rw [her]
  have HER : Hid ((if nameB q then (0 : Int) else 7) = er) := her
  clear her
  rw [hk] at cK
  have HK : Hid (Calls Tryd.prog 104 #[.int .i32 r] W0 fun e w' => e = .returned (.int .i64 1) ∧ Below W0.heap.size W0 w') := cK
  have hT0 : Hid (Tabs w) := hT
  clear hW0 hS cK hkb hk hX hT
  go_enter Tryd.func141, Tryd.ntmps141
  go_wp2_with fail
  rw [HW0.out]
  refine HK.out.mono ?_
  rintro e w1 ⟨rfl, b1⟩
  have R1 := R0.below b1
  have T1 := T0.below b1
  have X1 := X0.below b1
  have bb1 : Below w.heap.size w w1 := b0.trans (b1.mono b0.size)
  have z1 := bb1.size
  have hR1 := R1.lt
  obtain ⟨W1, hW1⟩ : ∃ W1, w1.alloc (.cells #[.int .i32 97, .int .i64 p, .int .i64 0, .int .u64 0, .int .i64 0] 116) = W1 := ⟨_, rfl⟩
  have c1 : Below w1.heap.size w1 W1 := by rw [← hW1]; exact (Below.refl _ _).alloc (Nat.le_refl _) _
  have F1 : Tk5 W1 w1.heap.size (.int .i32 97) (.int .i64 p) (.int .i64 0) (.int .u64 0) (.int .i64 0) := ⟨by rw [← hW1, Deep.blk_alloc_new]⟩
  have HW1 : Hid (w1.alloc (.cells #[.int .i32 97, .int .i64 p, .int .i64 0, .int .u64 0, .int .i64 0] 116) = W1) := hW1
  have R1' := R1.below c1
  have T1' := T1.below c1
  have X1' := X1.below c1
  have e0 : ∀ o, (w1.alloc o).cell? ⟨B, 0, none⟩ = some (.string s) := fun o => (World.cell?_alloc_past _ _ _ X1.lt).trans X1.text
  have hB1 : B ≠ w1.heap.size := by have := X1.lt; omega
  clear hW1 R0 T0 X0 b0 b1 R1 T1 HK
  go_wp2_with fail
  rw [HW1.out]
  have cS := span_any s (p : Int) W1 T1' (by unfold maxLen; omega)
  rw [HSP.out] at cS
  refine cS.mono ?_
  rintro e w2 ⟨rfl, b2⟩
  have F2 := F1.below b2
  have R2 := R1'.below b2
  have T2 := T1'.below b2
  have X2 := X1'.below b2
  have bb2 : Below w.heap.size w w2 := (bb1.trans (c1.mono z1)).trans (b2.mono (Nat.le_trans z1 c1.size))
  have z2 := bb2.size
  have f2c := F2.cells.2.2.1
  have f2f := F2.frozen 2
  have hFR : w1.heap.size ≠ w.heap.size := by omega
  obtain ⟨W2, hW2⟩ : ∃ W2, w2.setCell ⟨w1.heap.size, 2, none⟩ (.int .i64 (to : Nat)) = W2 := ⟨_, rfl⟩
  have F3 : Tk5 W2 w1.heap.size (.int .i32 97) (.int .i64 p) (.int .i64 (to : Nat)) (.int .u64 0) (.int .i64 0) := ⟨by rw [← hW2]; simpa using F2.set (i := 2) (u := .int .i64 (to : Nat))⟩
  have R3 : Tk5 W2 w.heap.size (.int .i32 0) (.int .i64 0) (.int .i64 0) (.int .u64 0) (.int .i64 0) := by rw [← hW2]; exact R2.other hFR.symm
  have bb3 : Below w.heap.size w W2 := by rw [← hW2]; exact bb2.setCell (by omega) _
  have X3 : W2.cell? ⟨B, 0, none⟩ = some (.string s) := by rw [← hW2, World.cell?_setCell_other _ _ _ _ (by intro e; simp at e)]; exact X2.text
  have T3 : Tabs W2 := hT0.out.below bb3
  have HW2 : Hid (w2.setCell ⟨w1.heap.size, 2, none⟩ (.int .i64 (to : Nat)) = W2) := hW2
  clear hW2 F1 R1' T1' X1' e0 b2 c1 R2 T2 X2 cS
  go_wp2_with fail
  rw [HW2.out]
  have g0 := cell_regrown X3
  have g2 := cell_regrown F3.cells.2.2.1
  have cN : Hid (∀ d os, Calls Tryd.prog 70 #[.string q] (grow (redrawn W2 d) os) fun e w'' => e = .returned (.bool (nameB q)) ∧ ∃ p : Regrown, w'' = grow (redrawn W2 p.d) p.os) := fun d os => Calls.regrown_of (name_any q _ (T3.below (below_regrown W2 d os)))
  refine wp_region_quiet_below (by kernel_rfl) (by kernel_rfl) ?_
  iterate 10 (go_big_quiet_step ((go_at_call 70; exact cN.out _ _)))
  refine wpQuiet_nil ?_
  intro _ hw'
  obtain ⟨⟨ds, oss⟩, hw''⟩ := hw'
  subst hw''
  have b4 := below_regrown W2 ds oss
  have F4 := F3.below b4
  have R4 := R3.below b4
  have bb4 : Below w.heap.size w (grow (redrawn W2 ds) oss) := bb3.trans (b4.mono bb3.size)
  generalize grow (redrawn W2 ds) oss = w4 at *
  clear F3 R3 X3 T3 g0 g2 b4 cN HW2 HW1 HW0 bb3 F2 f2c f2f
  obtain ⟨f0, f1, f2, f3, f4⟩ := F4.cells
  obtain ⟨r0, r1, r2, r3, r4⟩ := R4.cells
  have rf := R4.frozen
  have ff := F4.frozen
  cases hnm : nameB q with
  | true =>
    have HE : Hid (Tk5 (set5 w4 w.heap.size (.int .i32 97) (.int .i64 p) (.int .i64 (to : Nat)) (.int .u64 0) (.int .i64 0)) w.heap.size (.int .i32 97) (.int .i64 p) (.int .i64 (to : Nat)) (.int .u64 0) (.int .i64 0)) := five_set R4 _ _ _ _ _
    have HB : Hid (Below w.heap.size w (set5 w4 w.heap.size (.int .i32 97) (.int .i64 p) (.int .i64 (to : Nat)) (.int .u64 0) (.int .i64 0))) := below_set5 bb4 _ _ _ _ _
    go_wp2_with fail
    refine bodyPost_ret (at_ret HE.out (by rfl)) rfl ⟨?_, HB.out⟩
    rw [← HER.out, hnm]; rfl
  | false =>
    have R5 : Tk5 (w4.setCell ⟨w1.heap.size, 4, none⟩ (.int .i64 7)) w.heap.size (.int .i32 0) (.int .i64 0) (.int .i64 0) (.int .u64 0) (.int .i64 0) := R4.other hFR.symm
    have F5 : Tk5 (w4.setCell ⟨w1.heap.size, 4, none⟩ (.int .i64 7)) w1.heap.size (.int .i32 97) (.int .i64 p) (.int .i64 (to : Nat)) (.int .u64 0) (.int .i64 7) := ⟨by simpa using F4.set (i := 4) (u := .int .i64 7)⟩
    have bb5 : Below w.heap.size w (w4.setCell ⟨w1.heap.size, 4, none⟩ (.int .i64 7)) := bb4.setCell (by omega) _
    have HE : Hid (Tk5 (set5 (w4.setCell ⟨w1.heap.size, 4, none⟩ (.int .i64 7)) w.heap.size (.int .i32 97) (.int .i64 p) (.int .i64 (to : Nat)) (.int .u64 0) (.int .i64 7)) w.heap.size (.int .i32 97) (.int .i64 p) (.int .i64 (to : Nat)) (.int .u64 0) (.int .i64 7)) := five_set R5 _ _ _ _ _
    have HB : Hid (Below w.heap.size w (set5 (w4.setCell ⟨w1.heap.size, 4, none⟩ (.int .i64 7)) w.heap.size (.int .i32 97) (.int .i64 p) (.int .i64 (to : Nat)) (.int .u64 0) (.int .i64 7))) := below_set5 bb5 _ _ _ _ _
    obtain ⟨p0, p1, p2, p3, p4⟩ := F5.cells
    obtain ⟨q0, q1, q2, q3, q4⟩ := R5.cells
    have qf := R5.frozen
    clear R5 F5 bb5
    go_wp2_with fail
    refine bodyPost_ret (at_ret HE.out (by rfl)) rfl ⟨?_, HB.out⟩
    rw [← HER.out, hnm]; rfl

set_option maxHeartbeats 2000000 in
theorem at_digit (w : World) (B : Nat) (s : ByteArray) (pat : Bool) (most p : Nat) (r : Int) (hT : Tabs w) (hX : TxAt w B s pat) (hp : p < s.size) (hs : s.size ≤ 4096) (hm : most ≤ 9223372036854775808) (hk : kd r = 2) :
    Calls Tryd.prog 141 #[.pointer (some ⟨B, 0, none⟩), .int .i64 p, .int .i32 r, .int .u64 most] w fun e w' => e = .returned (tkV ⟨48, p, (numI s p).2.1, (numI s p).1, if most < (numI s p).1 then 10 else (numI s p).2.2⟩) ∧ Below w.heap.size w w' := by
  have hBl := hX.lt
  have hBn : B ≠ w.heap.size := by omega
  obtain ⟨W0, hW0⟩ : ∃ W0, w.alloc (.cells #[.int .i32 0, .int .i64 0, .int .i64 0, .int .u64 0, .int .i64 0] 116) = W0 := ⟨_, rfl⟩
  have b0 : Below w.heap.size w W0 := by rw [← hW0]; exact (Below.refl _ _).alloc (Nat.le_refl _) _
  have R0 : Tk5 W0 w.heap.size (.int .i32 0) (.int .i64 0) (.int .i64 0) (.int .u64 0) (.int .i64 0) := ⟨by rw [← hW0, Deep.blk_alloc_new]⟩
  have T0 := hT.below b0
  have X0 := hX.below b0
  have HW0 : Hid (w.alloc (.cells #[.int .i32 0, .int .i64 0, .int .i64 0, .int .u64 0, .int .i64 0] 116) = W0) := hW0
  have cK := kind_any r W0 T0.spans
  have CN : Hid (∀ W, Tabs W → Calls Tryd.prog 153 #[.string s, .int .i64 p] W fun e w' => e = .returned (.tuple #[.int .u64 (numI s p).1, .int .i64 (numI s p).2.1, .int .i64 (numI s p).2.2]) ∧ Below W.heap.size W w') := fun W hW => number_any s (p : Int) W hW (by unfold maxLen; omega)
  generalize numI s p = x at *
  obtain ⟨v, to, nr⟩ := x
  simp only at CN
  show Calls _ _ _ _ fun e w' => e = .returned (tkV ⟨48, p, to, v, if most < v then 10 else nr⟩) ∧ Below w.heap.size w w'
  obtain ⟨er, her⟩ : ∃ er : Int, (if most < v then 10 else nr) = er := ⟨_, rfl⟩
  rw [her]
  have HER : Hid ((if most < v then (10 : Int) else nr) = er) := her
  rw [hk] at cK
  have HK : Hid (Calls Tryd.prog 104 #[.int .i32 r] W0 fun e w' => e = .returned (.int .i64 2) ∧ Below W0.heap.size W0 w') := cK
  clear hW0 cK hk hX hT her
  go_enter Tryd.func141, Tryd.ntmps141
  go_wp2_with fail
  rw [HW0.out]
  refine HK.out.mono ?_
  rintro e w1 ⟨rfl, b1⟩
  have R1 := R0.below b1
  have T1 := T0.below b1
  have X1 := X0.below b1
  have bb1 : Below w.heap.size w w1 := b0.trans (b1.mono b0.size)
  have z1 := bb1.size
  have hR1 := R1.lt
  obtain ⟨W1, hW1⟩ : ∃ W1, w1.alloc (.cells #[.int .i32 48, .int .i64 p, .int .i64 0, .int .u64 0, .int .i64 0] 116) = W1 := ⟨_, rfl⟩
  have c1 : Below w1.heap.size w1 W1 := by rw [← hW1]; exact (Below.refl _ _).alloc (Nat.le_refl _) _
  have F1 : Tk5 W1 w1.heap.size (.int .i32 48) (.int .i64 p) (.int .i64 0) (.int .u64 0) (.int .i64 0) := ⟨by rw [← hW1, Deep.blk_alloc_new]⟩
  have HW1 : Hid (w1.alloc (.cells #[.int .i32 48, .int .i64 p, .int .i64 0, .int .u64 0, .int .i64 0] 116) = W1) := hW1
  have R1' := R1.below c1
  have T1' := T1.below c1
  have e0 : ∀ o, (w1.alloc o).cell? ⟨B, 0, none⟩ = some (.string s) := fun o => (World.cell?_alloc_past _ _ _ X1.lt).trans X1.text
  clear hW1 R0 T0 X0 b0 b1 R1 T1 X1 HK
  go_wp2_with fail
  rw [HW1.out]
  refine (CN.out W1 T1').mono ?_
  rintro e w2 ⟨rfl, b2⟩
  have F2 := F1.below b2
  have R2 := R1'.below b2
  have bb2 : Below w.heap.size w w2 := (bb1.trans (c1.mono z1)).trans (b2.mono (Nat.le_trans z1 c1.size))
  have hFR : w1.heap.size ≠ w.heap.size := by omega
  obtain ⟨_, _, f2, f3, f4⟩ := F2.cells
  have ff := F2.frozen
  have F3 : Tk5 (((w2.setCell ⟨w1.heap.size, 3, none⟩ (.int .u64 v)).setCell ⟨w1.heap.size, 2, none⟩ (.int .i64 to)).setCell ⟨w1.heap.size, 4, none⟩ (.int .i64 nr)) w1.heap.size (.int .i32 48) (.int .i64 p) (.int .i64 to) (.int .u64 v) (.int .i64 nr) := by
    have h0 : Tk5 (w2.setCell ⟨w1.heap.size, 3, none⟩ (.int .u64 v)) w1.heap.size (.int .i32 48) (.int .i64 p) (.int .i64 0) (.int .u64 v) (.int .i64 0) := ⟨by simpa using F2.set (i := 3) (u := .int .u64 v)⟩
    have h1 : Tk5 ((w2.setCell ⟨w1.heap.size, 3, none⟩ (.int .u64 v)).setCell ⟨w1.heap.size, 2, none⟩ (.int .i64 to)) w1.heap.size (.int .i32 48) (.int .i64 p) (.int .i64 to) (.int .u64 v) (.int .i64 0) := ⟨by simpa using h0.set (i := 2) (u := .int .i64 to)⟩
    exact ⟨by simpa using h1.set (i := 4) (u := .int .i64 nr)⟩
  have R3 : Tk5 (((w2.setCell ⟨w1.heap.size, 3, none⟩ (.int .u64 v)).setCell ⟨w1.heap.size, 2, none⟩ (.int .i64 to)).setCell ⟨w1.heap.size, 4, none⟩ (.int .i64 nr)) w.heap.size (.int .i32 0) (.int .i64 0) (.int .i64 0) (.int .u64 0) (.int .i64 0) := ((R2.other hFR.symm).other hFR.symm).other hFR.symm
  have bb3 : Below w.heap.size w (((w2.setCell ⟨w1.heap.size, 3, none⟩ (.int .u64 v)).setCell ⟨w1.heap.size, 2, none⟩ (.int .i64 to)).setCell ⟨w1.heap.size, 4, none⟩ (.int .i64 nr)) := ((bb2.setCell (by omega) _).setCell (by omega) _).setCell (by omega) _
  clear F1 R1' T1' e0 b2 c1 R2 F2
  obtain ⟨W3, hW3⟩ : ∃ W3, ((w2.setCell ⟨w1.heap.size, 3, none⟩ (.int .u64 v)).setCell ⟨w1.heap.size, 2, none⟩ (.int .i64 to)).setCell ⟨w1.heap.size, 4, none⟩ (.int .i64 nr) = W3 := ⟨_, rfl⟩
  rw [hW3] at F3 R3 bb3
  obtain ⟨p0, p1, p2, p3, p4⟩ := F3.cells
  obtain ⟨q0, q1, q2, q3, q4⟩ := R3.cells
  have qf := R3.frozen
  have pf := F3.frozen
  by_cases hlt : most < v
  · have hlt' : (most : Int) < (v : Int) := by omega
    have R5 : Tk5 (W3.setCell ⟨w1.heap.size, 4, none⟩ (.int .i64 10)) w.heap.size (.int .i32 0) (.int .i64 0) (.int .i64 0) (.int .u64 0) (.int .i64 0) := R3.other hFR.symm
    have F5 : Tk5 (W3.setCell ⟨w1.heap.size, 4, none⟩ (.int .i64 10)) w1.heap.size (.int .i32 48) (.int .i64 p) (.int .i64 to) (.int .u64 v) (.int .i64 10) := ⟨by simpa using F3.set (i := 4) (u := .int .i64 10)⟩
    have bb5 : Below w.heap.size w (W3.setCell ⟨w1.heap.size, 4, none⟩ (.int .i64 10)) := bb3.setCell (by omega) _
    have HE : Hid (Tk5 (set5 (W3.setCell ⟨w1.heap.size, 4, none⟩ (.int .i64 10)) w.heap.size (.int .i32 48) (.int .i64 p) (.int .i64 to) (.int .u64 v) (.int .i64 10)) w.heap.size (.int .i32 48) (.int .i64 p) (.int .i64 to) (.int .u64 v) (.int .i64 10)) := five_set R5 _ _ _ _ _
    have HB : Hid (Below w.heap.size w (set5 (W3.setCell ⟨w1.heap.size, 4, none⟩ (.int .i64 10)) w.heap.size (.int .i32 48) (.int .i64 p) (.int .i64 to) (.int .u64 v) (.int .i64 10))) := below_set5 bb5 _ _ _ _ _
    obtain ⟨a0, a1, a2, a3, a4⟩ := F5.cells
    obtain ⟨d0, d1, d2, d3, d4⟩ := R5.cells
    have df := R5.frozen
    have HR : Hid (er = 10) := by rw [Hid, ← HER.out, if_pos hlt]
    clear R5 F5 bb5 R3 F3 bb3 HER hlt
    go_wp2_with fail
    refine bodyPost_ret (at_ret HE.out (by rfl)) rfl ⟨?_, HB.out⟩
    rw [HR.out]; rfl
  · have hlt' : ¬ (most : Int) < (v : Int) := by omega
    have HE : Hid (Tk5 (set5 W3 w.heap.size (.int .i32 48) (.int .i64 p) (.int .i64 to) (.int .u64 v) (.int .i64 nr)) w.heap.size (.int .i32 48) (.int .i64 p) (.int .i64 to) (.int .u64 v) (.int .i64 nr)) := five_set R3 _ _ _ _ _
    have HB : Hid (Below w.heap.size w (set5 W3 w.heap.size (.int .i32 48) (.int .i64 p) (.int .i64 to) (.int .u64 v) (.int .i64 nr))) := below_set5 bb3 _ _ _ _ _
    have HR : Hid (er = nr) := by rw [Hid, ← HER.out, if_neg hlt]
    clear R3 F3 bb3 HER hlt
    go_wp2_with fail
    refine bodyPost_ret (at_ret HE.out (by rfl)) rfl ⟨?_, HB.out⟩
    rw [HR.out]; rfl
end Go.Proofs.YtjmccobblpcbhaaDoor

set_option linter.unusedSimpArgs false
set_option linter.unusedVariables false
namespace Go.Proofs.YtjmccobblpcbhaaDoor
open Go.RowKit Go.Lib
open Go.Sort (grow)

def SgP (p : Nat) (x : Int × Int) (e : Ending) : Prop := (0 < x.2 ∧ e = .returned (tkV ⟨x.1, p, p + x.2.toNat, 0, 0⟩)) ∨ (¬ 0 < x.2 ∧ e = .panicked [{ v := fltV p 5, recovered := false }])

set_option maxHeartbeats 2000000 in
theorem at_sign (w : World) (B : Nat) (s : ByteArray) (pat : Bool) (most p : Nat) (r : Int) (hT : Tabs w) (hX : TxAt w B s pat) (hp : p < s.size) (hs : s.size ≤ 4096) (hk : kd r = 4) (hz : (psSign s pat p r).2 ≤ (s.size : Int) - p) :
    Calls Tryd.prog 141 #[.pointer (some ⟨B, 0, none⟩), .int .i64 p, .int .i32 r, .int .u64 most] w fun e w' => SgP p (psSign s pat p r) e ∧ Below w.heap.size w w' := by
  have hBl := hX.lt
  have hBn : B ≠ w.heap.size := by omega
  have hpn : ∀ (x : Value) (w : World), (Instr.panic (.iface 112 x)).run Tryd.prog w = .halt (.panic (.iface 112 x)) w := fun _ _ => rfl
  obtain ⟨W0, hW0⟩ : ∃ W0, w.alloc (.cells #[.int .i32 0, .int .i64 0, .int .i64 0, .int .u64 0, .int .i64 0] 116) = W0 := ⟨_, rfl⟩
  have b0 : Below w.heap.size w W0 := by rw [← hW0]; exact (Below.refl _ _).alloc (Nat.le_refl _) _
  have R0 : Tk5 W0 w.heap.size (.int .i32 0) (.int .i64 0) (.int .i64 0) (.int .u64 0) (.int .i64 0) := ⟨by rw [← hW0, Deep.blk_alloc_new]⟩
  have T0 := hT.below b0
  have X0 := hX.below b0
  have HW0 : Hid (w.alloc (.cells #[.int .i32 0, .int .i64 0, .int .i64 0, .int .u64 0, .int .i64 0] 116) = W0) := hW0
  have cK := kind_any r W0 T0.spans
  rw [hk] at cK
  have HK : Hid (Calls Tryd.prog 104 #[.int .i32 r] W0 fun e w' => e = .returned (.int .i64 4) ∧ Below W0.heap.size W0 w') := cK
  have CS : Hid (∀ W, TxAt W B s pat → Calls Tryd.prog 154 #[.pointer (some ⟨B, 0, none⟩), .int .i64 p, .int .i32 r] W fun e w' => e = .returned (.tuple #[.int .i32 (psSign s pat p r).1, .int .i64 (psSign s pat p r).2]) ∧ w' = W) := fun W hW => signAt_any W B s pat p r hW (by omega) (by unfold maxLen; omega)
  generalize psSign s pat p r = x at *
  obtain ⟨c, z⟩ := x
  simp only at CS hz
  clear hW0 cK hk hX hT
  by_cases hz0 : 0 < z
  · obtain ⟨z, rfl⟩ : ∃ n : Nat, z = (n : Int) := ⟨z.toNat, by omega⟩
    go_enter Tryd.func141, Tryd.ntmps141
    go_wp2_with fail
    rw [HW0.out]
    refine HK.out.mono ?_
    rintro e w1 ⟨rfl, b1⟩
    have R1 := R0.below b1
    have X1 := X0.below b1
    have bb1 : Below w.heap.size w w1 := b0.trans (b1.mono b0.size)
    obtain ⟨q0, q1, q2, q3, q4⟩ := R1.cells
    have qf := R1.frozen
    have HE : Hid (Tk5 (set5 w1 w.heap.size (.int .i32 c) (.int .i64 p) (.int .i64 ((p : Int) + z)) (.int .u64 0) (.int .i64 0)) w.heap.size (.int .i32 c) (.int .i64 p) (.int .i64 ((p : Int) + z)) (.int .u64 0) (.int .i64 0)) := five_set R1 _ _ _ _ _
    have HB : Hid (Below w.heap.size w (set5 w1 w.heap.size (.int .i32 c) (.int .i64 p) (.int .i64 ((p : Int) + z)) (.int .u64 0) (.int .i64 0))) := below_set5 bb1 _ _ _ _ _
    clear R0 T0 X0 b0 b1 R1 HK
    go_wp2_with (go_at_call 154; refine (CS.out _ X1).mono ?_; rintro e w2 ⟨rfl, rfl⟩)
    refine bodyPost_ret (at_ret HE.out (by rfl)) rfl ⟨.inl ⟨hz0, ?_⟩, HB.out⟩
    show Ending.returned (.agg #[.int .i32 c, .int .i64 p, .int .i64 ((p : Int) + z), .int .u64 0, .int .i64 0]) = .returned (.agg #[.int .i32 c, .int .i64 p, .int .i64 ((p + (z : Int).toNat : Nat) : Int), .int .u64 0, .int .i64 0])
    simp
  · go_enter Tryd.func141, Tryd.ntmps141
    go_wp2_with fail
    rw [HW0.out]
    refine HK.out.mono ?_
    rintro e w1 ⟨rfl, b1⟩
    have X1 := X0.below b1
    have bb1 : Below w.heap.size w w1 := b0.trans (b1.mono b0.size)
    clear R0 T0 X0 b0 b1 HK
    go_wp2_with (go_at_call 154; refine (CS.out _ X1).mono ?_; rintro e w2 ⟨rfl, rfl⟩)
    exact ⟨rfl, .inr ⟨Int.not_lt.2 hz0, rfl⟩, bb1⟩

set_option maxHeartbeats 2000000 in
theorem at_none (w : World) (B : Nat) (most p : Nat) (r : Int) (hT : Tabs w) (hk1 : kd r ≠ 1) (hk2 : kd r ≠ 2) (hk4 : kd r ≠ 4) :
    Calls Tryd.prog 141 #[.pointer (some ⟨B, 0, none⟩), .int .i64 p, .int .i32 r, .int .u64 most] w fun e w' => e = .panicked [{ v := fltV p 5, recovered := false }] ∧ Below w.heap.size w w' := by
  have hpn : ∀ (x : Value) (w : World), (Instr.panic (.iface 112 x)).run Tryd.prog w = .halt (.panic (.iface 112 x)) w := fun _ _ => rfl
  obtain ⟨W0, hW0⟩ : ∃ W0, w.alloc (.cells #[.int .i32 0, .int .i64 0, .int .i64 0, .int .u64 0, .int .i64 0] 116) = W0 := ⟨_, rfl⟩
  have b0 : Below w.heap.size w W0 := by rw [← hW0]; exact (Below.refl _ _).alloc (Nat.le_refl _) _
  have T0 := hT.below b0
  have HW0 : Hid (w.alloc (.cells #[.int .i32 0, .int .i64 0, .int .i64 0, .int .u64 0, .int .i64 0] 116) = W0) := hW0
  have cK := kind_any r W0 T0.spans
  have HK : Hid (Calls Tryd.prog 104 #[.int .i32 r] W0 fun e w' => e = .returned (.int .i64 (kd r)) ∧ Below W0.heap.size W0 w') := cK
  generalize kd r = k at *
  have h1 : (k == 1) = false := by simpa using hk1
  have h2 : (k == 2) = false := by simpa using hk2
  have h4 : (k == 4) = false := by simpa using hk4
  clear hW0 cK hT hk1 hk2 hk4
  go_enter Tryd.func141, Tryd.ntmps141
  go_wp2_with fail
  rw [HW0.out]
  refine HK.out.mono ?_
  rintro e w1 ⟨rfl, b1⟩
  have bb1 : Below w.heap.size w w1 := b0.trans (b1.mono b0.size)
  clear b0 b1 HK T0
  go_wp2_with fail
  exact ⟨rfl, rfl, bb1⟩

theorem at_any (w : World) (B : Nat) (s : ByteArray) (pat : Bool) (most p : Nat) (r : Int) (hT : Tabs w) (hX : TxAt w B s pat) (hp : p < s.size) (hs : s.size ≤ 4096) (hm : most ≤ 9223372036854775808) (hr : ((Utf8.decode s p).1 : Int) = r) :
    Calls Tryd.prog 141 #[.pointer (some ⟨B, 0, none⟩), .int .i64 p, .int .i32 r, .int .u64 most] w fun e w' => Ends (psAt s pat most p r) e (fun t => e = .returned (tkV t)) ∧ Below w.heap.size w w' := by
  by_cases h1 : kd r = 1
  · refine (at_letter w B s pat most p r hT hX hp hs hr h1).mono ?_
    rintro e w' ⟨rfl, hb⟩
    refine ⟨?_, hb⟩
    have hS := span_in' s p hp (by rw [hr]; exact h1)
    unfold psAt Ends
    rw [if_pos h1, hS.1]
    rfl
  · by_cases h2 : kd r = 2
    · refine (at_digit w B s pat most p r hT hX hp hs hm h2).mono ?_
      rintro e w' ⟨rfl, hb⟩
      refine ⟨?_, hb⟩
      unfold psAt Ends
      rw [if_neg h1, if_pos h2]
    · by_cases h4 : kd r = 4
      · have hz := sign_in s pat p hp (by rw [hr]; exact h4)
        rw [hr] at hz
        refine (at_sign w B s pat most p r hT hX hp hs h4 hz).mono ?_
        rintro e w' ⟨h, hb⟩
        refine ⟨?_, hb⟩
        unfold psAt Ends
        rw [if_neg h1, if_neg h2]
        rcases h with ⟨h0, rfl⟩ | ⟨h0, rfl⟩
        · rw [if_pos ⟨h4, h0⟩]
        · rw [if_neg (fun h => h0 h.2)]
      · refine (at_none w B most p r hT h1 h2 h4).mono ?_
        rintro e w' ⟨rfl, hb⟩
        refine ⟨?_, hb⟩
        unfold psAt Ends
        rw [if_neg h1, if_neg h2, if_neg (fun h => h4 h.1)]
end Go.Proofs.YtjmccobblpcbhaaDoor
