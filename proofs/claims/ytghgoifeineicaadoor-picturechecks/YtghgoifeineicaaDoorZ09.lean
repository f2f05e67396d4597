/-
  GpW7, GpW8.
-/
import Derived.Shelf.Unicode.DecodeSlow
import Derived.Laws.RangeAny
import Derived.Shelf.Strconv.Itoa0
import Derived.Shelf.LaysM
import Derived.Shelf.Strconv.Clone
import Derived.Shelf.Unicode.DecodeAny
import Derived.Shelf.Slices.CompactS
import Derived.Test.YtghgoifeineicaaDoorProg
import Derived.WalkKit
import Derived.Deep.DeepFit
import Derived.Lib.OthersKept
import Derived.Lib.RuneCountTail
import Derived.Deep.AppendLies
import Derived.Deep.OwnRows
import Derived.Laws.AppendOwnNone
import Derived.Deep.QuietTactic
import Derived.BigQuiet
import Derived.Deep.RegionWith
import Derived.Laws.DeepStrings4
import Derived.Below
import Derived.Lib.MapLaws
import Derived.Sort.Walk0
import Derived.Lib.QuietBelow
import Derived.StillTail
import Derived.Deep.RegionHeld3
import Derived.Test.YtghgoifeineicaaDoorZ01
import Derived.Test.YtghgoifeineicaaDoorZ02
import Derived.Test.YtghgoifeineicaaDoorZ03
import Derived.Test.YtghgoifeineicaaDoorZ04
import Derived.Test.YtghgoifeineicaaDoorZ05
import Derived.Test.YtghgoifeineicaaDoorZ06
import Derived.Test.YtghgoifeineicaaDoorZ07
import Derived.Test.YtghgoifeineicaaDoorZ08
set_option linter.unusedSimpArgs false
set_option linter.unusedVariables false
namespace Go.Proofs.YtghgoifeineicaaDoor
open Go.RowKit Go.Lib Go.Sort

/-- Two spots. -/
def lsS (x y : Nd) (sx sy : Int) : Int := orL [cmp3 sx sy, ordN x y]
theorem blk6N {w : World} {b : Nat} {a0 a1 a2 a3 a4 a5 : Value} {t : TypeId} (h : w.heap[b]? = some (.cells #[a0, a1, a2, a3, a4, a5] t (0, 0))) : w.cell? ⟨b, 0, none⟩ = some a0 ∧ w.cell? ⟨b, 1, none⟩ = some a1 ∧ w.cell? ⟨b, 2, none⟩ = some a2 ∧ w.cell? ⟨b, 3, none⟩ = some a3 ∧ w.cell? ⟨b, 4, none⟩ = some a4 ∧ w.cell? ⟨b, 5, none⟩ = some a5 := by
  simp [World.cell?, h]

set_option maxRecDepth 20000 in
set_option maxHeartbeats 4000000 in
theorem gless_any (x y : Nd) (xa ya : Option Addr) (xc yc : Nat) (sx sy kx ky : Int) (w : World) (T : Tabs w) (hx : Ints w w.heap.size (.slice xa x.kids.length xc) x.kids) (hy : Ints w w.heap.size (.slice ya y.kids.length yc) y.kids) :
    Calls Tryd.prog 117 #[.agg #[.int .i64 x.op, .int .i64 x.n, .string x.name, .slice xa x.kids.length xc, .int .i64 sx, .int .i64 kx], .agg #[.int .i64 y.op, .int .i64 y.n, .string y.name, .slice ya y.kids.length yc, .int .i64 sy, .int .i64 ky]] w fun e w' => e = .returned (.bool (decide (lsS x y sx sy < 0))) ∧ Below w.heap.size w w' := by
  obtain ⟨xo, xn, xm, xk⟩ := x
  obtain ⟨yo, yn, ym, yk⟩ := y
  simp only at hx hy ⊢
  obtain ⟨W, hW⟩ : ∃ W, (w.alloc (.cells #[.int .i64 xo, .int .i64 xn, .string xm, .slice xa xk.length xc, .int .i64 sx, .int .i64 kx] 163)).alloc (.cells #[.int .i64 yo, .int .i64 yn, .string ym, .slice ya yk.length yc, .int .i64 sy, .int .i64 ky] 163) = W := ⟨_, rfl⟩
  have hb : Below w.heap.size w W := by rw [← hW]; exact ((Below.refl _ _).alloc (Nat.le_refl _) _).alloc (by simp) _
  have bx : W.heap[w.heap.size]? = some (.cells #[.int .i64 xo, .int .i64 xn, .string xm, .slice xa xk.length xc, .int .i64 sx, .int .i64 kx] 163 (0, 0)) := by
    rw [← hW, Deep.blk_alloc_lt _ _ _ (by simp), Deep.blk_alloc_new]
  have by_ : W.heap[w.heap.size + 1]? = some (.cells #[.int .i64 yo, .int .i64 yn, .string ym, .slice ya yk.length yc, .int .i64 sy, .int .i64 ky] 163 (0, 0)) := by
    have := Deep.blk_alloc_new (w.alloc (.cells #[.int .i64 xo, .int .i64 xn, .string xm, .slice xa xk.length xc, .int .i64 sx, .int .i64 kx] 163)) (.cells #[.int .i64 yo, .int .i64 yn, .string ym, .slice ya yk.length yc, .int .i64 sy, .int .i64 ky] 163)
    rw [World.size_alloc] at this
    rw [← hW]; exact this
  obtain ⟨x0, x1, x2, x3, x4, x5⟩ := blk6N bx
  obtain ⟨y0, y1, y2, y3, y4, y5⟩ := blk6N by_
  have hx' := hx.below hb hb.size
  have hy' := hy.below hb hb.size
  have T' := T.below hb
  have cC : Sld (∀ x y d os, Calls Tryd.prog 135 #[.int .i64 x, .int .i64 y] (grow (redrawn W d) os) fun e w'' => e = .returned (.int .i64 (cmp3 x y)) ∧ ∃ p : Regrown, w'' = grow (redrawn W p.d) p.os) := ⟨fun x y d os => Calls.regrownS (compareInt_any x y _)⟩
  have cK : Sld (∀ d os, Calls Tryd.prog 132 #[.agg #[.int .i64 xo, .int .i64 xn, .string xm, .slice xa xk.length xc], .agg #[.int .i64 yo, .int .i64 yn, .string ym, .slice ya yk.length yc]] (grow (redrawn W d) os) fun e w'' => e = .returned (.int .i64 (ordN ⟨xo, xn, xm, xk⟩ ⟨yo, yn, ym, yk⟩)) ∧ ∃ p : Regrown, w'' = grow (redrawn W p.d) p.os) := ⟨fun d os => Calls.regrown_of (gorder_any ⟨xo, xn, xm, xk⟩ ⟨yo, yn, ym, yk⟩ xa ya xc yc _ (T'.below (below_regrown W d os)) (hx'.below (below_regrown W d os) (below_regrown W d os).size) (hy'.below (below_regrown W d os) (below_regrown W d os).size))⟩
  have g0 := cell_regrown x0
  have g1 := cell_regrown x1
  have g2 := cell_regrown x2
  have g3 := cell_regrown x3
  have g4 := cell_regrown y0
  have g5 := cell_regrown y1
  have g6 := cell_regrown y2
  have g7 := cell_regrown y3
  have g8 := cell_regrown x4
  have g9 := cell_regrown y4
  have HW := Sld.mk hW
  have HB := Sld.mk hb
  have HE : Sld (lsS ⟨xo, xn, xm, xk⟩ ⟨yo, yn, ym, yk⟩ sx sy = orL [cmp3 sx sy, ordN ⟨xo, xn, xm, xk⟩ ⟨yo, yn, ym, yk⟩]) := ⟨rfl⟩
  clear hW hb bx by_ x0 x1 x2 x3 x4 x5 y0 y1 y2 y3 y4 y5 hx' hy' T' T hx hy
  generalize ordN ⟨xo, xn, xm, xk⟩ ⟨yo, yn, ym, yk⟩ = z1 at *
  go_enter Tryd.func117, Tryd.ntmps117
  go_wp2_with fail
  rw [HW.out]
  refine wp_region_quiet_then 10 (by kernel_rfl) (by kernel_rfl) ?_
  simp only [List.take_succ_cons, List.take_zero]
  iterate 10 (go_big_quiet_step ((first | (go_at_call 135; exact cC.out _ _ _ _) | (go_at_call 132; exact cK.out _ _))))
  refine wpQuiet_nil ?_
  intro w' hw'
  obtain ⟨⟨dq, osq⟩, hw''⟩ := hw'
  subst hw''
  simp only [List.drop_succ_cons, List.drop_zero]
  clear cC cK g0 g1 g2 g3 g4 g5 g6 g7 g8 g9
  obtain ⟨w2, hw2⟩ : ∃ w2, grow (redrawn W dq) osq = w2 := ⟨_, rfl⟩
  rw [hw2]
  have HB2 : Sld (Below w.heap.size w w2) := ⟨HB.out.trans ((hw2 ▸ below_regrown W dq osq : Below W.heap.size W w2).mono HB.out.size)⟩
  clear hw2
  generalize cmp3 sx sy = z0 at *
  have cOr : Sld (∀ V, V.cell? ⟨w2.heap.size, 0, none⟩ = some (.int .i64 z0) → V.cell? ⟨w2.heap.size, 1, none⟩ = some (.int .i64 z1) → Calls Tryd.prog 134 #[.slice (some ⟨w2.heap.size, 0, none⟩) 2 2] V fun e w' => e = .returned (.int .i64 (orL [z0, z1])) ∧ w' = V) := ⟨fun V h0 h1 => or_any _ _ V _ (ints2 h0 h1)⟩
  go_wp2_with fail
  refine (cOr.out _ (by simp) (by simp)).mono ?_
  rintro e w3 ⟨rfl, hw3⟩
  have HB3 : Sld (Below w.heap.size w w3) := ⟨by rw [hw3]; exact HB2.out.alloc HB2.out.size _⟩
  clear hw3 cOr HB2
  generalize orL [z0, z1] = z at *
  go_wp2_with fail
  go_ret
  exact ⟨by rw [HE.out]; rfl, HB3.out⟩
end Go.Proofs.YtghgoifeineicaaDoor

set_option linter.unusedSimpArgs false
set_option linter.unusedVariables false
namespace Go.Proofs.YtghgoifeineicaaDoor
open Go.RowKit Go.Lib Go.Sort

def ndA (l : List Nd) (i : Nat) : Nd := l.getD i nd0
/-- At i nothing is wrong: it comes behind its neighbour, and to no less than the class's size. -/
def lsG (cs : List Cls) (c : Cls) (i : Nat) : Bool := (i == 0 || decide (ordN (ndA c.nodes (i - 1)) (ndA c.nodes i) < 0)) && decide (c.size ≤ szF cs 1 (ndA c.nodes i).kids)
def lsOk (cs : List Cls) (c : Cls) : Nat → Bool
  | 0 => true
  | j + 1 => lsOk cs c j && lsG cs c j
/-- The first that comes to the class's size. -/
def lsAt (cs : List Cls) (c : Cls) : Nat → Int
  | 0 => -1
  | j + 1 => if lsAt cs c j = -1 ∧ szF cs 1 (ndA c.nodes j).kids = c.size then (j : Int) else lsAt cs c j
theorem lsAt_range (cs : List Cls) (c : Cls) : ∀ j : Nat, -1 ≤ lsAt cs c j ∧ lsAt cs c j < (j : Int) ∨ lsAt cs c j = -1 := by
  intro j
  induction j with
  | zero => exact .inr rfl
  | succ j ih =>
    unfold lsAt
    split
    · left; omega
    · omega
/-- The node of a class's least expression. -/
def lstF (cs : List Cls) (c : Cls) : Option Nat := if lsOk cs c c.nodes.length && decide (lsAt cs c c.nodes.length ≠ -1) then some (lsAt cs c c.nodes.length).toNat else none
theorem lsOk_not {cs : List Cls} {c : Cls} {n j : Nat} (hj : j < n) (h : lsG cs c j = false) : lsOk cs c n = false := by
  induction n with
  | zero => omega
  | succ n ih =>
    unfold lsOk
    by_cases e : j = n
    · subst e; rw [h]; simp
    · rw [ih (by omega)]; simp
theorem lstF_bad {cs : List Cls} {c : Cls} {j : Nat} (hj : j < c.nodes.length) (h : lsG cs c j = false) : lstF cs c = none := by
  unfold lstF
  rw [lsOk_not hj h]
  simp
theorem lstF_no {cs : List Cls} {c : Cls} (h : lsAt cs c c.nodes.length = -1) : lstF cs c = none := by
  unfold lstF
  rw [h]
  simp
theorem lstF_yes {cs : List Cls} {c : Cls} {i : Nat} (ho : lsOk cs c c.nodes.length = true) (h : lsAt cs c c.nodes.length = (i : Int)) : lstF cs c = some i := by
  unfold lstF
  rw [ho, h]
  have : ((i : Int) ≠ -1) := by omega
  simp [this]
end Go.Proofs.YtghgoifeineicaaDoor
