/-
  MaF, MaG.
-/
import Derived.Shelf.Unicode.DecodeSlow
import Derived.Laws.RangeAny
import Derived.Shelf.Strconv.Itoa0
import Derived.Shelf.Unicode.DecodeAny
import Derived.Test.YtjkcbigmebbkkaaDoorProg
import Derived.WalkKit
import Derived.Deep.DeepFit
import Derived.Lib.OthersKept
import Derived.Lib.RuneCountTail
import Derived.Deep.AppendLies
import Derived.Deep.OwnRows
import Derived.Laws.AppendOwnNone
import Derived.Deep.QuietTactic
import Derived.BigQuiet
import Derived.Deep.RegionWith
import Derived.Laws.DeepStrings4
import Derived.Laws.CopyOwn
import Derived.Laws.MakeOwn
import Derived.Deep.RegionLaw
import Derived.Below
import Derived.Deep.RegionHeld3
import Derived.Test.YtjkcbigmebbkkaaDoorY01
import Derived.Test.YtjkcbigmebbkkaaDoorY02
import Derived.Test.YtjkcbigmebbkkaaDoorY03
import Derived.Test.YtjkcbigmebbkkaaDoorY04
import Derived.Test.YtjkcbigmebbkkaaDoorY05
import Derived.Test.YtjkcbigmebbkkaaDoorY06
import Derived.Test.YtjkcbigmebbkkaaDoorY07
import Derived.Test.YtjkcbigmebbkkaaDoorY08
import Derived.Test.YtjkcbigmebbkkaaDoorY09
set_option linter.unusedSimpArgs false
set_option linter.unusedVariables false
namespace Go.Proofs.YtjkcbigmebbkkaaDoor
open Go.RowKit Go.Lib

theorem Tryd.infoLook : (Tryd.prog.info? 185).map (fun i => (i.zero, i.size, i.bytes)) = some (some (.agg #[.int .i64 0, .int .i64 0, .int .i64 0, .string ⟨#[]⟩, .slice none 0 0]), 5, 64) := by kernel_rfl
theorem upL_snoc (n j : Nat) : upL n (j + 1) = upL n j ++ [((n + j : Nat) : Int)] := by
  unfold upL
  rw [List.range_succ, List.map_append]; rfl
/-- Behind j rounds. -/
def LkJ (w : World) (base R lb : Nat) (g : Rg) (of op n : Int) (nm : ByteArray) (lv hv : Value) (q : List Lk) (j : Nat) (wr : World) : Prop :=
  ∃ kv sv, LkI wr base R lb { g with slots := g.slots ++ upL g.slots.length j } (of, ⟨op, n, nm, upL g.slots.length j⟩) kv sv lv hv q ∧ Below base w wr
theorem cell_new1 {w : World} {u : Value} {T : TypeId} : ∀ j v, [u][j]? = some v → (w.alloc (.cells #[u] T)).drew.cell? ((⟨w.heap.size, 0, none⟩ : Addr).add j) = some v := fun j v h => by
  have hb : (w.alloc (.cells #[u] T)).drew.heap[w.heap.size]? = some (.cells #[u] T (0, 0)) := (MapKept.heap_alloc w _).1
  exact World.news_of_block hb j v h
theorem cell_new5 {w : World} {a b c d e : Value} {T : TypeId} : ∀ j v, [a, b, c, d, e][j]? = some v → (w.alloc (.cells #[a, b, c, d, e] T)).drew.cell? ((⟨w.heap.size, 0, none⟩ : Addr).add j) = some v := fun j v h => by
  have hb : (w.alloc (.cells #[a, b, c, d, e] T)).drew.heap[w.heap.size]? = some (.cells #[a, b, c, d, e] T (0, 0)) := (MapKept.heap_alloc w _).1
  exact World.news_of_block hb j v h

set_option maxRecDepth 20000 in
set_option maxHeartbeats 4000000 in
theorem look_any {w : World} {base R : Nat} {g : Rg} {sv lv hv : Value} {q : List Lk} (h : RdG w base R g sv lv hv q) (c : Cm) (k : Nat) (hk : k ≤ 3) (hr : 0 ≤ c.r ∧ c.r < (g.slots.length : Nat)) (hS : g.slots.length ≤ 1000) (hq : q.length ≤ 1000) :
    Calls Tryd.prog 111 #[.pointer (some ⟨R, 0, none⟩), cmV c, .int .i64 (k : Int)] w fun e w' => e = .returned (.tuple #[]) ∧ Below base w w' ∧ ∃ sv' lv' q', RdG w' base R (lookG g c k) sv' lv' hv q' := by
  obtain ⟨kind, r, to, op, n, name⟩ := c
  simp only at hr
  obtain ⟨i0, hi, hz0, hz1, hz2⟩ := info_parts Tryd.info3
  obtain ⟨j0, hjj, hy0, hy1, hy2⟩ := info_parts Tryd.infoLook
  have hbA : Below w.heap.size w (w.alloc (.cells #[.int .i64 kind, .int .i64 r, .int .i64 to, .int .i64 op, .int .i64 n, .string name] 68)) := (Below.refl _ _).alloc (Nat.le_refl _) _
  have hblkA : (w.alloc (.cells #[.int .i64 kind, .int .i64 r, .int .i64 to, .int .i64 op, .int .i64 n, .string name] 68)).heap[w.heap.size]? = some (.cells #[.int .i64 kind, .int .i64 r, .int .i64 to, .int .i64 op, .int .i64 n, .string name] 68 (0, 0)) := (MapKept.heap_alloc w _).1
  obtain ⟨wA, hwA⟩ : ∃ wA, w.alloc (.cells #[.int .i64 kind, .int .i64 r, .int .i64 to, .int .i64 op, .int .i64 n, .string name] 68) = wA := ⟨_, rfl⟩
  rw [hwA] at hbA hblkA
  have hA := h.below hbA
  obtain ⟨c0, _, _, _⟩ := hA.cells
  obtain ⟨so, sc, rfl, hs1, hs2, hs3⟩ := ownI_form hA.slots
  unfold maxLen at hs2
  have hk0 : r.toNat < g.slots.length := by omega
  rcases hs3 with hs3 | ⟨sg, rfl, _, _, hsc⟩
  · rw [hs3] at hk0; simp at hk0
  obtain ⟨cs, _⟩ := hsc r.toNat hk0
  obtain ⟨of, hof⟩ : ∃ of, g.slots.getD r.toNat 0 = of := ⟨_, rfl⟩
  rw [hof] at cs
  have a1 : wA.cell? ⟨w.heap.size, 1, none⟩ = some (.int .i64 r) := by rw [cell_of_heap hblkA]; rfl
  have a3 : wA.cell? ⟨w.heap.size, 3, none⟩ = some (.int .i64 op) := by rw [cell_of_heap hblkA]; rfl
  have a4 : wA.cell? ⟨w.heap.size, 4, none⟩ = some (.int .i64 n) := by rw [cell_of_heap hblkA]; rfl
  have a5 : wA.cell? ⟨w.heap.size, 5, none⟩ = some (.string name) := by rw [cell_of_heap hblkA]; rfl
  have hB := hA.begin_ of op n name
  have hb0 : base ≤ w.heap.size := Nat.le_trans h.leR (Nat.le_of_lt (lt_of_block h.blk))
  obtain ⟨wB, hwB⟩ : ∃ wB, (wA.alloc (.cells #[.int .i64 of, .int .i64 op, .int .i64 n, .string name, .slice none 0 0] 185)).drew = wB := ⟨_, rfl⟩
  have HST : Hid (LkJ w base R wA.heap.size g of op n name lv hv q 0 wB) := by
    refine ⟨.slice none 0 0, .slice (some ⟨sg, 0, none⟩) g.slots.length sc, ?_, ?_⟩
    · rw [← hwB]; simpa [upL] using hB.below (Below.refl _ _).drew
    · rw [← hwB]; exact ((hbA.mono hb0).alloc (Nat.le_trans hb0 hbA.size) _).drew
  have HWB : Hid (_) := hwB
  clear hA hB hsc hbA hblkA hwB
  unfold cmV
  simp only
  go_enter Tryd.func111, Tryd.ntmps111
  go_wp2_with (rw [hwA])
  go_region_held3 (fun W => W.cell? ⟨R, 0, none⟩ = some (.slice (some ⟨sg, 0, none⟩) g.slots.length sc) ∧ W.cell? ⟨sg, r.toNat, none⟩ = some (.int .i64 of) ∧ W.cell? ⟨w.heap.size, 1, none⟩ = some (.int .i64 r) ∧ W.cell? ⟨w.heap.size, 3, none⟩ = some (.int .i64 op) ∧ W.cell? ⟨w.heap.size, 4, none⟩ = some (.int .i64 n) ∧ W.cell? ⟨w.heap.size, 5, none⟩ = some (.string name)) (go_keep) (fail)
  rw [HWB.out]
  generalize wA.heap.size = lb at *
  clear HWB a1 a3 a4 a5 cs c0 hwA
  go_wp2_with fail
  go_loopw [24] (fun i wr => ∃ j : Nat, j ≤ k ∧ i = .int .i64 j ∧ LkJ w base R lb g of op n name lv hv q j wr) (fun i _ => k - (RowKit.intOf i).toNat)
  case atStart => exact ⟨0, by omega, rfl, HST.out⟩
  case round =>
    obtain ⟨j, hj, rfl, kv, sv, hI, hbw⟩ := hrel
    obtain ⟨c0, _, c4, fR, fB⟩ := hI.cells
    have HI : Hid (_) := hI
    have HBW : Hid (_) := hbw
    by_cases hlt : j < k
    · have hsl : (g.slots ++ upL g.slots.length j).length = g.slots.length + j := by rw [List.length_append, upL_len]
      obtain ⟨so, sc', hsv, hsv1, hsv2, _⟩ := ownI_form (hI.rows.own (sv, g.slots ++ upL g.slots.length j) (by simp))
      rw [hsl] at hsv hsv1
      simp only at hsv
      obtain ⟨N, hN⟩ : ∃ N, g.slots.length + j = N := ⟨_, rfl⟩
      rw [hN] at hsv hsv1
      have hN2 : N ≤ 1003 := by omega
      subst hsv
      have n1 := (hI.neK (r := (kv, upL g.slots.length j)) (by simp)).1
      have hlR := lt_of_block hI.blk
      have hlB := lt_of_block hI.hl
      have zB : ∀ o, (wr.alloc o).cell? ⟨lb, 4, none⟩ = some kv := fun o => (World.cell?_alloc_past _ _ _ hlB).trans c4
      have zR : ∀ o, (wr.alloc o).cell? ⟨R, 0, none⟩ = some (.slice so N sc') := fun o => (World.cell?_alloc_past _ _ _ hlR).trans c0
      have hrow := hI.rows.own (kv, upL g.slots.length j) (by simp)
      unfold OwnI at hrow
      simp only [upL_len] at hrow
      have fB4 := fB 4
      have HP6 : Hid (∀ (o : Obj) (w6 : World), (wr.alloc o).drew.grownBy w6 kv.ownBlock → w6.heap[lb]? = wr.heap[lb]?) := fun o w6 hg => by
        have h1 := hg.block lb (by show lb < (wr.alloc o).heap.size; rw [World.size_alloc]; omega) (Ne.symm n1)
        exact h1.trans (alloc_old _ _ _ hlB)
      have hbb : base ≤ wr.heap.size := Nat.le_trans hI.leR (Nat.le_of_lt hlR)
      clear hI hbw n1 fB fR
      go_wp2_with fail
      go_region_law (refine step_append_lies _ rfl (.tmp 28) (.tmp 34) 61 rfl base 3 i0 (.int .i64 0) 1 8 Tryd.underlying61 hi hz0 hz1 hz2 rfl (by decide) _ _ _ (by simp [Act.eval, Act.put]) (hrow.alloc _) ⟨wr.heap.size, 0, none⟩ 1 1 [.int .i64 (N : Int)] (by simp [Act.eval, Act.put]) rfl (cell_new1) (by simp [Value.oneCell']) (by omega) (by unfold maxLen; omega) (by omega) (by simp; omega) _ rfl ?_; intro g6 cap6 w6 hown6 hg6 hat6 hl6; have hnd6 := HP6.out _ w6 hg6; have m6 : w6.cell? ⟨lb, 4, none⟩ = some kv := (World.cell?_of_block (a := ⟨lb, 4, none⟩) hnd6).trans c4; have m6f : w6.frozen? ⟨lb, 4, none⟩ = false := (World.frozen?_of_block (a := ⟨lb, 4, none⟩) hnd6).trans fB4)
      all_goals
        have hIa := HI.out.below ((Below.refl _ _).alloc (Nat.le_refl _) (.cells #[.int .i64 (N : Int)] 3)).drew
        obtain ⟨hI7, hB7⟩ := hIa.kid (z := (N : Int)) (k := j) (upL_len _ _) hown6 hg6 (by rcases hat6 with h | h; exact .inl h; exact .inr (by rw [h]))
        have hB7' : Below base w _ := HBW.out.trans ((((Below.refl _ _).alloc hbb (.cells #[.int .i64 (N : Int)] 3)).drew).trans hB7)
        have hkk : upL g.slots.length j ++ [(N : Int)] = upL g.slots.length (j + 1) := by rw [upL_snoc, hN]
        simp only [hkk] at hI7
        obtain ⟨w7, hw7⟩ : ∃ w7, w6.setCell ⟨lb, 4, none⟩ (.slice (some ⟨g6, 0, none⟩) (j + 1) cap6) = w7 := ⟨_, rfl⟩
        rw [hw7] at hI7 hB7'
        rw [hw7]
        clear hIa hB7 hown6 hg6 hat6 hl6 hnd6 m6 m6f hw7 zB zR c0 c4 hrow fB4 HP6
        obtain ⟨d0, _, d4, eR, eB⟩ := hI7.cells
        have HI7 : Hid (_) := hI7
        have HB7 : Hid (_) := hB7'
        have n2 := (hI7.neK (r := (.slice so N sc', g.slots ++ upL g.slots.length j)) (by simp)).2.1
        have hlR7 := lt_of_block hI7.blk
        have zR7 : ∀ o, (w7.alloc o).cell? ⟨R, 0, none⟩ = some (.slice so N sc') := fun o => (World.cell?_alloc_past _ _ _ hlR7).trans d0
        have hrow7 := hI7.rows.own (.slice so N sc', g.slots ++ upL g.slots.length j) (by simp)
        unfold OwnI at hrow7
        simp only [hsl, hN] at hrow7
        have eR0 := eR 0
        have HP7 : Hid (∀ (o : Obj) (w8 : World), (w7.alloc o).drew.grownBy w8 (Value.slice so N sc').ownBlock → w8.heap[R]? = w7.heap[R]?) := fun o w8 hg => by
          have h1 := hg.block R (by show R < (w7.alloc o).heap.size; rw [World.size_alloc]; omega) (Ne.symm n2)
          exact h1.trans (alloc_old _ _ _ hlR7)
        have hbb7 : base ≤ w7.heap.size := Nat.le_trans hI7.leR (Nat.le_of_lt hlR7)
        clear hI7 hB7' n2 eR eB
        go_wp2_with fail
        go_region_law (refine step_append_lies _ rfl (.tmp 42) (.tmp 48) 61 rfl base 3 i0 (.int .i64 0) 1 8 Tryd.underlying61 hi hz0 hz1 hz2 rfl (by decide) _ _ _ (by simp [Act.eval, Act.put]) (hrow7.alloc _) ⟨w7.heap.size, 0, none⟩ 1 1 [.int .i64 (N : Int)] (by simp [Act.eval, Act.put]) rfl (cell_new1) (by simp [Value.oneCell']) (by omega) (by unfold maxLen; omega) (by omega) (by simp; omega) _ rfl ?_; intro g8 cap8 w8 hown8 hg8 hat8 hl8; have hnd8 := HP7.out _ w8 hg8; have m8 : w8.cell? ⟨R, 0, none⟩ = some (.slice so N sc') := (World.cell?_of_block (a := ⟨R, 0, none⟩) hnd8).trans d0; have m8f : w8.frozen? ⟨R, 0, none⟩ = false := (World.frozen?_of_block (a := ⟨R, 0, none⟩) hnd8).trans eR0)
        all_goals
          have hIa := HI7.out.below ((Below.refl _ _).alloc (Nat.le_refl _) (.cells #[.int .i64 (N : Int)] 3)).drew
          obtain ⟨hI9, hB9⟩ := hIa.slot (z := (N : Int)) (k := N) (by rw [← hN]; exact hsl) hown8 hg8 (by rcases hat8 with h | h; exact .inl h; exact .inr (by rw [h]))
          have hB9' : Below base w _ := HB7.out.trans ((((Below.refl _ _).alloc hbb7 (.cells #[.int .i64 (N : Int)] 3)).drew).trans hB9)
          have hss : g.slots ++ upL g.slots.length j ++ [(N : Int)] = g.slots ++ upL g.slots.length (j + 1) := by rw [List.append_assoc, hkk]
          simp only [hss] at hI9
          obtain ⟨w9, hw9⟩ : ∃ w9, w8.setCell ⟨R, 0, none⟩ (.slice (some ⟨g8, 0, none⟩) (N + 1) cap8) = w9 := ⟨_, rfl⟩
          rw [hw9] at hI9 hB9'
          rw [hw9]
          have HE : Hid (LkJ w base R lb g of op n name lv hv q (j + 1) w9) := ⟨_, _, hI9, hB9'⟩
          clear hIa hI9 hB9 hB9' hown8 hg8 hat8 hl8 hnd8 m8 m8f hw9 zR7 d0 d4 hrow7 eR0 HP7
          go_wp2_with fail
          exact ⟨⟨j + 1, by omega, by go_num, HE.out⟩, by simp [RowKit.intOf]; omega⟩
    · have hke : j = k := by omega
      subst hke
      obtain ⟨ka, kc, hkv, _, _, _⟩ := ownI_form (hI.rows.own (kv, upL g.slots.length j) (by simp))
      simp only at hkv
      subst hkv
      obtain ⟨la, lc, hlv⟩ := row_form' hI.row
      obtain ⟨Q, hQ⟩ : ∃ Q, q.length = Q := ⟨_, rfl⟩
      have HQ : Hid (q.length = Q) := hQ
      rw [hQ] at hlv hq
      subst hlv
      obtain ⟨_, c1, _, fR, _⟩ := hI.cells
      have hblk := hI.hl
      have b0 : wr.cell? ⟨lb, 0, none⟩ = some (.int .i64 of) := by rw [cell_of_heap hblk]; rfl
      have b1 : wr.cell? ⟨lb, 1, none⟩ = some (.int .i64 op) := by rw [cell_of_heap hblk]; rfl
      have b2 : wr.cell? ⟨lb, 2, none⟩ = some (.int .i64 n) := by rw [cell_of_heap hblk]; rfl
      have b3 : wr.cell? ⟨lb, 3, none⟩ = some (.string name) := by rw [cell_of_heap hblk]; rfl
      have b4 := c4
      have hlR := lt_of_block hI.blk
      have hlB := lt_of_block hI.hl
      have hrow := hI.row
      rw [hQ] at hrow
      have fR1 := fR 1
      have z1 : ∀ o, (wr.alloc o).cell? ⟨R, 1, none⟩ = some (.slice la Q lc) := fun o => (World.cell?_alloc_past _ _ _ hlR).trans c1
      have zb0 : ∀ o, (wr.alloc o).cell? ⟨lb, 0, none⟩ = some (.int .i64 of) := fun o => (World.cell?_alloc_past _ _ _ hlB).trans b0
      have n3 := row_ne_ty hI.row hI.blk (by decide)
      have HP6 : Hid (∀ (o : Obj) (w6 : World), (wr.alloc o).drew.grownBy w6 (Value.slice la Q lc).ownBlock → w6.heap[R]? = wr.heap[R]?) := fun o w6 hg => by
        have h1 := hg.block R (by show R < (wr.alloc o).heap.size; rw [World.size_alloc]; omega) (Ne.symm n3)
        exact h1.trans (alloc_old _ _ _ hlR)
      have hbb : base ≤ wr.heap.size := Nat.le_trans hI.leR (Nat.le_of_lt hlR)
      clear hI hbw n3 fR c0 fB hblk zb0
      go_wp2_with fail
      go_region_law (refine step_append_lies _ rfl (.tmp 57) (.tmp 59) 103 rfl base 185 j0 (.agg #[.int .i64 0, .int .i64 0, .int .i64 0, .string ⟨#[]⟩, .slice none 0 0]) 5 64 Tryd.underlying103 hjj hy0 hy1 hy2 rfl (by decide) _ _ _ (by simp [Act.eval, Act.put]) (hrow.alloc _) ⟨wr.heap.size, 0, none⟩ 1 1 [.int .i64 of, .int .i64 op, .int .i64 n, .string name, .slice ka (upL g.slots.length j).length kc] (by simp [Act.eval, Act.put]) rfl (cell_new5) (by simp [Value.oneCell']) (by omega) (by unfold maxLen; omega) (by omega) (by simp; omega) _ rfl ?_; intro g6 cap6 w6 hown6 hg6 hat6 hl6; have hnd6 := HP6.out _ w6 hg6; have m6 : w6.cell? ⟨R, 1, none⟩ = some (.slice la Q lc) := (World.cell?_of_block (a := ⟨R, 1, none⟩) hnd6).trans c1; have m6f : w6.frozen? ⟨R, 1, none⟩ = false := (World.frozen?_of_block (a := ⟨R, 1, none⟩) hnd6).trans fR1)
      all_goals
        have hIa := HI.out.below ((Below.refl _ _).alloc (Nat.le_refl _) (.cells #[.int .i64 of, .int .i64 op, .int .i64 n, .string name, .slice ka (upL g.slots.length j).length kc] 185)).drew
        obtain ⟨hI7, hB7⟩ := hIa.put (k := Q) HQ.out hown6 hg6
        have hB7' : Below base w _ := HBW.out.trans ((((Below.refl _ _).alloc hbb (.cells #[.int .i64 of, .int .i64 op, .int .i64 n, .string name, .slice ka (upL g.slots.length j).length kc] 185)).drew).trans hB7)
        have hI8 : RdG (w6.setCell ⟨R, 1, none⟩ (.slice (some ⟨g6, 0, none⟩) (Q + 1) cap6)) base R (lookG g ⟨kind, r, to, op, n, name⟩ j) sv (.slice (some ⟨g6, 0, none⟩) (Q + 1) cap6) hv (q ++ [((of, ⟨op, n, name, upL g.slots.length j⟩), .slice ka (upL g.slots.length j).length kc)]) := by subst hof; exact hI7
        have HE : Hid (_) := hI8
        have HB : Hid (_) := hB7'
        clear hIa hI7 hI8 hB7 hB7' hown6 hg6 hat6 hl6 hnd6 m6 m6f
        go_wp2_with fail
        go_end0
        exact ⟨rfl, HB.out, _, _, _, HE.out⟩
end Go.Proofs.YtjkcbigmebbkkaaDoor

set_option linter.unusedSimpArgs false
set_option linter.unusedVariables false
namespace Go.Proofs.YtjkcbigmebbkkaaDoor
open Go.RowKit Go.Lib

theorem OwR.set {w w' : World} {base i : Nat} {v : Value} {l l' : List Int} {R : List (Value × List Int)} (h : OwR w base R) (hi : R[i]? = some (v, l)) (hg : w.grownBy w' v.ownBlock) (ho : OwnI w' base v l') : OwR w' base (R.set i (v, l')) := by
  obtain ⟨hlt, he⟩ := List.getElem?_eq_some_iff.1 hi
  have e1 : R = R.take i ++ (v, l) :: R.drop (i + 1) := by rw [← he]; simp
  have e2 : R.set i (v, l') = R.take i ++ (v, l') :: R.drop (i + 1) := by rw [List.set_eq_take_append_cons_drop, if_pos hlt]
  rw [e2]
  rw [e1] at h
  exact ((h.perm List.perm_middle).turn hg ho (.inl rfl)).perm List.perm_middle.symm
theorem lkRows_set (q : List Lk) (i : Nat) (of : Int) (x : Nd) (kv : Value) : lkRows (q.set i ((of, x), kv)) = (lkRows q).set i (kv, x.kids) := by
  simp [lkRows, List.map_set]
theorem RdG.neR {w : World} {base R : Nat} {g : Rg} {sv lv hv : Value} {q : List Lk} (h : RdG w base R g sv lv hv q) {r : Value × List Int} (hr : r ∈ (sv, g.slots) :: (hv, g.holes) :: lkRows q) : r.1.ownBlock ≠ some R := row_ne_ty (h.rows.own r hr) h.blk (by decide)
/-- A row of numbers of the reading has turned in place. -/
theorem RdG.turned {w w' : World} {base R i : Nat} {g g' : Rg} {sv lv hv v : Value} {l l' : List Int} {q q' : List Lk} (h : RdG w base R g sv lv hv q) (hi : ((sv, g.slots) :: (hv, g.holes) :: lkRows q)[i]? = some (v, l)) (hg : w.grownBy w' v.ownBlock) (ho : OwnI w' base v l')
    (hrows : ((sv, g.slots) :: (hv, g.holes) :: lkRows q).set i (v, l') = (sv, g'.slots) :: (hv, g'.holes) :: lkRows q') (hlk : q'.map (·.1) = g'.looks) (hcl : lkCells q' = lkCells q) (hln : q'.length = q.length) : RdG w' base R g' sv lv hv q' ∧ Below base w w' := by
  have hm : (v, l) ∈ (sv, g.slots) :: (hv, g.holes) :: lkRows q := List.mem_of_getElem? hi
  have hB : base ≤ w.heap.size := Nat.le_trans h.leR (Nat.le_of_lt (lt_of_block h.blk))
  refine ⟨⟨(hg.block R (lt_of_block h.blk) (Ne.symm (h.neR hm))).trans h.blk, h.leR, hlk, ?_, ?_⟩, (Below.refl _ _).grown hg hB (fun j hj => (own_lt (h.rows.own _ hm) hj).1)⟩
  · rw [hcl, hln]; exact World.ownsRow.kept h.row hg (ownBlock_ne h.row (h.rows.own _ hm) (by decide))
  · rw [← hrows]; exact h.rows.set hi hg ho
theorem RdG.slotsTo {w w' : World} {base R : Nat} {g : Rg} {sv lv hv : Value} {l' : List Int} {q : List Lk} (h : RdG w base R g sv lv hv q) (hg : w.grownBy w' sv.ownBlock) (ho : OwnI w' base sv l') : RdG w' base R { g with slots := l' } sv lv hv q ∧ Below base w w' :=
  h.turned (i := 0) rfl hg ho rfl h.lk rfl rfl
theorem RdG.holesTo {w w' : World} {base R : Nat} {g : Rg} {sv lv hv : Value} {l' : List Int} {q : List Lk} (h : RdG w base R g sv lv hv q) (hg : w.grownBy w' hv.ownBlock) (ho : OwnI w' base hv l') : RdG w' base R { g with holes := l' } sv lv hv q ∧ Below base w w' :=
  h.turned (i := 1) rfl hg ho rfl h.lk rfl rfl
theorem lkCells_kids : ∀ (q : List Lk) (i : Nat) (of : Int) (x : Nd) (kv : Value) (l : List Int), q[i]? = some ((of, x), kv) → lkCells (q.set i ((of, { x with kids := l }), kv)) = lkCells q
  | [], i, of, x, kv, l, h => by simp at h
  | ((of1, x1), kv1) :: r, 0, of, x, kv, l, h => by simp at h; obtain ⟨⟨rfl, rfl⟩, rfl⟩ := h; simp [lkCells]
  | ((of1, x1), kv1) :: r, i + 1, of, x, kv, l, h => by simp [lkCells, lkCells_kids r i of x kv l (by simpa using h)]
theorem RdG.kidsTo {w w' : World} {base R i : Nat} {g : Rg} {sv lv hv kv : Value} {of : Int} {x : Nd} {l' : List Int} {q : List Lk} (h : RdG w base R g sv lv hv q) (hi : q[i]? = some ((of, x), kv)) (hg : w.grownBy w' kv.ownBlock) (ho : OwnI w' base kv l') : RdG w' base R { g with looks := g.looks.set i (of, { x with kids := l' }) } sv lv hv (q.set i ((of, { x with kids := l' }), kv)) ∧ Below base w w' := by
  refine h.turned (i := i + 2) (v := kv) (l := x.kids) (by simp [lkRows, hi]) hg ho ?_ ?_ (lkCells_kids q i of x kv l' hi) (by simp)
  · simp [lkRows, List.map_set]
  · rw [List.map_set, h.lk]
theorem RdG.ofTo {w : World} {base R i lg lc : Nat} {g : Rg} {sv hv kv : Value} {of of' : Int} {x : Nd} {q : List Lk} (h : RdG w base R g sv (.slice (some ⟨lg, 0, none⟩) q.length lc) hv q) (hi : q[i]? = some ((of, x), kv)) (hlg : base ≤ lg) :
    RdG (w.setCell ⟨lg, i * 5, none⟩ (.int .i64 of')) base R { g with looks := g.looks.set i (of', x) } sv (.slice (some ⟨lg, 0, none⟩) q.length lc) hv (q.set i ((of', x), kv)) ∧ Below base w (w.setCell ⟨lg, i * 5, none⟩ (.int .i64 of')) := by
  have hlt : i < q.length := (List.getElem?_eq_some_iff.1 hi).1
  have hnR : R ≠ lg := by
    rintro rfl
    exact row_ne_ty h.row h.blk (by decide) rfl
  refine ⟨⟨?_, h.leR, by rw [List.map_set, h.lk], ?_, ?_⟩, (Below.refl _ _).setCell (p := ⟨lg, i * 5, none⟩) hlg _⟩
  · rw [Deep.blk_setCell_other _ _ _ _ (by show R ≠ lg; exact hnR)]; exact h.blk
  · rw [← lkCells_of q i of of' x kv hi, List.length_set]
    exact own_put h.row (by rw [lkCells_len]; omega)
  · have e : lkRows (q.set i ((of', x), kv)) = lkRows q := by
      rw [lkRows_set]
      have : (lkRows q)[i]? = some (kv, x.kids) := by simp [lkRows, hi]
      obtain ⟨h1, h2⟩ := List.getElem?_eq_some_iff.1 this
      rw [← h2, List.set_getElem_self]
    rw [e]
    refine h.rows.kept (grown_set _ _ _ _) fun r hr b hb e => ?_
    rcases ownBlock_ne (h.rows.own r hr) h.row (by decide) with n | n
    · rw [n] at hb; cases hb
    · rw [hb] at n; exact n e.symm
theorem map_next {α : Type} (f : α → α) {l : List α} {k : Nat} (hk : k < l.length) : (l.take (k + 1)).map f ++ l.drop (k + 1) = ((l.take k).map f ++ l.drop k).set k (f l[k]) := by
  rw [List.take_succ_eq_append_getElem hk, List.map_append, List.set_append_right _ _ (by simp; omega)]
  have : k - ((l.take k).map f).length = 0 := by simp; omega
  rw [this, List.drop_eq_getElem_cons hk, List.set_cons_zero, List.append_assoc]
  rfl
theorem map_here {α : Type} (f : α → α) {l : List α} {k : Nat} (hk : k < l.length) : ((l.take k).map f ++ l.drop k)[k]? = some l[k] := by
  rw [List.getElem?_append_right (by simp; omega)]
  have : k - ((l.take k).map f).length = 0 := by simp; omega
  rw [this]; simp [hk]
/-- Between two rounds. -/
def JoI (w : World) (base R : Nat) (L : List (Int × Nd)) (S H : List Int) (sv lv hv : Value) (fr to : Int) (k : Nat) (wr : World) : Prop :=
  ∃ q, RdG wr base R ⟨S, (L.take k).map (chgL fr to) ++ L.drop k, H⟩ sv lv hv q ∧ Below base w wr

set_option maxRecDepth 20000 in
set_option maxHeartbeats 4000000 in
theorem join_any {w : World} {base R : Nat} {g : Rg} {sv lv hv : Value} {q : List Lk} (h : RdG w base R g sv lv hv q) (x y : Int) :
    Calls Tryd.prog 113 #[.pointer (some ⟨R, 0, none⟩), .int .i64 x, .int .i64 y] w fun e w' => e = .returned (.tuple #[]) ∧ Below base w w' ∧ ∃ q', RdG w' base R (joinG g x y) sv lv hv q' := by
  obtain ⟨L, hL⟩ : ∃ L, g.looks = L := ⟨_, rfl⟩
  have hql : q.length = L.length := by have := congrArg List.length h.lk; rw [hL] at this; simpa using this
  have HJ : Hid (joinG g x y = ⟨chg (max x y) (min x y) g.slots, L.map (chgL (max x y) (min x y)), chg (max x y) (min x y) g.holes⟩) := by rw [← hL]; exact rfl
  generalize joinG g x y = G at *
  have c1 := change_any h.slots (max x y) (min x y)
  obtain ⟨d0, d1, d2, _⟩ := h.cells
  obtain ⟨la, lc, hlv⟩ := row_form' h.row
  rw [hql] at hlv
  subst hlv
  have HH : Hid (_) := h
  have hB : base ≤ w.heap.size := Nat.le_trans h.leR (Nat.le_of_lt (lt_of_block h.blk))
  generalize hfr : max x y = fr at *
  generalize hto : min x y = to at *
  clear h
  go_enter Tryd.func113, Tryd.ntmps113
  go_wp2_with (first | (rw [hfr]) | (rw [hto]) | fail)
  refine c1.mono ?_
  rintro e w1 ⟨rfl, ho1, hg1⟩
  obtain ⟨h1, hb1⟩ := HH.out.slotsTo hg1 ho1
  have c2 := change_any h1.holes fr to
  obtain ⟨e0, e1, e2, _⟩ := h1.cells
  have H1 : Hid (_) := h1
  have HB1 : Hid (_) := hb1
  clear c1 ho1 hg1 h1 hb1 d0 d1 d2 HH
  go_wp2_with fail
  refine c2.mono ?_
  rintro e w2 ⟨rfl, ho2, hg2⟩
  obtain ⟨h2, hb2⟩ := H1.out.holesTo hg2 ho2
  simp only at h2
  obtain ⟨f0, f1, f2, _⟩ := h2.cells
  have HST : Hid (JoI w base R L (chg fr to g.slots) (chg fr to g.holes) sv (.slice la L.length lc) hv fr to 0 w2) := ⟨q, by rw [hL] at h2; simpa using h2, HB1.out.trans hb2⟩
  clear c2 ho2 hg2 h2 hb2 e0 e1 e2 H1 HB1 hfr hto hql
  go_wp2_with fail
  go_loopw [34] (fun i wr => ∃ k : Nat, k ≤ L.length ∧ i = .int .i64 k ∧ JoI w base R L (chg fr to g.slots) (chg fr to g.holes) sv (.slice la L.length lc) hv fr to k wr) (fun i _ => L.length - (RowKit.intOf i).toNat)
  case atStart => exact ⟨0, by omega, rfl, HST.out⟩
  case round =>
    obtain ⟨k, hk, rfl, p, hR, hbw⟩ := hrel
    by_cases hlt : k < L.length
    · have hpl : p.length = L.length := by
        have := congrArg List.length hR.lk
        simp at this; omega
      have hkp : k < p.length := by omega
      obtain ⟨⟨⟨of, X⟩, kv⟩, hpk⟩ : ∃ z, p[k]? = some z := ⟨p[k], by simp [hkp]⟩
      have hLk : (of, X) = L[k] := by
        have h1 : (p.map (·.1))[k]? = some (of, X) := by rw [List.getElem?_map, hpk]; rfl
        rw [hR.lk] at h1
        have := map_here (chgL fr to) hlt
        rw [this] at h1
        injection h1 with h1
        exact h1.symm
      have hrow := hR.row
      rcases hrow.2 with ⟨hv0, h0⟩ | ⟨lg, cap, cur, hvv, hg0, hg, hn1, hn2, hn3, hn4⟩
      · omega
      unfold maxLen at hn2
      simp only [Value.slice.injEq] at hvv
      obtain ⟨rfl, _, rfl⟩ := hvv
      obtain ⟨r0, r1, r2, rF⟩ := hR.cells
      have hcell : ∀ (j : Nat), j < p.length * 5 → wr.cell? ⟨lg, j, none⟩ = (lkCells p)[j]? := by
        intro j hj
        rw [cell_of_heap hg, ← Array.getElem?_toList]
        have : cur.toList[j]? = (cur.toList.take (p.length * 5))[j]? := by rw [List.getElem?_take, if_pos hj]
        rw [this, hn4]
      obtain ⟨at0, at4⟩ := lkCells_at p k of X kv hpk
      have k0 : wr.cell? ⟨lg, k * 5, none⟩ = some (.int .i64 of) := (hcell _ (by omega)).trans at0
      have k4 : wr.cell? ⟨lg, k * 5 + 4, none⟩ = some kv := (hcell _ (by omega)).trans at4
      have kf : wr.frozen? ⟨lg, k * 5, none⟩ = false := frozen_of_heap hg _
      rw [← hpl] at hR
      have HOF : Hid (∀ of', RdG (wr.setCell ⟨lg, k * 5, none⟩ (.int .i64 of')) base R { (⟨chg fr to g.slots, (L.take k).map (chgL fr to) ++ L.drop k, chg fr to g.holes⟩ : Rg) with looks := ((L.take k).map (chgL fr to) ++ L.drop k).set k (of', X) } sv (.slice (some ⟨lg, 0, none⟩) p.length lc) hv (p.set k ((of', X), kv)) ∧ Below base wr (wr.setCell ⟨lg, k * 5, none⟩ (.int .i64 of'))) := fun of' => hR.ofTo hpk hg0
      have HNX : Hid ((L.take (k + 1)).map (chgL fr to) ++ L.drop (k + 1) = ((L.take k).map (chgL fr to) ++ L.drop k).set k (chgL fr to (of, X))) := by show _ = _; rw [hLk]; exact map_next _ hlt
      have HKE : Hid (∀ (wm : World) (of' : Int) (pm : List Lk), RdG wm base R { (⟨chg fr to g.slots, (L.take k).map (chgL fr to) ++ L.drop k, chg fr to g.holes⟩ : Rg) with looks := ((L.take k).map (chgL fr to) ++ L.drop k).set k (of', X) } sv (.slice (some ⟨lg, 0, none⟩) p.length lc) hv pm → pm[k]? = some ((of', X), kv) → (if of = fr then to else of) = of' → Below base w wm → Calls Tryd.prog 128 #[kv, .int .i64 fr, .int .i64 to] wm fun e w' => e = .returned (.tuple #[]) ∧ JoI w base R L (chg fr to g.slots) (chg fr to g.holes) sv (.slice (some ⟨lg, 0, none⟩) p.length lc) hv fr to (k + 1) w') := by
        intro wm of' pm hm hpm hof hbm
        refine (change_any (l := X.kids) (v := kv) (base := base) (hm.rows.own (kv, X.kids) (by
          have : (lkRows pm)[k]? = some (kv, X.kids) := by simp [lkRows, hpm]
          have := List.mem_of_getElem? this
          simp [this])) fr to).mono ?_
        rintro e w' ⟨rfl, ho, hg⟩
        obtain ⟨h3, hb3⟩ := hm.kidsTo hpm hg ho
        simp only [List.set_set] at h3
        have e : chgL fr to (of, X) = (of', { X with kids := chg fr to X.kids }) := by unfold chgL; rw [← hof]
        rw [← e, ← HNX.out] at h3
        exact ⟨rfl, _, h3, hbm.trans hb3⟩
      have HPS : Hid (∀ of', (p.set k ((of', X), kv))[k]? = some ((of', X), kv)) := fun of' => by simp [hkp]
      have HBW : Hid (_) := hbw
      have hsame : of ≠ fr → RdG wr base R { (⟨chg fr to g.slots, (L.take k).map (chgL fr to) ++ L.drop k, chg fr to g.holes⟩ : Rg) with looks := ((L.take k).map (chgL fr to) ++ L.drop k).set k (of, X) } sv (.slice (some ⟨lg, 0, none⟩) p.length lc) hv p := fun _ => by
        have e : ((L.take k).map (chgL fr to) ++ L.drop k).set k (of, X) = (L.take k).map (chgL fr to) ++ L.drop k := by
          have h1 := map_here (chgL fr to) hlt
          obtain ⟨h2, h3⟩ := List.getElem?_eq_some_iff.1 h1
          rw [hLk, ← h3, List.set_getElem_self]
        rw [e]; exact hR
      have HSM : Hid (_) := hsame
      have HPK : Hid (p[k]? = some ((of, X), kv)) := hpk
      clear hrow hn4 hn3 hcell at0 at4 hR hbw hsame hpk hLk hg
      rw [hpl] at *
      by_cases hof : of = fr
      · subst hof
        obtain ⟨s1, sb⟩ := HOF.out to
        obtain ⟨_, m1, _, _⟩ := s1.cells
        have cc := HKE.out _ to _ s1 (HPS.out to) (if_pos rfl) (HBW.out.trans sb)
        have m4 : (wr.setCell ⟨lg, k * 5, none⟩ (.int .i64 to)).cell? ⟨lg, k * 5 + 4, none⟩ = some kv := by
          rw [World.cell?_setCell_other _ _ _ _ (by simp)]; exact k4
        clear s1 sb HOF HKE HSM HPS
        go_wp2_with fail
        refine cc.mono ?_
        rintro e w5 ⟨rfl, hJ⟩
        have HJJ : Hid (_) := hJ
        clear cc hJ
        go_wp2_with fail
        exact ⟨⟨k + 1, by omega, by go_num, HJJ.out⟩, by simp [RowKit.intOf]; omega⟩
      · have cc := HKE.out _ of _ (HSM.out hof) HPK.out (if_neg hof) HBW.out
        have g1 : (of == fr) = false := by rw [beq_eq_false_iff_ne]; exact hof
        clear HOF HKE HSM HPS
        go_wp2_with fail
        refine cc.mono ?_
        rintro e w5 ⟨rfl, hJ⟩
        have HJJ : Hid (_) := hJ
        clear cc hJ
        go_wp2_with fail
        exact ⟨⟨k + 1, by omega, by go_num, HJJ.out⟩, by simp [RowKit.intOf]; omega⟩
    · have hke : k = L.length := by omega
      subst hke
      have HR : Hid (_) := hR
      have HB : Hid (_) := hbw
      clear hR hbw
      go_wp2_with fail
      go_end0
      refine ⟨rfl, HB.out, p, ?_⟩
      rw [HJ.out]
      have := HR.out
      rwa [List.take_length, List.drop_length, List.append_nil] at this
end Go.Proofs.YtjkcbigmebbkkaaDoor
