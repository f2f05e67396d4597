/-
  MaC, MaD, MaE.
-/
import Derived.Shelf.Unicode.DecodeSlow
import Derived.Laws.RangeAny
import Derived.Shelf.Strconv.Itoa0
import Derived.Shelf.Unicode.DecodeAny
import Derived.Test.YtjkcbigmebbkkaaDoorProg
import Derived.WalkKit
import Derived.Deep.DeepFit
import Derived.Lib.OthersKept
import Derived.Lib.RuneCountTail
import Derived.Deep.AppendLies
import Derived.Deep.OwnRows
import Derived.Laws.AppendOwnNone
import Derived.Deep.QuietTactic
import Derived.BigQuiet
import Derived.Deep.RegionWith
import Derived.Laws.DeepStrings4
import Derived.Laws.CopyOwn
import Derived.Laws.MakeOwn
import Derived.Deep.RegionLaw
import Derived.Below
import Derived.Deep.RegionHeld3
import Derived.Test.YtjkcbigmebbkkaaDoorY01
import Derived.Test.YtjkcbigmebbkkaaDoorY02
import Derived.Test.YtjkcbigmebbkkaaDoorY03
import Derived.Test.YtjkcbigmebbkkaaDoorY04
import Derived.Test.YtjkcbigmebbkkaaDoorY05
import Derived.Test.YtjkcbigmebbkkaaDoorY06
import Derived.Test.YtjkcbigmebbkkaaDoorY07
import Derived.Test.YtjkcbigmebbkkaaDoorY08
set_option linter.unusedSimpArgs false
set_option linter.unusedVariables false
namespace Go.Proofs.YtjkcbigmebbkkaaDoor
open Go.RowKit Go.Lib

set_option maxRecDepth 20000 in
set_option maxHeartbeats 1000000 in
theorem hasG_any {w : World} {base R : Nat} {g : Rg} {sv lv hv : Value} {q : List Lk} (h : RdG w base R g sv lv hv q) (z : Int) :
    Calls Tryd.prog 85 #[.pointer (some ⟨R, 0, none⟩), .int .i64 z] w fun e w' => e = .returned (.bool (hasG g z)) ∧ w' = w := by
  obtain ⟨c0, _, _, _⟩ := h.cells
  obtain ⟨ao, cap, rfl, h1, h2, _⟩ := ownI_form h.slots
  have HG : Hid (hasG g z = (decide (0 ≤ z) && decide (z < (g.slots.length : Nat)))) := rfl
  generalize hasG g z = r at *
  clear h
  go_enter Tryd.func85, Tryd.ntmps85
  go_wp2
  all_goals
    go_ret
    refine ⟨?_, rfl⟩
    rw [HG.out]
    clear HG
    simp_all
    all_goals (first | done | (intros; omega))

theorem grown_refl (w : World) (row : Option Nat) : w.grownBy w row := ⟨rfl, rfl, rfl, Nat.le_refl _, fun _ _ _ => rfl⟩
theorem grown_set (w : World) (g o : Nat) (u : Value) : w.grownBy (w.setCell ⟨g, o, none⟩ u) (some g) := by
  have hb : Below g w (w.setCell ⟨g, o, none⟩ u) := (Below.refl _ _).setCell (p := ⟨g, o, none⟩) (Nat.le_refl _) _
  exact ⟨hb.os, hb.tape, hb.output, hb.size, fun k hk hne => Deep.blk_setCell_other _ _ _ _ (by show k ≠ g; intro e; subst e; exact hne rfl)⟩
/-- Between two rounds of change. -/
structure ChI (w : World) (base : Nat) (g cap : Nat) (l : List Int) (a b : Int) (k : Nat) (wr : World) : Prop where
  own : OwnI wr base (.slice (some ⟨g, 0, none⟩) l.length cap) (chg a b (l.take k) ++ l.drop k)
  grown : w.grownBy wr (some g)
theorem ChI.len {w wr : World} {base g cap k : Nat} {l : List Int} {a b : Int} (h : ChI w base g cap l a b k wr) : (chg a b (l.take k) ++ l.drop k).length = l.length := by
  simp [chg]; omega
theorem chg_next {l : List Int} {k : Nat} (hk : k < l.length) (a b : Int) : chg a b (l.take (k + 1)) ++ l.drop (k + 1) = (chg a b (l.take k) ++ l.drop k).set k (if l.getD k 0 = a then b else l.getD k 0) := by
  have e : l.getD k 0 = l[k] := by simp [hk]
  rw [List.take_succ_eq_append_getElem hk, e]
  unfold chg
  rw [List.map_append, List.set_append_right _ _ (by simp; omega)]
  have : k - ((l.take k).map fun z => if z = a then b else z).length = 0 := by simp; omega
  rw [this, List.drop_eq_getElem_cons hk, List.set_cons_zero, List.append_assoc]
  rfl
theorem chg_at {l : List Int} {k : Nat} (hk : k < l.length) (a b : Int) : (chg a b (l.take k) ++ l.drop k).getD k 0 = l.getD k 0 := by
  have e : l.getD k 0 = l[k] := by simp [hk]
  rw [List.getD_eq_getElem?_getD, List.getElem?_append_right (by simp [chg]; omega)]
  have : k - (chg a b (l.take k)).length = 0 := by simp [chg]; omega
  rw [this]; simp [hk]
theorem set_same {l : List Int} {k : Nat} (hk : k < l.length) : l.set k (l.getD k 0) = l := by
  have e : l.getD k 0 = l[k] := by simp [hk]
  rw [e, List.set_getElem_self]
set_option maxRecDepth 20000 in
set_option maxHeartbeats 1000000 in
theorem change_any {w : World} {base : Nat} {v : Value} {l : List Int} (h : OwnI w base v l) (a b : Int) :
    Calls Tryd.prog 128 #[v, .int .i64 a, .int .i64 b] w fun e w' => e = .returned (.tuple #[]) ∧ OwnI w' base v (chg a b l) ∧ w.grownBy w' v.ownBlock := by
  obtain ⟨ao, cap, rfl, h1, h2, h3⟩ := ownI_form h
  unfold maxLen at h2
  rcases h3 with rfl | ⟨g, rfl, hg0, hgl, hc⟩
  · have HO : Hid (_) := h
    clear h
    go_enter Tryd.func128, Tryd.ntmps128
    go_wp2_with fail
    go_loop [9] (fun q => q = .int .i64 0) (fun q => 0)
    case atStart => rfl
    case round =>
      subst hrel
      go_wp2
      go_end0
      exact ⟨rfl, HO.out, grown_refl _ _⟩
  · have HS : Hid (ChI w base g cap l a b 0 w) := ⟨by simpa [chg] using h, grown_refl _ _⟩
    clear h hc
    go_enter Tryd.func128, Tryd.ntmps128
    go_wp2_with fail
    go_loopw [9] (fun q wr => ∃ k : Nat, k ≤ l.length ∧ q = .int .i64 k ∧ ChI w base g cap l a b k wr) (fun q _ => l.length - (RowKit.intOf q).toNat)
    case atStart => exact ⟨0, by omega, rfl, HS.out⟩
    case round =>
      obtain ⟨k, hk, rfl, hR⟩ := hrel
      have hlen := hR.len
      obtain ⟨ao', cap', e1, hy1, hy2, h3⟩ := ownI_form hR.own
      simp only [Value.slice.injEq] at e1
      obtain ⟨rfl, hy3, rfl⟩ := e1
      clear hy1 hy2 hy3
      have hrow : wr.ownsRow base 3 1 (.slice (some ⟨g, 0, none⟩) l.length cap) l.length ((chg a b (l.take k) ++ l.drop k).map (Value.int .i64)) := by have := hR.own; unfold OwnI at this; rwa [hlen] at this
      by_cases hlt : k < l.length
      · rcases h3 with h3 | ⟨g', e2, _, _, hc⟩
        · rw [h3] at hlen; simp at hlen; omega
        · simp only [Option.some.injEq, Addr.mk.injEq, true_and, and_true] at e2
          subst e2
          obtain ⟨c0, cf⟩ := hc k (by omega)
          rw [chg_at hlt] at c0
          by_cases hz : l.getD k 0 = a
          · have HN : Hid (ChI w base g cap l a b (k + 1) (wr.setCell ⟨g, k, none⟩ (.int .i64 b))) := by
              refine ⟨?_, hR.grown.trans (grown_set _ _ _ _)⟩
              rw [chg_next hlt, if_pos hz]
              have hst := own_put (i := k) (u := .int .i64 b) hrow (by rw [List.length_map, hlen]; exact hlt)
              unfold OwnI
              rw [List.length_set, hlen, List.map_set]
              exact hst
            clear hR hrow hlen hc hgl
            rw [hz] at c0
            go_wp2_with fail
            exact ⟨⟨k + 1, by omega, by go_num, HN.out⟩, by simp [RowKit.intOf]; omega⟩
          · have HN : Hid (ChI w base g cap l a b (k + 1) wr) := by
              refine ⟨?_, hR.grown⟩
              rw [chg_next hlt, if_neg hz]
              have := set_same (l := chg a b (l.take k) ++ l.drop k) (k := k) (by omega)
              rw [chg_at hlt] at this
              rw [this]; exact hR.own
            have g1 : (l.getD k 0 == a) = false := by rw [beq_eq_false_iff_ne]; exact hz
            clear hR hrow hlen hc hz hgl
            generalize l.getD k 0 = y at *
            go_wp2_with fail
            exact ⟨⟨k + 1, by omega, by go_num, HN.out⟩, by simp [RowKit.intOf]; omega⟩
      · have hke : k = l.length := by omega
        subst hke
        obtain ⟨ho, hg⟩ := hR
        rw [List.take_length, List.drop_length, List.append_nil] at ho
        have HO : Hid (_) := ho
        have HG : Hid (_) := hg
        clear ho hg hlen hgl hrow
        go_wp2_with fail
        go_end0
        exact ⟨rfl, HO.out, HG.out⟩
end Go.Proofs.YtjkcbigmebbkkaaDoor

set_option linter.unusedSimpArgs false
set_option linter.unusedVariables false
namespace Go.Proofs.YtjkcbigmebbkkaaDoor
open Go.RowKit Go.Lib

def leafX : Nd := ⟨1, 0, ⟨#[]⟩, []⟩
theorem leaf_snd : sndB [leafX] = true := by decide +kernel
theorem leaf_acc (p : Nat) (hp : p ≤ 3) : (accS (List.replicate p [leafX])).1.length ≤ 3 := by
  have : p = 0 ∨ p = 1 ∨ p = 2 ∨ p = 3 := by omega
  rcases this with rfl | rfl | rfl | rfl <;> decide +kernel
theorem make_leaf {w w' : World} {op n : Int} {nm : ByteArray} {p : Nat} (hp : p ≤ 3) {e : Ending} (h : MakePost w op n nm (List.replicate p [leafX]) e w') : (∃ v, e = .returned (.tuple #[v, .int .i64 (if fitB op n nm p = true then 0 else 2)])) ∧ Below w.heap.size w w' := by
  obtain ⟨hb, hw⟩ := h
  refine ⟨?_, hb⟩
  have hl := leaf_acc p hp
  rw [List.length_replicate] at hw
  rcases hw with ⟨⟨l, hl, hs⟩, _⟩ | ⟨_, hf, rfl⟩ | ⟨_, _, h64, _⟩ | ⟨_, hf, _, v, rfl, _⟩
  · rw [List.eq_of_mem_replicate hl, leaf_snd] at hs; cases hs
  · exact ⟨_, by rw [hf]; rfl⟩
  · omega
  · exact ⟨v, by rw [hf]; rfl⟩
/-- The repeated leaf, as a list of parts. -/
theorem leaf_lst {w : World} {g lb p : Nat} (hg : w.heap[g]? = some (.cells (List.replicate p (.slice (some ⟨lb, 0, none⟩) 1 1)).toArray 22 (0, 0))) (hlb : w.heap[lb]? = some (.cells #[.int .i64 1, .int .i64 0, .string ⟨#[]⟩, .slice none 0 0] 71 (0, 0))) (hp : p ≤ 3) :
    Lst w w.heap.size (.slice (some ⟨g, 0, none⟩) p p) (List.replicate p [leafX]) := by
  refine ⟨some ⟨g, 0, none⟩, p, by rw [List.length_replicate], by simp, by unfold maxLen; omega, .inr ⟨g, 0, rfl, lt_of_block hg, fun i hi => ⟨.slice (some ⟨lb, 0, none⟩) 1 1, ?_, ?_⟩⟩⟩
  · rw [List.length_replicate] at hi
    rw [cell_of_heap hg]
    simp [hi]
  · rw [List.length_replicate] at hi
    have e : (List.replicate p [leafX]).getD i [] = [leafX] := by simp [hi]
    rw [e]
    refine ⟨some ⟨lb, 0, none⟩, 1, rfl, by simp, by unfold maxLen; omega, .inr ⟨lb, 0, rfl, lt_of_block hlb, fun j hj => ⟨.slice none 0 0, ?_⟩⟩⟩
    have : j = 0 := by simp at hj; omega
    subst this
    refine ⟨?_, ?_, ?_, ?_, ⟨none, 0, rfl, by simp [leafX], by simp, .inl rfl⟩⟩ <;> rw [cell_of_heap hlb] <;> rfl

set_option maxRecDepth 20000 in
set_option maxHeartbeats 2000000 in
theorem named_any (c : Cm) (w : World) (hT : SpanCells w) :
    Calls Tryd.prog 110 #[cmV c] w fun e w' => (∃ p : Int, e = .returned (.tuple #[.int .i64 p, .bool (fitC c)]) ∧ (fitC c = true → p = arK c.op)) ∧ Below w.heap.size w w' := by
  have hs := ar_spec c.op
  have ca : Hid (∀ W, Calls Tryd.prog 73 #[.int .i64 c.op] W fun e w' => e = .returned (.tuple #[.int .i64 (arK c.op), .int .i64 (arE c.op)]) ∧ w' = W) := arity_any c.op
  have HF : Hid (fitC c = fitB c.op c.n c.name (arK c.op)) := rfl
  have HE : Hid (arE c.op ≠ 0 → fitC c = false) := by
    intro h
    show fitB c.op c.n c.name (arK c.op) = false
    have : aritI c.op < 0 := by
      by_cases h2 : aritI c.op < 0
      · exact h2
      · exfalso; unfold arE at h; rw [if_neg h2] at h; exact h rfl
    unfold fitB
    rw [decide_eq_false (by omega)]; rfl
  generalize fitC c = q at *
  obtain ⟨kind, r, to, op, n, name⟩ := c
  simp only at hs ca HF HE ⊢
  unfold cmV
  simp only
  have HT : Hid (SpanCells w) := hT
  clear hT
  generalize hK : arK op = K at *
  generalize hE : arE op = E at *
  have hbA : Below w.heap.size w (w.alloc (.cells #[.int .i64 kind, .int .i64 r, .int .i64 to, .int .i64 op, .int .i64 n, .string name] 68)) := (Below.refl _ _).alloc (Nat.le_refl _) _
  have hblkA : (w.alloc (.cells #[.int .i64 kind, .int .i64 r, .int .i64 to, .int .i64 op, .int .i64 n, .string name] 68)).heap[w.heap.size]? = some (.cells #[.int .i64 kind, .int .i64 r, .int .i64 to, .int .i64 op, .int .i64 n, .string name] 68 (0, 0)) := (MapKept.heap_alloc w _).1
  have hsA : (w.alloc (.cells #[.int .i64 kind, .int .i64 r, .int .i64 to, .int .i64 op, .int .i64 n, .string name] 68)).heap.size = w.heap.size + 1 := by simp
  go_enter Tryd.func110, Tryd.ntmps110
  obtain ⟨wA, hwA⟩ : ∃ wA, w.alloc (.cells #[.int .i64 kind, .int .i64 r, .int .i64 to, .int .i64 op, .int .i64 n, .string name] 68) = wA := ⟨_, rfl⟩
  rw [hwA] at hbA hblkA hsA
  have HCA : Hid (∀ W, Below wA.heap.size wA W → W.cell? ⟨w.heap.size, 3, none⟩ = some (.int .i64 op) ∧ W.cell? ⟨w.heap.size, 4, none⟩ = some (.int .i64 n) ∧ W.cell? ⟨w.heap.size, 5, none⟩ = some (.string name)) := by
    intro W hb
    have hk : W.heap[w.heap.size]? = _ := (hb.block _ (by omega)).trans hblkA
    refine ⟨?_, ?_, ?_⟩ <;> rw [cell_of_heap hk] <;> rfl
  obtain ⟨d3, d4, d5⟩ := HCA.out wA (Below.refl _ _)
  have HBA : Hid (_) := hbA
  go_wp2_with (rw [hwA])
  refine (ca.out _).mono ?_
  rintro e w1 ⟨rfl, rfl⟩
  clear ca hwA
  by_cases hE0 : E = 0
  · subst hE0
    have hK3 : 0 ≤ K ∧ K ≤ 3 := by omega
    obtain ⟨k, rfl⟩ : ∃ k : Nat, K = k := ⟨K.toNat, by omega⟩
    have hk3 : k ≤ 3 := by omega
    clear hs HE hE hK hK3
    have hbL : Below w1.heap.size w1 (w1.alloc (.cells #[.int .i64 1, .int .i64 0, .string ⟨#[]⟩, .slice none 0 0] 71)) := (Below.refl _ _).alloc (Nat.le_refl _) _
    have hblkL : (w1.alloc (.cells #[.int .i64 1, .int .i64 0, .string ⟨#[]⟩, .slice none 0 0] 71)).heap[w1.heap.size]? = some (.cells #[.int .i64 1, .int .i64 0, .string ⟨#[]⟩, .slice none 0 0] 71 (0, 0)) := (MapKept.heap_alloc w1 _).1
    have hsL : (w1.alloc (.cells #[.int .i64 1, .int .i64 0, .string ⟨#[]⟩, .slice none 0 0] 71)).heap.size = w1.heap.size + 1 := by simp
    obtain ⟨wL, hwL⟩ : ∃ wL, w1.alloc (.cells #[.int .i64 1, .int .i64 0, .string ⟨#[]⟩, .slice none 0 0] 71) = wL := ⟨_, rfl⟩
    rw [hwL] at hbL hblkL hsL
    have HREP : Hid (∀ (W : World) (d : Nat), Below wL.heap.size wL W → d = W.heap.size → Calls Tryd.prog 127 #[.slice (some ⟨d, 0, none⟩) 1 1, .int .i64 (k : Int)] (W.alloc (.cells #[.slice (some ⟨w1.heap.size, 0, none⟩) 1 1] 22)) fun e w' => ∃ g, e = .returned (.slice (some ⟨g, 0, none⟩) k k) ∧ Below wL.heap.size wL w' ∧ Lst w' w'.heap.size (.slice (some ⟨g, 0, none⟩) k k) (List.replicate k [leafX])) := by
      rintro W d hb rfl
      have hblk : (W.alloc (.cells #[.slice (some ⟨w1.heap.size, 0, none⟩) 1 1] 22)).heap[W.heap.size]? = some (.cells #[.slice (some ⟨w1.heap.size, 0, none⟩) 1 1] 22 (0, 0)) := (MapKept.heap_alloc W _).1
      refine (repeat_nodes (b := W.heap.size) (o := 0) (z := .slice (some ⟨w1.heap.size, 0, none⟩) 1 1) (by rw [cell_of_heap hblk]; rfl) rfl k (by omega)).mono ?_
      rintro e w' ⟨g, rfl, _, hg, hb'⟩
      have hb2 : Below wL.heap.size wL w' := (hb.alloc hb.size _).trans (hb'.mono (by have := hb.size; simp; omega))
      exact ⟨g, rfl, hb2, leaf_lst hg ((hb2.block _ (by omega)).trans hblkL) hk3⟩
    have HB1 : Hid (Below w1.heap.size w1 wL) := hbL
    have HSL : Hid (wL.heap.size = w1.heap.size + 1) := hsL
    have HSA : Hid (w1.heap.size = w.heap.size + 1) := hsA
    obtain ⟨d3, d4, d5⟩ := HCA.out wL hbL
    clear hbL hblkL hsL hsA hblkA
    go_wp2_with (rw [hwL])
    go_region_held3 (fun W => W.cell? ⟨w.heap.size, 3, none⟩ = some (.int .i64 op) ∧ W.cell? ⟨w.heap.size, 4, none⟩ = some (.int .i64 n) ∧ W.cell? ⟨w.heap.size, 5, none⟩ = some (.string name)) (go_keep) (first | (go_at_call 127; refine (HREP.out _ _ ((Below.refl _ _).drew) rfl).mono ?_; rintro e w3 ⟨g, rfl, hb3, hl3⟩; obtain ⟨k0, k1, k2⟩ := HCA.out w3 (HB1.out.trans (hb3.mono HB1.out.size))) | (go_at_call 23; refine (make_any op n name _ (List.replicate k [leafX]) _ _ (Nat.le_refl _) (HT.out.below (HBA.out.trans ((HB1.out.trans (hb3.mono HB1.out.size)).mono HBA.out.size))) hl3 (by simp; omega)).mono ?_; rintro e w4 hM; obtain ⟨⟨v4, rfl⟩, hb4⟩ := make_leaf hk3 hM; generalize hbad : (if fitB op n name k = true then (0 : Int) else 2) = bad at *; obtain ⟨l0, l1, l2⟩ := HCA.out w4 ((HB1.out.trans (hb3.mono HB1.out.size)).trans (hb4.mono (HB1.out.trans (hb3.mono HB1.out.size)).size))))
    have HBE : Hid (Below w.heap.size w w4) := HBA.out.trans (((HB1.out.trans (hb3.mono HB1.out.size)).trans (hb4.mono (HB1.out.trans (hb3.mono HB1.out.size)).size)).mono HBA.out.size)
    clear hb3 hb4 hl3 hM k0 k1 k2 l0 l1 l2 d3 d4 d5
    go_wp2_with fail
    go_ret2
    refine ⟨⟨k, ?_, fun _ => rfl⟩, HBE.out⟩
    rw [HF.out]
    subst hbad; cases fitB op n name k <;> rfl
  · have hq := HE.out hE0
    have HBE : Hid (_) := hbA
    subst hq
    have g0 : (E == 0) = false := by rw [beq_eq_false_iff_ne]; exact hE0
    clear hs HE hE hbA hblkA hsA HF
    go_wp2_with fail
    go_ret2
    exact ⟨⟨0, rfl, fun h => by cases h⟩, HBE.out⟩
end Go.Proofs.YtjkcbigmebbkkaaDoor

set_option linter.unusedSimpArgs false
set_option linter.unusedVariables false
namespace Go.Proofs.YtjkcbigmebbkkaaDoor
open Go.RowKit Go.Lib

theorem row_ne_ty {w : World} {base : Nat} {e T : TypeId} {s n R : Nat} {v : Value} {xs : List Value} {cs : Array Value} {fr : Nat × Nat} (h : w.ownsRow base e s v n xs) (hR : w.heap[R]? = some (.cells cs T fr)) (hne : e ≠ T) : v.ownBlock ≠ some R := by
  rcases h.2 with ⟨rfl, _⟩ | ⟨g, cap, cur, rfl, _, hg, _⟩
  · simp [Value.ownBlock]
  · intro hh
    simp [Value.ownBlock] at hh
    subst hh
    rw [hR] at hg
    simp at hg
    exact hne hg.2.1.symm
/-- While a look is made: the look's own block lb, its Kids ks. -/
structure LkI (w : World) (base R lb : Nat) (g : Rg) (x : Int × Nd) (kv sv lv hv : Value) (q : List Lk) : Prop where
  blk : w.heap[R]? = some (.cells #[sv, lv, hv] 105 (0, 0))
  leR : base ≤ R
  lk : q.map (·.1) = g.looks
  row : w.ownsRow base 185 5 lv q.length (lkCells q)
  hl : w.heap[lb]? = some (.cells #[.int .i64 x.1, .int .i64 x.2.op, .int .i64 x.2.n, .string x.2.name, kv] 185 (0, 0))
  leB : base ≤ lb
  ne : lv.ownBlock ≠ some lb
  rows : OwR w base ((kv, x.2.kids) :: (sv, g.slots) :: (hv, g.holes) :: lkRows q)
theorem LkI.below {w w' : World} {base R lb : Nat} {g : Rg} {x : Int × Nd} {kv sv lv hv : Value} {q : List Lk} (h : LkI w base R lb g x kv sv lv hv q) (hb : Below w.heap.size w w') : LkI w' base R lb g x kv sv lv hv q :=
  ⟨(hb.block R (lt_of_block h.blk)).trans h.blk, h.leR, h.lk, ownsRow_below h.row hb, (hb.block lb (lt_of_block h.hl)).trans h.hl, h.leB, h.ne, h.rows.below hb⟩
theorem LkI.cells {w : World} {base R lb : Nat} {g : Rg} {x : Int × Nd} {kv sv lv hv : Value} {q : List Lk} (h : LkI w base R lb g x kv sv lv hv q) : w.cell? ⟨R, 0, none⟩ = some sv ∧ w.cell? ⟨R, 1, none⟩ = some lv ∧ w.cell? ⟨lb, 4, none⟩ = some kv ∧ (∀ j, w.frozen? ⟨R, j, none⟩ = false) ∧ (∀ j, w.frozen? ⟨lb, j, none⟩ = false) := by
  refine ⟨?_, ?_, ?_, fun j => frozen_of_heap h.blk _, fun j => frozen_of_heap h.hl _⟩
  · rw [cell_of_heap h.blk]; rfl
  · rw [cell_of_heap h.blk]; rfl
  · rw [cell_of_heap h.hl]; rfl
theorem LkI.neR {w : World} {base R lb : Nat} {g : Rg} {x : Int × Nd} {kv sv lv hv : Value} {q : List Lk} (h : LkI w base R lb g x kv sv lv hv q) : R ≠ lb := by
  rintro rfl
  have h1 := h.blk
  rw [h.hl] at h1
  simp at h1
theorem LkI.neK {w : World} {base R lb : Nat} {g : Rg} {x : Int × Nd} {kv sv lv hv : Value} {q : List Lk} (h : LkI w base R lb g x kv sv lv hv q) {r : Value × List Int} (hr : r ∈ (kv, x.2.kids) :: (sv, g.slots) :: (hv, g.holes) :: lkRows q) : r.1.ownBlock ≠ some lb ∧ r.1.ownBlock ≠ some R ∧ (r.1.ownBlock = none ∨ r.1.ownBlock ≠ lv.ownBlock) :=
  ⟨row_ne_ty (h.rows.own r hr) h.hl (by decide), row_ne_ty (h.rows.own r hr) h.blk (by decide), ownBlock_ne (h.rows.own r hr) h.row (by decide)⟩
/-- A part more among its Kids. -/
theorem LkI.kid {w w6 : World} {base R lb g6 c6 : Nat} {g : Rg} {x : Int × Nd} {kv sv lv hv : Value} {q : List Lk} (h : LkI w base R lb g x kv sv lv hv q) {z : Int} {k : Nat} (hk : x.2.kids.length = k)
    (hown : w6.ownsRow base 3 1 (.slice (some ⟨g6, 0, none⟩) (k + 1) c6) (k + 1) (x.2.kids.map (Value.int .i64) ++ [.int .i64 z])) (hg : w.grownBy w6 kv.ownBlock) (hat : kv.ownBlock = some g6 ∨ g6 = w.heap.size) :
    LkI (w6.setCell ⟨lb, 4, none⟩ (.slice (some ⟨g6, 0, none⟩) (k + 1) c6)) base R lb g (x.1, { x.2 with kids := x.2.kids ++ [z] }) (.slice (some ⟨g6, 0, none⟩) (k + 1) c6) sv lv hv q ∧ Below base w (w6.setCell ⟨lb, 4, none⟩ (.slice (some ⟨g6, 0, none⟩) (k + 1) c6)) := by
  have hnR := h.neR
  obtain ⟨n1, n2, n3⟩ := h.neK (r := (kv, x.2.kids)) (by simp)
  have ho : OwnI w6 base (.slice (some ⟨g6, 0, none⟩) (k + 1) c6) (x.2.kids ++ [z]) := by
    unfold OwnI
    rw [List.length_append, hk, List.map_append]; exact hown
  have hR6 := h.rows.turn (v' := .slice (some ⟨g6, 0, none⟩) (k + 1) c6) hg ho (by
    rcases hat with hat | hat
    · exact .inl hat.symm
    · exact .inr fun b hb => by simp [Value.ownBlock] at hb; omega)
  have hlb6 : w6.heap[lb]? = _ := (hg.block lb (lt_of_block h.hl) (Ne.symm n1)).trans h.hl
  have hbR : w6.heap[R]? = _ := (hg.block R (lt_of_block h.blk) (Ne.symm n2)).trans h.blk
  have hrow : w6.ownsRow base 185 5 lv q.length (lkCells q) := World.ownsRow.kept h.row hg (ownBlock_ne h.row (h.rows.own (kv, x.2.kids) (by simp)) (by decide))
  have hB : base ≤ w.heap.size := Nat.le_trans h.leB (Nat.le_of_lt (lt_of_block h.hl))
  refine ⟨⟨?_, h.leR, h.lk, own_set' hrow h.ne, ?_, h.leB, h.ne, hR6.kept (grown_set _ _ _ _) fun r hr b hb e => ?_⟩, ?_⟩
  · rw [Deep.blk_setCell_other _ _ _ _ (by show R ≠ lb; exact hnR)]; exact hbR
  · rw [heap_setCell_same w6 lb 4 _ _ _ hlb6]; rfl
  · rw [← e] at hb
    exact row_ne_ty (hR6.own r hr) hlb6 (by decide) hb
  · have h1 : Below base w w6 := (Below.refl _ _).grown hg hB (fun j hj => (own_lt (h.rows.own (kv, x.2.kids) (by simp)) hj).1)
    exact h1.setCell (p := ⟨lb, 4, none⟩) h.leB _
/-- A register more. -/
theorem LkI.slot {w w6 : World} {base R lb g6 c6 : Nat} {g : Rg} {x : Int × Nd} {kv sv lv hv : Value} {q : List Lk} (h : LkI w base R lb g x kv sv lv hv q) {z : Int} {k : Nat} (hk : g.slots.length = k)
    (hown : w6.ownsRow base 3 1 (.slice (some ⟨g6, 0, none⟩) (k + 1) c6) (k + 1) (g.slots.map (Value.int .i64) ++ [.int .i64 z])) (hg : w.grownBy w6 sv.ownBlock) (hat : sv.ownBlock = some g6 ∨ g6 = w.heap.size) :
    LkI (w6.setCell ⟨R, 0, none⟩ (.slice (some ⟨g6, 0, none⟩) (k + 1) c6)) base R lb { g with slots := g.slots ++ [z] } x kv (.slice (some ⟨g6, 0, none⟩) (k + 1) c6) lv hv q ∧ Below base w (w6.setCell ⟨R, 0, none⟩ (.slice (some ⟨g6, 0, none⟩) (k + 1) c6)) := by
  have hnR := h.neR
  obtain ⟨n1, n2, n3⟩ := h.neK (r := (sv, g.slots)) (by simp)
  have ho : OwnI w6 base (.slice (some ⟨g6, 0, none⟩) (k + 1) c6) (g.slots ++ [z]) := by
    unfold OwnI
    rw [List.length_append, hk, List.map_append]; exact hown
  have hR6 := (h.rows.perm (List.Perm.swap (sv, g.slots) (kv, x.2.kids) _)).turn (v' := .slice (some ⟨g6, 0, none⟩) (k + 1) c6) hg ho (by
    rcases hat with hat | hat
    · exact .inl hat.symm
    · exact .inr fun b hb => by simp [Value.ownBlock] at hb; omega)
  have hR7 := hR6.perm (List.Perm.swap (kv, x.2.kids) (.slice (some ⟨g6, 0, none⟩) (k + 1) c6, g.slots ++ [z]) _)
  have hlb6 : w6.heap[lb]? = _ := (hg.block lb (lt_of_block h.hl) (Ne.symm n1)).trans h.hl
  have hbR : w6.heap[R]? = _ := (hg.block R (lt_of_block h.blk) (Ne.symm n2)).trans h.blk
  have hrow : w6.ownsRow base 185 5 lv q.length (lkCells q) := World.ownsRow.kept h.row hg (ownBlock_ne h.row (h.rows.own (sv, g.slots) (by simp)) (by decide))
  have hB : base ≤ w.heap.size := Nat.le_trans h.leB (Nat.le_of_lt (lt_of_block h.hl))
  refine ⟨⟨?_, h.leR, h.lk, own_set' hrow (row_ne_ty hrow hbR (by decide)), ?_, h.leB, h.ne, hR7.kept (grown_set _ _ _ _) fun r hr b hb e => ?_⟩, ?_⟩
  · rw [heap_setCell_same w6 R 0 _ _ _ hbR]; rfl
  · rw [Deep.blk_setCell_other _ _ _ _ (by show lb ≠ R; exact Ne.symm hnR)]; exact hlb6
  · rw [← e] at hb
    exact row_ne_ty (hR7.own r hr) hbR (by decide) hb
  · have h1 : Below base w w6 := (Below.refl _ _).grown hg hB (fun j hj => (own_lt (h.rows.own (sv, g.slots) (by simp)) hj).1)
    exact h1.setCell (p := ⟨R, 0, none⟩) h.leR _
/-- The look stands behind the rest. -/
theorem LkI.put {w w6 : World} {base R lb g6 c6 : Nat} {g : Rg} {x : Int × Nd} {kv sv lv hv : Value} {q : List Lk} (h : LkI w base R lb g x kv sv lv hv q) {k : Nat} (hk : q.length = k)
    (hown : w6.ownsRow base 185 5 (.slice (some ⟨g6, 0, none⟩) (k + 1) c6) (k + 1) (lkCells q ++ [.int .i64 x.1, .int .i64 x.2.op, .int .i64 x.2.n, .string x.2.name, kv])) (hg : w.grownBy w6 lv.ownBlock) :
    RdG (w6.setCell ⟨R, 1, none⟩ (.slice (some ⟨g6, 0, none⟩) (k + 1) c6)) base R { g with looks := g.looks ++ [x] } sv (.slice (some ⟨g6, 0, none⟩) (k + 1) c6) hv (q ++ [(x, kv)]) ∧ Below base w (w6.setCell ⟨R, 1, none⟩ (.slice (some ⟨g6, 0, none⟩) (k + 1) c6)) := by
  have hR6 : OwR w6 base _ := h.rows.kept hg fun r hr b hb e => by
    obtain ⟨_, _, n3⟩ := h.neK hr
    rcases n3 with n3 | n3
    · rw [n3] at hb; cases hb
    · rw [hb] at n3; exact n3 e.symm
  have hbR : w6.heap[R]? = _ := (hg.block R (lt_of_block h.blk) (Ne.symm (row_ne_ty h.row h.blk (by decide)))).trans h.blk
  have hB : base ≤ w.heap.size := Nat.le_trans h.leB (Nat.le_of_lt (lt_of_block h.hl))
  have hown' : w6.ownsRow base 185 5 (.slice (some ⟨g6, 0, none⟩) (k + 1) c6) (q ++ [(x, kv)]).length (lkCells (q ++ [(x, kv)])) := by
    rw [lkCells_app, List.length_append, hk]; exact hown
  refine ⟨⟨?_, h.leR, by simp [h.lk], own_set' hown' (row_ne_ty hown' hbR (by decide)), ?_⟩, ?_⟩
  · rw [heap_setCell_same w6 R 1 _ _ _ hbR]; rfl
  · have h7 := hR6.kept (grown_set w6 R 1 (.slice (some ⟨g6, 0, none⟩) (k + 1) c6)) fun r hr b hb e => by
      rw [← e] at hb
      exact row_ne_ty (hR6.own r hr) hbR (by decide) hb
    refine h7.perm ?_
    have : lkRows (q ++ [(x, kv)]) = lkRows q ++ [(kv, x.2.kids)] := by simp [lkRows]
    rw [this]
    exact (List.perm_append_singleton (kv, x.2.kids) ((sv, g.slots) :: (hv, g.holes) :: lkRows q)).symm
  · have h1 : Below base w w6 := (Below.refl _ _).grown hg hB (fun j hj => (own_lt h.row hj).1)
    exact h1.setCell (p := ⟨R, 1, none⟩) h.leR _
/-- A look is begun. -/
theorem RdG.begin_ {w : World} {base R : Nat} {g : Rg} {sv lv hv : Value} {q : List Lk} (h : RdG w base R g sv lv hv q) (of op n : Int) (nm : ByteArray) : LkI (w.alloc (.cells #[.int .i64 of, .int .i64 op, .int .i64 n, .string nm, .slice none 0 0] 185)) base R w.heap.size g (of, ⟨op, n, nm, []⟩) (.slice none 0 0) sv lv hv q := by
  have hb : Below w.heap.size w (w.alloc (.cells #[.int .i64 of, .int .i64 op, .int .i64 n, .string nm, .slice none 0 0] 185)) := (Below.refl _ _).alloc (Nat.le_refl _) _
  have h' := h.below hb
  refine ⟨h'.blk, h.leR, h.lk, h'.row, (MapKept.heap_alloc w _).1, Nat.le_trans h.leR (Nat.le_of_lt (lt_of_block h.blk)), fun e => ?_, h'.rows.cons (OwnI_nil _ _) (fun r _ b _ => by simp [Value.ownBlock])⟩
  have := (own_lt h.row e).2
  omega
end Go.Proofs.YtjkcbigmebbkkaaDoor
