/-
  ExBegW, ExPartW, ExSplPure, RefNm, ExRdW.
-/
import Derived.Shelf.Unicode.DecodeSlow
import Derived.Laws.RangeAny
import Derived.Shelf.Small.Bits
import Derived.Shelf.Strconv.Itoa0
import Derived.Shelf.LaysM
import Derived.Shelf.Strconv.Clone
import Derived.Shelf.Unicode.DecodeAny
import Derived.Ground.SlsfProg
import Derived.Shelf.SlSortCmp.Insertion
import Derived.Shelf.SlSortCmp.SiftDown1
import Derived.Shelf.SlSortCmp.HeapSort1
import Derived.Shelf.SlSortCmp.Insertion1
import Derived.Shelf.SlSortCmp.Median1
import Derived.Shelf.SlSortCmp.Pivot1
import Derived.Shelf.SlSortCmp.ReverseRange1
import Derived.Shelf.SlSortCmp.PartitionEqual1
import Derived.Test.YtkbcgcempchoaaaDoorProg
import Derived.WalkKit
import Derived.Deep.DeepFit
import Derived.Lib.OthersKept
import Derived.Lib.RuneCountTail
import Derived.Deep.AppendLies
import Derived.Deep.OwnRows
import Derived.Laws.AppendOwnNone
import Derived.Deep.QuietTactic
import Derived.BigQuiet
import Derived.Deep.RegionWith
import Derived.Laws.DeepStrings4
import Derived.Test.YtkbcgcempchoaaaDoorH01
import Derived.Test.YtkbcgcempchoaaaDoorH02
import Derived.Test.YtkbcgcempchoaaaDoorH03
set_option linter.unusedSimpArgs false
set_option linter.unusedVariables false
namespace Go.Proofs.YtkbcgcempchoaaaDoor
open Go.RowKit Go.Lib

theorem rowIs_below {w w' : World} {b : Nat} {t : TypeId} {n : Nat} {f : Nat → Value} (h : w.rowIs b t n f) (hb : Below w.heap.size w w') : w'.rowIs b t n f := by
  have hlt := h.lt
  unfold World.rowIs at h ⊢
  rw [hb.block b hlt]; exact h

theorem begR_take_succ {l : List Nd} {k : Nat} {fr : List Nat} (hlt : k < l.length) (h : begR [] (l.take k) = some fr) : begR [] (l.take (k + 1)) = stp fr (l.getD k nd0) := by
  rw [List.take_succ_eq_append_getElem hlt, begR_snoc, h]; simp [hlt]

theorem begL_none_of {l : List Nd} {k : Nat} {fr : List Nat} (hlt : k < l.length) (h : begR [] (l.take k) = some fr) (hs : stp fr (l.getD k nd0) = none) : begL l = none := by
  unfold begL
  split
  · rfl
  · rw [begR_take_none (i := k + 1) (by rw [begR_take_succ hlt h, hs])]; rfl

theorem node_kid {wr w2 : World} {a b c d : Value} {t : TypeId} (h : Below (wr.alloc (.cells #[a, b, c, d] t)).heap.size (wr.alloc (.cells #[a, b, c, d] t)) w2) : w2.cell? ⟨wr.heap.size, 3, none⟩ = some d := by
  rw [h.cell (p := ⟨wr.heap.size, 3, none⟩) (by simp)]; simp

def BegPost (w : World) (l : List Nd) (e : Ending) (w' : World) : Prop :=
  Below w.heap.size w w' ∧ ((begL l = none ∧ e = .returned (.slice none 0 0)) ∨ ∃ fr, begL l = some fr ∧ ∃ g, e = .returned (.slice (some ⟨g, 0, none⟩) l.length l.length) ∧ w.heap.size ≤ g ∧ g < w'.heap.size ∧ ∀ j, j < l.length → w'.cell? ⟨g, j, none⟩ = some (.int .i64 (fr.getD j 0 : Nat)))

set_option maxHeartbeats 2000000 in
theorem begins_any (vs : Value) (l : List Nd) (w : World) (B : Nat) (hBw : B ≤ w.heap.size) (hT : SpanCells w) (hN : Nodes w B vs l) :
    Calls Tryd.prog 38 #[vs] w fun e w' => BegPost w l e w' := by
  obtain ⟨ao, cap0, rfl, hl, hm, hc⟩ := hN
  unfold maxLen at hm
  by_cases h0 : l.length = 0
  · have hb : Hid (begL l = none) := by show begL l = none; unfold begL; simp [h0]
    have hz : l = [] := List.length_eq_zero_iff.1 h0
    subst hz
    go_enter Tryd.func38, Tryd.ntmps38
    go_wp2
    go_ret
    exact ⟨Below.refl _ _, .inl ⟨hb.out, rfl⟩⟩
  by_cases h64 : 64 < l.length
  · have hb : Hid (begL l = none) := by show begL l = none; unfold begL; simp [h64]
    have g1 : ((l.length : Int) == 0) = false := by rw [beq_eq_false_iff_ne]; omega
    have g2 : (64 : Int) < (l.length : Int) := by omega
    go_enter Tryd.func38, Tryd.ntmps38
    go_wp2
    go_ret
    exact ⟨Below.refl _ _, .inl ⟨hb.out, rfl⟩⟩
  obtain ⟨b, o, rfl, hbl, hc'⟩ : ∃ b o, ao = some ⟨b, o, none⟩ ∧ b < B ∧ ∀ i, i < l.length → ∃ kv, NodeAt w B b (o + i * 4) (l.getD i nd0) kv := by
    rcases hc with h | h
    · subst h; simp at h0
    · exact h
  have HC : Hid (∀ i, i < l.length → ∃ kv, NodeAt w B b (o + i * 4) (l.getD i nd0) kv) := hc'
  clear hc hc'
  have g1 : ((l.length : Int) == 0) = false := by rw [beq_eq_false_iff_ne]; omega
  have g2 : ¬ (64 : Int) < (l.length : Int) := by omega
  have hmk := run_make_row' (P := Tryd.prog) 48 3 (.int .i64 0) 8 Tryd.underlying48 Tryd.info3 rfl .i64 .i64 l.length (by omega) (by omega)
  have HT : Hid (SpanCells w) := hT
  clear hT
  go_enter Tryd.func38, Tryd.ntmps38
  go_wp2
  go_loopw [21] (fun i wr => ∃ (k : Nat) (fr : List Nat), k ≤ l.length ∧ i = .int .i64 k ∧ Hid (begR [] (l.take k) = some fr) ∧ wr.rowIs w.heap.size 3 l.length (fun j => .int .i64 (fr.getD j 0 : Nat)) ∧ Below w.heap.size w wr) (fun i _ => l.length - (RowKit.intOf i).toNat)
  case atStart => exact ⟨0, [], by omega, rfl, rfl, World.rowIs_made _ _ _ _, (Below.refl _ _).alloc (Nat.le_refl _) _⟩
  case round =>
    obtain ⟨k, fr, hk, rfl, hbr, hrow, hB⟩ := hrel
    have hsz := hB.size
    have hgl := hrow.lt
    clear hmk
    by_cases hlt : k < l.length
    · obtain ⟨kv, hNA⟩ := HC.out k hlt
      have hNA := hNA.below (hB.mono hBw) (Nat.le_refl _) hbl
      have HS : Hid (stp fr (l.getD k nd0) = none → begL l = none) := begL_none_of hlt hbr.out
      have HS2 : Hid (begR [] (l.take (k + 1)) = stp fr (l.getD k nd0)) := begR_take_succ hlt hbr.out
      have hfl : fr.length = k := by have := begR_len hbr.out; simp at this; omega
      have hlow := (begR_some hbr.out low_nil).2.1
      generalize l.getD k nd0 = x at *
      obtain ⟨op, n, nm, kids⟩ := x
      obtain ⟨c0, c1, c2, c3, hki⟩ := hNA
      simp only at c0 c1 c2 c3 hki
      obtain ⟨ka, kc, rfl, hkl, ⟨hkm, _⟩, hkc⟩ := hki
      unfold maxLen at hkm
      have HKC : Hid (kids = [] ∨ ∃ b o, ka = some ⟨b, o, none⟩ ∧ b < B ∧ ∀ j, j < kids.length → wr.cell? ⟨b, o + j, none⟩ = some (.int .i64 (kids.getD j 0))) := hkc
      clear hkc
      have hb9 : b < wr.heap.size := by omega
      have hb8 : b ≠ wr.heap.size := by omega
      have hTr : SpanCells (wr.alloc (.cells #[.int .i64 op, .int .i64 n, .string nm, .slice ka kids.length kc] 50)) := HT.out.below (hB.alloc hsz _)
      have HFL : Hid (fr.length = k) := hfl
      clear hfl
      cases hf : fitB op n nm kids.length
      · have hnone : Hid (begL l = none) := HS.out (by simp [stp, formB, hf])
        go_wp2_with (go_at_call 63; refine (fits_any _ _ _ _ _ hTr).mono ?_; rintro e w2 ⟨rfl, hb2⟩)
        go_ret
        exact ⟨(hB.alloc hsz _).trans (hb2.mono (by simp; omega)), .inl ⟨hnone.out, rfl⟩⟩
      · have HF : Hid (stp fr ⟨op, n, nm, kids⟩ = (chainL fr kids.reverse k).map (fun a => fr ++ [a])) := by show stp fr ⟨op, n, nm, kids⟩ = _; simp [stp, formB, hf, HFL.out]
        go_wp2_with (go_at_call 63; refine (fits_any _ _ _ _ _ hTr).mono ?_; rintro e w2 ⟨rfl, hb2⟩; rw [hf]; have d3 : w2.cell? ⟨wr.heap.size, 3, none⟩ = some (.slice ka kids.length kc) := node_kid hb2)
        have hz2 : wr.heap.size + 1 ≤ w2.heap.size := by have := hb2.size; simpa using this
        have hrow2 := rowIs_below (hrow.alloc _) hb2
        have hBw2 : Below wr.heap.size wr w2 := ((Below.refl _ _).alloc (Nat.le_refl _) _).trans (hb2.mono (by simp))
        have HB2 : Hid (Below w.heap.size w w2) := hB.trans (hBw2.mono hsz)
        have HKC2 : Hid (kids = [] ∨ ∃ b o, ka = some ⟨b, o, none⟩ ∧ ∀ j, j < kids.length → w2.cell? ⟨b, o + j, none⟩ = some (.int .i64 (kids.getD j 0))) := by
          rcases HKC.out with h | ⟨b, o, h1, h2, h3⟩
          · exact .inl h
          · exact .inr ⟨b, o, h1, fun j hj => (hBw2.cell (p := ⟨b, o + j, none⟩) (by show b < wr.heap.size; omega)).trans (h3 j hj)⟩
        have HL : Hid (Low fr) := hlow
        have HR2 : Hid (w2.rowIs w.heap.size 3 l.length fun j => .int .i64 (fr.getD j 0 : Nat)) := hrow2
        clear hb2 hrow hrow2 hB hBw2 HKC hTr hf hlow c0 c1 c2 c3
        go_loop [6, 7] (fun a q => ∃ (c m : Nat) (z : Int), a = .int .i64 c ∧ q = .int .i64 z ∧ Hid (z = (m : Int) - 1) ∧ c ≤ k ∧ m ≤ kids.length ∧ Hid (chainL fr (kids.take m).reverse c = chainL fr kids.reverse k)) (fun _ q => (RowKit.intOf q + 1).toNat)
        case atStart => exact ⟨k, kids.length, _, rfl, rfl, rfl, Nat.le_refl _, Nat.le_refl _, by rw [List.take_length]; rfl⟩
        case round =>
          obtain ⟨c, m, z, rfl, rfl, hz, hck, hmk, hch⟩ := hrel
          cases m with
          | zero =>
            have hz1 : z = -1 := by have := hz.out; omega
            subst hz1
            have hcc : chainL fr kids.reverse k = some c := by rw [← hch.out]; simp [chainL]
            have HCC : Hid (stp fr ⟨op, n, nm, kids⟩ = some (fr ++ [c])) := by show stp fr ⟨op, n, nm, kids⟩ = _; rw [HF.out, hcc]; rfl
            clear hcc
            have f0 := HR2.out.frozen k
            have e0 := HR2.out.cell hlt
            have hgl2 : w.heap.size < w2.heap.size := by omega
            go_wp2
            refine ⟨⟨k + 1, fr ++ [c], by omega, by go_num, ?_, ?_, HB2.out.setCell (Nat.le_refl _) _⟩, by simp [RowKit.intOf]; omega⟩
            · show begR [] (l.take (k + 1)) = some (fr ++ [c])
              rw [HS2.out, HCC.out]
            · exact (HR2.out.set k _).congr (fun j hj => by
                show (if j = k then Value.int .i64 (c : Nat) else .int .i64 (fr.getD j 0 : Nat)) = .int .i64 ((fr ++ [c]).getD j 0 : Nat)
                rw [getD_snoc, HFL.out]
                by_cases hjk : j < k
                · rw [if_neg (by omega), if_pos hjk]
                · by_cases hje : j = k
                  · rw [if_pos hje, if_neg hjk, if_pos hje]
                  · rw [if_neg hje, if_neg hjk, if_neg hje]
                    have : fr.getD j 0 = 0 := by rw [List.getD_eq_getElem?_getD, List.getElem?_eq_none (by rw [HFL.out]; omega)]; rfl
                    rw [this])
          | succ m =>
            have hz1 : z = (m : Int) := by have := hz.out; omega
            subst hz1
            have hmlt : m < kids.length := by omega
            obtain ⟨kb, ko, rfl, hkc⟩ : ∃ b o, ka = some ⟨b, o, none⟩ ∧ ∀ j, j < kids.length → w2.cell? ⟨b, o + j, none⟩ = some (.int .i64 (kids.getD j 0)) := by
              rcases HKC2.out with h | h
              · subst h; simp at hmlt
              · exact h
            have hcm := hkc m hmlt
            clear hkc HKC2
            have hch2 : chainL fr (kids.take (m + 1)).reverse c = if c = 0 ∨ kids.getD m 0 ≠ (c : Int) - 1 then none else chainL fr (kids.take m).reverse (fr.getD (c - 1) 0) := by
              rw [List.take_succ_eq_append_getElem hmlt, List.reverse_append]
              simp [chainL, hmlt]
            generalize kids.getD m 0 = y at *
            have HCH : Hid (chainL fr kids.reverse k = if c = 0 ∨ y ≠ (c : Int) - 1 then none else chainL fr (kids.take m).reverse (fr.getD (c - 1) 0)) := by show chainL fr kids.reverse k = _; rw [← hch.out, hch2]
            clear hch hch2 hz
            by_cases hc0 : c = 0
            · subst hc0
              have hnone : Hid (begL l = none) := HS.out (by rw [HF.out, HCH.out]; simp)
              go_wp2
              go_ret
              exact ⟨HB2.out, .inl ⟨hnone.out, rfl⟩⟩
            · obtain ⟨c, rfl⟩ : ∃ d, c = d + 1 := ⟨c - 1, by omega⟩
              by_cases hy : y = (c : Int)
              · subst hy
                have e0 := HR2.out.cell (i := c) (by omega)
                have hle := HL.out c
                go_wp2
                refine ⟨⟨fr.getD c 0, m, _, rfl, rfl, rfl, by omega, by omega, ?_⟩, by simp [RowKit.intOf]⟩
                show chainL fr (kids.take m).reverse (fr.getD c 0) = chainL fr kids.reverse k
                rw [HCH.out, if_neg (by omega)]; rfl
              · have hnone : Hid (begL l = none) := HS.out (by rw [HF.out, HCH.out, if_pos (.inr (by omega)), Option.map_none])
                have hy2 : (y != (c : Int)) = true := by rw [bne_iff_ne]; exact hy
                go_wp2
                go_ret
                exact ⟨HB2.out, .inl ⟨hnone.out, rfl⟩⟩
    · have hke : k = l.length := by omega
      subst hke
      have hbr' : begR [] l = some fr := by have := hbr.out; rw [List.take_length] at this; exact this
      have HBR : Hid (begR [] l = some fr) := hbr'
      clear hbr hbr'
      have e0 := hrow.cell (i := l.length - 1) (by omega)
      have HR : Hid (wr.rowIs w.heap.size 3 l.length fun j => .int .i64 (fr.getD j 0 : Nat)) := hrow
      clear hrow
      by_cases hz : fr.getD (l.length - 1) 0 = 0
      · have hs : Hid (begL l = some fr) := begL_mk (by omega) (by omega) HBR.out hz
        simp only [hz] at e0
        clear hz
        go_wp2
        go_ret
        exact ⟨hB, .inr ⟨fr, hs.out, w.heap.size, rfl, Nat.le_refl _, hgl, fun j hj => HR.out.cell hj⟩⟩
      · have hs : Hid (begL l = none) := by
          show begL l = none
          unfold begL
          rw [if_neg (by omega), HBR.out, Option.bind_some, if_neg hz]
        generalize fr.getD (l.length - 1) 0 = y at e0 hz
        have hy : ((y : Int) != 0) = true := by rw [bne_iff_ne]; omega
        go_wp2
        go_ret
        exact ⟨hB, .inl ⟨hs.out, rfl⟩⟩

theorem begins_none (vs : Value) (l : List Nd) (w : World) (B : Nat) (hBw : B ≤ w.heap.size) (hT : SpanCells w) (hN : Nodes w B vs l) (h : begL l = none) :
    Calls Tryd.prog 38 #[vs] w fun e w' => e = .returned (.slice none 0 0) ∧ Below w.heap.size w w' := by
  refine (begins_any vs l w B hBw hT hN).mono ?_
  rintro e w' ⟨hb, ⟨_, he⟩ | ⟨fr, hf, _⟩⟩
  · exact ⟨he, hb⟩
  · rw [h] at hf; cases hf
theorem begins_some (vs : Value) (l : List Nd) (fr : List Nat) (w : World) (B : Nat) (hBw : B ≤ w.heap.size) (hT : SpanCells w) (hN : Nodes w B vs l) (h : begL l = some fr) :
    Calls Tryd.prog 38 #[vs] w fun e w' => ∃ g, e = .returned (.slice (some ⟨g, 0, none⟩) l.length l.length) ∧ w.heap.size ≤ g ∧ g < w'.heap.size ∧ (∀ j, j < l.length → w'.cell? ⟨g, j, none⟩ = some (.int .i64 (fr.getD j 0 : Nat))) ∧ Below w.heap.size w w' := by
  refine (begins_any vs l w B hBw hT hN).mono ?_
  rintro e w' ⟨hb, ⟨hf, _⟩ | ⟨fr', hf, g, he, h1, h2, h3⟩⟩
  · rw [h] at hf; cases hf
  · rw [h] at hf; cases hf
    exact ⟨g, he, h1, h2, h3, hb⟩

theorem eql_nil (ao : Option Addr) (n c : Nat) (w : World) : (binOp .eql 48 (.slice ao n c) (.slice none 0 0)).run Tryd.prog w = .ok (.bool ao.isNone) w := by
  cases ao <;> kernel_rfl

set_option maxHeartbeats 400000 in
theorem check_none (vs : Value) (l : List Nd) (w : World) (B : Nat) (hBw : B ≤ w.heap.size) (hT : SpanCells w) (hN : Nodes w B vs l) (h : begL l = none) :
    Calls Tryd.prog 9 #[vs] w fun e w' => e = .returned (.int .i64 1) ∧ Below w.heap.size w w' := by
  have HS : Hid (begL l = none) := h
  clear h
  have hnil := eql_nil
  go_enter Tryd.func9, Tryd.ntmps9
  go_wp2_with (go_at_call 38; refine (begins_none vs l _ B hBw hT hN HS.out).mono ?_; rintro e w2 ⟨rfl, hb2⟩)
  go_ret
  exact ⟨rfl, hb2⟩
set_option maxHeartbeats 400000 in
theorem check_some (vs : Value) (l : List Nd) (fr : List Nat) (w : World) (B : Nat) (hBw : B ≤ w.heap.size) (hT : SpanCells w) (hN : Nodes w B vs l) (h : begL l = some fr) :
    Calls Tryd.prog 9 #[vs] w fun e w' => e = .returned (.int .i64 0) ∧ Below w.heap.size w w' := by
  have HS : Hid (begL l = some fr) := h
  clear h
  have hnil := eql_nil
  go_enter Tryd.func9, Tryd.ntmps9
  go_wp2_with (go_at_call 38; refine (begins_some vs l fr _ B hBw hT hN HS.out).mono ?_; rintro e w2 ⟨g, rfl, hg1, hg2, hg3, hb2⟩)
  go_ret
  exact ⟨rfl, hb2⟩
end Go.Proofs.YtkbcgcempchoaaaDoor

set_option linter.unusedSimpArgs false
set_option linter.unusedVariables false
namespace Go.Proofs.YtkbcgcempchoaaaDoor
open Go.RowKit Go.Lib

/-- Of a sound list: how long, how many kids, which. -/
theorem snd_bounds {l : List Nd} {fr : List Nat} (h : begL l = some fr) : l.length ≤ 64 ∧ ∀ x ∈ l, x.kids.length ≤ 3 := by
  obtain ⟨_, h2, h3, _⟩ := begL_some h
  exact ⟨h2, fun x hx => formB_kids ((begR_some h3 low_nil).2.2.2 x hx)⟩

theorem OwnN.form {w : World} {base : Nat} {v : Value} {l : List Nd} (h : OwnN w base v l) : ∃ ao n cap, v = .slice ao n cap := by
  obtain ⟨ao, cap, h, _⟩ := Nodes_of_own h (Nat.le_refl _)
  exact ⟨ao, _, cap, h⟩
theorem OwnN.len {w : World} {base : Nat} {ao : Option Addr} {n cap : Nat} {l : List Nd} (h : OwnN w base (.slice ao n cap) l) : n = l.length := by
  obtain ⟨ao', cap', h, _⟩ := Nodes_of_own h (Nat.le_refl _)
  cases h; rfl

theorem getD_sub (l : List Nd) (a m i : Nat) (h : i < m) : ((l.drop a).take m).getD i nd0 = l.getD (a + i) nd0 := by
  simp only [List.getD_eq_getElem?_getD, List.getElem?_take, if_pos h, List.getElem?_drop]

/-- A cut of a list that is read. -/
theorem Nodes.cut {w : World} {B b o cap : Nat} {l : List Nd} (hc : ∀ i, i < l.length → ∃ kv, NodeAt w B b (o + i * 4) (l.getD i nd0) kv) (hb : b < B) (a m cap' : Nat) (ham : a + m ≤ l.length) (hm : m ≤ cap') (hcap : cap' ≤ maxLen)
    (ao : Option Addr) (hao : m ≠ 0 → ao = some ⟨b, o + a * 4, none⟩) : Nodes w B (.slice ao m cap') ((l.drop a).take m) := by
  have hl : ((l.drop a).take m).length = m := by simp; omega
  refine ⟨ao, cap', by rw [hl], by omega, hcap, ?_⟩
  by_cases h0 : m = 0
  · left; exact List.length_eq_zero_iff.1 (by omega)
  · right
    refine ⟨b, o + a * 4, hao h0, hb, fun i hi => ?_⟩
    rw [hl] at hi
    obtain ⟨kv, hk⟩ := hc (a + i) (by omega)
    rw [getD_sub l a m i hi]
    have e : o + a * 4 + i * 4 = o + (a + i) * 4 := by omega
    rw [e]; exact ⟨kv, hk⟩

end Go.Proofs.YtkbcgcempchoaaaDoor

set_option linter.unusedSimpArgs false
set_option linter.unusedVariables false
namespace Go.Proofs.YtkbcgcempchoaaaDoor

def chainO (os : List (Option Nat)) : List Int → Nat → Option Nat
  | [], c => some c
  | k :: ks, c => if c = 0 ∨ k ≠ (c : Int) - 1 then none else (os.getD (c - 1) none).bind fun b => chainO os ks b

def stsR (os : List (Option Nat)) : List Nd → List (Option Nat)
  | [] => os
  | x :: l => stsR (os ++ [chainO os x.kids.reverse os.length]) l

def sts (l : List Nd) : List (Option Nat) := stsR [] l

/-- No entry is above its place. -/
def LowO (os : List (Option Nat)) : Prop := ∀ j b, os.getD j none = some b → b ≤ j

theorem chainO_le {os : List (Option Nat)} (h : LowO os) : ∀ (ks : List Int) (c a : Nat), chainO os ks c = some a → a ≤ c := by
  intro ks
  induction ks with
  | nil => intro c a h; simp [chainO] at h; omega
  | cons k ks ih =>
    intro c a hh
    simp only [chainO] at hh
    split at hh
    · cases hh
    · cases hb : os.getD (c - 1) none with
      | none => rw [hb] at hh; cases hh
      | some b =>
        rw [hb] at hh
        simp only [Option.bind_some] at hh
        have := ih _ _ hh
        have := h _ _ hb
        omega

theorem getD_snocO (os : List (Option Nat)) (a : Option Nat) (j : Nat) : (os ++ [a]).getD j none = if j < os.length then os.getD j none else if j = os.length then a else none := by
  simp only [List.getD_eq_getElem?_getD, List.getElem?_append]
  split
  · rfl
  · split
    · subst_vars; simp
    · rw [List.getElem?_eq_none (by simp; omega)]; rfl

theorem LowO.snoc {os : List (Option Nat)} (h : LowO os) {a : Option Nat} (ha : ∀ b, a = some b → b ≤ os.length) : LowO (os ++ [a]) := by
  intro j b hj
  rw [getD_snocO] at hj
  split at hj
  · exact h j b hj
  · split at hj
    · have := ha b hj; omega
    · cases hj

/-- Only the entries below the cursor count. -/
theorem chainO_congr {os os' : List (Option Nat)} (h : LowO os) : ∀ (ks : List Int) (c : Nat), (∀ j, j < c → os'.getD j none = os.getD j none) → chainO os' ks c = chainO os ks c := by
  intro ks
  induction ks with
  | nil => intro c _; rfl
  | cons k ks ih =>
    intro c hc
    simp only [chainO]
    split
    · rfl
    · rename_i hn
      rw [hc (c - 1) (by omega)]
      cases hb : os.getD (c - 1) none with
      | none => rfl
      | some b =>
        simp only [Option.bind_some]
        have := h _ _ hb
        exact ih b (fun j hj => hc j (by omega))

theorem stsR_spec (l : List Nd) : ∀ (os : List (Option Nat)), LowO os → (stsR os l).length = os.length + l.length ∧ LowO (stsR os l) ∧ (∀ j, j < os.length → (stsR os l).getD j none = os.getD j none) ∧
    ∀ i, i < l.length → (stsR os l).getD (os.length + i) none = chainO (stsR os l) (l.getD i nd0).kids.reverse (os.length + i) := by
  induction l with
  | nil => intro os h; exact ⟨by simp [stsR], h, fun j hj => rfl, fun i hi => by simp at hi⟩
  | cons x l ih =>
    intro os h
    have hlow := h.snoc (a := chainO os x.kids.reverse os.length) (fun b hb => chainO_le h _ _ _ hb)
    obtain ⟨h1, h2, h3, h4⟩ := ih _ hlow
    simp only [List.length_append, List.length_cons, List.length_nil] at h1 h3 h4
    simp only [stsR]
    refine ⟨by simp; omega, h2, fun j hj => ?_, fun i hi => ?_⟩
    · rw [h3 j (by omega), getD_snocO, if_pos hj]
    · cases i with
      | zero =>
        rw [Nat.add_zero, h3 _ (by omega), getD_snocO, if_neg (by omega), if_pos rfl]
        show _ = chainO _ x.kids.reverse os.length
        refine (chainO_congr h _ _ ?_).symm
        intro j hj
        rw [h3 j (by omega), getD_snocO, if_pos hj]
      | succ i =>
        have := h4 i (by simp at hi; omega)
        have e : os.length + (0 + 1) + i = os.length + (i + 1) := by omega
        rw [e] at this
        rw [this]
        simp

theorem lowO_nil : LowO [] := by intro j b h; simp at h

theorem sts_at (l : List Nd) (i : Nat) (h : i < l.length) : (sts l).getD i none = chainO (sts l) (l.getD i nd0).kids.reverse i := by
  have := (stsR_spec l [] lowO_nil).2.2.2 i h
  simpa [sts] using this
theorem chain_some {fr : List Nat} (hl : Low fr) : ∀ (ks : List Int) (c : Nat), c ≤ fr.length → chainO (fr.map some) ks c = chainL fr ks c := by
  intro ks
  induction ks with
  | nil => intro c _; rfl
  | cons k ks ih =>
    intro c hc
    simp only [chainO, chainL]
    split
    · rfl
    · rename_i hn
      have e : (fr.map some).getD (c - 1) none = some (fr.getD (c - 1) 0) := by
        have : c - 1 < fr.length := by omega
        simp [this]
      rw [e]
      simp only [Option.bind_some]
      exact ih _ (by have := hl (c - 1); omega)

theorem sts_of_beg (l : List Nd) : ∀ (fr fr' : List Nat), Low fr → begR fr l = some fr' → stsR (fr.map some) l = fr'.map some := by
  induction l with
  | nil => intro fr fr' _ h; simp [begR] at h; subst h; rfl
  | cons x l ih =>
    intro fr fr' hl h
    simp only [begR] at h
    cases hs : stp fr x with
    | none => rw [hs] at h; cases h
    | some f2 =>
      rw [hs] at h
      simp only [Option.bind_some] at h
      obtain ⟨hf, a, hc, rfl⟩ := stp_some hs
      have := ih _ _ (hl.snoc (chainL_le hl _ _ _ hc)) h
      simp only [stsR, List.length_map]
      rw [chain_some hl _ _ (Nat.le_refl _), hc]
      simpa using this

end Go.Proofs.YtkbcgcempchoaaaDoor

namespace Go.Proofs.YtkbcgcempchoaaaDoor

/-- Where all begin, place by place. -/
structure BegOk (l : List Nd) (fr : List Nat) : Prop where
  len : fr.length = l.length
  low : Low fr
  at_ : ∀ j, j < l.length → formB (l.getD j nd0) = true ∧ chainL fr (l.getD j nd0).kids.reverse j = some (fr.getD j 0)

theorem begOk_of {l : List Nd} {fr : List Nat} (h : begR [] l = some fr) : BegOk l fr := by
  have hlen := begR_len h
  obtain ⟨_, hlow, _, hform⟩ := begR_some h low_nil
  refine ⟨hlen, hlow, fun j hj => ⟨hform _ (by simp [hj]), ?_⟩⟩
  have hs := sts_of_beg l [] fr low_nil h
  have h1 := sts_at l j hj
  have e : sts l = fr.map some := hs
  rw [e, chain_some hlow _ _ (by omega)] at h1
  rw [← h1]
  have : j < fr.length := by omega
  simp [this]

end Go.Proofs.YtkbcgcempchoaaaDoor

set_option linter.unusedSimpArgs false
set_option linter.unusedVariables false
namespace Go.Proofs.YtkbcgcempchoaaaDoor
open Go.RowKit Go.Lib

theorem good_of_on (s : ByteArray) (p : Nat) (h : onB (Utf8.decode s p).1 = true) : bad s p = false := by
  cases hb : bad s p
  · rfl
  · rw [bad_eq hb] at h; exact absurd h (by decide)
/-! ### Name -/
end Go.Proofs.YtkbcgcempchoaaaDoor

set_option linter.unusedSimpArgs false
set_option linter.unusedVariables false
namespace Go.Proofs.YtkbcgcempchoaaaDoor
open Go.RowKit Go.Lib

/-- Within the reach. -/
structure Fit (l : List Nd) : Prop where
  len : l.length * 56 ≤ 140737488355328
  kids : ∀ x ∈ l, x.kids.length * 8 ≤ 140737488355328
  name : ∀ x ∈ l, x.name.size ≤ maxLen

/-- The slice reads as l, anywhere in memory. -/
def Rd (w : World) (ao : Option Addr) (cap : Nat) (l : List Nd) : Prop := Nodes w w.heap.size (.slice ao l.length cap) l
theorem Rd.below {w w' : World} {ao : Option Addr} {cap : Nat} {l : List Nd} (h : Rd w ao cap l) (hb : Below w.heap.size w w') (hs : w.heap.size ≤ w'.heap.size) : Rd w' ao cap l := Nodes.below h hb hs
theorem Rd_of_own {w : World} {base : Nat} {v : Value} {l : List Nd} (h : OwnN w base v l) : ∃ ao cap, v = .slice ao l.length cap ∧ Rd w ao cap l := by
  have hN := Nodes_of_own h (Nat.le_refl _)
  obtain ⟨ao, cap, rfl, _⟩ := id hN
  exact ⟨ao, cap, rfl, hN⟩
theorem Rd.bound {w : World} {ao : Option Addr} {cap : Nat} {l : List Nd} (h : Rd w ao cap l) : l.length ≤ cap ∧ cap ≤ maxLen := by
  obtain ⟨ao', cap', h1, h2, h3, _⟩ := h
  cases h1; exact ⟨h2, h3⟩

theorem copyR {w : World} {ao : Option Addr} {cap : Nat} {l : List Nd} (h : Rd w ao cap l) (hF : Fit l) :
    Calls Tryd.prog 10 #[.slice ao l.length cap] w fun e w' => ∃ ao' cap', e = .returned (.slice ao' l.length cap') ∧ Rd w' ao' cap' l ∧ Below w.heap.size w w' := by
  refine (copy_any _ l w _ (Nat.le_refl _) h hF.len hF.kids).mono ?_
  rintro e w' ⟨v', rfl, hO, hb⟩
  obtain ⟨ao', cap', rfl, hR⟩ := Rd_of_own hO
  exact ⟨ao', cap', rfl, hR, hb⟩
end Go.Proofs.YtkbcgcempchoaaaDoor
