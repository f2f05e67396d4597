/-
  ExBegW, ExPartW.
-/
import Derived.Shelf.Unicode.DecodeSlow
import Derived.Laws.RangeAny
import Derived.Shelf.Strconv.Itoa0
import Derived.Shelf.Unicode.DecodeAny
import Derived.Test.YtjkcbigmebbkkaaDoorProg
import Derived.WalkKit
import Derived.Deep.DeepFit
import Derived.Lib.OthersKept
import Derived.Deep.AppendLies
import Derived.Deep.OwnRows
import Derived.Laws.AppendOwnNone
import Derived.Test.YtjkcbigmebbkkaaDoorY01
import Derived.Test.YtjkcbigmebbkkaaDoorY02
set_option linter.unusedSimpArgs false
set_option linter.unusedVariables false
namespace Go.Proofs.YtjkcbigmebbkkaaDoor
open Go.RowKit Go.Lib

theorem rowIs_below {w w' : World} {b : Nat} {t : TypeId} {n : Nat} {f : Nat → Value} (h : w.rowIs b t n f) (hb : Below w.heap.size w w') : w'.rowIs b t n f := by
  have hlt := h.lt
  unfold World.rowIs at h ⊢
  rw [hb.block b hlt]; exact h

theorem begR_take_succ {l : List Nd} {k : Nat} {fr : List Nat} (hlt : k < l.length) (h : begR [] (l.take k) = some fr) : begR [] (l.take (k + 1)) = stp fr (l.getD k nd0) := by
  rw [List.take_succ_eq_append_getElem hlt, begR_snoc, h]; simp [hlt]

theorem begL_none_of {l : List Nd} {k : Nat} {fr : List Nat} (hlt : k < l.length) (h : begR [] (l.take k) = some fr) (hs : stp fr (l.getD k nd0) = none) : begL l = none := by
  unfold begL
  split
  · rfl
  · rw [begR_take_none (i := k + 1) (by rw [begR_take_succ hlt h, hs])]; rfl

theorem node_kid {wr w2 : World} {a b c d : Value} {t : TypeId} (h : Below (wr.alloc (.cells #[a, b, c, d] t)).heap.size (wr.alloc (.cells #[a, b, c, d] t)) w2) : w2.cell? ⟨wr.heap.size, 3, none⟩ = some d := by
  rw [h.cell (p := ⟨wr.heap.size, 3, none⟩) (by simp)]; simp

def BegPost (w : World) (l : List Nd) (e : Ending) (w' : World) : Prop :=
  Below w.heap.size w w' ∧ ((begL l = none ∧ e = .returned (.slice none 0 0)) ∨ ∃ fr, begL l = some fr ∧ ∃ g, e = .returned (.slice (some ⟨g, 0, none⟩) l.length l.length) ∧ w.heap.size ≤ g ∧ g < w'.heap.size ∧ ∀ j, j < l.length → w'.cell? ⟨g, j, none⟩ = some (.int .i64 (fr.getD j 0 : Nat)))

set_option maxHeartbeats 2000000 in
theorem begins_any (vs : Value) (l : List Nd) (w : World) (B : Nat) (hBw : B ≤ w.heap.size) (hT : SpanCells w) (hN : Nodes w B vs l) :
    Calls Tryd.prog 37 #[vs] w fun e w' => BegPost w l e w' := by
  obtain ⟨ao, cap0, rfl, hl, hm, hc⟩ := hN
  unfold maxLen at hm
  by_cases h0 : l.length = 0
  · have hb : Hid (begL l = none) := by show begL l = none; unfold begL; simp [h0]
    have hz : l = [] := List.length_eq_zero_iff.1 h0
    subst hz
    go_enter Tryd.func37, Tryd.ntmps37
    go_wp2
    go_ret
    exact ⟨Below.refl _ _, .inl ⟨hb.out, rfl⟩⟩
  by_cases h64 : 64 < l.length
  · have hb : Hid (begL l = none) := by show begL l = none; unfold begL; simp [h64]
    have g1 : ((l.length : Int) == 0) = false := by rw [beq_eq_false_iff_ne]; omega
    have g2 : (64 : Int) < (l.length : Int) := by omega
    go_enter Tryd.func37, Tryd.ntmps37
    go_wp2
    go_ret
    exact ⟨Below.refl _ _, .inl ⟨hb.out, rfl⟩⟩
  obtain ⟨b, o, rfl, hbl, hc'⟩ : ∃ b o, ao = some ⟨b, o, none⟩ ∧ b < B ∧ ∀ i, i < l.length → ∃ kv, NodeAt w B b (o + i * 4) (l.getD i nd0) kv := by
    rcases hc with h | h
    · subst h; simp at h0
    · exact h
  have HC : Hid (∀ i, i < l.length → ∃ kv, NodeAt w B b (o + i * 4) (l.getD i nd0) kv) := hc'
  clear hc hc'
  have g1 : ((l.length : Int) == 0) = false := by rw [beq_eq_false_iff_ne]; omega
  have g2 : ¬ (64 : Int) < (l.length : Int) := by omega
  have hmk := run_make_row' (P := Tryd.prog) 61 3 (.int .i64 0) 8 Tryd.underlying61 Tryd.info3 rfl .i64 .i64 l.length (by omega) (by omega)
  have HT : Hid (SpanCells w) := hT
  clear hT
  go_enter Tryd.func37, Tryd.ntmps37
  go_wp2
  go_loopw [21] (fun i wr => ∃ (k : Nat) (fr : List Nat), k ≤ l.length ∧ i = .int .i64 k ∧ Hid (begR [] (l.take k) = some fr) ∧ wr.rowIs w.heap.size 3 l.length (fun j => .int .i64 (fr.getD j 0 : Nat)) ∧ Below w.heap.size w wr) (fun i _ => l.length - (RowKit.intOf i).toNat)
  case atStart => exact ⟨0, [], by omega, rfl, rfl, World.rowIs_made _ _ _ _, (Below.refl _ _).alloc (Nat.le_refl _) _⟩
  case round =>
    obtain ⟨k, fr, hk, rfl, hbr, hrow, hB⟩ := hrel
    have hsz := hB.size
    have hgl := hrow.lt
    clear hmk
    by_cases hlt : k < l.length
    · obtain ⟨kv, hNA⟩ := HC.out k hlt
      have hNA := hNA.below (hB.mono hBw) (Nat.le_refl _) hbl
      have HS : Hid (stp fr (l.getD k nd0) = none → begL l = none) := begL_none_of hlt hbr.out
      have HS2 : Hid (begR [] (l.take (k + 1)) = stp fr (l.getD k nd0)) := begR_take_succ hlt hbr.out
      have hfl : fr.length = k := by have := begR_len hbr.out; simp at this; omega
      have hlow := (begR_some hbr.out low_nil).2.1
      generalize l.getD k nd0 = x at *
      obtain ⟨op, n, nm, kids⟩ := x
      obtain ⟨c0, c1, c2, c3, hki⟩ := hNA
      simp only at c0 c1 c2 c3 hki
      obtain ⟨ka, kc, rfl, hkl, ⟨hkm, _⟩, hkc⟩ := hki
      unfold maxLen at hkm
      have HKC : Hid (kids = [] ∨ ∃ b o, ka = some ⟨b, o, none⟩ ∧ b < B ∧ ∀ j, j < kids.length → wr.cell? ⟨b, o + j, none⟩ = some (.int .i64 (kids.getD j 0))) := hkc
      clear hkc
      have hb9 : b < wr.heap.size := by omega
      have hb8 : b ≠ wr.heap.size := by omega
      have hTr : SpanCells (wr.alloc (.cells #[.int .i64 op, .int .i64 n, .string nm, .slice ka kids.length kc] 71)) := HT.out.below (hB.alloc hsz _)
      have HFL : Hid (fr.length = k) := hfl
      clear hfl
      cases hf : fitB op n nm kids.length
      · have hnone : Hid (begL l = none) := HS.out (by simp [stp, formB, hf])
        go_wp2_with (go_at_call 50; refine (fits_any _ _ _ _ _ hTr).mono ?_; rintro e w2 ⟨rfl, hb2⟩)
        go_ret
        exact ⟨(hB.alloc hsz _).trans (hb2.mono (by simp; omega)), .inl ⟨hnone.out, rfl⟩⟩
      · have HF : Hid (stp fr ⟨op, n, nm, kids⟩ = (chainL fr kids.reverse k).map (fun a => fr ++ [a])) := by show stp fr ⟨op, n, nm, kids⟩ = _; simp [stp, formB, hf, HFL.out]
        go_wp2_with (go_at_call 50; refine (fits_any _ _ _ _ _ hTr).mono ?_; rintro e w2 ⟨rfl, hb2⟩; rw [hf]; have d3 : w2.cell? ⟨wr.heap.size, 3, none⟩ = some (.slice ka kids.length kc) := node_kid hb2)
        have hz2 : wr.heap.size + 1 ≤ w2.heap.size := by have := hb2.size; simpa using this
        have hrow2 := rowIs_below (hrow.alloc _) hb2
        have hBw2 : Below wr.heap.size wr w2 := ((Below.refl _ _).alloc (Nat.le_refl _) _).trans (hb2.mono (by simp))
        have HB2 : Hid (Below w.heap.size w w2) := hB.trans (hBw2.mono hsz)
        have HKC2 : Hid (kids = [] ∨ ∃ b o, ka = some ⟨b, o, none⟩ ∧ ∀ j, j < kids.length → w2.cell? ⟨b, o + j, none⟩ = some (.int .i64 (kids.getD j 0))) := by
          rcases HKC.out with h | ⟨b, o, h1, h2, h3⟩
          · exact .inl h
          · exact .inr ⟨b, o, h1, fun j hj => (hBw2.cell (p := ⟨b, o + j, none⟩) (by show b < wr.heap.size; omega)).trans (h3 j hj)⟩
        have HL : Hid (Low fr) := hlow
        have HR2 : Hid (w2.rowIs w.heap.size 3 l.length fun j => .int .i64 (fr.getD j 0 : Nat)) := hrow2
        clear hb2 hrow hrow2 hB hBw2 HKC hTr hf hlow c0 c1 c2 c3
        go_loop [6, 7] (fun a q => ∃ (c m : Nat) (z : Int), a = .int .i64 c ∧ q = .int .i64 z ∧ Hid (z = (m : Int) - 1) ∧ c ≤ k ∧ m ≤ kids.length ∧ Hid (chainL fr (kids.take m).reverse c = chainL fr kids.reverse k)) (fun _ q => (RowKit.intOf q + 1).toNat)
        case atStart => exact ⟨k, kids.length, _, rfl, rfl, rfl, Nat.le_refl _, Nat.le_refl _, by rw [List.take_length]; rfl⟩
        case round =>
          obtain ⟨c, m, z, rfl, rfl, hz, hck, hmk, hch⟩ := hrel
          cases m with
          | zero =>
            have hz1 : z = -1 := by have := hz.out; omega
            subst hz1
            have hcc : chainL fr kids.reverse k = some c := by rw [← hch.out]; simp [chainL]
            have HCC : Hid (stp fr ⟨op, n, nm, kids⟩ = some (fr ++ [c])) := by show stp fr ⟨op, n, nm, kids⟩ = _; rw [HF.out, hcc]; rfl
            clear hcc
            have f0 := HR2.out.frozen k
            have e0 := HR2.out.cell hlt
            have hgl2 : w.heap.size < w2.heap.size := by omega
            go_wp2
            refine ⟨⟨k + 1, fr ++ [c], by omega, by go_num, ?_, ?_, HB2.out.setCell (Nat.le_refl _) _⟩, by simp [RowKit.intOf]; omega⟩
            · show begR [] (l.take (k + 1)) = some (fr ++ [c])
              rw [HS2.out, HCC.out]
            · exact (HR2.out.set k _).congr (fun j hj => by
                show (if j = k then Value.int .i64 (c : Nat) else .int .i64 (fr.getD j 0 : Nat)) = .int .i64 ((fr ++ [c]).getD j 0 : Nat)
                rw [getD_snoc, HFL.out]
                by_cases hjk : j < k
                · rw [if_neg (by omega), if_pos hjk]
                · by_cases hje : j = k
                  · rw [if_pos hje, if_neg hjk, if_pos hje]
                  · rw [if_neg hje, if_neg hjk, if_neg hje]
                    have : fr.getD j 0 = 0 := by rw [List.getD_eq_getElem?_getD, List.getElem?_eq_none (by rw [HFL.out]; omega)]; rfl
                    rw [this])
          | succ m =>
            have hz1 : z = (m : Int) := by have := hz.out; omega
            subst hz1
            have hmlt : m < kids.length := by omega
            obtain ⟨kb, ko, rfl, hkc⟩ : ∃ b o, ka = some ⟨b, o, none⟩ ∧ ∀ j, j < kids.length → w2.cell? ⟨b, o + j, none⟩ = some (.int .i64 (kids.getD j 0)) := by
              rcases HKC2.out with h | h
              · subst h; simp at hmlt
              · exact h
            have hcm := hkc m hmlt
            clear hkc HKC2
            have hch2 : chainL fr (kids.take (m + 1)).reverse c = if c = 0 ∨ kids.getD m 0 ≠ (c : Int) - 1 then none else chainL fr (kids.take m).reverse (fr.getD (c - 1) 0) := by
              rw [List.take_succ_eq_append_getElem hmlt, List.reverse_append]
              simp [chainL, hmlt]
            generalize kids.getD m 0 = y at *
            have HCH : Hid (chainL fr kids.reverse k = if c = 0 ∨ y ≠ (c : Int) - 1 then none else chainL fr (kids.take m).reverse (fr.getD (c - 1) 0)) := by show chainL fr kids.reverse k = _; rw [← hch.out, hch2]
            clear hch hch2 hz
            by_cases hc0 : c = 0
            · subst hc0
              have hnone : Hid (begL l = none) := HS.out (by rw [HF.out, HCH.out]; simp)
              go_wp2
              go_ret
              exact ⟨HB2.out, .inl ⟨hnone.out, rfl⟩⟩
            · obtain ⟨c, rfl⟩ : ∃ d, c = d + 1 := ⟨c - 1, by omega⟩
              by_cases hy : y = (c : Int)
              · subst hy
                have e0 := HR2.out.cell (i := c) (by omega)
                have hle := HL.out c
                go_wp2
                refine ⟨⟨fr.getD c 0, m, _, rfl, rfl, rfl, by omega, by omega, ?_⟩, by simp [RowKit.intOf]⟩
                show chainL fr (kids.take m).reverse (fr.getD c 0) = chainL fr kids.reverse k
                rw [HCH.out, if_neg (by omega)]; rfl
              · have hnone : Hid (begL l = none) := HS.out (by rw [HF.out, HCH.out, if_pos (.inr (by omega)), Option.map_none])
                have hy2 : (y != (c : Int)) = true := by rw [bne_iff_ne]; exact hy
                go_wp2
                go_ret
                exact ⟨HB2.out, .inl ⟨hnone.out, rfl⟩⟩
    · have hke : k = l.length := by omega
      subst hke
      have hbr' : begR [] l = some fr := by have := hbr.out; rw [List.take_length] at this; exact this
      have HBR : Hid (begR [] l = some fr) := hbr'
      clear hbr hbr'
      have e0 := hrow.cell (i := l.length - 1) (by omega)
      have HR : Hid (wr.rowIs w.heap.size 3 l.length fun j => .int .i64 (fr.getD j 0 : Nat)) := hrow
      clear hrow
      by_cases hz : fr.getD (l.length - 1) 0 = 0
      · have hs : Hid (begL l = some fr) := begL_mk (by omega) (by omega) HBR.out hz
        simp only [hz] at e0
        clear hz
        go_wp2
        go_ret
        exact ⟨hB, .inr ⟨fr, hs.out, w.heap.size, rfl, Nat.le_refl _, hgl, fun j hj => HR.out.cell hj⟩⟩
      · have hs : Hid (begL l = none) := by
          show begL l = none
          unfold begL
          rw [if_neg (by omega), HBR.out, Option.bind_some, if_neg hz]
        generalize fr.getD (l.length - 1) 0 = y at e0 hz
        have hy : ((y : Int) != 0) = true := by rw [bne_iff_ne]; omega
        go_wp2
        go_ret
        exact ⟨hB, .inl ⟨hs.out, rfl⟩⟩

theorem begins_none (vs : Value) (l : List Nd) (w : World) (B : Nat) (hBw : B ≤ w.heap.size) (hT : SpanCells w) (hN : Nodes w B vs l) (h : begL l = none) :
    Calls Tryd.prog 37 #[vs] w fun e w' => e = .returned (.slice none 0 0) ∧ Below w.heap.size w w' := by
  refine (begins_any vs l w B hBw hT hN).mono ?_
  rintro e w' ⟨hb, ⟨_, he⟩ | ⟨fr, hf, _⟩⟩
  · exact ⟨he, hb⟩
  · rw [h] at hf; cases hf
theorem begins_some (vs : Value) (l : List Nd) (fr : List Nat) (w : World) (B : Nat) (hBw : B ≤ w.heap.size) (hT : SpanCells w) (hN : Nodes w B vs l) (h : begL l = some fr) :
    Calls Tryd.prog 37 #[vs] w fun e w' => ∃ g, e = .returned (.slice (some ⟨g, 0, none⟩) l.length l.length) ∧ w.heap.size ≤ g ∧ g < w'.heap.size ∧ (∀ j, j < l.length → w'.cell? ⟨g, j, none⟩ = some (.int .i64 (fr.getD j 0 : Nat))) ∧ Below w.heap.size w w' := by
  refine (begins_any vs l w B hBw hT hN).mono ?_
  rintro e w' ⟨hb, ⟨hf, _⟩ | ⟨fr', hf, g, he, h1, h2, h3⟩⟩
  · rw [h] at hf; cases hf
  · rw [h] at hf; cases hf
    exact ⟨g, he, h1, h2, h3, hb⟩

theorem eql_nil (ao : Option Addr) (n c : Nat) (w : World) : (binOp .eql 61 (.slice ao n c) (.slice none 0 0)).run Tryd.prog w = .ok (.bool ao.isNone) w := by
  cases ao <;> kernel_rfl

set_option maxHeartbeats 400000 in
theorem check_none (vs : Value) (l : List Nd) (w : World) (B : Nat) (hBw : B ≤ w.heap.size) (hT : SpanCells w) (hN : Nodes w B vs l) (h : begL l = none) :
    Calls Tryd.prog 8 #[vs] w fun e w' => e = .returned (.int .i64 1) ∧ Below w.heap.size w w' := by
  have HS : Hid (begL l = none) := h
  clear h
  have hnil := eql_nil
  go_enter Tryd.func8, Tryd.ntmps8
  go_wp2_with (go_at_call 37; refine (begins_none vs l _ B hBw hT hN HS.out).mono ?_; rintro e w2 ⟨rfl, hb2⟩)
  go_ret
  exact ⟨rfl, hb2⟩
set_option maxHeartbeats 400000 in
theorem check_some (vs : Value) (l : List Nd) (fr : List Nat) (w : World) (B : Nat) (hBw : B ≤ w.heap.size) (hT : SpanCells w) (hN : Nodes w B vs l) (h : begL l = some fr) :
    Calls Tryd.prog 8 #[vs] w fun e w' => e = .returned (.int .i64 0) ∧ Below w.heap.size w w' := by
  have HS : Hid (begL l = some fr) := h
  clear h
  have hnil := eql_nil
  go_enter Tryd.func8, Tryd.ntmps8
  go_wp2_with (go_at_call 37; refine (begins_some vs l fr _ B hBw hT hN HS.out).mono ?_; rintro e w2 ⟨g, rfl, hg1, hg2, hg3, hb2⟩)
  go_ret
  exact ⟨rfl, hb2⟩
theorem check_any (vs : Value) (l : List Nd) (w : World) (B : Nat) (hBw : B ≤ w.heap.size) (hT : SpanCells w) (hN : Nodes w B vs l) :
    Calls Tryd.prog 8 #[vs] w fun e w' => e = .returned (.int .i64 (if sndB l = true then 0 else 1)) ∧ Below w.heap.size w w' := by
  cases hs : begL l with
  | none =>
    have hv : (if sndB l = true then (0 : Int) else 1) = 1 := by simp [sndB, hs]
    rw [hv]; exact check_none vs l w B hBw hT hN hs
  | some fr =>
    have hv : (if sndB l = true then (0 : Int) else 1) = 0 := by simp [sndB, hs]
    rw [hv]; exact check_some vs l fr w B hBw hT hN hs
end Go.Proofs.YtjkcbigmebbkkaaDoor

set_option linter.unusedSimpArgs false
set_option linter.unusedVariables false
namespace Go.Proofs.YtjkcbigmebbkkaaDoor
open Go.RowKit Go.Lib

/-- Of a sound list: how long, how many kids, which. -/
theorem snd_bounds {l : List Nd} {fr : List Nat} (h : begL l = some fr) : l.length ≤ 64 ∧ ∀ x ∈ l, x.kids.length ≤ 3 := by
  obtain ⟨_, h2, h3, _⟩ := begL_some h
  exact ⟨h2, fun x hx => formB_kids ((begR_some h3 low_nil).2.2.2 x hx)⟩

theorem chainL_kids {fr : List Nat} : ∀ (ks : List Int) (c a : Nat), chainL fr ks c = some a → Low fr → ∀ k ∈ ks, 0 ≤ k ∧ k < c := by
  intro ks
  induction ks with
  | nil => intro c a _ _ k hk; simp at hk
  | cons k0 ks ih =>
    intro c a h hl k hk
    simp only [chainL] at h
    split at h
    · cases h
    · rename_i hn
      have hlo := hl (c - 1)
      rcases List.mem_cons.1 hk with rfl | hk
      · omega
      · have := ih _ _ h hl k hk
        omega

theorem begR_kids {l : List Nd} : ∀ {fr fr' : List Nat}, begR fr l = some fr' → Low fr → ∀ x ∈ l, ∀ k ∈ x.kids, 0 ≤ k ∧ k < (fr.length + l.length : Nat) := by
  induction l with
  | nil => intro fr fr' _ _ x hx; simp at hx
  | cons y l ih =>
    intro fr fr' h hl x hx k hk
    simp only [begR] at h
    cases hs : stp fr y with
    | none => rw [hs] at h; cases h
    | some f2 =>
      rw [hs] at h
      simp only [Option.bind_some] at h
      obtain ⟨hf, a, hc, rfl⟩ := stp_some hs
      rcases List.mem_cons.1 hx with rfl | hx
      · have := chainL_kids _ _ _ hc hl k (by simpa using hk)
        simp; omega
      · have := ih h (hl.snoc (chainL_le hl _ _ _ hc)) x hx k hk
        simp at this ⊢; omega

theorem snd_kids {l : List Nd} {fr : List Nat} (h : begL l = some fr) : ∀ x ∈ l, x.kids.length * 8 ≤ 140737488351232 ∧ ∀ k ∈ x.kids, -9000 ≤ k ∧ k ≤ 9000 := by
  intro x hx
  obtain ⟨h1, h2⟩ := snd_bounds h
  refine ⟨by have := h2 x hx; omega, fun k hk => ?_⟩
  have := begR_kids (begL_some h).2.2.1 low_nil x hx k hk
  simp at this
  omega

theorem OwnN_mono {w : World} {base base' : Nat} {v : Value} {l : List Nd} (h : OwnN w base v l) (hb : base' ≤ base) : OwnN w base' v l :=
  let ⟨p, h1, h2⟩ := h; ⟨p, h1, ownsRow_mono h2.row hb, fun q hq => ownsRow_mono (h2.kids q hq) hb⟩
theorem OwnN.form {w : World} {base : Nat} {v : Value} {l : List Nd} (h : OwnN w base v l) : ∃ ao n cap, v = .slice ao n cap := by
  obtain ⟨ao, cap, h, _⟩ := Nodes_of_own h (Nat.le_refl _)
  exact ⟨ao, _, cap, h⟩
theorem OwnN.len {w : World} {base : Nat} {ao : Option Addr} {n cap : Nat} {l : List Nd} (h : OwnN w base (.slice ao n cap) l) : n = l.length := by
  obtain ⟨ao', cap', h, _⟩ := Nodes_of_own h (Nat.le_refl _)
  cases h; rfl

def partL (l : List Nd) (a b : Nat) : List Nd := ((l.drop a).take (b + 1 - a)).map (mvN 0 (-(a : Int)))
def putL (l : List Nd) (a b : Nat) (m : List Nd) : List Nd := (l.take a).map (mvN 0 0) ++ m.map (mvN 0 a) ++ (l.drop (b + 1)).map (mvN b ((m.length : Int) - ((b : Int) + 1 - a)))

theorem getD_sub (l : List Nd) (a m i : Nat) (h : i < m) : ((l.drop a).take m).getD i nd0 = l.getD (a + i) nd0 := by
  simp only [List.getD_eq_getElem?_getD, List.getElem?_take, if_pos h, List.getElem?_drop]

/-- A cut of a list that is read. -/
theorem Nodes.cut {w : World} {B b o cap : Nat} {l : List Nd} (hc : ∀ i, i < l.length → ∃ kv, NodeAt w B b (o + i * 4) (l.getD i nd0) kv) (hb : b < B) (a m cap' : Nat) (ham : a + m ≤ l.length) (hm : m ≤ cap') (hcap : cap' ≤ maxLen)
    (ao : Option Addr) (hao : m ≠ 0 → ao = some ⟨b, o + a * 4, none⟩) : Nodes w B (.slice ao m cap') ((l.drop a).take m) := by
  have hl : ((l.drop a).take m).length = m := by simp; omega
  refine ⟨ao, cap', by rw [hl], by omega, hcap, ?_⟩
  by_cases h0 : m = 0
  · left; exact List.length_eq_zero_iff.1 (by omega)
  · right
    refine ⟨b, o + a * 4, hao h0, hb, fun i hi => ?_⟩
    rw [hl] at hi
    obtain ⟨kv, hk⟩ := hc (a + i) (by omega)
    rw [getD_sub l a m i hi]
    have e : o + a * 4 + i * 4 = o + (a + i) * 4 := by omega
    rw [e]; exact ⟨kv, hk⟩

end Go.Proofs.YtjkcbigmebbkkaaDoor
