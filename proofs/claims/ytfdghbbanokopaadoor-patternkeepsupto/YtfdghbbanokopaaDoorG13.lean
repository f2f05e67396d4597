/-
  BkT, PoB.
-/
import Derived.Shelf.Unicode.DecodeSlow
import Derived.Laws.RangeAny
import Derived.Shelf.Strconv.Itoa0
import Derived.Shelf.Unicode.DecodeAny
import Derived.Test.YtfdghbbanokopaaDoorProg
import Derived.WalkKit
import Derived.Deep.DeepFit
import Derived.Lib.OthersKept
import Derived.Deep.AppendLies
import Derived.Deep.OwnRows
import Derived.Laws.AppendOwnNone
import Derived.Below
import Derived.Deep.RegionLaw
import Derived.Lib.SlBytesRow
import Derived.Lib.QuietBelow
import Derived.StillTail
import Derived.BigQuiet
import Derived.Test.YtfdghbbanokopaaDoorG01
import Derived.Test.YtfdghbbanokopaaDoorG02
import Derived.Test.YtfdghbbanokopaaDoorG03
import Derived.Test.YtfdghbbanokopaaDoorG04
import Derived.Test.YtfdghbbanokopaaDoorG05
import Derived.Test.YtfdghbbanokopaaDoorG06
import Derived.Test.YtfdghbbanokopaaDoorG07
import Derived.Test.YtfdghbbanokopaaDoorG08
import Derived.Test.YtfdghbbanokopaaDoorG09
import Derived.Test.YtfdghbbanokopaaDoorG10
import Derived.Test.YtfdghbbanokopaaDoorG11
import Derived.Test.YtfdghbbanokopaaDoorG12
set_option linter.unusedSimpArgs false
set_option linter.unusedVariables false
namespace Go.Proofs.YtfdghbbanokopaaDoor
open Go.RowKit Go.Lib

theorem RwL.t1 {V : Nat → Value} {w : World} {base : Nat} {e : TypeId} {size fld : Nat} {R : List Rw} (h : RwL w base e size R) {B : Nat} (hB : B < w.heap.size) (hc : ∀ k, k < R.length → w.cell? ⟨B, k, none⟩ = some (R.getD k rw0).1) :
    T1 V w base e size fld R.length B (fun k => vA (R.getD k rw0).1) (fun k => vC (R.getD k rw0).1) (fun k => (R.getD k rw0).2.1) (offN fun k => (R.getD k rw0).2.1) (fun k => (R.getD k rw0).2.2) 0 0 w := by
  refine ⟨fun k hk => ?_, fun k hk => ?_, fun k hk => by omega, fun j hj => by omega, Below.refl _ _, hB, fun q _ _ => rfl⟩
  · have ho := h.own _ (List.getElem_mem hk)
    have := rw_eta ho
    rw [gd_rw hk, ← this]; exact ho
  · have := rw_eta (h.own _ (List.getElem_mem hk))
    rw [hc k hk, gd_rw hk, ← this]
theorem apT_list (w : World) (base : Nat) (hv : Value) (R : List Rw) (hbase : base ≤ w.heap.size) (hh : w.ownsRow base 33 1 hv R.length (R.map (·.1))) (hR : RwL w base 9 1 R) (hl : ∀ r ∈ R, r.2.1 ≤ 100000000) (hn : R.length ≤ 100000000) :
    Calls Tryd.prog 62 #[hv] w fun e W' => e = .returned (.bool true) ∧ Below base w W' ∧ Kpt R w W' := by
  rcases Nat.eq_zero_or_pos R.length with h0 | h0
  · have hv0 : ∃ ao cap, hv = .slice ao 0 cap := by obtain ⟨ao, cap, h⟩ := rw_form hh; exact ⟨ao, cap, by rw [h, h0]⟩
    have hR0 : R = [] := List.length_eq_zero_iff.1 h0
    subst hR0
    rcases hh.2 with ⟨rfl, _⟩ | ⟨g, cap, cur, rfl, _, hg, _, _, _, _⟩
    · exact (texts_nil w).mono fun e W' ⟨h1, h2⟩ => ⟨h1, by rw [h2]; exact Below.refl _ _, by rw [h2]; exact fun _ _ _ => rfl⟩
    · refine (apartTexts_any 0 g cap (fun k => vA (([] : List Rw).getD k rw0).1) _ _ _ _ base w (hR.rows hg (by decide)) rfl (fun _ => rfl) (fun k hk => by omega) hbase (by simp [offN]) (fun k hk => by omega) (by omega) (hR.t1 (lt_of_block hg) (fun k hk => by simp at hk))).mono ?_
      rintro e W' ⟨h1, h2, h3⟩
      exact ⟨h1, h2, kpt_of hR h3⟩
  · obtain ⟨g, cap, rfl, _, hg⟩ := rw_some hh h0
    obtain ⟨_, _, cap', cur, _, hc, _⟩ := rw_block hh (b := g) rfl
    have hlk : ∀ k, k < R.length → (R.getD k rw0).2.1 ≤ 100000000 := fun k hk => by rw [gd_rw hk]; exact hl _ (List.getElem_mem hk)
    have hob := offN_bd (fun k => (R.getD k rw0).2.1) 100000000 R.length hlk
    refine (apartTexts_any R.length g cap _ _ _ _ _ base w (hR.rows hc (by decide)) rfl (fun _ => rfl) (fun k hk => offN_lt _ hk (Nat.le_refl _)) hbase (by omega) (fun k hk => by have := hlk k hk; omega) (by omega) (hR.t1 hg (hdr_cell hh))).mono ?_
    rintro e W' ⟨h1, h2, h3⟩
    exact ⟨h1, h2, kpt_of hR h3⟩
theorem apI_listT (w : World) (base : Nat) (hv : Value) (R : List Rw) (hbase : base ≤ w.heap.size) (hh : w.ownsRow base 48 1 hv R.length (R.map (·.1))) (hR : RwL w base 3 1 R) (hl : ∀ r ∈ R, r.2.1 * 8 ≤ 140737488351232) (hn : R.length * 24 ≤ 140737488355328) :
    Calls Tryd.prog 60 #[hv] w fun e W' => e = .returned (.bool true) ∧ Below base w W' ∧ Kpt R w W' := by
  rcases Nat.eq_zero_or_pos R.length with h0 | h0
  · have hv0 : ∃ ao cap, hv = .slice ao 0 cap := by obtain ⟨ao, cap, h⟩ := rw_form hh; exact ⟨ao, cap, by rw [h, h0]⟩
    have hR0 : R = [] := List.length_eq_zero_iff.1 h0
    subst hR0
    rcases hh.2 with ⟨rfl, _⟩ | ⟨g, cap, cur, rfl, _, hg, _, _, _, _⟩
    · exact (ints_nil w).mono fun e W' ⟨h1, h2⟩ => ⟨h1, by rw [h2]; exact Below.refl _ _, by rw [h2]; exact fun _ _ _ => rfl⟩
    · refine (apartIntsW_any 0 g cap (fun k => vA (([] : List Rw).getD k rw0).1) _ _ _ _ base w (hR.rows hg (by decide)) rfl (fun _ => rfl) (fun k hk => by omega) hbase (fun k hk => by omega) (by omega) (hR.t1 (lt_of_block hg) (fun k hk => by simp at hk))).mono ?_
      rintro e W' ⟨h1, h2, h3⟩
      exact ⟨h1, h2, kpt_of hR h3⟩
  · obtain ⟨g, cap, rfl, _, hg⟩ := rw_some hh h0
    obtain ⟨_, _, cap', cur, _, hc, _⟩ := rw_block hh (b := g) rfl
    have hlk : ∀ k, k < R.length → (R.getD k rw0).2.1 * 8 ≤ 140737488351232 := fun k hk => by rw [gd_rw hk]; exact hl _ (List.getElem_mem hk)
    refine (apartIntsW_any R.length g cap _ _ _ _ _ base w (hR.rows hc (by decide)) rfl (fun _ => rfl) (fun k hk => offN_lt _ hk (Nat.le_refl _)) hbase (fun k hk => by have := hlk k hk; omega) (by omega) (hR.t1 hg (hdr_cell hh))).mono ?_
    rintro e W' ⟨h1, h2, h3⟩
    exact ⟨h1, h2, kpt_of hR h3⟩
theorem apN_listT (w : World) (base : Nat) (hv : Value) (R : List Rw) (hbase : base ≤ w.heap.size) (hh : w.ownsRow base 22 1 hv R.length (R.map (·.1))) (hR : RwL w base 50 4 R) (hl : ∀ r ∈ R, r.2.1 * 56 ≤ 140737488351232) (hn : R.length ≤ 1000) :
    Calls Tryd.prog 61 #[hv] w fun e W' => e = .returned (.bool true) ∧ Below base w W' ∧ Kpt R w W' := by
  rcases Nat.eq_zero_or_pos R.length with h0 | h0
  · have hR0 : R = [] := List.length_eq_zero_iff.1 h0
    subst hR0
    rcases hh.2 with ⟨rfl, _⟩ | ⟨g, cap, cur, rfl, _, hg, _, _, _, _⟩
    · exact (nodes_nil w).mono fun e W' ⟨h1, h2⟩ => ⟨h1, by rw [h2]; exact Below.refl _ _, by rw [h2]; exact fun _ _ _ => rfl⟩
    · refine (apartNodes_any 0 g cap (fun k => vA (([] : List Rw).getD k rw0).1) _ _ _ _ base w (hR.rows hg (by decide)) rfl (fun _ => rfl) (fun k hk => by omega) hbase (by simp [offN]) (fun k hk => by omega) (by omega) (hR.p1 (lt_of_block hg) (fun k hk => by simp at hk))).mono ?_
      rintro e W' ⟨h1, h2, h3⟩
      exact ⟨h1, h2, kpt_of hR h3⟩
  · obtain ⟨g, cap, rfl, _, hg⟩ := rw_some hh h0
    obtain ⟨_, _, cap', cur, _, hc, _⟩ := rw_block hh (b := g) rfl
    have hlk : ∀ k, k < R.length → (R.getD k rw0).2.1 ≤ 2513169434843 := fun k hk => by rw [gd_rw hk]; have := hl _ (List.getElem_mem hk); omega
    have hob := offN_bd (fun k => (R.getD k rw0).2.1) 2513169434843 R.length hlk
    refine (apartNodes_any R.length g cap _ _ _ _ _ base w (hR.rows hc (by decide)) rfl (fun _ => rfl) (fun k hk => offN_lt _ hk (Nat.le_refl _)) hbase (by omega) (fun k hk => by have := hlk k hk; omega) (by omega) (hR.p1 hg (hdr_cell hh))).mono ?_
    rintro e W' ⟨h1, h2, h3⟩
    exact ⟨h1, h2, kpt_of hR h3⟩

/-- The book's own memory. -/
structure BkG (ht : Value) (w : World) (base Q : Nat) (hn hi : Value) (VN VI : List Value) : Prop where
  blk : w.heap[Q]? = some (.cells #[hn, hi, ht, .slice none 0 0, .slice none 0 0, .slice none 0 0] 67 (0, 0))
  hN : w.ownsRow base 22 1 hn VN.length VN
  hI : w.ownsRow base 48 1 hi VI.length VI
set_option maxRecDepth 100000000 in
set_option maxHeartbeats 1000000 in
theorem bookINT_any (w : World) (base Q : Nat) (hn hi ht : Value) (RN RI RT : List Rw) (hbase : base ≤ w.heap.size) (h : BkG ht w base Q hn hi (RN.map (·.1)) (RI.map (·.1))) (hRN : RwL w base 50 4 RN) (hRI : RwL w base 3 1 RI) (hhT : w.ownsRow base 33 1 ht RT.length (RT.map (·.1))) (hRT : RwL w base 9 1 RT) (hlT : ∀ r ∈ RT, r.2.1 ≤ 100000000) (hnT : RT.length ≤ 100000000)
    (hlN : ∀ r ∈ RN, r.2.1 * 56 ≤ 140737488351232) (hnN : RN.length ≤ 1000) (hlI : ∀ r ∈ RI, r.2.1 * 8 ≤ 140737488351232) (hnI : RI.length * 24 ≤ 140737488355328) :
    Calls Tryd.prog 38 #[.pointer (some ⟨Q, 0, none⟩)] w fun e W' => e = .returned (.bool true) ∧ Below base w W' := by
  have hQ := h.blk
  have hlt := lt_of_block hQ
  have hhN := h.hN
  have hhI := h.hI
  rw [List.length_map] at hhN hhI
  have c1 : w.cell? ⟨Q, 1, none⟩ = some hi := by simp [World.cell?, hQ]
  have cI : Hid (Calls Tryd.prog 60 #[hi] w fun e W' => e = .returned (.bool true) ∧ Hid (Below base w W' ∧ Kpt RI w W') ∧ W'.cell? ⟨Q, 0, none⟩ = some hn) := by
    refine (apI_listT w base hi RI hbase hhI hRI hlI hnI).mono ?_
    rintro e W' ⟨h1, h2, h3⟩
    have e1 := (h3 Q hlt fun r hr => own_typ (hRI.own r hr) hQ (by decide)).trans hQ
    exact ⟨h1, ⟨h2, h3⟩, by simp [World.cell?, e1]⟩
  have cN : Hid (∀ W, Below base w W → Kpt RI w W → Calls Tryd.prog 61 #[hn] W fun e W' => e = .returned (.bool true) ∧ Hid (Below base w W' ∧ Kpt (RN ++ RI) w W') ∧ W'.cell? ⟨Q, 2, none⟩ = some ht) := by
    intro W hb hk
    have hrow : ∀ {e : TypeId} {s n : Nat} {v : Value} {xs : List Value}, w.ownsRow base e s v n xs → e ≠ 3 → ∀ b, v.ownBlock = some b → W.heap[b]? = w.heap[b]? := fun {e s n v xs} ho hne b hv => by
      obtain ⟨_, hl, cap, cur, _, hc, _⟩ := rw_block ho hv
      exact hk b hl fun r hr => own_typ (hRI.own r hr) hc (fun h => hne h.symm)
    have hRN' : RwL W base 50 4 RN := hRN.keep fun r hr => hrow (hRN.own r hr) (by decide)
    have hhN' := rw_same hhN (hrow hhN (by decide))
    refine (apN_listT W base hn RN (by have := hb.size; omega) hhN' hRN' hlN hnN).mono ?_
    rintro e W' ⟨h1, h2, h3⟩
    have e0 := (hk Q hlt fun r hr => own_typ (hRI.own r hr) hQ (by decide)).trans hQ
    have e1 := (h3 Q (lt_of_block e0) fun r hr => own_typ (hRN'.own r hr) e0 (by decide)).trans e0
    refine ⟨h1, ⟨hb.trans h2, fun q hq hr => ?_⟩, by simp [World.cell?, e1]⟩
    exact (h3 q (by have := hb.size; omega) fun r hr' => hr r (List.mem_append_left _ hr')).trans (hk q hq fun r hr' => hr r (List.mem_append_right _ hr'))
  have cT : Hid (∀ W, Below base w W → Kpt (RN ++ RI) w W → Calls Tryd.prog 62 #[ht] W fun e W' => e = .returned (.bool true) ∧ Hid (Below base w W') ∧ W'.cell? ⟨Q, 3, none⟩ = some (.slice none 0 0) ∧ W'.cell? ⟨Q, 4, none⟩ = some (.slice none 0 0) ∧ W'.cell? ⟨Q, 5, none⟩ = some (.slice none 0 0)) := by
    intro W hb hk
    have hne : ∀ r ∈ RN ++ RI, ∀ {b : Nat} {cs : Array Value} {e : TypeId} {fr : Nat × Nat}, w.heap[b]? = some (.cells cs e fr) → e ≠ 3 → e ≠ 50 → r.1.ownBlock ≠ some b := fun r hr {b cs e fr} hc h1 h2 => by
      rcases List.mem_append.1 hr with hr | hr
      · exact own_typ (hRN.own r hr) hc (fun h => h2 h.symm)
      · exact own_typ (hRI.own r hr) hc (fun h => h1 h.symm)
    have hrow : ∀ {e : TypeId} {s n : Nat} {v : Value} {xs : List Value}, w.ownsRow base e s v n xs → e ≠ 3 → e ≠ 50 → ∀ b, v.ownBlock = some b → W.heap[b]? = w.heap[b]? := fun {e s n v xs} ho h1 h2 b hv => by
      obtain ⟨_, hl, cap, cur, _, hc, _⟩ := rw_block ho hv
      exact hk b hl fun r hr => hne r hr hc h1 h2
    have hRT' : RwL W base 9 1 RT := hRT.keep fun r hr => hrow (hRT.own r hr) (by decide) (by decide)
    have hhT' := rw_same hhT (hrow hhT (by decide) (by decide))
    refine (apT_list W base ht RT (by have := hb.size; omega) hhT' hRT' hlT hnT).mono ?_
    rintro e W' ⟨h1, h2, h3⟩
    have e0 := (hk Q hlt fun r hr => hne r hr hQ (by decide) (by decide)).trans hQ
    have e1 := (h3 Q (lt_of_block e0) fun r hr => own_typ (hRT'.own r hr) e0 (by decide)).trans e0
    exact ⟨h1, hb.trans h2, by simp [World.cell?, e1], by simp [World.cell?, e1], by simp [World.cell?, e1]⟩
  clear h hQ hhN hhI hRN hRI hhT hRT
  go_enter Tryd.func38, Tryd.ntmps38
  go_wp2_with (first
    | (go_at_call 60; refine cI.out.mono ?_; rintro e w1 ⟨rfl, b1, d0⟩)
    | (go_at_call 61; refine (cN.out _ b1.out.1 b1.out.2).mono ?_; rintro e w2 ⟨rfl, b2, d2⟩)
    | (go_at_call 62; refine (cT.out _ b2.out.1 b2.out.2).mono ?_; rintro e w4 ⟨rfl, b4, d3, d4, d5⟩)
    | (go_at_call 63; refine (binds_nil _).mono ?_; rintro e w3 ⟨rfl, rfl⟩)
    | (go_at_call 64; refine (classes_nil _).mono ?_; rintro e w5 ⟨rfl, rfl⟩)
    | (go_at_call 65; refine (nums_nil _).mono ?_; rintro e w6 ⟨rfl, rfl⟩))
  go_ret
  exact ⟨rfl, b4.out⟩

/-- Which blocks are written: the book's, and those of its headers; these stay or are young. -/
structure BkO (Q : Nat) (hn hi hn' hi' : Value) (w w' : World) : Prop where
  kp : ∀ b, b < w.heap.size → b ≠ Q → hn.ownBlock ≠ some b → hi.ownBlock ≠ some b → w'.heap[b]? = w.heap[b]?
  yn : ∀ b, hn'.ownBlock = some b → hn.ownBlock = some b ∨ w.heap.size ≤ b
  yi : ∀ b, hi'.ownBlock = some b → hi.ownBlock = some b ∨ w.heap.size ≤ b
theorem BkO.refl (Q : Nat) (hn hi : Value) (w : World) : BkO Q hn hi hn hi w w := ⟨fun _ _ _ _ _ => rfl, fun _ h => .inl h, fun _ h => .inl h⟩
theorem BkO.trans {Q : Nat} {a1 b1 a2 b2 a3 b3 : Value} {w w' w2 : World} (h : BkO Q a1 b1 a2 b2 w w') (hs : w.heap.size ≤ w'.heap.size) (k : BkO Q a2 b2 a3 b3 w' w2) : BkO Q a1 b1 a3 b3 w w2 := by
  refine ⟨fun b hb h1 h2 h3 => ?_, fun b hb => ?_, fun b hb => ?_⟩
  · rw [k.kp b (by omega) h1 (fun e => (h.yn b e).elim h2 (by omega)) (fun e => (h.yi b e).elim h3 (by omega))]
    exact h.kp b hb h1 h2 h3
  · rcases k.yn b hb with e | e
    · exact h.yn b e
    · right; omega
  · rcases k.yi b hb with e | e
    · exact h.yi b e
    · right; omega
/-- A header that has grown, then the book's cell set. -/
theorem BkG.putI {ht : Value} {w w7 : World} {base Q : Nat} {hn hi : Value} {VN VI : List Value} (h : BkG ht w base Q hn hi VN VI) (hQ : base ≤ Q) {o : Obj} {u : Value} {g cap : Nat} (hg : (w.alloc o).grownBy w7 hi.ownBlock) (ho : w7.ownsRow base 48 1 (.slice (some ⟨g, 0, none⟩) (VI.length + 1) cap) (VI.length + 1) (VI ++ [u])) (hat : hi.ownBlock = some g ∨ g = (w.alloc o).heap.size) :
    BkG ht (w7.setCell ⟨Q, 1, none⟩ (.slice (some ⟨g, 0, none⟩) (VI.length + 1) cap)) base Q hn (.slice (some ⟨g, 0, none⟩) (VI.length + 1) cap) VN (VI ++ [u]) ∧ Below base w (w7.setCell ⟨Q, 1, none⟩ (.slice (some ⟨g, 0, none⟩) (VI.length + 1) cap)) ∧ BkK w (w7.setCell ⟨Q, 1, none⟩ (.slice (some ⟨g, 0, none⟩) (VI.length + 1) cap)) ∧ BkO Q hn hi hn (.slice (some ⟨g, 0, none⟩) (VI.length + 1) cap) w (w7.setCell ⟨Q, 1, none⟩ (.slice (some ⟨g, 0, none⟩) (VI.length + 1) cap)) := by
  have hl := lt_of_block h.blk
  have hk : ∀ b, b < w.heap.size → hi.ownBlock ≠ some b → w7.heap[b]? = w.heap[b]? := fun b hb hne => (hg.block b (by rw [World.size_alloc]; omega) (fun e => hne e.symm)).trans (Deep.blk_alloc_lt _ _ _ hb)
  have hb7 := (hk Q hl (own_typ h.hI h.blk (by decide))).trans h.blk
  have hb8 := heap_setCell_same w7 Q 1 _ _ (.slice (some ⟨g, 0, none⟩) (VI.length + 1) cap) hb7
  have oth : ∀ b, b ≠ Q → (w7.setCell ⟨Q, 1, none⟩ (.slice (some ⟨g, 0, none⟩) (VI.length + 1) cap)).heap[b]? = w7.heap[b]? := fun b hb => Deep.blk_setCell_other _ _ _ _ hb
  refine ⟨⟨by simpa using hb8, ?_, ?_⟩, ?_, fun b o' hb hty => ?_, ?_⟩
  · refine rw_same h.hN fun b hb => ?_
    obtain ⟨_, hlb, cap', cur, _, hc, _⟩ := rw_block h.hN hb
    rw [oth b (fun e => by subst e; exact own_typ h.hN h.blk (by decide) hb), hk b hlb (own_typ h.hI hc (by decide))]
  · rw [show (VI ++ [u]).length = VI.length + 1 by simp]
    exact rw_same ho fun b hb => oth b (fun e => by subst e; exact own_typ ho hb7 (by decide) hb)
  · have hb1 : Below base w w7 := by
      have hb0 : base ≤ w.heap.size := by omega
      exact (((Below.refl base w).alloc hb0 o).trans (Below.grown (Below.refl base _) hg (by rw [World.size_alloc]; omega) (fun j hj => by have := rw_block h.hI hj; exact this.1)))
    exact hb1.setCell (p := ⟨Q, 1, none⟩) hQ _
  · have hlb := lt_of_block hb
    have h1 : b ≠ Q := fun e => by
      subst e
      rw [h.blk] at hb
      injection hb with hb
      exact (hty _ _ _ hb.symm).1 rfl
    rw [oth b h1, hk b hlb (fun e => ?_)]
    · exact hb
    · obtain ⟨_, _, cap', cur, _, hc, _⟩ := rw_block h.hI e
      rw [hc] at hb
      injection hb with hb
      exact (hty _ _ _ hb.symm).2.2 rfl
  · refine ⟨fun b hb h1 h2 h3 => by rw [oth b h1, hk b hb h3], fun b hb => .inl hb, fun b hb => ?_⟩
    cases hb
    rcases hat with h | h
    · exact .inl h
    · right; show w.heap.size ≤ g; rw [h, World.size_alloc]; omega
theorem BkG.putN {ht : Value} {w w7 : World} {base Q : Nat} {hn hi : Value} {VN VI : List Value} (h : BkG ht w base Q hn hi VN VI) (hQ : base ≤ Q) {o : Obj} {u : Value} {g cap : Nat} (hg : (w.alloc o).grownBy w7 hn.ownBlock) (ho : w7.ownsRow base 22 1 (.slice (some ⟨g, 0, none⟩) (VN.length + 1) cap) (VN.length + 1) (VN ++ [u])) (hat : hn.ownBlock = some g ∨ g = (w.alloc o).heap.size) :
    BkG ht (w7.setCell ⟨Q, 0, none⟩ (.slice (some ⟨g, 0, none⟩) (VN.length + 1) cap)) base Q (.slice (some ⟨g, 0, none⟩) (VN.length + 1) cap) hi (VN ++ [u]) VI ∧ Below base w (w7.setCell ⟨Q, 0, none⟩ (.slice (some ⟨g, 0, none⟩) (VN.length + 1) cap)) ∧ BkK w (w7.setCell ⟨Q, 0, none⟩ (.slice (some ⟨g, 0, none⟩) (VN.length + 1) cap)) ∧ BkO Q hn hi (.slice (some ⟨g, 0, none⟩) (VN.length + 1) cap) hi w (w7.setCell ⟨Q, 0, none⟩ (.slice (some ⟨g, 0, none⟩) (VN.length + 1) cap)) := by
  have hl := lt_of_block h.blk
  have hk : ∀ b, b < w.heap.size → hn.ownBlock ≠ some b → w7.heap[b]? = w.heap[b]? := fun b hb hne => (hg.block b (by rw [World.size_alloc]; omega) (fun e => hne e.symm)).trans (Deep.blk_alloc_lt _ _ _ hb)
  have hb7 := (hk Q hl (own_typ h.hN h.blk (by decide))).trans h.blk
  have hb8 := heap_setCell_same w7 Q 0 _ _ (.slice (some ⟨g, 0, none⟩) (VN.length + 1) cap) hb7
  have oth : ∀ b, b ≠ Q → (w7.setCell ⟨Q, 0, none⟩ (.slice (some ⟨g, 0, none⟩) (VN.length + 1) cap)).heap[b]? = w7.heap[b]? := fun b hb => Deep.blk_setCell_other _ _ _ _ hb
  refine ⟨⟨by simpa using hb8, ?_, ?_⟩, ?_, fun b o' hb hty => ?_, ?_⟩
  · rw [show (VN ++ [u]).length = VN.length + 1 by simp]
    exact rw_same ho fun b hb => oth b (fun e => by subst e; exact own_typ ho hb7 (by decide) hb)
  · refine rw_same h.hI fun b hb => ?_
    obtain ⟨_, hlb, cap', cur, _, hc, _⟩ := rw_block h.hI hb
    rw [oth b (fun e => by subst e; exact own_typ h.hI h.blk (by decide) hb), hk b hlb (own_typ h.hN hc (by decide))]
  · have hb1 : Below base w w7 := by
      have hb0 : base ≤ w.heap.size := by omega
      exact (((Below.refl base w).alloc hb0 o).trans (Below.grown (Below.refl base _) hg (by rw [World.size_alloc]; omega) (fun j hj => by have := rw_block h.hN hj; exact this.1)))
    exact hb1.setCell (p := ⟨Q, 0, none⟩) hQ _
  · have hlb := lt_of_block hb
    have h1 : b ≠ Q := fun e => by
      subst e
      rw [h.blk] at hb
      injection hb with hb
      exact (hty _ _ _ hb.symm).1 rfl
    rw [oth b h1, hk b hlb (fun e => ?_)]
    · exact hb
    · obtain ⟨_, _, cap', cur, _, hc, _⟩ := rw_block h.hN e
      rw [hc] at hb
      injection hb with hb
      exact (hty _ _ _ hb.symm).2.1 rfl
  · refine ⟨fun b hb h1 h2 h3 => by rw [oth b h1, hk b hb h2], fun b hb => ?_, fun b hb => .inl hb⟩
    cases hb
    rcases hat with h | h
    · exact .inl h
    · right; show w.heap.size ≤ g; rw [h, World.size_alloc]; omega
/-- Between two rounds. -/
structure BkN (ht hi0 : Value) (w : World) (base Q : Nat) (hn : Value) (VN VI : List Value) (q : List (Nd × Value)) (j : Nat) (hi : Value) (wr : World) : Prop where
  bk : BkG ht wr base Q hn hi VN (VI ++ (q.take j).map (·.2))
  bel : Below base w wr
  kp : BkK w wr
  ko : BkO Q hn hi0 hn hi w wr
theorem take_nextT {q : List (Nd × Value)} {j : Nat} (hj : j < q.length) : (q.take (j + 1)).map (·.2) = (q.take j).map (·.2) ++ [q[j].2] := by
  rw [List.take_add_one, List.getElem?_eq_getElem hj, List.map_append]; rfl

set_option maxRecDepth 100000000 in
set_option maxHeartbeats 4000000 in
theorem bookExprT_any (ht : Value) (w : World) (base Q : Nat) (hn hi : Value) (VN VI : List Value) (vo : Option Addr) (cap : Nat) (q : List (Nd × Value)) (h : BkG ht w base Q hn hi VN VI) (hQ : base ≤ Q) (hO : OwnP w base (.slice vo q.length cap) q) (hVN : VN.length ≤ 100000000) (hVI : (VI.length + q.length) * 24 ≤ 140737488355328) :
    Calls Tryd.prog 37 #[.pointer (some ⟨Q, 0, none⟩), .slice vo q.length cap] w fun e w' => e = .returned (.tuple #[]) ∧ ∃ hn' hi', BkG ht w' base Q hn' hi' (VN ++ [.slice vo q.length cap]) (VI ++ q.map (·.2)) ∧ Below base w w' ∧ BkK w w' ∧ BkO Q hn hi hn' hi' w w' := by
  obtain ⟨m0, hm, hx0, hx1, hx2⟩ := info_parts ap_infoIs
  obtain ⟨i0, hi0, hz0, hz1, hz2⟩ := info_parts ap_infoNs
  have HM0 : Slb (BkN ht hi w base Q hn VN VI q 0 hi w) := ⟨⟨by simpa using h, Below.refl _ _, BkK.refl _, BkO.refl _ _ _ _⟩⟩
  have HO : Slb (OwnP w base (.slice vo q.length cap) q) := ⟨hO⟩
  have hqI : (q.length : Int) ≤ 5864062014806 := by omega
  clear h hO
  go_enter Tryd.func37, Tryd.ntmps37
  go_wp2_with fail
  go_loopw [4] (fun i wr => ∃ (j : Nat) (hi' : Value), j ≤ q.length ∧ i = .int .i64 j ∧ BkN ht hi w base Q hn VN VI q j hi' wr) (fun i _ => q.length - (RowKit.intOf i).toNat)
  case atStart => exact ⟨0, hi, by omega, rfl, HM0.out⟩
  case round =>
    obtain ⟨j, hi', hj, rfl, hM⟩ := hrel
    have HM : Slb (BkN ht hi w base Q hn VN VI q j hi' wr) := ⟨hM⟩
    have hQl : Q < wr.heap.size := lt_of_block hM.bk.blk
    clear hM HM0
    by_cases hlt : j < q.length
    · have hltI : (j : Int) < (q.length : Int) := by omega
      have hOw := HM.out.kp.ownP HO.out
      obtain ⟨vb, vc, hv, hvb, hvl⟩ := rw_some hOw.row (by omega)
      injection hv with hv1 _ hv2
      subst hv1 hv2
      have hqj : q[j]? = some (q[j].1, q[j].2) := by rw [List.getElem?_eq_getElem hlt]
      obtain ⟨_, _, _, a3⟩ := ndCells_at q j _ _ hqj
      have ck : wr.cell? ⟨vb, j * 4 + 3, none⟩ = some q[j].2 := (rdr_own hOw.row).cell (b := vb) rfl a3
      have hcv : q.length ≤ cap ∧ cap ≤ maxLen := by
        rcases hOw.row.2 with ⟨h7, _⟩ | ⟨g', cap', cur, h7, _, _, h8, h9, _⟩
        · cases h7
        · injection h7 with _ _ h7c
          subst h7c
          exact ⟨h8, h9⟩
      obtain ⟨ka, kc, hkv⟩ := rw_form (hOw.kids _ (List.getElem_mem hlt))
      obtain ⟨ia, ic, hiv⟩ := rw_form HM.out.bk.hI
      have hrow := HM.out.bk.hI
      have hvn : (VI ++ (q.take j).map (·.2)).length = VI.length + j := by simp; omega
      rw [hvn] at hiv hrow
      rw [hkv] at ck
      have hnx : VI ++ (q.take (j + 1)).map (·.2) = (VI ++ (q.take j).map (·.2)) ++ [.slice ka q[j].1.kids.length kc] := by rw [take_nextT hlt, hkv, List.append_assoc]
      have q1 : wr.cell? ⟨Q, 1, none⟩ = some hi' := by simp [World.cell?, HM.out.bk.blk]
      have q1f : wr.frozen? ⟨Q, 1, none⟩ = false := by simp [World.frozen?, HM.out.bk.blk]
      subst hiv
      have z1 : ∀ o, (wr.alloc o).cell? ⟨Q, 1, none⟩ = some (.slice ia (VI.length + j) ic) := fun o => (World.cell?_alloc_past _ _ _ hQl).trans q1
      have HP7 : Slb (∀ (o : Obj) (w7 : World), (wr.alloc o).drew.grownBy w7 (Value.slice ia (VI.length + j) ic).ownBlock → w7.heap[Q]? = wr.heap[Q]?) := ⟨fun o w7 hg => (hg.block Q (by show Q < (wr.alloc o).heap.size; rw [World.size_alloc]; omega) (fun e => own_typ hrow HM.out.bk.blk (by decide) e.symm)).trans (Deep.blk_alloc_lt _ _ _ hQl)⟩
      have HEND : Slb (∀ (o : Obj) (w7 : World) (g7 cap7 : Nat), (wr.alloc o).drew.grownBy w7 (Value.slice ia (VI.length + j) ic).ownBlock → w7.ownsRow base 48 1 (.slice (some ⟨g7, 0, none⟩) (VI.length + j + 1) cap7) (VI.length + j + 1) ((VI ++ (q.take j).map (·.2)) ++ [.slice ka q[j].1.kids.length kc]) → ((Value.slice ia (VI.length + j) ic).ownBlock = some g7 ∨ g7 = (wr.alloc o).heap.size) →
          BkN ht hi w base Q hn VN VI q (j + 1) (.slice (some ⟨g7, 0, none⟩) (VI.length + j + 1) cap7) (w7.setCell ⟨Q, 1, none⟩ (.slice (some ⟨g7, 0, none⟩) (VI.length + j + 1) cap7))) := ⟨fun o w7 g7 cap7 hg0 ho hat => by
        have hg : (wr.alloc o).grownBy w7 (Value.slice ia (VI.length + j) ic).ownBlock := by
          obtain ⟨a1, a2, a3, a4, a5⟩ := hg0
          exact ⟨a1, a2, a3, a4, a5⟩
        have hz := HM.out.bk.putI hQ (o := o) (w7 := w7) (g := g7) (cap := cap7) (u := .slice ka q[j].1.kids.length kc) hg (by rw [hvn]; exact ho) hat
        rw [hvn, ← hnx] at hz
        exact ⟨hz.1, HM.out.bel.trans hz.2.1, HM.out.kp.trans hz.2.2.1, HM.out.ko.trans HM.out.bel.size hz.2.2.2⟩⟩
      have hbl : base ≤ wr.heap.size := by omega
      unfold maxLen at hcv
      generalize hkl : q[j].1.kids.length = kl at *
      have HROW : Slb (wr.ownsRow base 48 1 (.slice ia (VI.length + j) ic) (VI.length + j) (VI ++ (q.take j).map (·.2))) := ⟨hrow⟩
      clear hOw a3 hqj hkv hnx hrow hkl
      go_wp2_with fail
      go_region_law (refine step_append_lies _ rfl (.tmp 15) (.tmp 21) 62 rfl base 48 m0 (.slice none 0 0) 1 24 Tryd.underlying62 hm hx0 hx1 hx2 rfl (by decide) _ _ _ (by simp [Act.eval, Act.put]) (HROW.out.alloc _) ⟨wr.heap.size, 0, none⟩ 1 1 [.slice ka kl kc] (by simp [Act.eval, Act.put]) rfl (cell_news_one wr _ _) (by simp [Value.oneCell']) (by omega) (by unfold maxLen; omega) (by omega) (by simp; omega) _ rfl ?_; intro g7 cap7 w7 hown7 hg7 hat7 hl7; have hnd7 := HP7.out _ w7 hg7; have m7 : w7.cell? ⟨Q, 1, none⟩ = some (.slice ia (VI.length + j) ic) := (World.cell?_of_block (a := ⟨Q, 1, none⟩) hnd7).trans q1; have m7f : w7.frozen? ⟨Q, 1, none⟩ = false := (World.frozen?_of_block (a := ⟨Q, 1, none⟩) hnd7).trans q1f)
      all_goals
        go_wp2_with fail
        have HF7 := HEND.out _ w7 g7 cap7 hg7 hown7 hat7
        exact ⟨⟨j + 1, _, by omega, by go_num, HF7⟩, by simp [RowKit.intOf]; omega⟩
    · have hje : j = q.length := by omega
      subst hje
      have hbk := HM.out.bk
      rw [List.take_length] at hbk
      obtain ⟨na, nc, hnv⟩ := rw_form hbk.hN
      subst hnv
      have hrow := hbk.hN
      have q1 : wr.cell? ⟨Q, 0, none⟩ = some (.slice na VN.length nc) := by simp [World.cell?, hbk.blk]
      have q1f : wr.frozen? ⟨Q, 0, none⟩ = false := by simp [World.frozen?, hbk.blk]
      have z1 : ∀ o, (wr.alloc o).cell? ⟨Q, 0, none⟩ = some (.slice na VN.length nc) := fun o => (World.cell?_alloc_past _ _ _ hQl).trans q1
      have HP7 : Slb (∀ (o : Obj) (w7 : World), (wr.alloc o).grownBy w7 (Value.slice na VN.length nc).ownBlock → w7.heap[Q]? = wr.heap[Q]?) := ⟨fun o w7 hg => (hg.block Q (by rw [World.size_alloc]; omega) (fun e => own_typ hrow hbk.blk (by decide) e.symm)).trans (Deep.blk_alloc_lt _ _ _ hQl)⟩
      have HEND : Slb (∀ (o : Obj) (w7 : World) (g7 cap7 : Nat), (wr.alloc o).grownBy w7 (Value.slice na VN.length nc).ownBlock → w7.ownsRow base 22 1 (.slice (some ⟨g7, 0, none⟩) (VN.length + 1) cap7) (VN.length + 1) (VN ++ [.slice vo q.length cap]) → ((Value.slice na VN.length nc).ownBlock = some g7 ∨ g7 = (wr.alloc o).heap.size) →
          BkG ht (w7.setCell ⟨Q, 0, none⟩ (.slice (some ⟨g7, 0, none⟩) (VN.length + 1) cap7)) base Q (.slice (some ⟨g7, 0, none⟩) (VN.length + 1) cap7) hi' (VN ++ [.slice vo q.length cap]) (VI ++ q.map (·.2)) ∧ Below base w (w7.setCell ⟨Q, 0, none⟩ (.slice (some ⟨g7, 0, none⟩) (VN.length + 1) cap7)) ∧ BkK w (w7.setCell ⟨Q, 0, none⟩ (.slice (some ⟨g7, 0, none⟩) (VN.length + 1) cap7)) ∧ BkO Q (.slice na VN.length nc) hi (.slice (some ⟨g7, 0, none⟩) (VN.length + 1) cap7) hi' w (w7.setCell ⟨Q, 0, none⟩ (.slice (some ⟨g7, 0, none⟩) (VN.length + 1) cap7))) := ⟨fun o w7 g7 cap7 hg ho hat => by
        have hz := hbk.putN hQ (o := o) (w7 := w7) (g := g7) (cap := cap7) (u := .slice vo q.length cap) hg ho hat
        exact ⟨hz.1, HM.out.bel.trans hz.2.1, HM.out.kp.trans hz.2.2.1, HM.out.ko.trans HM.out.bel.size hz.2.2.2⟩⟩
      have hbl : base ≤ wr.heap.size := by omega
      have HROW : Slb (wr.ownsRow base 22 1 (.slice na VN.length nc) VN.length VN) := ⟨hrow⟩
      clear hrow hbk
      go_wp2_with (at_builtin; refine wpList_append_lies _ rfl (.tmp 29) (.tmp 31) 44 rfl base 22 i0 (.slice none 0 0) 1 24 Tryd.underlying44 hi0 hz0 hz1 hz2 rfl (by decide) _ _ _ rfl (HROW.out.alloc _) ⟨wr.heap.size, 0, none⟩ 1 1 [.slice vo q.length cap] rfl rfl (cell_news_one _ _ _) (by simp [Value.oneCell']) (by omega) (by unfold maxLen; omega) (by omega) (by simp; omega) _ rfl ?_; intro g7 cap7 w7 hown7 hg7 hat7 hl7; have hnd7 := HP7.out _ w7 hg7; have m7 : w7.cell? ⟨Q, 0, none⟩ = some (.slice na VN.length nc) := (World.cell?_of_block (a := ⟨Q, 0, none⟩) hnd7).trans q1; have m7f : w7.frozen? ⟨Q, 0, none⟩ = false := (World.frozen?_of_block (a := ⟨Q, 0, none⟩) hnd7).trans q1f)
      have HF7 := HEND.out _ w7 g7 cap7 hg7 hown7 hat7
      go_end0
      exact ⟨rfl, _, _, HF7⟩
end Go.Proofs.YtfdghbbanokopaaDoor

set_option linter.unusedSimpArgs false
set_option linter.unusedVariables false
namespace Go.Proofs.YtfdghbbanokopaaDoor
open Go.RowKit Go.Lib

/-- No two rows of kids are one. -/
def KdAp (q : List (Nd × Value)) : Prop := q.Pairwise fun a b => ∀ g, a.2.ownBlock = some g → b.2.ownBlock ≠ some g
/-- An expression that is answered: all of its memory is young, no two rows of kids are one. -/
structure ExO (w : World) (v : Value) (l : List Nd) (w' : World) : Prop where
  ex : ∃ q : List (Nd × Value), q.map (·.1) = l ∧ OwnP w' w.heap.size v q ∧ KdAp q
  below : Below w.heap.size w w'
theorem ExO.own {w w' : World} {v : Value} {l : List Nd} (h : ExO w v l w') : OwnN w' w.heap.size v l := let ⟨q, h1, h2, _⟩ := h.ex; ⟨q, h1, h2⟩
end Go.Proofs.YtfdghbbanokopaaDoor
