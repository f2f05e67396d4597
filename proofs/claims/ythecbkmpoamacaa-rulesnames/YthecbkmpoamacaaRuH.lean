/-
  RulesNames, walked.
-/
import Derived.Test.YthecbkmpoamacaaRuG
import Derived.Test.YthecbkmpoamacaaRuAp
set_option linter.unusedSimpArgs false
set_option linter.unusedVariables false
namespace Go.Proofs.Ythecbkmpoamacaa
open Go.RowKit

theorem Try.infoStrR : (Try.prog.info? 9).map (fun i => (i.zero, i.size, i.bytes)) = some (some (.string ⟨#[]⟩), 1, 16) := by kernel_rfl

theorem add_plainR (b o j : Nat) : (⟨b, o, none⟩ : Addr).add j = ⟨b, o + j, none⟩ := by
  unfold Addr.add
  split
  · subst_vars; rfl
  · rfl
theorem lt_of_blkR {w : World} {g : Nat} {o : Obj} (h : w.heap[g]? = some o) : g < w.heap.size := by
  rcases Nat.lt_or_ge g w.heap.size with h1 | h1
  · exact h1
  · rw [Array.getElem?_eq_none h1] at h; cases h
theorem txs_of {w : World} {base n : Nat} {v : Value} {qs : List ByteArray} (h : w.ownsRow base 9 1 v n (qs.map .string)) : ∃ ao cap, v = .slice ao qs.length cap ∧ Txs w ao cap qs := by
  have hl := h.1
  rw [List.length_map, Nat.mul_one] at hl
  subst hl
  rcases h.2 with ⟨rfl, h0⟩ | ⟨g, cap, cur, rfl, hb, hg, hnc, hcm, hcs, ht⟩
  · have : qs = [] := List.length_eq_zero_iff.1 h0
    subst this
    exact ⟨none, 0, rfl, ⟨by simp, by simp⟩, .inl rfl⟩
  · refine ⟨_, cap, rfl, ⟨hnc, hcm⟩, .inr ⟨g, 0, rfl, lt_of_blkR hg, fun j hj => ?_⟩⟩
    have := World.ownsRow.cellAt (g := g) (cap := cap) h j (by omega)
    rw [Nat.zero_add, this, List.getElem?_map, List.getElem?_eq_getElem hj]
    simp [hj]

set_option maxRecDepth 20000 in
set_option maxHeartbeats 2000000 in
theorem rulesNames_walk (ao : Option Addr) (cap : Nat) (qs : List ByteArray) (w : World) (hI : Txs w ao cap qs) (hF : qs.length * 16 ≤ 140737488351232) (hn0 : ao = none → qs.length = 0 ∧ cap = 0) :
    Calls Try.prog 3 #[.slice ao qs.length cap] w fun e W' => e = .returned (.bool true) ∧ Below w.heap.size w W' := by
  obtain ⟨i0, hi, hz0, hz1, hz2⟩ := info_parts Try.infoStrR
  have cA := awake17_any w
  have HI : Hid (Txs w ao cap qs) := hI
  have HN : Hid (ao = none → qs.length = 0 ∧ cap = 0) := hn0
  clear hI
  go_enter Try.func3, Try.ntmps3
  have HL : Hid ((qs.map Value.string).length = qs.length * 1) := by show _ = _; simp
  have HF : Hid (qs.length * 16 ≤ 140737488351232) := hF
  have HS : Hid (∀ w' : World, Below w.heap.size w w' → ∀ ad, ao = some ad → ∀ j u, (qs.map Value.string)[j]? = some u → w'.cell? (ad.add j) = some u) := by
    intro w' hb ad had j u hu
    rcases (HI.out.below hb).2 with h | ⟨b, o, e, hl, hc⟩
    · subst h; simp at hu
    · rw [e] at had; cases had
      have hj : j < qs.length := by
        have := (List.getElem?_eq_some_iff.1 hu).1
        simpa using this
      rw [add_plainR, hc j hj, ← hu, List.getElem?_map, List.getElem?_eq_getElem hj]
      simp [hj]
  have HO : Hid (∀ (w' : World), (w'.alloc (.cells #[] 9)).ownsRow w'.heap.size 9 1 (.slice (some ⟨w'.heap.size, 0, none⟩) 0 0) 0 []) := fun w' => World.ownsRow_made w' #[] 0 (Nat.le_refl _) (Nat.zero_le _) rfl
  have H1 : Hid (∀ u ∈ qs.map Value.string, u.oneCell' = true) := by
    intro u hu
    obtain ⟨s, _, rfl⟩ := List.mem_map.1 hu
    rfl
  have hm2 : qs.length ≤ 140737488355328 := by have := HF.out; omega
  go_wp2_with (first | (at_builtin; go_loud (refine append_srcR _ rfl _ _ 22 rfl w2.heap.size 9 i0 (.string ⟨#[]⟩) 1 16 Try.underlying22 hi hz0 hz1 hz2 rfl (by decide) _ _ _ rfl (HO.out w2) ao qs.length cap (qs.map .string) rfl HN.out HL.out (HS.out _ HB2.out) H1.out (by have := HF.out; simp only [maxLen]; omega) (by have := HF.out; omega) (by simp) ?_; intro v' w3 hown hgrow; rw [Nat.zero_add, List.nil_append] at hown; obtain ⟨ao', cap', rfl, hT'⟩ := txs_of hown; have HB3 : Hid (Below w.heap.size w w3) := HB2.out.grown hgrow HB2.out.size (fun k hk => by have e : some w2.heap.size = some k := hk; cases e; exact HB2'.out.size); have cM := mask_any w3 ao' cap' qs hT'; clear hown hgrow hT')) | (go_at_call 4; refine cA.mono ?_; rintro e w2 ⟨rfl, hb2⟩; have HB2 : Hid (Below w.heap.size w (w2.alloc (.cells #[] 9))) := hb2.alloc hb2.size _; have HB2' : Hid (Below w.heap.size w w2) := hb2; clear hb2))
  have cR0 : ∀ w4 : World, Below w.heap.size w w4 → Calls Try.prog 6 #[.slice ao qs.length cap] w4 fun e w' => e = .returned (.tuple #[.int .u64 ((mkR 0 qs).1 : Nat), .int .i64 (mkR 0 qs).2]) ∧ Below w4.heap.size w4 w' := fun w4 hb => rmask_any w4 ao cap qs (HI.out.below hb)
  generalize mkR 0 qs = Z at *
  obtain ⟨zm, ze⟩ := Z
  have cR : Hid (∀ w4 : World, Below w.heap.size w w4 → Calls Try.prog 6 #[.slice ao qs.length cap] w4 fun e w' => e = .returned (.tuple #[.int .u64 (zm : Int), .int .i64 ze]) ∧ Below w4.heap.size w4 w') := cR0
  clear cR0
  go_wp2_with (first | (go_at_call 6; refine (cR.out w4 HB4.out).mono ?_; rintro e w5 ⟨rfl, hb5⟩; have HB5 : Hid (Below w.heap.size w w5) := HB4.out.trans (hb5.mono HB4.out.size); clear hb5) | (go_at_call 5; refine cM.mono ?_; rintro e w4 ⟨rfl, hb4⟩; have HB4 : Hid (Below w.heap.size w w4) := HB3.out.trans (hb4.mono HB3.out.size); clear hb4))
  obtain ⟨⟨hl, hm⟩, _⟩ := id HI.out
  unfold maxLen at hm
  go_loopw [7] (fun i wr => ∃ k : Nat, k ≤ qs.length ∧ i = .int .i64 k ∧ Below w.heap.size w wr) (fun i _ => qs.length - (RowKit.intOf i).toNat)
  case atStart => exact ⟨0, by omega, rfl, HB5.out⟩
  case round =>
    obtain ⟨k, hk, rfl, hbw⟩ := hrel
    have HB : Hid (Below w.heap.size w wr) := hbw
    by_cases hlt : k < qs.length
    · obtain ⟨b, o, rfl, hbl, hc⟩ : ∃ b o, ao = some ⟨b, o, none⟩ ∧ b < w.heap.size ∧ ∀ j, j < qs.length → w.cell? ⟨b, o + j, none⟩ = some (.string (qs.getD j ⟨#[]⟩)) := by
        rcases HI.out.2 with h | h
        · subst h; simp at hlt
        · exact h
      have h1 : Hid (∀ wq, Below w.heap.size w wq → wq.cell? ⟨b, o + k, none⟩ = some (.string (qs.getD k ⟨#[]⟩))) := fun wq hq => (hq.cell (p := ⟨b, o + k, none⟩) hbl).trans (hc k hlt)
      have hn1 := named_any wr (qs.getD k ⟨#[]⟩)
      have hn2 : Hid (∀ wq : World, Calls Try.prog 8 #[.string (qs.getD k ⟨#[]⟩)] wq fun e w' => e = .returned (.tuple #[.int .i64 (namR (qs.getD k ⟨#[]⟩)).1, .int .i64 (namR (qs.getD k ⟨#[]⟩)).2]) ∧ Below wq.heap.size wq w') := fun wq => rnamed_any wq _
      clear hbw hc
      generalize qs.getD k ⟨#[]⟩ = s at *
      generalize namR s = Y at *
      obtain ⟨y1, y2⟩ := Y
      have h2 := h1.out wr HB.out
      go_wp2_with (first | (go_at_call 8; refine (hn2.out w8).mono ?_; rintro e w9 ⟨rfl, hb9⟩; have HB9 : Hid (Below w.heap.size w w9) := HB8.out.trans (hb9.mono HB8.out.size); clear hb9) | (go_at_call 7; refine hn1.mono ?_; rintro e w8 ⟨rfl, hb8⟩; have HB8 : Hid (Below w.heap.size w w8) := HB.out.trans (hb8.mono HB.out.size); have h3 := h1.out w8 HB8.out; clear hb8))
      exact ⟨⟨k + 1, by omega, by go_num, HB9.out⟩, by simp [RowKit.intOf]; omega⟩
    · have hke : k = qs.length := by omega
      subst hke
      clear hbw
      go_wp2_with fail
      go_ret
      exact ⟨rfl, HB.out⟩
end Go.Proofs.Ythecbkmpoamacaa
