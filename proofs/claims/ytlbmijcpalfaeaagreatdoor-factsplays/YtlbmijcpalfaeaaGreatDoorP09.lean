/-
  GpW2, GpW3, GpW4, OrdPure, OrderW.
-/
import Derived.Test.YtlbmijcpalfaeaaGreatDoorP08
import Derived.Lib.MapLaws
import Derived.Sort.Walk0
set_option linter.unusedSimpArgs false
set_option linter.unusedVariables false
namespace Go.Proofs.YtlbmijcpalfaeaaGreatDoor
open Go.RowKit Go.Lib

theorem szF_small {cs : List Cls} (h : ∀ c ∈ cs, 1 ≤ c.size ∧ c.size < 1073741824) : ∀ (ks : List Int) (s : Int), 0 ≤ s → s + ks.length * 1073741824 ≤ 9223372036854775807 → szF cs s ks = s + szKg cs ks := by
  have hc : ∀ k : Nat, 0 ≤ (cs.getD k cls0).size ∧ (cs.getD k cls0).size ≤ 1073741824 := fun k => by
    by_cases hk : k < cs.length
    · have := h cs[k] (List.getElem_mem hk)
      simp only [List.getD_eq_getElem?_getD, List.getElem?_eq_getElem hk, Option.getD_some]
      omega
    · simp [List.getD_eq_getElem?_getD, List.getElem?_eq_none (Nat.le_of_not_lt hk), cls0]
  intro ks
  induction ks with
  | nil => intro s _ _; simp [szF, szKg]
  | cons k ks ih =>
    intro s h0 h1
    have := hc k.toNat
    simp only [List.length_cons] at h1
    have e : wrap64 (s + (cs.getD k.toNat cls0).size) = s + (cs.getD k.toNat cls0).size := by unfold wrap64; omega
    simp only [szF, szKg]
    rw [e, ih _ (by omega) (by omega)]
    omega

set_option maxRecDepth 20000 in
set_option maxHeartbeats 4000000 in
theorem gsizeOf_any (x : Nd) (ka : Option Addr) (kc : Nat) (ca : Option Addr) (cc : Nat) (cs : List Cls) (w : World) (hk : Ints w w.heap.size (.slice ka x.kids.length kc) x.kids) (hc : Clss w w.heap.size (.slice ca cs.length cc) cs) (hr : inR cs.length x.kids = true) :
    Calls Tryz.prog 90 #[.agg #[.int .i64 x.op, .int .i64 x.n, .string x.name, .slice ka x.kids.length kc], .slice ca cs.length cc] w fun e w' => e = .returned (.int .i64 (szF cs 1 x.kids)) ∧ Below w.heap.size w w' := by
  obtain ⟨op, n, nm, ks⟩ := x
  simp only at hk hr ⊢
  obtain ⟨W1, hW1⟩ : ∃ W1, w.alloc (.cells #[.int .i64 op, .int .i64 n, .string nm, .slice ka ks.length kc] 41) = W1 := ⟨_, rfl⟩
  have hb1 : Below w.heap.size w W1 := by rw [← hW1]; exact (Below.refl _ _).alloc (Nat.le_refl _) _
  have hk1 : W1.heap[w.heap.size]? = some (.cells #[.int .i64 op, .int .i64 n, .string nm, .slice ka ks.length kc] 41 (0, 0)) := by rw [← hW1, Deep.blk_alloc_new]
  have c3 : W1.cell? ⟨w.heap.size, 3, none⟩ = some (.slice ka ks.length kc) := by simp [World.cell?, hk1]
  have HW1 := Sld.mk hW1
  have HB1 := Sld.mk hb1
  have HK := Sld.mk (hk.below hb1 hb1.size)
  have HC := Sld.mk (hc.below hb1 hb1.size)
  have HR := Sld.mk hr
  obtain ⟨_, _, e1, hl1, ⟨hl2, _⟩, _⟩ := hk
  injection e1 with e1 e2 e3
  rw [← e3] at hl1 hl2
  obtain ⟨_, _, d1, hm1, hm2, _⟩ := hc
  injection d1 with d1 d2 d3
  rw [← d3] at hm1 hm2
  unfold maxLen at hl2 hm2
  clear hW1 hb1 hk1 e1 e2 e3 d1 d2 d3 hr
  go_enter Tryz.func90, Tryz.ntmps90
  go_wp2_with fail
  rw [HW1.out]
  go_loopw [5, 11] (fun z i wr => ∃ j : Nat, j ≤ ks.length ∧ i = .int .i64 j ∧ wr = W1 ∧ z = .int .i64 (szF cs 1 (ks.take j))) (fun _ i _ => ks.length - (RowKit.intOf i).toNat)
  case atStart => exact ⟨0, Nat.zero_le _, rfl, rfl, by simp [szF]⟩
  case round =>
    obtain ⟨j, hj, rfl, hwr, rfl⟩ := hrel
    subst hwr
    by_cases hlt : j < ks.length
    · obtain ⟨b, o, hka, ck⟩ : ∃ b o, ka = some ⟨b, o, none⟩ ∧ wr.cell? ⟨b, o + j, none⟩ = some (.int .i64 (ks.getD j 0)) := by
        obtain ⟨ao, cap, h1, _, _, h2⟩ := HK.out
        injection h1 with h1 _ _
        rcases h2 with h2 | ⟨b, o, h2, _, h3⟩
        · subst h2; simp at hlt
        · exact ⟨b, o, h1.trans h2, h3 j hlt⟩
      subst hka
      have hin : inC cs.length (ks.getD j 0) = true := by
        have := List.all_eq_true.1 HR.out (ks.getD j 0) (by simp [List.getD_eq_getElem?_getD, List.getElem?_eq_getElem hlt])
        exact this
      have hst := szF_take (cs := cs) 1 hlt
      generalize szF cs 1 (ks.take j) = S0 at *
      obtain ⟨S1, hS1e⟩ : ∃ S1, szF cs 1 (ks.take (j + 1)) = S1 := ⟨_, rfl⟩
      rw [hS1e] at hst
      have HS1 := Sld.mk hS1e
      clear hS1e
      generalize ks.getD j 0 = y at *
      obtain ⟨m, rfl⟩ : ∃ m : Nat, y = (m : Int) := ⟨y.toNat, by simp [inC] at hin; omega⟩
      have hmc : m < cs.length := by simp [inC] at hin; omega
      obtain ⟨b2, o2, hca, cz⟩ : ∃ b o, ca = some ⟨b, o, none⟩ ∧ wr.cell? ⟨b, o + m * 2 + 1, none⟩ = some (.int .i64 (cs.getD m cls0).size) := by
        obtain ⟨ao, cap, h1, _, _, h2⟩ := HC.out
        injection h1 with h1 _ _
        rcases h2 with h2 | ⟨b, o, h2, _, h3⟩
        · subst h2; simp at hmc
        · obtain ⟨na, nc, _, h4, _⟩ := h3 m hmc
          exact ⟨b, o, h1.trans h2, h4⟩
      subst hca
      rw [Int.toNat_natCast] at hst
      generalize (cs.getD m cls0).size = z at *
      have hmI : (m : Int) < (cs.length : Int) := by omega
      have hltI : (j : Int) < (ks.length : Int) := by omega
      have hw := hst.symm
      clear hin hst
      go_wp2_with fail
      exact ⟨⟨j + 1, by omega, by go_num, trivial, by rw [HS1.out]; first | rfl | rw [hw]⟩, by simp [RowKit.intOf]; omega⟩
    · have hje : j = ks.length := by omega
      subst hje
      have HE : Sld (szF cs 1 (ks.take ks.length) = szF cs 1 ks) := ⟨by rw [List.take_length]⟩
      go_wp2_with fail
      go_ret
      exact ⟨by rw [← HE.out]; rfl, HB1.out⟩
end Go.Proofs.YtlbmijcpalfaeaaGreatDoor

set_option linter.unusedSimpArgs false
set_option linter.unusedVariables false
namespace Go.Proofs.YtlbmijcpalfaeaaGreatDoor
open Go.RowKit Go.Lib

/-- One class keeps to the limits, many nodes having come ahead. -/
def bdC (n many : Nat) (c : Cls) : Bool := decide (many + c.nodes.length ≤ 8192) && decide (1 ≤ c.size) && decide (c.size < 1073741824) && c.nodes.all (fun x => inR n x.kids)
def bdL (n : Nat) : Nat → List Cls → Bool
  | _, [] => true
  | many, c :: cs => bdC n many c && bdL n (many + c.nodes.length) cs
def mnyL (cs : List Cls) : Nat := (cs.map (·.nodes.length)).sum
/-- The program's bounded. -/
def bdP (cs : List Cls) (roots : List Int) : Bool := decide (cs.length ≤ 4096) && inR cs.length roots && bdL cs.length 0 cs
theorem bdL_split (n : Nat) : ∀ (j many : Nat) (cs : List Cls), j < cs.length → bdL n many cs = (bdL n many (cs.take j) && (bdC n (many + mnyL (cs.take j)) (cs.getD j cls0) && bdL n (many + mnyL (cs.take (j + 1))) (cs.drop (j + 1)))) := by
  intro j
  induction j with
  | zero =>
    intro many cs hj
    cases cs with
    | nil => simp at hj
    | cons c cs => simp [bdL, mnyL]
  | succ j ih =>
    intro many cs hj
    cases cs with
    | nil => simp at hj
    | cons c cs =>
      simp only [List.length_cons] at hj
      have := ih (many + c.nodes.length) cs (by omega)
      simp only [bdL, List.take_succ_cons, List.drop_succ_cons, List.getD_cons_succ, this, mnyL, List.map_cons, List.sum_cons, Bool.and_assoc, Nat.add_assoc]
theorem bdL_take (n many j : Nat) (cs : List Cls) (hj : j < cs.length) : bdL n many (cs.take (j + 1)) = (bdL n many (cs.take j) && bdC n (many + mnyL (cs.take j)) (cs.getD j cls0)) := by
  have h := bdL_split n j many (cs.take (j + 1)) (by simp; omega)
  have e1 : (cs.take (j + 1)).take j = cs.take j := by rw [List.take_take]; congr 1; omega
  have e2 : (cs.take (j + 1)).drop (j + 1) = [] := by simp
  have e3 : (cs.take (j + 1)).getD j cls0 = cs.getD j cls0 := by simp [List.getD_eq_getElem?_getD, List.getElem?_take]
  rw [e1, e2, e3] at h
  rw [h]
  simp [bdL]
theorem mnyL_take (j : Nat) (cs : List Cls) (hj : j < cs.length) : mnyL (cs.take (j + 1)) = mnyL (cs.take j) + (cs.getD j cls0).nodes.length := by
  unfold mnyL
  rw [List.take_add_one, List.map_append, List.sum_append]
  simp [List.getD_eq_getElem?_getD, List.getElem?_eq_getElem hj]
end Go.Proofs.YtlbmijcpalfaeaaGreatDoor

set_option linter.unusedSimpArgs false
set_option linter.unusedVariables false
namespace Go.Proofs.YtlbmijcpalfaeaaGreatDoor
open Go.RowKit Go.Lib

theorem all_takeT {α : Type} {p : α → Bool} {l : List α} {j : Nat} (hj : j < l.length) (h : (l.take j).all p = true) (hc : p l[j] = true) : (l.take (j + 1)).all p = true := by
  rw [List.take_add_one, List.all_append, h, List.getElem?_eq_getElem hj]
  simpa using hc
theorem all_notT {α : Type} {p : α → Bool} {l : List α} {j : Nat} (hj : j < l.length) (hc : p l[j] = false) : l.all p = false := by
  rw [List.all_eq_false]
  exact ⟨l[j], List.getElem_mem hj, by simp [hc]⟩
theorem getD_atT {α : Type} {l : List α} {d : α} {j : Nat} (hj : j < l.length) : l.getD j d = l[j] := by simp [List.getD_eq_getElem?_getD, List.getElem?_eq_getElem hj]

set_option maxRecDepth 20000 in
set_option maxHeartbeats 4000000 in
theorem bounded_any (cs : List Cls) (roots : List Int) (ca ra : Option Addr) (cc rc : Nat) (w : World) (hc : Clss w w.heap.size (.slice ca cs.length cc) cs) (hr : Ints w w.heap.size (.slice ra roots.length rc) roots) (hw : ∀ c ∈ cs, c.nodes.length * 56 ≤ 140737488351232) :
    Calls Tryz.prog 61 #[.agg #[.slice ca cs.length cc, .slice ra roots.length rc]] w fun e w' => e = .returned (.bool (bdP cs roots)) ∧ Below w.heap.size w w' := by
  obtain ⟨W1, hW1⟩ : ∃ W1, w.alloc (.cells #[.slice ca cs.length cc, .slice ra roots.length rc] 26) = W1 := ⟨_, rfl⟩
  have hb1 : Below w.heap.size w W1 := by rw [← hW1]; exact (Below.refl _ _).alloc (Nat.le_refl _) _
  have hk1 : W1.heap[w.heap.size]? = some (.cells #[.slice ca cs.length cc, .slice ra roots.length rc] 26 (0, 0)) := by rw [← hW1, Deep.blk_alloc_new]
  have HP : Sld (∀ W, Below W1.heap.size W1 W → W.cell? ⟨w.heap.size, 0, none⟩ = some (.slice ca cs.length cc) ∧ W.cell? ⟨w.heap.size, 1, none⟩ = some (.slice ra roots.length rc) ∧ w.heap.size < W.heap.size) := ⟨fun W hW => by
    have := (hW.block _ (lt_of_block hk1)).trans hk1
    exact ⟨by simp [World.cell?, this], by simp [World.cell?, this], lt_of_block this⟩⟩
  obtain ⟨p0, p1, p2⟩ := HP.out W1 (Below.refl _ _)
  have HW1 := Sld.mk hW1
  have HB1 := Sld.mk hb1
  have HC := Sld.mk (hc.below hb1 hb1.size)
  have HWT := Sld.mk hw
  obtain ⟨_, _, d1, hm1, hm2, _⟩ := hc
  injection d1 with d1 d2 d3
  rw [← d3] at hm1 hm2
  have CR := Sld.mk (inRange_any roots ra rc cs.length ca cc (.slice ra roots.length rc) W1 (hr.below hb1 hb1.size) (by omega))
  unfold maxLen at hm2
  clear hW1 hb1 hk1 d1 d2 d3 hr hw
  go_enter Tryz.func61, Tryz.ntmps61
  by_cases h4 : 4096 < (cs.length : Int)
  · have e0 : bdP cs roots = false := by
      have : ¬ cs.length ≤ 4096 := by omega
      simp [bdP, this]
    have HE := Sld.mk e0
    clear e0
    go_wp2_with fail
    go_ret
    exact ⟨by rw [HE.out]; rfl, by rw [HW1.out]; exact HB1.out⟩
  go_wp2_with fail
  rw [HW1.out]
  refine CR.out.mono ?_
  rintro e w2 ⟨rfl, hb2⟩
  have HB2 := Sld.mk hb2
  obtain ⟨q0, q1, q2⟩ := HP.out w2 hb2
  cases hR : inR cs.length roots with
  | false =>
    have HE : Sld (bdP cs roots = false) := ⟨by simp [bdP, hR]⟩
    clear hb2
    go_wp2_with fail
    go_ret
    exact ⟨by rw [HE.out]; rfl, HB1.out.trans (HB2.out.mono HB1.out.size)⟩
  | true =>
    have HBP : Sld (bdP cs roots = bdL cs.length 0 cs) := ⟨by
      have : cs.length ≤ 4096 := by omega
      simp [bdP, hR, this]⟩
    clear hb2 hR CR
    go_wp2_with fail
    go_loopw [3, 22] (fun m i wr => ∃ j : Nat, j ≤ cs.length ∧ i = .int .i64 j ∧ m = .int .i64 (mnyL (cs.take j)) ∧ mnyL (cs.take j) ≤ 8192 ∧ Sld (bdL cs.length 0 (cs.take j) = true) ∧ Sld (Below W1.heap.size W1 wr)) (fun _ i _ => cs.length - (RowKit.intOf i).toNat)
    case atStart => exact ⟨0, Nat.zero_le _, rfl, by simp [mnyL], by simp [mnyL], ⟨by simp [bdL]⟩, HB2⟩
    case round =>
      obtain ⟨j, hj, rfl, rfl, hmj, HT, HBr⟩ := hrel
      clear q0 q1 q2 HB2
      obtain ⟨q0, q1, q2⟩ := HP.out wr HBr.out
      by_cases hlt : j < cs.length
      · obtain ⟨b, o, na, nc, hca, hbl, c0, c1, hN⟩ : ∃ b o na nc, ca = some ⟨b, o, none⟩ ∧ b < wr.heap.size ∧ wr.cell? ⟨b, o + j * 2, none⟩ = some (.slice na (cs.getD j cls0).nodes.length nc) ∧ wr.cell? ⟨b, o + j * 2 + 1, none⟩ = some (.int .i64 (cs.getD j cls0).size) ∧ Nodes wr wr.heap.size (.slice na (cs.getD j cls0).nodes.length nc) (cs.getD j cls0).nodes := by
          obtain ⟨ao, cap, h1, _, _, h2⟩ := HC.out.below HBr.out HBr.out.size
          injection h1 with h1 _ _
          rcases h2 with h2 | ⟨b, o, h2, hbl, h3⟩
          · subst h2; simp at hlt
          · obtain ⟨na, nc, h4, h5, h6⟩ := h3 j hlt
            exact ⟨b, o, na, nc, h1.trans h2, hbl, h4, h5, h6⟩
        subst hca
        have hsp := bdL_split cs.length j 0 cs hlt
        have htk := bdL_take cs.length 0 j cs hlt
        have hmt := mnyL_take j cs hlt
        rw [HT.out, Bool.true_and] at hsp htk
        rw [← HBP.out, Nat.zero_add] at hsp
        rw [Nat.zero_add] at htk
        have HMT := Sld.mk hmt
        have HFN : Sld (bdC cs.length (mnyL (cs.take j)) (cs.getD j cls0) = false → bdP cs roots = false) := ⟨fun h => by rw [hsp, h]; rfl⟩
        have HTK := Sld.mk htk
        have hnl : (cs.getD j cls0).nodes.length * 56 ≤ 140737488351232 := HWT.out _ (by rw [getD_atT hlt]; exact List.getElem_mem hlt)
        clear hsp htk hmt
        obtain ⟨mj, hmje⟩ : ∃ mj, mnyL (cs.take j) = mj := ⟨_, rfl⟩
        rw [hmje] at hmj HFN HTK HMT ⊢
        obtain ⟨c, hce⟩ : ∃ c, cs.getD j cls0 = c := ⟨_, rfl⟩
        rw [hce] at c0 c1 hN HFN HTK HMT hnl
        clear hce hmje
        obtain ⟨nodes, size⟩ := c
        simp only at c0 c1 hN HMT hnl
        have hN' := hN
        obtain ⟨_, _, d1, hn1, hn2, _⟩ := hN'
        injection d1 with d1 d2 d3
        rw [← d3] at hn1 hn2
        unfold maxLen at hn2
        clear d1 d2 d3
        have hltI : (j : Int) < (cs.length : Int) := by omega
        obtain ⟨W3, hW3⟩ : ∃ W3, wr.alloc (.cells #[.slice na nodes.length nc, .int .i64 size] 49) = W3 := ⟨_, rfl⟩
        have hb3 : Below wr.heap.size wr W3 := by rw [← hW3]; exact (Below.refl _ _).alloc (Nat.le_refl _) _
        have HB3 : Sld (Below W1.heap.size W1 W3) := ⟨HBr.out.trans (hb3.mono HBr.out.size)⟩
        have HN3 := Sld.mk (hN.below hb3 hb3.size)
        have HW3 := Sld.mk hW3
        have hmI : ((mj : Int) + (nodes.length : Int)) ≤ 9223372036854775807 := by omega
        clear hN hb3 hW3
        by_cases hA : 8192 < (mj : Int) + (nodes.length : Int)
        · have HE : Sld (bdP cs roots = false) := ⟨HFN.out (by
            have : ¬ mj + nodes.length ≤ 8192 := by omega
            simp [bdC, this])⟩
          go_wp2_with fail
          go_ret
          exact ⟨by rw [HE.out]; rfl, by rw [HW3.out]; exact HB1.out.trans (HB3.out.mono HB1.out.size)⟩
        by_cases hB : size < 1
        · have HE : Sld (bdP cs roots = false) := ⟨HFN.out (by
            have : ¬ 1 ≤ size := by omega
            simp [bdC, this])⟩
          go_wp2_with fail
          go_ret
          exact ⟨by rw [HE.out]; rfl, by rw [HW3.out]; exact HB1.out.trans (HB3.out.mono HB1.out.size)⟩
        by_cases hC : 1073741824 ≤ size
        · have HE : Sld (bdP cs roots = false) := ⟨HFN.out (by
            have : ¬ size < 1073741824 := by omega
            simp [bdC, this])⟩
          go_wp2_with fail
          go_ret
          exact ⟨by rw [HE.out]; rfl, by rw [HW3.out]; exact HB1.out.trans (HB3.out.mono HB1.out.size)⟩
        have HBC : Sld (bdC cs.length mj ⟨nodes, size⟩ = nodes.all (fun x => inR cs.length x.kids)) := ⟨by
          have e1 : mj + nodes.length ≤ 8192 := by omega
          have e2 : 1 ≤ size := by omega
          have e3 : size < 1073741824 := by omega
          simp [bdC, e1, e2, e3]⟩
        go_wp2_with fail
        rw [HW3.out]
        go_loopw [46] (fun i wt => ∃ q : Nat, q ≤ nodes.length ∧ i = .int .i64 q ∧ Sld ((nodes.take q).all (fun x => inR cs.length x.kids) = true) ∧ Sld (Below W3.heap.size W3 wt)) (fun i _ => nodes.length - (RowKit.intOf i).toNat)
        case atStart => exact ⟨0, Nat.zero_le _, rfl, ⟨by simp⟩, ⟨Below.refl _ _⟩⟩
        case round =>
          obtain ⟨q, hq, rfl, HA, HBt⟩ := hrel
          have HB4 : Sld (Below W1.heap.size W1 wr) := ⟨HB3.out.trans (HBt.out.mono HB3.out.size)⟩
          clear q0 q1 q2 c0 c1
          obtain ⟨q0, q1, q2⟩ := HP.out wr HB4.out
          by_cases hql : q < nodes.length
          · obtain ⟨g, go, kv, hna, hgl, hAt⟩ : ∃ g go kv, na = some ⟨g, go, none⟩ ∧ g < wr.heap.size ∧ NodeAt wr wr.heap.size g (go + q * 4) (nodes.getD q nd0) kv := by
              obtain ⟨ao, cap, h1, _, _, h2⟩ := HN3.out.below HBt.out HBt.out.size
              injection h1 with h1 _ _
              rcases h2 with h2 | ⟨b, o, h2, hbl, h3⟩
              · subst h2; simp at hql
              · obtain ⟨kv, h4⟩ := h3 q hql
                exact ⟨b, o, kv, h1.trans h2, hbl, h4⟩
            subst hna
            have HST : Sld (inR cs.length (nodes.getD q nd0).kids = true → (nodes.take (q + 1)).all (fun x => inR cs.length x.kids) = true) := ⟨fun h => all_takeT hql HA.out (by rw [getD_atT hql] at h; exact h)⟩
            have HNO : Sld (inR cs.length (nodes.getD q nd0).kids = false → bdP cs roots = false) := ⟨fun h => HFN.out (by rw [HBC.out]; exact all_notT hql (by rw [getD_atT hql] at h; exact h))⟩
            generalize nodes.getD q nd0 = x at *
            obtain ⟨op, n, nm, ks⟩ := x
            obtain ⟨k0, k1, k2, k3, hK⟩ := hAt
            simp only at k0 k1 k2 k3 hK HST HNO
            obtain ⟨ka, kc, hkv, _⟩ := id hK
            subst hkv
            obtain ⟨W5, hW5⟩ : ∃ W5, wr.alloc (.cells #[.int .i64 op, .int .i64 n, .string nm, .slice ka ks.length kc] 41) = W5 := ⟨_, rfl⟩
            have hb5 : Below wr.heap.size wr W5 := by rw [← hW5]; exact (Below.refl _ _).alloc (Nat.le_refl _) _
            have HB5 := Sld.mk hb5
            have HW5 := Sld.mk hW5
            have CI := Sld.mk (inRange_any ks ka kc cs.length (some ⟨b, o, none⟩) cc (.slice ra roots.length rc) W5 (hK.below hb5 hb5.size) (by unfold maxLen; omega))
            have hqI : (q : Int) < (nodes.length : Int) := by omega
            clear hb5 hW5 hK
            go_wp2_with fail
            rw [HW5.out]
            refine CI.out.mono ?_
            rintro e w6 ⟨rfl, hb6⟩
            have HB6 : Sld (Below wr.heap.size wr w6) := ⟨HB5.out.trans (hb6.mono HB5.out.size)⟩
            clear hb6 CI
            cases hI : inR cs.length ks with
            | false =>
              have HE : Sld (bdP cs roots = false) := ⟨HNO.out hI⟩
              have HEB : Sld (Below w.heap.size w w6) := ⟨HB1.out.trans ((HB4.out.trans (HB6.out.mono HB4.out.size)).mono HB1.out.size)⟩
              clear hI
              go_wp2_with fail
              go_ret
              exact ⟨by rw [HE.out]; rfl, HEB.out⟩
            | true =>
              have HE : Sld ((nodes.take (q + 1)).all (fun x => inR cs.length x.kids) = true) := ⟨HST.out hI⟩
              have HEB : Sld (Below W3.heap.size W3 w6) := ⟨HBt.out.trans (HB6.out.mono HBt.out.size)⟩
              clear hI
              go_wp2_with fail
              exact ⟨⟨q + 1, by omega, by go_num, HE, HEB⟩, by simp [RowKit.intOf]; omega⟩
          · have hqe : q = nodes.length := by omega
            subst hqe
            have HE : Sld (bdL cs.length 0 (cs.take (j + 1)) = true) := ⟨by rw [HTK.out, HBC.out]; have := HA.out; rwa [List.take_length] at this⟩
            have hmn : mj + nodes.length ≤ 8192 := by omega
            go_wp2_with fail
            exact ⟨⟨j + 1, by omega, by go_num, by rw [HMT.out]; go_num, by rw [HMT.out]; exact hmn, HE, HB4⟩, by simp [RowKit.intOf]; omega⟩
      · have hje : j = cs.length := by omega
        subst hje
        have HE : Sld (bdP cs roots = true) := ⟨by rw [HBP.out]; have := HT.out; rwa [List.take_length] at this⟩
        go_wp2_with fail
        go_ret
        exact ⟨by rw [HE.out]; rfl, HB1.out.trans (HBr.out.mono HB1.out.size)⟩
end Go.Proofs.YtlbmijcpalfaeaaGreatDoor

set_option linter.unusedSimpArgs false
set_option linter.unusedVariables false
namespace Go.Proofs.YtlbmijcpalfaeaaGreatDoor
open Go.Lib

/-! ### an order -/
theorem cmp3_self (a : Int) : cmp3 a a = 0 := by simp [cmp3]
theorem cmp3_neg (a b : Int) : cmp3 a b = -cmp3 b a := by unfold cmp3; repeat' split <;> omega
theorem cmp3_zero (a b : Int) : cmp3 a b = 0 ↔ a = b := by unfold cmp3; constructor <;> intro h <;> (repeat' split at *) <;> omega
theorem cmpL_self : ∀ l : List Int, cmpL l l = 0
  | [] => rfl
  | a :: l => by rw [cmpL, if_pos (cmp3_self a), cmpL_self l]
theorem cmpL_neg : ∀ l m : List Int, cmpL l m = -cmpL m l
  | [], [] => rfl
  | [], _ :: _ => rfl
  | _ :: _, [] => rfl
  | a :: l, b :: m => by
    rw [cmpL, cmpL, cmp3_neg a b]
    by_cases h : cmp3 b a = 0
    · rw [if_pos (by omega), if_pos h, cmpL_neg l m]
    · rw [if_neg (by omega), if_neg h]
theorem cmpL_trans : ∀ l m k : List Int, cmpL l m ≤ 0 → cmpL m k ≤ 0 → cmpL l k ≤ 0
  | [], [], [], _, _ => by simp [cmpL]
  | [], _, _ :: _, _, _ => by simp [cmpL]
  | [], _ :: _, [], _, h => by simp [cmpL]
  | _ :: _, [], _, h, _ => by simp [cmpL] at h
  | _ :: _, _ :: _, [], _, h => by simp [cmpL] at h
  | a :: l, b :: m, c :: k, h1, h2 => by
    rw [cmpL] at h1 h2 ⊢
    unfold cmp3 at *
    by_cases e1 : a < b
    · by_cases e2 : b < c
      · have : a < c := by omega
        simp [this]
      · by_cases e3 : c < b
        · simp [e2, e3] at h2
        · have : a < c := by omega
          simp [this]
    · by_cases e1' : b < a
      · simp [e1, e1'] at h1
      · have eab : a = b := by omega
        subst eab
        by_cases e2 : a < c
        · simp [e2]
        · by_cases e3 : c < a
          · simp [e2, e3] at h2
          · simp [e2, e3] at h1 h2 ⊢
            exact cmpL_trans l m k h1 h2
theorem cmpL_zero : ∀ l m : List Int, cmpL l m = 0 → l = m
  | [], [], _ => rfl
  | [], _ :: _, h => by simp [cmpL] at h
  | _ :: _, [], h => by simp [cmpL] at h
  | a :: l, b :: m, h => by
    rw [cmpL] at h
    split at h
    · rename_i e; rw [(cmp3_zero a b).1 e, cmpL_zero l m h]
    · rename_i e; exact absurd h e

/-! ### texts that are joined -/
theorem bad_false_iff (s : ByteArray) (pos : Nat) : bad s pos = false ↔ ¬ Utf8.decode s pos = (65533, 1) := by
  constructor
  · intro h e; simp [bad, e] at h
  · intro h
    cases hb : bad s pos
    · rfl
    · exact absurd (bad_eq hb) h
/-- Every place that is come to is good. -/
def Good (a : ByteArray) (pos : Nat) : Prop := ∃ f, a.size ≤ pos + f ∧ (chkF a f pos).2 = 0
theorem good_start (a : ByteArray) (h : (chk a).2 = 0) : Good a 0 := ⟨a.size, by omega, h⟩
theorem good_step (a : ByteArray) (pos : Nat) (hp : pos < a.size) (h : Good a pos) : bad a pos = false ∧ Good a (pos + (Utf8.decode a pos).2) := by
  obtain ⟨f, hf, hc⟩ := h
  obtain ⟨f, rfl⟩ : ∃ g, f = g + 1 := ⟨f - 1, by omega⟩
  have hv := width_pos a pos hp
  cases hb : bad a pos
  · rw [chkF_good a f pos hp hb] at hc
    exact ⟨rfl, f, by omega, hc⟩
  · rw [chkF_bad a f pos hp hb] at hc
    simp at hc
theorem ord_self (a : ByteArray) : ordI a a = 0 := cmpL_self _
theorem ord_neg (a b : ByteArray) : ordI a b = -ordI b a := cmpL_neg _ _
theorem ord_trans (a b c : ByteArray) (h : ordI a b ≤ 0) (h' : ordI b c ≤ 0) : ordI a c ≤ 0 := cmpL_trans _ _ _ h h'
end Go.Proofs.YtlbmijcpalfaeaaGreatDoor

set_option linter.unusedSimpArgs false
namespace Go.Proofs.YtlbmijcpalfaeaaGreatDoor
open Go.RowKit Go.Lib

theorem compare_any (a b : Int) (w : World) :
    Calls Tryz.prog 110 #[.int .i32 a, .int .i32 b] w fun e w' => e = .returned (.int .i64 (cmp3 a b)) ∧ w' = w := by
  go_enter Tryz.func110, Tryz.ntmps110
  go_wp2
  all_goals go_ret
  all_goals exact ⟨ret_int (by unfold cmp3; simp_all; try omega), rfl⟩

set_option maxHeartbeats 1000000 in
theorem order_any (s t : ByteArray) (w : World) (hT : Tabs w) :
    Calls Tryz.prog 99 #[.string s, .string t] w fun e w' => e = .returned (.int .i64 (ordI s t)) ∧ Below w.heap.size w w' := by

  go_enter Tryz.func99, Tryz.ntmps99
  go_wp2
  go_loopw [1] (fun c w' => ∃ (pos f : Nat) (t' : ByteArray), It w s pos w' ∧ c = .string t' ∧ t'.size ≤ t.size ∧ Hid (cmpL (runesFrom s f pos) (rl t') = ordI s t) ∧ s.size ≤ pos + f) (fun _ w' => s.size - w'.iterPos w.heap.size)
  case atStart => exact ⟨0, s.size, t, It.start w s, rfl, Nat.le_refl _, rfl, by omega⟩
  case round =>
    obtain ⟨pos, f, t', hI, rfl, hle, HN, hf⟩ := hrel
    have hm := hI.pos
    by_cases hp : pos < s.size
    · have hnx : ∀ ty, (Instr.next (.pointer (some ⟨w.heap.size, 0, none⟩)) true ty).run Tryz.prog wr = _ := fun ty => run_next_any_at wr w.heap.size s pos ty hI.at_ hp
      obtain ⟨f, rfl⟩ : ∃ g, f = g + 1 := ⟨f - 1, by omega⟩
      have hw := width_pos s pos hp
      have HX := runesFrom_cons s f pos hp
      generalize (Utf8.decode s pos).2 = v at *
      generalize ((Utf8.decode s pos).1 : Int) = r at *
      have hI1 := hI.next (pos + v)
      have hT1 := (hI1.tabs hT)
      have HY : Hid (runesFrom s (f + 1) pos = r :: runesFrom s f (pos + v)) := HX
      clear HX
      by_cases h0 : t'.size = 0
      · have he := empty_yes t' h0
        go_wp2
        go_ret
        exact ⟨ret_int (by rw [← HN.out, HY.out, rl_nil t' h0]; rfl), hI1.below⟩
      · have he := empty_no t' h0
        have hd := width_pos t' 0 (by omega)
        have hd2 := dec_le t' 0 (by omega)
        have HC := rl_cons t' h0
        rw [← decGo t' h0] at hd hd2
        have cF : Hid (∀ W, Tabs W → Calls Tryz.prog 111 #[.string t'] W fun e w' => e = .returned (.int .i32 (decodeGo t').1) ∧ Below W.heap.size W w') := first_any t'
        have cW : Hid (∀ W, Tabs W → Calls Tryz.prog 112 #[.string t'] W fun e w' => e = .returned (.int .i64 (decodeGo t').2) ∧ Below W.heap.size W w') := width_any t'
        have HD : Hid (rl t' = ((decodeGo t').1 : Int) :: rl (t'.extract (decodeGo t').2 t'.size)) := HC
        clear HC
        generalize (decodeGo t').2 = k at *
        generalize ((decodeGo t').1 : Int) = q at *
        cases hc : (cmp3 r q == 0)
        · have hc' : (cmp3 r q != 0) = true := by simpa using hc
          have hc2 : ¬ cmp3 r q = 0 := by simpa using hc
          have HC2 : Hid (¬ cmp3 r q = 0) := hc2
          clear hc2
          go_wp2_with (first | (go_at_call 111; refine (cF.out _ hT1).mono ?_; rintro e w2 ⟨rfl, hb2⟩) | (go_at_call 110; refine (compare_any _ _ _).mono ?_; rintro e w3 ⟨rfl, hw3⟩; obtain rfl := hw3.symm))
          go_ret
          exact ⟨ret_int (by rw [← HN.out, HY.out, HD.out, cmpL, if_neg HC2.out]), (hI1.call hb2).below⟩
        · have hc' : (cmp3 r q != 0) = false := by simpa using hc
          have hc2 : cmp3 r q = 0 := by simpa using hc
          have HC2 : Hid (cmp3 r q = 0) := hc2
          clear hc2
          have hk : (k : Int) ≤ (t'.size : Int) := by omega
          go_wp2_with (first | (go_at_call 111; refine (cF.out _ hT1).mono ?_; rintro e w2 ⟨rfl, hb2⟩; have hT2 := hT1.below hb2) | (go_at_call 110; refine (compare_any _ _ _).mono ?_; rintro e w3 ⟨rfl, hw3⟩; obtain rfl := hw3.symm) | (go_at_call 112; refine (cW.out _ hT2).mono ?_; rintro e w4 ⟨rfl, hb4⟩))
          have hI4 := (hI1.call hb2).call hb4
          refine ⟨⟨pos + v, f, _, hI4, rfl, by rw [tail_size]; omega, ?_, by omega⟩, ?_⟩
          · show cmpL (runesFrom s f (pos + v)) (rl (t'.extract k t'.size)) = ordI s t
            rw [← HN.out, HY.out, HD.out, cmpL, if_pos HC2.out]
          · rw [hI4.pos, hm]; omega
    · have hnx : ∀ ty, (Instr.next (.pointer (some ⟨w.heap.size, 0, none⟩)) true ty).run Tryz.prog wr = _ := fun ty => run_next_end_at wr w.heap.size s pos ty hI.at_ hp
      by_cases h0 : t'.size = 0
      · have he := empty_yes t' h0
        go_wp2
        go_ret
        exact ⟨ret_int (by rw [← HN.out, runesFrom_end s f pos hp, rl_nil t' h0]; rfl), hI.below⟩
      · have he := empty_no t' h0
        go_wp2
        go_ret
        exact ⟨ret_int (by rw [← HN.out, runesFrom_end s f pos hp, rl_cons t' h0]; rfl), hI.below⟩
end Go.Proofs.YtlbmijcpalfaeaaGreatDoor
