/-
  The document's Sound, Show and Lisp, walked.
-/
import Derived.Test.YtchhogiamdefjaaDoorRfP
import Derived.Test.YtchhogiamdefjaaDoorBtW
import Derived.Test.YtchhogiamdefjaaDoorRsW
import Derived.Test.YtchhogiamdefjaaDoorRlW
import Derived.Test.YtchhogiamdefjaaDoorSnW
set_option linter.unusedSimpArgs false
set_option linter.unusedVariables false
namespace Go.Proofs.YtchhogiamdefjaaDoor
open Go.RowKit Go.Lib

structure HlMid (w : World) (v : Value) (hs : List ByteArray) (wr : World) : Prop where
  row : wr.ownsRow w.heap.size 9 1 v hs.length (hs.map Value.string)
  below : Below w.heap.size w wr
/-- Is it known already? -/
def knwn (x : Nd) (hs : List ByteArray) : Bool := decide (x.op ≠ 18) || hs.any (fun y => decide (y = x.name))
theorem addNm_knwn (hs : List ByteArray) (x : Nd) : addNm hs x = if knwn x hs = true then hs else hs ++ [x.name] := by
  unfold addNm knwn
  by_cases h : x.op = 18
  · have e : decide (x.op ≠ 18) = false := by simp [h]
    rw [if_pos h, e, Bool.false_or]
  · have e : decide (x.op ≠ 18) = true := by simp [h]
    rw [if_neg h, e, Bool.true_or, if_pos rfl]
theorem beq_toList (a b : ByteArray) : (a.toList == b.toList) = decide (a = b) := by
  rw [toList_data, toList_data]
  by_cases h : a = b
  · subst h; simp
  · have : a.data.toList ≠ b.data.toList := fun e => h (ba_ext e)
    rw [beq_eq_false_iff_ne.2 this]
    simp [h]
theorem any_take (hs : List ByteArray) (nm : ByteArray) (k : Nat) (hk : k < hs.length) : (hs.take (k + 1)).any (fun y => decide (y = nm)) = ((hs.take k).any (fun y => decide (y = nm)) || decide (hs.getD k ⟨#[]⟩ = nm)) := by
  rw [List.take_succ_eq_append_getElem hk, List.any_append]
  simp [hk]

set_option maxRecDepth 20000 in
set_option maxHeartbeats 4000000 in
theorem holes_any {w : World} {ao : Option Addr} {cap : Nat} {l : List Nd} (hN : Rd w ao cap l) (hlen : l.length * 56 ≤ 140737488355328) :
    Calls Tryd.prog 71 #[.slice ao l.length cap] w fun e w' => ∃ va vc, e = .returned (.slice va (hlsL l).length vc) ∧ Below w.heap.size w w' := by
  obtain ⟨hb1, hb2⟩ := hN.bound
  unfold maxLen at hb2
  obtain ⟨i0, hi, hz0, hz1, hz2⟩ := info_parts Tryd.infoStr
  have HN : Hid (Rd w ao cap l) := hN
  have HE : Hid (hlsL (l.take l.length) = hlsL l) := by show _ = _; rw [List.take_length]
  clear hN
  go_enter Tryd.func71, Tryd.ntmps71
  go_wp2_with fail
  go_loopw [3, 4] (fun v i wr => ∃ k : Nat, k ≤ l.length ∧ i = .int .i64 k ∧ HlMid w v (hlsL (l.take k)) wr) (fun _ i _ => l.length - (RowKit.intOf i).toNat)
  case atStart => exact ⟨0, by omega, rfl, by simpa [hlsL] using World.ownsRow_nil _ _ _ _, Below.refl _ _⟩
  case round =>
    obtain ⟨k, hk, rfl, hM⟩ := hrel
    obtain ⟨wa, hwa⟩ : ∃ wa, wa = wr := ⟨_, rfl⟩
    subst hwa
    have hbw := hM.below
    have hsw := hbw.size
    obtain ⟨va, vc, hv⟩ := row_form' hM.row
    subst hv
    by_cases hlt : k < l.length
    · obtain ⟨b, o, kv, rfl, hbk, hna⟩ := Rd.cell (HN.out.below hbw hsw) hlt
      have HX : Hid (hlsL (l.take (k + 1)) = if knwn (l.getD k nd0) (hlsL (l.take k)) = true then hlsL (l.take k) else hlsL (l.take k) ++ [(l.getD k nd0).name]) := by
        show _ = _
        rw [List.take_succ_eq_append_getElem hlt, hlsL_snoc, addNm_knwn]
        simp [hlt]
      have hhl := hlsL_len (l.take k)
      have hhl2 : (hlsL (l.take k)).length ≤ k := by simp at hhl; omega
      clear hhl
      generalize hlsL (l.take k) = hs at *
      obtain ⟨c0, c1, c2, c3, hki⟩ := hna
      generalize hx : l.getD k nd0 = x at *
      obtain ⟨op, n, nm, kids⟩ := x
      simp only at c0 c2 HX
      have HM : Hid (HlMid w (.slice va hs.length vc) hs wa) := hM
      obtain ⟨kw, hkw⟩ : ∃ kw, decide (op ≠ 18) = kw := ⟨_, rfl⟩
      have hkw' : (op != 18) = kw := by rw [← hkw]; by_cases e : op = 18 <;> simp [e]
      have HKW : Hid (decide (op ≠ 18) = kw) := hkw
      clear hM hx hki c1 c3 hkw
      have cell : Hid (∀ j, j < hs.length → ∃ g c, va = some ⟨g, 0, none⟩ ∧ vc = c ∧ g < wa.heap.size ∧ hs.length ≤ c ∧ c ≤ maxLen ∧ wa.cell? ⟨g, j, none⟩ = some (.string (hs.getD j ⟨#[]⟩))) := fun j hj => by
        obtain ⟨g, c, e, h1, h2, h3, h4⟩ := row_cell HM.out.row hj (d := .string ⟨#[]⟩)
        cases e
        refine ⟨g, vc, rfl, rfl, h1, h2, h3, ?_⟩
        rw [h4]; simp [hj]
      go_wp2_with fail
      go_loopw [5, 6] (fun v i wq => ∃ (j : Nat) (q : Bool), j ≤ hs.length ∧ i = .int .i64 j ∧ v = .bool q ∧ Hid (q = (kw || (hs.take j).any (fun y => decide (y = nm)))) ∧ Below wa.heap.size wa wq) (fun _ i _ => hs.length - (RowKit.intOf i).toNat)
      case atStart => exact ⟨0, kw, by omega, rfl, by first | rfl | (rw [hkw'] <;> rfl) | simp [hkw'], by show kw = _; simp, Below.refl _ _⟩
      case round =>
        obtain ⟨j, q, hj, rfl, rfl, hq, hbq⟩ := hrel
        by_cases hjl : j < hs.length
        · obtain ⟨g, c, rfl, rfl, hgl, hg1, hg2, hcj⟩ := cell.out j hjl
          unfold maxLen at hg2
          have e1 := (hbq.cell (p := ⟨g, j, none⟩) hgl).trans hcj
          have e2 := (hbq.cell (p := ⟨b, o + k * 4 + 2, none⟩) hbk).trans c2
          have HQ : Hid (_) := hq
          have HA := any_take hs nm j hjl
          have HAH : Hid (_) := HA
          have HBQ : Hid (Below wa.heap.size wa wr) := hbq
          generalize hs.getD j ⟨#[]⟩ = y at *
          clear hcj hq HA hbq
          cases q with
          | true =>
            go_wp2_with fail
            go_quiet (fail)
            go_wp2_with fail
            refine ⟨⟨j + 1, true, by omega, by go_num, rfl, ?_, below_drewN' HBQ.out _⟩, by simp [RowKit.intOf]; omega⟩
            show true = _
            rw [HAH.out, ← Bool.or_assoc, ← HQ.out]; rfl
          | false =>
            obtain ⟨ee, hee⟩ : ∃ e, decide (y = nm) = e := ⟨_, rfl⟩
            go_wp2_with fail
            go_quiet (fail)
            go_wp2_with fail
            refine ⟨⟨j + 1, decide (y = nm), by omega, by go_num, ?_, ?_, below_drewN' HBQ.out _⟩, by simp [RowKit.intOf]; omega⟩
            · rw [← beq_toList] <;> rfl
            · show decide (y = nm) = _
              rw [HAH.out, ← Bool.or_assoc, ← HQ.out]; rfl
        · have hje : j = hs.length := by omega
          subst hje
          rw [List.take_length] at hq
          have HQ : Hid (q = knwn ⟨op, n, nm, kids⟩ hs) := by show q = _; rw [hq.out, ← HKW.out]; rfl
          have e2 := (hbq.cell (p := ⟨b, o + k * 4 + 2, none⟩) hbk).trans c2
          have HBQ : Hid (Below wa.heap.size wa wr) := hbq
          have HM2 : Hid (HlMid w (.slice va hs.length vc) hs wr) := ⟨ownsRow_below HM.out.row hbq, HM.out.below.trans (hbq.mono HM.out.below.size)⟩
          have hs2 := HM2.out.below.size
          clear hq hbq
          cases q with
          | true =>
            have HE2 : Hid (hlsL (l.take (k + 1)) = hs) := by show _ = _; rw [HX.out, ← HQ.out]; rfl
            go_wp2_with fail
            exact ⟨⟨k + 1, by omega, by go_num, by rw [HE2.out]; exact HM2.out⟩, by simp [RowKit.intOf]; omega⟩
          | false =>
            have HE2 : Hid (hlsL (l.take (k + 1)) = hs ++ [nm]) := by show _ = _; rw [HX.out, ← HQ.out]; rfl
            go_wp2_with (at_builtin; refine wpList_append_lies _ rfl (.tmp 40) (.tmp 46) 33 rfl w.heap.size 9 i0 (.string ⟨#[]⟩) 1 16 Tryd.underlying33 hi hz0 hz1 hz2 rfl (by decide) _ _ _ rfl (HM2.out.row.alloc _) ⟨wr.heap.size, 0, none⟩ 1 1 [.string nm] rfl rfl (cell_news_one _ _ _) (by simp [Value.oneCell']) (by omega) (by unfold maxLen; omega) (by omega) (by simp; omega) _ rfl ?_; intro g6 cap6 w6 hown6 hg6 hat6 hl6)
            refine ⟨⟨k + 1, by omega, by go_num, ?_⟩, by simp [RowKit.intOf]; omega⟩
            rw [HE2.out]
            refine ⟨?_, (HM2.out.below.alloc (by omega) _).grown hg6 (by simp; omega) (fun j hj => (own_block' HM2.out.row j hj).1)⟩
            have e3 : (hs ++ [nm]).length = hs.length + 1 := by simp
            rw [e3, List.map_append]; exact hown6
    · have hke : k = l.length := by omega
      subst hke
      rw [HE.out]
      go_wp2_with fail
      go_ret
      exact ⟨va, vc, rfl, hbw⟩
end Go.Proofs.YtchhogiamdefjaaDoor

namespace Go.Proofs.YtchhogiamdefjaaDoor
open Go.RowKit Go.Lib

/-- Between two nodes of the copy. -/
structure RdMid (w : World) (l : List Nd) (v : Value) (k : Nat) (wr : World) : Prop where
  p : ∃ p, p.map (·.1) = (l.take k).map fillN ++ l.drop k ∧ OwnP wr w.heap.size v p
  below : Below w.heap.size w wr
theorem RdMid.at_ {w : World} {l : List Nd} {v : Value} {k : Nat} {wr : World} (h : RdMid w l v k wr) (hk : k < l.length) : ∃ g cap, v = .slice (some ⟨g, 0, none⟩) l.length cap ∧ w.heap.size ≤ g ∧ g < wr.heap.size ∧ l.length ≤ cap ∧ cap ≤ maxLen ∧ wr.cell? ⟨g, k * 4, none⟩ = some (.int .i64 (l.getD k nd0).op) ∧ wr.frozen? ⟨g, k * 4, none⟩ = false := by
  obtain ⟨⟨p, hp, hc⟩, hb⟩ := h
  have hpl : p.length = l.length := by have := congrArg List.length hp; simp at this; omega
  rcases hc.row.2 with ⟨rfl, h0⟩ | ⟨g, cap, cur, rfl, hg0, hg, h1, h2, h3, h4⟩
  · omega
  · refine ⟨g, cap, by rw [hpl], hg0, lt_of_block hg, by omega, h2, ?_, frozen_of_heap hg _⟩
    have hp2 : p[k]? = some (p[k].1, p[k].2) := by simp [hpl, hk]
    have := (ndCells_at p k _ _ hp2).1
    have hx : ((l.take k).map fillN ++ l.drop k)[k]? = some l[k] := by
      rw [List.getElem?_append_right (by simp; omega)]
      have : k - ((l.take k).map fillN).length = 0 := by simp; omega
      rw [this]; simp [hk]
    have hkp : k < p.length := by omega
    have e : p[k].1 = l.getD k nd0 := by
      have h5 : (p.map (·.1))[k]? = some l[k] := by rw [hp]; exact hx
      simp [hkp] at h5
      simp [hk, h5]
    rw [cell_of_heap hg, ← Array.getElem?_toList, ← e, ← this, ← h4, List.getElem?_take, if_pos (by omega)]
theorem RdMid.skip {w : World} {l : List Nd} {v : Value} {k : Nat} {wr : World} (h : RdMid w l v k wr) (hk : k < l.length) (hop : (l.getD k nd0).op ≠ 18) : RdMid w l v (k + 1) wr := by
  obtain ⟨⟨p, hp, hc⟩, hb⟩ := h
  exact ⟨⟨p, by rw [fill_step hk hop]; exact hp, hc⟩, hb⟩
theorem RdMid.fill {w : World} {l : List Nd} {g cap k : Nat} {wr : World} (h : RdMid w l (.slice (some ⟨g, 0, none⟩) l.length cap) k wr) (hk : k < l.length) (hop : (l.getD k nd0).op = 18) : RdMid w l (.slice (some ⟨g, 0, none⟩) l.length cap) (k + 1) (wr.setCell ⟨g, k * 4, none⟩ (.int .i64 2)) := by
  obtain ⟨g', cap', e1, hg0, _⟩ := h.at_ hk
  cases e1
  obtain ⟨⟨p, hp, hc⟩, hb⟩ := h
  have hpl : p.length = l.length := by have := congrArg List.length hp; simp at this; omega
  have e : l.getD k nd0 = l[k] := by simp [hk]
  have hx : ((l.take k).map fillN ++ l.drop k)[k]? = some l[k] := by
    rw [List.getElem?_append_right (by simp; omega)]
    have : k - ((l.take k).map fillN).length = 0 := by simp; omega
    rw [this]; simp [hk]
  have hpk : p[k]? = some (l[k], (p.getD k (nd0, .slice none 0 0)).2) := by
    have hkp : k < p.length := by omega
    have : (p.map (·.1))[k]? = some l[k] := by rw [hp]; exact hx
    simp [hkp] at this
    simp [hkp, ← this]
  have hfl : fillN l[k] = { l[k] with op := 2 } := by rw [e] at hop; simp [fillN, hop]
  have hrow : wr.ownsRow w.heap.size 49 4 (.slice (some ⟨g, 0, none⟩) l.length cap) l.length (ndCells p) := by have := hc.row; rwa [hpl] at this
  refine ⟨⟨p.set k ({ l[k] with op := 2 }, (p.getD k (nd0, .slice none 0 0)).2), ?_, ?_, ?_⟩, hb.setCell (p := ⟨g, k * 4, none⟩) hg0 _⟩
  · rw [List.map_set, hp, ← hfl]
    rw [List.take_succ_eq_append_getElem hk, List.map_append, List.set_append_right _ _ (by simp; omega)]
    have : k - ((l.take k).map fillN).length = 0 := by simp; omega
    rw [this, List.drop_eq_getElem_cons hk, List.set_cons_zero, List.append_assoc]
    rfl
  · rw [ndCells_op p k _ _ 2 hpk, List.length_set, hpl]
    exact own_put hrow (by rw [ndCells_length]; omega)
  · intro q hq
    have hin : ∀ q ∈ p, OwnI (wr.setCell ⟨g, k * 4, none⟩ (.int .i64 2)) w.heap.size q.2 q.1.kids := fun q hq => row_set (hc.kids q hq) (fun j hj e => by
      subst e
      rcases ownBlock_ne (hc.kids q hq) hc.row (by decide) with h | h
      · rw [h] at hj; cases hj
      · exact h hj) _ _
    rcases List.mem_or_eq_of_mem_set hq with hq | rfl
    · exact hin q hq
    · exact hin (l[k], _) (List.mem_of_getElem? hpk)

set_option maxRecDepth 20000 in
set_option maxHeartbeats 4000000 in
theorem refSound_any {w : World} {ao : Option Addr} {cap : Nat} {l : List Nd} (hN : Rd w ao cap l) (hF : Fit l) :
    Calls Tryd.prog 50 #[.slice ao l.length cap] w fun e w' => e = .returned (.bool (okSh l)) ∧ Below w.heap.size w w' := by
  obtain ⟨hb1, hb2⟩ := hN.bound
  unfold maxLen at hb2
  have cC := copy_any _ l w _ (Nat.le_refl _) hN hF.len hF.kids
  have HN : Hid (Rd w ao cap l) := hN
  have HF : Hid (Fit l) := hF
  obtain ⟨R, hR⟩ : ∃ R, okSh l = R := ⟨_, rfl⟩
  have HR : Hid (R = (sndB (l.map fillN) && (decide ((hlsL l).length = 0) || (decide ((hlsL l).length ≤ 6) && decide (l.length ≤ 16))))) := by show R = _; rw [← hR]; exact ok_ref l
  rw [hR]
  have hhl := hlsL_len l
  clear hN hF hR
  go_enter Tryd.func50, Tryd.ntmps50
  go_wp2_with (go_at_call 9; refine cC.mono ?_; rintro e w1 ⟨v, rfl, ⟨p, hp, hO⟩, hb1'⟩)
  have cH := holes_any (HN.out.below hb1' hb1'.size) HF.out.len
  have B1 : Hid (Below w.heap.size w w1) := hb1'
  clear cC hb1'
  go_wp2_with (go_at_call 71; refine cH.mono ?_; rintro e w2 ⟨ha, hc, rfl, hb2'⟩)
  have HM0 : Hid (RdMid w l v 0 w2) := ⟨⟨p, by simpa using hp, hO.below hb2'⟩, B1.out.trans (hb2'.mono B1.out.size)⟩
  obtain ⟨va, vc, hv⟩ := row_form' hO.row
  have hpl : p.length = l.length := by rw [← hp]; simp
  rw [hpl] at hv
  subst hv
  have hvc : l.length ≤ vc ∧ vc ≤ maxLen := by
    rcases hO.row.2 with ⟨e, h0⟩ | ⟨g, c, cur, e, _, _, hn, hm, _⟩
    · simp only [Value.slice.injEq] at e; exact ⟨by omega, by rw [e.2.2]; exact Nat.zero_le _⟩
    · simp only [Value.slice.injEq] at e; exact ⟨by omega, by rw [e.2.2]; exact hm⟩
  obtain ⟨hv1, hv2⟩ := hvc
  unfold maxLen at hv2
  clear cH hb2' hp hO hpl
  go_loopw [5] (fun q wr => ∃ k : Nat, k ≤ l.length ∧ q = .int .i64 k ∧ RdMid w l (.slice va l.length vc) k wr) (fun q _ => l.length - (RowKit.intOf q).toNat)
  case atStart => exact ⟨0, by omega, rfl, HM0.out⟩
  case round =>
    obtain ⟨k, hk, rfl, hM⟩ := hrel
    by_cases hlt : k < l.length
    · obtain ⟨g, cp, e, hg0, hgl, hg1, hg2, hcl, hfz⟩ := hM.at_ hlt
      cases e
      by_cases hop : (l.getD k nd0).op = 18
      · have HFI : Hid (RdMid w l (.slice (some ⟨g, 0, none⟩) l.length vc) (k + 1) (wr.setCell ⟨g, k * 4, none⟩ (.int .i64 2))) := hM.fill hlt hop
        rw [hop] at hcl
        clear hM hop
        go_wp2_with fail
        exact ⟨⟨k + 1, by omega, by go_num, HFI.out⟩, by simp [RowKit.intOf]; omega⟩
      · have HFI : Hid (RdMid w l (.slice (some ⟨g, 0, none⟩) l.length vc) (k + 1) wr) := hM.skip hlt hop
        have g18 : ((l.getD k nd0).op == 18) = false := by rw [beq_eq_false_iff_ne]; exact hop
        generalize (l.getD k nd0).op = oo at *
        clear hM hop
        go_wp2_with fail
        exact ⟨⟨k + 1, by omega, by go_num, HFI.out⟩, by simp [RowKit.intOf]; omega⟩
    · have hke : k = l.length := by omega
      subst hke
      obtain ⟨⟨p, hp, hO⟩, hbw⟩ := hM
      rw [List.take_length, List.drop_length, List.append_nil] at hp
      have hNd := Nodes_of_ownP hO (Nat.le_refl _)
      rw [hp] at hNd
      have cK := refCheck_any (.slice va l.length vc) (l.map fillN) wr wr.heap.size (Nat.le_refl _) hNd (fun x hx => by
        obtain ⟨y, hy, rfl⟩ := List.mem_map.1 hx
        rw [fillN_name]; exact HF.out.name y hy)
      have HBW : Hid (Below w.heap.size w wr) := hbw
      unfold chkE at cK
      clear hp hO hNd hbw
      generalize (hlsL l).length = nh at *
      generalize sndB (l.map fillN) = sb at *
      cases sb
      · rw [if_neg (by decide)] at cK
        have HR2 : Hid (R = false) := by show R = _; rw [HR.out]; rfl
        clear HR
        go_wp2_with (go_at_call 10; refine cK.mono ?_; rintro e w6 ⟨rfl, hb6⟩)
        go_ret
        exact ⟨by rw [HR2.out] <;> rfl, HBW.out.trans (hb6.mono HBW.out.size)⟩
      · rw [if_pos rfl] at cK
        by_cases h0 : nh = 0
        · have HR2 : Hid (R = true) := by show R = _; rw [HR.out]; simp [h0]
          have g0 : ((nh : Int) == 0) = true := by rw [beq_iff_eq]; omega
          clear HR h0
          go_wp2_with (go_at_call 10; refine cK.mono ?_; rintro e w6 ⟨rfl, hb6⟩)
          go_ret
          exact ⟨by rw [HR2.out] <;> rfl, HBW.out.trans (hb6.mono HBW.out.size)⟩
        · have g0 : ((nh : Int) == 0) = false := by rw [beq_eq_false_iff_ne]; omega
          by_cases h6 : nh ≤ 6
          · have g6 : (nh : Int) ≤ 6 := by omega
            by_cases h16 : l.length ≤ 16
            · have g16 : (l.length : Int) ≤ 16 := by omega
              have HR2 : Hid (R = true) := by show R = _; rw [HR.out]; simp [h0, h6, h16]
              clear HR h0 h6 h16
              go_wp2_with (go_at_call 10; refine cK.mono ?_; rintro e w6 ⟨rfl, hb6⟩)
              go_ret
              exact ⟨by rw [HR2.out] <;> rfl, HBW.out.trans (hb6.mono HBW.out.size)⟩
            · have g16 : ¬ (l.length : Int) ≤ 16 := by omega
              have HR2 : Hid (R = decide ((l.length : Int) ≤ 16)) := by show R = _; rw [HR.out, decide_eq_false g16]; simp [h0, h6, h16]
              clear HR h0 h6 h16
              go_wp2_with (go_at_call 10; refine cK.mono ?_; rintro e w6 ⟨rfl, hb6⟩)
              go_ret
              exact ⟨by rw [HR2.out] <;> rfl, HBW.out.trans (hb6.mono HBW.out.size)⟩
          · have g6 : ¬ (nh : Int) ≤ 6 := by omega
            have HR2 : Hid (R = false) := by show R = _; rw [HR.out]; simp [h0, h6]
            clear HR h0 h6
            go_wp2_with (go_at_call 10; refine cK.mono ?_; rintro e w6 ⟨rfl, hb6⟩)
            go_ret
            exact ⟨by rw [HR2.out] <;> rfl, HBW.out.trans (hb6.mono HBW.out.size)⟩
end Go.Proofs.YtchhogiamdefjaaDoor
