/-
  ExJoiW, PiW.
-/
import Derived.Shelf.Unicode.DecodeSlow
import Derived.Laws.RangeAny
import Derived.Shelf.Unicode.DecodeAny
import Derived.Test.YtlllkjbbldhddaaDoorProg
import Derived.WalkKit
import Derived.Deep.DeepFit
import Derived.Lib.OthersKept
import Derived.Lib.RuneCountTail
import Derived.Deep.AppendLies
import Derived.Deep.OwnRows
import Derived.Laws.AppendOwnNone
import Derived.Deep.QuietTactic
import Derived.BigQuiet
import Derived.Deep.RegionWith
import Derived.Laws.DeepStrings4
import Derived.Below
import Derived.Test.YtlllkjbbldhddaaDoorF01
import Derived.Test.YtlllkjbbldhddaaDoorF02
import Derived.Test.YtlllkjbbldhddaaDoorF03
import Derived.Test.YtlllkjbbldhddaaDoorF04
import Derived.Test.YtlllkjbbldhddaaDoorF05
import Derived.Test.YtlllkjbbldhddaaDoorF06
import Derived.Test.YtlllkjbbldhddaaDoorF07
import Derived.Test.YtlllkjbbldhddaaDoorF08
import Derived.Test.YtlllkjbbldhddaaDoorF09
import Derived.Test.YtlllkjbbldhddaaDoorF10
import Derived.Test.YtlllkjbbldhddaaDoorF11
import Derived.Test.YtlllkjbbldhddaaDoorF13
set_option linter.unusedSimpArgs false
set_option linter.unusedVariables false
namespace Go.Proofs.YtlllkjbbldhddaaDoor
open Go.RowKit Go.Lib

theorem OwnI_of_row {w : World} {base g n : Nat} {f : Nat → Value} {L : List Int} (h : w.rowIs g 3 n f) (hL : L.length = n) (hf : ∀ j, j < n → f j = .int .i64 (L.getD j 0)) (hb : base ≤ g) (hn : n ≤ maxLen) : OwnI w base (.slice (some ⟨g, 0, none⟩) n n) L := by
  obtain ⟨c, hg, hs, hc⟩ := h
  unfold OwnI
  refine ⟨by simp, .inr ⟨g, n, c, by rw [hL], hb, hg, by omega, hn, by omega, ?_⟩⟩
  apply List.ext_getElem
  · simp; omega
  · intro j h1 h2
    simp at h2
    have := hc j (by omega)
    rw [hf j (by omega)] at this
    have hj : j < c.size := by omega
    simp [hj] at this
    simp [this, h2]

/-- In the inner loop of behind: the new row, and the node's own block. -/
structure BhMid (wr : World) (op n by_ : Int) (nm : ByteArray) (ka : Option Addr) (kc : Nat) (kids : List Int) (k : Nat) (wq : World) : Prop where
  row : wq.rowIs (wr.heap.size + 1) 3 kids.length (fun j => .int .i64 (if j < k then kids.getD j 0 + by_ else 0))
  node : wq.heap[wr.heap.size]? = some (.cells #[.int .i64 op, .int .i64 n, .string nm, .slice ka kids.length kc] 63 (0, 0))
  below : Below wr.heap.size wr wq

theorem node_cells {w : World} {b : Nat} {a c d e : Value} {t : TypeId} (h : w.heap[b]? = some (.cells #[a, c, d, e] t (0, 0))) : w.cell? ⟨b, 0, none⟩ = some a ∧ w.cell? ⟨b, 1, none⟩ = some c ∧ w.cell? ⟨b, 2, none⟩ = some d ∧ w.cell? ⟨b, 3, none⟩ = some e ∧ w.frozen? ⟨b, 3, none⟩ = false := by
  simp [World.cell?, World.frozen?, h]

theorem BhMid.set {wr : World} {op n by_ : Int} {nm : ByteArray} {ka : Option Addr} {kc : Nat} {kids : List Int} {k : Nat} {wq : World} (h : BhMid wr op n by_ nm ka kc kids k wq) (hk : k < kids.length) : BhMid wr op n by_ nm ka kc kids (k + 1) (wq.setCell ⟨wr.heap.size + 1, k, none⟩ (.int .i64 (kids.getD k 0 + by_))) := by
  refine ⟨(h.row.set k _).congr (fun j hj => ?_), (Deep.blk_setCell_other _ _ _ _ (by simp)).trans h.node, h.below.setCell (by simp) _⟩
  by_cases e : j = k
  · subst e
    rw [if_pos rfl, if_pos (by omega)]
  · rw [if_neg e]
    by_cases e2 : j < k
    · rw [if_pos e2, if_pos (by omega)]
    · rw [if_neg e2, if_neg (by omega)]

set_option maxHeartbeats 2000000 in
theorem behind_p (v vs : Value) (p : List (Nd × Value)) (ns : List Nd) (w : World) (base : Nat) (hbase : base ≤ w.heap.size) (hO : OwnP w base v p) (hN : Nodes w base vs ns) (hlen : (p.length + ns.length) * 56 ≤ 140737488355328) (hp9 : p.length ≤ 20000)
    (hks : ∀ x ∈ ns, x.kids.length * 8 ≤ 140737488351232 ∧ ∀ k ∈ x.kids, 0 ≤ k ∧ k ≤ 9000) :
    Calls Tryd.prog 102 #[v, vs] w fun e w' => AddPost w base v p (ns.map (mvN 0 p.length)) e w' := by
  obtain ⟨ao, cap0, rfl, hl, hm, hc⟩ := hN
  obtain ⟨i0, hi, hz0, hz1, hz2⟩ := info_parts Tryd.infoNode
  obtain ⟨va, vc, hv⟩ := hO.form
  have HO : Hid (OwnP w base v p) := hO
  subst hv
  unfold maxLen at hm
  have HC : Hid (ns = [] ∨ ∃ b o, ao = some ⟨b, o, none⟩ ∧ b < base ∧ ∀ i, i < ns.length → ∃ kv, NodeAt w base b (o + i * 4) (ns.getD i nd0) kv) := hc
  clear hc hO
  go_enter Tryd.func102, Tryd.ntmps102
  go_wp2_with fail
  go_loopw [0, 6] (fun x i wr => ∃ k : Nat, k ≤ ns.length ∧ i = .int .i64 k ∧ AddMid w base (.slice va p.length vc) p ((ns.take k).map (mvN 0 p.length)) x wr) (fun _ i _ => ns.length - (RowKit.intOf i).toNat)
  case atStart => exact ⟨0, by omega, rfl, AddMid.start HO.out⟩
  case round =>
    obtain ⟨k, hk, rfl, hmid⟩ := hrel
    obtain ⟨wo, hwo⟩ : ∃ wo, wo = wr := ⟨_, rfl⟩
    subst hwo
    by_cases hlt : k < ns.length
    · obtain ⟨p', hP, hpm, hkid, hgr, hx, hB⟩ := hmid.ex
      have hsz := hB.size
      obtain ⟨b, o, rfl, hbl, hc⟩ : ∃ b o, ao = some ⟨b, o, none⟩ ∧ b < base ∧ ∀ i, i < ns.length → ∃ kv, NodeAt w base b (o + i * 4) (ns.getD i nd0) kv := by
        rcases HC.out with h | h
        · subst h; simp at hlt
        · exact h
      obtain ⟨kv, hNA⟩ := hc k hlt
      clear hc HC
      have hNA := hNA.below hB (Nat.le_refl _) hbl
      have hzr := hks (ns.getD k nd0) (by simp [hlt])
      have HS := take_map_snoc (mvN 0 p.length) nd0 ns k hlt
      have hMl : ((ns.take k).map (mvN 0 (p.length : Int))).length = k := by simp; omega
      have hpl : (p ++ p').length = p.length + k := by
        rw [List.length_append]
        have := congrArg List.length hpm
        simp only [List.length_map] at this hMl
        omega
      have HPL : Hid ((p ++ p').length = p.length + k) := hpl
      have HPM : Hid (p'.map (·.1) = (ns.take k).map (mvN 0 p.length)) := hpm
      have HKID : Hid (∀ q ∈ p', OwnI wo w.heap.size q.2 q.1.kids) := hkid
      have HGR : Hid (w.grownBy wo (Value.slice va p.length vc).ownBlock) := hgr
      generalize hQ : p ++ p' = Q at hP HPL
      have HQ : Hid (p ++ p' = Q) := hQ
      have HP : Hid (OwnP wo base _ Q) := hP
      have HX : Hid (_ ∨ _) := hx
      clear hpl hQ hpm hkid hgr hx hmid HO
      generalize ns.getD k nd0 = x at *
      have HS' : Hid ((ns.take (k + 1)).map (mvN 0 p.length) = (ns.take k).map (mvN 0 p.length) ++ [mvN 0 p.length x]) := HS
      clear HS hks
      obtain ⟨op, n, nm, kids⟩ := x
      obtain ⟨c0, c1, c2, c3, hki⟩ := hNA
      simp only at c0 c1 c2 c3 hki hzr
      obtain ⟨ka, kc, rfl, hkl, ⟨hkm, _⟩, hkc⟩ := hki
      unfold maxLen at hkm
      have HKC : Hid (kids = [] ∨ ∃ b o, ka = some ⟨b, o, none⟩ ∧ b < base ∧ ∀ j, j < kids.length → wo.cell? ⟨b, o + j, none⟩ = some (.int .i64 (kids.getD j 0))) := hkc
      clear hkc
      have hb9 : b < wo.heap.size := by omega
      have hb8 : b ≠ wo.heap.size := by omega
      have hmk := run_make_row' (P := Tryd.prog) 61 3 (.int .i64 0) 8 Tryd.underlying61 Tryd.info3 rfl .i64 .i64 kids.length (by omega) (by omega)
      have HKR : Hid (∀ k ∈ kids, 0 ≤ k ∧ k ≤ 9000) := hzr.2
      have hkl8 := hzr.1
      clear hzr
      go_wp2_with fail
      go_loopw [9] (fun i wq => ∃ j : Nat, j ≤ kids.length ∧ i = .int .i64 j ∧ BhMid wo op n p.length nm ka kc kids j wq) (fun i _ => kids.length - (RowKit.intOf i).toNat)
      case atStart =>
        refine ⟨0, by omega, rfl, ?_, ?_, ?_⟩
        · have := World.rowIs_made (wo.alloc (.cells #[.int .i64 op, .int .i64 n, .string nm, .slice ka kids.length kc] 63)) (.int .i64 0) kids.length 3
          rw [World.size_alloc] at this
          exact this.congr (fun j hj => by rw [if_neg (by omega)])
        · rw [Deep.blk_alloc_lt _ _ _ (by simp), Deep.blk_alloc_new]
        · exact ((Below.refl _ _).alloc (Nat.le_refl _) _).alloc (by simp) _
      case round =>
        obtain ⟨j, hj, rfl, hM⟩ := hrel
        obtain ⟨d0, d1, d2, d3, f3⟩ := node_cells hM.node
        have hszq := hM.below.size
        have hrl := hM.row.lt
        clear hmk
        by_cases hjl : j < kids.length
        · obtain ⟨kb, ko, rfl, hkb, hkc⟩ : ∃ b o, ka = some ⟨b, o, none⟩ ∧ b < base ∧ ∀ j, j < kids.length → wo.cell? ⟨b, o + j, none⟩ = some (.int .i64 (kids.getD j 0)) := by
            rcases HKC.out with h | h
            · subst h; simp at hjl
            · exact h
          have hcj : wr.cell? ⟨kb, ko + j, none⟩ = some (.int .i64 (kids.getD j 0)) := (hM.below.cell (p := ⟨kb, ko + j, none⟩) (by show kb < wo.heap.size; omega)).trans (hkc j hjl)
          have hyr := HKR.out (kids.getD j 0) (by simp [hjl])
          have e0 := hM.row.cell hjl
          have f0 := hM.row.frozen j
          have HSET : Hid (BhMid wo op n p.length nm (some ⟨kb, ko, none⟩) kc kids (j + 1) (wr.setCell ⟨wo.heap.size + 1, j, none⟩ (.int .i64 (kids.getD j 0 + (p.length : Int))))) := hM.set hjl
          clear hkc hM HKC
          generalize kids.getD j 0 = y at *
          go_wp2_with fail
          exact ⟨⟨j + 1, by omega, by go_num, HSET.out⟩, by simp [RowKit.intOf]; omega⟩
        · have hje : j = kids.length := by omega
          subst hje
          have HM : Hid (mvN 0 p.length ⟨op, n, nm, kids⟩ = ⟨op, n, nm, kids.map (mvK 0 p.length)⟩) := rfl
          have hO2 : OwnI wr wo.heap.size (.slice (some ⟨wo.heap.size + 1, 0, none⟩) kids.length kids.length) (kids.map (mvK 0 p.length)) := OwnI_of_row hM.row (by simp) (fun q hq => by
            rw [if_pos hq]
            have h0 := HKR.out (kids.getD q 0) (by simp [hq])
            have e : (kids.map (mvK 0 (p.length : Int))).getD q 0 = mvK 0 p.length (kids.getD q 0) := by simp [hq]
            rw [e]; unfold mvK; rw [if_pos h0.1]) (by omega) (by unfold maxLen; omega)
          have hBq := hM.below
          have hk2l : (kids.map (mvK 0 (p.length : Int))).length = kids.length := by simp
          generalize kids.map (mvK 0 (p.length : Int)) = kids2 at *
          have hBw3 : Below wo.heap.size wo (wr.setCell ⟨wo.heap.size, 3, none⟩ (.slice (some ⟨wo.heap.size + 1, 0, none⟩) kids.length kids.length)) := hBq.setCell (Nat.le_refl _) _
          have hP3 := HP.out.below hBw3
          have hO3 : OwnI (wr.setCell ⟨wo.heap.size, 3, none⟩ (.slice (some ⟨wo.heap.size + 1, 0, none⟩) kids.length kids.length)) wo.heap.size (.slice (some ⟨wo.heap.size + 1, 0, none⟩) kids.length kids.length) kids2 := ownsRow_setCell_other hO2 (by simp [Value.ownBlock]) _
          have HK2 : Hid (kids2.length = kids.length) := hk2l
          clear hM hO2 hBq HKC hk2l hP
          go_wp2_with (at_builtin; refine wpList_append_lies _ rfl (.tmp 45) (.tmp 47) 22 rfl base 63 i0 (.agg #[.int .i64 0, .int .i64 0, .string ⟨#[]⟩, .slice none 0 0]) 4 56 Tryd.underlying22 hi hz0 hz1 hz2 rfl (by decide) _ _ _ rfl (hP3.row.alloc _) ⟨wr.heap.size, 0, none⟩ 1 1 [.int .i64 op, .int .i64 n, .string nm, .slice (some ⟨wo.heap.size + 1, 0, none⟩) kids.length kids.length] rfl rfl (cell_news4 _ _ _ _ _ _ _ (by simp)) (by simp [Value.oneCell']) (by omega) (by have := HPL.out; unfold maxLen; omega) (by have := HPL.out; omega) (by simp; omega) _ rfl ?_; intro g cap w1 hown1 hg1 hat hl1)
          refine ⟨⟨k + 1, by omega, by go_num, ?_⟩, by simp [RowKit.intOf]; omega⟩
          rw [HS'.out, HM.out]
          have hPQ := HP.out
          rw [← HQ.out] at hPQ
          exact AddMid.snoc (p' := p') (y := ⟨op, n, nm, kids2⟩) (kv := .slice (some ⟨wo.heap.size + 1, 0, none⟩) kids.length kids.length) hPQ HPM.out HKID.out HGR.out HX.out hB hbase (hBw3.alloc (by simp; omega) (.cells #[.int .i64 op, .int .i64 n, .string nm, .slice (some ⟨wo.heap.size + 1, 0, none⟩) kids.length kids.length] 63)) (hO3.below ((Below.refl _ _).alloc (Nat.le_refl _) _)) (by rw [HQ.out]) (by rw [HQ.out]; exact hown1) hg1 hat
    · have hke : k = ns.length := by omega
      subst hke
      go_wp2_with fail
      go_ret
      rw [List.take_length] at hmid
      obtain ⟨p', h1, h2, h3, h4, h5, h6⟩ := hmid.ex
      exact ⟨⟨_, p', rfl, h1, h2, h3, h4, h5, h6⟩⟩

set_option maxHeartbeats 2000000 in
theorem joined_any (op n : Int) (nm : ByteArray) (na : Option Addr) (nl nc : Nat) (vs : Value) (ps : List (List Nd)) (w : World) (B : Nat) (hBw : B ≤ w.heap.size) (hN : Lst w B vs ps) (hp3 : ps.length ≤ 3)
    (hps : ∀ l ∈ ps, l.length ≤ 5000 ∧ ∀ x ∈ l, x.kids.length * 8 ≤ 140737488351232 ∧ ∀ k ∈ x.kids, 0 ≤ k ∧ k ≤ 9000) :
    Calls Tryd.prog 78 #[.agg #[.int .i64 op, .int .i64 n, .string nm, .slice na nl nc], vs] w fun e w' => ∃ v', e = .returned v' ∧ OwnN w' w.heap.size v' (joinL op n nm ps) ∧ Below w.heap.size w w' := by
  obtain ⟨ao, cap0, rfl, hl, hm, hc⟩ := hN
  obtain ⟨i0, hi, hz0, hz1, hz2⟩ := info_parts Tryd.infoNode
  obtain ⟨j0, hj, hy0, hy1, hy2⟩ := info_parts Tryd.info3
  unfold maxLen at hm
  have HC : Hid (ps = [] ∨ ∃ b o, ao = some ⟨b, o, none⟩ ∧ b < B ∧ ∀ i, i < ps.length → ∃ pv, w.cell? ⟨b, o + i, none⟩ = some pv ∧ Nodes w B pv (ps.getD i [])) := hc
  clear hc
  have htk : ∀ k, k < ps.length → ps.take (k + 1) = ps.take k ++ [ps.getD k []] := fun k hlt => by rw [List.take_succ_eq_append_getElem hlt]; simp [hlt]
  have HTK : Hid (∀ k, k < ps.length → ps.take (k + 1) = ps.take k ++ [ps.getD k []]) := htk
  have HPS : Hid (∀ l ∈ ps, l.length ≤ 5000 ∧ ∀ x ∈ l, x.kids.length * 8 ≤ 140737488351232 ∧ ∀ k ∈ x.kids, 0 ≤ k ∧ k ≤ 9000) := hps
  clear htk hps
  obtain ⟨w2, hw2⟩ : ∃ w2, w.alloc (.cells #[.int .i64 op, .int .i64 n, .string nm, .slice na nl nc] 63) = w2 := ⟨_, rfl⟩
  have hB2 : Below w.heap.size w w2 := by rw [← hw2]; exact (Below.refl _ _).alloc (Nat.le_refl _) _
  have hsz2 : w2.heap.size = w.heap.size + 1 := by rw [← hw2]; simp
  have hblk : w2.heap[w.heap.size]? = some (.cells #[.int .i64 op, .int .i64 n, .string nm, .slice na nl nc] 63 (0, 0)) := by rw [← hw2, Deep.blk_alloc_new]
  have HW2 : Hid (w.alloc (.cells #[.int .i64 op, .int .i64 n, .string nm, .slice na nl nc] 63) = w2) := hw2
  have HSZ2 : Hid (w2.heap.size = w.heap.size + 1) := hsz2
  have HBLK : Hid (w2.heap[w.heap.size]? = some (.cells #[.int .i64 op, .int .i64 n, .string nm, .slice na nl nc] 63 (0, 0))) := hblk
  clear hw2 hsz2 hblk
  go_enter Tryd.func78, Tryd.ntmps78
  go_wp2_with fail
  rw [HW2.out]
  go_loopw [5, 6, 7] (fun v kv i wr => ∃ k : Nat, k ≤ ps.length ∧ i = .int .i64 k ∧ MkMid w2 w2.heap.size (ps.take k) v kv wr) (fun _ _ i _ => ps.length - (RowKit.intOf i).toNat)
  case atStart => exact ⟨0, by omega, rfl, ⟨[], OwnP_nil _ _, rfl, OwnI_nil _ _, by simp, Below.refl _ _⟩⟩
  case round =>
    obtain ⟨k, hk, rfl, hmid⟩ := hrel
    obtain ⟨p, hP, hpm, hK, hd, hB3⟩ := hmid.ex
    clear hmid
    have hsz3 := hB3.size
    have hkl := accS_len2 (ps.take k)
    have hkl2 : (ps.take k).length = k := by simp; omega
    have hacc := accS_le' (ps := ps.take k) (N := 5000) (fun l hl => (HPS.out l (List.mem_of_mem_take hl)).1)
    have hpl : p.length = (accS (ps.take k)).1.length := by rw [← hpm]; simp
    have hp192 : p.length ≤ 15000 := by rw [hkl2] at hacc; omega
    by_cases hlt : k < ps.length
    · obtain ⟨b, o, rfl, hbl, hc⟩ : ∃ b o, ao = some ⟨b, o, none⟩ ∧ b < B ∧ ∀ i, i < ps.length → ∃ pv, w.cell? ⟨b, o + i, none⟩ = some pv ∧ Nodes w B pv (ps.getD i []) := by
        rcases HC.out with h | h
        · subst h; simp at hlt
        · exact h
      obtain ⟨pv, hpc, hpn⟩ := hc k hlt
      clear hc HC
      have hBwr : Below w.heap.size w wr := hB2.trans (hB3.mono (by have := HSZ2.out; omega))
      have hpc3 : wr.cell? ⟨b, o + k, none⟩ = some pv := (hBwr.cell (p := ⟨b, o + k, none⟩) (by show b < w.heap.size; omega)).trans hpc
      have hpn3 := hpn.below (hBwr.mono hBw) (show B ≤ w2.heap.size by have := HSZ2.out; omega)
      obtain ⟨hl1000, hkk⟩ := HPS.out (ps.getD k []) (by simp [hlt])
      have HA : Hid (accS (ps.take (k + 1)) = ((accS (ps.take k)).1 ++ (ps.getD k []).map (mvN 0 (accS (ps.take k)).1.length), (accS (ps.take k)).2 ++ [(((accS (ps.take k)).1.length + (ps.getD k []).length : Nat) : Int) - 1])) := by
        show accS (ps.take (k + 1)) = _
        rw [HTK.out k hlt, accS_snoc]
      rw [← hpl] at HA
      rw [hkl2] at hkl
      generalize ps.getD k [] = l at *
      generalize (accS (ps.take k)).1 = A1 at *
      generalize (accS (ps.take k)).2 = A2 at *
      obtain ⟨pa, pc, rfl, hpn'⟩ := id hpn
      clear hpn' hpn hpc
      obtain ⟨va, vc, rfl⟩ := hP.form
      have HHP : Hid (p.map (·.1) = A1) := hpm
      have HKL : Hid (A2.length = k) := hkl
      clear hacc hpl hpm hkl hkl2
      go_wp2_with fail
      refine (behind_p _ _ p l _ w2.heap.size hsz3 hP hpn3 (by omega) (by omega) hkk).mono ?_
      rintro e w3 ⟨v3, p', rfl, hP3, hm3, hk3, hg3, hat3, hb3⟩
      obtain ⟨va3, vc3, rfl⟩ := hP3.form
      have hpl3 : (p ++ p').length = p.length + l.length := by
        have := congrArg List.length hm3
        simp at this ⊢; omega
      have hK3 : OwnI w3 w2.heap.size _ A2 := World.ownsRow.kept hK hg3 (ownBlock_ne hK hP.row (by decide))
      have hd3 : ∀ q ∈ p ++ p', q.2.ownBlock = none ∨ q.2.ownBlock ≠ _ := fun q hq => by
        rcases List.mem_append.1 hq with hq | hq
        · exact hd q hq
        · cases hob : q.2.ownBlock with
          | none => exact .inl rfl
          | some g =>
            right
            intro he
            have h1 := ((hk3 q hq).lt g hob).1
            have h2 := (hK.lt g he.symm).2
            omega
      have hz3 := hb3.size
      have hm3' : (p ++ p').map (·.1) = (accS (ps.take (k + 1))).1 := by rw [HA.out, List.map_append, HHP.out, hm3]
      have HM3 : Hid ((p ++ p').map (·.1) = (accS (ps.take (k + 1))).1) := hm3'
      have hA2 : (accS (ps.take (k + 1))).2 = A2 ++ [((p ++ p').length : Int) - 1] := by rw [HA.out, hpl3]
      have HA2 : Hid ((accS (ps.take (k + 1))).2 = A2 ++ [((p ++ p').length : Int) - 1]) := hA2
      have hQl : (p ++ p').length ≤ 20000 := by omega
      generalize p ++ p' = Q at *
      have HD3 : Hid (∀ q ∈ Q, q.2.ownBlock = none ∨ q.2.ownBlock ≠ _) := hd3
      clear hm3 hm3' hA2 hk3 hd hg3 hat3 HA hpl3 hP hK hpc3 hd3
      have hK3' := hK3
      unfold OwnI at hK3'
      go_wp2_with (at_builtin; refine wpList_append_lies _ rfl (.tmp 20) (.tmp 24) 61 rfl w2.heap.size 3 j0 (.int .i64 0) 1 8 Tryd.underlying61 hj hy0 hy1 hy2 rfl (by decide) _ _ _ rfl (hK3'.alloc _) ⟨w3.heap.size, 0, none⟩ 1 1 [.int .i64 ((Q.length : Int) - 1)] rfl rfl (cell_news_one _ _ _) (by simp [Value.oneCell']) (by omega) (by have := HKL.out; unfold maxLen; omega) (by have := HKL.out; omega) (by simp; omega) _ rfl ?_; intro g cap w4 hown4 hg4 hat4 hl4)
      have hW := (Below.refl w3.heap.size w3).alloc (Nat.le_refl _) (.cells #[.int .i64 ((Q.length : Int) - 1)] 3)
      obtain ⟨r1, r2, r3⟩ := mk_kids (hP3.below hW) (hK3.below hW) HD3.out hown4 hg4 hat4
      refine ⟨⟨k + 1, by omega, by go_num, ⟨Q, r1, HM3.out, by rw [HA2.out]; exact r2, r3, ?_⟩⟩, by simp [RowKit.intOf]; omega⟩
      exact ((hB3.trans hb3).alloc (by omega) _).grown hg4 (by simp; omega) (fun k hk => (hK3.lt k hk).1)
    · have hke : k = ps.length := by omega
      subst hke
      rw [List.take_length] at hpm hK hkl
      have HHP : Hid (p.map (·.1) = (accS ps).1) := hpm
      have HJ : Hid (joinL op n nm ps = (accS ps).1 ++ [⟨op, n, nm, (accS ps).2⟩]) := rfl
      generalize hA2 : (accS ps).2 = A2 at *
      obtain ⟨ka, kc, hkv⟩ := hK.form
      subst hkv
      have hnb : wr.heap[w.heap.size]? = some (.cells #[.int .i64 op, .int .i64 n, .string nm, .slice na nl nc] 63 (0, 0)) := (hB3.block w.heap.size (by have := HSZ2.out; omega)).trans HBLK.out
      obtain ⟨d0, d1, d2, d3, f3⟩ := node_cells hnb
      have hwz : w.heap.size < w2.heap.size := by have := HSZ2.out; omega
      have hP3 : OwnP (wr.setCell ⟨w.heap.size, 3, none⟩ (.slice ka A2.length kc)) w2.heap.size _ p := ⟨ownsRow_setCell_below hP.row hwz _, fun q hq => ownsRow_setCell_below (hP.kids q hq) hwz _⟩
      have hK3 : OwnI (wr.setCell ⟨w.heap.size, 3, none⟩ (.slice ka A2.length kc)) w2.heap.size (.slice ka A2.length kc) A2 := ownsRow_setCell_below hK hwz _
      have hBwr : Below w.heap.size w wr := hB2.trans (hB3.mono (by omega))
      have hrow := hP3.row
      clear hpm hpl hkl hkl2 hd hacc hnb hP hK
      go_wp2_with (at_builtin; refine wpList_append_lies _ rfl (.tmp 28) (.tmp 30) 22 rfl w2.heap.size 63 i0 (.agg #[.int .i64 0, .int .i64 0, .string ⟨#[]⟩, .slice none 0 0]) 4 56 Tryd.underlying22 hi hz0 hz1 hz2 rfl (by decide) _ _ _ rfl (hrow.alloc _) ⟨wr.heap.size, 0, none⟩ 1 1 [.int .i64 op, .int .i64 n, .string nm, .slice ka A2.length kc] rfl rfl (cell_news4 _ _ _ _ _ _ _ (by simp)) (by simp [Value.oneCell']) (by omega) (by unfold maxLen; omega) (by omega) (by simp; omega) _ rfl ?_; intro g cap w4 hown4 hg4 hat4 hl4)
      have hW := (Below.refl (wr.setCell ⟨w.heap.size, 3, none⟩ (.slice ka A2.length kc)).heap.size _).alloc (Nat.le_refl _) (.cells #[.int .i64 op, .int .i64 n, .string nm, .slice ka A2.length kc] 63)
      have hfin : OwnN w4 w.heap.size (.slice (some ⟨g, 0, none⟩) (p.length + 1) cap) (joinL op n nm ps) := by
        rw [HJ.out]
        exact OwnN_mono ⟨p ++ [(⟨op, n, nm, A2⟩, .slice ka A2.length kc)], by rw [List.map_append, HHP.out]; rfl, (hP3.below hW).snoc (x := ⟨op, n, nm, A2⟩) (hK3.below hW) hown4 hg4⟩ (by omega)
      have HFIN : Hid (OwnN w4 w.heap.size (.slice (some ⟨g, 0, none⟩) (p.length + 1) cap) (joinL op n nm ps)) := hfin
      clear hfin hown4
      have hbe : Below w.heap.size w w4 := ((hBwr.setCell (Nat.le_refl _) _).alloc (by simp; omega) _).grown hg4 (by simp; omega) (fun k hk => by have := (hrow.lt k hk).1; omega)
      go_ret
      exact ⟨_, rfl, HFIN.out, hbe⟩
end Go.Proofs.YtlllkjbbldhddaaDoor

set_option linter.unusedSimpArgs false
set_option linter.unusedVariables false
namespace Go.Proofs.YtlllkjbbldhddaaDoor

theorem kids_low {l : List Nd} {fr : List Nat} (h : BegOk l fr) (j : Nat) (hj : j < l.length) : ∀ k ∈ (l.getD j nd0).kids, 0 ≤ k ∧ k < (j : Int) := by
  intro k hk
  obtain ⟨c, h0, hc, rfl⟩ := (chain_inv (fr := fr) (P := fun c => c ≤ j) (fun c h0 hc => by have := h.low (c - 1); omega) _ _ _ (Nat.le_refl _) (h.at_ j hj).2).2 k (by simpa using hk)
  omega

end Go.Proofs.YtlllkjbbldhddaaDoor

namespace Go.Proofs.YtlllkjbbldhddaaDoor
open Go.RowKit Go.Lib

/-- A list that is answered: of the call's own, or the part that was handed in. -/
def PiR (w : World) (base : Nat) (vp : Value) (m : List Nd) (v : Value) (l : List Nd) : Prop := OwnN w base v l ∨ (v = vp ∧ l = m)
theorem PiR.below {w w' : World} {base : Nat} {vp v : Value} {m l : List Nd} (h : PiR w base vp m v l) (hb : Below w.heap.size w w') : PiR w' base vp m v l := h.imp (fun h => h.below hb) id
theorem OwnN.monoP {w : World} {base base' : Nat} {v : Value} {l : List Nd} (h : OwnN w base v l) (hb : base' ≤ base) : OwnN w base' v l := let ⟨p, h1, h2⟩ := h; ⟨p, h1, ownsRow_mono h2.row hb, fun q hq => ownsRow_mono (h2.kids q hq) hb⟩
theorem PiR.mono {w : World} {base base' : Nat} {vp v : Value} {m l : List Nd} (h : PiR w base vp m v l) (hb : base' ≤ base) : PiR w base' vp m v l := h.imp (fun h => h.monoP hb) id
theorem PiR.nodes {w : World} {base : Nat} {vp v : Value} {m l : List Nd} (h : PiR w base vp m v l) (hm : Nodes w w.heap.size vp m) : Nodes w w.heap.size v l := by
  rcases h with h | ⟨rfl, rfl⟩
  · exact Nodes_of_own h (Nat.le_refl _)
  · exact hm

/-- Lists of such lists; pvs: the slices. -/
structure OwnLv (w : World) (base : Nat) (vp : Value) (m : List Nd) (v : Value) (ps : List (List Nd)) (pvs : List Value) : Prop where
  len : pvs.length = ps.length
  row : w.ownsRow base 22 1 v ps.length pvs
  each : ∀ i, i < ps.length → PiR w base vp m (pvs.getD i (.slice none 0 0)) (ps.getD i [])

theorem OwnLv.lst {w : World} {base : Nat} {vp v : Value} {m : List Nd} {ps : List (List Nd)} {pvs : List Value} (h : OwnLv w base vp m v ps pvs) (hm : Nodes w w.heap.size vp m) : Lst w w.heap.size v ps := by
  obtain ⟨h1, h2⟩ := h.row
  rcases h2 with ⟨rfl, h0⟩ | ⟨g, cap, cur, rfl, hb, hg, hn, hmx, hs, ht⟩
  · have : ps = [] := List.length_eq_zero_iff.1 h0
    subst this
    exact ⟨none, 0, rfl, by simp, by simp, .inl rfl⟩
  · refine ⟨_, cap, rfl, hn, hmx, .inr ⟨g, 0, rfl, lt_of_block hg, fun i hi => ?_⟩⟩
    refine ⟨pvs.getD i (.slice none 0 0), ?_, (h.each i hi).nodes hm⟩
    have hc : w.cell? ⟨g, 0 + i, none⟩ = cur[i]? := by simp [World.cell?, hg]
    have hl := h.len
    rw [hc, ← Array.getElem?_toList]
    have e : cur.toList[i]? = (cur.toList.take (ps.length * 1))[i]? := by rw [List.getElem?_take, if_pos (by omega)]
    rw [e, ht]
    simp [show i < pvs.length by omega]
theorem OwnLv.below {w w' : World} {base : Nat} {vp v : Value} {m : List Nd} {ps : List (List Nd)} {pvs : List Value} (h : OwnLv w base vp m v ps pvs) (hb : Below w.heap.size w w') : OwnLv w' base vp m v ps pvs :=
  ⟨h.len, ownsRow_below h.row hb, fun i hi => (h.each i hi).below hb⟩
theorem OwnLv.snoc {w w1 : World} {base : Nat} {vp v v' : Value} {m : List Nd} {ps : List (List Nd)} {pvs : List Value} {l : List Nd} {pv : Value} (h : OwnLv w base vp m v ps pvs) (hl : PiR w base vp m pv l)
    (hown : w1.ownsRow base 22 1 v' (ps.length + 1) (pvs ++ [pv])) (hg : w.grownBy w1 v.ownBlock) : OwnLv w1 base vp m v' (ps ++ [l]) (pvs ++ [pv]) := by
  have hlen := h.len
  have hk : ∀ {v : Value} {l : List Nd}, PiR w base vp m v l → PiR w1 base vp m v l := fun hp => hp.imp (fun hp => hp.kept hg h.row (by decide) (by decide)) id
  refine ⟨by simp [hlen], by simpa using hown, fun i hi => ?_⟩
  by_cases hlt : i < ps.length
  · have e1 : (pvs ++ [pv]).getD i (.slice none 0 0) = pvs.getD i (.slice none 0 0) := by simp only [List.getD_eq_getElem?_getD]; rw [List.getElem?_append_left (by omega)]
    have e2 : (ps ++ [l]).getD i [] = ps.getD i [] := by simp only [List.getD_eq_getElem?_getD]; rw [List.getElem?_append_left (by omega)]
    rw [e1, e2]
    exact hk (h.each i hlt)
  · have he : i = ps.length := by simp at hi; omega
    have e1 : (pvs ++ [pv]).getD i (.slice none 0 0) = pv := by rw [he, ← hlen]; simp
    have e2 : (ps ++ [l]).getD i [] = l := by rw [he]; simp
    rw [e1, e2]
    exact hk hl

end Go.Proofs.YtlllkjbbldhddaaDoor
