/-
  The document's Part, walked.
-/
import Derived.Test.YtkdcjkhpbbcncaaDoorPoB
import Derived.Test.YtkdcjkhpbbcncaaDoorExCopW
import Derived.Test.YtkdcjkhpbbcncaaDoorExSplPure
set_option linter.unusedSimpArgs false
set_option linter.unusedVariables false
namespace Go.Proofs.YtkdcjkhpbbcncaaDoor
open Go.RowKit Go.Lib

set_option maxHeartbeats 1000000 in
theorem copy_ap (vs : Value) (ns : List Nd) (w : World) (B : Nat) (hBw : B ≤ w.heap.size) (hN : Nodes w B vs ns) (hlen : ns.length * 56 ≤ 140737488355328) (hks : ∀ x ∈ ns, x.kids.length * 8 ≤ 140737488355328) :
    Calls Tryd.prog 11 #[vs] w fun e w' => ∃ v', e = .returned v' ∧ ExO w v' ns w' := by
  have hN := hN.mono hBw
  obtain ⟨ao, cap0, rfl, hl, hm, hc⟩ := hN
  obtain ⟨i0, hi, hz0, hz1, hz2⟩ := info_parts Tryd.infoNode
  obtain ⟨j0, hj, hy0, hy1, hy2⟩ := info_parts Tryd.info3
  unfold maxLen at hm
  have HC : Hid (ns = [] ∨ ∃ b o, ao = some ⟨b, o, none⟩ ∧ b < w.heap.size ∧ ∀ i, i < ns.length → ∃ kv, NodeAt w w.heap.size b (o + i * 4) (ns.getD i nd0) kv) := hc
  clear hc
  go_enter Tryd.func11, Tryd.ntmps11
  go_wp2
  go_loopw [3, 4] (fun x i wr => ∃ k : Nat, k ≤ ns.length ∧ i = .int .i64 k ∧ (∃ p : List (Nd × Value), p.map (·.1) = ns.take k ∧ OwnP wr w.heap.size x p ∧ KdAp p) ∧ Below w.heap.size w wr) (fun _ i _ => ns.length - (RowKit.intOf i).toNat)
  case atStart => exact ⟨0, by omega, rfl, ⟨[], rfl, ⟨World.ownsRow_nil _ _ _ _, by simp⟩, List.Pairwise.nil⟩, Below.refl _ _⟩
  case round =>
    obtain ⟨k, hk, rfl, hown, hB⟩ := hrel
    have hsz := hB.size
    by_cases hlt : k < ns.length
    · obtain ⟨b, o, rfl, hbl, hc⟩ : ∃ b o, ao = some ⟨b, o, none⟩ ∧ b < w.heap.size ∧ ∀ i, i < ns.length → ∃ kv, NodeAt w w.heap.size b (o + i * 4) (ns.getD i nd0) kv := by
        rcases HC.out with h | h
        · subst h; simp at hlt
        · exact h
      obtain ⟨kv, hNA⟩ := hc k hlt
      clear hc HC
      have hNA := hNA.below hB (Nat.le_refl _) hbl
      have hzr := hks (ns.getD k nd0) (by simp [hlt])
      have HS : ns.take (k + 1) = ns.take k ++ [ns.getD k nd0] := by rw [List.take_succ_eq_append_getElem hlt]; simp [hlt]
      have hMl : (ns.take k).length = k := by simp; omega
      generalize ns.take k = M at *
      generalize ns.getD k nd0 = x at *
      have HS' : Hid (ns.take (k + 1) = M ++ [x]) := HS
      clear HS hks
      have HML : Hid (M.length = k) := hMl
      clear hMl
      obtain ⟨op, n, nm, kids⟩ := x
      obtain ⟨c0, c1, c2, c3, hki⟩ := hNA
      simp only at c0 c1 c2 c3 hki hzr
      obtain ⟨ka, kc, rfl, hkl, hkm, hkc⟩ := hki
      have HKC : Hid (kids = [] ∨ ∃ b o, ka = some ⟨b, o, none⟩ ∧ b < w.heap.size ∧ ∀ j, j < kids.length → wr.cell? ⟨b, o + j, none⟩ = some (.int .i64 (kids.getD j 0))) := hkc
      clear hkc
      have hb9 : b < wr.heap.size := by omega
      have hb8 : b ≠ wr.heap.size := by omega
      have hkn := hkm.2
      replace hkm := hkm.1
      unfold maxLen at hkm
      obtain ⟨p, hpM, hP, hAp⟩ := hown
      have HAP : Sld (KdAp p) := ⟨hAp⟩
      clear hAp
      have hpl : p.length = M.length := by rw [← hpM]; simp
      have HPL : Hid (p.length = k) := hpl.trans HML.out
      have HPM : Hid (p.map (·.1) = M) := hpM
      clear hpl hpM
      have HKN : Hid (ka = none → kids.length = 0 ∧ kc = 0) := fun h => by have := hkn h; omega
      clear hkn
      have hE : ((wr.alloc (.cells #[.int .i64 op, .int .i64 n, .string nm, .slice ka kids.length kc] 63)).alloc (.cells #[] 3)).ownsRow wr.heap.size 3 1 (.slice (some ⟨wr.heap.size + 1, 0, none⟩) 0 0) 0 [] := by
        have h := World.ownsRow_lit (base := wr.heap.size) (e := 3) (size := 1) (wr.alloc (.cells #[.int .i64 op, .int .i64 n, .string nm, .slice ka kids.length kc] 63)) #[] 0 (by simp) (by decide) (by simp)
        simpa using h
      have hBq : Below w.heap.size wr ((wr.alloc (.cells #[.int .i64 op, .int .i64 n, .string nm, .slice ka kids.length kc] 63)).alloc (.cells #[] 3)) := ((Below.refl _ _).alloc hsz _).alloc (by simp; omega) _
      go_wp2_with (at_builtin; refine wpList_append_src _ rfl (.tmp 16) (.tmp 18) 61 rfl wr.heap.size 3 j0 (.int .i64 0) 1 8 Tryd.underlying61 hj hy0 hy1 hy2 rfl (by decide) _ 0 [] rfl hE ka kids.length kc (kids.map (Value.int .i64)) rfl HKN.out (by simp) (src_cells HKC.out hBq) (ints_oneCell _ _) (by unfold maxLen; omega) (by omega) (by simp; omega) ?_)
      intro v2 w2 hO2 hg2
      obtain ⟨ao2, cap2, rfl⟩ := OwnI.form (ks := kids) hO2
      have zz := hg2.size
      simp at zz
      have hfar : ∀ o, w2.cell? ⟨wr.heap.size, o, none⟩ = ((wr.alloc (.cells #[.int .i64 op, .int .i64 n, .string nm, .slice ka kids.length kc] 63)).alloc (.cells #[] 3)).cell? ⟨wr.heap.size, o, none⟩ := fun o => hg2.cell_far ⟨wr.heap.size, o, none⟩ (by simp; omega) (by simp [Value.ownBlock])
      have d0 : w2.cell? ⟨wr.heap.size, 0, none⟩ = some (.int .i64 op) := by rw [hfar]; simp
      have d1 : w2.cell? ⟨wr.heap.size, 1, none⟩ = some (.int .i64 n) := by rw [hfar]; simp
      have d2 : w2.cell? ⟨wr.heap.size, 2, none⟩ = some (.string nm) := by rw [hfar]; simp
      have d3 : w2.cell? ⟨wr.heap.size, 3, none⟩ = some (.slice ka kids.length kc) := by rw [hfar]; simp
      have f3 : w2.frozen? ⟨wr.heap.size, 3, none⟩ = false := by rw [hg2.frozen_far ⟨wr.heap.size, 3, none⟩ (by simp; omega) (by simp [Value.ownBlock])]; simp
      have hBw2 : Below wr.heap.size wr w2 := (((Below.refl _ _).alloc (Nat.le_refl _) _).alloc (by simp) _).grown hg2 (by simp; omega) (fun k hk => by simp [Value.ownBlock] at hk; omega)
      have hBw3 : Below wr.heap.size wr (w2.setCell ⟨wr.heap.size, 3, none⟩ (.slice ao2 kids.length cap2)) := hBw2.setCell (Nat.le_refl _) _
      have hP3 := hP.below hBw3
      have hne2 : (Value.slice ao2 kids.length cap2).ownBlock ≠ some wr.heap.size := ownBlock_ne_of hO2 (cur := #[.int .i64 op, .int .i64 n, .string nm, .slice ka kids.length kc]) (e' := 63) (fr := (0, 0)) (by
        rw [hg2.block wr.heap.size (by simp; omega) (by simp [Value.ownBlock])]
        rw [Deep.blk_alloc_lt _ _ _ (by simp), Deep.blk_alloc_new]) (by decide)
      have hO3' : OwnI (w2.setCell ⟨wr.heap.size, 3, none⟩ (.slice ao2 kids.length cap2)) wr.heap.size (.slice ao2 kids.length cap2) kids := ownsRow_setCell_other hO2 hne2 _
      have hO3 : OwnI (w2.setCell ⟨wr.heap.size, 3, none⟩ (.slice ao2 kids.length cap2)) w.heap.size (.slice ao2 kids.length cap2) kids := ownsRow_mono hO3' hsz
      have HAP2 : Sld (KdAp (p ++ [(⟨op, n, nm, kids⟩, .slice ao2 kids.length cap2)])) := ⟨by
        unfold KdAp
        rw [List.pairwise_append]
        refine ⟨HAP.out, List.pairwise_singleton _ _, fun a ha b hb g hg hg2 => ?_⟩
        simp at hb
        subst hb
        have e1 := (rw_block (hP.kids a ha) hg).2.1
        have e2 := (rw_block hO3' hg2).1
        omega⟩
      clear hO3'
      clear c0 c1 c2 c3 hO2 hg2 hBw2 hfar hE hBq HKC HKN
      go_wp2_with (at_builtin; refine wpList_append_lies _ rfl (.tmp 21) (.tmp 23) 22 rfl w.heap.size 63 i0 (.agg #[.int .i64 0, .int .i64 0, .string ⟨#[]⟩, .slice none 0 0]) 4 56 Tryd.underlying22 hi hz0 hz1 hz2 rfl (by decide) _ _ _ rfl (hP3.row.alloc _) ⟨w2.heap.size, 0, none⟩ 1 1 [.int .i64 op, .int .i64 n, .string nm, .slice ao2 kids.length cap2] rfl rfl (cell_news4 _ _ _ _ _ _ _ (by simp)) (by simp [Value.oneCell']) (by omega) (by have := HPL.out; unfold maxLen; omega) (by have := HPL.out; omega) (by simp; omega) _ rfl ?_; intro g cap w1 hown1 hg1 hat hl1)
      refine ⟨⟨k + 1, by omega, by go_num, ?_, ?_⟩, by simp [RowKit.intOf]; omega⟩
      · rw [HS'.out]
        have hA := (hP3.below ((Below.refl _ _).alloc (Nat.le_refl _) (.cells #[.int .i64 op, .int .i64 n, .string nm, .slice ao2 kids.length cap2] 63)))
        exact ⟨p ++ [(⟨op, n, nm, kids⟩, .slice ao2 kids.length cap2)], by simp [HPM.out], hA.snoc (x := ⟨op, n, nm, kids⟩) (hO3.below ((Below.refl _ _).alloc (Nat.le_refl _) _)) hown1 hg1, HAP2.out⟩
      · exact ((hB.trans (hBw3.mono (by omega))).alloc (by simp; omega) _).grown hg1 (by simp; omega) (fun k hk => (hP3.row.lt k hk).1)
    · have hke : k = ns.length := by omega
      subst hke
      go_wp2
      go_ret
      rw [List.take_length] at hown
      exact ⟨_, rfl, ⟨hown, hB⟩⟩
end Go.Proofs.YtkdcjkhpbbcncaaDoor

namespace Go.Proofs.YtkdcjkhpbbcncaaDoor
open Go.RowKit Go.Lib

theorem ndCells_setK (q : List (Nd × Value)) (i : Nat) (y : Nd) (kv : Value) (z : Nd) (h : q[i]? = some (y, kv)) (h1 : z.op = y.op) (h2 : z.n = y.n) (h3 : z.name = y.name) : ndCells (q.set i (z, kv)) = ndCells q := by
  induction q generalizing i with
  | nil => simp at h
  | cons a r ih =>
    obtain ⟨b, kb⟩ := a
    cases i with
    | zero =>
      simp at h
      obtain ⟨rfl, rfl⟩ := h
      simp [ndCells, h1, h2, h3]
    | succ i => simp [ndCells, ih i (by simpa using h)]
/-- One kid of one node is set. -/
theorem OwnP.setKid {w : World} {base : Nat} {x : Value} {q : List (Nd × Value)} (h : OwnP w base x q) (ha : KdAp q) {i j : Nat} {y : Nd} {g n cap : Nat} (hq : q[i]? = some (y, .slice (some ⟨g, 0, none⟩) n cap)) (hn : y.kids.length = n) (u : Int) :
    OwnP (w.setCell ⟨g, j, none⟩ (.int .i64 u)) base x (q.set i (⟨y.op, y.n, y.name, y.kids.set j u⟩, .slice (some ⟨g, 0, none⟩) n cap)) ∧ KdAp (q.set i (⟨y.op, y.n, y.name, y.kids.set j u⟩, .slice (some ⟨g, 0, none⟩) n cap)) := by
  have hm : (y, Value.slice (some ⟨g, 0, none⟩) n cap) ∈ q := List.mem_of_getElem? hq
  have hk := h.kids _ hm
  simp only at hk
  obtain ⟨hil, hqe⟩ := List.getElem?_eq_some_iff.1 hq
  have hp := List.pairwise_iff_getElem.1 ha
  have hoth : ∀ b, b ≠ g → (w.setCell ⟨g, j, none⟩ (.int .i64 u)).heap[b]? = w.heap[b]? := fun b hb => Deep.blk_setCell_other _ _ _ _ hb
  have hgt : ∃ cur, w.heap[g]? = some (.cells cur 3 (0, 0)) := by
    obtain ⟨_, _, _, cur, _, h3, _⟩ := rw_block hk (b := g) rfl
    exact ⟨cur, h3⟩
  obtain ⟨cur, hgc⟩ := hgt
  refine ⟨⟨?_, fun z hz => ?_⟩, ?_⟩
  · rw [ndCells_setK q i y _ ⟨y.op, y.n, y.name, y.kids.set j u⟩ hq rfl rfl rfl, List.length_set]
    exact rw_same h.row (fun b hb => hoth b (fun e => by
      subst e
      obtain ⟨_, _, _, cu, _, h3, _⟩ := rw_block h.row hb
      rw [h3] at hgc
      simp at hgc))
  · obtain ⟨k, hkl, rfl⟩ := List.mem_iff_getElem.1 hz
    have hkq : k < q.length := by rw [List.length_set] at hkl; exact hkl
    rw [List.getElem_set]
    split
    · rename_i hik
      simp only
      exact hk.putT hn j u
    · rename_i hik
      refine rw_same (h.kids _ (List.getElem_mem hkq)) (fun b hb => hoth b (fun e => ?_))
      subst e
      rcases Nat.lt_or_gt_of_ne hik with h1 | h1
      · exact hp i k hil hkq h1 b (by rw [hqe]; rfl) hb
      · exact hp k i hkq hil h1 b hb (by rw [hqe]; rfl)
  · unfold KdAp
    rw [List.pairwise_iff_getElem]
    intro a b hal hbl hab
    rw [List.length_set] at hal hbl
    rw [List.getElem_set, List.getElem_set]
    have h0 := hp a b hal hbl hab
    split
    · rename_i e1
      subst e1
      rw [if_neg (by omega)]
      rw [hqe] at h0
      exact h0
    · split
      · rename_i e1 e2
        subst e2
        rw [hqe] at h0
        exact h0
      · exact h0
/-- Kids of which the first k are moved down. -/
def dnK (a : Int) (ks : List Int) (k : Nat) : List Int := (ks.take k).map (fun q => q - a) ++ ks.drop k
theorem dnK_zero (a : Int) (ks : List Int) : dnK a ks 0 = ks := by simp [dnK]
theorem dnK_len (a : Int) (ks : List Int) (k : Nat) : (dnK a ks k).length = ks.length := by simp [dnK]; omega
theorem dnK_all (a : Int) (ks : List Int) (h : ∀ q ∈ ks, 0 ≤ q) : dnK a ks ks.length = ks.map (mvK 0 (-a)) := by
  unfold dnK
  rw [List.take_length, List.drop_length, List.append_nil]
  refine List.map_congr_left fun q hq => ?_
  have := h q hq
  unfold mvK
  rw [if_pos this]; omega
theorem dnK_at (a : Int) (ks : List Int) {k : Nat} (hk : k < ks.length) : (dnK a ks k).getD k 0 = ks.getD k 0 := by
  unfold dnK
  rw [List.getD_eq_getElem?_getD, List.getElem?_append_right (by simp; omega), List.length_map, List.length_take, List.getElem?_drop]
  have : k + (k - min k ks.length) = k := by omega
  rw [this, List.getD_eq_getElem?_getD]
theorem dnK_set (a : Int) (ks : List Int) {k : Nat} (hk : k < ks.length) : (dnK a ks k).set k (ks.getD k 0 - a) = dnK a ks (k + 1) := by
  unfold dnK
  have e1 : ((ks.take k).map (fun q => q - a)).length = k := by simp; omega
  have e : (ks.drop k).set 0 (ks.getD k 0 - a) = (ks.getD k 0 - a) :: ks.drop (k + 1) := by rw [List.drop_eq_getElem_cons hk]; rfl
  rw [List.set_append_right _ _ (by omega), e1, Nat.sub_self, e, List.take_succ_eq_append_getElem hk, List.map_append]
  simp [hk]
/-- The nodes between two steps: i are moved, of the next one k kids. -/
def dnN (a : Int) (l : List Nd) (i k : Nat) : List Nd := (l.take i).map (mvN 0 (-a)) ++ (match l.drop i with | [] => [] | x :: r => ⟨x.op, x.n, x.name, dnK a x.kids k⟩ :: r)
theorem dnN_len (a : Int) (l : List Nd) (i k : Nat) (hi : i ≤ l.length) : (dnN a l i k).length = l.length := by
  unfold dnN
  cases h : l.drop i with
  | nil => have := congrArg List.length h; simp at this ⊢; omega
  | cons x r => have := congrArg List.length h; simp at this ⊢; omega
theorem dnN_zero (a : Int) (l : List Nd) : dnN a l 0 0 = l := by
  unfold dnN
  cases l with
  | nil => rfl
  | cons x r => simp [dnK_zero]
theorem dnN_all (a : Int) (l : List Nd) : dnN a l l.length 0 = l.map (mvN 0 (-a)) := by simp [dnN]
theorem dnN_split (a : Int) (l : List Nd) {i : Nat} (hi : i < l.length) (k : Nat) : dnN a l i k = (l.take i).map (mvN 0 (-a)) ++ ⟨(l.getD i nd0).op, (l.getD i nd0).n, (l.getD i nd0).name, dnK a (l.getD i nd0).kids k⟩ :: l.drop (i + 1) := by
  unfold dnN
  rw [List.drop_eq_getElem_cons hi]
  simp [hi]
theorem dnN_at (a : Int) (l : List Nd) {i : Nat} (hi : i < l.length) (k : Nat) : (dnN a l i k)[i]? = some ⟨(l.getD i nd0).op, (l.getD i nd0).n, (l.getD i nd0).name, dnK a (l.getD i nd0).kids k⟩ := by
  have e1 : ((l.take i).map (mvN 0 (-a))).length = i := by simp; omega
  rw [dnN_split a l hi, List.getElem?_append_right (by omega), e1, Nat.sub_self]
  rfl
theorem dnN_set (a : Int) (l : List Nd) {i : Nat} (hi : i < l.length) (k k' : Nat) : (dnN a l i k).set i ⟨(l.getD i nd0).op, (l.getD i nd0).n, (l.getD i nd0).name, dnK a (l.getD i nd0).kids k'⟩ = dnN a l i k' := by
  have e1 : ((l.take i).map (mvN 0 (-a))).length = i := by simp; omega
  rw [dnN_split a l hi, dnN_split a l hi, List.set_append_right _ _ (by omega), e1, Nat.sub_self]
  rfl
theorem dnN_next (a : Int) (l : List Nd) {i : Nat} (hi : i < l.length) (h : ∀ q ∈ (l.getD i nd0).kids, 0 ≤ q) : dnN a l i (l.getD i nd0).kids.length = dnN a l (i + 1) 0 := by
  rw [dnN_split a l hi]
  unfold dnN
  rw [List.take_succ_eq_append_getElem hi, List.map_append, List.append_assoc]
  congr 1
  rw [dnK_all a _ h]
  have hx : l[i] = l.getD i nd0 := by simp [hi]
  rw [hx]
  cases hd : l.drop (i + 1) with
  | nil => simp [mvN]
  | cons x r => simp [mvN, dnK_zero]
end Go.Proofs.YtkdcjkhpbbcncaaDoor
