/-
  TbC2, TbC3.
-/
import Derived.Test.YtlllkjbbldhddaaDoorChecked
import GoSem.PinnedTables
import GoSem.Claim
import GoSem.ClaimJoined
import GoSem.ClaimMapViews
import Derived.JoinedTies
import Derived.KernelRfl
import Derived.Shelf.Unicode.DecodeSlow
import Derived.Laws.RangeAny
import Derived.Shelf.Unicode.DecodeAny
import Derived.Test.YtlllkjbbldhddaaDoorProg
import Derived.WalkKit
import Derived.Deep.DeepFit
import Derived.Lib.OthersKept
import Derived.Lib.RuneCountTail
import Derived.Lib.LaidU8
import Derived.MakeChecks
import Derived.ProofKit
import Derived.OpenShut
import Derived.Deep.DeepHandedRow
import Derived.Deep.AppendLies
import Derived.Deep.OwnRows
import Derived.Laws.AppendOwnNone
import Derived.Deep.QuietTactic
import Derived.BigQuiet
import Derived.Deep.RegionWith
import Derived.Laws.DeepStrings4
import Derived.Deep.Slices
import Derived.SizedLaws
import Derived.Below
import Derived.Test.YtlllkjbbldhddaaDoorRows
import Derived.Test.YtlllkjbbldhddaaDoorF01
import Derived.Test.YtlllkjbbldhddaaDoorF02
import Derived.Test.YtlllkjbbldhddaaDoorF03
import Derived.Test.YtlllkjbbldhddaaDoorF04
import Derived.Test.YtlllkjbbldhddaaDoorF05
import Derived.Test.YtlllkjbbldhddaaDoorF06
import Derived.Test.YtlllkjbbldhddaaDoorF07
import Derived.Test.YtlllkjbbldhddaaDoorF08
import Derived.Test.YtlllkjbbldhddaaDoorF09
import Derived.Test.YtlllkjbbldhddaaDoorF13
set_option linter.unusedSimpArgs false
set_option linter.unusedVariables false
namespace Go.Proofs.YtlllkjbbldhddaaDoor
open Go.RowKit Go.Lib

set_option maxHeartbeats 1000000 in
theorem copy_ap (vs : Value) (ns : List Nd) (w : World) (B : Nat) (hBw : B ≤ w.heap.size) (hN : Nodes w B vs ns) (hlen : ns.length * 56 ≤ 140737488355328) (hks : ∀ x ∈ ns, x.kids.length * 8 ≤ 140737488355328) :
    Calls Tryd.prog 11 #[vs] w fun e w' => ∃ v', e = .returned v' ∧ ExO w v' ns w' := by
  have hN := hN.mono hBw
  obtain ⟨ao, cap0, rfl, hl, hm, hc⟩ := hN
  obtain ⟨i0, hi, hz0, hz1, hz2⟩ := info_parts Tryd.infoNode
  obtain ⟨j0, hj, hy0, hy1, hy2⟩ := info_parts Tryd.info3
  unfold maxLen at hm
  have HC : Hid (ns = [] ∨ ∃ b o, ao = some ⟨b, o, none⟩ ∧ b < w.heap.size ∧ ∀ i, i < ns.length → ∃ kv, NodeAt w w.heap.size b (o + i * 4) (ns.getD i nd0) kv) := hc
  clear hc
  go_enter Tryd.func11, Tryd.ntmps11
  go_wp2
  go_loopw [3, 4] (fun x i wr => ∃ k : Nat, k ≤ ns.length ∧ i = .int .i64 k ∧ (∃ p : List (Nd × Value), p.map (·.1) = ns.take k ∧ OwnP wr w.heap.size x p ∧ KdAp p) ∧ Below w.heap.size w wr) (fun _ i _ => ns.length - (RowKit.intOf i).toNat)
  case atStart => exact ⟨0, by omega, rfl, ⟨[], rfl, ⟨World.ownsRow_nil _ _ _ _, by simp⟩, List.Pairwise.nil⟩, Below.refl _ _⟩
  case round =>
    obtain ⟨k, hk, rfl, hown, hB⟩ := hrel
    have hsz := hB.size
    by_cases hlt : k < ns.length
    · obtain ⟨b, o, rfl, hbl, hc⟩ : ∃ b o, ao = some ⟨b, o, none⟩ ∧ b < w.heap.size ∧ ∀ i, i < ns.length → ∃ kv, NodeAt w w.heap.size b (o + i * 4) (ns.getD i nd0) kv := by
        rcases HC.out with h | h
        · subst h; simp at hlt
        · exact h
      obtain ⟨kv, hNA⟩ := hc k hlt
      clear hc HC
      have hNA := hNA.below hB (Nat.le_refl _) hbl
      have hzr := hks (ns.getD k nd0) (by simp [hlt])
      have HS : ns.take (k + 1) = ns.take k ++ [ns.getD k nd0] := by rw [List.take_succ_eq_append_getElem hlt]; simp [hlt]
      have hMl : (ns.take k).length = k := by simp; omega
      generalize ns.take k = M at *
      generalize ns.getD k nd0 = x at *
      have HS' : Hid (ns.take (k + 1) = M ++ [x]) := HS
      clear HS hks
      have HML : Hid (M.length = k) := hMl
      clear hMl
      obtain ⟨op, n, nm, kids⟩ := x
      obtain ⟨c0, c1, c2, c3, hki⟩ := hNA
      simp only at c0 c1 c2 c3 hki hzr
      obtain ⟨ka, kc, rfl, hkl, hkm, hkc⟩ := hki
      have HKC : Hid (kids = [] ∨ ∃ b o, ka = some ⟨b, o, none⟩ ∧ b < w.heap.size ∧ ∀ j, j < kids.length → wr.cell? ⟨b, o + j, none⟩ = some (.int .i64 (kids.getD j 0))) := hkc
      clear hkc
      have hb9 : b < wr.heap.size := by omega
      have hb8 : b ≠ wr.heap.size := by omega
      have hkn := hkm.2
      replace hkm := hkm.1
      unfold maxLen at hkm
      obtain ⟨p, hpM, hP, hAp⟩ := hown
      have HAP : Sld (KdAp p) := ⟨hAp⟩
      clear hAp
      have hpl : p.length = M.length := by rw [← hpM]; simp
      have HPL : Hid (p.length = k) := hpl.trans HML.out
      have HPM : Hid (p.map (·.1) = M) := hpM
      clear hpl hpM
      have HKN : Hid (ka = none → kids.length = 0 ∧ kc = 0) := fun h => by have := hkn h; omega
      clear hkn
      have hE : ((wr.alloc (.cells #[.int .i64 op, .int .i64 n, .string nm, .slice ka kids.length kc] 63)).alloc (.cells #[] 3)).ownsRow wr.heap.size 3 1 (.slice (some ⟨wr.heap.size + 1, 0, none⟩) 0 0) 0 [] := by
        have h := World.ownsRow_lit (base := wr.heap.size) (e := 3) (size := 1) (wr.alloc (.cells #[.int .i64 op, .int .i64 n, .string nm, .slice ka kids.length kc] 63)) #[] 0 (by simp) (by decide) (by simp)
        simpa using h
      have hBq : Below w.heap.size wr ((wr.alloc (.cells #[.int .i64 op, .int .i64 n, .string nm, .slice ka kids.length kc] 63)).alloc (.cells #[] 3)) := ((Below.refl _ _).alloc hsz _).alloc (by simp; omega) _
      go_wp2_with (at_builtin; refine wpList_append_src _ rfl (.tmp 16) (.tmp 18) 61 rfl wr.heap.size 3 j0 (.int .i64 0) 1 8 Tryd.underlying61 hj hy0 hy1 hy2 rfl (by decide) _ 0 [] rfl hE ka kids.length kc (kids.map (Value.int .i64)) rfl HKN.out (by simp) (src_cells HKC.out hBq) (ints_oneCell _ _) (by unfold maxLen; omega) (by omega) (by simp; omega) ?_)
      intro v2 w2 hO2 hg2
      obtain ⟨ao2, cap2, rfl⟩ := OwnI.form (ks := kids) hO2
      have zz := hg2.size
      simp at zz
      have hfar : ∀ o, w2.cell? ⟨wr.heap.size, o, none⟩ = ((wr.alloc (.cells #[.int .i64 op, .int .i64 n, .string nm, .slice ka kids.length kc] 63)).alloc (.cells #[] 3)).cell? ⟨wr.heap.size, o, none⟩ := fun o => hg2.cell_far ⟨wr.heap.size, o, none⟩ (by simp; omega) (by simp [Value.ownBlock])
      have d0 : w2.cell? ⟨wr.heap.size, 0, none⟩ = some (.int .i64 op) := by rw [hfar]; simp
      have d1 : w2.cell? ⟨wr.heap.size, 1, none⟩ = some (.int .i64 n) := by rw [hfar]; simp
      have d2 : w2.cell? ⟨wr.heap.size, 2, none⟩ = some (.string nm) := by rw [hfar]; simp
      have d3 : w2.cell? ⟨wr.heap.size, 3, none⟩ = some (.slice ka kids.length kc) := by rw [hfar]; simp
      have f3 : w2.frozen? ⟨wr.heap.size, 3, none⟩ = false := by rw [hg2.frozen_far ⟨wr.heap.size, 3, none⟩ (by simp; omega) (by simp [Value.ownBlock])]; simp
      have hBw2 : Below wr.heap.size wr w2 := (((Below.refl _ _).alloc (Nat.le_refl _) _).alloc (by simp) _).grown hg2 (by simp; omega) (fun k hk => by simp [Value.ownBlock] at hk; omega)
      have hBw3 : Below wr.heap.size wr (w2.setCell ⟨wr.heap.size, 3, none⟩ (.slice ao2 kids.length cap2)) := hBw2.setCell (Nat.le_refl _) _
      have hP3 := hP.below hBw3
      have hne2 : (Value.slice ao2 kids.length cap2).ownBlock ≠ some wr.heap.size := ownBlock_ne_of hO2 (cur := #[.int .i64 op, .int .i64 n, .string nm, .slice ka kids.length kc]) (e' := 63) (fr := (0, 0)) (by
        rw [hg2.block wr.heap.size (by simp; omega) (by simp [Value.ownBlock])]
        rw [Deep.blk_alloc_lt _ _ _ (by simp), Deep.blk_alloc_new]) (by decide)
      have hO3' : OwnI (w2.setCell ⟨wr.heap.size, 3, none⟩ (.slice ao2 kids.length cap2)) wr.heap.size (.slice ao2 kids.length cap2) kids := ownsRow_setCell_other hO2 hne2 _
      have hO3 : OwnI (w2.setCell ⟨wr.heap.size, 3, none⟩ (.slice ao2 kids.length cap2)) w.heap.size (.slice ao2 kids.length cap2) kids := ownsRow_mono hO3' hsz
      have HAP2 : Sld (KdAp (p ++ [(⟨op, n, nm, kids⟩, .slice ao2 kids.length cap2)])) := ⟨by
        unfold KdAp
        rw [List.pairwise_append]
        refine ⟨HAP.out, List.pairwise_singleton _ _, fun a ha b hb g hg hg2 => ?_⟩
        simp at hb
        subst hb
        have e1 := (rw_block (hP.kids a ha) hg).2.1
        have e2 := (rw_block hO3' hg2).1
        omega⟩
      clear hO3'
      clear c0 c1 c2 c3 hO2 hg2 hBw2 hfar hE hBq HKC HKN
      go_wp2_with (at_builtin; refine wpList_append_lies _ rfl (.tmp 21) (.tmp 23) 22 rfl w.heap.size 63 i0 (.agg #[.int .i64 0, .int .i64 0, .string ⟨#[]⟩, .slice none 0 0]) 4 56 Tryd.underlying22 hi hz0 hz1 hz2 rfl (by decide) _ _ _ rfl (hP3.row.alloc _) ⟨w2.heap.size, 0, none⟩ 1 1 [.int .i64 op, .int .i64 n, .string nm, .slice ao2 kids.length cap2] rfl rfl (cell_news4 _ _ _ _ _ _ _ (by simp)) (by simp [Value.oneCell']) (by omega) (by have := HPL.out; unfold maxLen; omega) (by have := HPL.out; omega) (by simp; omega) _ rfl ?_; intro g cap w1 hown1 hg1 hat hl1)
      refine ⟨⟨k + 1, by omega, by go_num, ?_, ?_⟩, by simp [RowKit.intOf]; omega⟩
      · rw [HS'.out]
        have hA := (hP3.below ((Below.refl _ _).alloc (Nat.le_refl _) (.cells #[.int .i64 op, .int .i64 n, .string nm, .slice ao2 kids.length cap2] 63)))
        exact ⟨p ++ [(⟨op, n, nm, kids⟩, .slice ao2 kids.length cap2)], by simp [HPM.out], hA.snoc (x := ⟨op, n, nm, kids⟩) (hO3.below ((Below.refl _ _).alloc (Nat.le_refl _) _)) hown1 hg1, HAP2.out⟩
      · exact ((hB.trans (hBw3.mono (by omega))).alloc (by simp; omega) _).grown hg1 (by simp; omega) (fun k hk => (hP3.row.lt k hk).1)
    · have hke : k = ns.length := by omega
      subst hke
      go_wp2
      go_ret
      rw [List.take_length] at hown
      exact ⟨_, rfl, ⟨hown, hB⟩⟩
end Go.Proofs.YtlllkjbbldhddaaDoor

namespace Go.Proofs.YtlllkjbbldhddaaDoor
open Go.RowKit Go.Lib

theorem ndCells_setK (q : List (Nd × Value)) (i : Nat) (y : Nd) (kv : Value) (z : Nd) (h : q[i]? = some (y, kv)) (h1 : z.op = y.op) (h2 : z.n = y.n) (h3 : z.name = y.name) : ndCells (q.set i (z, kv)) = ndCells q := by
  induction q generalizing i with
  | nil => simp at h
  | cons a r ih =>
    obtain ⟨b, kb⟩ := a
    cases i with
    | zero =>
      simp at h
      obtain ⟨rfl, rfl⟩ := h
      simp [ndCells, h1, h2, h3]
    | succ i => simp [ndCells, ih i (by simpa using h)]
/-- One kid of one node is set. -/
theorem OwnP.setKid {w : World} {base : Nat} {x : Value} {q : List (Nd × Value)} (h : OwnP w base x q) (ha : KdAp q) {i j : Nat} {y : Nd} {g n cap : Nat} (hq : q[i]? = some (y, .slice (some ⟨g, 0, none⟩) n cap)) (hn : y.kids.length = n) (u : Int) :
    OwnP (w.setCell ⟨g, j, none⟩ (.int .i64 u)) base x (q.set i (⟨y.op, y.n, y.name, y.kids.set j u⟩, .slice (some ⟨g, 0, none⟩) n cap)) ∧ KdAp (q.set i (⟨y.op, y.n, y.name, y.kids.set j u⟩, .slice (some ⟨g, 0, none⟩) n cap)) := by
  have hm : (y, Value.slice (some ⟨g, 0, none⟩) n cap) ∈ q := List.mem_of_getElem? hq
  have hk := h.kids _ hm
  simp only at hk
  obtain ⟨hil, hqe⟩ := List.getElem?_eq_some_iff.1 hq
  have hp := List.pairwise_iff_getElem.1 ha
  have hoth : ∀ b, b ≠ g → (w.setCell ⟨g, j, none⟩ (.int .i64 u)).heap[b]? = w.heap[b]? := fun b hb => Deep.blk_setCell_other _ _ _ _ hb
  have hgt : ∃ cur, w.heap[g]? = some (.cells cur 3 (0, 0)) := by
    obtain ⟨_, _, _, cur, _, h3, _⟩ := rw_block hk (b := g) rfl
    exact ⟨cur, h3⟩
  obtain ⟨cur, hgc⟩ := hgt
  refine ⟨⟨?_, fun z hz => ?_⟩, ?_⟩
  · rw [ndCells_setK q i y _ ⟨y.op, y.n, y.name, y.kids.set j u⟩ hq rfl rfl rfl, List.length_set]
    exact rw_same h.row (fun b hb => hoth b (fun e => by
      subst e
      obtain ⟨_, _, _, cu, _, h3, _⟩ := rw_block h.row hb
      rw [h3] at hgc
      simp at hgc))
  · obtain ⟨k, hkl, rfl⟩ := List.mem_iff_getElem.1 hz
    have hkq : k < q.length := by rw [List.length_set] at hkl; exact hkl
    rw [List.getElem_set]
    split
    · rename_i hik
      simp only
      exact hk.putT hn j u
    · rename_i hik
      refine rw_same (h.kids _ (List.getElem_mem hkq)) (fun b hb => hoth b (fun e => ?_))
      subst e
      rcases Nat.lt_or_gt_of_ne hik with h1 | h1
      · exact hp i k hil hkq h1 b (by rw [hqe]; rfl) hb
      · exact hp k i hkq hil h1 b hb (by rw [hqe]; rfl)
  · unfold KdAp
    rw [List.pairwise_iff_getElem]
    intro a b hal hbl hab
    rw [List.length_set] at hal hbl
    rw [List.getElem_set, List.getElem_set]
    have h0 := hp a b hal hbl hab
    split
    · rename_i e1
      subst e1
      rw [if_neg (by omega)]
      rw [hqe] at h0
      exact h0
    · split
      · rename_i e1 e2
        subst e2
        rw [hqe] at h0
        exact h0
      · exact h0
/-- Kids of which the first k are moved down. -/
def dnK (a : Int) (ks : List Int) (k : Nat) : List Int := (ks.take k).map (fun q => q - a) ++ ks.drop k
theorem dnK_zero (a : Int) (ks : List Int) : dnK a ks 0 = ks := by simp [dnK]
theorem dnK_len (a : Int) (ks : List Int) (k : Nat) : (dnK a ks k).length = ks.length := by simp [dnK]; omega
theorem dnK_all (a : Int) (ks : List Int) (h : ∀ q ∈ ks, 0 ≤ q) : dnK a ks ks.length = ks.map (mvK 0 (-a)) := by
  unfold dnK
  rw [List.take_length, List.drop_length, List.append_nil]
  refine List.map_congr_left fun q hq => ?_
  have := h q hq
  unfold mvK
  rw [if_pos this]; omega
theorem dnK_at (a : Int) (ks : List Int) {k : Nat} (hk : k < ks.length) : (dnK a ks k).getD k 0 = ks.getD k 0 := by
  unfold dnK
  rw [List.getD_eq_getElem?_getD, List.getElem?_append_right (by simp; omega), List.length_map, List.length_take, List.getElem?_drop]
  have : k + (k - min k ks.length) = k := by omega
  rw [this, List.getD_eq_getElem?_getD]
theorem dnK_set (a : Int) (ks : List Int) {k : Nat} (hk : k < ks.length) : (dnK a ks k).set k (ks.getD k 0 - a) = dnK a ks (k + 1) := by
  unfold dnK
  have e1 : ((ks.take k).map (fun q => q - a)).length = k := by simp; omega
  have e : (ks.drop k).set 0 (ks.getD k 0 - a) = (ks.getD k 0 - a) :: ks.drop (k + 1) := by rw [List.drop_eq_getElem_cons hk]; rfl
  rw [List.set_append_right _ _ (by omega), e1, Nat.sub_self, e, List.take_succ_eq_append_getElem hk, List.map_append]
  simp [hk]
/-- The nodes between two steps: i are moved, of the next one k kids. -/
def dnN (a : Int) (l : List Nd) (i k : Nat) : List Nd := (l.take i).map (mvN 0 (-a)) ++ (match l.drop i with | [] => [] | x :: r => ⟨x.op, x.n, x.name, dnK a x.kids k⟩ :: r)
theorem dnN_len (a : Int) (l : List Nd) (i k : Nat) (hi : i ≤ l.length) : (dnN a l i k).length = l.length := by
  unfold dnN
  cases h : l.drop i with
  | nil => have := congrArg List.length h; simp at this ⊢; omega
  | cons x r => have := congrArg List.length h; simp at this ⊢; omega
theorem dnN_zero (a : Int) (l : List Nd) : dnN a l 0 0 = l := by
  unfold dnN
  cases l with
  | nil => rfl
  | cons x r => simp [dnK_zero]
theorem dnN_all (a : Int) (l : List Nd) : dnN a l l.length 0 = l.map (mvN 0 (-a)) := by simp [dnN]
theorem dnN_split (a : Int) (l : List Nd) {i : Nat} (hi : i < l.length) (k : Nat) : dnN a l i k = (l.take i).map (mvN 0 (-a)) ++ ⟨(l.getD i nd0).op, (l.getD i nd0).n, (l.getD i nd0).name, dnK a (l.getD i nd0).kids k⟩ :: l.drop (i + 1) := by
  unfold dnN
  rw [List.drop_eq_getElem_cons hi]
  simp [hi]
theorem dnN_at (a : Int) (l : List Nd) {i : Nat} (hi : i < l.length) (k : Nat) : (dnN a l i k)[i]? = some ⟨(l.getD i nd0).op, (l.getD i nd0).n, (l.getD i nd0).name, dnK a (l.getD i nd0).kids k⟩ := by
  have e1 : ((l.take i).map (mvN 0 (-a))).length = i := by simp; omega
  rw [dnN_split a l hi, List.getElem?_append_right (by omega), e1, Nat.sub_self]
  rfl
theorem dnN_set (a : Int) (l : List Nd) {i : Nat} (hi : i < l.length) (k k' : Nat) : (dnN a l i k).set i ⟨(l.getD i nd0).op, (l.getD i nd0).n, (l.getD i nd0).name, dnK a (l.getD i nd0).kids k'⟩ = dnN a l i k' := by
  have e1 : ((l.take i).map (mvN 0 (-a))).length = i := by simp; omega
  rw [dnN_split a l hi, dnN_split a l hi, List.set_append_right _ _ (by omega), e1, Nat.sub_self]
  rfl
theorem dnN_next (a : Int) (l : List Nd) {i : Nat} (hi : i < l.length) (h : ∀ q ∈ (l.getD i nd0).kids, 0 ≤ q) : dnN a l i (l.getD i nd0).kids.length = dnN a l (i + 1) 0 := by
  rw [dnN_split a l hi]
  unfold dnN
  rw [List.take_succ_eq_append_getElem hi, List.map_append, List.append_assoc]
  congr 1
  rw [dnK_all a _ h]
  have hx : l[i] = l.getD i nd0 := by simp [hi]
  rw [hx]
  cases hd : l.drop (i + 1) with
  | nil => simp [mvN]
  | cons x r => simp [mvN, dnK_zero]
end Go.Proofs.YtlllkjbbldhddaaDoor

set_option linter.unusedSimpArgs false
set_option linter.unusedVariables false
namespace Go.Proofs.YtlllkjbbldhddaaDoor
open Go.RowKit Go.Lib

/-- A cut of a list that is read. -/
theorem Nodes.cutT {w : World} {B : Nat} {b o n cap : Nat} {l : List Nd} (h : Nodes w B (.slice (some ⟨b, o, none⟩) l.length cap) l) {a e : Nat} (hae : a < e) (hel : e ≤ l.length) : Nodes w B (.slice (some ⟨b, o + a * 4, none⟩) (e - a) (cap - a)) ((l.drop a).take (e - a)) := by
  obtain ⟨ao, cap', hv, h1, h2, h3⟩ := h
  simp only [Value.slice.injEq, true_and] at hv
  obtain ⟨rfl, rfl⟩ := hv
  have hln : ((l.drop a).take (e - a)).length = e - a := by simp; omega
  refine ⟨_, cap - a, by rw [hln], by rw [hln]; omega, by omega, .inr ?_⟩
  rcases h3 with h3 | ⟨b', o', e1, hb, hc⟩
  · subst h3; simp at hel; omega
  · cases e1
    refine ⟨b, o + a * 4, rfl, hb, fun i hi => ?_⟩
    rw [hln] at hi
    obtain ⟨kv, hk⟩ := hc (a + i) (by omega)
    refine ⟨kv, ?_⟩
    have e2 : ((l.drop a).take (e - a)).getD i nd0 = l.getD (a + i) nd0 := by
      rw [List.getD_eq_getElem?_getD, List.getElem?_take, if_pos hi, List.getElem?_drop, List.getD_eq_getElem?_getD]
    rw [e2, show o + a * 4 + i * 4 = o + (a + i) * 4 by omega]
    exact hk
theorem gd_mem {ks : List Int} {k : Nat} (h : k < ks.length) : ks.getD k 0 ∈ ks := by simp [h]
/-- Between two steps. -/
structure PoMid (w : World) (a : Int) (m : List Nd) (x : Value) (i k : Nat) (wr : World) : Prop where
  ex : ∃ q : List (Nd × Value), q.map (·.1) = dnN a m i k ∧ OwnP wr w.heap.size x q ∧ KdAp q
  below : Below w.heap.size w wr
theorem PoMid.drew {w wr : World} {a : Int} {m : List Nd} {x : Value} {i k : Nat} (h : PoMid w a m x i k wr) : PoMid w a m x i k wr.drew := by
  obtain ⟨q, hq1, hq2, hq3⟩ := h.ex
  exact ⟨⟨q, hq1, ⟨rw_same hq2.row (fun _ _ => rfl), fun y hy => rw_same (hq2.kids y hy) (fun _ _ => rfl)⟩, hq3⟩, h.below.trans ⟨rfl, rfl, rfl, Nat.le_refl _, fun _ _ => rfl⟩⟩
theorem PoMid.step {w wr : World} {a : Int} {m : List Nd} {x : Value} {i k : Nat} (h : PoMid w a m x i k wr) (hi : i < m.length) (hk : k < (m.getD i nd0).kids.length) {rb rc : Nat} (hx : x = .slice (some ⟨rb, 0, none⟩) m.length rc) :
    ∃ g cap, wr.cell? ⟨rb, i * 4 + 3, none⟩ = some (.slice (some ⟨g, 0, none⟩) (m.getD i nd0).kids.length cap) ∧ (m.getD i nd0).kids.length ≤ cap ∧ cap ≤ maxLen ∧ wr.cell? ⟨g, k, none⟩ = some (.int .i64 ((m.getD i nd0).kids.getD k 0)) ∧ wr.frozen? ⟨g, k, none⟩ = false ∧ g ≠ rb ∧
      PoMid w a m x i (k + 1) (wr.setCell ⟨g, k, none⟩ (.int .i64 ((m.getD i nd0).kids.getD k 0 - a))) := by
  obtain ⟨q, hq1, hq2, hq3⟩ := h.ex
  have hql : q.length = m.length := by
    have := congrArg List.length hq1
    rw [List.length_map, dnN_len _ _ _ _ (by omega)] at this
    exact this
  have hiq : i < q.length := by omega
  have hat : q[i].1 = ⟨(m.getD i nd0).op, (m.getD i nd0).n, (m.getD i nd0).name, dnK a (m.getD i nd0).kids k⟩ := by
    have h1 := dnN_at a m hi k
    rw [← hq1, List.getElem?_map, List.getElem?_eq_getElem hiq] at h1
    simpa using h1
  have hkd := hq2.kids _ (List.getElem_mem hiq)
  have hlk : q[i].1.kids.length = (m.getD i nd0).kids.length := by rw [hat]; exact dnK_len _ _ _
  obtain ⟨g, cap, hkv, hg1, hg2⟩ := rw_some (show wr.ownsRow w.heap.size 3 1 q[i].2 q[i].1.kids.length _ from hkd) (by omega)
  rw [hlk] at hkv
  have hqi : q[i]? = some (q[i].1, .slice (some ⟨g, 0, none⟩) (m.getD i nd0).kids.length cap) := by rw [List.getElem?_eq_getElem hiq, ← hkv]
  subst hx
  have hrow := hq2.row
  rw [hql] at hrow
  have hc3 : wr.cell? ⟨rb, i * 4 + 3, none⟩ = some (.slice (some ⟨g, 0, none⟩) (m.getD i nd0).kids.length cap) := by
    obtain ⟨_, _, _, a3⟩ := ndCells_at q i _ _ hqi
    obtain ⟨u, h1, h2⟩ := rw_cell hrow (i := i * 4 + 3) (by omega)
    rw [h1, ← h2, a3]
  rw [hkv] at hkd
  have hkc := hkd.cellT hlk (i := k) hk
  have hkf := hkd.frT hlk k
  have e4 : q[i].1.kids.getD k 0 = (m.getD i nd0).kids.getD k 0 := by rw [hat]; exact dnK_at a _ hk
  rw [e4] at hkc
  have hst := hq2.setKid hq3 (j := k) hqi hlk ((m.getD i nd0).kids.getD k 0 - a)
  have hcap : (m.getD i nd0).kids.length ≤ cap ∧ cap ≤ maxLen := by
    have h6 := hkd.2
    rcases h6 with ⟨h7, _⟩ | ⟨g', cap', cur, h7, _, _, h8, h9, _⟩
    · cases h7
    · injection h7 with _ _ h7c
      subst h7c
      rw [hlk] at h8; exact ⟨h8, h9⟩
  have hgr : g ≠ rb := fun e => by
    subst e
    obtain ⟨_, _, _, c1, _, h7, _⟩ := rw_block hkd (b := g) rfl
    obtain ⟨_, _, _, c2, _, h8, _⟩ := rw_block hrow (b := g) rfl
    rw [h7] at h8; simp at h8
  refine ⟨g, cap, hc3, hcap.1, hcap.2, hkc, hkf, hgr, ⟨⟨_, ?_, hst.1, hst.2⟩, h.below.setCell (p := ⟨g, k, none⟩) hg1 _⟩⟩
  rw [List.map_set, hq1, hat]
  simp only
  rw [dnK_set a _ hk]
  exact dnN_set a m hi k (k + 1)
theorem PoMid.kidsAt {w wr : World} {a : Int} {m : List Nd} {x : Value} {i k : Nat} (h : PoMid w a m x i k wr) (hi : i < m.length) {rb rc : Nat} (hx : x = .slice (some ⟨rb, 0, none⟩) m.length rc) :
    ∃ ka kc, wr.cell? ⟨rb, i * 4 + 3, none⟩ = some (.slice ka (m.getD i nd0).kids.length kc) := by
  obtain ⟨q, hq1, hq2, hq3⟩ := h.ex
  have hql : q.length = m.length := by
    have := congrArg List.length hq1
    rw [List.length_map, dnN_len _ _ _ _ (by omega)] at this
    exact this
  have hiq : i < q.length := by omega
  have hat : q[i].1 = ⟨(m.getD i nd0).op, (m.getD i nd0).n, (m.getD i nd0).name, dnK a (m.getD i nd0).kids k⟩ := by
    have h1 := dnN_at a m hi k
    rw [← hq1, List.getElem?_map, List.getElem?_eq_getElem hiq] at h1
    simpa using h1
  have hkd := hq2.kids _ (List.getElem_mem hiq)
  have hlk : q[i].1.kids.length = (m.getD i nd0).kids.length := by rw [hat]; exact dnK_len _ _ _
  obtain ⟨ka, kc, hkv⟩ := OwnI.form' hkd
  rw [hlk] at hkv
  have hqi : q[i]? = some (q[i].1, .slice ka (m.getD i nd0).kids.length kc) := by rw [List.getElem?_eq_getElem hiq, ← hkv]
  subst hx
  have hrow := hq2.row
  rw [hql] at hrow
  obtain ⟨_, _, _, a3⟩ := ndCells_at q i _ _ hqi
  obtain ⟨u, h1, h2⟩ := rw_cell hrow (i := i * 4 + 3) (by omega)
  exact ⟨ka, kc, by rw [h1, ← h2, a3]⟩

set_option maxRecDepth 20000 in
set_option maxHeartbeats 8000000 in
theorem partOf_any (w : World) (ao : Option Addr) (cap : Nat) (l : List Nd) (fr : List Nat) (i : Nat) (hR : Rd w ao cap l) (hF : FitX l) (hb : begL l = some fr) (hi : i < l.length) :
    Calls Tryd.prog 49 #[.slice ao l.length cap, .int .i64 i] w fun e w' => ∃ ao' cap', e = .returned (.slice ao' (partL l (fr.getD i 0) i).length cap') ∧ ExO w (.slice ao' (partL l (fr.getD i 0) i).length cap') (partL l (fr.getD i 0) i) w' := by
  obtain ⟨hl0, hl64, hbr, _⟩ := begL_some hb
  have hok := begOk_of hbr
  have hlo := hok.low i
  have hst : stI l i = (fr.getD i 0 : Int) - 1 := by
    have hs := sts_of_beg l [] fr low_nil hbr
    refine stI_some ?_
    have e : sts l = fr.map some := hs
    rw [e]
    have : i < fr.length := by rw [hok.len]; exact hi
    simp [this]
  have CW : Sld (Calls Tryd.prog 46 #[.slice ao l.length cap, .int .i64 i] w fun e w' => e = .returned (.int .i64 ((fr.getD i 0 : Int) - 1)) ∧ w' = w) := ⟨by
    have := walk_any (.slice ao l.length cap) l w w.heap.size hR i hi
    rw [hst] at this
    exact this⟩
  have hkup : ∀ j, j < l.length → ∀ k ∈ (l.getD j nd0).kids, 0 ≤ k ∧ k ≤ 64 := fun j hj k hk => by have := kidsLo_ok hok j hj k hk; omega
  obtain ⟨m, hm⟩ : ∃ m, (l.drop (fr.getD i 0)).take (i + 1 - fr.getD i 0) = m := ⟨_, rfl⟩
  have hpl : partL l (fr.getD i 0) i = m.map (mvN 0 (-((fr.getD i 0 : Nat) : Int))) := by rw [← hm]; rfl
  have hml : m.length = i + 1 - fr.getD i 0 := by rw [← hm]; simp; omega
  have hkm : ∀ j, j < m.length → ∀ k ∈ (m.getD j nd0).kids, 0 ≤ k ∧ k ≤ 64 := fun j hj => by
    have e2 : m.getD j nd0 = l.getD (fr.getD i 0 + j) nd0 := by
      rw [← hm]
      exact getD_sub l _ _ j (by omega)
    rw [e2]
    exact hkup _ (by omega)
  have hk3 : ∀ j, j < m.length → (m.getD j nd0).kids.length ≤ 3 := fun j hj => by
    have e2 : m.getD j nd0 = l.getD (fr.getD i 0 + j) nd0 := by
      rw [← hm]
      exact getD_sub l _ _ j (by omega)
    rw [e2]
    exact formB_kids (hok.at_ _ (by omega)).1
  rw [hpl, List.length_map]
  generalize fr.getD i 0 = a at *
  have hR' := hR
  obtain ⟨ao', cap', hv, h1, h2, h3⟩ := hR'
  simp only [Value.slice.injEq, true_and] at hv
  obtain ⟨rfl, rfl⟩ := hv
  obtain ⟨b, o, rfl, hbl, _⟩ : ∃ b o, ao = some ⟨b, o, none⟩ ∧ b < w.heap.size ∧ ∀ i, i < l.length → ∃ kv, NodeAt w w.heap.size b (o + i * 4) (l.getD i nd0) kv := by
    rcases h3 with h | h
    · subst h; simp at hi
    · exact h
  have hcut : Nodes w w.heap.size (.slice (some ⟨b, o + a * 4, none⟩) (i + 1 - a) (cap - a)) m := by
    rw [← hm]
    exact Nodes.cutT (n := l.length) hR (by omega) (by omega)
  have CC : Sld (Calls Tryd.prog 11 #[.slice (some ⟨b, o + a * 4, none⟩) (i + 1 - a) (cap - a)] w fun e w' => ∃ rb rc, e = .returned (.slice (some ⟨rb, 0, none⟩) m.length rc) ∧ m.length ≤ rc ∧ rc ≤ maxLen ∧ PoMid w a m (.slice (some ⟨rb, 0, none⟩) m.length rc) 0 0 w') := ⟨by
    refine (copy_ap (.slice (some ⟨b, o + a * 4, none⟩) (i + 1 - a) (cap - a)) m w w.heap.size (Nat.le_refl _) hcut (by omega) (fun x hx => ?_)).mono fun e w' ⟨v', h4, h5⟩ => ?_
    · obtain ⟨j, hj, rfl⟩ := List.mem_iff_getElem.1 hx
      have := hk3 j hj
      simp [hj] at this
      omega
    · obtain ⟨q, hq1, hq2, hq3⟩ := h5.ex
      have hql : q.length = m.length := by rw [← hq1]; simp
      obtain ⟨rb, rc, hv, _, _⟩ := rw_some hq2.row (by omega)
      rw [hql] at hv
      subst hv
      have h8 : m.length ≤ rc ∧ rc ≤ maxLen := by
        rcases hq2.row.2 with ⟨h7, _⟩ | ⟨g', cap', cur, h7, _, _, h8, h9, _⟩
        · cases h7
        · injection h7 with _ _ h7c
          subst h7c
          rw [hql] at h8; exact ⟨h8, h9⟩
      exact ⟨rb, rc, h4, h8.1, h8.2, ⟨⟨q, by rw [hq1, dnN_zero], hq2, hq3⟩, h5.below⟩⟩⟩
  have HKM : Sld (∀ j, j < m.length → ∀ k ∈ (m.getD j nd0).kids, 0 ≤ k ∧ k ≤ 64) := ⟨hkm⟩
  have HK3 : Sld (∀ j, j < m.length → (m.getD j nd0).kids.length ≤ 3) := ⟨hk3⟩
  unfold maxLen at h2
  have hia : (a : Int) ≤ (i : Int) + 1 := by omega
  have hil : (i : Int) + 1 ≤ (l.length : Int) := by omega
  have hlc : (l.length : Int) ≤ (cap : Int) := by omega
  have hm64 : m.length ≤ 64 := by omega
  clear hml
  clear hcut hkm hk3 hpl hst hok hbr hb hm hkup hR h3 hF
  go_enter Tryd.func49, Tryd.ntmps49
  go_wp2_with fail
  refine CW.out.mono ?_
  rintro e w2 ⟨rfl, hw2⟩
  subst hw2
  go_wp2_with fail
  refine CC.out.mono ?_
  rintro e w3 ⟨rb, rc, rfl, hrc1, hrc2, hP⟩
  have HP : Sld (PoMid w2 a m (.slice (some ⟨rb, 0, none⟩) m.length rc) 0 0 w3) := ⟨hP⟩
  unfold maxLen at hrc2
  have haI : (a : Int) ≤ 64 := by omega
  clear hP
  go_wp2_with fail
  go_loopw [7] (fun ii wr => ∃ j : Nat, j ≤ m.length ∧ ii = .int .i64 j ∧ PoMid w2 a m (.slice (some ⟨rb, 0, none⟩) m.length rc) j 0 wr) (fun ii _ => m.length - (RowKit.intOf ii).toNat)
  case atStart => exact ⟨0, by omega, rfl, HP.out⟩
  case round =>
    obtain ⟨j, hj, rfl, hmid⟩ := hrel
    have HMID : Sld (PoMid w2 a m (.slice (some ⟨rb, 0, none⟩) m.length rc) j 0 wr) := ⟨hmid⟩
    clear hmid
    by_cases hjl : j < m.length
    · have hjlI : (j : Int) < (m.length : Int) := by omega
      go_wp2_with fail
      go_loopw [8] (fun kk wq => ∃ k : Nat, k ≤ (m.getD j nd0).kids.length ∧ kk = .int .i64 k ∧ PoMid w2 a m (.slice (some ⟨rb, 0, none⟩) m.length rc) j k wq) (fun kk _ => (m.getD j nd0).kids.length - (RowKit.intOf kk).toNat)
      case atStart => exact ⟨0, by omega, rfl, HMID.out⟩
      case round =>
        obtain ⟨k, hk, rfl, hmid⟩ := hrel
        have HM2 : Sld (PoMid w2 a m (.slice (some ⟨rb, 0, none⟩) m.length rc) j k wr) := ⟨hmid⟩
        have hk3 := HK3.out j hjl
        by_cases hkl : k < (m.getD j nd0).kids.length
        · obtain ⟨g, kcap, hc3, hcap1, hcap2, hkc, hkf, hgr, hnx⟩ := hmid.step hjl hkl rfl
          have HNX : Sld (PoMid w2 a m (.slice (some ⟨rb, 0, none⟩) m.length rc) j (k + 1) (wr.setCell ⟨g, k, none⟩ (.int .i64 ((m.getD j nd0).kids.getD k 0 - a)))) := ⟨hnx⟩
          have hq0 := HKM.out j hjl ((m.getD j nd0).kids.getD k 0) (gd_mem hkl)
          have hklI : (k : Int) < ((m.getD j nd0).kids.length : Int) := by omega
          unfold maxLen at hcap2
          have HKB : Sld (k < (m.getD j nd0).kids.length) := ⟨hkl⟩
          generalize (m.getD j nd0).kids.getD k 0 = qq at *
          generalize (m.getD j nd0).kids.length = KL at *
          have hw1 : IntKind.i64.wrap (qq - (a : Int)) = qq - (a : Int) := IntWalk.i64_in _ (by omega)
          clear hnx hmid
          go_wp2_with fail
          go_region
          go_wp2_with fail
          exact ⟨⟨k + 1, by have := HKB.out; omega, by go_num, HNX.out.drew⟩, by have := HKB.out; simp [RowKit.intOf]; omega⟩
        · obtain ⟨ka, kc, hc3⟩ := hmid.kidsAt hjl rfl
          have hke : k = (m.getD j nd0).kids.length := by omega
          have hnx := HM2.out
          rw [hke] at hnx
          have hdn := dnN_next (a : Int) m hjl (fun q hq => (HKM.out j hjl q hq).1)
          have HNX : Sld (PoMid w2 a m (.slice (some ⟨rb, 0, none⟩) m.length rc) (j + 1) 0 wr) := ⟨⟨by rw [← hdn]; exact hnx.ex, hnx.below⟩⟩
          subst hke
          generalize (m.getD j nd0).kids.length = KL at *
          clear hnx hdn hmid
          go_wp2_with fail
          exact ⟨⟨j + 1, by omega, by go_num, HNX.out⟩, by simp [RowKit.intOf]; omega⟩
    · have hje : j = m.length := by omega
      subst hje
      obtain ⟨q, hq1, hq2, hq3⟩ := HMID.out.ex
      rw [dnN_all] at hq1
      have HE : Sld (ExO w2 (.slice (some ⟨rb, 0, none⟩) m.length rc) (m.map (mvN 0 (-((a : Nat) : Int)))) wr) := ⟨⟨q, hq1, hq2, hq3⟩, HMID.out.below⟩
      clear hq1 hq2 hq3
      go_wp2_with fail
      go_ret
      refine ⟨some ⟨rb, 0, none⟩, rc, ?_, ?_⟩
      · first | rfl | simp
      · first | exact HE.out | simpa using HE.out
end Go.Proofs.YtlllkjbbldhddaaDoor
