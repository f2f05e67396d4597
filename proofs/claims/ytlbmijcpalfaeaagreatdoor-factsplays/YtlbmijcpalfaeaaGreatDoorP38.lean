/-
  DcK, DcL.
-/
import Derived.Test.YtlbmijcpalfaeaaGreatDoorP37
set_option linter.unusedSimpArgs false
set_option linter.unusedVariables false
namespace Go.Proofs.YtlbmijcpalfaeaaGreatDoor
open Go.RowKit Go.Lib Go.Sort

/-- Two rows in order, put together up to here. -/
structure MgI (c : Int → Int → Int) (a b : List Int) (i k : Nat) (os : List Int) : Prop where
  perm : os.Perm (a.take i ++ b.take k)
  srt : os.Pairwise fun x y => c x y ≤ 0
  la : ∀ x ∈ os, ∀ y ∈ a.drop i, c x y ≤ 0
  lb : ∀ x ∈ os, ∀ y ∈ b.drop k, c x y ≤ 0
theorem MgI.start (c : Int → Int → Int) (a b : List Int) : MgI c a b 0 0 [] := ⟨by simp, List.Pairwise.nil, fun x hx => (by cases hx), fun x hx => (by cases hx)⟩
theorem drop_at {l : List Int} {i : Nat} (h : i < l.length) : l.drop i = l.getD i 0 :: l.drop (i + 1) := by
  rw [List.drop_eq_getElem_cons h, List.getD_eq_getElem?_getD, List.getElem?_eq_getElem h]; rfl
theorem takeAt {l : List Int} {i : Nat} (h : i < l.length) : l.take (i + 1) = l.take i ++ [l.getD i 0] := by
  rw [List.take_add_one, List.getElem?_eq_getElem h, List.getD_eq_getElem?_getD, List.getElem?_eq_getElem h]; rfl
theorem MgI.left {P : Int → Prop} {c : Int → Int → Int} {a b : List Int} {i k : Nat} {os : List Int} (h : MgI c a b i k os) (hc : Cmp P c) (ha : ∀ x ∈ a, P x) (hb : ∀ x ∈ b, P x) (sa : a.Pairwise fun x y => c x y ≤ 0) (sb : b.Pairwise fun x y => c x y ≤ 0) (hi : i < a.length) (hk : k < b.length) (hle : c (a.getD i 0) (b.getD k 0) ≤ 0) : MgI c a b (i + 1) k (os ++ [a.getD i 0]) := by
  have hm : a.getD i 0 ∈ a := by simp [hi]
  have sa' : (a.drop i).Pairwise fun x y => c x y ≤ 0 := sa.sublist (List.drop_sublist _ _)
  have sb' : (b.drop k).Pairwise fun x y => c x y ≤ 0 := sb.sublist (List.drop_sublist _ _)
  rw [drop_at hi] at sa'
  rw [drop_at hk] at sb'
  refine ⟨?_, ?_, fun x hx y hy => ?_, fun x hx y hy => ?_⟩
  · rw [takeAt hi]
    have := h.perm.append_right [a.getD i 0]
    refine this.trans ?_
    rw [List.append_assoc, List.append_assoc]
    exact List.Perm.append_left _ List.perm_append_comm
  · refine List.pairwise_append.2 ⟨h.srt, List.pairwise_singleton _ _, fun x hx y hy => ?_⟩
    rw [List.mem_singleton] at hy
    subst hy
    exact h.la x hx _ (by rw [drop_at hi]; simp)
  · rcases List.mem_append.1 hx with hx | hx
    · exact h.la x hx y (by rw [drop_at hi]; exact List.mem_cons_of_mem _ hy)
    · rw [List.mem_singleton] at hx
      subst hx
      exact (List.pairwise_cons.1 sa').1 y hy
  · rcases List.mem_append.1 hx with hx | hx
    · exact h.lb x hx y hy
    · rw [List.mem_singleton] at hx
      subst hx
      rw [drop_at hk] at hy
      rcases List.mem_cons.1 hy with rfl | hy
      · exact hle
      · exact hc.trans _ _ _ (ha _ hm) (hb _ (by simp [hk])) (hb _ (List.mem_of_mem_drop hy)) hle ((List.pairwise_cons.1 sb').1 y hy)
theorem MgI.right {P : Int → Prop} {c : Int → Int → Int} {a b : List Int} {i k : Nat} {os : List Int} (h : MgI c a b i k os) (hc : Cmp P c) (ha : ∀ x ∈ a, P x) (hb : ∀ x ∈ b, P x) (sa : a.Pairwise fun x y => c x y ≤ 0) (sb : b.Pairwise fun x y => c x y ≤ 0) (hk : k < b.length) (hgt : i < a.length → ¬ c (a.getD i 0) (b.getD k 0) ≤ 0) : MgI c a b i (k + 1) (os ++ [b.getD k 0]) := by
  have hm : b.getD k 0 ∈ b := by simp [hk]
  have sb' : (b.drop k).Pairwise fun x y => c x y ≤ 0 := sb.sublist (List.drop_sublist _ _)
  rw [drop_at hk] at sb'
  refine ⟨?_, ?_, fun x hx y hy => ?_, fun x hx y hy => ?_⟩
  · rw [takeAt hk, ← List.append_assoc]
    exact h.perm.append_right _
  · refine List.pairwise_append.2 ⟨h.srt, List.pairwise_singleton _ _, fun x hx y hy => ?_⟩
    rw [List.mem_singleton] at hy
    subst hy
    exact h.lb x hx _ (by rw [drop_at hk]; simp)
  · rcases List.mem_append.1 hx with hx | hx
    · exact h.la x hx y hy
    · rw [List.mem_singleton] at hx
      subst hx
      have hil : i < a.length := by
        rcases Nat.lt_or_ge i a.length with h1 | h1
        · exact h1
        · rw [List.drop_eq_nil_of_le h1] at hy; cases hy
      have hma : a.getD i 0 ∈ a := by simp [hil]
      have n1 := hc.neg (a.getD i 0) (b.getD k 0) (ha _ hma) (hb _ hm)
      have h2 := hgt hil
      have sa' : (a.drop i).Pairwise fun x y => c x y ≤ 0 := sa.sublist (List.drop_sublist _ _)
      rw [drop_at hil] at sa' hy
      rcases List.mem_cons.1 hy with rfl | hy
      · omega
      · exact hc.trans _ _ _ (hb _ hm) (ha _ hma) (ha _ (List.mem_of_mem_drop hy)) (by omega) ((List.pairwise_cons.1 sa').1 y hy)
  · rcases List.mem_append.1 hx with hx | hx
    · exact h.lb x hx y (by rw [drop_at hk]; exact List.mem_cons_of_mem _ hy)
    · rw [List.mem_singleton] at hx
      subst hx
      exact (List.pairwise_cons.1 sb').1 y hy
theorem MgI.done {c : Int → Int → Int} {a b : List Int} {i : Nat} {os : List Int} (h : MgI c a b i b.length os) (sa : a.Pairwise fun x y => c x y ≤ 0) : (os ++ a.drop i).Perm (a ++ b) ∧ (os ++ a.drop i).Pairwise fun x y => c x y ≤ 0 := by
  refine ⟨?_, List.pairwise_append.2 ⟨h.srt, sa.sublist (List.drop_sublist _ _), h.la⟩⟩
  have e := h.perm.append_right (a.drop i)
  rw [List.take_length] at e
  refine e.trans ?_
  rw [List.append_assoc]
  refine (List.Perm.append_left _ List.perm_append_comm).trans ?_
  rw [← List.append_assoc, List.take_append_drop]
/-- A piece of a row. -/
theorem Ints.cut {w : World} {B : Nat} {ao : Option Addr} {n cap : Nat} {ks : List Int} (h : Ints w B (.slice ao n cap) ks) {m : Nat} (hm : m ≤ n) : Ints w B (.slice ao m cap) (ks.take m) := by
  obtain ⟨ao', cap', h1, h2, h3, h4⟩ := h
  injection h1 with h1 h5 h6
  subst h1; subst h6
  refine ⟨ao, cap, by rw [List.length_take]; congr 1; omega, by rw [List.length_take]; omega, h3, ?_⟩
  rcases h4 with rfl | ⟨b, o, rfl, hb, hc⟩
  · left; simp
  · right
    refine ⟨b, o, rfl, hb, fun j hj => ?_⟩
    rw [List.length_take] at hj
    rw [hc j (by omega)]
    congr 2
    simp only [List.getD_eq_getElem?_getD]
    rw [List.getElem?_take, if_pos (by omega)]
theorem Ints.from_ {w : World} {B : Nat} {b o n cap : Nat} {ks : List Int} (h : Ints w B (.slice (some ⟨b, o, none⟩) n cap) ks) {m : Nat} (hm : m ≤ n) : Ints w B (.slice (some ⟨b, o + m, none⟩) (n - m) (cap - m)) (ks.drop m) := by
  obtain ⟨ao', cap', h1, h2, h3, h4⟩ := h
  injection h1 with h1 h5 h6
  subst h1; subst h6
  refine ⟨_, cap - m, by rw [List.length_drop]; congr 1; omega, by rw [List.length_drop]; omega, ⟨by omega, by simp⟩, ?_⟩
  rcases h4 with rfl | ⟨b', o', e, hb, hc⟩
  · left; simp
  · injection e with e; injection e with e1 e2 _; subst e1; subst e2
    right
    refine ⟨b, o + m, rfl, hb, fun j hj => ?_⟩
    rw [List.length_drop] at hj
    have := hc (m + j) (by omega)
    rw [show o + m + j = o + (m + j) by omega, this]
    congr 2
    simp only [List.getD_eq_getElem?_getD]
    rw [List.getElem?_drop]
end Go.Proofs.YtlbmijcpalfaeaaGreatDoor

set_option linter.unusedSimpArgs false
set_option linter.unusedVariables false
namespace Go.Proofs.YtlbmijcpalfaeaaGreatDoor
open Go.RowKit Go.Lib Go.Sort

def SrtC (n : Nat) (sh : Nat) (za : Option Addr) (zc : Nat) (la : Option Addr) (lc : Nat) (zs : List Int) (ll : List Nd) (F : Nat) (f : Nat) : Prop :=
  ∀ (ls : List Int) (xa : Option Addr) (xc : Nat) (W : World), ShR W sh za zc la lc zs ll → Ints W W.heap.size (.slice xa ls.length xc) ls → ls.length ≤ f → ls.length ≤ 4096 → (∀ q ∈ ls, InS n (szLs zs) 1073741824 q) →
    Calls Tryz.prog 47 #[.pointer (some ⟨sh, 0, none⟩), .slice xa ls.length xc] W fun e w' => ∃ oa oc os, e = .returned (.slice oa os.length oc) ∧ Ints w' w'.heap.size (.slice oa os.length oc) os ∧ os.Perm ls ∧ (os.Pairwise fun x y => ordO (szLs zs) (lsLs ll) F x y ≤ 0) ∧ Below W.heap.size W w'

set_option maxRecDepth 20000 in
set_option maxHeartbeats 16000000 in
theorem sorted_any {n sh : Nat} {za : Option Addr} {zc : Nat} {la : Option Addr} {lc : Nat} {zs : List Int} {ll : List Nd} {F : Nat} (hL : LayO n (szLs zs) (lsLs ll) 1073741824) (hO : OrdC n sh za zc la lc zs ll 1073741824 F) (hF : 1073741824 ≤ F) : ∀ f, SrtC n sh za zc la lc zs ll F f := by
  intro f
  induction f with
  | zero =>
    intro ls xa xc W hS hx hl _ _
    have : ls = [] := List.length_eq_zero_iff.1 (by omega)
    subst this
    have HX := Sld.mk hx
    clear hS hx
    go_enter Tryz.func47, Tryz.ntmps47
    go_wp2_with fail
    go_ret
    exact ⟨xa, xc, [], rfl, HX.out, List.Perm.refl _, List.Pairwise.nil, Below.refl _ _⟩
  | succ f IH =>
    intro ls xa xc W hS hx hl hl4 hin
    have HX := Sld.mk hx
    obtain ⟨_, hx1, hx2⟩ := hx.bnd
    by_cases h2 : ls.length < 2
    · have hp : ls.Pairwise fun x y => ordO (szLs zs) (lsLs ll) F x y ≤ 0 := by
        match ls, h2 with
        | [], _ => exact List.Pairwise.nil
        | [a], _ => exact List.pairwise_singleton _ _
      have HP := Sld.mk hp
      have h2I : ((ls.length : Nat) : Int) < 2 := by omega
      clear hS hx IH hp hin
      go_enter Tryz.func47, Tryz.ntmps47
      go_wp2_with fail
      go_ret
      exact ⟨xa, xc, ls, rfl, HX.out, List.Perm.refl _, HP.out, Below.refl _ _⟩
    · obtain ⟨b, o, rfl, hb, _⟩ := hx.cellK (i := 0) (by omega)
      obtain ⟨h, hh⟩ : ∃ h, ls.length / 2 = h := ⟨_, rfl⟩
      have hh1 : 1 ≤ h := by omega
      have hh2 : h < ls.length := by omega
      have hh3 : 2 * h ≤ ls.length ∧ ls.length ≤ 2 * h + 1 := by omega
      have CA : Sld (∀ V, Below W.heap.size W V → Calls Tryz.prog 47 #[.pointer (some ⟨sh, 0, none⟩), .slice (some ⟨b, o, none⟩) h xc] V fun e w' => ∃ oa oc os, e = .returned (.slice oa os.length oc) ∧ Ints w' w'.heap.size (.slice oa os.length oc) os ∧ os.Perm (ls.take h) ∧ (os.Pairwise fun x y => ordO (szLs zs) (lsLs ll) F x y ≤ 0) ∧ Below V.heap.size V w') := ⟨fun V hV => by
        have hc := (HX.out.below hV hV.size).cut (m := h) (by omega)
        have := IH (ls.take h) (some ⟨b, o, none⟩) xc V (hS.below hV) (by rw [List.length_take, Nat.min_eq_left (by omega)]; exact hc) (by rw [List.length_take]; omega) (by rw [List.length_take]; omega) (fun q hq => hin q (List.mem_of_mem_take hq))
        rwa [List.length_take, Nat.min_eq_left (by omega)] at this⟩
      have CB : Sld (∀ V, Below W.heap.size W V → Calls Tryz.prog 47 #[.pointer (some ⟨sh, 0, none⟩), .slice (some ⟨b, o + h, none⟩) (ls.length - h) (xc - h)] V fun e w' => ∃ oa oc os, e = .returned (.slice oa os.length oc) ∧ Ints w' w'.heap.size (.slice oa os.length oc) os ∧ os.Perm (ls.drop h) ∧ (os.Pairwise fun x y => ordO (szLs zs) (lsLs ll) F x y ≤ 0) ∧ Below V.heap.size V w') := ⟨fun V hV => by
        have hc := (HX.out.below hV hV.size).from_ (m := h) (by omega)
        have := IH (ls.drop h) (some ⟨b, o + h, none⟩) (xc - h) V (hS.below hV) (by rw [List.length_drop]; exact hc) (by rw [List.length_drop]; omega) (by rw [List.length_drop]; omega) (fun q hq => hin q (List.mem_of_mem_drop hq))
        rwa [List.length_drop] at this⟩
      have HS := Sld.mk hS
      have HIN := Sld.mk hin
      have hqo : Int.tdiv ((ls.length : Nat) : Int) 2 = ((h : Nat) : Int) := by rw [Int.tdiv_eq_ediv_of_nonneg (by omega)]; omega
      have HHH := Sld.mk hh
      clear hS hx IH hin hh
      go_enter Tryz.func47, Tryz.ntmps47
      go_wp2_with fail
      refine (CA.out _ (Below.refl _ _)).mono ?_
      rintro e w1 ⟨aa, ac, l1, rfl, ha, pa, sa, hb1⟩
      have HB1 := Sld.mk hb1
      have HA1 := Sld.mk ha
      have HPA := Sld.mk pa
      have HSA := Sld.mk sa
      clear ha pa sa hb1 CA
      go_wp2_with fail
      refine (CB.out _ HB1.out).mono ?_
      rintro e w2 ⟨ba, bc, l2, rfl, hbi, pb, sb, hb2⟩
      have HB2 : Sld (Below W.heap.size W w2) := ⟨HB1.out.trans (hb2.mono HB1.out.size)⟩
      have HA2 : Sld (Ints w2 w2.heap.size (.slice aa l1.length ac) l1) := ⟨HA1.out.below hb2 hb2.size⟩
      have HBI := Sld.mk hbi
      have HPB := Sld.mk pb
      have HSB := Sld.mk sb
      have HAL : Sld (l1.length = h) := ⟨by rw [HPA.out.length_eq, List.length_take]; omega⟩
      have HBL : Sld (l2.length = ls.length - h) := ⟨by rw [HPB.out.length_eq, List.length_drop]⟩
      have HINA : Sld (∀ x ∈ l1, InS n (szLs zs) 1073741824 x) := ⟨fun x hx => HIN.out x (List.mem_of_mem_take (HPA.out.mem_iff.1 hx))⟩
      have HINB : Sld (∀ x ∈ l2, InS n (szLs zs) 1073741824 x) := ⟨fun x hx => HIN.out x (List.mem_of_mem_drop (HPB.out.mem_iff.1 hx))⟩
      have HPM : Sld ((l1 ++ l2).Perm ls) := ⟨by have := HPA.out.append HPB.out; rwa [List.take_append_drop] at this⟩
      have HCM := Sld.mk (ordO_cmp F 1073741824 hL)
      have HORD : Sld (∀ (x y : Int) (V : World), Below w2.heap.size w2 V → InS n (szLs zs) 1073741824 x → InS n (szLs zs) 1073741824 y → Calls Tryz.prog 69 #[.pointer (some ⟨sh, 0, none⟩), .int .i64 x, .int .i64 y] V fun e w' => e = .returned (.int .i64 (ordO (szLs zs) (lsLs ll) F x y)) ∧ Below V.heap.size V w') := ⟨fun x y V hV hx hy => hO x y V (HS.out.below (HB2.out.trans (hV.mono HB2.out.size))) hx hy (by have := hx.2.2; omega) (by have := hy.2.2; omega)⟩
      have hal : l1.length ≤ 4096 := by have := HAL.out; omega
      have hbl : l2.length ≤ 4096 := by have := HBL.out; omega
      obtain ⟨_, ha1, ha2⟩ := HA2.out.bnd
      obtain ⟨_, hb1, hb3⟩ := HBI.out.bnd
      obtain ⟨i0, hi0, hz0, hz1, hz2⟩ := info_parts Tryz.infoI3
      have hdec : decide (((ls.length : Nat) : Int) < 2) = false := by simp; omega
      simp only [hdec]
      clear hbi pb sb hb2 CB HA1 HB1 HPA HPB HIN hdec hqo HHH HS hO hL
      obtain ⟨oc, hoc⟩ : ∃ oc, ordO (szLs zs) (lsLs ll) F = oc := ⟨_, rfl⟩
      rw [hoc] at HSA HSB HCM HORD
      have HOC := Sld.mk hoc
      clear hoc
      go_wp2_with fail
      go_loopw [7, 8, 9] (fun v i k wr => ∃ (j m : Nat) (os : List Int), j ≤ l1.length ∧ m ≤ l2.length ∧ i = .int .i64 j ∧ k = .int .i64 m ∧ Sld (MgI oc l1 l2 j m os) ∧ Sld (OwnI wr w2.heap.size v os) ∧ Sld (Below w2.heap.size w2 wr)) (fun _ _ k _ => l2.length - (RowKit.intOf k).toNat)
      case atStart => exact ⟨0, 0, [], by omega, by omega, rfl, rfl, ⟨MgI.start oc l1 l2⟩, ⟨OwnI_nil _ _⟩, ⟨Below.refl _ _⟩⟩
      case round =>
        obtain ⟨j, m, os, hj, hm, rfl, rfl, HM, HO, HB⟩ := hrel
        by_cases hlt : m < l2.length
        · obtain ⟨wo, hwo⟩ : ∃ wo, wo = wr := ⟨_, rfl⟩
          subst hwo
          obtain ⟨vb, vo, rfl, hvb, _⟩ := HBI.out.cellK hlt
          have HCB : Sld (∀ V, Below w2.heap.size w2 V → V.cell? ⟨vb, vo + m, none⟩ = some (.int .i64 (l2.getD m 0))) := ⟨fun V hV => by
            obtain ⟨b', o', e, _, h⟩ := (HBI.out.below hV hV.size).cellK hlt
            injection e with e; injection e with e1 e2 _; subst e1; subst e2; exact h⟩
          have HMB : Sld (l2.getD m 0 ∈ l2) := ⟨by simp [hlt]⟩
          have HRT : Sld (∀ j os, MgI oc l1 l2 j m os → (j < l1.length → ¬ oc (l1.getD j 0) (l2.getD m 0) ≤ 0) → MgI oc l1 l2 j (m + 1) (os ++ [l2.getD m 0])) := ⟨fun j os h1 h2 => h1.right HCM.out HINA.out HINB.out HSA.out HSB.out hlt h2⟩
          have HLF : Sld (∀ j os, MgI oc l1 l2 j m os → j < l1.length → oc (l1.getD j 0) (l2.getD m 0) ≤ 0 → MgI oc l1 l2 (j + 1) m (os ++ [l1.getD j 0])) := ⟨fun j os h1 h2 h3 => h1.left HCM.out HINA.out HINB.out HSA.out HSB.out h2 hlt h3⟩
          generalize l2.getD m 0 = bz at *
          go_wp2_with fail
          go_loopw [7, 8] (fun v i wq => ∃ (j : Nat) (os : List Int), j ≤ l1.length ∧ i = .int .i64 j ∧ Sld (MgI oc l1 l2 j m os) ∧ Sld (OwnI wq w2.heap.size v os) ∧ Sld (Below w2.heap.size w2 wq)) (fun _ i _ => l1.length - (RowKit.intOf i).toNat)
          case atStart => exact ⟨j, os, hj, rfl, HM, HO, HB⟩
          case round =>
            clear HM HO HB hj
            obtain ⟨j, os, hj, rfl, HM, HO, HB⟩ := hrel
            obtain ⟨va, vc, hv, hv1, hv2, _⟩ := ownI_slice HO.out
            subst hv
            have d0 := HCB.out wr HB.out
            have hol : Sld (os.length ≤ 8192) := ⟨by have := HM.out.perm.length_eq; rw [List.length_append, List.length_take, List.length_take] at this; omega⟩
            by_cases hjl : j < l1.length
            · obtain ⟨ab, ao, rfl, hab, e0⟩ := (HA2.out.below HB.out HB.out.size).cellK hjl
              have HCA : Sld (∀ V, Below w2.heap.size w2 V → V.cell? ⟨ab, ao + j, none⟩ = some (.int .i64 (l1.getD j 0))) := ⟨fun V hV => by
                obtain ⟨b', o', e, _, h⟩ := (HA2.out.below hV hV.size).cellK hjl
                injection e with e; injection e with e1 e2 _; subst e1; subst e2; exact h⟩
              have hjI : (j : Int) < (l1.length : Int) := by omega
              have HMA : Sld (l1.getD j 0 ∈ l1) := ⟨by simp [hjl]⟩
              have HL1 := Sld.mk (HLF.out j os HM.out hjl)
              have HR1 : Sld (¬ oc (l1.getD j 0) bz ≤ 0 → MgI oc l1 l2 j (m + 1) (os ++ [bz])) := ⟨fun h => HRT.out j os HM.out (fun _ => by omega)⟩
              have CO : Sld (∀ d os', Calls Tryz.prog 69 #[.pointer (some ⟨sh, 0, none⟩), .int .i64 (l1.getD j 0), .int .i64 bz] (grow (redrawn wr d) os') fun e w'' => e = .returned (.int .i64 (oc (l1.getD j 0) bz)) ∧ ∃ p : Regrown, w'' = grow (redrawn wr p.d) p.os) := ⟨fun d os' => Calls.regrown_of (HORD.out _ _ _ (HB.out.trans ((below_regrown wr d os').mono HB.out.size)) (HINA.out _ HMA.out) (HINB.out _ HMB.out))⟩
              have g0 := cell_regrown e0
              have g1 := cell_regrown d0
              clear HMA e0 d0
              generalize l1.getD j 0 = az at *
              generalize oc az bz = R at *
              by_cases hR : R ≤ 0
              · have HL2 := Sld.mk (HL1.out hR)
                have hdR : decide (R ≤ 0) = true := by simp [hR]
                go_wp2_with fail
                refine wp_region_quiet_below (by kernel_rfl) (by kernel_rfl) ?_
                iterate 17 (go_big_quiet_step ((go_at_call 69; exact CO.out _ _)))
                refine wpQuiet_nil ?_
                intro _ hw'
                obtain ⟨⟨ds, oss⟩, hw''⟩ := hw'
                subst hw''
                have hbX : Below wr.heap.size wr (grow (redrawn wr ds) oss) := below_regrown wr ds oss
                have HBX : Sld (Below w2.heap.size w2 (grow (redrawn wr ds) oss)) := ⟨HB.out.trans (hbX.mono HB.out.size)⟩
                have HOX : Sld (OwnI (grow (redrawn wr ds) oss) w2.heap.size (.slice va os.length vc) os) := ⟨HO.out.below hbX⟩
                clear g0 g1 CO hR hdR hbX
                have a0 := HCA.out _ HBX.out
                generalize grow (redrawn wr ds) oss = wX at *
                have hsx := HBX.out.size
                have hrow : wX.ownsRow w2.heap.size 3 1 (.slice va os.length vc) os.length (os.map (Value.int .i64)) := HOX.out
                have hol2 := hol.out
                go_wp2_with (at_builtin; refine wpList_append_lies _ rfl (.tmp 51) (.tmp 56) 24 rfl w2.heap.size 3 i0 (.int .i64 0) 1 8 Tryz.underlying24 hi0 hz0 hz1 hz2 rfl (by decide) _ _ _ rfl (hrow.alloc _) ⟨wX.heap.size, 0, none⟩ 1 1 [.int .i64 az] rfl rfl (cell_news_one _ _ _) (by simp [Value.oneCell']) (by omega) (by unfold maxLen; omega) (by omega) (by simp; omega) _ rfl ?_; intro g6 cap6 w6 hown6 hg6 hat6 hl6)
                have HB6 : Sld (Below w2.heap.size w2 w6) := ⟨(HBX.out.alloc HBX.out.size _).grown hg6 (by have := HBX.out.size; simp; omega) (fun q hq => (rw_block hrow hq).1)⟩
                have HO6 : Sld (OwnI w6 w2.heap.size (.slice (some ⟨g6, 0, none⟩) (os.length + 1) cap6) (os ++ [az])) := ⟨by unfold OwnI; rw [List.length_append, List.map_append]; exact hown6⟩
                clear hown6 hg6 hat6 hl6 hrow HOX HBX
                go_wp2_with fail
                exact ⟨⟨j + 1, os ++ [az], by omega, by go_num, HL2, HO6, HB6⟩, by simp [RowKit.intOf]; omega⟩
              · have HR2 := Sld.mk (HR1.out hR)
                have hdR : decide (R ≤ 0) = false := by simp; omega
                go_wp2_with fail
                refine wp_region_quiet_below (by kernel_rfl) (by kernel_rfl) ?_
                iterate 17 (go_big_quiet_step ((go_at_call 69; exact CO.out _ _)))
                refine wpQuiet_nil ?_
                intro _ hw'
                obtain ⟨⟨ds, oss⟩, hw''⟩ := hw'
                subst hw''
                have hbX : Below wr.heap.size wr (grow (redrawn wr ds) oss) := below_regrown wr ds oss
                have HBX : Sld (Below w2.heap.size w2 (grow (redrawn wr ds) oss)) := ⟨HB.out.trans (hbX.mono HB.out.size)⟩
                have HOX : Sld (OwnI (grow (redrawn wr ds) oss) w2.heap.size (.slice va os.length vc) os) := ⟨HO.out.below hbX⟩
                clear g0 g1 CO hR hdR hbX
                have b0 := HCB.out _ HBX.out
                generalize grow (redrawn wr ds) oss = wX at *
                have hsx := HBX.out.size
                have hrow : wX.ownsRow w2.heap.size 3 1 (.slice va os.length vc) os.length (os.map (Value.int .i64)) := HOX.out
                have hol2 := hol.out
                go_wp2_with (at_builtin; refine wpList_append_lies _ rfl (.tmp 60) (.tmp 65) 24 rfl w2.heap.size 3 i0 (.int .i64 0) 1 8 Tryz.underlying24 hi0 hz0 hz1 hz2 rfl (by decide) _ _ _ rfl (hrow.alloc _) ⟨wX.heap.size, 0, none⟩ 1 1 [.int .i64 bz] rfl rfl (cell_news_one _ _ _) (by simp [Value.oneCell']) (by omega) (by unfold maxLen; omega) (by omega) (by simp; omega) _ rfl ?_; intro g6 cap6 w6 hown6 hg6 hat6 hl6)
                have HB6 : Sld (Below w2.heap.size w2 w6) := ⟨(HBX.out.alloc HBX.out.size _).grown hg6 (by have := HBX.out.size; simp; omega) (fun q hq => (rw_block hrow hq).1)⟩
                have HO6 : Sld (OwnI w6 w2.heap.size (.slice (some ⟨g6, 0, none⟩) (os.length + 1) cap6) (os ++ [bz])) := ⟨by unfold OwnI; rw [List.length_append, List.map_append]; exact hown6⟩
                clear hown6 hg6 hat6 hl6 hrow HOX HBX
                go_wp2_with fail
                exact ⟨⟨j, m + 1, os ++ [bz], by omega, by omega, rfl, by go_num, HR2, HO6, HB6⟩, by simp [RowKit.intOf]; omega⟩
            · have hje : j = l1.length := by omega
              have HR2 := Sld.mk (HRT.out j os HM.out (fun h => absurd h hjl))
              have hjI : ¬ ((j : Int) < (l1.length : Int)) := by omega
              have hdj : decide (j < l1.length) = false := by simp; omega
              have hdj2 : decide ((j : Int) < (l1.length : Int)) = false := by simp; omega
              clear hje d0
              go_wp2_with fail
              refine wp_region_quiet_below (by kernel_rfl) (by kernel_rfl) ?_
              iterate 17 (go_big_quiet_step (fail))
              refine wpQuiet_nil ?_
              intro _ hw'
              obtain ⟨⟨ds, oss⟩, hw''⟩ := hw'
              subst hw''
              have hbX : Below wr.heap.size wr (grow (redrawn wr ds) oss) := below_regrown wr ds oss
              have HBX : Sld (Below w2.heap.size w2 (grow (redrawn wr ds) oss)) := ⟨HB.out.trans (hbX.mono HB.out.size)⟩
              have HOX : Sld (OwnI (grow (redrawn wr ds) oss) w2.heap.size (.slice va os.length vc) os) := ⟨HO.out.below hbX⟩
              clear hbX hdj hdj2
              have b0 := HCB.out _ HBX.out
              generalize grow (redrawn wr ds) oss = wX at *
              have hsx := HBX.out.size
              have hrow : wX.ownsRow w2.heap.size 3 1 (.slice va os.length vc) os.length (os.map (Value.int .i64)) := HOX.out
              have hol2 := hol.out
              go_wp2_with (at_builtin; refine wpList_append_lies _ rfl (.tmp 60) (.tmp 65) 24 rfl w2.heap.size 3 i0 (.int .i64 0) 1 8 Tryz.underlying24 hi0 hz0 hz1 hz2 rfl (by decide) _ _ _ rfl (hrow.alloc _) ⟨wX.heap.size, 0, none⟩ 1 1 [.int .i64 bz] rfl rfl (cell_news_one _ _ _) (by simp [Value.oneCell']) (by omega) (by unfold maxLen; omega) (by omega) (by simp; omega) _ rfl ?_; intro g6 cap6 w6 hown6 hg6 hat6 hl6)
              have HB6 : Sld (Below w2.heap.size w2 w6) := ⟨(HBX.out.alloc HBX.out.size _).grown hg6 (by have := HBX.out.size; simp; omega) (fun q hq => (rw_block hrow hq).1)⟩
              have HO6 : Sld (OwnI w6 w2.heap.size (.slice (some ⟨g6, 0, none⟩) (os.length + 1) cap6) (os ++ [bz])) := ⟨by unfold OwnI; rw [List.length_append, List.map_append]; exact hown6⟩
              clear hown6 hg6 hat6 hl6 hrow HOX HBX
              go_wp2_with fail
              exact ⟨⟨j, m + 1, os ++ [bz], by omega, by omega, rfl, by go_num, HR2, HO6, HB6⟩, by simp [RowKit.intOf]; omega⟩
        · have hme : m = l2.length := by omega
          subst hme
          have HD := Sld.mk (HM.out.done HSA.out)
          obtain ⟨va, vc, hv, hv1, hv2, _⟩ := ownI_slice HO.out
          subst hv
          have hol : os.length ≤ 8192 := by have := HM.out.perm.length_eq; rw [List.length_append, List.length_take, List.length_take] at this; omega
          have hrow : wr.ownsRow w2.heap.size 3 1 (.slice va os.length vc) os.length (os.map (Value.int .i64)) := HO.out
          have hsx := HB.out.size
          obtain ⟨ab, ao, rfl, hab, _⟩ := (HA2.out.below HB.out HB.out.size).cellK (i := 0) (by have := HAL.out; omega)
          have HSRC : Sld (∀ idx u, ((l1.drop j).map (Value.int .i64))[idx]? = some u → wr.cell? ⟨ab, ao + j + idx, none⟩ = some u) := ⟨fun idx u hu => by
            rw [List.getElem?_map] at hu
            obtain ⟨z, hz, rfl⟩ := Option.map_eq_some_iff.1 hu
            rw [List.getElem?_drop] at hz
            obtain ⟨hl', e'⟩ := List.getElem?_eq_some_iff.1 hz
            obtain ⟨b', o', e, _, hcell⟩ := (HA2.out.below HB.out HB.out.size).cellK hl'
            injection e with e; injection e with e1 e2 _; subst e1; subst e2
            rw [show ao + j + idx = ao + (j + idx) by omega, hcell]
            simp [hl', e']⟩
          have HONE : Sld (∀ u ∈ (l1.drop j).map (Value.int .i64), u.oneCell' = true) := ⟨fun u hu => by
            obtain ⟨x, _, rfl⟩ := List.mem_map.1 hu
            rfl⟩
          have HLL : Sld (((l1.drop j).map (Value.int .i64)).length = (l1.length - j) * 1) := ⟨by simp⟩
          have hal2 := hal
          by_cases hac : j = ac
          · subst hac
            have hzero : l1.length - j = 0 := by omega
            have hdn : l1.drop j = [] := List.drop_eq_nil_of_le (by omega)
            rw [hdn, List.append_nil] at HD
            go_wp2_with (at_builtin; refine wpList_append_src _ rfl (.tmp 67) (.tmp 70) 24 rfl w2.heap.size 3 i0 (.int .i64 0) 1 8 Tryz.underlying24 hi0 hz0 hz1 hz2 rfl (by decide) _ os.length (os.map (Value.int .i64)) rfl hrow (some ⟨ab, ao, none⟩) 0 0 [] rfl (fun e => by cases e) (by simp) (fun ad _ idx u hu => by simp at hu) (by simp) (by unfold maxLen; omega) (by omega) hsx ?_; intro v7 w7 hown7 hg7)
            have HB7 : Sld (Below w2.heap.size w2 w7) := ⟨HB.out.grown hg7 hsx (fun q hq => (rw_block hrow hq).1)⟩
            have HO7 : Sld (OwnI w7 w2.heap.size v7 os) := ⟨by unfold OwnI; simpa using hown7⟩
            clear hown7 hg7 hrow HSRC HONE HLL
            go_wp2_with fail
            go_ret
            obtain ⟨ra, rc, e, _⟩ := ownI_slice HO7.out
            subst e
            exact ⟨ra, rc, os, rfl, Ints_of_own HO7.out (Nat.le_refl _), HD.out.1.trans HPM.out, by rw [HOC.out]; exact HD.out.2, HB2.out.trans (HB7.out.mono HB2.out.size)⟩
          · have hjc : j < ac := by omega
            go_wp2_with (at_builtin; refine wpList_append_src _ rfl (.tmp 67) (.tmp 70) 24 rfl w2.heap.size 3 i0 (.int .i64 0) 1 8 Tryz.underlying24 hi0 hz0 hz1 hz2 rfl (by decide) _ os.length (os.map (Value.int .i64)) rfl hrow (some ⟨ab, ao + j, none⟩) (l1.length - j) _ ((l1.drop j).map (Value.int .i64)) rfl (fun e => by cases e) HLL.out (fun ad had idx u hu => by injection had with had; subst had; rw [Go.WideShapes.add_plain]; exact HSRC.out idx u hu) HONE.out (by unfold maxLen; omega) (by omega) hsx ?_; intro v7 w7 hown7 hg7)
            have HB7 : Sld (Below w2.heap.size w2 w7) := ⟨HB.out.grown hg7 hsx (fun q hq => (rw_block hrow hq).1)⟩
            have HO7 : Sld (OwnI w7 w2.heap.size v7 (os ++ l1.drop j)) := ⟨by unfold OwnI; rw [List.length_append, List.length_drop, List.map_append]; exact hown7⟩
            clear hown7 hg7 hrow HSRC HONE HLL
            go_wp2_with fail
            go_ret
            obtain ⟨ra, rc, e, _⟩ := ownI_slice HO7.out
            subst e
            exact ⟨ra, rc, os ++ l1.drop j, rfl, Ints_of_own HO7.out (Nat.le_refl _), HD.out.1.trans HPM.out, by rw [HOC.out]; exact HD.out.2, HB2.out.trans (HB7.out.mono HB2.out.size)⟩
end Go.Proofs.YtlbmijcpalfaeaaGreatDoor
