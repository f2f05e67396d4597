/-
  PjS, BkX, BkR.
-/
import Derived.Shelf.Unicode.DecodeSlow
import Derived.Laws.RangeAny
import Derived.Shelf.Unicode.DecodeAny
import Derived.Test.YtlllkjbbldhddaaDoorProg
import Derived.WalkKit
import Derived.Deep.DeepFit
import Derived.Lib.OthersKept
import Derived.Lib.RuneCountTail
import Derived.Deep.AppendLies
import Derived.Deep.OwnRows
import Derived.Laws.AppendOwnNone
import Derived.Deep.QuietTactic
import Derived.BigQuiet
import Derived.Deep.RegionWith
import Derived.Laws.DeepStrings4
import Derived.Lib.MapLaws
import Derived.Sort.Walk0
import Derived.Lib.ItoaNum
import Derived.Maps.OwnSet
import Derived.StringKeys
import Derived.Deep.Slices
import Derived.Below
import Derived.Laws.ResultCell
import Derived.Deep.RegionHeld3
import Derived.Deep.RegionLaw
import Derived.Test.YtlllkjbbldhddaaDoorF01
import Derived.Test.YtlllkjbbldhddaaDoorF02
import Derived.Test.YtlllkjbbldhddaaDoorF03
import Derived.Test.YtlllkjbbldhddaaDoorF04
import Derived.Test.YtlllkjbbldhddaaDoorF05
import Derived.Test.YtlllkjbbldhddaaDoorF06
import Derived.Test.YtlllkjbbldhddaaDoorF07
import Derived.Test.YtlllkjbbldhddaaDoorF08
import Derived.Test.YtlllkjbbldhddaaDoorF09
import Derived.Test.YtlllkjbbldhddaaDoorF10
import Derived.Test.YtlllkjbbldhddaaDoorF11
import Derived.Test.YtlllkjbbldhddaaDoorF12
import Derived.Test.YtlllkjbbldhddaaDoorF13
import Derived.Test.YtlllkjbbldhddaaDoorF14
import Derived.Test.YtlllkjbbldhddaaDoorF15
import Derived.Test.YtlllkjbbldhddaaDoorF16
import Derived.Test.YtlllkjbbldhddaaDoorF17
set_option linter.unusedSimpArgs false
set_option linter.unusedVariables false
namespace Go.Proofs.YtlllkjbbldhddaaDoor
open Go.RowKit Go.Lib

theorem pSnocRec {α : Type} {P : List α → Prop} (nil : P []) (snoc : ∀ l a, P l → P (l ++ [a])) (l : List α) : P l := by
  rw [← List.reverse_reverse l]
  induction l.reverse with
  | nil => exact nil
  | cons a r ih => rw [List.reverse_cons]; exact snoc _ a ih

theorem pChain_move (fr0 fq : List Nat) (hq : Low fq) : ∀ (ks : List Int) (c a : Nat), c ≤ fq.length → chainL fq ks c = some a → chainL (fr0 ++ fq.map (· + fr0.length)) (ks.map (mvK 0 fr0.length)) (fr0.length + c) = some (fr0.length + a) := by
  intro ks
  induction ks with
  | nil => intro c a _ h; simp [chainL] at h ⊢; exact h
  | cons k ks ih =>
    intro c a hc h
    simp only [chainL] at h
    split at h
    · cases h
    · rename_i hn
      obtain ⟨h0, hk⟩ : c ≠ 0 ∧ k = (c : Int) - 1 := by
        constructor
        · intro e; exact hn (.inl e)
        · by_cases e : k = (c : Int) - 1
          · exact e
          · exact absurd (.inr e) hn
      simp only [List.map_cons, chainL]
      have hkk : mvK 0 fr0.length k = ((fr0.length + c : Nat) : Int) - 1 := by unfold mvK; rw [if_pos (by omega)]; omega
      rw [if_neg (by rw [hkk]; simp; omega)]
      have hg : (fr0 ++ fq.map (· + fr0.length)).getD (fr0.length + c - 1) 0 = fr0.length + fq.getD (c - 1) 0 := by
        simp only [List.getD_eq_getElem?_getD]
        rw [List.getElem?_append_right (by omega), show fr0.length + c - 1 - fr0.length = c - 1 by omega, List.getElem?_map]
        rw [List.getElem?_eq_getElem (show c - 1 < fq.length by omega)]
        simp; omega
      rw [hg]
      exact ih _ _ (by have := hq (c - 1); omega) h

/-- Behind other nodes a list is gone through the same way. -/
theorem pBegR_move (fr0 : List Nat) : ∀ (p : List Nd) (fp : List Nat), begR [] p = some fp → begR fr0 (p.map (mvN 0 fr0.length)) = some (fr0 ++ fp.map (· + fr0.length)) := by
  intro p
  induction p using pSnocRec with
  | nil => intro fp h; simp [begR] at h; subst h; simp [begR]
  | snoc p x ih =>
    intro fp h
    rw [begR_snoc] at h
    cases hp : begR [] p with
    | none => rw [hp] at h; cases h
    | some fq =>
      rw [hp, Option.bind_some] at h
      obtain ⟨hf, a, hc, rfl⟩ := stp_some h
      have hlow := (begR_some hp low_nil).2.1
      rw [List.map_append, List.map_cons, List.map_nil, begR_snoc, ih fq hp, Option.bind_some]
      unfold stp
      rw [if_pos (by rw [mvN_form]; exact hf), mvN_kids_rev]
      have hm := pChain_move fr0 fq hlow _ _ _ (Nat.le_refl _) hc
      have hl : (fr0 ++ fq.map (· + fr0.length)).length = fr0.length + fq.length := by simp
      rw [hl, hm]
      simp [Nat.add_comm]

theorem pAcc_beg (ps : List (List Nd)) : (∀ p ∈ ps, sndB p = true) → ∃ fr, begR [] (accS ps).1 = some fr ∧ chainL fr (accS ps).2.reverse (accS ps).1.length = some 0 := by
  induction ps using pSnocRec with
  | nil => intro _; exact ⟨[], by simp [accS_nil, begR], by simp [accS_nil, chainL]⟩
  | snoc ps p ih =>
    intro h
    obtain ⟨fr, h1, h2⟩ := ih (fun q hq => h q (by simp [hq]))
    obtain ⟨fp, hp⟩ := snd_some (h p (by simp))
    obtain ⟨hp0, _, hpr, hpt⟩ := begL_some hp
    obtain ⟨hlen, hlow, _, _⟩ := begR_some h1 low_nil
    simp only [List.length_nil, Nat.zero_add] at hlen
    obtain ⟨hlp, _, _, _⟩ := begR_some hpr low_nil
    simp only [List.length_nil, Nat.zero_add] at hlp
    rw [accS_snoc]
    have hm := pBegR_move fr p fp hpr
    rw [hlen] at hm
    refine ⟨fr ++ fp.map (· + (accS ps).1.length), by rw [begR_append, h1, Option.bind_some]; exact hm, ?_⟩
    simp only [List.reverse_append, List.reverse_cons, List.reverse_nil, List.nil_append, List.singleton_append, List.length_append, List.length_map, chainL]
    rw [if_neg (fun hh => by rcases hh with hh | hh
                             · omega
                             · exact hh rfl)]
    have hg : (fr ++ fp.map (· + (accS ps).1.length)).getD ((accS ps).1.length + p.length - 1) 0 = (accS ps).1.length := by
      simp only [List.getD_eq_getElem?_getD] at hpt ⊢
      rw [List.getElem?_append_right (by omega), show (accS ps).1.length + p.length - 1 - fr.length = p.length - 1 by omega, List.getElem?_map]
      rw [List.getElem?_eq_getElem (show p.length - 1 < fp.length by omega)] at hpt ⊢
      simp at hpt ⊢; omega
    rw [hg, chainL_congr hlow _ _ (fun j hj => by simp only [List.getD_eq_getElem?_getD]; rw [List.getElem?_append_left (by omega)]), h2]

theorem pJoin_snd {op n : Int} {nm : ByteArray} {ps : List (List Nd)} (h : ∀ p ∈ ps, sndB p = true) (hf : fitB op n nm ps.length = true) (hl : 1 + (accS ps).1.length ≤ 64) : ∃ fr, begL (joinL op n nm ps) = some fr := by
  obtain ⟨fr, h1, h2⟩ := pAcc_beg ps h
  obtain ⟨hlen, hlow, _, _⟩ := begR_some h1 low_nil
  simp only [List.length_nil, Nat.zero_add] at hlen
  refine ⟨fr ++ [0], begL_mk ?_ ?_ ?_ ?_⟩
  · simp [joinL]
  · simp [joinL]; omega
  · unfold joinL
    rw [begR_snoc, h1, Option.bind_some]
    unfold stp
    rw [if_pos (by unfold formB; simp only [accS_len2]; exact hf), hlen]
    simp only
    rw [h2]; rfl
  · have e : (joinL op n nm ps).length - 1 = fr.length := by simp [joinL, hlen]
    rw [e]; simp

/-- At most three kids a node, all of them places of the list. -/
def KInP (l : List Nd) : Prop := ∀ x ∈ l, x.kids.length ≤ 3 ∧ ∀ k ∈ x.kids, 0 ≤ k ∧ k < (l.length : Int)
theorem acc_inP (ps : List (List Nd)) (h : ∀ p ∈ ps, KInP p ∧ 1 ≤ p.length) : KInP (accS ps).1 ∧ ∀ k ∈ (accS ps).2, 0 ≤ k ∧ k < ((accS ps).1.length : Int) := by
  have key : ∀ (qs rs : List (List Nd)), (∀ p ∈ qs, KInP p ∧ 1 ≤ p.length) → (KInP (accS rs).1 ∧ ∀ k ∈ (accS rs).2, 0 ≤ k ∧ k < ((accS rs).1.length : Int)) → (KInP (accS (rs ++ qs)).1 ∧ ∀ k ∈ (accS (rs ++ qs)).2, 0 ≤ k ∧ k < ((accS (rs ++ qs)).1.length : Int)) := by
    intro qs
    induction qs with
    | nil => intro rs _ h; simpa using h
    | cons q qs ih =>
      intro rs hq h
      have e : rs ++ q :: qs = (rs ++ [q]) ++ qs := by simp
      rw [e]
      refine ih (rs ++ [q]) (fun p hp => hq p (by simp [hp])) ?_
      obtain ⟨hq1, hq2⟩ := hq q (by simp)
      rw [accS_snoc]
      simp only
      have hl : ((accS rs).1 ++ q.map (mvN 0 ((accS rs).1.length : Int))).length = (accS rs).1.length + q.length := by simp
      refine ⟨fun x hx => ?_, fun k hk => ?_⟩
      · rw [hl]
        rcases List.mem_append.1 hx with hx | hx
        · obtain ⟨h1, h2⟩ := h.1 x hx
          exact ⟨h1, fun k hk => by have := h2 k hk; omega⟩
        · obtain ⟨y, hy, rfl⟩ := List.mem_map.1 hx
          obtain ⟨h1, h2⟩ := hq1 y hy
          refine ⟨by simpa [mvN] using h1, fun k hk => ?_⟩
          simp only [mvN, List.mem_map] at hk
          obtain ⟨k', hk', rfl⟩ := hk
          have := h2 k' hk'
          unfold mvK
          rw [if_pos (by omega)]
          omega
      · rw [hl]
        rcases List.mem_append.1 hk with hk | hk
        · have := h.2 k hk; omega
        · simp at hk; omega
  simpa using key ps [] h ⟨fun x hx => by simp [accS_nil] at hx, fun k hk => by simp [accS_nil] at hk⟩
theorem sum_mem_leP : ∀ (l : List Nat) (x : Nat), x ∈ l → x ≤ l.sum
  | [], x, h => by cases h
  | a :: l, x, h => by
    rcases List.mem_cons.1 h with rfl | h
    · simp
    · have := sum_mem_leP l x h; simp; omega

theorem hds_acc (ps : List (List Nd)) : hds (accS ps).1 = (ps.map hds).flatten := by
  induction ps using pSnocRec with
  | nil => rfl
  | snoc ps p ih => rw [accS_snoc]; simp only [hds_app, hds_mv, ih]; simp
theorem hds_join (op n : Int) (nm : ByteArray) (ps : List (List Nd)) : hds (joinL op n nm ps) = (ps.map hds).flatten ++ [(op, n, nm)] := by
  unfold joinL
  rw [hds_app, hds_acc]; rfl
theorem acc_len (ps : List (List Nd)) : (accS ps).1.length = (ps.map List.length).sum := by
  induction ps using pSnocRec with
  | nil => rfl
  | snoc ps p ih => rw [accS_snoc]; simp [ih]
theorem joinP_len (op n : Int) (nm : ByteArray) (ps : List (List Nd)) : (joinL op n nm ps).length = 1 + (ps.map List.length).sum := by
  unfold joinL; rw [List.length_append, acc_len]; simp; omega

theorem chainK {fr : List Nat} (hl : Low fr) : ∀ (ks : List Int) (c a : Nat), chainL fr ks c = some a → ∀ k ∈ ks, 0 ≤ k ∧ k < (c : Int) := by
  intro ks
  induction ks with
  | nil => intro c a _ k hk; simp at hk
  | cons k ks ih =>
    intro c a h j hj
    simp only [chainL] at h
    split at h
    · cases h
    · rename_i hc
      rcases List.mem_cons.1 hj with rfl | hj
      · omega
      · have := ih _ _ h j hj
        have := hl (c - 1)
        omega

/-- What stands at a place of a filled pattern. -/
def filG (l : List Nd) (ps : List (List Nd)) : Nat → Nat → List Nd
  | 0, _ => []
  | f + 1, k => if (l.getD k nd0).op = 18 then ps.getD (numL (hlsL l) (l.getD k nd0).name) [] else joinL (l.getD k nd0).op (l.getD k nd0).n (l.getD k nd0).name ((l.getD k nd0).kids.map fun q => filG l ps f q.toNat)
def fil (l : List Nd) (ps : List (List Nd)) (k : Nat) : List Nd := filG l ps (k + 1) k
/-- The pattern's places: kids stand ahead. -/
theorem pat_kids {l : List Nd} {fr : List Nat} (h : BegOk (l.map fillN) fr) {k : Nat} (hk : k < l.length) : (l.getD k nd0).kids.length ≤ 3 ∧ ∀ q ∈ (l.getD k nd0).kids, 0 ≤ q ∧ q < (k : Int) := by
  obtain ⟨hf, hc⟩ := h.at_ k (by simpa using hk)
  rw [fillN_at hk] at hf hc
  have e : (fillN (l.getD k nd0)).kids = (l.getD k nd0).kids := by unfold fillN; split <;> rfl
  rw [e] at hc
  have h3 := formB_kids hf
  rw [e] at h3
  exact ⟨h3, fun q hq => chainK h.low _ _ _ hc q (by simpa using hq)⟩
theorem filG_fuel {l : List Nd} {fr : List Nat} (h : BegOk (l.map fillN) fr) (ps : List (List Nd)) : ∀ (f g k : Nat), k < f → k < g → k < l.length → filG l ps f k = filG l ps g k
  | 0, g, k, h1, _, _ => by omega
  | f + 1, 0, k, _, h2, _ => by omega
  | f + 1, g + 1, k, h1, h2, hk => by
    unfold filG
    split
    · rfl
    · congr 1
      refine List.map_congr_left fun q hq => ?_
      have := (pat_kids h hk).2 q hq
      exact filG_fuel h ps f g q.toNat (by omega) (by omega) (by omega)
theorem fil_hole {l : List Nd} {ps : List (List Nd)} {k : Nat} (ho : (l.getD k nd0).op = 18) : fil l ps k = ps.getD (numL (hlsL l) (l.getD k nd0).name) [] := by
  unfold fil filG; rw [if_pos ho]
theorem fil_node {l : List Nd} {fr : List Nat} (h : BegOk (l.map fillN) fr) {ps : List (List Nd)} {k : Nat} (hk : k < l.length) (ho : (l.getD k nd0).op ≠ 18) : fil l ps k = joinL (l.getD k nd0).op (l.getD k nd0).n (l.getD k nd0).name ((l.getD k nd0).kids.map fun q => fil l ps q.toNat) := by
  unfold fil
  conv => lhs; unfold filG
  rw [if_neg ho]
  congr 1
  refine List.map_congr_left fun q hq => ?_
  have := (pat_kids h hk).2 q hq
  exact filG_fuel h ps _ _ _ (by omega) (by omega) (by omega)
/-- The heads of a chain of parts. -/
theorem chain_heads {l : List Nd} {fr : List Nat} {ps : List (List Nd)} (hl : Low fr) (K : Nat) (hK : K ≤ l.length) (ih : ∀ q, q < K → hds (fil l ps q) = flH ps (hlsL l) ((l.take (q + 1)).drop (fr.getD q 0))) :
    ∀ (ks : List Int) (c a : Nat), c ≤ K → chainL fr ks c = some a → (ks.reverse.map fun q => hds (fil l ps q.toNat)).flatten = flH ps (hlsL l) ((l.take c).drop a) ∧ a ≤ c
  | [], c, a, _, h => by
    simp [chainL] at h; subst h
    exact ⟨by rw [List.drop_eq_nil_of_le (by simp; omega)]; rfl, Nat.le_refl _⟩
  | k :: ks, c, a, hc, h => by
    simp only [chainL] at h
    split at h
    · cases h
    · rename_i hh
      have hlow := hl (c - 1)
      obtain ⟨h1, h2⟩ := chain_heads hl K hK ih ks _ _ (by omega) h
      have e : k.toNat = c - 1 := by omega
      refine ⟨?_, by omega⟩
      rw [List.reverse_cons, List.map_append, List.flatten_append, h1]
      simp only [List.map_cons, List.map_nil, List.flatten_cons, List.flatten_nil, List.append_nil]
      rw [e, ih (c - 1) (by omega), ← flH_app]
      congr 1
      have e2 : c - 1 + 1 = c := by omega
      rw [e2]
      have h3 : (l.take (fr.getD (c - 1) 0)).drop a = ((l.take c).drop a).take (fr.getD (c - 1) 0 - a) := by
        rw [List.drop_take, List.drop_take, List.take_take]
        congr 1; omega
      have h4 : (l.take c).drop (fr.getD (c - 1) 0) = ((l.take c).drop a).drop (fr.getD (c - 1) 0 - a) := by
        rw [List.drop_drop]; congr 1; omega
      rw [h3, h4, List.take_append_drop]
theorem fil_heads {l : List Nd} {fr : List Nat} (h : BegOk (l.map fillN) fr) (ps : List (List Nd)) : ∀ (n k : Nat), k < n → k < l.length → hds (fil l ps k) = flH ps (hlsL l) ((l.take (k + 1)).drop (fr.getD k 0))
  | 0, k, h0, _ => by omega
  | n + 1, k, h0, hk => by
    obtain ⟨hf, hc⟩ := h.at_ k (by simpa using hk)
    rw [fillN_at hk] at hf hc
    have e : (fillN (l.getD k nd0)).kids = (l.getD k nd0).kids := by unfold fillN; split <;> rfl
    rw [e] at hc
    obtain ⟨h1, h2⟩ := chain_heads (ps := ps) h.low k (by omega) (fun q hq => fil_heads h ps n q (by omega) (by omega)) _ _ _ (Nat.le_refl k) hc
    rw [List.reverse_reverse] at h1
    have e3 : (l.take (k + 1)).drop (fr.getD k 0) = (l.take k).drop (fr.getD k 0) ++ [l.getD k nd0] := by
      rw [List.take_succ_eq_append_getElem hk, List.drop_append_of_le_length (by rw [List.length_take]; have := h.low k; omega)]
      simp [hk]
    rw [e3, flH_app, flH_one]
    by_cases ho : (l.getD k nd0).op = 18
    · have hk0 : (l.getD k nd0).kids = [] := by
        have h4 := form_ar hf
        have h5 : (fillN (l.getD k nd0)).op = 2 := by unfold fillN; rw [if_pos ho]
        rw [e, h5] at h4
        have : aritI 2 = 0 := by decide
        rw [this] at h4
        exact List.length_eq_zero_iff.1 (by omega)
      rw [hk0] at h1
      simp only [List.map_nil, List.flatten_nil] at h1
      rw [← h1, fil_hole ho, List.nil_append]
      unfold flN; rw [if_pos ho]
    · rw [fil_node h hk ho, hds_join, List.map_map]
      have e5 : ((l.getD k nd0).kids.map (hds ∘ fun q => fil l ps q.toNat)).flatten = ((l.getD k nd0).kids.map fun q => hds (fil l ps q.toNat)).flatten := rfl
      rw [e5, h1]
      unfold flN; rw [if_neg ho]; rfl
theorem fil_whole {l : List Nd} {fr : List Nat} (h : begL (l.map fillN) = some fr) (ps : List (List Nd)) : hds (fil l ps (l.length - 1)) = flH ps (hlsL l) l := by
  obtain ⟨h0, _, h2, h3⟩ := begL_some h
  simp at h0
  have := fil_heads (begOk_of h2) ps (l.length) (l.length - 1) (by omega) (by omega)
  have e : (l.map fillN).length - 1 = l.length - 1 := by simp
  rw [e] at h3
  rw [h3, show l.length - 1 + 1 = l.length by omega, List.take_length, List.drop_zero] at this
  exact this
/-- Sound where it is not too large; small kids. -/
theorem fil_ok {l : List Nd} {ps : List (List Nd)} (hok : FlOk l ps) : ∀ (n k : Nat), k < n → k < l.length → KInP (fil l ps k) ∧ 1 ≤ (fil l ps k).length ∧ ((fil l ps k).length ≤ 64 → sndB (fil l ps k) = true)
  | 0, k, h0, _ => by omega
  | n + 1, k, h0, hk => by
    obtain ⟨fr, hfr⟩ := Option.isSome_iff_exists.1 (patB_snd hok.pat)
    have hb := begOk_of (begL_some hfr).2.2.1
    by_cases ho : (l.getD k nd0).op = 18
    · rw [fil_hole ho]
      have hs := hok.pts _ (getD_mem hk) ho
      refine ⟨fun x hx => ?_, (snd_len hs).1, fun _ => hs⟩
      obtain ⟨f, hf⟩ := Option.isSome_iff_exists.1 hs
      have hb2 := begOk_of (begL_some hf).2.2.1
      obtain ⟨j, hj, rfl⟩ := List.getElem_of_mem hx
      have e : ∀ (m : List Nd) (hj : j < m.length), m[j] = m.getD j nd0 := fun m hj => by simp [hj]
      rw [e _ hj]
      obtain ⟨h1, h2⟩ := hb2.at_ j hj
      refine ⟨formB_kids h1, fun q hq => ?_⟩
      have := chainK hb2.low _ _ _ h2 q (by simpa using hq)
      omega
    · obtain ⟨h3, hkk⟩ := pat_kids hb hk
      have ih : ∀ q ∈ (l.getD k nd0).kids, KInP (fil l ps q.toNat) ∧ 1 ≤ (fil l ps q.toNat).length ∧ ((fil l ps q.toNat).length ≤ 64 → sndB (fil l ps q.toNat) = true) := fun q hq => by
        have := hkk q hq
        exact fil_ok hok n q.toNat (by omega) (by omega)
      have hm : ∀ p ∈ ((l.getD k nd0).kids.map fun q => fil l ps q.toNat), KInP p ∧ 1 ≤ p.length := fun p hp => by
        obtain ⟨q, hq, rfl⟩ := List.mem_map.1 hp
        exact ⟨(ih q hq).1, (ih q hq).2.1⟩
      obtain ⟨h4, h5⟩ := acc_inP _ hm
      have hfn := fil_node (ps := ps) hb hk ho
      have hlen := joinP_len (l.getD k nd0).op (l.getD k nd0).n (l.getD k nd0).name ((l.getD k nd0).kids.map fun q => fil l ps q.toNat)
      refine ⟨?_, by rw [hfn, hlen]; omega, fun h64 => ?_⟩
      · rw [hfn]
        intro x hx
        have hl2 : (joinL (l.getD k nd0).op (l.getD k nd0).n (l.getD k nd0).name ((l.getD k nd0).kids.map fun q => fil l ps q.toNat)).length = (accS ((l.getD k nd0).kids.map fun q => fil l ps q.toNat)).1.length + 1 := by unfold joinL; simp
        rw [hl2]
        unfold joinL at hx
        rcases List.mem_append.1 hx with hx | hx
        · obtain ⟨h6, h7⟩ := h4 x hx
          exact ⟨h6, fun q hq => by have := h7 q hq; omega⟩
        · simp at hx
          subst hx
          refine ⟨?_, fun q hq => by have := h5 q hq; omega⟩
          show (accS _).2.length ≤ 3
          rw [accS_len2, List.length_map]
          exact h3
      · rw [hfn] at h64 ⊢
        obtain ⟨f, hf⟩ := pJoin_snd (op := (l.getD k nd0).op) (n := (l.getD k nd0).n) (nm := (l.getD k nd0).name) (ps := (l.getD k nd0).kids.map fun q => fil l ps q.toNat) (fun p hp => by
          obtain ⟨q, hq, rfl⟩ := List.mem_map.1 hp
          refine (ih q hq).2.2 ?_
          have := sum_mem_leP (((l.getD k nd0).kids.map fun q => fil l ps q.toNat).map List.length) (fil l ps q.toNat).length (List.mem_map.2 ⟨_, List.mem_map.2 ⟨q, hq, rfl⟩, rfl⟩)
          omega) (by
          have h6 := (hb.at_ k (by simpa using hk)).1
          rw [fillN_at hk] at h6
          unfold fillN at h6
          rw [if_neg ho] at h6
          rw [List.length_map]; exact h6) (by rw [acc_len]; omega)
        unfold sndB; rw [hf]; rfl
/-- It is the one expression that its heads tell. -/
theorem fil_is {l X : List Nd} {ps : List (List Nd)} (hok : FlOk l ps) (hs : (flH ps (hlsL l) l).length ≤ 64) (hX : sndB X = true) (he : hds X = flH ps (hlsL l) l) : fil l ps (l.length - 1) = X := by
  obtain ⟨fr, hfr⟩ := Option.isSome_iff_exists.1 (patB_snd hok.pat)
  have hw := fil_whole hfr ps
  have h1 := (patB_len hok.pat).1
  have hl : (fil l ps (l.length - 1)).length ≤ 64 := by rw [← hds_len, hw]; exact hs
  exact snd_det ((fil_ok hok l.length (l.length - 1) (by omega) (by omega)).2.2 hl) hX (hw.trans he.symm)
end Go.Proofs.YtlllkjbbldhddaaDoor

set_option linter.unusedSimpArgs false
set_option linter.unusedVariables false
namespace Go.Proofs.YtlllkjbbldhddaaDoor
open Go.RowKit Go.Lib

/-- A row: its value, how many it holds, its cells. -/
abbrev Rw := Value × Nat × List Value
def vA : Value → Option Addr
  | .slice a _ _ => a
  | _ => none
def vC : Value → Nat
  | .slice _ _ c => c
  | _ => 0
def rw0 : Rw := (.slice none 0 0, 0, [])
structure RwL (w : World) (base : Nat) (e : TypeId) (size : Nat) (R : List Rw) : Prop where
  own : ∀ r ∈ R, w.ownsRow base e size r.1 r.2.1 r.2.2
  ap : R.Pairwise fun r s => ∀ b, r.1.ownBlock = some b → s.1.ownBlock ≠ some b
theorem rw_eta {w : World} {base : Nat} {e : TypeId} {size n : Nat} {v : Value} {xs : List Value} (h : w.ownsRow base e size v n xs) : v = .slice (vA v) n (vC v) := by
  obtain ⟨ao, cap, rfl⟩ := rw_form h
  rfl
theorem vA_blk {v : Value} {n c : Nat} (hv : v = .slice (vA v) n c) {a : Addr} (h : vA v = some a) : v.ownBlock = some a.block := by
  rw [hv, h]; rfl
theorem gd_rw {R : List Rw} {k : Nat} (hk : k < R.length) : R.getD k rw0 = R[k] := by simp [hk]
theorem RwL.rows {w : World} {base : Nat} {e eL : TypeId} {size : Nat} {R : List Rw} (h : RwL w base e size R) {B : Nat} {cs : Array Value} {fr : Nat × Nat} (hB : w.heap[B]? = some (.cells cs eL fr)) (hne : e ≠ eL) : RwsAp R.length B (fun k => vA (R.getD k rw0).1) := by
  refine ⟨fun k k' hk hk' hkk a a' ha ha' he => ?_, fun k hk a ha he => ?_⟩
  · simp only [gd_rw hk] at ha
    simp only [gd_rw hk'] at ha'
    have o1 := vA_blk (rw_eta (h.own _ (List.getElem_mem hk))) ha
    have o2 := vA_blk (rw_eta (h.own _ (List.getElem_mem hk'))) ha'
    have hp := List.pairwise_iff_getElem.1 h.ap
    rcases Nat.lt_or_gt_of_ne hkk with hl | hl
    · exact hp k k' hk hk' hl _ o1 (by rw [he]; exact o2)
    · exact hp k' k hk' hk hl _ o2 (by rw [← he]; exact o1)
  · simp only [gd_rw hk] at ha
    have o1 := vA_blk (rw_eta (h.own _ (List.getElem_mem hk))) ha
    obtain ⟨_, _, cap, cur, _, hc, _⟩ := rw_block (h.own _ (List.getElem_mem hk)) o1
    rw [he, hB] at hc
    injection hc with hc
    injection hc with _ hc _
    exact hne hc.symm
/-- A row is not in a block of another type. -/
theorem own_typ {w : World} {base : Nat} {e T : TypeId} {s n : Nat} {v : Value} {xs : List Value} {c : Array Value} {fr : Nat × Nat} {M : Nat} (h : w.ownsRow base e s v n xs) (hb : w.heap[M]? = some (.cells c T fr)) (hne : e ≠ T) : v.ownBlock ≠ some M := fun hv => by
  obtain ⟨_, _, cap, cur, _, hc, _⟩ := rw_block h hv
  rw [hb] at hc
  injection hc with hc
  injection hc with _ hc _
  exact hne hc.symm
theorem RwL.keep {w w' : World} {base : Nat} {e : TypeId} {size : Nat} {R : List Rw} (h : RwL w base e size R) (hk : ∀ r ∈ R, ∀ b, r.1.ownBlock = some b → w'.heap[b]? = w.heap[b]?) : RwL w' base e size R :=
  ⟨fun r hr => rw_same (h.own r hr) (hk r hr), h.ap⟩

end Go.Proofs.YtlllkjbbldhddaaDoor

namespace Go.Proofs.YtlllkjbbldhddaaDoor
open Go.RowKit Go.Lib

/-- What Book.Expr keeps: all but its own memory. -/
def BkK (w w' : World) : Prop := ∀ (b : Nat) (o : Obj), w.heap[b]? = some o → (∀ cs e fr, o = .cells cs e fr → e ≠ 52 ∧ e ≠ 22 ∧ e ≠ 61) → w'.heap[b]? = some o
theorem BkK.refl (w : World) : BkK w w := fun _ _ h _ => h
theorem BkK.trans {a b c : World} (h : BkK a b) (k : BkK b c) : BkK a c := fun n o h1 h2 => k n o (h n o h1 h2) h2
theorem BkK.alloc (w : World) (o : Obj) : BkK w (w.alloc o) := fun b o' h _ => (Deep.blk_alloc_lt _ _ _ (lt_of_block h)).trans h
theorem BkK.row {w w' : World} (h : BkK w w') {base : Nat} {e : TypeId} {s n : Nat} {v : Value} {xs : List Value} (ho : w.ownsRow base e s v n xs) (h1 : e ≠ 52) (h2 : e ≠ 22) (h3 : e ≠ 61) : w'.ownsRow base e s v n xs :=
  rw_same ho fun b hb => by
    obtain ⟨_, _, cap, cur, _, hc, _⟩ := rw_block ho hb
    rw [hc]
    exact h b _ hc fun cs e' fr he => by cases he; exact ⟨h1, h2, h3⟩
theorem BkK.ownP {w w' : World} (h : BkK w w') {base : Nat} {v : Value} {q : List (Nd × Value)} (ho : OwnP w base v q) : OwnP w' base v q :=
  ⟨h.row ho.row (by decide) (by decide) (by decide), fun y hy => h.row (ho.kids y hy) (by decide) (by decide) (by decide)⟩
end Go.Proofs.YtlllkjbbldhddaaDoor

set_option linter.unusedSimpArgs false
set_option linter.unusedVariables false
namespace Go.Proofs.YtlllkjbbldhddaaDoor
open Go.RowKit Go.Lib

theorem own_low {w : World} {base base' : Nat} {e : TypeId} {s n : Nat} {v : Value} {xs : List Value} (h : w.ownsRow base e s v n xs) (hb : base' ≤ base) : w.ownsRow base' e s v n xs :=
  ⟨h.1, h.2.imp id fun ⟨g, cap, cur, h1, h2, h3⟩ => ⟨g, cap, cur, h1, by omega, h3⟩⟩
/-- The rows of kids. -/
def kR (q : List (Nd × Value)) : List Rw := q.map fun y => (y.2, y.1.kids.length, y.1.kids.map (Value.int .i64))
/-- Rows one after the other. -/
def LiesR (R : List Rw) (lo hi : Nat) : Prop := ∀ r ∈ R, ∀ b, r.1.ownBlock = some b → lo ≤ b ∧ b < hi
theorem RwL.app {w : World} {base : Nat} {e : TypeId} {s : Nat} {R S : List Rw} (h : RwL w base e s R) (k : RwL w base e s S) (hd : ∀ r ∈ R, ∀ t ∈ S, ∀ b, r.1.ownBlock = some b → t.1.ownBlock ≠ some b) : RwL w base e s (R ++ S) :=
  ⟨fun r hr => (List.mem_append.1 hr).elim (h.own r) (k.own r), List.pairwise_append.2 ⟨h.ap, k.ap, hd⟩⟩
theorem lies_apart {R S : List Rw} {a b c d : Nat} (h : LiesR R a b) (k : LiesR S c d) (hbc : b ≤ c ∨ d ≤ a) : ∀ r ∈ R, ∀ t ∈ S, ∀ g, r.1.ownBlock = some g → t.1.ownBlock ≠ some g := fun r hr t ht g h1 h2 => by
  have := h r hr g h1; have := k t ht g h2; omega
theorem RwL.one {w : World} {base : Nat} {e : TypeId} {s : Nat} {r : Rw} (h : w.ownsRow base e s r.1 r.2.1 r.2.2) : RwL w base e s [r] := ⟨fun x hx => by simp at hx; subst hx; exact h, List.pairwise_singleton _ _⟩
theorem RwL.lies {w : World} {base : Nat} {e : TypeId} {s : Nat} {R : List Rw} (h : RwL w base e s R) : LiesR R base w.heap.size := fun r hr b hb => by
  obtain ⟨h1, h2, _⟩ := rw_block (h.own r hr) hb
  exact ⟨h1, h2⟩
theorem RwL.low {w : World} {base base' : Nat} {e : TypeId} {s : Nat} {R : List Rw} (h : RwL w base e s R) (hb : base' ≤ base) : RwL w base' e s R := ⟨fun r hr => own_low (h.own r hr) hb, h.ap⟩
theorem RwL.bel {w w' : World} {base : Nat} {e : TypeId} {s : Nat} {R : List Rw} (h : RwL w base e s R) (hb : Below w.heap.size w w') : RwL w' base e s R := h.keep fun r hr b hv => hb.block b (rw_block (h.own r hr) hv).2.1
theorem LiesR.app {R S : List Rw} {a b : Nat} (h : LiesR R a b) (k : LiesR S a b) : LiesR (R ++ S) a b := fun r hr => (List.mem_append.1 hr).elim (h r) (k r)
theorem LiesR.wide {R : List Rw} {a b a' b' : Nat} (h : LiesR R a b) (h1 : a' ≤ a) (h2 : b ≤ b') : LiesR R a' b' := fun r hr g hg => by have := h r hr g hg; omega
theorem kR_own {w : World} {base : Nat} {v : Value} {q : List (Nd × Value)} (h : OwnP w base v q) (ha : KdAp q) : RwL w base 3 1 (kR q) :=
  ⟨fun r hr => by
    obtain ⟨y, hy, rfl⟩ := List.mem_map.1 hr
    exact h.kids y hy, List.pairwise_map.2 ha⟩
theorem ownP_below {w w' : World} {base : Nat} {v : Value} {q : List (Nd × Value)} (h : OwnP w base v q) (hb : Below w.heap.size w w') : OwnP w' base v q :=
  ⟨rw_same h.row (fun b hv => hb.block b (rw_block h.row hv).2.1), fun y hy => rw_same (h.kids y hy) (fun b hv => hb.block b (rw_block (h.kids y hy) hv).2.1)⟩
theorem row_below {w w' : World} {base : Nat} {e : TypeId} {s n : Nat} {v : Value} {xs : List Value} (h : w.ownsRow base e s v n xs) (hb : Below w.heap.size w w') : w'.ownsRow base e s v n xs := rw_same h (fun b hv => hb.block b (rw_block h hv).2.1)
/-- Answers: expressions that were made one after the other, from lo to hi. -/
structure Anss (W : World) (lo hi : Nat) (A : List (Value × List (Nd × Value))) : Prop where
  kids : RwL W lo 3 1 (A.flatMap fun a => kR a.2)
  rows : RwL W lo 63 4 (A.map fun a => (a.1, a.2.length, ndCells a.2))
  lk : LiesR (A.flatMap fun a => kR a.2) lo hi
  lr : LiesR (A.map fun a => (a.1, a.2.length, ndCells a.2)) lo hi
  le : lo ≤ hi
theorem Anss.nil (W : World) (z : Nat) : Anss W z z [] := ⟨⟨by simp, List.Pairwise.nil⟩, ⟨by simp, List.Pairwise.nil⟩, (by intro r hr; simp at hr), (by intro r hr; simp at hr), Nat.le_refl _⟩
theorem Anss.below {W W' : World} {lo hi : Nat} {A : List (Value × List (Nd × Value))} (h : Anss W lo hi A) (hb : Below W.heap.size W W') : Anss W' lo hi A :=
  ⟨h.kids.bel hb, h.rows.bel hb, h.lk, h.lr, h.le⟩
theorem Anss.wide {W : World} {lo hi hi' : Nat} {A : List (Value × List (Nd × Value))} (h : Anss W lo hi A) (hb : hi ≤ hi') : Anss W lo hi' A :=
  ⟨h.kids, h.rows, h.lk.wide (Nat.le_refl _) hb, h.lr.wide (Nat.le_refl _) hb, Nat.le_trans h.le hb⟩
theorem Anss.snoc {W : World} {lo hi : Nat} {A : List (Value × List (Nd × Value))} {v : Value} {q : List (Nd × Value)} (h : Anss W lo hi A) (ho : OwnP W hi v q) (ha : KdAp q) (hw : hi ≤ W.heap.size) : Anss W lo W.heap.size (A ++ [(v, q)]) := by
  have k1 := kR_own ho ha
  have r1 : RwL W hi 63 4 [((v, q.length, ndCells q) : Rw)] := RwL.one ho.row
  have e1 : ((A ++ [(v, q)]).flatMap fun a => kR a.2) = (A.flatMap fun a => kR a.2) ++ kR q := by simp
  have e2 : ((A ++ [(v, q)]).map fun a => ((a.1, a.2.length, ndCells a.2) : Rw)) = (A.map fun a => (a.1, a.2.length, ndCells a.2)) ++ [(v, q.length, ndCells q)] := by simp
  refine ⟨?_, ?_, ?_, ?_, Nat.le_trans h.le hw⟩
  · rw [e1]; exact h.kids.app (k1.low h.le) (lies_apart h.lk k1.lies (.inl (Nat.le_refl _)))
  · rw [e2]; exact h.rows.app (r1.low h.le) (lies_apart h.lr r1.lies (.inl (Nat.le_refl _)))
  · rw [e1]; exact (h.lk.wide (Nat.le_refl _) hw).app (k1.lies.wide h.le (Nat.le_refl _))
  · rw [e2]; exact (h.lr.wide (Nat.le_refl _) hw).app (r1.lies.wide h.le (Nat.le_refl _))
theorem Anss.ownP {W : World} {lo hi : Nat} {A : List (Value × List (Nd × Value))} (h : Anss W lo hi A) {a : Value × List (Nd × Value)} (ha : a ∈ A) : OwnP W lo a.1 a.2 :=
  ⟨h.rows.own _ (List.mem_map_of_mem ha), fun y hy => h.kids.own ((y.2, y.1.kids.length, y.1.kids.map (Value.int .i64)) : Rw) (List.mem_flatMap.2 ⟨a, ha, List.mem_map_of_mem (f := fun y : Nd × Value => ((y.2, y.1.kids.length, y.1.kids.map (Value.int .i64)) : Rw)) hy⟩)⟩
end Go.Proofs.YtlllkjbbldhddaaDoor
