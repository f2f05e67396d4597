/-
  PhP, PaCk.
-/
import Derived.Test.YtlllkjbbldhddaaDoorChecked
import GoSem.PinnedTables
import GoSem.Claim
import GoSem.ClaimJoined
import GoSem.ClaimMapViews
import Derived.JoinedTies
import Derived.KernelRfl
import Derived.Shelf.Unicode.DecodeSlow
import Derived.Laws.RangeAny
import Derived.Shelf.Unicode.DecodeAny
import Derived.Test.YtlllkjbbldhddaaDoorProg
import Derived.WalkKit
import Derived.Deep.DeepFit
import Derived.Lib.OthersKept
import Derived.Lib.RuneCountTail
import Derived.Lib.LaidU8
import Derived.MakeChecks
import Derived.ProofKit
import Derived.OpenShut
import Derived.Deep.DeepHandedRow
import Derived.Deep.AppendLies
import Derived.Deep.OwnRows
import Derived.Laws.AppendOwnNone
import Derived.Deep.QuietTactic
import Derived.BigQuiet
import Derived.Deep.RegionWith
import Derived.Laws.DeepStrings4
import Derived.Deep.Slices
import Derived.SizedLaws
import Derived.Lib.MapLaws
import Derived.Sort.Walk0
import Derived.Lib.ItoaNum
import Derived.Maps.OwnSet
import Derived.StringKeys
import Derived.Below
import Derived.Laws.ResultCell
import Derived.Deep.RegionHeld3
import Derived.Deep.RegionLaw
import Derived.Lib.QuietBelow
import Derived.StillTail
import Derived.Deep.DeepCutAuto
import Derived.Laws.IdiomStrings
import Derived.WalkSmall
import Derived.Laws.OwnMore
import Derived.Test.YtlllkjbbldhddaaDoorRows
import Derived.Test.YtlllkjbbldhddaaDoorF01
import Derived.Test.YtlllkjbbldhddaaDoorF02
import Derived.Test.YtlllkjbbldhddaaDoorF03
import Derived.Test.YtlllkjbbldhddaaDoorF04
import Derived.Test.YtlllkjbbldhddaaDoorF05
import Derived.Test.YtlllkjbbldhddaaDoorF06
import Derived.Test.YtlllkjbbldhddaaDoorF07
import Derived.Test.YtlllkjbbldhddaaDoorF08
import Derived.Test.YtlllkjbbldhddaaDoorF09
import Derived.Test.YtlllkjbbldhddaaDoorF10
import Derived.Test.YtlllkjbbldhddaaDoorF11
import Derived.Test.YtlllkjbbldhddaaDoorF12
import Derived.Test.YtlllkjbbldhddaaDoorF13
import Derived.Test.YtlllkjbbldhddaaDoorF14
import Derived.Test.YtlllkjbbldhddaaDoorF15
import Derived.Test.YtlllkjbbldhddaaDoorF16
import Derived.Test.YtlllkjbbldhddaaDoorF17
import Derived.Test.YtlllkjbbldhddaaDoorF18
import Derived.Test.YtlllkjbbldhddaaDoorF19
import Derived.Test.YtlllkjbbldhddaaDoorF20
import Derived.Test.YtlllkjbbldhddaaDoorF21
import Derived.Test.YtlllkjbbldhddaaDoorF22
import Derived.Test.YtlllkjbbldhddaaDoorF23
import Derived.Test.YtlllkjbbldhddaaDoorF24
import Derived.Test.YtlllkjbbldhddaaDoorF25
import Derived.Test.YtlllkjbbldhddaaDoorF26
set_option linter.unusedSimpArgs false
set_option linter.unusedVariables false
namespace Go.Proofs.YtlllkjbbldhddaaDoor

def seg {α : Type} (L : List α) (fr : List Nat) (i : Nat) : List α := (L.take (i + 1)).drop (fr.getD i 0)
theorem seg_chain {α : Type} (L : List α) {fr : List Nat} (hl : Low fr) : ∀ (ks : List Int) (c a : Nat), chainL fr ks c = some a → (ks.reverse.map fun q => seg L fr q.toNat).flatten = (L.take c).drop a ∧ a ≤ c
  | [], c, a, h => by
    simp [chainL] at h; subst h
    exact ⟨by rw [List.drop_eq_nil_of_le (by simp; omega)]; rfl, Nat.le_refl _⟩
  | k :: ks, c, a, h => by
    simp only [chainL] at h
    split at h
    · cases h
    · rename_i hh
      have hlow := hl (c - 1)
      obtain ⟨h1, h2⟩ := seg_chain L hl ks _ _ h
      have e : k.toNat = c - 1 := by omega
      refine ⟨?_, by omega⟩
      rw [List.reverse_cons, List.map_append, List.flatten_append, h1]
      simp only [List.map_cons, List.map_nil, List.flatten_cons, List.flatten_nil, List.append_nil]
      rw [e]
      unfold seg
      have e2 : c - 1 + 1 = c := by omega
      rw [e2]
      have h3 : (L.take (fr.getD (c - 1) 0)).drop a = ((L.take c).drop a).take (fr.getD (c - 1) 0 - a) := by
        rw [List.drop_take, List.drop_take, List.take_take]
        congr 1; omega
      have h4 : (L.take c).drop (fr.getD (c - 1) 0) = ((L.take c).drop a).drop (fr.getD (c - 1) 0 - a) := by
        rw [List.drop_drop]; congr 1; omega
      rw [h3, h4, List.take_append_drop]
theorem seg_last {α : Type} {L : List α} {fr : List Nat} (hl : Low fr) {i : Nat} (hi : i < L.length) : seg L fr i = (L.take i).drop (fr.getD i 0) ++ [L[i]] := by
  unfold seg
  have := hl i
  rw [List.take_succ_eq_append_getElem hi, List.drop_append_of_le_length (by rw [List.length_take]; omega)]
theorem seg_l {l : List Nd} {fr : List Nat} (h : BegOk (l.map fillN) fr) {i : Nat} (hi : i < l.length) : seg l fr i = ((l.getD i nd0).kids.map fun q => seg l fr q.toNat).flatten ++ [l.getD i nd0] := by
  obtain ⟨_, hc⟩ := h.at_ i (by simpa using hi)
  rw [fillN_at hi, fillN_kids] at hc
  obtain ⟨h1, _⟩ := seg_chain l h.low _ _ _ hc
  rw [List.reverse_reverse] at h1
  rw [seg_last h.low hi, h1]; simp [hi]
theorem seg_e {e : List Nd} {fe : List Nat} (h : BegOk e fe) {j : Nat} (hj : j < e.length) : seg (hds e) fe j = ((e.getD j nd0).kids.map fun q => seg (hds e) fe q.toNat).flatten ++ [hd (e.getD j nd0)] := by
  obtain ⟨_, hc⟩ := h.at_ j hj
  obtain ⟨h1, _⟩ := seg_chain (hds e) h.low _ _ _ hc
  rw [List.reverse_reverse] at h1
  rw [seg_last h.low (by rw [hds_len]; exact hj), h1]; simp [hds, hj]
theorem seg_part (e : List Nd) (fe : List Nat) (j : Nat) : seg (hds e) fe j = hds (partL e (fe.getD j 0) j) := by
  rw [hds_part]; unfold seg; rw [List.drop_take]
theorem gdAt {α : Type} {l : List α} {d : α} {n : Nat} (h : n < l.length) : l.getD n d = l[n] := by simp [h]
/-- Agree where something stands. -/
def Agr (ps qs : List (List Nd)) : Prop := ∀ n, ps.getD n [] = [] ∨ ps.getD n [] = qs.getD n []
def Ext (ps ps' : List (List Nd)) : Prop := ∀ n, ps.getD n [] ≠ [] → ps'.getD n [] = ps.getD n []
theorem Ext.refl (ps : List (List Nd)) : Ext ps ps := fun _ _ => rfl
theorem Ext.trans {a b c : List (List Nd)} (h : Ext a b) (k : Ext b c) : Ext a c := fun n hn => by rw [k n (by rw [h n hn]; exact hn), h n hn]
theorem PtsOk.ext {ps ps' : List (List Nd)} {ks : List ByteArray} {m : List Nd} (h : PtsOk ps ks m) (he : Ext ps ps') : PtsOk ps' ks m ∧ flH ps' ks m = flH ps ks m := by
  have key : ∀ x ∈ m, x.op = 18 → ps'.getD (numL ks x.name) [] = ps.getD (numL ks x.name) [] := fun x hx ho => he _ (snd_ne (h x hx ho))
  exact ⟨fun x hx ho => by rw [key x hx ho]; exact h x hx ho, flH_congr key⟩
/-- What a call at two places does. -/
structure AtP (l e : List Nd) (fr fe : List Nat) (i j : Nat) (ps ps' : List (List Nd)) (bad bad' : Bool) : Prop where
  mono : bad = true → bad' = true
  len : ps'.length = ps.length
  fine : bad' = false → bad = false ∧ Ext ps ps' ∧ seg (hds e) fe j = flH ps' (hlsL l) (seg l fr i) ∧ PtsOk ps' (hlsL l) (seg l fr i)
  comp : ∀ qs, FlOk l qs → seg (hds e) fe j = flH qs (hlsL l) (seg l fr i) → Agr ps qs → bad = false → bad' = false ∧ Agr ps' qs
theorem AtP.hole {l e : List Nd} {fr fe : List Nat} {i j z : Nat} {ps : List (List Nd)} (bad : Bool) (hb : BegOk (l.map fillN) fr) (he : begL e = some fe) (hi : i < l.length) (hj : j < e.length) (ho : (l.getD i nd0).op = 18) (hz : numL (hlsL l) (l.getD i nd0).name = z) (hzl : z < ps.length) :
    AtP l e fr fe i j ps (ps.set z (partL e (fe.getD j 0) j)) bad (bad || (!decide (ps.getD z [] = []) && !decide (ps.getD z [] = partL e (fe.getD j 0) j))) := by
  have hsl : seg l fr i = [l.getD i nd0] := by
    have h1 := seg_l hb hi
    have h4 := form_ar (hb.at_ i (by simpa using hi)).1
    rw [fillN_at hi, fillN_kids] at h4
    have h5 : (fillN (l.getD i nd0)).op = 2 := by unfold fillN; rw [if_pos ho]
    rw [h5] at h4
    have : aritI 2 = 0 := by decide
    rw [this] at h4
    rw [h1, List.length_eq_zero_iff.1 (show (l.getD i nd0).kids.length = 0 by omega)]; rfl
  have hfl : ∀ qs : List (List Nd), flH qs (hlsL l) (seg l fr i) = hds (qs.getD z []) := fun qs => by
    rw [hsl, flH_one]; unfold flN; rw [if_pos ho, hz]
  have hrs : sndB (partL e (fe.getD j 0) j) = true := by
    obtain ⟨fo, hfo⟩ := part_snd he j hj
    unfold sndB; rw [hfo]; rfl
  have hsp := seg_part e fe j
  generalize partL e (fe.getD j 0) j = r at *
  refine ⟨fun h => by rw [h]; rfl, by simp, fun h => ?_, fun qs hq heq hag hbad => ?_⟩
  · simp only [Bool.or_eq_false_iff] at h
    obtain ⟨h1, h2⟩ := h
    refine ⟨h1, fun n hn => ?_, by rw [hsp, hfl, gdSetSame hzl], fun x hx hx18 => ?_⟩
    · by_cases hzn : z = n
      · subst hzn
        rw [gdSetSame hzl]
        by_cases h3 : ps.getD z [] = r
        · exact h3.symm
        · rw [decide_eq_false hn, decide_eq_false h3] at h2; simp at h2
      · rw [gdSetNe hzn]
    · rw [hsl] at hx
      rw [List.mem_singleton.1 hx, hz, gdSetSame hzl]; exact hrs
  · rw [hsp, hfl] at heq
    have hzq : z < qs.length := by rw [hq.len, ← hz]; exact hole_lt (getD_mem hi) ho
    have heq2 : r = qs.getD z [] := snd_det hrs (hq.snd _ (getD_mem hzq)) heq
    refine ⟨?_, fun n => ?_⟩
    · rw [hbad, Bool.false_or]
      rcases hag z with h | h
      · rw [decide_eq_true h]; rfl
      · rw [decide_eq_true (h.trans heq2.symm)]; simp
    · by_cases hzn : z = n
      · subst hzn; rw [gdSetSame hzl]; exact .inr heq2
      · rw [gdSetNe hzn]; exact hag n
theorem AtP.differ {l e : List Nd} {fr fe : List Nat} {i j : Nat} {ps : List (List Nd)} (bad : Bool) (hb : BegOk (l.map fillN) fr) (he : BegOk e fe) (hi : i < l.length) (hj : j < e.length) (ho : (l.getD i nd0).op ≠ 18) (hne : hd (l.getD i nd0) ≠ hd (e.getD j nd0)) :
    AtP l e fr fe i j ps ps bad true := by
  refine ⟨fun _ => rfl, rfl, (fun h => by cases h), fun qs hq heq _ _ => ?_⟩
  rw [seg_l hb hi, seg_e he hj, flH_app, flH_one] at heq
  unfold flN at heq
  rw [if_neg ho] at heq
  have := (List.append_inj' heq rfl).2
  simp at this
  exact absurd this.symm hne
/-- The kids of two nodes, as far as they were looked at. -/
structure AtK (l e : List Nd) (fr fe : List Nat) (K C : List Int) (t : Nat) (ps ps' : List (List Nd)) (bad bad' : Bool) : Prop where
  mono : bad = true → bad' = true
  len : ps'.length = ps.length
  fine : bad' = false → bad = false ∧ Ext ps ps' ∧ ((C.take t).map fun q => seg (hds e) fe q.toNat).flatten = flH ps' (hlsL l) ((K.take t).map fun q => seg l fr q.toNat).flatten ∧ PtsOk ps' (hlsL l) ((K.take t).map fun q => seg l fr q.toNat).flatten
  comp : ∀ qs, FlOk l qs → (∀ s, s < K.length → seg (hds e) fe (C.getD s 0).toNat = flH qs (hlsL l) (seg l fr (K.getD s 0).toNat)) → Agr ps qs → bad = false → bad' = false ∧ Agr ps' qs
theorem AtK.start (l e : List Nd) (fr fe : List Nat) (K C : List Int) (ps : List (List Nd)) (bad : Bool) : AtK l e fr fe K C 0 ps ps bad bad :=
  ⟨id, rfl, fun h => ⟨h, Ext.refl _, by simp [flH], by intro x hx; simp at hx⟩, fun qs _ _ h h2 => ⟨h2, h⟩⟩
theorem take_succ_getD (K : List Int) {t : Nat} (h : t < K.length) : K.take (t + 1) = K.take t ++ [K.getD t 0] := by
  rw [List.take_succ_eq_append_getElem h]; simp [h]
theorem AtK.step {l e : List Nd} {fr fe : List Nat} {K C : List Int} {t : Nat} {ps ps1 ps2 : List (List Nd)} {bad b1 b2 : Bool} (h : AtK l e fr fe K C t ps ps1 bad b1) (hK : t < K.length) (hC : t < C.length)
    (k : AtP l e fr fe (K.getD t 0).toNat (C.getD t 0).toNat ps1 ps2 b1 b2) : AtK l e fr fe K C (t + 1) ps ps2 bad b2 := by
  refine ⟨fun hb => k.mono (h.mono hb), k.len.trans h.len, fun hb => ?_, fun qs hq hs hag hb => ?_⟩
  · obtain ⟨f1, f2, f3, f4⟩ := k.fine hb
    obtain ⟨g1, g2, g3, g4⟩ := h.fine f1
    obtain ⟨g5, g6⟩ := g4.ext f2
    rw [take_succ_getD K hK, take_succ_getD C hC, List.map_append, List.map_append, List.flatten_append, List.flatten_append]
    simp only [List.map_cons, List.map_nil, List.flatten_cons, List.flatten_nil, List.append_nil]
    refine ⟨g1, g2.trans f2, by rw [flH_app, g3, f3, g6], fun x hx ho => ?_⟩
    rcases List.mem_append.1 hx with hx | hx
    · exact g5 x hx ho
    · exact f4 x hx ho
  · obtain ⟨a1, a2⟩ := h.comp qs hq hs hag hb
    exact k.comp qs hq (hs t hK) a2 a1
/-- Where a chain of parts has the heads of a chain of filled places, each has. -/
theorem chain_fit {l e : List Nd} {fe : List Nat} {qs : List (List Nd)} (he : begL e = some fe) : ∀ (ks cs : List Int) (c a : Nat) (A : List Hd), ks.length = cs.length → chainL fe cs c = some a → c ≤ e.length → (∀ q ∈ ks, sndB (fil l qs q.toNat) = true) →
    (hds e).take c = A ++ (ks.reverse.map fun q => hds (fil l qs q.toNat)).flatten → cs.map (fun d => seg (hds e) fe d.toNat) = ks.map fun q => hds (fil l qs q.toNat)
  | [], [], _, _, _, _, _, _, _, _ => rfl
  | [], _ :: _, _, _, _, h, _, _, _, _ => by simp at h
  | _ :: _, [], _, _, _, h, _, _, _, _ => by simp at h
  | k :: ks, d :: cs, c, a, A, hlen, hc, hce, hs, ht => by
    simp only [chainL] at hc
    split at hc
    · cases hc
    · rename_i hh
      have ed : d.toNat = c - 1 := by omega
      rw [List.reverse_cons, List.map_append, List.flatten_append] at ht
      simp only [List.map_cons, List.map_nil, List.flatten_cons, List.flatten_nil, List.append_nil] at ht
      rw [← List.append_assoc] at ht
      obtain ⟨fk, hfk⟩ := Option.isSome_iff_exists.1 (hs k (by simp))
      obtain ⟨p1, p2⟩ := part_at he hfk hce ht
      have hlow := (begOk_of (begL_some he).2.2.1).low (c - 1)
      have ht2 : (hds e).take (fe.getD (c - 1) 0) = A ++ (ks.reverse.map fun q => hds (fil l qs q.toNat)).flatten := by
        have h4 : (hds e).take (fe.getD (c - 1) 0) = ((hds e).take c).take (fe.getD (c - 1) 0) := by rw [List.take_take]; congr 1; omega
        rw [h4, ht, p1, List.take_left]
      have ih := chain_fit he ks cs _ _ A (by simpa using hlen) hc (by omega) (fun q hq => hs q (List.mem_cons_of_mem _ hq)) ht2
      rw [List.map_cons, List.map_cons, ih, ed, seg_part, p2]
theorem AtK.end_ {l e : List Nd} {fr fe : List Nat} {i j : Nat} {ps ps' : List (List Nd)} {bad bad' : Bool} (hb : BegOk (l.map fillN) fr) (he : begL e = some fe) (hi : i < l.length) (hj : j < e.length) (ho : (l.getD i nd0).op ≠ 18) (heq : hd (l.getD i nd0) = hd (e.getD j nd0))
    (h : AtK l e fr fe (l.getD i nd0).kids (e.getD j nd0).kids (l.getD i nd0).kids.length ps ps' bad bad') (hkl : (l.getD i nd0).kids.length = (e.getD j nd0).kids.length) : AtP l e fr fe i j ps ps' bad bad' := by
  have hbe := begOk_of (begL_some he).2.2.1
  refine ⟨h.mono, h.len, fun hf => ?_, fun qs hq hs hag hbad => ?_⟩
  · obtain ⟨g1, g2, g3, g4⟩ := h.fine hf
    rw [hkl, List.take_length, ← hkl, List.take_length] at g3
    rw [List.take_length] at g4
    refine ⟨g1, g2, ?_, fun x hx hx18 => ?_⟩
    · rw [seg_l hb hi, seg_e hbe hj, flH_app, flH_one, g3]
      unfold flN; rw [if_neg ho, heq]
    · rw [seg_l hb hi] at hx
      rcases List.mem_append.1 hx with hx | hx
      · exact g4 x hx hx18
      · rw [List.mem_singleton.1 hx] at hx18; exact absurd hx18 ho
  · refine h.comp qs hq ?_ hag hbad
    have hfh : ∀ q, q < l.length → hds (fil l qs q) = flH qs (hlsL l) (seg l fr q) := fun q hq => fil_heads hb qs (q + 1) q (by omega) hq
    have hkk := pat_kids hb hi
    obtain ⟨_, hc⟩ := hbe.at_ j hj
    have hlow := hbe.low j
    have hs1 : (hds e).take (j + 1) = (hds e).take (fe.getD j 0) ++ hds (fil l qs i) := by
      rw [hfh i hi, ← hs]
      unfold seg
      have h4 : (hds e).take (fe.getD j 0) = ((hds e).take (j + 1)).take (fe.getD j 0) := by rw [List.take_take]; congr 1; omega
      rw [h4, List.take_append_drop]
    have hsz : (fil l qs i).length ≤ 64 := by
      have h5 := congrArg List.length hs1
      have h6 := (begL_some he).2.1
      simp [hds_len] at h5; omega
    have hfn := fil_node (ps := qs) hb hi ho
    have hks : ∀ q ∈ (l.getD i nd0).kids.reverse, sndB (fil l qs q.toNat) = true := fun q hqq => by
      have hqq' : q ∈ (l.getD i nd0).kids := by simpa using hqq
      have h7 := hkk.2 q hqq'
      refine (fil_ok hq (q.toNat + 1) q.toNat (by omega) (by omega)).2.2 ?_
      have h8 := congrArg List.length hfn
      rw [joinP_len] at h8
      have := sum_mem_leP (((l.getD i nd0).kids.map fun q => fil l qs q.toNat).map List.length) (fil l qs q.toNat).length (List.mem_map.2 ⟨_, List.mem_map.2 ⟨q, hqq', rfl⟩, rfl⟩)
      omega
    have hs2 : (hds e).take j = (hds e).take (fe.getD j 0) ++ ((l.getD i nd0).kids.reverse.reverse.map fun q => hds (fil l qs q.toNat)).flatten := by
      rw [List.reverse_reverse]
      rw [hds_take_succ hj, hfn, hds_join, List.map_map, ← List.append_assoc] at hs1
      exact (List.append_inj' hs1 rfl).1
    have hcf := chain_fit he (l.getD i nd0).kids.reverse (e.getD j nd0).kids.reverse j _ _ (by simpa using hkl) hc (by omega) hks hs2
    have hcf2 := congrArg List.reverse hcf
    rw [← List.map_reverse, ← List.map_reverse, List.reverse_reverse, List.reverse_reverse] at hcf2
    intro s hsl
    have hsc : s < (e.getD j nd0).kids.length := by omega
    have h9 := congrArg (fun L => L[s]?) hcf2
    simp only [List.getElem?_map] at h9
    rw [List.getElem?_eq_getElem hsl, List.getElem?_eq_getElem hsc] at h9
    simp only [Option.map_some, Option.some.injEq] at h9
    have h10 : (l.getD i nd0).kids.getD s 0 = (l.getD i nd0).kids[s] := gdAt hsl
    have h11 : (e.getD j nd0).kids.getD s 0 = (e.getD j nd0).kids[s] := gdAt hsc
    rw [h10, h11, h9]
    have := hkk.2 _ (List.getElem_mem hsl)
    exact hfh _ (by omega)
/-- At the top. -/
theorem AtP.top {l e : List Nd} {fr fe : List Nat} {ps' : List (List Nd)} {bad' : Bool} (hp : patB l = true) (hl : begL (l.map fillN) = some fr) (he : begL e = some fe) (h : AtP l e fr fe (l.length - 1) (e.length - 1) (List.replicate (hlsL l).length []) ps' false bad') :
    (bad' = false → FtOk l e ps') ∧ (∀ qs, FtOk l e qs → bad' = false) := by
  obtain ⟨l0, _, _, l3⟩ := begL_some hl
  obtain ⟨e0, _, _, e3⟩ := begL_some he
  simp only [List.length_map] at l0 l3
  have hsl : seg l fr (l.length - 1) = l := by unfold seg; rw [l3, show l.length - 1 + 1 = l.length by omega, List.take_length, List.drop_zero]
  have hse : seg (hds e) fe (e.length - 1) = hds e := by unfold seg; rw [e3, show e.length - 1 + 1 = (hds e).length by rw [hds_len]; omega, List.take_length, List.drop_zero]
  have hg : ∀ n, (List.replicate (hlsL l).length ([] : List Nd)).getD n [] = [] := fun n => by
    rw [List.getD_eq_getElem?_getD, List.getElem?_replicate]; split <;> rfl
  constructor
  · intro hb
    obtain ⟨_, _, h3, h4⟩ := h.fine hb
    rw [hsl] at h3 h4
    rw [hse] at h3
    have hlen : ps'.length = (hlsL l).length := by rw [h.len]; simp
    refine ⟨hlen, fun r hr => ?_, h3⟩
    obtain ⟨n, hn, rfl⟩ := List.getElem_of_mem hr
    obtain ⟨x, hx, ho, hxn⟩ := hls_hit (l := l) (n := n) (by rw [← hlen]; exact hn)
    have := h4 x hx ho
    rw [hxn] at this
    simpa [hn] using this
  · intro qs hq
    exact (h.comp qs ⟨hp, hq.snd, hq.len⟩ (by rw [hsl, hse]; exact hq.eq) (fun n => .inl (hg n)) rfl).1
end Go.Proofs.YtlllkjbbldhddaaDoor

set_option linter.unusedSimpArgs false
set_option linter.unusedVariables false
namespace Go.Proofs.YtlllkjbbldhddaaDoor
open Go.RowKit Go.Lib

/-- Between two nodes of the copy. -/
structure PcMid (w : World) (l : List Nd) (v : Value) (k : Nat) (wr : World) : Prop where
  p : ∃ p, p.map (·.1) = (l.take k).map fillN ++ l.drop k ∧ OwnP wr w.heap.size v p
  below : Below w.heap.size w wr
theorem PcMid.at_ {w : World} {l : List Nd} {v : Value} {k : Nat} {wr : World} (h : PcMid w l v k wr) (hk : k < l.length) : ∃ g cap, v = .slice (some ⟨g, 0, none⟩) l.length cap ∧ w.heap.size ≤ g ∧ g < wr.heap.size ∧ l.length ≤ cap ∧ cap ≤ maxLen ∧ wr.cell? ⟨g, k * 4, none⟩ = some (.int .i64 (l.getD k nd0).op) ∧ wr.frozen? ⟨g, k * 4, none⟩ = false := by
  obtain ⟨⟨p, hp, hc⟩, hb⟩ := h
  have hpl : p.length = l.length := by have := congrArg List.length hp; simp at this; omega
  rcases hc.row.2 with ⟨rfl, h0⟩ | ⟨g, cap, cur, rfl, hg0, hg, h1, h2, h3, h4⟩
  · omega
  · refine ⟨g, cap, by rw [hpl], hg0, lt_of_block hg, by omega, h2, ?_, frozen_of_heap hg _⟩
    have hp2 : p[k]? = some (p[k].1, p[k].2) := by simp [hpl, hk]
    have := (ndCells_at p k _ _ hp2).1
    have hx : ((l.take k).map fillN ++ l.drop k)[k]? = some l[k] := by
      rw [List.getElem?_append_right (by simp; omega)]
      have : k - ((l.take k).map fillN).length = 0 := by simp; omega
      rw [this]; simp [hk]
    have hkp : k < p.length := by omega
    have e : p[k].1 = l.getD k nd0 := by
      have h5 : (p.map (·.1))[k]? = some l[k] := by rw [hp]; exact hx
      simp [hkp] at h5
      simp [hk, h5]
    rw [cell_of_heap hg, ← Array.getElem?_toList, ← e, ← this, ← h4, List.getElem?_take, if_pos (by omega)]
theorem PcMid.skip {w : World} {l : List Nd} {v : Value} {k : Nat} {wr : World} (h : PcMid w l v k wr) (hk : k < l.length) (hop : (l.getD k nd0).op ≠ 18) : PcMid w l v (k + 1) wr := by
  obtain ⟨⟨p, hp, hc⟩, hb⟩ := h
  exact ⟨⟨p, by rw [fill_step hk hop]; exact hp, hc⟩, hb⟩
theorem PcMid.fill {w : World} {l : List Nd} {g cap k : Nat} {wr : World} (h : PcMid w l (.slice (some ⟨g, 0, none⟩) l.length cap) k wr) (hk : k < l.length) (hop : (l.getD k nd0).op = 18) : PcMid w l (.slice (some ⟨g, 0, none⟩) l.length cap) (k + 1) (wr.setCell ⟨g, k * 4, none⟩ (.int .i64 2)) := by
  obtain ⟨g', cap', e1, hg0, _⟩ := h.at_ hk
  cases e1
  obtain ⟨⟨p, hp, hc⟩, hb⟩ := h
  have hpl : p.length = l.length := by have := congrArg List.length hp; simp at this; omega
  have e : l.getD k nd0 = l[k] := by simp [hk]
  have hx : ((l.take k).map fillN ++ l.drop k)[k]? = some l[k] := by
    rw [List.getElem?_append_right (by simp; omega)]
    have : k - ((l.take k).map fillN).length = 0 := by simp; omega
    rw [this]; simp [hk]
  have hpk : p[k]? = some (l[k], (p.getD k (nd0, .slice none 0 0)).2) := by
    have hkp : k < p.length := by omega
    have : (p.map (·.1))[k]? = some l[k] := by rw [hp]; exact hx
    simp [hkp] at this
    simp [hkp, ← this]
  have hfl : fillN l[k] = { l[k] with op := 2 } := by rw [e] at hop; simp [fillN, hop]
  have hrow : wr.ownsRow w.heap.size 63 4 (.slice (some ⟨g, 0, none⟩) l.length cap) l.length (ndCells p) := by have := hc.row; rwa [hpl] at this
  refine ⟨⟨p.set k ({ l[k] with op := 2 }, (p.getD k (nd0, .slice none 0 0)).2), ?_, ?_, ?_⟩, hb.setCell (p := ⟨g, k * 4, none⟩) hg0 _⟩
  · rw [List.map_set, hp, ← hfl]
    rw [List.take_succ_eq_append_getElem hk, List.map_append, List.set_append_right _ _ (by simp; omega)]
    have : k - ((l.take k).map fillN).length = 0 := by simp; omega
    rw [this, List.drop_eq_getElem_cons hk, List.set_cons_zero, List.append_assoc]
    rfl
  · rw [ndCells_op p k _ _ 2 hpk, List.length_set, hpl]
    exact own_put hrow (by rw [ndCells_length]; omega)
  · intro q hq
    have hin : ∀ q ∈ p, OwnI (wr.setCell ⟨g, k * 4, none⟩ (.int .i64 2)) w.heap.size q.2 q.1.kids := fun q hq => own_set' (hc.kids q hq) (fun e => by
      rcases ownBlock_ne (hc.kids q hq) hc.row (by decide) with h | h
      · rw [h] at e; cases e
      · exact h (by rw [e]; rfl))
    rcases List.mem_or_eq_of_mem_set hq with hq | rfl
    · exact hin q hq
    · exact hin (l[k], _) (List.mem_of_getElem? hpk)


/-- What the document's Check answers. -/
def pkC (l : List Nd) : Int := if patB l = true then 0 else 1
set_option maxRecDepth 20000 in
set_option maxHeartbeats 4000000 in
theorem rchk14_any {w : World} {ao : Option Addr} {cap : Nat} {l : List Nd} (hN : Rd w ao cap l) (hF : Fit l) :
    Calls Tryd.prog 34 #[.slice ao l.length cap] w fun e w' => e = .returned (.int .i64 (pkC l)) ∧ Below w.heap.size w w' := by
  obtain ⟨hb1, hb2⟩ := hN.bound
  unfold maxLen at hb2
  have HN : Hid (Rd w ao cap l) := hN
  have HF : Hid (Fit l) := hF
  obtain ⟨R, hR⟩ : ∃ R, pkC l = R := ⟨_, rfl⟩
  have HR : Hid (R = if (decide (l.length ≤ 16) && decide ((hlsL l).length ≤ 6) && sndB (l.map fillN)) = true then 0 else 1) := by show R = _; rw [← hR]; rfl
  rw [hR]
  have cH := refHolesO_any hN hF.len
  clear hN hF hR
  by_cases h16 : l.length ≤ 16
  · have g16 : ¬ (16 : Int) < (l.length : Int) := by omega
    go_enter Tryd.func34, Tryd.ntmps34
    go_wp2_with fail
    refine cH.mono ?_
    rintro e w1 ⟨ha, hc, rfl, hM1⟩
    have B1 : Hid (Below w.heap.size w w1) := hM1.below
    clear hM1 cH
    generalize hnh : (hlsL l).length = nh at *
    by_cases h6 : nh ≤ 6
    · have g6 : ¬ (6 : Int) < (nh : Int) := by omega
      have HR1 : Hid (R = if sndB (l.map fillN) = true then 0 else 1) := by show R = _; rw [HR.out, decide_eq_true h16, decide_eq_true h6]; simp
      clear HR h16 h6 hnh
      have cC := copy_any _ l w1 _ (Nat.le_refl _) (HN.out.below B1.out B1.out.size) HF.out.len HF.out.kids
      go_wp2_with fail
      refine cC.mono ?_
      rintro e w2 ⟨v, rfl, ⟨p, hp, hO⟩, hb2'⟩
      have B2 : Hid (Below w.heap.size w w2) := B1.out.trans (hb2'.mono B1.out.size)
      have hOl : OwnP w2 w.heap.size v p := ⟨ownsRow_mono hO.row B1.out.size, fun q hq => ownsRow_mono (hO.kids q hq) B1.out.size⟩
      have HM0 : Hid (PcMid w l v 0 w2) := ⟨⟨p, by simpa using hp, hOl⟩, B2.out⟩
      obtain ⟨va, vc, hv⟩ := row_form' hO.row
      have hpl : p.length = l.length := by rw [← hp]; simp
      rw [hpl] at hv
      subst hv
      have hvc : l.length ≤ vc ∧ vc ≤ maxLen := by
        rcases hO.row.2 with ⟨e, h0⟩ | ⟨g, c, cur, e, _, _, hn, hm, _⟩
        · simp only [Value.slice.injEq] at e; exact ⟨by omega, by rw [e.2.2]; exact Nat.zero_le _⟩
        · simp only [Value.slice.injEq] at e; exact ⟨by omega, by rw [e.2.2]; exact hm⟩
      obtain ⟨hv1, hv2⟩ := hvc
      unfold maxLen at hv2
      clear cC hb2' hp hO hOl hpl
      go_wp2_with fail
      go_loopw [4] (fun q wr => ∃ k : Nat, k ≤ l.length ∧ q = .int .i64 k ∧ PcMid w l (.slice va l.length vc) k wr) (fun q _ => l.length - (RowKit.intOf q).toNat)
      case atStart => exact ⟨0, by omega, rfl, HM0.out⟩
      case round =>
        obtain ⟨k, hk, rfl, hM⟩ := hrel
        by_cases hlt : k < l.length
        · obtain ⟨g, cp, e, hg0, hgl, hg1, hg2, hcl, hfz⟩ := hM.at_ hlt
          cases e
          by_cases hop : (l.getD k nd0).op = 18
          · have HFI : Hid (PcMid w l (.slice (some ⟨g, 0, none⟩) l.length vc) (k + 1) (wr.setCell ⟨g, k * 4, none⟩ (.int .i64 2))) := hM.fill hlt hop
            rw [hop] at hcl
            clear hM hop
            go_wp2_with fail
            exact ⟨⟨k + 1, by omega, by go_num, HFI.out⟩, by simp [RowKit.intOf]; omega⟩
          · have HFI : Hid (PcMid w l (.slice (some ⟨g, 0, none⟩) l.length vc) (k + 1) wr) := hM.skip hlt hop
            have g18 : ((l.getD k nd0).op == 18) = false := by rw [beq_eq_false_iff_ne]; exact hop
            generalize (l.getD k nd0).op = oo at *
            clear hM hop
            go_wp2_with fail
            exact ⟨⟨k + 1, by omega, by go_num, HFI.out⟩, by simp [RowKit.intOf]; omega⟩
        · have hke : k = l.length := by omega
          subst hke
          obtain ⟨⟨p, hp, hO⟩, hbw⟩ := hM
          rw [List.take_length, List.drop_length, List.append_nil] at hp
          have hNd := Nodes_of_ownP hO (Nat.le_refl _)
          rw [hp] at hNd
          have cK := refCheck_any (.slice va l.length vc) (l.map fillN) wr wr.heap.size (Nat.le_refl _) hNd (fun x hx => by
            obtain ⟨y, hy, rfl⟩ := List.mem_map.1 hx
            rw [fillN_name]; exact HF.out.name y hy)
          have HBW : Hid (Below w.heap.size w wr) := hbw
          unfold chkE at cK
          clear hp hO hNd hbw
          generalize sndB (l.map fillN) = sb at *
          cases sb
          · rw [if_neg (by decide)] at cK
            have HR2 : Hid (R = 1) := by show R = _; rw [HR1.out]; rfl
            clear HR1
            go_wp2_with (go_at_call 12; refine cK.mono ?_; rintro e w6 ⟨rfl, hb6⟩)
            go_ret
            exact ⟨by rw [HR2.out] <;> rfl, HBW.out.trans (hb6.mono HBW.out.size)⟩
          · rw [if_pos rfl] at cK
            have HR2 : Hid (R = 0) := by show R = _; rw [HR1.out]; rfl
            clear HR1
            go_wp2_with (go_at_call 12; refine cK.mono ?_; rintro e w6 ⟨rfl, hb6⟩)
            go_ret
            exact ⟨by rw [HR2.out] <;> rfl, HBW.out.trans (hb6.mono HBW.out.size)⟩
    · have g6 : (6 : Int) < (nh : Int) := by omega
      have HR2 : Hid (R = 1) := by show R = _; rw [HR.out, decide_eq_true h16, decide_eq_false h6]; rfl
      clear HR h16 h6 hnh
      go_wp2_with fail
      go_ret
      exact ⟨by rw [HR2.out] <;> rfl, B1.out⟩
  · have HR2 : Hid (R = 1) := by show R = _; rw [HR.out, decide_eq_false h16]; rfl
    have g16 : (16 : Int) < (l.length : Int) := by omega
    clear HR h16 cH
    go_enter Tryd.func34, Tryd.ntmps34
    go_wp2_with fail
    go_ret
    exact ⟨by rw [HR2.out] <;> rfl, Below.refl _ _⟩
end Go.Proofs.YtlllkjbbldhddaaDoor
