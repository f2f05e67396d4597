/-
  PaIx, PaFt.
-/
import Derived.Shelf.Unicode.DecodeSlow
import Derived.Laws.RangeAny
import Derived.Shelf.Strconv.Itoa0
import Derived.Shelf.Unicode.DecodeAny
import Derived.Test.YtfdghbbanokopaaDoorProg
import Derived.WalkKit
import Derived.Deep.DeepFit
import Derived.Lib.OthersKept
import Derived.Lib.RuneCountTail
import Derived.Deep.AppendLies
import Derived.Deep.OwnRows
import Derived.Laws.AppendOwnNone
import Derived.Deep.QuietTactic
import Derived.BigQuiet
import Derived.Deep.RegionWith
import Derived.Laws.DeepStrings4
import Derived.Below
import Derived.Lib.MapLaws
import Derived.Sort.Walk0
import Derived.Lib.ItoaNum
import Derived.Maps.OwnSet
import Derived.StringKeys
import Derived.Deep.Slices
import Derived.Laws.ResultCell
import Derived.Test.YtfdghbbanokopaaDoorG01
import Derived.Test.YtfdghbbanokopaaDoorG02
import Derived.Test.YtfdghbbanokopaaDoorG03
import Derived.Test.YtfdghbbanokopaaDoorG04
import Derived.Test.YtfdghbbanokopaaDoorG05
import Derived.Test.YtfdghbbanokopaaDoorG06
import Derived.Test.YtfdghbbanokopaaDoorG07
import Derived.Test.YtfdghbbanokopaaDoorG13
import Derived.Test.YtfdghbbanokopaaDoorG14
import Derived.Test.YtfdghbbanokopaaDoorG17
import Derived.Test.YtfdghbbanokopaaDoorG18
import Derived.Test.YtfdghbbanokopaaDoorG19
import Derived.Test.YtfdghbbanokopaaDoorG20
import Derived.Test.YtfdghbbanokopaaDoorG21
set_option linter.unusedSimpArgs false
set_option linter.unusedVariables false
namespace Go.Proofs.YtfdghbbanokopaaDoor
open Go.RowKit Go.Lib Go.Maps Go.Deep

set_option maxRecDepth 20000 in
set_option maxHeartbeats 2000000 in
theorem index_any {w : World} {ao : Option Addr} {cap : Nat} {ps : List (List Nd)} (hT : SpanCells w) (hN : Lst w w.heap.size (.slice ao ps.length cap) ps) :
    Calls Tryd.prog 81 #[.slice ao ps.length cap, .func (.func 57) #[] #[] ] w fun e w' => ∃ z : Int, e = .returned (.int .i64 z) ∧ Hid (decide (0 ≤ z) = ps.any (fun l => !sndB l)) ∧ Below w.heap.size w w' := by
  obtain ⟨ao', cap', e1, hl, hm, hc⟩ := hN
  cases e1
  unfold maxLen at hm
  have HC : Hid (ps = [] ∨ ∃ b o, ao = some ⟨b, o, none⟩ ∧ b < w.heap.size ∧ ∀ i, i < ps.length → ∃ pv, w.cell? ⟨b, o + i, none⟩ = some pv ∧ Nodes w w.heap.size pv (ps.getD i [])) := hc
  have HT : Hid (SpanCells w) := hT
  clear hc hT
  go_enter Tryd.func81, Tryd.ntmps81
  go_wp2_with fail
  go_loopw [8] (fun i wr => ∃ k : Nat, k ≤ ps.length ∧ i = .int .i64 k ∧ Hid ((ps.take k).any (fun l => !sndB l) = false) ∧ Below w.heap.size w wr) (fun i _ => ps.length - (RowKit.intOf i).toNat)
  case atStart => exact ⟨0, by omega, rfl, by show _ = _; simp, Below.refl _ _⟩
  case round =>
    obtain ⟨k, hk, rfl, hA, hbw⟩ := hrel
    have hsw := hbw.size
    by_cases hlt : k < ps.length
    · obtain ⟨b, o, rfl, hbl, hc⟩ : ∃ b o, ao = some ⟨b, o, none⟩ ∧ b < w.heap.size ∧ ∀ i, i < ps.length → ∃ pv, w.cell? ⟨b, o + i, none⟩ = some pv ∧ Nodes w w.heap.size pv (ps.getD i []) := by
        rcases HC.out with h | h
        · subst h; simp at hlt
        · exact h
      obtain ⟨pv, hpc, hpn⟩ := hc k hlt
      obtain ⟨pa, pc, rfl, _⟩ := id hpn
      have hpc : wr.cell? ⟨b, o + k, none⟩ = some _ := (hbw.cell (p := ⟨b, o + k, none⟩) hbl).trans hpc
      have cU := unsound_any (HT.out.below hbw) (hpn.below hbw hsw)
      have HS : Hid ((ps.take (k + 1)).any (fun l => !sndB l) = ((ps.take k).any (fun l => !sndB l) || !sndB (ps.getD k []))) := by
        show _ = _
        rw [List.take_succ_eq_append_getElem hlt, List.any_append]; simp [hlt]
      have HX : Hid (ps.any (fun l => !sndB l) = true ∨ sndB (ps.getD k []) = true) := by
        show _ ∨ _
        cases h : sndB (ps.getD k []) with
        | true => exact .inr rfl
        | false => exact .inl (List.any_eq_true.2 ⟨ps.getD k [], by simp [hlt], by rw [h]; rfl⟩)
      have HB : Hid (_) := hbw
      generalize (ps.getD k []).length = pl at *
      generalize sndB (ps.getD k []) = sb at *
      clear hc hpn hbw
      cases sb
      · go_wp2_with (go_at_call 57; refine cU.mono ?_; rintro e w2 ⟨rfl, hb2⟩; have HB2 : Hid (_) := hb2; clear hb2)
        go_ret
        refine ⟨_, rfl, ?_, HB.out.trans (HB2.out.mono hsw)⟩
        show _ = _
        rcases HX.out with h | h
        · rw [h]; simp
        · cases h
      · go_wp2_with (go_at_call 57; refine cU.mono ?_; rintro e w2 ⟨rfl, hb2⟩; have HB2 : Hid (_) := hb2; clear hb2)
        exact ⟨⟨k + 1, by omega, by go_num, by show _ = _; rw [HS.out, hA.out]; rfl, HB.out.trans (HB2.out.mono hsw)⟩, by simp [RowKit.intOf]; omega⟩
    · have hke : k = ps.length := by omega
      subst hke
      rw [List.take_length] at hA
      have HB : Hid (_) := hbw
      go_wp2_with fail
      go_ret
      refine ⟨_, rfl, ?_, HB.out⟩
      show _ = _
      rw [hA.out]; rfl

set_option maxRecDepth 20000 in
set_option maxHeartbeats 2000000 in
theorem contains_any {w : World} {ao : Option Addr} {cap : Nat} {ps : List (List Nd)} (hT : SpanCells w) (hN : Lst w w.heap.size (.slice ao ps.length cap) ps) :
    Calls Tryd.prog 56 #[.slice ao ps.length cap, .func (.func 57) #[] #[] ] w fun e w' => e = .returned (.bool (ps.any (fun l => !sndB l))) ∧ Below w.heap.size w w' := by
  have cI := index_any hT hN
  clear hT hN
  generalize (ps.any fun l => !sndB l) = R at *
  go_enter Tryd.func56, Tryd.ntmps56
  go_wp2_with (go_at_call 81; refine cI.mono ?_; rintro e w2 ⟨z, rfl, hz, hb2⟩)
  go_ret
  exact ⟨by rw [← hz.out] <;> rfl, hb2⟩
end Go.Proofs.YtfdghbbanokopaaDoor

set_option linter.unusedSimpArgs false
set_option linter.unusedVariables false
namespace Go.Proofs.YtfdghbbanokopaaDoor

theorem foldl_hit : ∀ (l : List Nd) (acc : List ByteArray) (s : ByteArray), s ∈ l.foldl addNm acc → s ∈ acc ∨ ∃ x ∈ l, x.op = 18 ∧ x.name = s
  | [], acc, s, h => .inl h
  | x :: l, acc, s, h => by
    simp only [List.foldl_cons] at h
    rcases foldl_hit l _ s h with h | ⟨y, hy, h⟩
    · unfold addNm at h
      split at h
      · rename_i ho
        split at h
        · exact .inl h
        · rcases List.mem_append.1 h with h | h
          · exact .inl h
          · simp at h; exact .inr ⟨x, by simp, ho, h.symm⟩
      · exact .inl h
    · exact .inr ⟨y, List.mem_cons_of_mem _ hy, h⟩
theorem foldl_nodup : ∀ (l : List Nd) (acc : List ByteArray), acc.Nodup → (l.foldl addNm acc).Nodup
  | [], acc, h => h
  | x :: l, acc, h => by
    simp only [List.foldl_cons]
    refine foldl_nodup l _ ?_
    unfold addNm
    split
    · split
      · exact h
      · rename_i hn
        refine List.nodup_append.2 ⟨h, by simp, fun a ha b hb => ?_⟩
        simp at hb; subst hb
        rintro rfl
        exact hn (List.any_eq_true.2 ⟨_, ha, by simp⟩)
    · exact h
theorem numL_get : ∀ (ks : List ByteArray) (n : Nat) (h : n < ks.length), ks.Nodup → numL ks ks[n] = n
  | k :: ks, 0, h, _ => by simp [numL]
  | k :: ks, n + 1, h, hd => by
    simp only [List.getElem_cons_succ, numL]
    have hd' := List.nodup_cons.1 hd
    rw [if_neg (fun e => hd'.1 (by rw [e]; exact List.getElem_mem _)), numL_get ks n (by simpa using h) hd'.2]
/-- Each number is a hole's. -/
theorem hls_hit {l : List Nd} {n : Nat} (h : n < (hlsL l).length) : ∃ x ∈ l, x.op = 18 ∧ numL (hlsL l) x.name = n := by
  have hm : (hlsL l)[n] ∈ hlsL l := List.getElem_mem h
  rcases foldl_hit l [] _ hm with h1 | ⟨x, hx, ho, he⟩
  · simp at h1
  · refine ⟨x, hx, ho, ?_⟩
    rw [he]
    exact numL_get _ _ h (foldl_nodup l [] List.nodup_nil)
theorem hole_lt {l : List Nd} {x : Nd} (hx : x ∈ l) (ho : x.op = 18) : numL (hlsL l) x.name < (hlsL l).length := numL_lt (mem_hls hx ho)
theorem getD_mem {α : Type} {l : List α} {d : α} {n : Nat} (h : n < l.length) : l.getD n d ∈ l := by
  have : l.getD n d = l[n] := by simp [h]
  rw [this]; exact List.getElem_mem h

/-- The parts with which a pattern is e. -/
structure FtOk (l e : List Nd) (ps : List (List Nd)) : Prop where
  len : ps.length = (hlsL l).length
  snd : ∀ r ∈ ps, sndB r = true
  eq : hds e = flH ps (hlsL l) l
theorem FtOk.pts {l e : List Nd} {ps : List (List Nd)} (h : FtOk l e ps) : PtsOk ps (hlsL l) l := fun x hx ho => h.snd _ (getD_mem (by rw [h.len]; exact hole_lt hx ho))
theorem flH_congr {ps qs : List (List Nd)} {ks : List ByteArray} : ∀ {l : List Nd}, (∀ x ∈ l, x.op = 18 → ps.getD (numL ks x.name) [] = qs.getD (numL ks x.name) []) → flH ps ks l = flH qs ks l
  | [], _ => rfl
  | x :: l, h => by
    have e1 : ∀ rs : List (List Nd), flH rs ks (x :: l) = flN rs ks x ++ flH rs ks l := fun rs => by simp [flH]
    rw [e1, e1, flH_congr (l := l) fun y hy => h y (List.mem_cons_of_mem _ hy)]
    congr 1
    unfold flN
    split
    · rename_i ho; rw [h x (by simp) ho]
    · rfl
theorem snd_ne {l : List Nd} (h : sndB l = true) : l ≠ [] := by
  rintro rfl
  have := (snd_len h).1
  simp at this

/-- What fits, from the right. -/
structure FtI (l e : List Nd) (k a : Nat) (ps : List (List Nd)) : Prop where
  le : a ≤ e.length
  kle : k ≤ l.length
  len : ps.length = (hlsL l).length
  dp : dep ((hds e).take a) = dep ((hds (l.map fillN)).take k)
  eq : (hds e).drop a = flH ps (hlsL l) (l.drop k)
  pts : PtsOk ps (hlsL l) (l.drop k)
  all : ∀ n, n < ps.length → ps.getD n [] = [] ∨ sndB (ps.getD n []) = true
  uniq : ∀ qs, FtOk l e qs → (hds e).take a = flH qs (hlsL l) (l.take k) ∧ ∀ n, n < ps.length → ps.getD n [] = [] ∨ ps.getD n [] = qs.getD n []
theorem FtI.start {l e : List Nd} {fe fr : List Nat} (he : begL e = some fe) (hl : begL (l.map fillN) = some fr) : FtI l e l.length e.length (List.replicate (hlsL l).length []) := by
  have hg : ∀ n, (List.replicate (hlsL l).length ([] : List Nd)).getD n [] = [] := fun n => by
    rw [List.getD_eq_getElem?_getD, List.getElem?_replicate]; split <;> rfl
  refine ⟨Nat.le_refl _, Nat.le_refl _, by simp, ?_, ?_, ?_, fun n _ => .inl (hg n), fun qs hq => ⟨?_, fun n _ => .inl (hg n)⟩⟩
  · rw [List.take_of_length_le (by rw [hds_len]; exact Nat.le_refl _), List.take_of_length_le (by rw [hds_len]; simp), dep_whole he, dep_whole hl]
  · rw [List.drop_eq_nil_of_le (by rw [hds_len]; exact Nat.le_refl _), List.drop_eq_nil_of_le (Nat.le_refl _)]; rfl
  · rw [List.drop_eq_nil_of_le (Nat.le_refl _)]; intro x hx; simp at hx
  · rw [List.take_of_length_le (by rw [hds_len]; exact Nat.le_refl _), List.take_of_length_le (Nat.le_refl _)]; exact hq.eq
theorem FtI.pos {l e : List Nd} {k a : Nat} {ps : List (List Nd)} {fr : List Nat} (hl : begL (l.map fillN) = some fr) (h : FtI l e (k + 1) a ps) : 0 < a := by
  have h1 := dep_pos (begOk_of (begL_some hl).2.2.1) (k := k + 1) (by omega) (by simpa using h.kle)
  rw [← h.dp] at h1
  rcases Nat.eq_zero_or_pos a with h0 | h0
  · subst h0; simp [dep_nil] at h1
  · exact h0
theorem FtI.skip {l e : List Nd} {k a : Nat} {ps : List (List Nd)} (h : FtI l e (k + 1) (a + 1) ps) (ho : (l.getD k nd0).op ≠ 18) (hh : hd (l.getD k nd0) = hd (e.getD a nd0)) : FtI l e k a ps := by
  have hk : k < l.length := by have := h.kle; omega
  have ha : a < e.length := by have := h.le; omega
  have hxm : l.drop k = l.getD k nd0 :: l.drop (k + 1) := by rw [List.drop_eq_getElem_cons hk]; simp [hk]
  have hdr : (hds e).drop a = hd (e.getD a nd0) :: (hds e).drop (a + 1) := by
    rw [List.drop_eq_getElem_cons (by rw [hds_len]; exact ha)]
    simp [hds, ha]
  refine ⟨by omega, by omega, h.len, ?_, ?_, ?_, h.all, fun qs hq => ⟨?_, (h.uniq qs hq).2⟩⟩
  · have := h.dp
    rw [hds_take_succ ha, hds_take_succ (by simpa using hk), dep_app, dep_app, fillN_at hk, hd_fill ho, hh] at this
    omega
  · rw [hdr, flH_drop hk, h.eq]
    unfold flN; rw [if_neg ho, hh]; rfl
  · intro x hx hx18
    rw [hxm] at hx
    rcases List.mem_cons.1 hx with rfl | hx
    · exact absurd hx18 ho
    · exact h.pts x hx hx18
  · have := (h.uniq qs hq).1
    rw [hds_take_succ ha, flH_take hk] at this
    unfold flN at this
    rw [if_neg ho] at this
    exact (List.append_inj' this rfl).1
theorem FtI.differ {l e : List Nd} {k a : Nat} {ps : List (List Nd)} (h : FtI l e (k + 1) (a + 1) ps) (ho : (l.getD k nd0).op ≠ 18) (hh : hd (l.getD k nd0) ≠ hd (e.getD a nd0)) : ∀ qs, ¬ FtOk l e qs := fun qs hq => by
  have hk : k < l.length := by have := h.kle; omega
  have ha : a < e.length := by have := h.le; omega
  have := (h.uniq qs hq).1
  rw [hds_take_succ ha, flH_take hk] at this
  unfold flN at this
  rw [if_neg ho] at this
  have h2 := (List.append_inj' this rfl).2
  simp at h2
  exact hh h2.symm
/-- What a fitting has at a hole. -/
theorem FtI.at_ {l e : List Nd} {fe : List Nat} {k a : Nat} {ps : List (List Nd)} (he : begL e = some fe) (h : FtI l e (k + 1) (a + 1) ps) (ho : (l.getD k nd0).op = 18) {qs : List (List Nd)} (hq : FtOk l e qs) :
    (hds e).take (fe.getD a 0) = flH qs (hlsL l) (l.take k) ∧ partL e (fe.getD a 0) a = qs.getD (numL (hlsL l) (l.getD k nd0).name) [] := by
  have hk : k < l.length := by have := h.kle; omega
  have ha : a < e.length := by have := h.le; omega
  have h1 := (h.uniq qs hq).1
  rw [flH_take hk] at h1
  have e1 : flN qs (hlsL l) (l.getD k nd0) = hds (qs.getD (numL (hlsL l) (l.getD k nd0).name) []) := by unfold flN; rw [if_pos ho]
  rw [e1] at h1
  have hs := hq.pts _ (getD_mem hk) ho
  obtain ⟨f, hf⟩ := Option.isSome_iff_exists.1 hs
  obtain ⟨h2, h3⟩ := part_at he hf h.le h1
  simp only [Nat.add_sub_cancel] at h2 h3
  refine ⟨?_, h3⟩
  have h4 : (hds e).take (fe.getD a 0) = ((hds e).take (a + 1)).take (fe.getD a 0) := by
    rw [List.take_take]
    have := (begOk_of (begL_some he).2.2.1).low a
    congr 1; omega
  rw [h4, h1, h2, List.take_left]
theorem gdSetSame {α : Type} {l : List α} {d v : α} {n : Nat} (h : n < l.length) : (l.set n v).getD n d = v := by
  rw [List.getD_eq_getElem?_getD, List.getElem?_set_self h]; rfl
theorem gdSetNe {α : Type} {l : List α} {d v : α} {n m : Nat} (h : n ≠ m) : (l.set n v).getD m d = l.getD m d := by
  rw [List.getD_eq_getElem?_getD, List.getElem?_set_ne h, ← List.getD_eq_getElem?_getD]
theorem FtI.hole {l e : List Nd} {fe : List Nat} {k a : Nat} {ps : List (List Nd)} (he : begL e = some fe) (h : FtI l e (k + 1) (a + 1) ps) (ho : (l.getD k nd0).op = 18)
    (hp : ps.getD (numL (hlsL l) (l.getD k nd0).name) [] = [] ∨ ps.getD (numL (hlsL l) (l.getD k nd0).name) [] = partL e (fe.getD a 0) a) :
    FtI l e k (fe.getD a 0) (ps.set (numL (hlsL l) (l.getD k nd0).name) (partL e (fe.getD a 0) a)) := by
  have hk : k < l.length := by have := h.kle; omega
  have ha : a < e.length := by have := h.le; omega
  have hok := begOk_of (begL_some he).2.2.1
  have hlow := hok.low a
  obtain ⟨n, hn⟩ : ∃ n, numL (hlsL l) (l.getD k nd0).name = n := ⟨_, rfl⟩
  have hnl : n < ps.length := by rw [← hn, h.len]; exact hole_lt (getD_mem hk) ho
  have hr : sndB (partL e (fe.getD a 0) a) = true := by
    obtain ⟨fo, hfo⟩ := part_snd he a ha
    unfold sndB; rw [hfo]; rfl
  have hb1 : dep ((hds e).take (a + 1)) = dep ((hds e).take (fe.getD a 0)) + 1 := dep_beg hok ha
  have hpart : hds (partL e (fe.getD a 0) a) = ((hds e).drop (fe.getD a 0)).take (a + 1 - fe.getD a 0) := hds_part e _ a
  have huq : ∀ qs, FtOk l e qs → (hds e).take (fe.getD a 0) = flH qs (hlsL l) (l.take k) ∧ partL e (fe.getD a 0) a = qs.getD n [] := fun qs hq => by rw [← hn]; exact h.at_ he ho (qs := qs) hq
  rw [hn] at hp ⊢
  generalize hR : partL e (fe.getD a 0) a = r at *
  generalize fe.getD a 0 = b at *
  have hcg : flH (ps.set n r) (hlsL l) (l.drop (k + 1)) = flH ps (hlsL l) (l.drop (k + 1)) := flH_congr fun x hx hx18 => by
    by_cases hxn : n = numL (hlsL l) x.name
    · rw [← hxn, gdSetSame hnl]
      have hs := h.pts x hx hx18
      rw [← hxn] at hs
      rcases hp with hp | hp
      · rw [hp] at hs; cases hs
      · exact hp.symm
    · rw [gdSetNe hxn]
  have hxm : l.drop k = l.getD k nd0 :: l.drop (k + 1) := by rw [List.drop_eq_getElem_cons hk]; simp [hk]
  refine ⟨by omega, by omega, by simpa using h.len, ?_, ?_, ?_, ?_, fun qs hq => ⟨(huq qs hq).1, ?_⟩⟩
  · have h1 := h.dp
    rw [hb1, hds_take_succ (by simpa using hk), dep_app, dep_one, fillN_at hk] at h1
    have e2 : (hd (fillN (l.getD k nd0))).1 = 2 := by unfold fillN; rw [if_pos ho]; rfl
    rw [e2] at h1
    have e3 : aritI 2 = 0 := by decide
    rw [e3] at h1
    omega
  · have e1 : flN (ps.set n r) (hlsL l) (l.getD k nd0) = hds r := by
      unfold flN; rw [if_pos ho, hn, gdSetSame hnl]
    rw [flH_drop hk, e1, hcg, ← h.eq, hpart]
    have := List.take_append_drop (a + 1 - b) ((hds e).drop b)
    rw [List.drop_drop, show b + (a + 1 - b) = a + 1 by omega] at this
    exact this.symm
  · intro x hx hx18
    by_cases hxn : n = numL (hlsL l) x.name
    · rw [← hxn, gdSetSame hnl]; exact hr
    · rw [gdSetNe hxn]
      rw [hxm] at hx
      rcases List.mem_cons.1 hx with rfl | hx
      · exact absurd hn.symm hxn
      · exact h.pts x hx hx18
  · intro m hm
    by_cases hmn : n = m
    · subst hmn; rw [gdSetSame hnl]; exact .inr hr
    · rw [gdSetNe hmn]; exact h.all m (by simpa using hm)
  · intro m hm
    by_cases hmn : n = m
    · subst hmn; rw [gdSetSame hnl]; exact .inr (huq qs hq).2
    · rw [gdSetNe hmn]; exact (h.uniq qs hq).2 m (by simpa using hm)
theorem FtI.clash {l e : List Nd} {fe : List Nat} {k a : Nat} {ps : List (List Nd)} (he : begL e = some fe) (h : FtI l e (k + 1) (a + 1) ps) (ho : (l.getD k nd0).op = 18)
    (h1 : ps.getD (numL (hlsL l) (l.getD k nd0).name) [] ≠ []) (h2 : ps.getD (numL (hlsL l) (l.getD k nd0).name) [] ≠ partL e (fe.getD a 0) a) : ∀ qs, ¬ FtOk l e qs := fun qs hq => by
  have hk : k < l.length := by have := h.kle; omega
  have := (h.at_ he ho hq).2
  rcases (h.uniq qs hq).2 _ (by rw [h.len]; exact hole_lt (getD_mem hk) ho) with h3 | h3
  · exact h1 h3
  · exact h2 (by rw [h3, this])
theorem FtI.done {l e : List Nd} {fe : List Nat} {a : Nat} {ps : List (List Nd)} (he : begL e = some fe) (h : FtI l e 0 a ps) : FtOk l e ps := by
  have h1 := h.dp
  have ha : a = 0 := by
    rcases Nat.eq_zero_or_pos a with h0 | h0
    · exact h0
    · have := dep_pos (begOk_of (begL_some he).2.2.1) h0 h.le
      rw [h1] at this
      simp [dep_nil] at this
  subst ha
  refine ⟨h.len, fun r hr => ?_, by simpa using h.eq⟩
  obtain ⟨n, hn, rfl⟩ := List.getElem_of_mem hr
  have hn' : n < (hlsL l).length := by rw [← h.len]; exact hn
  obtain ⟨x, hx, ho, he⟩ := hls_hit hn'
  have := h.pts x (by simpa using hx) ho
  rw [he] at this
  simpa [hn] using this
/-- What fits is one. -/
theorem FtOk.one {l e : List Nd} {fe : List Nat} {ps qs : List (List Nd)} (he : begL e = some fe) (hp : FtOk l e ps) (hq : FtOk l e qs) : ps = qs := by
  have key : ∀ m k, k + m = l.length → ∃ a, a ≤ e.length ∧ (hds e).take a = flH ps (hlsL l) (l.take k) ∧ flH ps (hlsL l) (l.take k) = flH qs (hlsL l) (l.take k) ∧ ∀ x ∈ l.drop k, x.op = 18 → ps.getD (numL (hlsL l) x.name) [] = qs.getD (numL (hlsL l) x.name) [] := by
    intro m
    induction m with
    | zero =>
      intro k hk
      have : k = l.length := by omega
      subst this
      rw [List.take_of_length_le (Nat.le_refl _), List.drop_eq_nil_of_le (Nat.le_refl _)]
      exact ⟨e.length, Nat.le_refl _, by rw [List.take_of_length_le (by rw [hds_len]; exact Nat.le_refl _), hp.eq], by rw [← hp.eq, hq.eq], by simp⟩
    | succ m ih =>
      intro k hk
      have hkl : k < l.length := by omega
      obtain ⟨a, ha, h1, h2, h3⟩ := ih (k + 1) (by omega)
      have hxm : l.drop k = l.getD k nd0 :: l.drop (k + 1) := by rw [List.drop_eq_getElem_cons hkl]; simp [hkl]
      rw [flH_take hkl] at h1
      rw [flH_take hkl, flH_take hkl] at h2
      by_cases ho : (l.getD k nd0).op = 18
      · have e1 : ∀ rs : List (List Nd), flN rs (hlsL l) (l.getD k nd0) = hds (rs.getD (numL (hlsL l) (l.getD k nd0).name) []) := fun rs => by unfold flN; rw [if_pos ho]
        rw [e1] at h1
        rw [e1, e1] at h2
        obtain ⟨f, hf⟩ := Option.isSome_iff_exists.1 (hp.pts _ (getD_mem hkl) ho)
        obtain ⟨g, hg⟩ := Option.isSome_iff_exists.1 (hq.pts _ (getD_mem hkl) ho)
        obtain ⟨i1, i2⟩ := part_at he hf ha h1
        obtain ⟨j1, j2⟩ := part_at he hg ha (h1.trans h2)
        have heq := i2.symm.trans j2
        refine ⟨fe.getD (a - 1) 0, ?_, ?_, ?_, ?_⟩
        · have := (begOk_of (begL_some he).2.2.1).low (a - 1); omega
        · have h4 : (hds e).take (fe.getD (a - 1) 0) = ((hds e).take a).take (fe.getD (a - 1) 0) := by
            rw [List.take_take]
            have := (begOk_of (begL_some he).2.2.1).low (a - 1)
            have : fe.getD (a - 1) 0 ≤ a := by
              have e5 := congrArg List.length h1
              simp [hds_len] at e5
              rw [i1]; omega
            congr 1; omega
          rw [h4, h1, i1, List.take_left]
        · rw [heq] at h2
          exact List.append_cancel_right h2
        · intro x hx hx18
          rw [hxm] at hx
          rcases List.mem_cons.1 hx with rfl | hx
          · exact heq
          · exact h3 x hx hx18
      · have e1 : ∀ rs : List (List Nd), flN rs (hlsL l) (l.getD k nd0) = [hd (l.getD k nd0)] := fun rs => by unfold flN; rw [if_neg ho]
        rw [e1] at h1
        rw [e1, e1] at h2
        have hal : a = (flH ps (hlsL l) (l.take k)).length + 1 := by
          have e5 := congrArg List.length h1
          simp [hds_len] at e5; omega
        refine ⟨a - 1, by omega, ?_, List.append_cancel_right h2, ?_⟩
        · have h4 : (hds e).take (a - 1) = ((hds e).take a).take (a - 1) := by rw [List.take_take]; congr 1; omega
          rw [h4, h1, hal, Nat.add_sub_cancel, List.take_left]
        · intro x hx hx18
          rw [hxm] at hx
          rcases List.mem_cons.1 hx with rfl | hx
          · exact absurd hx18 ho
          · exact h3 x hx hx18
  obtain ⟨_, _, _, _, h⟩ := key l.length 0 (by omega)
  refine List.ext_getElem (by rw [hp.len, hq.len]) fun n h1 h2 => ?_
  obtain ⟨x, hx, ho, hn⟩ := hls_hit (l := l) (n := n) (by rw [← hp.len]; exact h1)
  have := h x (by simpa using hx) ho
  rw [hn] at this
  simpa [h1, h2] using this
end Go.Proofs.YtfdghbbanokopaaDoor
