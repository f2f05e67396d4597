/-
  PaIx, PaFt, ExAddQ.
-/
import Derived.Shelf.Unicode.DecodeSlow
import Derived.Laws.RangeAny
import Derived.Shelf.Strconv.Itoa0
import Derived.Shelf.Unicode.DecodeAny
import Derived.Test.YtfdghbbanokopaaDoorProg
import Derived.WalkKit
import Derived.Deep.DeepFit
import Derived.Lib.OthersKept
import Derived.Lib.RuneCountTail
import Derived.Deep.AppendLies
import Derived.Deep.OwnRows
import Derived.Laws.AppendOwnNone
import Derived.Deep.QuietTactic
import Derived.BigQuiet
import Derived.Deep.RegionWith
import Derived.Laws.DeepStrings4
import Derived.Lib.MapLaws
import Derived.Sort.Walk0
import Derived.Lib.ItoaNum
import Derived.Maps.OwnSet
import Derived.StringKeys
import Derived.Deep.Slices
import Derived.Below
import Derived.Laws.ResultCell
import Derived.Test.YtfdghbbanokopaaDoorD01
import Derived.Test.YtfdghbbanokopaaDoorD02
import Derived.Test.YtfdghbbanokopaaDoorD03
import Derived.Test.YtfdghbbanokopaaDoorD04
import Derived.Test.YtfdghbbanokopaaDoorD05
import Derived.Test.YtfdghbbanokopaaDoorD06
import Derived.Test.YtfdghbbanokopaaDoorD08
import Derived.Test.YtfdghbbanokopaaDoorD09
import Derived.Test.YtfdghbbanokopaaDoorD10
import Derived.Test.YtfdghbbanokopaaDoorD11
import Derived.Test.YtfdghbbanokopaaDoorD12
set_option linter.unusedSimpArgs false
set_option linter.unusedVariables false
namespace Go.Proofs.YtfdghbbanokopaaDoor
open Go.RowKit Go.Lib Go.Maps Go.Deep

set_option maxRecDepth 20000 in
set_option maxHeartbeats 2000000 in
theorem index_any {w : World} {ao : Option Addr} {cap : Nat} {ps : List (List Nd)} (hT : SpanCells w) (hN : Lst w w.heap.size (.slice ao ps.length cap) ps) :
    Calls Tryd.prog 81 #[.slice ao ps.length cap, .func (.func 57) #[] #[] ] w fun e w' => ∃ z : Int, e = .returned (.int .i64 z) ∧ Hid (decide (0 ≤ z) = ps.any (fun l => !sndB l)) ∧ Below w.heap.size w w' := by
  obtain ⟨ao', cap', e1, hl, hm, hc⟩ := hN
  cases e1
  unfold maxLen at hm
  have HC : Hid (ps = [] ∨ ∃ b o, ao = some ⟨b, o, none⟩ ∧ b < w.heap.size ∧ ∀ i, i < ps.length → ∃ pv, w.cell? ⟨b, o + i, none⟩ = some pv ∧ Nodes w w.heap.size pv (ps.getD i [])) := hc
  have HT : Hid (SpanCells w) := hT
  clear hc hT
  go_enter Tryd.func81, Tryd.ntmps81
  go_wp2_with fail
  go_loopw [8] (fun i wr => ∃ k : Nat, k ≤ ps.length ∧ i = .int .i64 k ∧ Hid ((ps.take k).any (fun l => !sndB l) = false) ∧ Below w.heap.size w wr) (fun i _ => ps.length - (RowKit.intOf i).toNat)
  case atStart => exact ⟨0, by omega, rfl, by show _ = _; simp, Below.refl _ _⟩
  case round =>
    obtain ⟨k, hk, rfl, hA, hbw⟩ := hrel
    have hsw := hbw.size
    by_cases hlt : k < ps.length
    · obtain ⟨b, o, rfl, hbl, hc⟩ : ∃ b o, ao = some ⟨b, o, none⟩ ∧ b < w.heap.size ∧ ∀ i, i < ps.length → ∃ pv, w.cell? ⟨b, o + i, none⟩ = some pv ∧ Nodes w w.heap.size pv (ps.getD i []) := by
        rcases HC.out with h | h
        · subst h; simp at hlt
        · exact h
      obtain ⟨pv, hpc, hpn⟩ := hc k hlt
      obtain ⟨pa, pc, rfl, _⟩ := id hpn
      have hpc : wr.cell? ⟨b, o + k, none⟩ = some _ := (hbw.cell (p := ⟨b, o + k, none⟩) hbl).trans hpc
      have cU := unsound_any (HT.out.below hbw) (hpn.below hbw hsw)
      have HS : Hid ((ps.take (k + 1)).any (fun l => !sndB l) = ((ps.take k).any (fun l => !sndB l) || !sndB (ps.getD k []))) := by
        show _ = _
        rw [List.take_succ_eq_append_getElem hlt, List.any_append]; simp [hlt]
      have HX : Hid (ps.any (fun l => !sndB l) = true ∨ sndB (ps.getD k []) = true) := by
        show _ ∨ _
        cases h : sndB (ps.getD k []) with
        | true => exact .inr rfl
        | false => exact .inl (List.any_eq_true.2 ⟨ps.getD k [], by simp [hlt], by rw [h]; rfl⟩)
      have HB : Hid (_) := hbw
      generalize (ps.getD k []).length = pl at *
      generalize sndB (ps.getD k []) = sb at *
      clear hc hpn hbw
      cases sb
      · go_wp2_with (go_at_call 57; refine cU.mono ?_; rintro e w2 ⟨rfl, hb2⟩; have HB2 : Hid (_) := hb2; clear hb2)
        go_ret
        refine ⟨_, rfl, ?_, HB.out.trans (HB2.out.mono hsw)⟩
        show _ = _
        rcases HX.out with h | h
        · rw [h]; simp
        · cases h
      · go_wp2_with (go_at_call 57; refine cU.mono ?_; rintro e w2 ⟨rfl, hb2⟩; have HB2 : Hid (_) := hb2; clear hb2)
        exact ⟨⟨k + 1, by omega, by go_num, by show _ = _; rw [HS.out, hA.out]; rfl, HB.out.trans (HB2.out.mono hsw)⟩, by simp [RowKit.intOf]; omega⟩
    · have hke : k = ps.length := by omega
      subst hke
      rw [List.take_length] at hA
      have HB : Hid (_) := hbw
      go_wp2_with fail
      go_ret
      refine ⟨_, rfl, ?_, HB.out⟩
      show _ = _
      rw [hA.out]; rfl

set_option maxRecDepth 20000 in
set_option maxHeartbeats 2000000 in
theorem contains_any {w : World} {ao : Option Addr} {cap : Nat} {ps : List (List Nd)} (hT : SpanCells w) (hN : Lst w w.heap.size (.slice ao ps.length cap) ps) :
    Calls Tryd.prog 56 #[.slice ao ps.length cap, .func (.func 57) #[] #[] ] w fun e w' => e = .returned (.bool (ps.any (fun l => !sndB l))) ∧ Below w.heap.size w w' := by
  have cI := index_any hT hN
  clear hT hN
  generalize (ps.any fun l => !sndB l) = R at *
  go_enter Tryd.func56, Tryd.ntmps56
  go_wp2_with (go_at_call 81; refine cI.mono ?_; rintro e w2 ⟨z, rfl, hz, hb2⟩)
  go_ret
  exact ⟨by rw [← hz.out] <;> rfl, hb2⟩
end Go.Proofs.YtfdghbbanokopaaDoor

set_option linter.unusedSimpArgs false
set_option linter.unusedVariables false
namespace Go.Proofs.YtfdghbbanokopaaDoor

theorem foldl_hit : ∀ (l : List Nd) (acc : List ByteArray) (s : ByteArray), s ∈ l.foldl addNm acc → s ∈ acc ∨ ∃ x ∈ l, x.op = 18 ∧ x.name = s
  | [], acc, s, h => .inl h
  | x :: l, acc, s, h => by
    simp only [List.foldl_cons] at h
    rcases foldl_hit l _ s h with h | ⟨y, hy, h⟩
    · unfold addNm at h
      split at h
      · rename_i ho
        split at h
        · exact .inl h
        · rcases List.mem_append.1 h with h | h
          · exact .inl h
          · simp at h; exact .inr ⟨x, by simp, ho, h.symm⟩
      · exact .inl h
    · exact .inr ⟨y, List.mem_cons_of_mem _ hy, h⟩
theorem foldl_nodup : ∀ (l : List Nd) (acc : List ByteArray), acc.Nodup → (l.foldl addNm acc).Nodup
  | [], acc, h => h
  | x :: l, acc, h => by
    simp only [List.foldl_cons]
    refine foldl_nodup l _ ?_
    unfold addNm
    split
    · split
      · exact h
      · rename_i hn
        refine List.nodup_append.2 ⟨h, by simp, fun a ha b hb => ?_⟩
        simp at hb; subst hb
        rintro rfl
        exact hn (List.any_eq_true.2 ⟨_, ha, by simp⟩)
    · exact h
theorem numL_get : ∀ (ks : List ByteArray) (n : Nat) (h : n < ks.length), ks.Nodup → numL ks ks[n] = n
  | k :: ks, 0, h, _ => by simp [numL]
  | k :: ks, n + 1, h, hd => by
    simp only [List.getElem_cons_succ, numL]
    have hd' := List.nodup_cons.1 hd
    rw [if_neg (fun e => hd'.1 (by rw [e]; exact List.getElem_mem _)), numL_get ks n (by simpa using h) hd'.2]
/-- Each number is a hole's. -/
theorem hls_hit {l : List Nd} {n : Nat} (h : n < (hlsL l).length) : ∃ x ∈ l, x.op = 18 ∧ numL (hlsL l) x.name = n := by
  have hm : (hlsL l)[n] ∈ hlsL l := List.getElem_mem h
  rcases foldl_hit l [] _ hm with h1 | ⟨x, hx, ho, he⟩
  · simp at h1
  · refine ⟨x, hx, ho, ?_⟩
    rw [he]
    exact numL_get _ _ h (foldl_nodup l [] List.nodup_nil)
theorem hole_lt {l : List Nd} {x : Nd} (hx : x ∈ l) (ho : x.op = 18) : numL (hlsL l) x.name < (hlsL l).length := numL_lt (mem_hls hx ho)
theorem getD_mem {α : Type} {l : List α} {d : α} {n : Nat} (h : n < l.length) : l.getD n d ∈ l := by
  have : l.getD n d = l[n] := by simp [h]
  rw [this]; exact List.getElem_mem h

/-- The parts with which a pattern is e. -/
structure FtOk (l e : List Nd) (ps : List (List Nd)) : Prop where
  len : ps.length = (hlsL l).length
  snd : ∀ r ∈ ps, sndB r = true
  eq : hds e = flH ps (hlsL l) l
theorem FtOk.pts {l e : List Nd} {ps : List (List Nd)} (h : FtOk l e ps) : PtsOk ps (hlsL l) l := fun x hx ho => h.snd _ (getD_mem (by rw [h.len]; exact hole_lt hx ho))
/-- What fits, from the right. -/
structure FtI (l e : List Nd) (k a : Nat) (ps : List (List Nd)) : Prop where
  le : a ≤ e.length
  kle : k ≤ l.length
  len : ps.length = (hlsL l).length
  dp : dep ((hds e).take a) = dep ((hds (l.map fillN)).take k)
  eq : (hds e).drop a = flH ps (hlsL l) (l.drop k)
  pts : PtsOk ps (hlsL l) (l.drop k)
  all : ∀ n, n < ps.length → ps.getD n [] = [] ∨ sndB (ps.getD n []) = true
  uniq : ∀ qs, FtOk l e qs → (hds e).take a = flH qs (hlsL l) (l.take k) ∧ ∀ n, n < ps.length → ps.getD n [] = [] ∨ ps.getD n [] = qs.getD n []
theorem FtI.start {l e : List Nd} {fe fr : List Nat} (he : begL e = some fe) (hl : begL (l.map fillN) = some fr) : FtI l e l.length e.length (List.replicate (hlsL l).length []) := by
  have hg : ∀ n, (List.replicate (hlsL l).length ([] : List Nd)).getD n [] = [] := fun n => by
    rw [List.getD_eq_getElem?_getD, List.getElem?_replicate]; split <;> rfl
  refine ⟨Nat.le_refl _, Nat.le_refl _, by simp, ?_, ?_, ?_, fun n _ => .inl (hg n), fun qs hq => ⟨?_, fun n _ => .inl (hg n)⟩⟩
  · rw [List.take_of_length_le (by rw [hds_len]; exact Nat.le_refl _), List.take_of_length_le (by rw [hds_len]; simp), dep_whole he, dep_whole hl]
  · rw [List.drop_eq_nil_of_le (by rw [hds_len]; exact Nat.le_refl _), List.drop_eq_nil_of_le (Nat.le_refl _)]; rfl
  · rw [List.drop_eq_nil_of_le (Nat.le_refl _)]; intro x hx; simp at hx
  · rw [List.take_of_length_le (by rw [hds_len]; exact Nat.le_refl _), List.take_of_length_le (Nat.le_refl _)]; exact hq.eq
theorem FtI.pos {l e : List Nd} {k a : Nat} {ps : List (List Nd)} {fr : List Nat} (hl : begL (l.map fillN) = some fr) (h : FtI l e (k + 1) a ps) : 0 < a := by
  have h1 := dep_pos (begOk_of (begL_some hl).2.2.1) (k := k + 1) (by omega) (by simpa using h.kle)
  rw [← h.dp] at h1
  rcases Nat.eq_zero_or_pos a with h0 | h0
  · subst h0; simp [dep_nil] at h1
  · exact h0
theorem FtI.skip {l e : List Nd} {k a : Nat} {ps : List (List Nd)} (h : FtI l e (k + 1) (a + 1) ps) (ho : (l.getD k nd0).op ≠ 18) (hh : hd (l.getD k nd0) = hd (e.getD a nd0)) : FtI l e k a ps := by
  have hk : k < l.length := by have := h.kle; omega
  have ha : a < e.length := by have := h.le; omega
  have hxm : l.drop k = l.getD k nd0 :: l.drop (k + 1) := by rw [List.drop_eq_getElem_cons hk]; simp [hk]
  have hdr : (hds e).drop a = hd (e.getD a nd0) :: (hds e).drop (a + 1) := by
    rw [List.drop_eq_getElem_cons (by rw [hds_len]; exact ha)]
    simp [hds, ha]
  refine ⟨by omega, by omega, h.len, ?_, ?_, ?_, h.all, fun qs hq => ⟨?_, (h.uniq qs hq).2⟩⟩
  · have := h.dp
    rw [hds_take_succ ha, hds_take_succ (by simpa using hk), dep_app, dep_app, fillN_at hk, hd_fill ho, hh] at this
    omega
  · rw [hdr, flH_drop hk, h.eq]
    unfold flN; rw [if_neg ho, hh]; rfl
  · intro x hx hx18
    rw [hxm] at hx
    rcases List.mem_cons.1 hx with rfl | hx
    · exact absurd hx18 ho
    · exact h.pts x hx hx18
  · have := (h.uniq qs hq).1
    rw [hds_take_succ ha, flH_take hk] at this
    unfold flN at this
    rw [if_neg ho] at this
    exact (List.append_inj' this rfl).1
/-- What a fitting has at a hole. -/
theorem FtI.at_ {l e : List Nd} {fe : List Nat} {k a : Nat} {ps : List (List Nd)} (he : begL e = some fe) (h : FtI l e (k + 1) (a + 1) ps) (ho : (l.getD k nd0).op = 18) {qs : List (List Nd)} (hq : FtOk l e qs) :
    (hds e).take (fe.getD a 0) = flH qs (hlsL l) (l.take k) ∧ partL e (fe.getD a 0) a = qs.getD (numL (hlsL l) (l.getD k nd0).name) [] := by
  have hk : k < l.length := by have := h.kle; omega
  have ha : a < e.length := by have := h.le; omega
  have h1 := (h.uniq qs hq).1
  rw [flH_take hk] at h1
  have e1 : flN qs (hlsL l) (l.getD k nd0) = hds (qs.getD (numL (hlsL l) (l.getD k nd0).name) []) := by unfold flN; rw [if_pos ho]
  rw [e1] at h1
  have hs := hq.pts _ (getD_mem hk) ho
  obtain ⟨f, hf⟩ := Option.isSome_iff_exists.1 hs
  obtain ⟨h2, h3⟩ := part_at he hf h.le h1
  simp only [Nat.add_sub_cancel] at h2 h3
  refine ⟨?_, h3⟩
  have h4 : (hds e).take (fe.getD a 0) = ((hds e).take (a + 1)).take (fe.getD a 0) := by
    rw [List.take_take]
    have := (begOk_of (begL_some he).2.2.1).low a
    congr 1; omega
  rw [h4, h1, h2, List.take_left]
theorem FtI.done {l e : List Nd} {fe : List Nat} {a : Nat} {ps : List (List Nd)} (he : begL e = some fe) (h : FtI l e 0 a ps) : FtOk l e ps := by
  have h1 := h.dp
  have ha : a = 0 := by
    rcases Nat.eq_zero_or_pos a with h0 | h0
    · exact h0
    · have := dep_pos (begOk_of (begL_some he).2.2.1) h0 h.le
      rw [h1] at this
      simp [dep_nil] at this
  subst ha
  refine ⟨h.len, fun r hr => ?_, by simpa using h.eq⟩
  obtain ⟨n, hn, rfl⟩ := List.getElem_of_mem hr
  have hn' : n < (hlsL l).length := by rw [← h.len]; exact hn
  obtain ⟨x, hx, ho, he⟩ := hls_hit hn'
  have := h.pts x (by simpa using hx) ho
  rw [he] at this
  simpa [hn] using this
end Go.Proofs.YtfdghbbanokopaaDoor

set_option linter.unusedSimpArgs false
set_option linter.unusedVariables false
namespace Go.Proofs.YtfdghbbanokopaaDoor
open Go.RowKit Go.Lib

/-- What was appended to a list of the call's own. -/
structure AddPoq (w : World) (base : Nat) (v : Value) (p : List (Nd × Value)) (ms : List Nd) (e : Ending) (w' : World) : Prop where
  ex : ∃ v' p', e = .returned v' ∧ OwnP w' base v' (p ++ p') ∧ p'.map (·.1) = ms ∧ ((∀ q ∈ p', OwnI w' w.heap.size q.2 q.1.kids) ∧ KdAp p') ∧ w.grownBy w' v.ownBlock ∧ (v'.ownBlock = v.ownBlock ∨ ∀ g, v'.ownBlock = some g → w.heap.size ≤ g) ∧ Below base w w'

/-- In the middle of it. -/
structure AddMiq (w : World) (base : Nat) (v : Value) (p : List (Nd × Value)) (ms : List Nd) (x : Value) (wr : World) : Prop where
  ex : ∃ p', OwnP wr base x (p ++ p') ∧ p'.map (·.1) = ms ∧ ((∀ q ∈ p', OwnI wr w.heap.size q.2 q.1.kids) ∧ KdAp p') ∧ w.grownBy wr v.ownBlock ∧ (x.ownBlock = v.ownBlock ∨ ∀ g, x.ownBlock = some g → w.heap.size ≤ g) ∧ Below base w wr

theorem AddMiq.start {w : World} {base : Nat} {v : Value} {p : List (Nd × Value)} (h : OwnP w base v p) : AddMiq w base v p [] v w :=
  ⟨⟨[], by simpa using h, rfl, ⟨by simp, List.Pairwise.nil⟩, World.grownBy.refl _ _, .inl rfl, Below.refl _ _⟩⟩

/-- One node more: its kids are owned (new since wr), the append has gone through. -/
theorem AddMiq.snoc {w : World} {base : Nat} {v x : Value} {p p' : List (Nd × Value)} {ms : List Nd} {wr W w1 : World} {y : Nd} {kv : Value} {g n cap : Nat} (hP : OwnP wr base x (p ++ p')) (hm : p'.map (·.1) = ms) (hkidA : (∀ q ∈ p', OwnI wr w.heap.size q.2 q.1.kids) ∧ KdAp p') (hgr : w.grownBy wr v.ownBlock) (hx : x.ownBlock = v.ownBlock ∨ ∀ g, x.ownBlock = some g → w.heap.size ≤ g) (hB : Below base w wr)
    (hbase : base ≤ w.heap.size) (hBW : Below wr.heap.size wr W) (hk : OwnI W wr.heap.size kv y.kids) (hn : n = (p ++ p').length)
    (hown : w1.ownsRow base 50 4 (.slice (some ⟨g, 0, none⟩) (n + 1) cap) (n + 1) (ndCells (p ++ p') ++ [.int .i64 y.op, .int .i64 y.n, .string y.name, kv])) (hg : W.grownBy w1 x.ownBlock) (hat : x.ownBlock = some g ∨ g = W.heap.size) :
    AddMiq w base v p (ms ++ [y]) (.slice (some ⟨g, 0, none⟩) (n + 1) cap) w1 := by
  have hkid := hkidA.1
  have hsz : w.heap.size ≤ wr.heap.size := hgr.size
  have hPW := hP.below hBW
  have hkb : OwnI W base kv y.kids := ownsRow_mono hk (by omega)
  refine ⟨⟨p' ++ [(y, kv)], ?_, by simp [hm], ⟨fun q hq => ?_, ?_⟩, ?_, ?_, ?_⟩⟩
  · rw [← List.append_assoc]
    subst hn
    exact hPW.snoc hkb hown hg
  · rcases List.mem_append.1 hq with hq | hq
    · have h1 := (hkid q hq).below hBW
      exact World.ownsRow.kept h1 hg (ownBlock_ne h1 hPW.row (by decide))
    · simp at hq; subst hq
      exact ownsRow_mono (World.ownsRow.kept hk hg (ownBlock_ne hk hPW.row (by decide))) hsz
  · unfold KdAp
    rw [List.pairwise_append]
    refine ⟨hkidA.2, List.pairwise_singleton _ _, fun a ha b hb g' h5 h6 => ?_⟩
    rw [List.mem_singleton.1 hb] at h6
    have h7 := (rw_block (hkid a ha) h5).2.1
    have h8 := (rw_block hk h6).1
    omega
  · refine ⟨hg.os.trans (hBW.os.trans hgr.os), hg.tape.trans (hBW.tape.trans hgr.tape), hg.output.trans (hBW.output.trans hgr.output), Nat.le_trans hsz (Nat.le_trans hBW.size hg.size), fun k hk1 hk2 => ?_⟩
    rw [hg.block k (by have := hBW.size; omega) (fun he => by
      rcases hx with hx | hx
      · rw [hx] at he; exact hk2 he
      · have := hx k he.symm; omega), hBW.block k (by omega), hgr.block k hk1 hk2]
  · rcases hat with hat | hat
    · rcases hx with hx | hx
      · left; show some g = v.ownBlock; rw [← hx, hat]
      · right; intro g' hg'; have e : g = g' := Option.some.inj hg'; have := hx g hat; omega
    · right; intro g' hg'; have e : g = g' := Option.some.inj hg'; have := hBW.size; omega
  · exact (hB.trans (hBW.mono (by omega))).grown hg (by have := hBW.size; omega) (fun k hk => (hPW.row.lt k hk).1)

set_option maxHeartbeats 1000000 in
theorem add_q (v vs : Value) (p : List (Nd × Value)) (ns : List Nd) (fr by_ : Int) (w : World) (base : Nat) (hbase : base ≤ w.heap.size) (hO : OwnP w base v p) (hN : Nodes w base vs ns) (hlen : (p.length + ns.length) * 56 ≤ 140737488355328)
    (hks : ∀ x ∈ ns, x.kids.length * 8 ≤ 140737488351232 ∧ ∀ k ∈ x.kids, -9000 ≤ k ∧ k ≤ 9000) (hb0 : -9000 ≤ by_) (hb1 : by_ ≤ 9000) :
    Calls Tryd.prog 44 #[v, vs, .int .i64 fr, .int .i64 by_] w fun e w' => AddPoq w base v p (ns.map (mvN fr by_)) e w' := by
  obtain ⟨ao, cap0, rfl, hl, hm, hc⟩ := hN
  obtain ⟨i0, hi, hz0, hz1, hz2⟩ := info_parts Tryd.infoNode
  unfold maxLen at hm
  have HC : Hid (ns = [] ∨ ∃ b o, ao = some ⟨b, o, none⟩ ∧ b < base ∧ ∀ i, i < ns.length → ∃ kv, NodeAt w base b (o + i * 4) (ns.getD i nd0) kv) := hc
  clear hc
  go_enter Tryd.func44, Tryd.ntmps44
  go_wp2
  go_loopw [0, 13] (fun x i wr => ∃ k : Nat, k ≤ ns.length ∧ i = .int .i64 k ∧ AddMiq w base v p ((ns.take k).map (mvN fr by_)) x wr) (fun _ i _ => ns.length - (RowKit.intOf i).toNat)
  case atStart => exact ⟨0, by omega, rfl, AddMiq.start hO⟩
  case round =>
    obtain ⟨k, hk, rfl, hmid⟩ := hrel
    by_cases hlt : k < ns.length
    · obtain ⟨p', hP, hpm, hkid, hgr, hx, hB⟩ := hmid.ex
      have hsz := hB.size
      obtain ⟨b, o, rfl, hbl, hc⟩ : ∃ b o, ao = some ⟨b, o, none⟩ ∧ b < base ∧ ∀ i, i < ns.length → ∃ kv, NodeAt w base b (o + i * 4) (ns.getD i nd0) kv := by
        rcases HC.out with h | h
        · subst h; simp at hlt
        · exact h
      obtain ⟨kv, hNA⟩ := hc k hlt
      clear hc HC
      have hNA := hNA.below hB (Nat.le_refl _) hbl
      have hzr := hks (ns.getD k nd0) (by simp [hlt])
      have HS := take_map_snoc (mvN fr by_) nd0 ns k hlt
      have hMl : ((ns.take k).map (mvN fr by_)).length = k := by simp; omega
      have hpl : (p ++ p').length = p.length + k := by
        rw [List.length_append]
        have := congrArg List.length hpm
        simp only [List.length_map] at this hMl
        omega
      have HPL : Hid ((p ++ p').length = p.length + k) := hpl
      have HPM : Hid (p'.map (·.1) = (ns.take k).map (mvN fr by_)) := hpm
      have HKID : Hid ((∀ q ∈ p', OwnI wr w.heap.size q.2 q.1.kids) ∧ KdAp p') := hkid
      have HGR : Hid (w.grownBy wr v.ownBlock) := hgr
      generalize hQ : p ++ p' = Q at hP HPL
      have HQ : Hid (p ++ p' = Q) := hQ
      have HP : Hid (OwnP wr base _ Q) := hP
      have HX : Hid (_ ∨ _) := hx
      clear hpl hQ hpm hkid hgr hx hmid
      generalize ns.getD k nd0 = x at *
      have HS' : Hid ((ns.take (k + 1)).map (mvN fr by_) = (ns.take k).map (mvN fr by_) ++ [mvN fr by_ x]) := HS
      clear HS hks
      obtain ⟨op, n, nm, kids⟩ := x
      obtain ⟨c0, c1, c2, c3, hki⟩ := hNA
      simp only at c0 c1 c2 c3 hki hzr
      obtain ⟨ka, kc, rfl, hki'⟩ := id hki
      have hb9 : b < wr.heap.size := by omega
      have hb8 : b ≠ wr.heap.size := by omega
      go_wp2_with fail
      refine (moved_any _ kids _ _ _ ?h1 hzr.1 hzr.2 hb0 hb1).mono ?_
      case h1 => exact hki.below ((Below.refl _ _).alloc (by omega) _) (by simp; omega)
      rintro e w2 ⟨v2, rfl, hO2, hB2⟩
      obtain ⟨ao2, cap2, rfl⟩ := hO2.form
      generalize hm2 : kids.map (mvK fr by_) = kids2 at *
      have HM2 : Hid (mvN fr by_ ⟨op, n, nm, kids⟩ = ⟨op, n, nm, kids2⟩) := by show mvN fr by_ ⟨op, n, nm, kids⟩ = ⟨op, n, nm, kids2⟩; rw [← hm2]; rfl
      clear hm2
      have d0 : w2.cell? ⟨wr.heap.size, 0, none⟩ = some (.int .i64 op) := by rw [hB2.cell (p := ⟨wr.heap.size, 0, none⟩) (by simp)]; simp
      have d1 : w2.cell? ⟨wr.heap.size, 1, none⟩ = some (.int .i64 n) := by rw [hB2.cell (p := ⟨wr.heap.size, 1, none⟩) (by simp)]; simp
      have d2 : w2.cell? ⟨wr.heap.size, 2, none⟩ = some (.string nm) := by rw [hB2.cell (p := ⟨wr.heap.size, 2, none⟩) (by simp)]; simp
      have d3 : w2.cell? ⟨wr.heap.size, 3, none⟩ = some (.slice ka kids.length kc) := by rw [hB2.cell (p := ⟨wr.heap.size, 3, none⟩) (by simp)]; simp
      have f3 : w2.frozen? ⟨wr.heap.size, 3, none⟩ = false := by rw [hB2.frozen (p := ⟨wr.heap.size, 3, none⟩) (by simp)]; simp
      have z2 : wr.heap.size + 1 ≤ w2.heap.size := by have := hB2.size; simpa using this
      have hBw2 : Below wr.heap.size wr w2 := ((Below.refl _ _).alloc (Nat.le_refl _) _).trans (hB2.mono (by simp))
      have hBw3 : Below wr.heap.size wr (w2.setCell ⟨wr.heap.size, 3, none⟩ (.slice ao2 kids2.length cap2)) := hBw2.setCell (Nat.le_refl _) _
      have hP3 := hP.below hBw3
      have hO3 : OwnI (w2.setCell ⟨wr.heap.size, 3, none⟩ (.slice ao2 kids2.length cap2)) wr.heap.size (.slice ao2 kids2.length cap2) kids2 := ownsRow_mono (ownsRow_setCell_below hO2 (by simp) _) (by simp)
      clear c0 c1 c2 c3 hki hki' hO2 hB2 hBw2 hO hP
      go_wp2_with (at_builtin; refine wpList_append_lies _ rfl (.tmp 23) (.tmp 25) 22 rfl base 50 i0 (.agg #[.int .i64 0, .int .i64 0, .string ⟨#[]⟩, .slice none 0 0]) 4 56 Tryd.underlying22 hi hz0 hz1 hz2 rfl (by decide) _ _ _ rfl (hP3.row.alloc _) ⟨w2.heap.size, 0, none⟩ 1 1 [.int .i64 op, .int .i64 n, .string nm, .slice ao2 kids2.length cap2] rfl rfl (cell_news4 _ _ _ _ _ _ _ (by simp)) (by simp [Value.oneCell']) (by omega) (by have := HPL.out; unfold maxLen; omega) (by have := HPL.out; omega) (by simp; omega) _ rfl ?_; intro g cap w1 hown1 hg1 hat hl1)
      refine ⟨⟨k + 1, by omega, by go_num, ?_⟩, by simp [RowKit.intOf]; omega⟩
      rw [HS'.out, HM2.out]
      have hPQ := HP.out
      rw [← HQ.out] at hPQ
      refine AddMiq.snoc (p' := p') (y := ⟨op, n, nm, kids2⟩) (kv := .slice ao2 kids2.length cap2) hPQ HPM.out HKID.out HGR.out HX.out hB hbase (hBw3.alloc (by simp; omega) (.cells #[.int .i64 op, .int .i64 n, .string nm, .slice ao2 kids2.length cap2] 50)) (hO3.below ((Below.refl _ _).alloc (Nat.le_refl _) _)) (by rw [HQ.out]) (by rw [HQ.out]; exact hown1) hg1 hat
    · have hke : k = ns.length := by omega
      subst hke
      go_wp2
      go_ret
      rw [List.take_length] at hmid
      obtain ⟨p', h1, h2, h3, h4, h5, h6⟩ := hmid.ex
      exact ⟨⟨_, p', rfl, h1, h2, h3, h4, h5, h6⟩⟩
/-- The old rows and the new ones. -/
theorem kdAp_more {w : World} {base : Nat} {v : Value} {p p' : List (Nd × Value)} {w' : World} (h : OwnP w base v p) (ha : KdAp p) (hn : ∀ q ∈ p', OwnI w' w.heap.size q.2 q.1.kids) (hb : KdAp p') : KdAp (p ++ p') := by
  unfold KdAp
  rw [List.pairwise_append]
  refine ⟨ha, hb, fun a h1 b h2 g h3 h4 => ?_⟩
  have := (rw_block (h.kids a h1) h3).2.1
  have := (rw_block (hn b h2) h4).1
  omega
end Go.Proofs.YtfdghbbanokopaaDoor
