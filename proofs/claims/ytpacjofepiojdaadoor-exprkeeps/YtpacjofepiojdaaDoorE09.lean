/-
  ExMakQ, SwPure.
-/
import Derived.Shelf.Unicode.DecodeSlow
import Derived.Laws.RangeAny
import Derived.Shelf.Small.Bits
import Derived.Shelf.Strconv.Itoa0
import Derived.Shelf.LaysM
import Derived.Shelf.Strconv.Clone
import Derived.Shelf.Unicode.DecodeAny
import Derived.Shelf.Slices.CompactS
import Derived.Ground.SlsfProg
import Derived.Shelf.SlSortCmp.Insertion
import Derived.Shelf.SlSortCmp.SiftDown1
import Derived.Shelf.SlSortCmp.HeapSort1
import Derived.Shelf.SlSortCmp.Insertion1
import Derived.Shelf.SlSortCmp.Median1
import Derived.Shelf.SlSortCmp.Pivot1
import Derived.Shelf.SlSortCmp.ReverseRange1
import Derived.Shelf.SlSortCmp.PartialInsertion1
import Derived.Shelf.SlSortCmp.PartitionEqual1
import Derived.Shelf.SlSortCmp.Partition1
import Derived.Shelf.SlSortCmp.Pdq1
import Derived.Shelf.SlSortCmp.Whole1
import Derived.Test.YtpacjofepiojdaaDoorProg
import Derived.WalkKit
import Derived.Deep.DeepFit
import Derived.Lib.OthersKept
import Derived.Lib.RuneCountTail
import Derived.Deep.AppendLies
import Derived.Deep.OwnRows
import Derived.Laws.AppendOwnNone
import Derived.Deep.QuietTactic
import Derived.BigQuiet
import Derived.Deep.RegionWith
import Derived.Laws.DeepStrings4
import Derived.Below
import Derived.Test.YtpacjofepiojdaaDoorE01
import Derived.Test.YtpacjofepiojdaaDoorE02
import Derived.Test.YtpacjofepiojdaaDoorE03
import Derived.Test.YtpacjofepiojdaaDoorE04
import Derived.Test.YtpacjofepiojdaaDoorE05
import Derived.Test.YtpacjofepiojdaaDoorE06
import Derived.Test.YtpacjofepiojdaaDoorE07
import Derived.Test.YtpacjofepiojdaaDoorE08
set_option linter.unusedSimpArgs false
set_option linter.unusedVariables false
namespace Go.Proofs.YtpacjofepiojdaaDoor
open Go.RowKit Go.Lib

/-- What Make says. -/
structure MakePoq (w : World) (op n : Int) (nm : ByteArray) (ps : List (List Nd)) (e : Ending) (w' : World) : Prop where
  below : Below w.heap.size w w'
  ways : ((∃ l ∈ ps, sndB l = false) ∧ e = .returned (.tuple #[.slice none 0 0, .int .i64 1])) ∨
    ((∀ l ∈ ps, sndB l = true) ∧ fitB op n nm ps.length = false ∧ e = .returned (.tuple #[.slice none 0 0, .int .i64 2])) ∨
    ((∀ l ∈ ps, sndB l = true) ∧ fitB op n nm ps.length = true ∧ 64 < 1 + (accS ps).1.length ∧ e = .returned (.tuple #[.slice none 0 0, .int .i64 10])) ∨
    ((∀ l ∈ ps, sndB l = true) ∧ fitB op n nm ps.length = true ∧ 1 + (accS ps).1.length ≤ 64 ∧ ∃ v', e = .returned (.tuple #[v', .int .i64 0]) ∧ OwnQ w' w.heap.size v' (joinL op n nm ps))

/-- In the third loop. -/
structure MkMiq (w : World) (base : Nat) (ps : List (List Nd)) (v kv : Value) (wr : World) : Prop where
  ex : ∃ p, OwnP wr base v p ∧ p.map (·.1) = (accS ps).1 ∧ OwnI wr base kv (accS ps).2 ∧ ((∀ q ∈ p, q.2.ownBlock = none ∨ q.2.ownBlock ≠ kv.ownBlock) ∧ KdAp p) ∧ Below base w wr

theorem kdAp_last {p : List (Nd × Value)} {x : Nd} {kv : Value} (h : KdAp p) (hd : ∀ q ∈ p, q.2.ownBlock = none ∨ q.2.ownBlock ≠ kv.ownBlock) : KdAp (p ++ [(x, kv)]) := by
  unfold KdAp
  rw [List.pairwise_append]
  refine ⟨h, List.pairwise_singleton _ _, fun a ha b hb g h5 h6 => ?_⟩
  rw [List.mem_singleton.1 hb] at h6
  rcases hd a ha with h | h
  · rw [h] at h5; cases h5
  · exact h (h5.trans h6.symm)

set_option maxHeartbeats 4000000 in
theorem make_q (op n : Int) (nm : ByteArray) (vs : Value) (ps : List (List Nd)) (w : World) (B : Nat) (hBw : B ≤ w.heap.size) (hT : SpanCells w) (hN : Lst w B vs ps) (hlen : ps.length * 24 ≤ 140737488355328) :
    Calls Tryd.prog 23 #[.int .i64 op, .int .i64 n, .string nm, vs] w fun e w' => MakePoq w op n nm ps e w' := by
  obtain ⟨ao, cap0, rfl, hl, hm, hc⟩ := hN
  obtain ⟨i0, hi, hz0, hz1, hz2⟩ := info_parts Tryd.infoNode
  obtain ⟨j0, hj, hy0, hy1, hy2⟩ := info_parts Tryd.info3
  unfold maxLen at hm
  have HC : Hid (ps = [] ∨ ∃ b o, ao = some ⟨b, o, none⟩ ∧ b < B ∧ ∀ i, i < ps.length → ∃ pv, w.cell? ⟨b, o + i, none⟩ = some pv ∧ Nodes w B pv (ps.getD i [])) := hc
  clear hc
  have HT : Hid (SpanCells w) := hT
  clear hT
  go_enter Tryd.func23, Tryd.ntmps23
  go_wp2_with fail
  go_loopw [21] (fun i wr => ∃ k : Nat, k ≤ ps.length ∧ i = .int .i64 k ∧ Hid (∀ l ∈ ps.take k, sndB l = true) ∧ Below w.heap.size w wr) (fun i _ => ps.length - (RowKit.intOf i).toNat)
  case atStart => exact ⟨0, by omega, rfl, by intro l hl; simp at hl, Below.refl _ _⟩
  case round =>
    obtain ⟨k, hk, rfl, hall, hB⟩ := hrel
    have hsz := hB.size
    by_cases hlt : k < ps.length
    · obtain ⟨b, o, rfl, hbl, hc⟩ : ∃ b o, ao = some ⟨b, o, none⟩ ∧ b < B ∧ ∀ i, i < ps.length → ∃ pv, w.cell? ⟨b, o + i, none⟩ = some pv ∧ Nodes w B pv (ps.getD i []) := by
        rcases HC.out with h | h
        · subst h; simp at hlt
        · exact h
      obtain ⟨pv, hpc, hpn⟩ := hc k hlt
      clear hc HC
      have hpc : wr.cell? ⟨b, o + k, none⟩ = some pv := (hB.cell (p := ⟨b, o + k, none⟩) (by show b < w.heap.size; omega)).trans hpc
      have hpn := hpn.below (hB.mono hBw) (Nat.le_refl _)
      have hmem : ps.getD k [] ∈ ps := by simp [hlt]
      have HMEM : Hid (ps.getD k [] ∈ ps) := hmem
      have HS : Hid (ps.take (k + 1) = ps.take k ++ [ps.getD k []]) := by show ps.take (k + 1) = _; rw [List.take_succ_eq_append_getElem hlt]; simp [hlt]
      clear hmem
      generalize ps.getD k [] = l at *
      obtain ⟨pa, pc, rfl, hpn'⟩ := id hpn
      clear hpn'
      cases hs : sndB l with
      | false =>
        have HN : Hid (begL l = none) := snd_none hs
        have HS0 : Hid (sndB l = false) := hs
        clear hs
        go_wp2_with (go_at_call 8; refine (check_none _ l _ B (by omega) (HT.out.below hB) hpn HN.out).mono ?_; rintro e w2 ⟨rfl, hb2⟩)
        go_ret2
        exact ⟨hB.trans (hb2.mono hsz), .inl ⟨⟨l, HMEM.out, HS0.out⟩, rfl⟩⟩
      | true =>
        obtain ⟨fr, hfr⟩ := snd_some hs
        have HN : Hid (begL l = some fr) := hfr
        have HS0 : Hid (sndB l = true) := hs
        clear hs hfr
        go_wp2_with (go_at_call 8; refine (check_some _ l fr _ B (by omega) (HT.out.below hB) hpn HN.out).mono ?_; rintro e w2 ⟨rfl, hb2⟩)
        refine ⟨⟨k + 1, by omega, by go_num, ?_, hB.trans (hb2.mono hsz)⟩, by simp [RowKit.intOf]; omega⟩
        intro l' hl'
        rw [HS.out] at hl'
        rcases List.mem_append.1 hl' with h | h
        · exact hall.out l' h
        · simp at h; subst h; exact HS0.out
    · have hke : k = ps.length := by omega
      subst hke
      have hall2 : ∀ l ∈ ps, sndB l = true := by have := hall.out; rw [List.take_length] at this; exact this
      have HALL : Hid (∀ l ∈ ps, sndB l = true) := hall2
      clear hall hall2
      cases hf : fitB op n nm ps.length with
      | false =>
        have HF : Hid (fitB op n nm ps.length = false) := hf
        go_wp2_with (go_at_call 52; refine (fits_any _ _ _ _ _ (HT.out.below hB)).mono ?_; rintro e w2 ⟨rfl, hb2⟩; rw [hf])
        go_ret2
        exact ⟨hB.trans (hb2.mono hsz), .inr (.inl ⟨HALL.out, HF.out, rfl⟩)⟩
      | true =>
        have HF : Hid (fitB op n nm ps.length = true) := hf
        have hp3 : ps.length ≤ 3 := by
          unfold fitB at hf
          simp only [Bool.and_eq_true, decide_eq_true_eq] at hf
          have := aritI_le op
          omega
        go_wp2_with (go_at_call 52; refine (fits_any _ _ _ _ _ (HT.out.below hB)).mono ?_; rintro e w2 ⟨rfl, hb2⟩; rw [hf])
        clear hf
        have hB2 : Below w.heap.size w w2 := hB.trans (hb2.mono hsz)
        have hsz2 := hB2.size
        clear hb2 hB
        have hps : ∀ i, i < ps.length → ∃ b o, ao = some ⟨b, o, none⟩ ∧ b < B ∧ ∃ pa pc, w2.cell? ⟨b, o + i, none⟩ = some (.slice pa (ps.getD i []).length pc) ∧ Nodes w2 B (.slice pa (ps.getD i []).length pc) (ps.getD i []) ∧ ((ps.getD i []).length ≤ 64 ∧ ∀ x ∈ ps.getD i [], x.kids.length * 8 ≤ 140737488351232 ∧ ∀ k ∈ x.kids, -9000 ≤ k ∧ k ≤ 9000) := by
          intro i hi
          rcases HC.out with h | ⟨b, o, h, hbl, hc⟩
          · subst h; simp at hi
          · refine ⟨b, o, h, hbl, ?_⟩
            obtain ⟨pv, hpc, hpn⟩ := hc i hi
            have hpn := hpn.below (hB2.mono hBw) (Nat.le_refl _)
            obtain ⟨pa, pc, rfl, _⟩ := id hpn
            obtain ⟨fr, hfr⟩ := snd_some (HALL.out (ps.getD i []) (by simp [hi]))
            exact ⟨pa, pc, (hB2.cell (p := ⟨b, o + i, none⟩) (by show b < w.heap.size; omega)).trans hpc, hpn, (snd_bounds hfr).1, snd_kids hfr⟩
        have HPS : Hid (∀ i, i < ps.length → ∃ b o, ao = some ⟨b, o, none⟩ ∧ b < B ∧ ∃ pa pc, w2.cell? ⟨b, o + i, none⟩ = some (.slice pa (ps.getD i []).length pc) ∧ Nodes w2 B (.slice pa (ps.getD i []).length pc) (ps.getD i []) ∧ ((ps.getD i []).length ≤ 64 ∧ ∀ x ∈ ps.getD i [], x.kids.length * 8 ≤ 140737488351232 ∧ ∀ k ∈ x.kids, -9000 ≤ k ∧ k ≤ 9000)) := hps
        clear hps HC
        have htk : ∀ k, k < ps.length → ps.take (k + 1) = ps.take k ++ [ps.getD k []] := fun k hlt => by rw [List.take_succ_eq_append_getElem hlt]; simp [hlt]
        have HTK : Hid (∀ k, k < ps.length → ps.take (k + 1) = ps.take k ++ [ps.getD k []]) := htk
        clear htk
        go_loop [12, 38] (fun s i => ∃ (k : Nat) (tot : Nat), k ≤ ps.length ∧ i = .int .i64 k ∧ s = .int .i64 (1 + (tot : Int)) ∧ Hid ((accS (ps.take k)).1.length = tot) ∧ tot ≤ 64 * k) (fun _ i => ps.length - (RowKit.intOf i).toNat)
        case atStart => exact ⟨0, 0, by omega, rfl, rfl, rfl, by omega⟩
        case round =>
          obtain ⟨k, tot, hk, rfl, rfl, htot, htk⟩ := hrel
          by_cases hlt : k < ps.length
          · obtain ⟨b, o, rfl, hbl, pa, pc, hpc, hpn, h64, _⟩ := HPS.out k hlt
            have HT2 : Hid ((accS (ps.take (k + 1))).1.length = tot + (ps.getD k []).length) := by
              show (accS (ps.take (k + 1))).1.length = _
              rw [HTK.out k hlt, accS_snoc]; simp [htot.out]
            generalize ps.getD k [] = l at *
            clear hpn
            go_wp2_with fail
            exact ⟨⟨k + 1, tot + l.length, by omega, by go_num, by go_num, HT2.out, by omega⟩, by simp [RowKit.intOf]; omega⟩
          · have hke : k = ps.length := by omega
            subst hke
            have htot2 : (accS ps).1.length = tot := by have := htot.out; rw [List.take_length] at this; exact this
            have HTOT : Hid ((accS ps).1.length = tot) := htot2
            clear htot htot2
            by_cases hlg : 64 < 1 + tot
            · have hlg2 : (64 : Int) < 1 + (tot : Int) := by omega
              go_wp2_with fail
              go_ret2
              exact ⟨hB2, .inr (.inr (.inl ⟨HALL.out, HF.out, by rw [HTOT.out]; exact hlg, rfl⟩))⟩
            · have hlg2 : ¬ (64 : Int) < 1 + (tot : Int) := by omega
              go_wp2_with fail
              go_loopw [15, 16, 51] (fun v kv i wr => ∃ k : Nat, k ≤ ps.length ∧ i = .int .i64 k ∧ MkMiq w2 w2.heap.size (ps.take k) v kv wr) (fun _ _ i _ => ps.length - (RowKit.intOf i).toNat)
              case atStart => exact ⟨0, by omega, rfl, ⟨[], OwnP_nil _ _, rfl, OwnI_nil _ _, ⟨by simp, List.Pairwise.nil⟩, Below.refl _ _⟩⟩
              case round =>
                obtain ⟨k, hk, rfl, hmid⟩ := hrel
                obtain ⟨p, hP, hpm, hK, hdA, hB3⟩ := hmid.ex
                have hd := hdA.1
                have HAP : Hid (KdAp p) := hdA.2
                clear hdA
                clear hmid
                have hsz3 := hB3.size
                have hkl := accS_len2 (ps.take k)
                have hkl2 : (ps.take k).length = k := by simp; omega
                by_cases hlt : k < ps.length
                · obtain ⟨b, o, rfl, hbl, pa, pc, hpc, hpn, h64, hkk⟩ := HPS.out k hlt
                  have hacc := accS_le (ps := ps.take k) (fun l hl => by
                    obtain ⟨fr, hfr⟩ := snd_some (HALL.out l (List.mem_of_mem_take hl))
                    exact (snd_bounds hfr).1)
                  have hpl : p.length = (accS (ps.take k)).1.length := by rw [← hpm]; simp
                  have hp192 : p.length ≤ 192 := by omega
                  have HA : Hid (accS (ps.take (k + 1)) = ((accS (ps.take k)).1 ++ (ps.getD k []).map (mvN 0 (accS (ps.take k)).1.length), (accS (ps.take k)).2 ++ [(((accS (ps.take k)).1.length + (ps.getD k []).length : Nat) : Int) - 1])) := by
                    show accS (ps.take (k + 1)) = _
                    rw [HTK.out k hlt, accS_snoc]
                  rw [← hpl] at HA
                  rw [hkl2] at hkl
                  generalize ps.getD k [] = l at *
                  generalize (accS (ps.take k)).1 = A1 at *
                  generalize (accS (ps.take k)).2 = A2 at *
                  have hpc3 : wr.cell? ⟨b, o + k, none⟩ = some (.slice pa l.length pc) := (hB3.cell (p := ⟨b, o + k, none⟩) (by show b < w2.heap.size; omega)).trans hpc
                  obtain ⟨va, vc, rfl⟩ := hP.form
                  have HHP : Hid (p.map (·.1) = A1) := hpm
                  have HKL : Hid (A2.length = k) := hkl
                  clear hpc hacc hpl hpm hkl hkl2
                  go_wp2_with fail
                  refine (add_q _ _ p l 0 p.length _ w2.heap.size hsz3 hP (hpn.below (hB3.mono (by omega)) (by omega)) (by omega) hkk (by omega) (by omega)).mono ?_
                  rintro e w3 ⟨v3, p', rfl, hP3, hm3, hk3A, hg3, hat3, hb3⟩
                  have hk3 := hk3A.1
                  have HAPQ : Hid (KdAp (p ++ p')) := kdAp_more hP HAP.out hk3A.1 hk3A.2
                  clear hk3A HAP
                  obtain ⟨va3, vc3, rfl⟩ := hP3.form
                  have hpl3 : (p ++ p').length = p.length + l.length := by
                    have := congrArg List.length hm3
                    simp at this ⊢; omega
                  have hK3 : OwnI w3 w2.heap.size _ A2 := World.ownsRow.kept hK hg3 (ownBlock_ne hK hP.row (by decide))
                  have hd3 : ∀ q ∈ p ++ p', q.2.ownBlock = none ∨ q.2.ownBlock ≠ _ := fun q hq => by
                    rcases List.mem_append.1 hq with hq | hq
                    · exact hd q hq
                    · cases hob : q.2.ownBlock with
                      | none => exact .inl rfl
                      | some g =>
                        right
                        intro he
                        have h1 := ((hk3 q hq).lt g hob).1
                        have h2 := (hK.lt g he.symm).2
                        omega
                  have hz3 := hb3.size
                  have hm3' : (p ++ p').map (·.1) = (accS (ps.take (k + 1))).1 := by rw [HA.out, List.map_append, HHP.out, hm3]
                  have HM3 : Hid ((p ++ p').map (·.1) = (accS (ps.take (k + 1))).1) := hm3'
                  have hA2 : (accS (ps.take (k + 1))).2 = A2 ++ [((p ++ p').length : Int) - 1] := by rw [HA.out, hpl3]
                  have HA2 : Hid ((accS (ps.take (k + 1))).2 = A2 ++ [((p ++ p').length : Int) - 1]) := hA2
                  have hQl : (p ++ p').length ≤ 256 := by omega
                  generalize p ++ p' = Q at *
                  have HD3 : Hid (∀ q ∈ Q, q.2.ownBlock = none ∨ q.2.ownBlock ≠ _) := hd3
                  clear hm3 hm3' hA2 hk3 hd hg3 hat3 HA hpl3 hP hK hpc3 hd3
                  have hK3' := hK3
                  unfold OwnI at hK3'
                  go_wp2_with (at_builtin; refine wpList_append_lies _ rfl (.tmp 60) (.tmp 64) 61 rfl w2.heap.size 3 j0 (.int .i64 0) 1 8 Tryd.underlying61 hj hy0 hy1 hy2 rfl (by decide) _ _ _ rfl (hK3'.alloc _) ⟨w3.heap.size, 0, none⟩ 1 1 [.int .i64 ((Q.length : Int) - 1)] rfl rfl (cell_news_one _ _ _) (by simp [Value.oneCell']) (by omega) (by have := HKL.out; unfold maxLen; omega) (by have := HKL.out; omega) (by simp; omega) _ rfl ?_; intro g cap w4 hown4 hg4 hat4 hl4)
                  have hW := (Below.refl w3.heap.size w3).alloc (Nat.le_refl _) (.cells #[.int .i64 ((Q.length : Int) - 1)] 3)
                  obtain ⟨r1, r2, r3⟩ := mk_kids (hP3.below hW) (hK3.below hW) HD3.out hown4 hg4 hat4
                  refine ⟨⟨k + 1, by omega, by go_num, ⟨Q, r1, HM3.out, by rw [HA2.out]; exact r2, ⟨r3, HAPQ.out⟩, ?_⟩⟩, by simp [RowKit.intOf]; omega⟩
                  exact ((hB3.trans hb3).alloc (by omega) _).grown hg4 (by simp; omega) (fun k hk => (hK3.lt k hk).1)
                · have hke : k = ps.length := by omega
                  subst hke
                  rw [List.take_length] at hpm hK hkl
                  have hpl : p.length = tot := by rw [← HTOT.out, ← hpm]; simp
                  have HHP : Hid (p.map (·.1) = (accS ps).1) := hpm
                  have HJ : Hid (joinL op n nm ps = (accS ps).1 ++ [⟨op, n, nm, (accS ps).2⟩]) := rfl
                  generalize hA2 : (accS ps).2 = A2 at *
                  obtain ⟨ka, kc, hkv⟩ := hK.form
                  subst hkv
                  have HPL : Hid (p.length = tot) := hpl
                  have HAJ : Hid (KdAp (p ++ [(⟨op, n, nm, A2⟩, .slice ka A2.length kc)])) := kdAp_last HAP.out hd
                  clear hpm hpl hkl hkl2 hd HAP
                  have hrow := hP.row
                  go_wp2_with (at_builtin; refine wpList_append_lies _ rfl (.tmp 67) (.tmp 73) 22 rfl w2.heap.size 63 i0 (.agg #[.int .i64 0, .int .i64 0, .string ⟨#[]⟩, .slice none 0 0]) 4 56 Tryd.underlying22 hi hz0 hz1 hz2 rfl (by decide) _ _ _ rfl (hrow.alloc _) ⟨wr.heap.size, 0, none⟩ 1 1 [.int .i64 op, .int .i64 n, .string nm, .slice ka A2.length kc] rfl rfl (cell_news4 _ _ _ _ _ _ _ (by simp)) (by simp [Value.oneCell']) (by omega) (by have := HPL.out; unfold maxLen; omega) (by have := HPL.out; omega) (by simp; omega) _ rfl ?_; intro g cap w4 hown4 hg4 hat4 hl4)
                  have hW := (Below.refl wr.heap.size wr).alloc (Nat.le_refl _) (.cells #[.int .i64 op, .int .i64 n, .string nm, .slice ka A2.length kc] 63)
                  have hfin : OwnQ w4 w.heap.size (.slice (some ⟨g, 0, none⟩) (p.length + 1) cap) (joinL op n nm ps) := by
                    rw [HJ.out]
                    exact OwnQ.mono ⟨p ++ [(⟨op, n, nm, A2⟩, .slice ka A2.length kc)], by rw [List.map_append, HHP.out]; rfl, (hP.below hW).snoc (x := ⟨op, n, nm, A2⟩) (hK.below hW) hown4 hg4, HAJ.out⟩ hsz2
                  have HFIN : Hid (OwnQ w4 w.heap.size (.slice (some ⟨g, 0, none⟩) (p.length + 1) cap) (joinL op n nm ps)) := hfin
                  clear hfin hown4
                  have hbe : Below w2.heap.size w2 w4 := (hB3.alloc (by omega) _).grown hg4 (by simp; omega) (fun k hk => (hrow.lt k hk).1)
                  go_ret2
                  exact ⟨hB2.trans (hbe.mono hsz2), .inr (.inr (.inr ⟨HALL.out, HF.out, by rw [HTOT.out]; omega, _, rfl, HFIN.out⟩))⟩
end Go.Proofs.YtpacjofepiojdaaDoor

set_option linter.unusedSimpArgs false
set_option linter.unusedVariables false
namespace Go.Proofs.YtpacjofepiojdaaDoor
open Go.RowKit Go.Lib

/-- The names of the variables, in the order of the nodes. -/
def vsL (l : List Nd) : List ByteArray := (l.filter (fun x => decide (x.op = 2))).map (·.name)
theorem vsL_succ (l : List Nd) (k : Nat) (h : k < l.length) : vsL (l.take (k + 1)) = vsL (l.take k) ++ (if (l.getD k nd0).op = 2 then [(l.getD k nd0).name] else []) := by
  have e : l.take (k + 1) = l.take k ++ [l.getD k nd0] := by rw [List.take_succ_eq_append_getElem h]; simp [h]
  rw [e]
  unfold vsL
  rw [List.filter_append, List.map_append]
  congr 1
  generalize l.getD k nd0 = x
  by_cases h2 : x.op = 2
  · rw [if_pos h2]; simp [h2]
  · rw [if_neg h2]; simp [h2]
theorem vsL_le (l : List Nd) : (vsL l).length ≤ l.length := by
  unfold vsL; rw [List.length_map]; exact List.length_filter_le _ _
/-- One cell of an owned row is set. -/
theorem own_put {w : World} {base : Nat} {e : TypeId} {s n g cap : Nat} {xs : List Value} {i : Nat} {u : Value} (h : w.ownsRow base e s (.slice (some ⟨g, 0, none⟩) n cap) n xs) (hi : i < xs.length) : (w.setCell ⟨g, i, none⟩ u).ownsRow base e s (.slice (some ⟨g, 0, none⟩) n cap) n (xs.set i u) := by
  obtain ⟨h1, h2⟩ := h
  refine ⟨by simpa using h1, ?_⟩
  rcases h2 with ⟨h2, _⟩ | ⟨g', cap', cur, h3, hb, hg, hn, hm, hs, ht⟩
  · cases h2
  · cases h3
    refine .inr ⟨g, cap, cur.setIfInBounds i u, rfl, hb, heap_setCell_same w g i cur e u hg, hn, hm, by simpa using hs, ?_⟩
    rw [← ht]
    simp [List.take_set]

theorem ndCells_set (p : List (Nd × Value)) (k : Nat) (x : Nd) (kv : Value) (s : ByteArray) (h : p[k]? = some (x, kv)) : ndCells (p.set k ({ x with name := s }, kv)) = (ndCells p).set (k * 4 + 2) (.string s) := by
  induction p generalizing k with
  | nil => simp at h
  | cons a r ih =>
    obtain ⟨y, kw⟩ := a
    cases k with
    | zero =>
      simp at h
      obtain ⟨rfl, rfl⟩ := h
      simp [ndCells]
    | succ k =>
      have := ih k (by simpa using h)
      have e : (k + 1) * 4 + 2 = (k * 4 + 2) + 4 := by omega
      rw [e]
      simp [ndCells, this]

theorem own_block' {w : World} {base : Nat} {e : TypeId} {s n : Nat} {v : Value} {xs : List Value} (h : w.ownsRow base e s v n xs) : ∀ b, v.ownBlock = some b → base ≤ b ∧ b < w.heap.size := by
  intro b hb
  rcases h.2 with ⟨rfl, _⟩ | ⟨g, cap, cur, rfl, h1, h2, _⟩
  · cases hb
  · simp [Value.ownBlock] at hb; subst hb; exact ⟨h1, lt_of_block h2⟩
theorem own_same' {w w' : World} {base : Nat} {e : TypeId} {s n : Nat} {v : Value} {xs : List Value} (h : w.ownsRow base e s v n xs) (hb : ∀ b, v.ownBlock = some b → w'.heap[b]? = w.heap[b]?) : w'.ownsRow base e s v n xs := by
  rcases h with ⟨h1, h2⟩
  refine ⟨h1, ?_⟩
  rcases h2 with h2 | ⟨g, cap, cur, rfl, hg, h3, r⟩
  · exact .inl h2
  · exact .inr ⟨g, cap, cur, rfl, hg, (hb g rfl).trans h3, r⟩
theorem row_form' {w : World} {base : Nat} {e : TypeId} {s n : Nat} {v : Value} {xs : List Value} (h : w.ownsRow base e s v n xs) : ∃ ao cap, v = .slice ao n cap := by
  rcases h.2 with ⟨rfl, h0⟩ | ⟨g', cap', cur, rfl, _⟩
  · exact ⟨none, 0, by rw [h0]⟩
  · exact ⟨_, _, rfl⟩

theorem own_set' {w : World} {base p o : Nat} {e : TypeId} {s n : Nat} {v u : Value} {xs : List Value} (h : w.ownsRow base e s v n xs) (hp : v.ownBlock ≠ some p) : (w.setCell ⟨p, o, none⟩ u).ownsRow base e s v n xs :=
  own_same' h fun b hb => Deep.blk_setCell_other _ _ _ _ (by show b ≠ p; intro e; subst e; exact hp hb)

/-- The names' list, the number to stop at: where the function finds them. -/
structure Cst (w : World) (A Sb Nb : Nat) (stop : Int) (na : Option Addr) (nc : Nat) (names : List ByteArray) : Prop where
  sb : Sb < A
  nb : Nb < A
  stopC : w.cell? ⟨Sb, 0, none⟩ = some (.int .i64 stop)
  namesC : w.cell? ⟨Nb, 0, none⟩ = some (.slice na names.length nc)
  len : names.length ≤ nc ∧ nc ≤ maxLen
  row : names = [] ∨ ∃ b o, na = some ⟨b, o, none⟩ ∧ b < A ∧ ∀ j, j < names.length → w.cell? ⟨b, o + j, none⟩ = some (.string (names.getD j ⟨#[]⟩))
theorem Cst.below {w w' : World} {A Sb Nb : Nat} {stop : Int} {na : Option Addr} {nc : Nat} {names : List ByteArray} (h : Cst w A Sb Nb stop na nc names) (hb : Below A w w') : Cst w' A Sb Nb stop na nc names :=
  ⟨h.sb, h.nb, (hb.cell (p := ⟨Sb, 0, none⟩) h.sb).trans h.stopC, (hb.cell (p := ⟨Nb, 0, none⟩) h.nb).trans h.namesC, h.len, by
    rcases h.row with h | ⟨b, o, e, hlt, hc⟩
    · exact .inl h
    · exact .inr ⟨b, o, e, hlt, fun j hj => (hb.cell (p := ⟨b, o + j, none⟩) hlt).trans (hc j hj)⟩⟩

/-- What has been asked. -/
structure AskAt (w : World) (A : Nat) (va : Value) (qs : List ByteArray) : Prop where
  blk : w.heap[A]? = some (.cells #[va] 33 (0, 0))
  row : w.ownsRow (A + 1) 9 1 va qs.length (qs.map Value.string)
theorem AskAt.below {w w' : World} {A : Nat} {va : Value} {qs : List ByteArray} (h : AskAt w A va qs) (hb : Below w.heap.size w w') : AskAt w' A va qs :=
  ⟨(hb.block _ (lt_of_block h.blk)).trans h.blk, ownsRow_below h.row hb⟩

theorem row_cell {w : World} {base : Nat} {e : TypeId} {v : Value} {n : Nat} {xs : List Value} (h : w.ownsRow base e 1 v n xs) {i : Nat} (hi : i < n) {d : Value} : ∃ g cap, v = .slice (some ⟨g, 0, none⟩) n cap ∧ g < w.heap.size ∧ n ≤ cap ∧ cap ≤ maxLen ∧ w.cell? ⟨g, i, none⟩ = some (xs.getD i d) := by
  obtain ⟨h1, h2⟩ := h
  rcases h2 with ⟨rfl, h0⟩ | ⟨g, cap, cur, rfl, hb, hg, hn, hm, hs, ht⟩
  · omega
  · refine ⟨g, cap, rfl, lt_of_block hg, hn, hm, ?_⟩
    have hc : w.cell? ⟨g, i, none⟩ = cur[i]? := by simp [World.cell?, hg]
    rw [hc, ← Array.getElem?_toList]
    have e : cur.toList[i]? = (cur.toList.take (n * 1))[i]? := by rw [List.getElem?_take, if_pos (by omega)]
    rw [e, ht]
    simp [show i < xs.length by omega]
end Go.Proofs.YtpacjofepiojdaaDoor
