/-
  ExMakW, MaB.
-/
import Derived.Shelf.Unicode.DecodeSlow
import Derived.Laws.RangeAny
import Derived.Shelf.Strconv.Itoa0
import Derived.Shelf.Unicode.DecodeAny
import Derived.Test.YtjkcbigmebbkkaaDoorProg
import Derived.WalkKit
import Derived.Deep.DeepFit
import Derived.Lib.OthersKept
import Derived.Lib.RuneCountTail
import Derived.Deep.AppendLies
import Derived.Deep.OwnRows
import Derived.Laws.AppendOwnNone
import Derived.Deep.QuietTactic
import Derived.BigQuiet
import Derived.Deep.RegionWith
import Derived.Laws.DeepStrings4
import Derived.Laws.CopyOwn
import Derived.Laws.MakeOwn
import Derived.Deep.RegionLaw
import Derived.Test.YtjkcbigmebbkkaaDoorY01
import Derived.Test.YtjkcbigmebbkkaaDoorY02
import Derived.Test.YtjkcbigmebbkkaaDoorY03
import Derived.Test.YtjkcbigmebbkkaaDoorY04
import Derived.Test.YtjkcbigmebbkkaaDoorY05
import Derived.Test.YtjkcbigmebbkkaaDoorY06
set_option linter.unusedSimpArgs false
set_option linter.unusedVariables false
namespace Go.Proofs.YtjkcbigmebbkkaaDoor
open Go.RowKit Go.Lib

/-- Parts behind one another, and the places of their own nodes. -/
def accS (ps : List (List Nd)) : List Nd × List Int := ps.foldl (fun s p => (s.1 ++ p.map (mvN 0 s.1.length), s.2 ++ [((s.1.length + p.length : Nat) : Int) - 1])) ([], [])
theorem accS_snoc (ps : List (List Nd)) (p : List Nd) : accS (ps ++ [p]) = ((accS ps).1 ++ p.map (mvN 0 (accS ps).1.length), (accS ps).2 ++ [(((accS ps).1.length + p.length : Nat) : Int) - 1]) := by
  unfold accS; rw [List.foldl_append]; rfl
theorem accS_len2 (ps : List (List Nd)) : (accS ps).2.length = ps.length := by
  have key : ∀ (qs rs : List (List Nd)), (accS rs).2.length = rs.length → (accS (rs ++ qs)).2.length = (rs ++ qs).length := by
    intro qs
    induction qs with
    | nil => intro rs h; simpa using h
    | cons q qs ih =>
      intro rs h
      have e : rs ++ q :: qs = (rs ++ [q]) ++ qs := by simp
      rw [e]
      exact ih (rs ++ [q]) (by rw [accS_snoc]; simp [h])
  simpa using key ps [] rfl

def joinL (op n : Int) (nm : ByteArray) (ps : List (List Nd)) : List Nd := (accS ps).1 ++ [⟨op, n, nm, (accS ps).2⟩]

/-- What Make says. -/
structure MakePost (w : World) (op n : Int) (nm : ByteArray) (ps : List (List Nd)) (e : Ending) (w' : World) : Prop where
  below : Below w.heap.size w w'
  ways : ((∃ l ∈ ps, sndB l = false) ∧ e = .returned (.tuple #[.slice none 0 0, .int .i64 1])) ∨
    ((∀ l ∈ ps, sndB l = true) ∧ fitB op n nm ps.length = false ∧ e = .returned (.tuple #[.slice none 0 0, .int .i64 2])) ∨
    ((∀ l ∈ ps, sndB l = true) ∧ fitB op n nm ps.length = true ∧ 64 < 1 + (accS ps).1.length ∧ e = .returned (.tuple #[.slice none 0 0, .int .i64 10])) ∨
    ((∀ l ∈ ps, sndB l = true) ∧ fitB op n nm ps.length = true ∧ 1 + (accS ps).1.length ≤ 64 ∧ ∃ v', e = .returned (.tuple #[v', .int .i64 0]) ∧ OwnN w' w.heap.size v' (joinL op n nm ps))

theorem snd_some {l : List Nd} (h : sndB l = true) : ∃ fr, begL l = some fr := Option.isSome_iff_exists.1 h
theorem snd_none {l : List Nd} (h : sndB l = false) : begL l = none := by
  unfold sndB at h
  cases hb : begL l with
  | none => rfl
  | some fr => rw [hb] at h; cases h

theorem OwnP_nil (w : World) (base : Nat) : OwnP w base (.slice none 0 0) [] := ⟨World.ownsRow_nil _ _ _ _, by simp⟩

theorem OwnP.form {w : World} {base : Nat} {v : Value} {p : List (Nd × Value)} (h : OwnP w base v p) : ∃ ao cap, v = .slice ao p.length cap := by
  obtain ⟨_, h2⟩ := h.row
  rcases h2 with ⟨rfl, h0⟩ | ⟨g, cap, cur, rfl, _⟩
  · exact ⟨none, 0, by rw [h0]⟩
  · exact ⟨_, cap, rfl⟩
theorem accS_le' {ps : List (List Nd)} {N : Nat} (h : ∀ l ∈ ps, l.length ≤ N) : (accS ps).1.length ≤ N * ps.length := by
  have key : ∀ (qs rs : List (List Nd)), (∀ l ∈ qs, l.length ≤ N) → (accS rs).1.length ≤ N * rs.length → (accS (rs ++ qs)).1.length ≤ N * (rs ++ qs).length := by
    intro qs
    induction qs with
    | nil => intro rs _ h; simpa using h
    | cons q qs ih =>
      intro rs hq h
      have e : rs ++ q :: qs = (rs ++ [q]) ++ qs := by simp
      rw [e]
      refine ih (rs ++ [q]) (fun l hl => hq l (List.mem_cons_of_mem _ hl)) ?_
      have := hq q (List.mem_cons_self ..)
      rw [accS_snoc]; simp [Nat.mul_add]; omega
  simpa using key ps [] h (by simp [accS])

theorem accS_le {ps : List (List Nd)} (h : ∀ l ∈ ps, l.length ≤ 64) : (accS ps).1.length ≤ 64 * ps.length := accS_le' h

/-- In the third loop. -/
structure MkMid (w : World) (base : Nat) (ps : List (List Nd)) (v kv : Value) (wr : World) : Prop where
  ex : ∃ p, OwnP wr base v p ∧ p.map (·.1) = (accS ps).1 ∧ OwnI wr base kv (accS ps).2 ∧ (∀ q ∈ p, q.2.ownBlock = none ∨ q.2.ownBlock ≠ kv.ownBlock) ∧ Below base w wr

/-- The kids' list grows by one. -/
theorem mk_kids {W w1 : World} {base : Nat} {v kv : Value} {p : List (Nd × Value)} {ks : List Int} {z : Int} {g cap : Nat} (hP : OwnP W base v p) (hK : OwnI W base kv ks) (hd : ∀ q ∈ p, q.2.ownBlock = none ∨ q.2.ownBlock ≠ kv.ownBlock)
    (hown : w1.ownsRow base 3 1 (.slice (some ⟨g, 0, none⟩) (ks.length + 1) cap) (ks.length + 1) (ks.map (Value.int .i64) ++ [.int .i64 z])) (hg : W.grownBy w1 kv.ownBlock) (hat : kv.ownBlock = some g ∨ g = W.heap.size) :
    OwnP w1 base v p ∧ OwnI w1 base (.slice (some ⟨g, 0, none⟩) (ks.length + 1) cap) (ks ++ [z]) ∧ ∀ q ∈ p, q.2.ownBlock = none ∨ q.2.ownBlock ≠ (Value.slice (some ⟨g, 0, none⟩) (ks.length + 1) cap).ownBlock := by
  refine ⟨⟨World.ownsRow.kept hP.row hg (ownBlock_ne hP.row hK (by decide)), fun q hq => World.ownsRow.kept (hP.kids q hq) hg (hd q hq)⟩, OwnI_snoc hown, fun q hq => ?_⟩
  rcases hd q hq with h | h
  · exact .inl h
  · right
    show q.2.ownBlock ≠ some g
    rcases hat with hat | hat
    · rw [← hat]; exact h
    · intro he
      have := ((hP.kids q hq).lt g he).2
      omega

set_option maxHeartbeats 4000000 in
theorem make_any (op n : Int) (nm : ByteArray) (vs : Value) (ps : List (List Nd)) (w : World) (B : Nat) (hBw : B ≤ w.heap.size) (hT : SpanCells w) (hN : Lst w B vs ps) (hlen : ps.length * 24 ≤ 140737488355328) :
    Calls Tryd.prog 23 #[.int .i64 op, .int .i64 n, .string nm, vs] w fun e w' => MakePost w op n nm ps e w' := by
  obtain ⟨ao, cap0, rfl, hl, hm, hc⟩ := hN
  obtain ⟨i0, hi, hz0, hz1, hz2⟩ := info_parts Tryd.infoNode
  obtain ⟨j0, hj, hy0, hy1, hy2⟩ := info_parts Tryd.info3
  unfold maxLen at hm
  have HC : Hid (ps = [] ∨ ∃ b o, ao = some ⟨b, o, none⟩ ∧ b < B ∧ ∀ i, i < ps.length → ∃ pv, w.cell? ⟨b, o + i, none⟩ = some pv ∧ Nodes w B pv (ps.getD i [])) := hc
  clear hc
  have HT : Hid (SpanCells w) := hT
  clear hT
  go_enter Tryd.func23, Tryd.ntmps23
  go_wp2_with fail
  go_loopw [21] (fun i wr => ∃ k : Nat, k ≤ ps.length ∧ i = .int .i64 k ∧ Hid (∀ l ∈ ps.take k, sndB l = true) ∧ Below w.heap.size w wr) (fun i _ => ps.length - (RowKit.intOf i).toNat)
  case atStart => exact ⟨0, by omega, rfl, by intro l hl; simp at hl, Below.refl _ _⟩
  case round =>
    obtain ⟨k, hk, rfl, hall, hB⟩ := hrel
    have hsz := hB.size
    by_cases hlt : k < ps.length
    · obtain ⟨b, o, rfl, hbl, hc⟩ : ∃ b o, ao = some ⟨b, o, none⟩ ∧ b < B ∧ ∀ i, i < ps.length → ∃ pv, w.cell? ⟨b, o + i, none⟩ = some pv ∧ Nodes w B pv (ps.getD i []) := by
        rcases HC.out with h | h
        · subst h; simp at hlt
        · exact h
      obtain ⟨pv, hpc, hpn⟩ := hc k hlt
      clear hc HC
      have hpc : wr.cell? ⟨b, o + k, none⟩ = some pv := (hB.cell (p := ⟨b, o + k, none⟩) (by show b < w.heap.size; omega)).trans hpc
      have hpn := hpn.below (hB.mono hBw) (Nat.le_refl _)
      have hmem : ps.getD k [] ∈ ps := by simp [hlt]
      have HMEM : Hid (ps.getD k [] ∈ ps) := hmem
      have HS : Hid (ps.take (k + 1) = ps.take k ++ [ps.getD k []]) := by show ps.take (k + 1) = _; rw [List.take_succ_eq_append_getElem hlt]; simp [hlt]
      clear hmem
      generalize ps.getD k [] = l at *
      obtain ⟨pa, pc, rfl, hpn'⟩ := id hpn
      clear hpn'
      cases hs : sndB l with
      | false =>
        have HN : Hid (begL l = none) := snd_none hs
        have HS0 : Hid (sndB l = false) := hs
        clear hs
        go_wp2_with (go_at_call 8; refine (check_none _ l _ B (by omega) (HT.out.below hB) hpn HN.out).mono ?_; rintro e w2 ⟨rfl, hb2⟩)
        go_ret2
        exact ⟨hB.trans (hb2.mono hsz), .inl ⟨⟨l, HMEM.out, HS0.out⟩, rfl⟩⟩
      | true =>
        obtain ⟨fr, hfr⟩ := snd_some hs
        have HN : Hid (begL l = some fr) := hfr
        have HS0 : Hid (sndB l = true) := hs
        clear hs hfr
        go_wp2_with (go_at_call 8; refine (check_some _ l fr _ B (by omega) (HT.out.below hB) hpn HN.out).mono ?_; rintro e w2 ⟨rfl, hb2⟩)
        refine ⟨⟨k + 1, by omega, by go_num, ?_, hB.trans (hb2.mono hsz)⟩, by simp [RowKit.intOf]; omega⟩
        intro l' hl'
        rw [HS.out] at hl'
        rcases List.mem_append.1 hl' with h | h
        · exact hall.out l' h
        · simp at h; subst h; exact HS0.out
    · have hke : k = ps.length := by omega
      subst hke
      have hall2 : ∀ l ∈ ps, sndB l = true := by have := hall.out; rw [List.take_length] at this; exact this
      have HALL : Hid (∀ l ∈ ps, sndB l = true) := hall2
      clear hall hall2
      cases hf : fitB op n nm ps.length with
      | false =>
        have HF : Hid (fitB op n nm ps.length = false) := hf
        go_wp2_with (go_at_call 50; refine (fits_any _ _ _ _ _ (HT.out.below hB)).mono ?_; rintro e w2 ⟨rfl, hb2⟩; rw [hf])
        go_ret2
        exact ⟨hB.trans (hb2.mono hsz), .inr (.inl ⟨HALL.out, HF.out, rfl⟩)⟩
      | true =>
        have HF : Hid (fitB op n nm ps.length = true) := hf
        have hp3 : ps.length ≤ 3 := by
          unfold fitB at hf
          simp only [Bool.and_eq_true, decide_eq_true_eq] at hf
          have := aritI_le op
          omega
        go_wp2_with (go_at_call 50; refine (fits_any _ _ _ _ _ (HT.out.below hB)).mono ?_; rintro e w2 ⟨rfl, hb2⟩; rw [hf])
        clear hf
        have hB2 : Below w.heap.size w w2 := hB.trans (hb2.mono hsz)
        have hsz2 := hB2.size
        clear hb2 hB
        have hps : ∀ i, i < ps.length → ∃ b o, ao = some ⟨b, o, none⟩ ∧ b < B ∧ ∃ pa pc, w2.cell? ⟨b, o + i, none⟩ = some (.slice pa (ps.getD i []).length pc) ∧ Nodes w2 B (.slice pa (ps.getD i []).length pc) (ps.getD i []) ∧ ((ps.getD i []).length ≤ 64 ∧ ∀ x ∈ ps.getD i [], x.kids.length * 8 ≤ 140737488351232 ∧ ∀ k ∈ x.kids, -9000 ≤ k ∧ k ≤ 9000) := by
          intro i hi
          rcases HC.out with h | ⟨b, o, h, hbl, hc⟩
          · subst h; simp at hi
          · refine ⟨b, o, h, hbl, ?_⟩
            obtain ⟨pv, hpc, hpn⟩ := hc i hi
            have hpn := hpn.below (hB2.mono hBw) (Nat.le_refl _)
            obtain ⟨pa, pc, rfl, _⟩ := id hpn
            obtain ⟨fr, hfr⟩ := snd_some (HALL.out (ps.getD i []) (by simp [hi]))
            exact ⟨pa, pc, (hB2.cell (p := ⟨b, o + i, none⟩) (by show b < w.heap.size; omega)).trans hpc, hpn, (snd_bounds hfr).1, snd_kids hfr⟩
        have HPS : Hid (∀ i, i < ps.length → ∃ b o, ao = some ⟨b, o, none⟩ ∧ b < B ∧ ∃ pa pc, w2.cell? ⟨b, o + i, none⟩ = some (.slice pa (ps.getD i []).length pc) ∧ Nodes w2 B (.slice pa (ps.getD i []).length pc) (ps.getD i []) ∧ ((ps.getD i []).length ≤ 64 ∧ ∀ x ∈ ps.getD i [], x.kids.length * 8 ≤ 140737488351232 ∧ ∀ k ∈ x.kids, -9000 ≤ k ∧ k ≤ 9000)) := hps
        clear hps HC
        have htk : ∀ k, k < ps.length → ps.take (k + 1) = ps.take k ++ [ps.getD k []] := fun k hlt => by rw [List.take_succ_eq_append_getElem hlt]; simp [hlt]
        have HTK : Hid (∀ k, k < ps.length → ps.take (k + 1) = ps.take k ++ [ps.getD k []]) := htk
        clear htk
        go_loop [12, 38] (fun s i => ∃ (k : Nat) (tot : Nat), k ≤ ps.length ∧ i = .int .i64 k ∧ s = .int .i64 (1 + (tot : Int)) ∧ Hid ((accS (ps.take k)).1.length = tot) ∧ tot ≤ 64 * k) (fun _ i => ps.length - (RowKit.intOf i).toNat)
        case atStart => exact ⟨0, 0, by omega, rfl, rfl, rfl, by omega⟩
        case round =>
          obtain ⟨k, tot, hk, rfl, rfl, htot, htk⟩ := hrel
          by_cases hlt : k < ps.length
          · obtain ⟨b, o, rfl, hbl, pa, pc, hpc, hpn, h64, _⟩ := HPS.out k hlt
            have HT2 : Hid ((accS (ps.take (k + 1))).1.length = tot + (ps.getD k []).length) := by
              show (accS (ps.take (k + 1))).1.length = _
              rw [HTK.out k hlt, accS_snoc]; simp [htot.out]
            generalize ps.getD k [] = l at *
            clear hpn
            go_wp2_with fail
            exact ⟨⟨k + 1, tot + l.length, by omega, by go_num, by go_num, HT2.out, by omega⟩, by simp [RowKit.intOf]; omega⟩
          · have hke : k = ps.length := by omega
            subst hke
            have htot2 : (accS ps).1.length = tot := by have := htot.out; rw [List.take_length] at this; exact this
            have HTOT : Hid ((accS ps).1.length = tot) := htot2
            clear htot htot2
            by_cases hlg : 64 < 1 + tot
            · have hlg2 : (64 : Int) < 1 + (tot : Int) := by omega
              go_wp2_with fail
              go_ret2
              exact ⟨hB2, .inr (.inr (.inl ⟨HALL.out, HF.out, by rw [HTOT.out]; exact hlg, rfl⟩))⟩
            · have hlg2 : ¬ (64 : Int) < 1 + (tot : Int) := by omega
              go_wp2_with fail
              go_loopw [15, 16, 51] (fun v kv i wr => ∃ k : Nat, k ≤ ps.length ∧ i = .int .i64 k ∧ MkMid w2 w2.heap.size (ps.take k) v kv wr) (fun _ _ i _ => ps.length - (RowKit.intOf i).toNat)
              case atStart => exact ⟨0, by omega, rfl, ⟨[], OwnP_nil _ _, rfl, OwnI_nil _ _, by simp, Below.refl _ _⟩⟩
              case round =>
                obtain ⟨k, hk, rfl, hmid⟩ := hrel
                obtain ⟨p, hP, hpm, hK, hd, hB3⟩ := hmid.ex
                clear hmid
                have hsz3 := hB3.size
                have hkl := accS_len2 (ps.take k)
                have hkl2 : (ps.take k).length = k := by simp; omega
                by_cases hlt : k < ps.length
                · obtain ⟨b, o, rfl, hbl, pa, pc, hpc, hpn, h64, hkk⟩ := HPS.out k hlt
                  have hacc := accS_le (ps := ps.take k) (fun l hl => by
                    obtain ⟨fr, hfr⟩ := snd_some (HALL.out l (List.mem_of_mem_take hl))
                    exact (snd_bounds hfr).1)
                  have hpl : p.length = (accS (ps.take k)).1.length := by rw [← hpm]; simp
                  have hp192 : p.length ≤ 192 := by omega
                  have HA : Hid (accS (ps.take (k + 1)) = ((accS (ps.take k)).1 ++ (ps.getD k []).map (mvN 0 (accS (ps.take k)).1.length), (accS (ps.take k)).2 ++ [(((accS (ps.take k)).1.length + (ps.getD k []).length : Nat) : Int) - 1])) := by
                    show accS (ps.take (k + 1)) = _
                    rw [HTK.out k hlt, accS_snoc]
                  rw [← hpl] at HA
                  rw [hkl2] at hkl
                  generalize ps.getD k [] = l at *
                  generalize (accS (ps.take k)).1 = A1 at *
                  generalize (accS (ps.take k)).2 = A2 at *
                  have hpc3 : wr.cell? ⟨b, o + k, none⟩ = some (.slice pa l.length pc) := (hB3.cell (p := ⟨b, o + k, none⟩) (by show b < w2.heap.size; omega)).trans hpc
                  obtain ⟨va, vc, rfl⟩ := hP.form
                  have HHP : Hid (p.map (·.1) = A1) := hpm
                  have HKL : Hid (A2.length = k) := hkl
                  clear hpc hacc hpl hpm hkl hkl2
                  go_wp2_with fail
                  refine (add_p _ _ p l 0 p.length _ w2.heap.size hsz3 hP (hpn.below (hB3.mono (by omega)) (by omega)) (by omega) hkk (by omega) (by omega)).mono ?_
                  rintro e w3 ⟨v3, p', rfl, hP3, hm3, hk3, hg3, hat3, hb3⟩
                  obtain ⟨va3, vc3, rfl⟩ := hP3.form
                  have hpl3 : (p ++ p').length = p.length + l.length := by
                    have := congrArg List.length hm3
                    simp at this ⊢; omega
                  have hK3 : OwnI w3 w2.heap.size _ A2 := World.ownsRow.kept hK hg3 (ownBlock_ne hK hP.row (by decide))
                  have hd3 : ∀ q ∈ p ++ p', q.2.ownBlock = none ∨ q.2.ownBlock ≠ _ := fun q hq => by
                    rcases List.mem_append.1 hq with hq | hq
                    · exact hd q hq
                    · cases hob : q.2.ownBlock with
                      | none => exact .inl rfl
                      | some g =>
                        right
                        intro he
                        have h1 := ((hk3 q hq).lt g hob).1
                        have h2 := (hK.lt g he.symm).2
                        omega
                  have hz3 := hb3.size
                  have hm3' : (p ++ p').map (·.1) = (accS (ps.take (k + 1))).1 := by rw [HA.out, List.map_append, HHP.out, hm3]
                  have HM3 : Hid ((p ++ p').map (·.1) = (accS (ps.take (k + 1))).1) := hm3'
                  have hA2 : (accS (ps.take (k + 1))).2 = A2 ++ [((p ++ p').length : Int) - 1] := by rw [HA.out, hpl3]
                  have HA2 : Hid ((accS (ps.take (k + 1))).2 = A2 ++ [((p ++ p').length : Int) - 1]) := hA2
                  have hQl : (p ++ p').length ≤ 256 := by omega
                  generalize p ++ p' = Q at *
                  have HD3 : Hid (∀ q ∈ Q, q.2.ownBlock = none ∨ q.2.ownBlock ≠ _) := hd3
                  clear hm3 hm3' hA2 hk3 hd hg3 hat3 HA hpl3 hP hK hpc3 hd3
                  have hK3' := hK3
                  unfold OwnI at hK3'
                  go_wp2_with (at_builtin; refine wpList_append_lies _ rfl (.tmp 60) (.tmp 64) 61 rfl w2.heap.size 3 j0 (.int .i64 0) 1 8 Tryd.underlying61 hj hy0 hy1 hy2 rfl (by decide) _ _ _ rfl (hK3'.alloc _) ⟨w3.heap.size, 0, none⟩ 1 1 [.int .i64 ((Q.length : Int) - 1)] rfl rfl (cell_news_one _ _ _) (by simp [Value.oneCell']) (by omega) (by have := HKL.out; unfold maxLen; omega) (by have := HKL.out; omega) (by simp; omega) _ rfl ?_; intro g cap w4 hown4 hg4 hat4 hl4)
                  have hW := (Below.refl w3.heap.size w3).alloc (Nat.le_refl _) (.cells #[.int .i64 ((Q.length : Int) - 1)] 3)
                  obtain ⟨r1, r2, r3⟩ := mk_kids (hP3.below hW) (hK3.below hW) HD3.out hown4 hg4 hat4
                  refine ⟨⟨k + 1, by omega, by go_num, ⟨Q, r1, HM3.out, by rw [HA2.out]; exact r2, r3, ?_⟩⟩, by simp [RowKit.intOf]; omega⟩
                  exact ((hB3.trans hb3).alloc (by omega) _).grown hg4 (by simp; omega) (fun k hk => (hK3.lt k hk).1)
                · have hke : k = ps.length := by omega
                  subst hke
                  rw [List.take_length] at hpm hK hkl
                  have hpl : p.length = tot := by rw [← HTOT.out, ← hpm]; simp
                  have HHP : Hid (p.map (·.1) = (accS ps).1) := hpm
                  have HJ : Hid (joinL op n nm ps = (accS ps).1 ++ [⟨op, n, nm, (accS ps).2⟩]) := rfl
                  generalize hA2 : (accS ps).2 = A2 at *
                  obtain ⟨ka, kc, hkv⟩ := hK.form
                  subst hkv
                  have HPL : Hid (p.length = tot) := hpl
                  clear hpm hpl hkl hkl2 hd
                  have hrow := hP.row
                  go_wp2_with (at_builtin; refine wpList_append_lies _ rfl (.tmp 67) (.tmp 73) 22 rfl w2.heap.size 71 i0 (.agg #[.int .i64 0, .int .i64 0, .string ⟨#[]⟩, .slice none 0 0]) 4 56 Tryd.underlying22 hi hz0 hz1 hz2 rfl (by decide) _ _ _ rfl (hrow.alloc _) ⟨wr.heap.size, 0, none⟩ 1 1 [.int .i64 op, .int .i64 n, .string nm, .slice ka A2.length kc] rfl rfl (cell_news4 _ _ _ _ _ _ _ (by simp)) (by simp [Value.oneCell']) (by omega) (by have := HPL.out; unfold maxLen; omega) (by have := HPL.out; omega) (by simp; omega) _ rfl ?_; intro g cap w4 hown4 hg4 hat4 hl4)
                  have hW := (Below.refl wr.heap.size wr).alloc (Nat.le_refl _) (.cells #[.int .i64 op, .int .i64 n, .string nm, .slice ka A2.length kc] 71)
                  have hfin : OwnN w4 w.heap.size (.slice (some ⟨g, 0, none⟩) (p.length + 1) cap) (joinL op n nm ps) := by
                    rw [HJ.out]
                    exact OwnN_mono ⟨p ++ [(⟨op, n, nm, A2⟩, .slice ka A2.length kc)], by rw [List.map_append, HHP.out]; rfl, (hP.below hW).snoc (x := ⟨op, n, nm, A2⟩) (hK.below hW) hown4 hg4⟩ hsz2
                  have HFIN : Hid (OwnN w4 w.heap.size (.slice (some ⟨g, 0, none⟩) (p.length + 1) cap) (joinL op n nm ps)) := hfin
                  clear hfin hown4
                  have hbe : Below w2.heap.size w2 w4 := (hB3.alloc (by omega) _).grown hg4 (by simp; omega) (fun k hk => (hrow.lt k hk).1)
                  go_ret2
                  exact ⟨hB2.trans (hbe.mono hsz2), .inr (.inr (.inr ⟨HALL.out, HF.out, by rw [HTOT.out]; omega, _, rfl, HFIN.out⟩))⟩
end Go.Proofs.YtjkcbigmebbkkaaDoor

set_option linter.unusedSimpArgs false
set_option linter.unusedVariables false
namespace Go.Proofs.YtjkcbigmebbkkaaDoor
open Go.RowKit Go.Lib

def cmV (c : Cm) : Value := .agg #[.int .i64 c.kind, .int .i64 c.r, .int .i64 c.to, .int .i64 c.op, .int .i64 c.n, .string c.name]
/-- The cells of a command. -/
structure CmAt (w : World) (b o : Nat) (c : Cm) : Prop where
  c0 : w.cell? ⟨b, o, none⟩ = some (.int .i64 c.kind)
  c1 : w.cell? ⟨b, o + 1, none⟩ = some (.int .i64 c.r)
  c2 : w.cell? ⟨b, o + 2, none⟩ = some (.int .i64 c.to)
  c3 : w.cell? ⟨b, o + 3, none⟩ = some (.int .i64 c.op)
  c4 : w.cell? ⟨b, o + 4, none⟩ = some (.int .i64 c.n)
  c5 : w.cell? ⟨b, o + 5, none⟩ = some (.string c.name)
/-- A program, read. -/
def Cms (w : World) (ao : Option Addr) (cap : Nat) (l : List Cm) : Prop :=
  l.length ≤ cap ∧ cap ≤ maxLen ∧ (l = [] ∨ ∃ b o, ao = some ⟨b, o, none⟩ ∧ b < w.heap.size ∧ ∀ i, i < l.length → CmAt w b (o + i * 6) (l.getD i cm0))
theorem CmAt.below {w w' : World} {b o B : Nat} {c : Cm} (h : CmAt w b o c) (hb : Below B w w') (hlt : b < B) : CmAt w' b o c :=
  ⟨(hb.cell (p := ⟨b, o, none⟩) hlt).trans h.c0, (hb.cell (p := ⟨b, o + 1, none⟩) hlt).trans h.c1, (hb.cell (p := ⟨b, o + 2, none⟩) hlt).trans h.c2, (hb.cell (p := ⟨b, o + 3, none⟩) hlt).trans h.c3, (hb.cell (p := ⟨b, o + 4, none⟩) hlt).trans h.c4, (hb.cell (p := ⟨b, o + 5, none⟩) hlt).trans h.c5⟩
theorem Cms.below {w w' : World} {ao : Option Addr} {cap : Nat} {l : List Cm} (h : Cms w ao cap l) (hb : Below w.heap.size w w') : Cms w' ao cap l := by
  obtain ⟨h1, h2, h3⟩ := h
  refine ⟨h1, h2, ?_⟩
  rcases h3 with h3 | ⟨b, o, rfl, hlt, hc⟩
  · exact .inl h3
  · exact .inr ⟨b, o, rfl, by have := hb.size; omega, fun i hi => (hc i hi).below hb hlt⟩

set_option maxRecDepth 20000 in
set_option maxHeartbeats 1000000 in
theorem bare_any (c : Cm) (w : World) : Calls Tryd.prog 112 #[cmV c] w fun e w' => e = .returned (.bool (bareB c)) ∧ Below w.heap.size w w' := by
  obtain ⟨kind, r, to, op, n, name⟩ := c
  have HB : Hid (bareB ⟨kind, r, to, op, n, name⟩ = (decide (op = 0) && decide (n = 0) && name.toList.isEmpty)) := rfl
  generalize bareB ⟨kind, r, to, op, n, name⟩ = q at *
  unfold cmV
  go_enter Tryd.func112, Tryd.ntmps112
  go_wp2
  all_goals
    go_ret
    refine ⟨?_, (Below.refl _ _).alloc (Nat.le_refl _) _⟩
    rw [HB.out]
    simp_all

set_option maxRecDepth 20000 in
set_option maxHeartbeats 1000000 in
theorem index_int {w : World} {v : Value} {l : List Int} (hI : Ints w w.heap.size v l) (z : Int) :
    Calls Tryd.prog 114 #[v, .int .i64 z] w fun e w' => (∃ k : Int, e = .returned (.int .i64 k) ∧ (0 ≤ k ↔ z ∈ l)) ∧ w' = w := by
  obtain ⟨ao, cap, rfl, h1, h2, h3⟩ := hI
  unfold maxLen at h2
  have HC : Hid (l = [] ∨ ∃ b o, ao = some ⟨b, o, none⟩ ∧ b < w.heap.size ∧ ∀ j, j < l.length → w.cell? ⟨b, o + j, none⟩ = some (.int .i64 (l.getD j 0))) := h3
  clear h3
  go_enter Tryd.func114, Tryd.ntmps114
  go_wp2_with fail
  go_loop [8] (fun q => ∃ k : Nat, k ≤ l.length ∧ q = .int .i64 k ∧ z ∉ l.take k) (fun q => l.length - (RowKit.intOf q).toNat)
  case atStart => exact ⟨0, by omega, rfl, by simp⟩
  case round =>
    obtain ⟨k, hk, rfl, hno⟩ := hrel
    have HNO : Hid (z ∉ l.take k) := hno
    clear hno
    by_cases hlt : k < l.length
    · rcases HC.out with h | ⟨b, o, rfl, hb, hc⟩
      · subst h; simp at hlt
      have c0 := hc k hlt
      have e : l.getD k 0 = l[k] := by simp [hlt]
      have ht : l.take (k + 1) = l.take k ++ [l[k]] := List.take_succ_eq_append_getElem hlt
      have HS : Hid (l.getD k 0 ≠ z → z ∉ l.take (k + 1)) := by
        intro hne hm
        rw [ht, List.mem_append] at hm
        rcases hm with hm | hm
        · exact HNO.out hm
        · simp at hm; exact hne (by rw [e]; exact hm.symm)
      have HA : Hid (l.getD k 0 = z → z ∈ l) := fun h => by rw [← h, e]; exact List.getElem_mem hlt
      clear hc HC ht e
      by_cases hz : l.getD k 0 = z
      · have HA' : Hid (z ∈ l) := HA.out hz
        rw [hz] at c0
        clear HA HS hz
        go_wp2_with fail
        go_ret
        exact ⟨⟨k, rfl, fun _ => HA'.out, fun _ => by omega⟩, rfl⟩
      · have g1 : (z == l.getD k 0) = false := by rw [beq_eq_false_iff_ne]; exact fun h => hz h.symm
        have HS' : Hid (z ∉ l.take (k + 1)) := HS.out hz
        clear HA HS hz
        generalize l.getD k 0 = y at *
        go_wp2_with fail
        exact ⟨⟨k + 1, by omega, by go_num, HS'.out⟩, by simp [RowKit.intOf]; omega⟩
    · have hke : k = l.length := by omega
      subst hke
      have HN' : Hid (z ∉ l) := by have := HNO.out; rwa [List.take_length] at this
      clear HNO
      go_wp2_with fail
      go_ret
      exact ⟨⟨-1, rfl, fun h => by omega, fun h => absurd h HN'.out⟩, rfl⟩
set_option maxHeartbeats 400000 in
theorem contains_int {w : World} {v : Value} {l : List Int} (hI : Ints w w.heap.size v l) (z : Int) :
    Calls Tryd.prog 87 #[v, .int .i64 z] w fun e w' => e = .returned (.bool (decide (z ∈ l))) ∧ w' = w := by
  have c := index_int hI z
  obtain ⟨q, hq⟩ : ∃ q, decide (z ∈ l) = q := ⟨_, rfl⟩
  have HQ : Hid (z ∈ l ↔ q = true) := by rw [← hq]; exact (decide_eq_true_iff).symm
  rw [hq]
  clear hq
  clear hI
  go_enter Tryd.func87, Tryd.ntmps87
  go_wp2_with fail
  refine c.mono ?_
  rintro e w1 ⟨⟨k, rfl, hk⟩, rfl⟩
  have HK : Hid (0 ≤ k ↔ q = true) := hk.trans HQ.out
  clear hk c HQ
  go_wp2_with fail
  go_ret
  refine ⟨?_, rfl⟩
  have e : decide (0 ≤ k) = q := by rw [Bool.eq_iff_iff, decide_eq_true_iff]; exact HK.out
  first | (rw [e]; rfl) | rfl
end Go.Proofs.YtjkcbigmebbkkaaDoor
