/-
  PkW.
-/
import Derived.Test.YtfdghbbanokopaaDoorChecked
import GoSem.PinnedTables
import GoSem.Claim
import GoSem.ClaimJoined
import GoSem.ClaimMapViews
import Derived.JoinedTies
import Derived.KernelRfl
import Derived.Shelf.Unicode.DecodeSlow
import Derived.Laws.RangeAny
import Derived.Shelf.Strconv.Itoa0
import Derived.Shelf.Unicode.DecodeAny
import Derived.Test.YtfdghbbanokopaaDoorProg
import Derived.WalkKit
import Derived.Deep.DeepFit
import Derived.Lib.OthersKept
import Derived.Lib.RuneCountTail
import Derived.Lib.LaidU8
import Derived.MakeChecks
import Derived.ProofKit
import Derived.OpenShut
import Derived.Deep.DeepHandedRow
import Derived.Deep.AppendLies
import Derived.Deep.OwnRows
import Derived.Laws.AppendOwnNone
import Derived.Deep.QuietTactic
import Derived.BigQuiet
import Derived.Deep.RegionWith
import Derived.Laws.DeepStrings4
import Derived.Deep.Slices
import Derived.SizedLaws
import Derived.Below
import Derived.Deep.RegionLaw
import Derived.Lib.SlBytesRow
import Derived.Lib.QuietBelow
import Derived.StillTail
import Derived.Lib.MapLaws
import Derived.Sort.Walk0
import Derived.Lib.ItoaNum
import Derived.Maps.OwnSet
import Derived.StringKeys
import Derived.Laws.ResultCell
import Derived.Deep.RegionHeld3
import Derived.Deep.DeepCutAuto
import Derived.Laws.IdiomStrings
import Derived.WalkSmall
import Derived.Laws.OwnMore
import Derived.Test.YtfdghbbanokopaaDoorRows
import Derived.Test.YtfdghbbanokopaaDoorG01
import Derived.Test.YtfdghbbanokopaaDoorG02
import Derived.Test.YtfdghbbanokopaaDoorG03
import Derived.Test.YtfdghbbanokopaaDoorG04
import Derived.Test.YtfdghbbanokopaaDoorG05
import Derived.Test.YtfdghbbanokopaaDoorG06
import Derived.Test.YtfdghbbanokopaaDoorG07
import Derived.Test.YtfdghbbanokopaaDoorG08
import Derived.Test.YtfdghbbanokopaaDoorG09
import Derived.Test.YtfdghbbanokopaaDoorG10
import Derived.Test.YtfdghbbanokopaaDoorG11
import Derived.Test.YtfdghbbanokopaaDoorG12
import Derived.Test.YtfdghbbanokopaaDoorG13
import Derived.Test.YtfdghbbanokopaaDoorG14
import Derived.Test.YtfdghbbanokopaaDoorG15
import Derived.Test.YtfdghbbanokopaaDoorG16
import Derived.Test.YtfdghbbanokopaaDoorG17
import Derived.Test.YtfdghbbanokopaaDoorG18
import Derived.Test.YtfdghbbanokopaaDoorG19
import Derived.Test.YtfdghbbanokopaaDoorG20
import Derived.Test.YtfdghbbanokopaaDoorG21
import Derived.Test.YtfdghbbanokopaaDoorG22
import Derived.Test.YtfdghbbanokopaaDoorG23
import Derived.Test.YtfdghbbanokopaaDoorG24
import Derived.Test.YtfdghbbanokopaaDoorG25
import Derived.Test.YtfdghbbanokopaaDoorG26
import Derived.Test.YtfdghbbanokopaaDoorG27
import Derived.Test.YtfdghbbanokopaaDoorG28
import Derived.Test.YtfdghbbanokopaaDoorG29
import Derived.Test.YtfdghbbanokopaaDoorG30
set_option linter.unusedSimpArgs false
set_option linter.unusedVariables false
namespace Go.Proofs.YtfdghbbanokopaaDoor
open Go.RowKit Go.Lib

structure SldK (p : Prop) : Prop where
  out : p
/-- A pattern's part, read. -/
theorem rdP_at {w : World} {a : Option Addr} {c : Nat} {ps : List (List Nd)} (h : RdP w a c ps) {k : Nat} (hk : k < ps.length) : ∃ b o ao' cap' lk, a = some ⟨b, o, none⟩ ∧ b < w.heap.size ∧ w.cell? ⟨b, o + k, none⟩ = some (.slice ao' lk.length cap') ∧ Rd w ao' cap' lk ∧ lk = ps.getD k [] := by
  obtain ⟨ao, cap, e, h1, h2, h3⟩ := h
  cases e
  rcases h3 with h3 | ⟨b, o, rfl, hlt, hc⟩
  · subst h3; simp at hk
  · obtain ⟨pv, h4, h5⟩ := hc k hk
    obtain ⟨ao', cap', rfl, _⟩ := id h5
    exact ⟨b, o, ao', cap', _, rfl, hlt, h4, h5, rfl⟩

set_option maxRecDepth 20000 in
set_option maxHeartbeats 8000000 in
theorem patternKeeps_walk (w : World) (a0 a1 a2 : Option Addr) (c0 c1 c2 : Nat) (l x : List Nd) (ps : List (List Nd)) (T : Tabs w) (hL : Rd w a0 c0 l) (hP : RdP w a1 c1 ps) (hE : Rd w a2 c2 x) (FL : FitX l) (FP : FitL ps) (FE : FitX x) (hn : ps.length ≤ 1048576) (hs : ps.flatten.length ≤ 1048576) (hll : l.length ≤ 1048576) (hlx : x.length ≤ 1048576) :
    Calls Tryd.prog 6 #[.slice a0 l.length c0, .slice a1 ps.length c1, .slice a2 x.length c2] w fun e w' => e = .returned (.bool true) ∧ Below w.heap.size w w' := by
  obtain ⟨i0, hi, hz0, hz1, hz2⟩ := info_parts pk_infoR
  obtain ⟨m0, hm, hx0, hx1, hx2⟩ := info_parts pk_infoN
  have HT : SldK (∀ V, Below w.heap.size w V → Tabs V) := ⟨fun V hV => T.below hV⟩
  have CA : SldK (Calls Tryd.prog 27 #[] w fun e w' => e = .returned (.bool true) ∧ Below w.heap.size w w') := ⟨awake14_any w T.spans⟩
  have CR : SldK (∀ W rs, Rms w W rs → Calls Tryd.prog 31 #[.slice a0 l.length c0] W fun e w' => ∃ r : Rm, e = .returned (.pointer (some ⟨r.R, 0, none⟩)) ∧ r.l = l ∧ Rms w w' (rs ++ [r])) := ⟨fun W rs h => (roomy_any a0 c0 l W (hL.below h.b h.b.size) (fitX_R FL)).mono fun e w' ⟨R, vw, vf, vk, p, ks, he, hr⟩ => by
    obtain ⟨r, rfl, hl, ho, hq, ha⟩ := roomO hr
    exact ⟨r, he, hl, h.snoc ho hq ha⟩⟩
  have CE : SldK (∀ W rs, Rms w W rs → Calls Tryd.prog 31 #[.slice a2 x.length c2] W fun e w' => ∃ r : Rm, e = .returned (.pointer (some ⟨r.R, 0, none⟩)) ∧ r.l = x ∧ Rms w w' (rs ++ [r])) := ⟨fun W rs h => (roomy_any a2 c2 x W (hE.below h.b h.b.size) (fitX_R FE)).mono fun e w' ⟨R, vw, vf, vk, p, ks, he, hr⟩ => by
    obtain ⟨r, rfl, hl, ho, hq, ha⟩ := roomO hr
    exact ⟨r, he, hl, h.snoc ho hq ha⟩⟩
  have CP : SldK (∀ (W : World) (k : Nat) (b o : Nat) (r1 r2 : Rm) (rs : List Rm) (vr vi : Value) (ao' : Option Addr) (cap' : Nat) (lk : List Nd), lk = ps.getD k [] → k < ps.length → PkL w W ps r1 r2 rs vr vi k → Rd W ao' cap' lk → Calls Tryd.prog 31 #[.slice ao' lk.length cap'] W fun e w' => ∃ r : Rm, e = .returned (.pointer (some ⟨r.R, 0, none⟩)) ∧ PkM w w' ps r1 r2 rs r vr vi k) := ⟨fun W k b o r1 r2 rs vr vi ao' cap' lk hlk hk h hR => (roomy_any ao' cap' _ W hR (fitX_R (FP.each _ (by rw [hlk, List.getD_eq_getElem?_getD, List.getElem?_eq_getElem hk]; exact List.getElem_mem hk)))).mono fun e w' ⟨R, vw, vf, vk, p, ks, he, hr⟩ => by
    obtain ⟨r, rfl, hl, ho, hq, ha⟩ := roomO hr
    exact ⟨r, he, h.room hk (hl.trans hlk) ho hq ha⟩⟩
  have CX : SldK (∀ (W : World) (k : Nat) (r1 r2 r : Rm) (rs : List Rm) (vr vi : Value), PkN w W ps r1 r2 rs r vr vi k → Calls Tryd.prog 32 #[.pointer (some ⟨r.R, 0, none⟩)] W fun e w' => e = .returned (.slice (some ⟨r.fb, 0, none⟩) r.l.length r.fc) ∧ PkN w w' ps r1 r2 rs r vr vi k) := ⟨fun W k r1 r2 r rs vr vi h => ((h.s.x (r := r) (by simp)).expr).mono fun e w' ⟨he, hb⟩ => ⟨he, h.below hb⟩⟩
  have HP : SldK (∀ V, Below w.heap.size w V → RdP V a1 c1 ps) := ⟨fun V hV => hP.below hV⟩
  obtain ⟨X, cx, sX, hCF⟩ := pk_fill l ps
  have CF := SldK.mk hCF
  have HSS : SldK (ps.flatten.length ≤ 1048576) := ⟨hs⟩
  have HLL : SldK (l.length ≤ 1048576) := ⟨hll⟩
  have HLX : SldK (x.length ≤ 1048576) := ⟨hlx⟩
  clear hs hll hlx
  have SX := SldK.mk sX
  obtain ⟨L, cl, sL, hCT⟩ := pk_fits l x
  have CT := SldK.mk hCT
  have SL := SldK.mk sL
  obtain ⟨ks, ch, sK, hCH⟩ := pk_holes l
  have CH := SldK.mk hCH
  have SK := SldK.mk sK
  have NM : SldK (∀ y ∈ l, y.name.size ≤ maxLen) := ⟨FL.name⟩
  have FR1 : SldK (FitR l) := ⟨fitX_R FL⟩
  have FR2 : SldK (FitR x) := ⟨fitX_R FE⟩
  have FRP : SldK (∀ y ∈ ps, FitR y) := ⟨fun y hy => fitX_R (FP.each y hy)⟩
  clear T hL hP hE FL FP FE hCF sX hCT sL hCH sK
  go_enter Tryd.func6, Tryd.ntmps6
  go_wp2_with fail
  refine CA.out.mono ?_
  rintro e w1 ⟨rfl, hb⟩
  have H1 : SldK (Rms w w1 []) := ⟨(Rms.nil w).below hb⟩
  clear hb CA
  go_wp2_with fail
  refine (CR.out w1 [] H1.out).mono ?_
  rintro e w2 ⟨r1, rfl, hr1, hS⟩
  have H2 : SldK (Rms w w2 [r1]) := ⟨hS⟩
  have E1 : SldK (r1.l = l) := ⟨hr1⟩
  clear hS hr1 H1 CR
  go_wp2_with fail
  refine (CE.out w2 _ H2.out).mono ?_
  rintro e w3 ⟨r2, rfl, hr2, hS⟩
  have H3 : SldK (PkL w w3 ps r1 r2 [] (.slice none 0 0) (.slice none 0 0) 0) := ⟨hS, rfl, rfl, World.ownsRow_nil _ _ _ _, World.ownsRow_nil _ _ _ _⟩
  have E2 : SldK (r2.l = x) := ⟨hr2⟩
  clear hS hr2 H2 CE
  go_wp2_with fail
  go_loopw [9, 10, 11] (fun vr vi i wr => ∃ (k : Nat) (rs : List Rm), k ≤ ps.length ∧ i = .int .i64 k ∧ PkL w wr ps r1 r2 rs vr vi k) (fun _ _ i _ => ps.length - (RowKit.intOf i).toNat)
  case atStart => exact ⟨0, [], Nat.zero_le _, rfl, H3.out⟩
  case round =>
    obtain ⟨k, rs, hk, rfl, hM⟩ := hrel
    clear H3
    obtain ⟨ar, cr, rfl⟩ := rw_form hM.rr
    obtain ⟨ai, ci, rfl⟩ := rw_form hM.ri
    have HM : SldK (PkL w wr ps r1 r2 rs (.slice ar k cr) (.slice ai k ci) k) := ⟨hM⟩
    by_cases hlt : k < ps.length
    · have hltI : (k : Int) < (ps.length : Int) := by omega
      obtain ⟨b, o, ao', cap', lk, ha1, hbl, hcl, hrd, hlk⟩ := rdP_at (HP.out wr hM.s.b) hlt
      subst ha1
      have HR : SldK (Rd wr ao' cap' lk) := ⟨hrd⟩
      have HK : SldK (lk = ps.getD k []) := ⟨hlk⟩
      clear hM hrd hlk
      go_wp2_with fail
      refine (CP.out wr k b o r1 r2 rs _ _ ao' cap' lk HK.out hlt HM.out HR.out).mono ?_
      rintro e w4 ⟨r, rfl, hM4⟩
      have H4 : SldK (PkM w w4 ps r1 r2 rs r (.slice ar k cr) (.slice ai k ci) k) := ⟨hM4⟩
      clear hM4 HM HR
      have HROW : SldK (w4.ownsRow w.heap.size 54 1 (.slice ar k cr) k (rs.map Rm.ptr)) := ⟨H4.out.rr⟩
      have Q : SldK ((k + 1 ≤ maxLen) ∧ ((k + 1) * 8 ≤ 140737488355328) ∧ ((k + 1) * 24 ≤ 140737488355328)) := ⟨by unfold maxLen; omega, by omega, by omega⟩
      have Qb : SldK (∀ o, w.heap.size ≤ (w4.alloc o).heap.size) := ⟨fun o => by rw [World.size_alloc]; have := H4.out.s.b.size; omega⟩
      go_wp2_with (at_builtin; refine wpList_append_far _ rfl (.tmp 45) (.tmp 47) 56 rfl w.heap.size 54 i0 (.pointer none) 1 8 Tryd.underlying56 hi hz0 hz1 hz2 rfl (by decide) _ _ _ rfl (HROW.out.alloc _) ⟨w4.heap.size, 0, none⟩ 1 1 [.pointer (some ⟨r.R, 0, none⟩)] rfl (by simp) (by intro j u hj; rcases j with _ | j <;> simp at hj <;> subst hj <;> simp [Go.WideShapes.add_plain]) (by simp [Value.oneCell']) (by decide) Q.out.1 Q.out.2.1 (Qb.out _) _ rfl ?_; intro g6 cap6 w6 hown6 hg6 hd6 hlt6)
      have H6 : SldK (PkN w w6 ps r1 r2 rs r (.slice (some ⟨g6, 0, none⟩) (k + 1) cap6) (.slice ai k ci) k) := ⟨H4.out.rooms hg6 hown6⟩
      clear hown6 hg6 hd6 HROW Qb H4
      refine (CX.out w6 k r1 r2 r rs _ _ H6.out).mono ?_
      rintro e w7 ⟨rfl, hM7⟩
      have H7 : SldK (PkN w w7 ps r1 r2 rs r (.slice (some ⟨g6, 0, none⟩) (k + 1) cap6) (.slice ai k ci) k) := ⟨hM7⟩
      clear hM7 H6
      have HROW : SldK (w7.ownsRow w.heap.size 22 1 (.slice ai k ci) k (rs.map Rm.sl)) := ⟨H7.out.ri⟩
      have Qb : SldK (∀ o, w.heap.size ≤ (w7.alloc o).heap.size) := ⟨fun o => by rw [World.size_alloc]; have := H7.out.s.b.size; omega⟩
      go_wp2_with (at_builtin; refine wpList_append_far _ rfl (.tmp 49) (.tmp 52) 44 rfl w.heap.size 22 m0 (.slice none 0 0) 1 24 Tryd.underlying44 hm hx0 hx1 hx2 rfl (by decide) _ _ _ rfl (HROW.out.alloc _) ⟨w7.heap.size, 0, none⟩ 1 1 [.slice (some ⟨r.fb, 0, none⟩) r.l.length r.fc] rfl (by simp) (by intro j u hj; rcases j with _ | j <;> simp at hj <;> subst hj <;> simp [Go.WideShapes.add_plain]) (by simp [Value.oneCell']) (by decide) Q.out.1 Q.out.2.2 (Qb.out _) _ rfl ?_; intro g8 cap8 w8 hown8 hg8 hd8 hlt8)
      exact ⟨⟨k + 1, _, hlt, by go_num, H7.out.ins hg8 hown8⟩, by simp [RowKit.intOf]; omega⟩
    · have hke : k = ps.length := by omega
      subst hke
      have HL : SldK (rs.map (·.l) = ps) := ⟨by rw [hM.ls, List.take_length]⟩
      have HN : SldK (rs.length = ps.length) := ⟨hM.n⟩
      have T0 : SldK (PkT w wr ([r1, r2] ++ rs) (.slice ar ps.length cr, ps.length, rs.map Rm.ptr) [] [] ((.slice ai ps.length ci, ps.length, rs.map Rm.sl) :: [])) := ⟨PkT.start hM.s hM.rr hM.ri⟩
      have LP : SldK (∀ W A Tx Hs, PkT w W ([r1, r2] ++ rs) (.slice ar ps.length cr, ps.length, rs.map Rm.ptr) A Tx ((.slice ai ps.length ci, ps.length, rs.map Rm.sl) :: Hs) → RdP W ai ci ps) := ⟨fun W A Tx Hs h => by
        have := h.lst (ps := rs) (fun r hr => List.mem_append_right _ hr) hM.n (ao := ai) (cap := ci) (by simp)
        rwa [hM.ls, List.take_length] at this⟩
      clear hM CP CX HP HM hk hlt
      obtain rfl := E1.out
      obtain rfl := E2.out
      clear E1 E2
      go_wp2_with fail
      refine (T0.out.expr (r := r1) (by simp)).mono ?_
      rintro e v1 ⟨rfl, hT⟩
      have T1 : SldK (PkT w v1 ([r1, r2] ++ rs) (.slice ar ps.length cr, ps.length, rs.map Rm.ptr) [] [] ((.slice ai ps.length ci, ps.length, rs.map Rm.sl) :: [])) := ⟨hT⟩
      clear hT T0
      go_wp2_with fail
      refine (CF.out w v1 _ _ _ _ _ _ _ ai ci T1.out (HT.out v1 T1.out.b).spans (T1.out.read (r := r1) (by simp)) NM.out (LP.out _ _ _ _ T1.out)).mono ?_
      rintro e v2 ⟨va1, ca1, qa1, rfl, hqa1, hT⟩
      have T2 : SldK (PkT w v2 ([r1, r2] ++ rs) (.slice ar ps.length cr, ps.length, rs.map Rm.ptr) ([] ++ [(.slice va1 X.length ca1, qa1)]) [] ((.slice ai ps.length ci, ps.length, rs.map Rm.sl) :: [])) := ⟨hT⟩
      have QA1 : SldK (qa1.map (·.1) = X) := ⟨hqa1⟩
      clear hT hqa1 T1
      go_wp2_with fail
      refine (T2.out.expr (r := r1) (by simp)).mono ?_
      rintro e v3 ⟨rfl, hT⟩
      have T3 : SldK (PkT w v3 ([r1, r2] ++ rs) (.slice ar ps.length cr, ps.length, rs.map Rm.ptr) ([] ++ [(.slice va1 X.length ca1, qa1)]) [] ((.slice ai ps.length ci, ps.length, rs.map Rm.sl) :: [])) := ⟨hT⟩
      clear hT T2
      go_wp2_with fail
      refine (T3.out.expr (r := r2) (by simp)).mono ?_
      rintro e v4 ⟨rfl, hT⟩
      have T4 : SldK (PkT w v4 ([r1, r2] ++ rs) (.slice ar ps.length cr, ps.length, rs.map Rm.ptr) ([] ++ [(.slice va1 X.length ca1, qa1)]) [] ((.slice ai ps.length ci, ps.length, rs.map Rm.sl) :: [])) := ⟨hT⟩
      clear hT T3
      go_wp2_with fail
      refine (CT.out w v4 _ _ _ _ _ _ _ _ _ T4.out (HT.out v4 T4.out.b) (T4.out.read (r := r1) (by simp)) NM.out (T4.out.read (r := r2) (by simp))).mono ?_
      rintro e v5 ⟨vf1, cf1, P1, rfl, hP1, hT⟩
      have T5 : SldK (PkT w v5 ([r1, r2] ++ rs) (.slice ar ps.length cr, ps.length, rs.map Rm.ptr) (([] ++ [(.slice va1 X.length ca1, qa1)]) ++ P1) [] ((.slice ai ps.length ci, ps.length, rs.map Rm.sl) :: [] ++ [(.slice vf1 L.length cf1, L.length, P1.map (·.1))])) := ⟨hT⟩
      have QP1 : SldK (psA P1 = L) := ⟨hP1⟩
      clear hT hP1 T4
      go_wp2_with fail
      refine (T5.out.expr (r := r1) (by simp)).mono ?_
      rintro e v6 ⟨rfl, hT⟩
      have T6 : SldK (PkT w v6 ([r1, r2] ++ rs) (.slice ar ps.length cr, ps.length, rs.map Rm.ptr) (([] ++ [(.slice va1 X.length ca1, qa1)]) ++ P1) [] ((.slice ai ps.length ci, ps.length, rs.map Rm.sl) :: [] ++ [(.slice vf1 L.length cf1, L.length, P1.map (·.1))])) := ⟨hT⟩
      clear hT T5
      go_wp2_with fail
      refine (CH.out w v6 _ _ _ _ _ _ _ T6.out (HT.out v6 T6.out.b).spans (T6.out.read (r := r1) (by simp)) NM.out).mono ?_
      rintro e v7 ⟨vh1, ch1, rfl, hT⟩
      have T7 : SldK (PkT w v7 ([r1, r2] ++ rs) (.slice ar ps.length cr, ps.length, rs.map Rm.ptr) (([] ++ [(.slice va1 X.length ca1, qa1)]) ++ P1) ([] ++ [(.slice vh1 ks.length ch1, ks.length, ks.map Value.string)]) ((.slice ai ps.length ci, ps.length, rs.map Rm.sl) :: [] ++ [(.slice vf1 L.length cf1, L.length, P1.map (·.1))])) := ⟨hT⟩
      clear hT T6
      go_wp2_with fail
      refine (T7.out.expr (r := r1) (by simp)).mono ?_
      rintro e v8 ⟨rfl, hT⟩
      have T8 : SldK (PkT w v8 ([r1, r2] ++ rs) (.slice ar ps.length cr, ps.length, rs.map Rm.ptr) (([] ++ [(.slice va1 X.length ca1, qa1)]) ++ P1) ([] ++ [(.slice vh1 ks.length ch1, ks.length, ks.map Value.string)]) ((.slice ai ps.length ci, ps.length, rs.map Rm.sl) :: [] ++ [(.slice vf1 L.length cf1, L.length, P1.map (·.1))])) := ⟨hT⟩
      clear hT T7
      go_wp2_with fail
      refine (CF.out w v8 _ _ _ _ _ _ _ ai ci T8.out (HT.out v8 T8.out.b).spans (T8.out.read (r := r1) (by simp)) NM.out (LP.out _ _ _ _ T8.out)).mono ?_
      rintro e v9 ⟨va2, ca2, qa2, rfl, hqa2, hT⟩
      have T9 : SldK (PkT w v9 ([r1, r2] ++ rs) (.slice ar ps.length cr, ps.length, rs.map Rm.ptr) ((([] ++ [(.slice va1 X.length ca1, qa1)]) ++ P1) ++ [(.slice va2 X.length ca2, qa2)]) ([] ++ [(.slice vh1 ks.length ch1, ks.length, ks.map Value.string)]) ((.slice ai ps.length ci, ps.length, rs.map Rm.sl) :: [] ++ [(.slice vf1 L.length cf1, L.length, P1.map (·.1))])) := ⟨hT⟩
      have QA2 : SldK (qa2.map (·.1) = X) := ⟨hqa2⟩
      clear hT hqa2 T8
      go_wp2_with fail
      refine (T9.out.expr (r := r1) (by simp)).mono ?_
      rintro e v10 ⟨rfl, hT⟩
      have T10 : SldK (PkT w v10 ([r1, r2] ++ rs) (.slice ar ps.length cr, ps.length, rs.map Rm.ptr) ((([] ++ [(.slice va1 X.length ca1, qa1)]) ++ P1) ++ [(.slice va2 X.length ca2, qa2)]) ([] ++ [(.slice vh1 ks.length ch1, ks.length, ks.map Value.string)]) ((.slice ai ps.length ci, ps.length, rs.map Rm.sl) :: [] ++ [(.slice vf1 L.length cf1, L.length, P1.map (·.1))])) := ⟨hT⟩
      clear hT T9
      go_wp2_with fail
      refine (T10.out.expr (r := r2) (by simp)).mono ?_
      rintro e v11 ⟨rfl, hT⟩
      have T11 : SldK (PkT w v11 ([r1, r2] ++ rs) (.slice ar ps.length cr, ps.length, rs.map Rm.ptr) ((([] ++ [(.slice va1 X.length ca1, qa1)]) ++ P1) ++ [(.slice va2 X.length ca2, qa2)]) ([] ++ [(.slice vh1 ks.length ch1, ks.length, ks.map Value.string)]) ((.slice ai ps.length ci, ps.length, rs.map Rm.sl) :: [] ++ [(.slice vf1 L.length cf1, L.length, P1.map (·.1))])) := ⟨hT⟩
      clear hT T10
      go_wp2_with fail
      refine (CT.out w v11 _ _ _ _ _ _ _ _ _ T11.out (HT.out v11 T11.out.b) (T11.out.read (r := r1) (by simp)) NM.out (T11.out.read (r := r2) (by simp))).mono ?_
      rintro e v12 ⟨vf2, cf2, P2, rfl, hP2, hT⟩
      have T12 : SldK (PkT w v12 ([r1, r2] ++ rs) (.slice ar ps.length cr, ps.length, rs.map Rm.ptr) (((([] ++ [(.slice va1 X.length ca1, qa1)]) ++ P1) ++ [(.slice va2 X.length ca2, qa2)]) ++ P2) ([] ++ [(.slice vh1 ks.length ch1, ks.length, ks.map Value.string)]) ((.slice ai ps.length ci, ps.length, rs.map Rm.sl) :: [] ++ [(.slice vf1 L.length cf1, L.length, P1.map (·.1))] ++ [(.slice vf2 L.length cf2, L.length, P2.map (·.1))])) := ⟨hT⟩
      have QP2 : SldK (psA P2 = L) := ⟨hP2⟩
      clear hT hP2 T11
      go_wp2_with fail
      refine (T12.out.expr (r := r1) (by simp)).mono ?_
      rintro e v13 ⟨rfl, hT⟩
      have T13 : SldK (PkT w v13 ([r1, r2] ++ rs) (.slice ar ps.length cr, ps.length, rs.map Rm.ptr) (((([] ++ [(.slice va1 X.length ca1, qa1)]) ++ P1) ++ [(.slice va2 X.length ca2, qa2)]) ++ P2) ([] ++ [(.slice vh1 ks.length ch1, ks.length, ks.map Value.string)]) ((.slice ai ps.length ci, ps.length, rs.map Rm.sl) :: [] ++ [(.slice vf1 L.length cf1, L.length, P1.map (·.1))] ++ [(.slice vf2 L.length cf2, L.length, P2.map (·.1))])) := ⟨hT⟩
      clear hT T12
      go_wp2_with fail
      refine (CH.out w v13 _ _ _ _ _ _ _ T13.out (HT.out v13 T13.out.b).spans (T13.out.read (r := r1) (by simp)) NM.out).mono ?_
      rintro e v14 ⟨vh2, ch2, rfl, hT⟩
      have T14 : SldK (PkT w v14 ([r1, r2] ++ rs) (.slice ar ps.length cr, ps.length, rs.map Rm.ptr) (((([] ++ [(.slice va1 X.length ca1, qa1)]) ++ P1) ++ [(.slice va2 X.length ca2, qa2)]) ++ P2) (([] ++ [(.slice vh1 ks.length ch1, ks.length, ks.map Value.string)]) ++ [(.slice vh2 ks.length ch2, ks.length, ks.map Value.string)]) ((.slice ai ps.length ci, ps.length, rs.map Rm.sl) :: [] ++ [(.slice vf1 L.length cf1, L.length, P1.map (·.1))] ++ [(.slice vf2 L.length cf2, L.length, P2.map (·.1))])) := ⟨hT⟩
      clear hT T13
      clear CF CT CH
      go_wp2_with fail
      refine (sameR (T14.out.ansR (v := .slice va1 X.length ca1) (q := qa1) (by simp) QA1.out) (T14.out.ansR (v := .slice va2 X.length ca2) (q := qa2) (by simp) QA2.out) true (by simp)).mono ?_
      rintro e v15 ⟨rfl, hb⟩
      have T15 : SldK (PkT w v15 ([r1, r2] ++ rs) (.slice ar ps.length cr, ps.length, rs.map Rm.ptr) (((([] ++ [(.slice va1 X.length ca1, qa1)]) ++ P1) ++ [(.slice va2 X.length ca2, qa2)]) ++ P2) (([] ++ [(.slice vh1 ks.length ch1, ks.length, ks.map Value.string)]) ++ [(.slice vh2 ks.length ch2, ks.length, ks.map Value.string)]) ((.slice ai ps.length ci, ps.length, rs.map Rm.sl) :: [] ++ [(.slice vf1 L.length cf1, L.length, P1.map (·.1))] ++ [(.slice vf2 L.length cf2, L.length, P2.map (·.1))])) := ⟨T14.out.below hb⟩
      clear hb T14
      have hlP : ∀ P : List Pz, psA P = L → P.length = L.length := fun P h => by rw [← h]; simp [psA]
      have LF1 : SldK (RdP v15 vf1 cf1 L) := ⟨by have := T15.out.lstP (P := P1) (fun a ha => by simp [ha]) (n := L.length) (hlP P1 QP1.out) (ao := vf1) (cap := cf1) (by simp); rwa [QP1.out] at this⟩
      have LF2 : SldK (RdP v15 vf2 cf2 L) := ⟨by have := T15.out.lstP (P := P2) (fun a ha => by simp [ha]) (n := L.length) (hlP P2 QP2.out) (ao := vf2) (cap := cf2) (by simp); rwa [QP2.out] at this⟩
      have cS := sameAll_any LF1.out LF2.out
      rw [decide_eq_true (rfl : L = L)] at cS
      have CS := SldK.mk cS
      clear hlP cS LF1 LF2
      go_wp2_with fail
      refine (CS.out).mono ?_
      rintro e v16 ⟨rfl, hb⟩
      have T16 : SldK (PkT w v16 ([r1, r2] ++ rs) (.slice ar ps.length cr, ps.length, rs.map Rm.ptr) (((([] ++ [(.slice va1 X.length ca1, qa1)]) ++ P1) ++ [(.slice va2 X.length ca2, qa2)]) ++ P2) (([] ++ [(.slice vh1 ks.length ch1, ks.length, ks.map Value.string)]) ++ [(.slice vh2 ks.length ch2, ks.length, ks.map Value.string)]) ((.slice ai ps.length ci, ps.length, rs.map Rm.sl) :: [] ++ [(.slice vf1 L.length cf1, L.length, P1.map (·.1))] ++ [(.slice vf2 L.length cf2, L.length, P2.map (·.1))])) := ⟨T15.out.below hb⟩
      clear hb T15
      clear CS
      go_wp2_with fail
      refine (sameTextsK_any v16 vh1 vh2 ch1 ch2 ks (T16.out.strs (by simp)) (T16.out.strs (by simp))).mono ?_
      rintro e v17 ⟨rfl, hb⟩
      have T17 : SldK (PkT w v17 ([r1, r2] ++ rs) (.slice ar ps.length cr, ps.length, rs.map Rm.ptr) (((([] ++ [(.slice va1 X.length ca1, qa1)]) ++ P1) ++ [(.slice va2 X.length ca2, qa2)]) ++ P2) (([] ++ [(.slice vh1 ks.length ch1, ks.length, ks.map Value.string)]) ++ [(.slice vh2 ks.length ch2, ks.length, ks.map Value.string)]) ((.slice ai ps.length ci, ps.length, rs.map Rm.sl) :: [] ++ [(.slice vf1 L.length cf1, L.length, P1.map (·.1))] ++ [(.slice vf2 L.length cf2, L.length, P2.map (·.1))])) := ⟨T16.out.below hb⟩
      clear hb T16
      go_wp2_with fail
      refine (T17.out.kept (r := r1) (by simp) FR1.out).mono ?_
      rintro e v18 ⟨rfl, hb⟩
      have T18 : SldK (PkT w v18 ([r1, r2] ++ rs) (.slice ar ps.length cr, ps.length, rs.map Rm.ptr) (((([] ++ [(.slice va1 X.length ca1, qa1)]) ++ P1) ++ [(.slice va2 X.length ca2, qa2)]) ++ P2) (([] ++ [(.slice vh1 ks.length ch1, ks.length, ks.map Value.string)]) ++ [(.slice vh2 ks.length ch2, ks.length, ks.map Value.string)]) ((.slice ai ps.length ci, ps.length, rs.map Rm.sl) :: [] ++ [(.slice vf1 L.length cf1, L.length, P1.map (·.1))] ++ [(.slice vf2 L.length cf2, L.length, P2.map (·.1))])) := ⟨hb⟩
      clear hb T17
      go_wp2_with fail
      refine (T18.out.kept (r := r2) (by simp) FR2.out).mono ?_
      rintro e v19 ⟨rfl, hb⟩
      have T19 : SldK (PkT w v19 ([r1, r2] ++ rs) (.slice ar ps.length cr, ps.length, rs.map Rm.ptr) (((([] ++ [(.slice va1 X.length ca1, qa1)]) ++ P1) ++ [(.slice va2 X.length ca2, qa2)]) ++ P2) (([] ++ [(.slice vh1 ks.length ch1, ks.length, ks.map Value.string)]) ++ [(.slice vh2 ks.length ch2, ks.length, ks.map Value.string)]) ((.slice ai ps.length ci, ps.length, rs.map Rm.sl) :: [] ++ [(.slice vf1 L.length cf1, L.length, P1.map (·.1))] ++ [(.slice vf2 L.length cf2, L.length, P2.map (·.1))])) := ⟨hb⟩
      clear hb T18
      go_wp2_with fail
      obtain ⟨W3, hW3⟩ : ∃ W3, ((v19.alloc (.cells #[.slice vh1 ks.length ch1, .slice vh2 ks.length ch2] 33)).alloc (.cells #[.slice none 0 0, .slice none 0 0, (.slice (some ⟨v19.heap.size, 0, none⟩) 2 2), .slice none 0 0, .slice none 0 0, .slice none 0 0] 67)) = W3 := ⟨_, rfl⟩
      have hs3 : W3.heap.size = v19.heap.size + 1 + 1 := by rw [← hW3]; simp only [World.size_alloc]
      have hb3 : Below v19.heap.size v19 W3 := by rw [← hW3]; exact ((Below.refl _ _).alloc (Nat.le_refl _) _).alloc (by simp only [World.size_alloc]; omega) _
      have hQ3 : W3.heap[v19.heap.size + 1]? = some (.cells #[.slice none 0 0, .slice none 0 0, (.slice (some ⟨v19.heap.size, 0, none⟩) 2 2), .slice none 0 0, .slice none 0 0, .slice none 0 0] 67 (0, 0)) := by
        rw [← hW3]
        have h1 := Deep.blk_alloc_new (v19.alloc (.cells #[.slice vh1 ks.length ch1, .slice vh2 ks.length ch2] 33)) (.cells #[.slice none 0 0, .slice none 0 0, (.slice (some ⟨v19.heap.size, 0, none⟩) 2 2), .slice none 0 0, .slice none 0 0, .slice none 0 0] 67)
        rw [World.size_alloc] at h1
        exact h1
      have hz : w.heap.size ≤ v19.heap.size := T19.out.b.size
      have hT3 : W3.ownsRow w.heap.size 33 1 (.slice (some ⟨v19.heap.size, 0, none⟩) 2 2) 2 [.slice vh1 ks.length ch1, .slice vh2 ks.length ch2] := by
        rw [← hW3]
        exact row_below (two_row hz) ((Below.refl _ _).alloc (Nat.le_refl _) _)
      rw [hW3]
      have T3 : SldK (PkT w W3 ([r1, r2] ++ rs) (.slice ar ps.length cr, ps.length, rs.map Rm.ptr) (((([] ++ [(.slice va1 X.length ca1, qa1)]) ++ P1) ++ [(.slice va2 X.length ca2, qa2)]) ++ P2) (([] ++ [(.slice vh1 ks.length ch1, ks.length, ks.map Value.string)]) ++ [(.slice vh2 ks.length ch2, ks.length, ks.map Value.string)]) ((.slice ai ps.length ci, ps.length, rs.map Rm.sl) :: [] ++ [(.slice vf1 L.length cf1, L.length, P1.map (·.1))] ++ [(.slice vf2 L.length cf2, L.length, P2.map (·.1))])) := ⟨T19.out.below hb3⟩
      have HT3 := SldK.mk hT3
      have K0 : SldK (BkA W3 W3 w.heap.size (v19.heap.size + 1) (.slice (some ⟨v19.heap.size, 0, none⟩) 2 2) []) := ⟨BkS.start hQ3⟩
      have GW : SldK (∀ V AA, BkA W3 V w.heap.size (v19.heap.size + 1) (.slice (some ⟨v19.heap.size, 0, none⟩) 2 2) AA → PkT w V ([r1, r2] ++ rs) (.slice ar ps.length cr, ps.length, rs.map Rm.ptr) (((([] ++ [(.slice va1 X.length ca1, qa1)]) ++ P1) ++ [(.slice va2 X.length ca2, qa2)]) ++ P2) (([] ++ [(.slice vh1 ks.length ch1, ks.length, ks.map Value.string)]) ++ [(.slice vh2 ks.length ch2, ks.length, ks.map Value.string)]) ((.slice ai ps.length ci, ps.length, rs.map Rm.sl) :: [] ++ [(.slice vf1 L.length cf1, L.length, P1.map (·.1))] ++ [(.slice vf2 L.length cf2, L.length, P2.map (·.1))])) := ⟨fun V AA h => T19.out.below (BkA.bel h hb3 (by omega))⟩
      have HZ : SldK (w.heap.size ≤ v19.heap.size + 1 ∧ w.heap.size ≤ W3.heap.size) := ⟨by omega, by omega⟩
      have RF : SldK (∀ k r, rs[k]? = some r → RmF W3 w.heap.size ([r1, r2] ++ rs) rs k r) := ⟨fun k r hr => rmF T3.out (by rw [HL.out]; exact FRP.out) (by rw [HL.out]; exact HSS.out) hr⟩
      have hsm := ft_small SL.out
      have PF1 : SldK (∀ k, k < L.length → ∃ ao n cap q, PtF W3 w.heap.size P1 k ao n cap q) := ⟨fun k hk => ptF T3.out (fun a ha => by simp [ha]) QP1.out hsm.2 hk⟩
      have PF2 : SldK (∀ k, k < L.length → ∃ ao n cap q, PtF W3 w.heap.size P2 k ao n cap q) := ⟨fun k hk => ptF T3.out (fun a ha => by simp [ha]) QP2.out hsm.2 hk⟩
      have SM := SldK.mk hsm
      have KO : SldK (∀ a ∈ ([r1, r2] ++ rs).map Rm.an ++ (((([] ++ [(.slice va1 X.length ca1, qa1)]) ++ P1) ++ [(.slice va2 X.length ca2, qa2)]) ++ P2), ∀ y ∈ a.2, y.1.kids.length * 8 ≤ 140737488351232) := ⟨pk_kids T3.out (fun r hr => by
        rcases List.mem_append.1 hr with hr | hr
        · simp only [List.mem_cons, List.not_mem_nil, or_false] at hr
          rcases hr with rfl | rfl
          · exact FR1.out
          · exact FR2.out
        · exact FRP.out _ (by rw [← HL.out]; exact List.mem_map_of_mem hr)) QA1.out QA2.out SX.out QP1.out QP2.out (ft_snd SL.out)⟩
      have CR0 : SldK (cntA (rs.map Rm.an) ≤ 1048576) := ⟨by
        rw [cnt_rooms, HL.out]; exact HSS.out
        intro z hz
        have := congrArg List.length (T3.out.x (List.mem_append_right [r1, r2] hz)).nodes
        simpa using this⟩
      have LP1 : SldK (P1.length = L.length ∧ P2.length = L.length) := ⟨by rw [← QP1.out]; simp [psA], by rw [← QP2.out]; simp [psA]⟩
      clear hs3 hb3 hQ3 hT3 hW3 hz hsm T19
      go_loopw [26] (fun i wr => ∃ k : Nat, k ≤ ps.length ∧ i = .int .i64 k ∧ BkA W3 wr w.heap.size (v19.heap.size + 1) (.slice (some ⟨v19.heap.size, 0, none⟩) 2 2) ((rs.take k).map Rm.an)) (fun i _ => ps.length - (RowKit.intOf i).toNat)
      case atStart => exact ⟨0, Nat.zero_le _, rfl, K0.out⟩
      case round =>
        obtain ⟨k, hk, rfl, hK⟩ := hrel
        have KK := SldK.mk hK
        clear hK K0
        by_cases hlt : k < ps.length
        · have hltI : (k : Int) < (ps.length : Int) := by omega
          have hltR : k < rs.length := by rw [HN.out]; exact hlt
          obtain ⟨r, hr⟩ : ∃ r, rs[k]? = some r := ⟨_, List.getElem?_eq_getElem hltR⟩
          have FF := SldK.mk (RF.out k r hr)
          have G : SldK (PkT w wr ([r1, r2] ++ rs) (.slice ar ps.length cr, ps.length, rs.map Rm.ptr) (((([] ++ [(.slice va1 X.length ca1, qa1)]) ++ P1) ++ [(.slice va2 X.length ca2, qa2)]) ++ P2) (([] ++ [(.slice vh1 ks.length ch1, ks.length, ks.map Value.string)]) ++ [(.slice vh2 ks.length ch2, ks.length, ks.map Value.string)]) ((.slice ai ps.length ci, ps.length, rs.map Rm.sl) :: [] ++ [(.slice vf1 L.length cf1, L.length, P1.map (·.1))] ++ [(.slice vf2 L.length cf2, L.length, P2.map (·.1))])) := ⟨GW.out _ _ KK.out⟩
          obtain ⟨gR, cR, hvR, _, _⟩ := rw_some (n := ps.length) G.out.rr (Nat.lt_of_le_of_lt (Nat.zero_le _) hlt)
          have hA : ar = some ⟨gR, 0, none⟩ := by simp at hvR; exact hvR.1
          subst hA
          have hpk : (rs.map Rm.ptr)[k]? = some (.pointer (some ⟨r.R, 0, none⟩)) := by rw [List.getElem?_map, hr]; rfl
          have CEL : SldK (∀ V AA, BkA W3 V w.heap.size (v19.heap.size + 1) (.slice (some ⟨v19.heap.size, 0, none⟩) 2 2) AA → V.cell? ⟨gR, k, none⟩ = some (.pointer (some ⟨r.R, 0, none⟩))) := ⟨fun V AA h => (rdr_own (GW.out V AA h).rr).cell (b := gR) rfl hpk⟩
          have hc1 := CEL.out _ _ KK.out
          clear hvR hpk hr
          go_wp2_with fail
          refine ((G.out.x FF.out.mem).kept FF.out.fit).mono ?_
          rintro e v20 ⟨rfl, hb⟩
          have K1 := SldK.mk (BkA.below KK.out HZ.out.2 hb)
          clear hb G KK hc1
          have hc1 := CEL.out _ _ K1.out
          go_wp2_with fail
          refine ((GW.out _ _ K1.out).x FF.out.mem).expr.mono ?_
          rintro e v21 ⟨rfl, hb⟩
          have K2 := SldK.mk (BkA.below K1.out HZ.out.2 hb)
          clear hb K1 hc1
          go_wp2_with fail
          refine (BkA.put K2.out HZ.out.1 FF.out.own FF.out.len (by simp; omega) FF.out.cnt).mono ?_
          rintro e v22 ⟨rfl, hK⟩
          have K3 := SldK.mk hK
          clear hK K2 CEL
          go_wp2_with fail
          exact ⟨⟨k + 1, hlt, by go_num, by rw [FF.out.nxt]; exact K3.out⟩, by simp [RowKit.intOf]; omega⟩
        · have hke : k = ps.length := by omega
          subst hke
          have K4 : SldK (BkA W3 wr w.heap.size (v19.heap.size + 1) (.slice (some ⟨v19.heap.size, 0, none⟩) 2 2) (rs.map Rm.an)) := ⟨by have := KK.out; rwa [← HN.out, List.take_length] at this⟩
          clear KK hk hlt RF
          go_wp2_with fail
          go_loopw [27] (fun i wr => ∃ k : Nat, k ≤ L.length ∧ i = .int .i64 k ∧ cntA (rs.map Rm.an ++ twoA P1 P2 k) ≤ 1048576 + 128 * k ∧ BkA W3 wr w.heap.size (v19.heap.size + 1) (.slice (some ⟨v19.heap.size, 0, none⟩) 2 2) (rs.map Rm.an ++ twoA P1 P2 k)) (fun i _ => L.length - (RowKit.intOf i).toNat)
          case atStart => exact ⟨0, Nat.zero_le _, rfl, by simpa [twoA] using CR0.out, by simpa [twoA] using K4.out⟩
          case round =>
            obtain ⟨k, hk, rfl, hc, hK⟩ := hrel
            have KK := SldK.mk hK
            have HC := SldK.mk hc
            clear hK K4 hc
            by_cases hlt : k < L.length
            · have hltI : (k : Int) < (L.length : Int) := by omega
              obtain ⟨ao, nn, cap, q, hF1⟩ := PF1.out k hlt
              obtain ⟨bo, mm, cap2, q2, hF2⟩ := PF2.out k hlt
              have F1 := SldK.mk hF1
              have F2 := SldK.mk hF2
              clear hF1 hF2
              obtain ⟨g1, e1, hv1, _, _⟩ := rw_some (n := L.length) ((GW.out _ _ KK.out).hd (.slice vf1 L.length cf1, L.length, P1.map (·.1)) (by simp)) (Nat.lt_of_le_of_lt (Nat.zero_le _) hlt)
              have hA1 : vf1 = some ⟨g1, 0, none⟩ := by simp at hv1; exact hv1.1
              obtain ⟨g2, e2, hv2, _, _⟩ := rw_some (n := L.length) ((GW.out _ _ KK.out).hd (.slice vf2 L.length cf2, L.length, P2.map (·.1)) (by simp)) (Nat.lt_of_le_of_lt (Nat.zero_le _) hlt)
              have hA2 : vf2 = some ⟨g2, 0, none⟩ := by simp at hv2; exact hv2.1
              have CE1 : SldK (∀ V AA, BkA W3 V w.heap.size (v19.heap.size + 1) (.slice (some ⟨v19.heap.size, 0, none⟩) 2 2) AA → V.cell? ⟨g1, k, none⟩ = some (.slice ao nn cap)) := ⟨fun V AA h => (rdr_own ((GW.out V AA h).hd (.slice vf1 L.length cf1, L.length, P1.map (·.1)) (by simp))).cell (b := g1) (by rw [hA1]; rfl) (by rw [List.getElem?_map, F1.out.at_]; rfl)⟩
              have CE2 : SldK (∀ V AA, BkA W3 V w.heap.size (v19.heap.size + 1) (.slice (some ⟨v19.heap.size, 0, none⟩) 2 2) AA → V.cell? ⟨g2, k, none⟩ = some (.slice bo mm cap2)) := ⟨fun V AA h => (rdr_own ((GW.out V AA h).hd (.slice vf2 L.length cf2, L.length, P2.map (·.1)) (by simp))).cell (b := g2) (by rw [hA2]; rfl) (by rw [List.getElem?_map, F2.out.at_]; rfl)⟩
              subst hA1
              subst hA2
              have hc1 := CE1.out _ _ KK.out
              have hk6 : k ≤ 6 := by have := SM.out.1; omega
              clear hv1 hv2
              go_wp2_with fail
              refine (BkA.put KK.out HZ.out.1 F1.out.own F1.out.len (by rw [List.length_append, List.length_map, twoA_len, HN.out]; omega) (by have := HC.out; have := F1.out.le; omega)).mono ?_
              rintro e v31 ⟨rfl, hK⟩
              have K1 := SldK.mk hK
              clear hK KK hc1
              have hc2 := CE2.out _ _ K1.out
              go_wp2_with fail
              refine (BkA.put K1.out HZ.out.1 F2.out.own F2.out.len (by rw [List.length_append, List.length_append, List.length_map, twoA_len, HN.out]; simp; omega) (by rw [cntA_app, cnt_pr]; have := HC.out; have := F1.out.le; have := F2.out.le; have := F1.out.len; omega)).mono ?_
              rintro e v32 ⟨rfl, hK⟩
              have K2 := SldK.mk hK
              clear hK K1 hc2
              have hnx : rs.map Rm.an ++ twoA P1 P2 (k + 1) = rs.map Rm.an ++ twoA P1 P2 k ++ [(.slice ao nn cap, q)] ++ [(.slice bo mm cap2, q2)] := by
                rw [twoA_succ]
                simp only [List.getD_eq_getElem?_getD, F1.out.at_, F2.out.at_, Option.getD_some, List.append_assoc, List.cons_append, List.nil_append]
              have NX := SldK.mk hnx
              clear hnx CE1 CE2
              go_wp2_with fail
              refine ⟨⟨k + 1, hlt, by go_num, ?_, by rw [NX.out]; exact K2.out⟩, by simp [RowKit.intOf]; omega⟩
              rw [NX.out, cntA_app, cntA_app, cnt_pr, cnt_pr]
              have := HC.out; have := F1.out.le; have := F2.out.le; have := F1.out.len; have := F2.out.len
              show _ + q.length + q2.length ≤ _
              omega
            · have hke : k = L.length := by omega
              subst hke
              have C5 : SldK (cntA (rs.map Rm.an ++ twoA P1 P2 L.length) ≤ 1050000) := ⟨by have := HC.out; have := SM.out.1; omega⟩
              have N5 : SldK ((rs.map Rm.an ++ twoA P1 P2 L.length).length ≤ 1050000) := ⟨by rw [List.length_append, List.length_map, twoA_len, HN.out]; have := SM.out.1; omega⟩
              have hla : qa1.length = X.length := by have := congrArg List.length QA1.out; simpa using this
              have hlb : qa2.length = X.length := by have := congrArg List.length QA2.out; simpa using this
              have LA := SldK.mk hla
              have LB := SldK.mk hlb
              have SX3 : SldK (X.length ≤ 64) := ⟨(small3 SX.out).1⟩
              have O1 : SldK (OwnP W3 w.heap.size (.slice va1 X.length ca1) qa1) := ⟨T3.out.an.ownP (a := (.slice va1 X.length ca1, qa1)) (by simp)⟩
              have O2 : SldK (OwnP W3 w.heap.size (.slice va2 X.length ca2) qa2) := ⟨T3.out.an.ownP (a := (.slice va2 X.length ca2, qa2)) (by simp)⟩
              have O3 := SldK.mk (T3.out.x (r := r1) (by simp))
              have O4 := SldK.mk (T3.out.x (r := r2) (by simp))
              have hl1 : (r1.p.take r1.l.length).length = r1.l.length := by have := congrArg List.length O3.out.nodes; simpa using this
              have hl2 : (r2.p.take r2.l.length).length = r2.l.length := by have := congrArg List.length O4.out.nodes; simpa using this
              have L3 := SldK.mk hl1
              have L4 := SldK.mk hl2
              clear hla hlb hl1 hl2 HC hk hlt
              go_wp2_with fail
              refine (BkA.put KK.out HZ.out.1 O1.out LA.out (by have := N5.out; omega) (by have := C5.out; have := SX3.out; omega)).mono ?_
              rintro e v41 ⟨rfl, hK⟩
              have K1 := SldK.mk hK
              clear hK KK
              go_wp2_with fail
              refine (BkA.put K1.out HZ.out.1 O2.out LB.out (by have := N5.out; rw [List.length_append]; simp only [List.length_cons, List.length_nil]; omega) (by rw [cntA_app, cnt_pr]; have := C5.out; have := SX3.out; have := LA.out; omega)).mono ?_
              rintro e v42 ⟨rfl, hK⟩
              have K2 := SldK.mk hK
              clear hK K1
              go_wp2_with fail
              refine ((GW.out _ _ K2.out).x (r := r1) (by simp)).expr.mono ?_
              rintro e v43 ⟨rfl, hb⟩
              have K3 := SldK.mk (BkA.below K2.out HZ.out.2 hb)
              clear hb K2
              go_wp2_with fail
              refine (BkA.put K3.out HZ.out.1 O3.out.own L3.out (by have := N5.out; simp only [List.length_append, List.length_cons, List.length_nil] at this ⊢; omega) (by rw [cntA_app, cntA_app, cnt_pr, cnt_pr]; have := C5.out; have := SX3.out; have := LA.out; have := LB.out; have := HLL.out; omega)).mono ?_
              rintro e v44 ⟨rfl, hK⟩
              have K4 := SldK.mk hK
              clear hK K3
              go_wp2_with fail
              refine ((GW.out _ _ K4.out).x (r := r2) (by simp)).expr.mono ?_
              rintro e v45 ⟨rfl, hb⟩
              have K5 := SldK.mk (BkA.below K4.out HZ.out.2 hb)
              clear hb K4
              go_wp2_with fail
              refine (BkA.put K5.out HZ.out.1 O4.out.own L4.out (by have := N5.out; simp only [List.length_append, List.length_cons, List.length_nil] at this ⊢; omega) (by rw [cntA_app, cntA_app, cntA_app, cnt_pr, cnt_pr, cnt_pr]; have := C5.out; have := SX3.out; have := LA.out; have := LB.out; have := HLL.out; have := HLX.out; have := L3.out; omega)).mono ?_
              rintro e v46 ⟨rfl, hK⟩
              have K6 := SldK.mk hK
              clear hK K5
              have PM := pk_perm (.slice va1 X.length ca1, qa1) (.slice va2 X.length ca2, qa2) ((.slice (some ⟨r1.fb, 0, none⟩) r1.l.length r1.fc, r1.p.take r1.l.length) : Pz) ((.slice (some ⟨r2.fb, 0, none⟩) r2.l.length r2.fc, r2.p.take r2.l.length) : Pz) (rs.map Rm.an) P1 P2 L.length LP1.out.1 LP1.out.2
              have cAP := BkA.apart K6.out HZ.out.2 PM T3.out.an (RT := [(.slice vh1 ks.length ch1, ks.length, ks.map Value.string), (.slice vh2 ks.length ch2, ks.length, ks.map Value.string)]) HT3.out (by simpa using T3.out.tx)
                (by have := N5.out; simp only [List.length_append, List.length_cons, List.length_nil] at this ⊢; omega)
                (by rw [cntA_app, cntA_app, cntA_app, cntA_app, cnt_pr, cnt_pr, cnt_pr, cnt_pr]; have := C5.out; have := SX3.out; have := LA.out; have := LB.out; have := HLL.out; have := HLX.out; have := L3.out; have := L4.out; omega)
                (fun a ha => by
                  have h1 := mem_cnt ha
                  rw [cntA_app, cntA_app, cntA_app, cntA_app, cnt_pr, cnt_pr, cnt_pr, cnt_pr] at h1
                  have := C5.out; have := SX3.out; have := LA.out; have := LB.out; have := HLL.out; have := HLX.out; have := L3.out; have := L4.out
                  omega)
                (fun a ha => KO.out a (PM.mem_iff.1 ha))
                (by intro z hz; simp only [List.mem_cons, List.not_mem_nil, or_false] at hz; have := SK.out; rcases hz with rfl | rfl <;> (show ks.length ≤ 100000000; omega)) (by simp)
              have CAP := SldK.mk cAP
              have B3 : SldK (Below w.heap.size w W3) := ⟨T3.out.b⟩
              clear cAP PM
              go_wp2_with fail
              refine CAP.out.mono ?_
              rintro e wz ⟨rfl, hk⟩
              have BZ : SldK (Below w.heap.size w wz) := ⟨B3.out.trans hk⟩
              clear hk CAP
              go_wp2_with fail
              go_ret
              exact ⟨rfl, BZ.out⟩
end Go.Proofs.YtfdghbbanokopaaDoor
