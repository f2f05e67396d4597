/-
  EwNdW, EwEvW, PmQ.
-/
import Derived.Test.YtfdghbbanokopaaDoorChecked
import GoSem.PinnedTables
import GoSem.Claim
import GoSem.ClaimJoined
import GoSem.ClaimMapViews
import Derived.JoinedTies
import Derived.KernelRfl
import Derived.Shelf.Unicode.DecodeSlow
import Derived.Laws.RangeAny
import Derived.Shelf.Strconv.Itoa0
import Derived.Shelf.Unicode.DecodeAny
import Derived.Test.YtfdghbbanokopaaDoorProg
import Derived.WalkKit
import Derived.Deep.DeepFit
import Derived.Lib.OthersKept
import Derived.Lib.RuneCountTail
import Derived.Lib.LaidU8
import Derived.MakeChecks
import Derived.ProofKit
import Derived.OpenShut
import Derived.Deep.DeepHandedRow
import Derived.Deep.AppendLies
import Derived.Deep.OwnRows
import Derived.Laws.AppendOwnNone
import Derived.Deep.QuietTactic
import Derived.BigQuiet
import Derived.Deep.RegionWith
import Derived.Laws.DeepStrings4
import Derived.Deep.Slices
import Derived.SizedLaws
import Derived.RowKit
import Derived.Laws.Entries
import Derived.Below
import Derived.Lib.MapLaws
import Derived.Sort.Walk0
import Derived.Lib.ItoaNum
import Derived.Maps.OwnSet
import Derived.StringKeys
import Derived.Laws.ResultCell
import Derived.Deep.RegionHeld3
import Derived.RangeFuncNested
import Derived.RangeFuncBound
import Derived.RangeFuncCalls
import Derived.RangeFuncLeaves
import Derived.RangeFuncBox
import Derived.Shelf.Abstract
import Derived.Shelf.RegionOpen
import Derived.OwnWalkIn
import Derived.TacticsInMore
import Derived.LoopNIn
import Derived.LoopIn
import Derived.Lib.Strings
import Derived.Lib.QuietBelow
import Derived.StillTail
import Derived.Deep.RegionLaw
import Derived.RangeFuncOwn
import Derived.Test.YtfdghbbanokopaaDoorRows
import Derived.Test.YtfdghbbanokopaaDoorD01
import Derived.Test.YtfdghbbanokopaaDoorD02
import Derived.Test.YtfdghbbanokopaaDoorD03
import Derived.Test.YtfdghbbanokopaaDoorD04
import Derived.Test.YtfdghbbanokopaaDoorD05
import Derived.Test.YtfdghbbanokopaaDoorD06
import Derived.Test.YtfdghbbanokopaaDoorD07
import Derived.Test.YtfdghbbanokopaaDoorD08
import Derived.Test.YtfdghbbanokopaaDoorD09
import Derived.Test.YtfdghbbanokopaaDoorD10
import Derived.Test.YtfdghbbanokopaaDoorD11
import Derived.Test.YtfdghbbanokopaaDoorD12
import Derived.Test.YtfdghbbanokopaaDoorD13
import Derived.Test.YtfdghbbanokopaaDoorD14
import Derived.Test.YtfdghbbanokopaaDoorD15
import Derived.Test.YtfdghbbanokopaaDoorD16
import Derived.Test.YtfdghbbanokopaaDoorD17
set_option linter.unusedSimpArgs false
set_option linter.unusedVariables false
namespace Go.Proofs.YtfdghbbanokopaaDoor
open Go.RowKit Go.Lib Go.Sort

/-- What node leaves. -/
def NdP (w : World) (p : Nat) (ev : Value) (r : Option (List Int)) (e : Ending) (w' : World) : Prop :=
  (∃ er : Int, e = .returned (.int .i64 er) ∧ match r with | some st' => er = 0 ∧ ∃ v', Ew w' p ev v' st' | none => er ≠ 0) ∧ Below p w w'

set_option maxRecDepth 20000 in
set_option maxHeartbeats 2000000 in
theorem wnode_any (w : World) (p : Nat) (eo : Option Addr) (ec : Nat) (v : Value) (st : List Int) (bs : List Bd) (x : Nd) (ka : Option Addr) (kc : Nat) (hM : Ew w p (.slice eo bs.length ec) v st) (hlen : st.length ≤ 100000) (hb : Bds w eo ec bs) (hreach : bs.length * 24 ≤ 140737488355328) (hf : formB x = true) (hk : x.kids.length ≤ st.length) (hG : GrpCells w) :
    Calls Tryd.prog 77 #[.pointer (some ⟨p, 0, none⟩), .agg #[.int .i64 x.op, .int .i64 x.n, .string x.name, .slice ka x.kids.length kc] ] w (NdP w p (.slice eo bs.length ec) (evN bs st x)) := by
  have har := hf
  unfold formB fitB at har
  simp only [Bool.and_eq_true, decide_eq_true_eq] at har
  obtain ⟨⟨⟨h0, h1⟩, _⟩, _⟩ := har
  obtain ⟨op, n, nm, ks⟩ := x
  simp only at h0 h1 hk ⊢
  have hpl := hM.lt
  have hb1 : Below w.heap.size w (w.alloc (.cells #[.int .i64 op, .int .i64 n, .string nm, .slice ka ks.length kc] 50)) := (Below.refl _ _).alloc (Nat.le_refl _) _
  have HB1 : Hid (Below w.heap.size w (w.alloc (.cells #[.int .i64 op, .int .i64 n, .string nm, .slice ka ks.length kc] 50))) := hb1
  have HM1 : Hid (Ew (w.alloc (.cells #[.int .i64 op, .int .i64 n, .string nm, .slice ka ks.length kc] 50)) p (.slice eo bs.length ec) v st) := hM.below hb1
  have c0 := HM1.out.c0
  have e0 : (w.alloc (.cells #[.int .i64 op, .int .i64 n, .string nm, .slice ka ks.length kc] 50)).cell? ⟨w.heap.size, 0, none⟩ = some (.int .i64 op) := by simp
  have e1 : (w.alloc (.cells #[.int .i64 op, .int .i64 n, .string nm, .slice ka ks.length kc] 50)).cell? ⟨w.heap.size, 1, none⟩ = some (.int .i64 n) := by simp
  have e2 : (w.alloc (.cells #[.int .i64 op, .int .i64 n, .string nm, .slice ka ks.length kc] 50)).cell? ⟨w.heap.size, 2, none⟩ = some (.string nm) := by simp
  have e3 : (w.alloc (.cells #[.int .i64 op, .int .i64 n, .string nm, .slice ka ks.length kc] 50)).cell? ⟨w.heap.size, 3, none⟩ = some (.slice ka ks.length kc) := by simp
  have HBS : Hid (Bds w eo ec bs) := hb
  have HG : Hid (GrpCells w) := hG
  have HM0 : Hid (Ew w p (.slice eo bs.length ec) v st) := hM
  have HE : Hid (evN bs st ⟨op, n, nm, ks⟩ = if op = 1 then some (st ++ [n]) else if op = 2 then some (st ++ [getB bs nm]) else (apO op (st.drop (st.length - ks.length))).map fun v => st.take (st.length - ks.length) ++ [v]) := rfl
  clear hM hb hG hb1
  by_cases o1 : op = 1
  · subst o1
    rw [HE.out, if_pos rfl]
    clear HE h0 h1 hf c0 e2 e3
    go_enter Tryd.func77, Tryd.ntmps77
    go_wp2_with fail
    generalize w.alloc (.cells #[.int .i64 1, .int .i64 n, .string nm, .slice ka ks.length kc] 50) = W1 at *
    refine (wput_any W1 p _ v st n HM1.out hlen).mono ?_
    rintro e w2 ⟨rfl, ⟨v', hE⟩, hB⟩
    go_wp2_with fail
    go_ret
    exact ⟨⟨0, rfl, rfl, v', hE⟩, (HB1.out.mono (by omega)).trans hB⟩
  · by_cases o2 : op = 2
    · subst o2
      rw [HE.out, if_neg (by decide), if_pos rfl]
      have gt1 : ((2 : Int) == 1) = false := rfl
      clear HE h0 h1 hf e3
      go_enter Tryd.func77, Tryd.ntmps77
      go_wp2_with fail
      generalize w.alloc (.cells #[.int .i64 2, .int .i64 n, .string nm, .slice ka ks.length kc] 50) = W1 at *
      have g0 := cell_regrown c0
      have g2 := cell_regrown e2
      have cG : Hid (∀ d os, Calls Tryd.prog 104 #[.slice eo bs.length ec, .string nm] (grow (redrawn W1 d) os) fun e w'' => e = .returned (.int .i64 (getB bs nm)) ∧ ∃ p : Regrown, w'' = grow (redrawn W1 p.d) p.os) := fun d os => Calls.regrown_of (getE_any eo ec bs nm hreach _ ((HBS.out.below HB1.out).below (below_regrown W1 d os)))
      refine wp_region_quiet_then 8 (by kernel_rfl) (by kernel_rfl) ?_
      simp only [List.take_succ_cons, List.take_zero]
      iterate 8 (go_big_quiet_step ((go_at_call 104; exact cG.out _ _)))
      refine wpQuiet_nil ?_
      intro w' hw'
      obtain ⟨⟨dq, osq⟩, hw''⟩ := hw'
      subst hw''
      simp only [List.drop_succ_cons, List.drop_zero]
      have hb2 := below_regrown W1 dq osq
      have HM2 : Hid (Ew (grow (redrawn W1 dq) osq) p (.slice eo bs.length ec) v st) := HM1.out.below hb2
      have HB2 : Hid (Below w.heap.size w (grow (redrawn W1 dq) osq)) := HB1.out.trans (hb2.mono HB1.out.size)
      generalize grow (redrawn W1 dq) osq = w2 at *
      clear hb2 HM1 HB1 c0 e0 e1 e2 g0 g2 cG
      go_wp2_with fail
      refine (wput_any w2 p _ v st _ HM2.out hlen).mono ?_
      rintro e w3 ⟨rfl, ⟨v', hE⟩, hB⟩
      go_wp2_with fail
      go_ret
      exact ⟨⟨0, rfl, rfl, v', hE⟩, (HB2.out.mono (by omega)).trans hB⟩
    · rw [HE.out, if_neg o1, if_neg o2]
      have hk0 : 0 < ks.length := by
        unfold aritI at h0 h1
        rw [if_neg (by omega)] at h0 h1
        split at h1
        · omega
        · split at h1
          · omega
          · split at h1 <;> omega
      have g1 : (op == 1) = false := by simp [o1]
      have g2 : (op == 2) = false := by simp [o2]
      have cA : Hid (∀ V, Below w.heap.size w V → Calls Tryd.prog 105 #[.pointer (some ⟨p, 0, none⟩), .int .i64 op, .int .i64 ks.length] V fun e w' => e = .returned (.int .i64 (apR op (st.drop (st.length - ks.length))).2) ∧ (∃ v', Ew w' p (.slice eo bs.length ec) v' (st.take (st.length - ks.length) ++ [(apR op (st.drop (st.length - ks.length))).1])) ∧ Below p V w') := fun V hV => wapply_any V p _ v st op ks.length (HM0.out.below hV) hlen hk0 hk (HG.out.below hV)
      unfold apO
      generalize apR op (st.drop (st.length - ks.length)) = R at *
      obtain ⟨r, er⟩ := R
      simp only at cA ⊢
      obtain ⟨Z, hZ⟩ : ∃ Z, Option.map (fun v => st.take (st.length - ks.length) ++ [v]) (if er = 0 then some r else none) = Z := ⟨_, rfl⟩
      rw [hZ]
      have HZ : Hid (Option.map (fun v => st.take (st.length - ks.length) ++ [v]) (if er = 0 then some r else none) = Z) := hZ
      clear hZ
      clear HE h0 h1 hf e1 e2 c0 o1 o2 HM1 HM0
      go_enter Tryd.func77, Tryd.ntmps77
      go_wp2_with fail
      refine (cA.out _ HB1.out).mono ?_
      rintro e w2 ⟨rfl, ⟨v', hE⟩, hB⟩
      have HE2 : Hid (∃ v', Ew w2 p (.slice eo bs.length ec) v' (st.take (st.length - ks.length) ++ [r])) := ⟨v', hE⟩
      have HB2 : Hid (Below p w w2) := (HB1.out.mono (by omega)).trans hB
      clear hE hB
      go_wp2_with fail
      go_ret
      refine ⟨⟨er, rfl, ?_⟩, HB2.out⟩
      rw [← HZ.out]
      by_cases her : er = 0
      · rw [if_pos her]; exact ⟨her, HE2.out⟩
      · rw [if_neg her]; exact her

/-- What nodes leaves. -/
def NsP (w : World) (p : Nat) (ev : Value) (bs : List Bd) (l : List Nd) (e : Ending) (w' : World) : Prop :=
  ∃ (k : Nat) (st : List Int), e = .returned (.int .i64 k) ∧ k ≤ l.length ∧ evS bs l k = some st ∧ ((k = l.length ∧ ∃ v', Ew w' p ev v' st) ∨ (k < l.length ∧ evN bs st (l.getD k nd0) = none)) ∧ Below p w w'

set_option maxRecDepth 20000 in
set_option maxHeartbeats 2000000 in
theorem wnodes_any (w : World) (p : Nat) (eo : Option Addr) (ec : Nat) (v : Value) (bs : List Bd) (ao : Option Addr) (cap : Nat) (l : List Nd) (fr : List Nat) (hM : Ew w p (.slice eo bs.length ec) v []) (hb : ∀ W, Below p w W → Bds W eo ec bs) (hreach : bs.length * 24 ≤ 140737488355328) (hl : ∀ W, Below p w W → Nodes W p (.slice ao l.length cap) l) (h : begL l = some fr) (hG : ∀ W, Below p w W → GrpCells W) :
    Calls Tryd.prog 53 #[.pointer (some ⟨p, 0, none⟩), .slice ao l.length cap] w (NsP w p (.slice eo bs.length ec) bs l) := by
  have h64 := (begL_some h).2.1
  have hl0 := (begL_some h).1
  have HO : Hid (BegOk l fr) := begOk_of (begL_some h).2.2.1
  have HNL : Hid (∀ W, Below p w W → Nodes W p (.slice ao l.length cap) l) := hl
  have HBS : Hid (∀ W, Below p w W → Bds W eo ec bs) := hb
  have HG : Hid (∀ W, Below p w W → GrpCells W) := hG
  have HM : Hid (Ew w p (.slice eo bs.length ec) v []) := hM
  have hpl := hM.lt
  clear hM hb hl hG h
  go_enter Tryd.func53, Tryd.ntmps53
  go_wp2_with fail
  go_loopw [9] (fun i wr => ∃ (k : Nat) (st : List Int) (v' : Value), k ≤ l.length ∧ i = .int .i64 k ∧ evS bs l k = some st ∧ Ew wr p (.slice eo bs.length ec) v' st ∧ Below p w wr) (fun i _ => l.length - (RowKit.intOf i).toNat)
  case atStart => exact ⟨0, [], v, by omega, rfl, rfl, HM.out, Below.refl _ _⟩
  case round =>
    obtain ⟨k, st, v', hk, rfl, hs, hE, hB⟩ := hrel
    have HS : Hid (evS bs l k = some st) := hs
    have HE : Hid (Ew wr p (.slice eo bs.length ec) v' st) := hE
    have HB : Hid (Below p w wr) := hB
    by_cases hlt : k < l.length
    · have hRr := HNL.out wr hB
      obtain ⟨ao', cap', h1, hl, hm, hc⟩ := hRr
      cases h1
      unfold maxLen at hm
      obtain ⟨b, o, rfl, hb, hc⟩ : ∃ b o, ao = some ⟨b, o, none⟩ ∧ b < p ∧ ∀ i, i < l.length → ∃ kv, NodeAt wr p b (o + i * 4) (l.getD i nd0) kv := by
        rcases hc with h | h
        · subst h; simp at hlt
        · exact h
      obtain ⟨kv, hn⟩ := hc k hlt
      have hst := evS_len k st hs
      have hkid := evS_kids HO.out k hlt st hs
      have hform := (HO.out.at_ k hlt).1
      clear hc hs hE hB
      obtain ⟨c0, c1, c2, c3, hI⟩ := hn
      obtain ⟨ka, kc, rfl, _⟩ := id hI
      clear hI
      have hpr := HE.out.lt
      have HEV : Hid (evS bs l (k + 1) = (evS bs l k).bind fun st => evN bs st (l.getD k nd0)) := rfl
      have cN : Hid (∀ V, Below wr.heap.size wr V → Calls Tryd.prog 77 #[.pointer (some ⟨p, 0, none⟩), .agg #[.int .i64 (l.getD k nd0).op, .int .i64 (l.getD k nd0).n, .string (l.getD k nd0).name, .slice ka (l.getD k nd0).kids.length kc] ] V (NdP V p (.slice eo bs.length ec) (evN bs st (l.getD k nd0)))) := fun V hV => by
        have hBV : Below p w V := HB.out.trans (hV.mono (by omega))
        exact wnode_any V p eo ec v' st bs (l.getD k nd0) ka kc (HE.out.below hV) (by omega) (HBS.out V hBV) hreach hform hkid (HG.out V hBV)
      have hbne : b ≠ wr.heap.size := by omega
      generalize hx : l.getD k nd0 = x at *
      have HX : Hid (l.getD k nd0 = x) := hx
      clear hx
      obtain ⟨op, n, nm, kids⟩ := x
      simp only at c0 c1 c2 c3 cN
      have hlt' : (k : Int) < (l.length : Int) := by omega
      clear hform hkid
      go_wp2_with fail
      refine (cN.out _ ((Below.refl _ _).alloc (Nat.le_refl _) _)).mono ?_
      rintro e w3 ⟨⟨er, rfl, hr⟩, hb3⟩
      have HB3 : Hid (Below p w w3) := HB.out.trans ((((Below.refl wr.heap.size wr).alloc (Nat.le_refl _) _).mono (by omega)).trans hb3)
      have hr' := hr
      cases hv : evN bs st ⟨op, n, nm, kids⟩ with
      | some st' =>
        rw [hv] at hr
        obtain ⟨rfl, v3, hE3⟩ := hr
        have HE3 : Hid (Ew w3 p (.slice eo bs.length ec) v3 st') := hE3
        have HS3 : Hid (evS bs l (k + 1) = some st') := by rw [Hid, HEV.out, HS.out, Option.bind_some, hv]
        clear hr' hE3 hb3 hv HEV cN
        go_wp2_with fail
        exact ⟨⟨k + 1, st', v3, by omega, by go_num, HS3.out, HE3.out, HB3.out⟩, by simp [RowKit.intOf]; omega⟩
      | none =>
        rw [hv] at hr
        have hr2 : er ≠ 0 := hr
        have ge : (er != 0) = true := by simp [hr2]
        have HV : Hid (evN bs st ⟨op, n, nm, kids⟩ = none) := hv
        clear hr' hr hr2 hb3 hv HEV cN
        go_wp2_with fail
        go_ret
        exact ⟨k, st, rfl, by omega, HS.out, .inr ⟨hlt, by rw [HX.out]; exact HV.out⟩, HB3.out⟩
    · have hke : k = l.length := by omega
      subst hke
      go_wp2_with fail
      go_ret
      exact ⟨l.length, st, rfl, by omega, HS.out, .inl ⟨rfl, v', HE.out⟩, HB.out⟩
end Go.Proofs.YtfdghbbanokopaaDoor

set_option linter.unusedSimpArgs false
set_option linter.unusedVariables false
namespace Go.Proofs.YtfdghbbanokopaaDoor
open Go.RowKit Go.Lib

theorem Ew.fresh (w : World) (ev : Value) : Ew (w.alloc (.cells #[ev, .slice none 0 0] 84)) w.heap.size ev (.slice none 0 0) [] :=
  ⟨Deep.blk_alloc_new _ _, World.ownsRow_nil _ _ _ _⟩

theorem sndW_none {l : List Nd} (h : begL l = none) : sndB l = false := by unfold sndB; rw [h]; rfl
theorem sndW_some {l : List Nd} {fr : List Nat} (h : begL l = some fr) : sndB l = true := by unfold sndB; rw [h]; rfl

/-- What eval's calls find. -/
structure EvIn (w : World) (ao : Option Addr) (cap : Nat) (l : List Nd) (eo : Option Addr) (ec : Nat) (bs : List Bd) : Prop where
  T : SpanCells w
  G : GrpCells w
  R : Rd w ao cap l
  B : Bds w eo ec bs
  reach : bs.length * 24 ≤ 140737488355328
theorem EvIn.below {w w' : World} {ao : Option Addr} {cap : Nat} {l : List Nd} {eo : Option Addr} {ec : Nat} {bs : List Bd} (h : EvIn w ao cap l eo ec bs) (hb : Below w.heap.size w w') : EvIn w' ao cap l eo ec bs :=
  ⟨h.T.below hb, h.G.below hb, h.R.below hb hb.size, h.B.below hb, h.reach⟩

/-- nodes, of a fresh work. -/
theorem wnodes_new {w : World} {ao : Option Addr} {cap : Nat} {l : List Nd} {eo : Option Addr} {ec : Nat} {bs : List Bd} {fr : List Nat} (h : EvIn w ao cap l eo ec bs) (hb : begL l = some fr) :
    Calls Tryd.prog 53 #[.pointer (some ⟨w.heap.size, 0, none⟩), .slice ao l.length cap] (w.alloc (.cells #[.slice eo bs.length ec, .slice none 0 0] 84)) fun e w' =>
      ∃ v' g0 gc, e = .returned (.int .i64 (okN bs l l.length)) ∧ Below w.heap.size w w' ∧ (okN bs l l.length = l.length → v' = .slice (some ⟨g0, 0, none⟩) 1 gc ∧ w'.cell? ⟨w.heap.size, 1, none⟩ = some v' ∧ w'.cell? ⟨g0, 0, none⟩ = some (.int .i64 ((vA bs l (l.length - 1)).getD 0))) := by
  have hb1 : Below w.heap.size w (w.alloc (.cells #[.slice eo bs.length ec, .slice none 0 0] 84)) := (Below.refl _ _).alloc (Nat.le_refl _) _
  refine (wnodes_any _ w.heap.size eo ec (.slice none 0 0) bs ao cap l fr (Ew.fresh w _) (fun W hW => h.B.below (hb1.trans hW)) h.reach (fun W hW => Nodes.below h.R (hb1.trans hW) (Nat.le_refl _)) hb (fun W hW => h.G.below (hb1.trans hW))).mono ?_
  rintro e w' ⟨k, st, rfl, hk, hs, he, hB⟩
  have hbo := begOk_of (begL_some hb).2.2.1
  have hk2 := okN_end hbo k st hk hs (by rcases he with ⟨h1, _⟩ | h1; exact .inl h1; exact .inr h1)
  have hbl := hb1.trans hB
  by_cases hall : k = l.length
  · rcases he with ⟨_, v', hE⟩ | ⟨h1, _⟩
    · have hend := (snd_end (bs := bs) hb).2 (by omega)
      rw [← hall, hs] at hend
      have hst := Option.some.inj hend
      subst hst
      have hon := hE.on
      obtain ⟨g0, gc, rfl⟩ : ∃ g0 gc, v' = .slice (some ⟨g0, 0, none⟩) 1 gc := by
        rcases hon.2 with ⟨_, h0⟩ | ⟨g', cap', cur, rfl, _⟩
        · simp at h0
        · exact ⟨_, _, rfl⟩
      refine ⟨_, g0, gc, by rw [hk2], hbl, fun _ => ⟨rfl, hE.c1, ?_⟩⟩
      have := hon.cells (g := g0) rfl 0 _ (by simp; rfl)
      have e0 : (⟨g0, 0, none⟩ : Addr).add 0 = ⟨g0, 0, none⟩ := rfl
      rw [e0] at this
      rw [← hall]
      exact this
    · omega
  · exact ⟨.nilIface, 0, 0, by rw [hk2], hbl, fun h => by omega⟩

set_option maxRecDepth 20000 in
set_option maxHeartbeats 1000000 in
theorem eval_any {w : World} {ao : Option Addr} {cap : Nat} {l : List Nd} {eo : Option Addr} {ec : Nat} {bs : List Bd} (h : EvIn w ao cap l eo ec bs) :
    Calls Tryd.prog 22 #[.slice ao l.length cap, .slice eo bs.length ec] w fun e w' => e = .returned (.tuple #[.int .i64 (evA bs l).1, .int .i64 (evA bs l).2]) ∧ Below w.heap.size w w' := by
  cases hb : begL l with
  | none =>
    have hE : evA bs l = (0, 1) := by unfold evA; rw [sndW_none hb]; rfl
    rw [hE]
    have HH : Hid (EvIn w ao cap l eo ec bs) := h
    clear h hE
    go_enter Tryd.func22, Tryd.ntmps22
    go_wp2_with fail
    refine (check_none _ l _ _ (Nat.le_refl _) HH.out.T HH.out.R hb).mono ?_
    rintro e w2 ⟨rfl, hb2⟩
    go_wp2_with fail
    go_ret2
    exact ⟨rfl, hb2⟩
  | some fr =>
    have hE : evA bs l = match vA bs l (l.length - 1) with | some v => (v, 0) | none => (0, 12) := by unfold evA; rw [sndW_some hb]; rfl
    rw [hE]
    have h64 := (begL_some hb).2.1
    have hend := (snd_end (bs := bs) hb).1
    have hle := okN_le bs l l.length
    have HN : Hid (∀ V, Below w.heap.size w V → Calls Tryd.prog 53 #[.pointer (some ⟨V.heap.size, 0, none⟩), .slice ao l.length cap] (V.alloc (.cells #[.slice eo bs.length ec, .slice none 0 0] 84)) fun e w' =>
      ∃ v' g0 gc, e = .returned (.int .i64 (okN bs l l.length)) ∧ Below V.heap.size V w' ∧ (okN bs l l.length = l.length → v' = .slice (some ⟨g0, 0, none⟩) 1 gc ∧ w'.cell? ⟨V.heap.size, 1, none⟩ = some v' ∧ w'.cell? ⟨g0, 0, none⟩ = some (.int .i64 ((vA bs l (l.length - 1)).getD 0)))) := fun V hV => wnodes_new (h.below hV) hb
    have HH : Hid (EvIn w ao cap l eo ec bs) := h
    have HBG : Hid (begL l = some fr) := hb
    clear h hE hb
    generalize okN bs l l.length = K at *
    generalize vA bs l (l.length - 1) = V0 at *
    cases V0 with
    | none =>
      have hK : K < l.length := by
        rcases Nat.lt_or_ge K l.length with h | h
        · exact h
        · exact absurd rfl (hend.1 (by omega))
      have hKI : (K : Int) < (l.length : Int) := by omega
      clear hend
      go_enter Tryd.func22, Tryd.ntmps22
      go_wp2_with fail
      refine (check_some _ l fr _ _ (Nat.le_refl _) HH.out.T HH.out.R HBG.out).mono ?_
      rintro e w2 ⟨rfl, hb2⟩
      have HB2 : Hid (Below w.heap.size w w2) := hb2
      clear hb2
      go_wp2_with fail
      refine (HN.out w2 HB2.out).mono ?_
      rintro e w3 ⟨v', g0, gc, rfl, hb3, _⟩
      have HB3 : Hid (Below w.heap.size w w3) := HB2.out.trans (hb3.mono HB2.out.size)
      clear hb3
      go_wp2_with fail
      go_ret2
      exact ⟨rfl, HB3.out⟩
    | some v =>
      have hK : K = l.length := hend.2 (by simp)
      subst hK
      clear hend
      go_enter Tryd.func22, Tryd.ntmps22
      go_wp2_with fail
      refine (check_some _ l fr _ _ (Nat.le_refl _) HH.out.T HH.out.R HBG.out).mono ?_
      rintro e w2 ⟨rfl, hb2⟩
      have HB2 : Hid (Below w.heap.size w w2) := hb2
      clear hb2
      go_wp2_with fail
      refine (HN.out w2 HB2.out).mono ?_
      rintro e w3 ⟨v', g0, gc, rfl, hb3, hc⟩
      obtain ⟨rfl, q1, q2⟩ := hc (by first | rfl | trivial)
      rw [Option.getD_some] at q2
      have HB3 : Hid (Below w.heap.size w w3) := HB2.out.trans (hb3.mono HB2.out.size)
      clear hb3 hc HN
      go_wp2_with fail
      go_ret2
      exact ⟨rfl, HB3.out⟩

end Go.Proofs.YtfdghbbanokopaaDoor

set_option linter.unusedSimpArgs false
set_option linter.unusedVariables false
namespace Go.Proofs.YtfdghbbanokopaaDoor
open Go.RowKit Go.Lib

theorem getN_leftM (l m : List Bd) (nm : ByteArray) : ∀ k, k ≤ l.length → getN (l ++ m) nm k = getN l nm k
  | 0, _ => rfl
  | k + 1, h => by
    unfold getN
    have e : (l ++ m).getD k bd0 = l.getD k bd0 := by simp [List.getElem?_append_left (show k < l.length by omega)]
    rw [e, getN_leftM l m nm k (by omega)]
theorem getB_snocM (l : List Bd) (x : Bd) (nm : ByteArray) : getB (l ++ [x]) nm = if x.1 = nm then x.2 else getB l nm := by
  unfold getB
  rw [List.length_append, List.length_cons, List.length_nil]
  show (if ((l ++ [x]).getD l.length bd0).1 = nm then _ else _) = _
  have e : (l ++ [x]).getD l.length bd0 = x := by simp
  rw [e, getN_leftM l [x] nm l.length (Nat.le_refl _)]

def ownL (bs : List Bd) (ks : List ByteArray) (vs : Nat → Int) (k : Nat) : List Bd := bs ++ (List.range k).map fun i => (ks.getD i ⟨#[]⟩, vs i)
theorem ownL_zero (bs : List Bd) (ks : List ByteArray) (vs : Nat → Int) : ownL bs ks vs 0 = bs := by simp [ownL]
theorem ownL_succ (bs : List Bd) (ks : List ByteArray) (vs : Nat → Int) (k : Nat) : ownL bs ks vs (k + 1) = ownL bs ks vs k ++ [(ks.getD k ⟨#[]⟩, vs k)] := by
  unfold ownL; rw [List.range_succ, List.map_append, List.append_assoc]; rfl
theorem ownL_len (bs : List Bd) (ks : List ByteArray) (vs : Nat → Int) (k : Nat) : (ownL bs ks vs k).length = bs.length + k := by simp [ownL]
theorem ownL_in {bs : List Bd} {ks : List ByteArray} {vs : Nat → Int} (hd : ks.Nodup) : ∀ k, k ≤ ks.length → ∀ i, i < k → getB (ownL bs ks vs k) (ks.getD i ⟨#[]⟩) = vs i
  | 0, _, i, h => by omega
  | k + 1, hk, i, hi => by
    rw [ownL_succ, getB_snocM]
    simp only
    by_cases e : ks.getD k ⟨#[]⟩ = ks.getD i ⟨#[]⟩
    · rw [if_pos e]
      have hk' : k < ks.length := by omega
      have hi' : i < ks.length := by omega
      have e2 : ks[k] = ks[i] := by simpa [hk', hi'] using e
      have e3 := numL_get ks k hk' hd
      rw [e2, numL_get ks i hi' hd] at e3
      have : k = i := e3.symm
      rw [this]
    · rw [if_neg e]
      have : i ≠ k := by rintro rfl; exact e rfl
      exact ownL_in hd k (by omega) i (by omega)
theorem ownL_out {bs : List Bd} {ks : List ByteArray} {vs : Nat → Int} {s : ByteArray} (h : s ∉ ks) : ∀ k, k ≤ ks.length → getB (ownL bs ks vs k) s = getB bs s
  | 0, _ => by rw [ownL_zero]
  | k + 1, hk => by
    rw [ownL_succ, getB_snocM]
    simp only
    rw [if_neg (fun e => h (by
      rw [← e]
      have hk' : k < ks.length := by omega
      exact getD_mem hk'))]
    exact ownL_out h k (by omega)
theorem patB_hlsM {l : List Nd} (h : patB l = true) : (hlsL l).length ≤ 6 := by
  unfold patB at h
  simp only [Bool.and_eq_true, decide_eq_true_eq] at h
  exact h.1.2
theorem hls_nodup (l : List Nd) : (hlsL l).Nodup := foldl_nodup l [] List.nodup_nil
/-- What the statement asks, plainly. -/
theorem means_ok {bs : List Bd} {l X : List Nd} {ps : List (List Nd)} (hok : FlOk l ps) (hX : sndB X = true) (he : hds X = flH ps (hlsL l) l) (hv : ∀ k, k < ps.length → (evA bs (ps.getD k [])).2 = 0) (hn : ∀ x ∈ l, x.op = 2 → x.name ∉ hlsL l) :
    evA (ownL bs (hlsL l) (fun i => (evA bs (ps.getD i [])).1) (hlsL l).length) (l.map fillN) = evA bs X :=
  fl_means hok hX he (fun k hk => by
    rw [ownL_in (hls_nodup l) _ (Nat.le_refl _) k (by rw [← hok.len]; exact hk), ← hv k hk]) (fun x hx ho => ownL_out (hn x hx ho) _ (Nat.le_refl _))

theorem PcMid.next {w : World} {l : List Nd} {v : Value} {k : Nat} {wr w' : World} (h : PcMid w l v k wr) (hb : Below wr.heap.size wr w') : PcMid w l v k w' := by
  obtain ⟨⟨p, hp, hc⟩, hB⟩ := h
  exact ⟨⟨p, hp, hc.below hb⟩, hB.trans (hb.mono hB.size)⟩
theorem PcMid.nm {w : World} {l : List Nd} {g cap : Nat} {k : Nat} {wr : World} (h : PcMid w l (.slice (some ⟨g, 0, none⟩) l.length cap) k wr) (hk : k < l.length) : wr.cell? ⟨g, k * 4 + 2, none⟩ = some (.string (l.getD k nd0).name) := by
  obtain ⟨⟨p, hp, hc⟩, hb⟩ := h
  have hpl : p.length = l.length := by have := congrArg List.length hp; simp at this; omega
  rcases hc.row.2 with ⟨e, h0⟩ | ⟨g', cap', cur, e, hg0, hg, h1, h2, h3, h4⟩
  · omega
  · simp only [Value.slice.injEq, Option.some.injEq, Addr.mk.injEq] at e
    obtain ⟨⟨rfl, _⟩, _, rfl⟩ := e
    have hp2 : p[k]? = some (p[k].1, p[k].2) := by simp [hpl, hk]
    have := (ndCells_at p k _ _ hp2).2.2.1
    have hx : ((l.take k).map fillN ++ l.drop k)[k]? = some l[k] := by
      rw [List.getElem?_append_right (by simp; omega)]
      have : k - ((l.take k).map fillN).length = 0 := by simp; omega
      rw [this]; simp [hk]
    have hkp : k < p.length := by omega
    have e : p[k].1 = l.getD k nd0 := by
      have h5 : (p.map (·.1))[k]? = some l[k] := by rw [hp]; exact hx
      simp [hkp] at h5
      simp [hk, h5]
    rw [cell_of_heap hg, ← Array.getElem?_toList, ← e, ← this, ← h4, List.getElem?_take, if_pos (by omega)]
/-- What the statement was handed stands. -/
structure StdM (w : World) (a0 a1 a2 : Option Addr) (c0 c1 c2 : Nat) (l : List Nd) (ps : List (List Nd)) (bs : List Bd) (W : World) : Prop where
  below : Below w.heap.size w W
  span : SpanCells W
  grp : GrpCells W
  rl : Rd W a0 c0 l
  rp : RdP W a1 c1 ps
  rb : Bds W a2 c2 bs
theorem StdM.next {w W W' : World} {a0 a1 a2 : Option Addr} {c0 c1 c2 : Nat} {l : List Nd} {ps : List (List Nd)} {bs : List Bd} (h : StdM w a0 a1 a2 c0 c1 c2 l ps bs W) (hb : Below W.heap.size W W') : StdM w a0 a1 a2 c0 c1 c2 l ps bs W' :=
  ⟨h.below.trans (hb.mono h.below.size), h.span.below hb, h.grp.below hb, h.rl.below hb hb.size, h.rp.below hb, h.rb.below hb⟩
theorem app_own {W wN : World} {v' : Value} {bs : List Bd} (hown : wN.ownsRow W.heap.size 52 2 v' (0 + bs.length) ([] ++ bdCells bs)) (hg : (W.alloc (.cells #[] 52)).grownBy wN (some W.heap.size)) : OwnB wN W.heap.size v' bs ∧ Below W.heap.size W wN := by
  refine ⟨?_, ((Below.refl W.heap.size W).alloc (Nat.le_refl _) _).grown hg (by simp) (fun k hk => by cases hk; exact Nat.le_refl _)⟩
  show World.ownsRow _ _ _ _ _ _ _
  simpa using hown
theorem cell_news2m (w : World) (a b : Value) (t : TypeId) : ∀ j u, [a, b][j]? = some u → (w.alloc (.cells #[a, b] t)).cell? ((⟨w.heap.size, 0, none⟩ : Addr).add j) = some u := by
  intro j u h
  have e : (⟨w.heap.size, 0, none⟩ : Addr).add j = ⟨w.heap.size, j, none⟩ := by simp [Go.WideShapes.add_plain]
  rw [e]
  match j, h with
  | 0, h => simpa using h
  | 1, h => simpa using h
  | j + 2, h => simp at h
end Go.Proofs.YtfdghbbanokopaaDoor
