/-
  EtP, EtW.
-/
import Derived.Shelf.Unicode.DecodeSlow
import Derived.Laws.RangeAny
import Derived.Shelf.Strings.Builder1
import Derived.Shelf.Small.Utf8
import Derived.Shelf.Strings.BuilderF
import Derived.Shelf.Strings.BuilderK
import Derived.Shelf.Strings.BuilderRune
import Derived.Shelf.Utf8.AppendRune
import Derived.Shelf.Strconv.Itoa0
import Derived.Shelf.Strconv.Itoa1
import Derived.Shelf.LaysM
import Derived.Shelf.Strconv.Itoa2
import Derived.Shelf.Strconv.Itoa3
import Derived.Shelf.Strconv.Itoa4
import Derived.Shelf.Strings.Prefix
import Derived.Shelf.Unicode.DecodeAny
import Derived.Test.YtljigfiokekpoaaGreatDoorProg
import Derived.WalkKit
import Derived.Deep.DeepFit
import Derived.Lib.OthersKept
import Derived.Lib.RuneCountTail
import Derived.RowKit
import Derived.Laws.Entries
import Derived.Below
import Derived.Deep.AppendLies
import Derived.Deep.OwnRows
import Derived.Laws.AppendOwnNone
import Derived.Deep.QuietTactic
import Derived.BigQuiet
import Derived.Deep.RegionWith
import Derived.Laws.DeepStrings4
import Derived.Lib.QuietBelow
import Derived.StillTail
import Derived.Test.YtljigfiokekpoaaGreatDoorChecked
import Derived.Defers
import Derived.RangeFuncNested
import Derived.RangeFuncBound
import Derived.RangeFuncCalls
import Derived.RangeFuncLeaves
import Derived.RangeFuncBox
import Derived.Shelf.Abstract
import Derived.Shelf.RegionOpen
import Derived.OwnWalkIn
import Derived.TacticsInMore
import Derived.LoopNIn
import Derived.LoopIn
import Derived.Lib.Strings
import Derived.Deep.RegionLaw
import Derived.RangeFuncOwn
import Derived.Test.YtljigfiokekpoaaGreatDoorZ01
import Derived.Test.YtljigfiokekpoaaGreatDoorZ02
import Derived.Test.YtljigfiokekpoaaGreatDoorZ03
import Derived.Test.YtljigfiokekpoaaGreatDoorZ04
import Derived.Test.YtljigfiokekpoaaGreatDoorZ05
import Derived.Test.YtljigfiokekpoaaGreatDoorZ06
import Derived.Test.YtljigfiokekpoaaGreatDoorZ07
import Derived.Test.YtljigfiokekpoaaGreatDoorZ08
import Derived.Test.YtljigfiokekpoaaGreatDoorZ09
import Derived.Test.YtljigfiokekpoaaGreatDoorZ14
import Derived.Test.YtljigfiokekpoaaGreatDoorZ16
import Derived.Test.YtljigfiokekpoaaGreatDoorZ17
import Derived.Test.YtljigfiokekpoaaGreatDoorZ18
import Derived.Test.YtljigfiokekpoaaGreatDoorZ23
import Derived.Test.YtljigfiokekpoaaGreatDoorZ24
import Derived.Test.YtljigfiokekpoaaGreatDoorZ25
set_option linter.unusedSimpArgs false
set_option linter.unusedVariables false
namespace Go.Proofs.YtljigfiokekpoaaGreatDoor

/-- What of a node counts on the way. -/
def shp (x : Nd) : Int × Int × ByteArray × Nat := (x.op, x.n, x.name, x.kids.length)
def shT (t : Tm) : Int × Int × ByteArray × Nat := (opT t, nT t, nameT t, (partsT t).length)
theorem shp_mv (f b : Int) (l : List Nd) : (l.map (mvN f b)).map shp = l.map shp := by
  rw [List.map_map]
  refine List.map_congr_left fun x _ => ?_
  simp [shp, mvN]
theorem shp_acc (ps : List (List Nd)) : (accS ps).1.map shp = (ps.map (List.map shp)).flatten := by
  have key : ∀ (qs rs : List (List Nd)), (accS rs).1.map shp = (rs.map (List.map shp)).flatten → (accS (rs ++ qs)).1.map shp = ((rs ++ qs).map (List.map shp)).flatten := by
    intro qs
    induction qs with
    | nil => intro rs h; simpa using h
    | cons q qs ih =>
      intro rs h
      have e : rs ++ q :: qs = (rs ++ [q]) ++ qs := by simp
      rw [e]
      refine ih _ ?_
      rw [accS_snoc]
      simp only [List.map_append, h, shp_mv, List.map_cons, List.map_nil, List.flatten_append, List.flatten_cons, List.flatten_nil, List.append_nil]
  have := key ps [] rfl
  simpa using this
theorem shp_join (op n : Int) (nm : ByteArray) (ps : List (List Nd)) : (joinL op n nm ps).map shp = (ps.map (List.map shp)).flatten ++ [(op, n, nm, ps.length)] := by
  unfold joinL
  rw [List.map_append, shp_acc]
  simp [shp, accS_len2]
theorem shp_flat (t : Tm) : (flatT t).map shp = (subsT t).map shT := by
  induction t with
  | nil => simp [flatT, shp_join, subsT, shT, opT, nT, nameT, partsT]
  | lit n => simp [flatT, shp_join, subsT, shT, opT, nT, nameT, partsT]
  | var s => simp [flatT, shp_join, subsT, shT, opT, nT, nameT, partsT]
  | un op a iha => simp [flatT, shp_join, subsT, shT, opT, nT, nameT, partsT, iha]
  | bin op a b iha ihb => simp [flatT, shp_join, subsT, shT, opT, nT, nameT, partsT, iha, ihb]
  | ifs c a b ihc iha ihb => simp [flatT, shp_join, subsT, shT, opT, nT, nameT, partsT, ihc, iha, ihb]
  | other u x => simp [flatT, shp_join, subsT, shT, opT, nT, nameT, partsT]
theorem subW_len (t : Tm) : (subsT t).length = (flatT t).length := by
  have := congrArg List.length (shp_flat t)
  simpa using this.symm
theorem shp_at (t : Tm) (i : Nat) (hi : i < (flatT t).length) : shp ((flatT t).getD i nd0) = shT ((subsT t).getD i .nil) := by
  have h := congrArg (fun l => l[i]?) (shp_flat t)
  have hs : i < (subsT t).length := by rw [subW_len]; exact hi
  simp only [List.getElem?_map, List.getElem?_eq_getElem hi, List.getElem?_eq_getElem hs, Option.map_some, Option.some.injEq] at h
  simpa [hi, hs] using h

theorem evN_shp {bs : List Bd} {st : List Int} {x y : Nd} (h : shp x = shp y) : evN bs st x = evN bs st y := by
  unfold shp at h
  obtain ⟨h1, h2, h3, h4⟩ : x.op = y.op ∧ x.n = y.n ∧ x.name = y.name ∧ x.kids.length = y.kids.length := by simpa using h
  unfold evN
  rw [h1, h2, h3, h4]
/-- A term put onto the numbers. -/
def evM (bs : List Bd) (st : List Int) (t : Tm) : Option (List Int) := evN bs st ⟨opT t, nT t, nameT t, List.replicate (partsT t).length 0⟩
theorem evM_eq {bs : List Bd} {st : List Int} {x : Nd} {t : Tm} (h : shp x = shT t) : evM bs st t = evN bs st x := by
  unfold evM
  refine evN_shp ?_
  rw [h]
  simp [shp, shT]
/-- The numbers behind these terms. -/
def evQ (bs : List Bd) (ts : List Tm) : Option (List Int) := ts.foldl (fun o t => o.bind fun st => evM bs st t) (some [])
theorem evQ_snoc (bs : List Bd) (ts : List Tm) (t : Tm) : evQ bs (ts ++ [t]) = (evQ bs ts).bind fun st => evM bs st t := by
  unfold evQ; rw [List.foldl_append]; rfl
theorem evQ_take (bs : List Bd) (t : Tm) : ∀ k, k ≤ (flatT t).length → evQ bs ((subsT t).take k) = evS bs (flatT t) k := by
  intro k
  induction k with
  | zero => intro _; rfl
  | succ k ih =>
    intro hk
    have hs : k < (subsT t).length := by rw [subW_len]; omega
    rw [List.take_succ_eq_append_getElem hs, evQ_snoc, ih (by omega)]
    show _ = (evS bs (flatT t) k).bind _
    congr 1
    funext st
    have e : (subsT t)[k] = (subsT t).getD k .nil := by simp [hs]
    rw [e]
    exact evM_eq (shp_at t k (by omega))
/-- A term within a sound one is of one of the five kinds, and has its operator. -/
theorem sub_form {t : Tm} {fr : List Nat} (hb : begL (flatT t) = some fr) (i : Nat) (hi : i < (flatT t).length) : fitB (opT ((subsT t).getD i .nil)) (nT ((subsT t).getD i .nil)) (nameT ((subsT t).getD i .nil)) ((partsT ((subsT t).getD i .nil)).length : Nat) = true := by
  have hf := ((begOk_of (begL_some hb).2.2.1).at_ i hi).1
  have h := shp_at t i hi
  unfold shp shT at h
  obtain ⟨h1, h2, h3, h4⟩ : ((flatT t).getD i nd0).op = opT ((subsT t).getD i .nil) ∧ ((flatT t).getD i nd0).n = nT ((subsT t).getD i .nil) ∧ ((flatT t).getD i nd0).name = nameT ((subsT t).getD i .nil) ∧ ((flatT t).getD i nd0).kids.length = (partsT ((subsT t).getD i .nil)).length := by
    injection h with a b
    injection b with b c
    injection c with c d
    exact ⟨a, b, c, d⟩
  unfold formB at hf
  rw [h1, h2, h3, h4] at hf
  exact hf
/-- What Term answers. -/
theorem term_all {bs : List Bd} {t : Tm} {fr : List Nat} (hb : begL (flatT t) = some fr) {st : List Int} (h : evQ bs (subsT t) = some st) : evA bs (flatT t) = (st.getD 0 0, 0) ∧ st.length = 1 := by
  have e := evQ_take bs t (flatT t).length (Nat.le_refl _)
  rw [← subW_len, List.take_length, h, subW_len] at e
  have hbo := begOk_of (begL_some hb).2.2.1
  have hk := okN_end hbo (flatT t).length st (Nat.le_refl _) e.symm (.inl rfl)
  have h1 := (snd_end (bs := bs) hb).2 hk.symm
  have h2 := (snd_end (bs := bs) hb).1.1 hk.symm
  rw [← e] at h1
  have h3 := Option.some.inj h1
  subst h3
  refine ⟨?_, rfl⟩
  unfold evA
  rw [if_pos (sndW_some hb)]
  cases hv : vA bs (flatT t) ((flatT t).length - 1) with
  | none => exact absurd hv h2
  | some v => rfl
theorem term_trap {bs : List Bd} {t : Tm} {fr : List Nat} (hb : begL (flatT t) = some fr) {k : Nat} (hk : k < (flatT t).length) {st : List Int} (h : evQ bs ((subsT t).take k) = some st) (hn : evM bs st ((subsT t).getD k .nil) = none) : evA bs (flatT t) = (0, 12) := by
  rw [evQ_take bs t k (by omega)] at h
  rw [evM_eq (shp_at t k hk)] at hn
  have hbo := begOk_of (begL_some hb).2.2.1
  have ho := okN_end hbo k st (by omega) h (.inr ⟨hk, hn⟩)
  have hv : vA bs (flatT t) ((flatT t).length - 1) = none := by
    cases hv : vA bs (flatT t) ((flatT t).length - 1) with
    | none => rfl
    | some v => exact absurd ((snd_end (bs := bs) hb).1.2 (by rw [hv]; simp)) (by omega)
  unfold evA
  rw [if_pos (sndW_some hb), hv]
theorem stk_sub {bs : List Bd} {t : Tm} {fr : List Nat} (hb : begL (flatT t) = some fr) {k : Nat} (hk : k < (flatT t).length) {st : List Int} (h : evQ bs ((subsT t).take k) = some st) : (partsT ((subsT t).getD k .nil)).length ≤ st.length ∧ st.length ≤ 64 := by
  rw [evQ_take bs t k (by omega)] at h
  have hbo := begOk_of (begL_some hb).2.2.1
  have h1 := evS_kids hbo k hk st h
  have h2 := evS_len k st h
  have h64 := (begL_some hb).2.1
  have h3 := shp_at t k hk
  have h4 : ((flatT t).getD k nd0).kids.length = (partsT ((subsT t).getD k .nil)).length := by
    unfold shp shT at h3
    injection h3 with a b
    injection b with b c
    injection c with c d
  omega
end Go.Proofs.YtljigfiokekpoaaGreatDoor

set_option linter.unusedSimpArgs false
set_option linter.unusedVariables false
namespace Go.Proofs.YtljigfiokekpoaaGreatDoor
open Go.RowKit Go.Lib Go.Sort

/-- What node leaves; and no block but cells has turned. -/
def NdQ (w : World) (p : Nat) (v ev : Value) (r : Option (List Int)) (e : Ending) (w' : World) : Prop := NdP w p ev r e w' ∧ KoW p v w w'

set_option maxRecDepth 20000 in
set_option maxHeartbeats 2000000 in
theorem wterm_lit (w : World) (p : Nat) (eo : Option Addr) (ec : Nat) (v : Value) (st : List Int) (bs : List Bd) (n : Int) (hM : Ew w p (.slice eo bs.length ec) v st) (hlen : st.length ≤ 64) :
    Calls Tryz.prog 22 #[.pointer (some ⟨p, 0, none⟩), tv (.lit n)] w (NdQ w p v (.slice eo bs.length ec) (evM bs st (.lit n))) := by
  have hE : evM bs st (.lit n) = some (st ++ [n]) := rfl
  rw [hE]
  unfold tv
  have h0 := taLit
  have hpl := hM.lt
  have hb1 : Below w.heap.size w (w.alloc (.cells #[.int .i64 n] 72)) := (Below.refl _ _).alloc (Nat.le_refl _) _
  have cP : Hid (Calls Tryz.prog 35 #[.pointer (some ⟨p, 0, none⟩), .int .i64 n] (w.alloc (.cells #[.int .i64 n] 72)) fun e w' => e = .returned (.tuple #[]) ∧ (∃ v', Ew w' p (.slice eo bs.length ec) v' (st ++ [n])) ∧ Below p (w.alloc (.cells #[.int .i64 n] 72)) w' ∧ KoW p v (w.alloc (.cells #[.int .i64 n] 72)) w') := wput_ko _ p _ v st n (hM.below hb1) (by omega)
  have HB1 : Hid (Below w.heap.size w (w.alloc (.cells #[.int .i64 n] 72))) := hb1
  clear hM hb1 hE
  go_enter Tryz.func22, Tryz.ntmps22
  go_wp2_with fail
  refine cP.out.mono ?_
  rintro e w2 ⟨rfl, ⟨v', hE⟩, hB, hK⟩
  have HKO : Hid (KoW p v w w2) := (KoW.below HB1.out).trans hK
  clear hK
  go_wp2_with fail
  go_ret
  exact ⟨⟨⟨0, rfl, rfl, v', hE⟩, (HB1.out.mono (by omega)).trans hB⟩, HKO.out⟩

set_option maxRecDepth 20000 in
set_option maxHeartbeats 2000000 in
theorem wterm_var (w : World) (p : Nat) (eo : Option Addr) (ec : Nat) (v : Value) (st : List Int) (bs : List Bd) (s : ByteArray) (hM : Ew w p (.slice eo bs.length ec) v st) (hlen : st.length ≤ 64) (hb : Bds w eo ec bs) (hreach : bs.length * 24 ≤ 140737488355328) :
    Calls Tryz.prog 22 #[.pointer (some ⟨p, 0, none⟩), tv (.var s)] w (NdQ w p v (.slice eo bs.length ec) (evM bs st (.var s))) := by
  have hE : evM bs st (.var s) = some (st ++ [getB bs s]) := rfl
  rw [hE]
  unfold tv
  have h0 := taLit
  have h1 := taVar
  have hpl := hM.lt
  have hb1 : Below w.heap.size w (w.alloc (.cells #[.string s] 74)) := (Below.refl _ _).alloc (Nat.le_refl _) _
  have HM1 : Hid (Ew (w.alloc (.cells #[.string s] 74)) p (.slice eo bs.length ec) v st) := hM.below hb1
  have HBS : Hid (Bds (w.alloc (.cells #[.string s] 74)) eo ec bs) := hb.below hb1
  have HB1 : Hid (Below w.heap.size w (w.alloc (.cells #[.string s] 74))) := hb1
  have c0 := HM1.out.c0
  have e0 : (w.alloc (.cells #[.string s] 74)).cell? ⟨w.heap.size, 0, none⟩ = some (.string s) := by simp
  clear hM hb1 hE hb
  go_enter Tryz.func22, Tryz.ntmps22
  go_wp2_with fail
  generalize w.alloc (.cells #[.string s] 74) = W1 at *
  have g0 := cell_regrown c0
  have g2 := cell_regrown e0
  have cG : Hid (∀ d os, Calls Tryz.prog 36 #[.slice eo bs.length ec, .string s] (grow (redrawn W1 d) os) fun e w'' => e = .returned (.int .i64 (getB bs s)) ∧ ∃ p : Regrown, w'' = grow (redrawn W1 p.d) p.os) := fun d os => Calls.regrown_of (getE_any eo ec bs s hreach _ (HBS.out.below (below_regrown W1 d os)))
  refine wp_region_quiet_then 8 (by kernel_rfl) (by kernel_rfl) ?_
  simp only [List.take_succ_cons, List.take_zero]
  iterate 8 (go_big_quiet_step ((go_at_call 36; exact cG.out _ _)))
  refine wpQuiet_nil ?_
  intro w' hw'
  obtain ⟨⟨dq, osq⟩, hw''⟩ := hw'
  subst hw''
  simp only [List.drop_succ_cons, List.drop_zero]
  have hb2 := below_regrown W1 dq osq
  have HM2 : Hid (Ew (grow (redrawn W1 dq) osq) p (.slice eo bs.length ec) v st) := HM1.out.below hb2
  have HB2 : Hid (Below w.heap.size w (grow (redrawn W1 dq) osq)) := HB1.out.trans (hb2.mono HB1.out.size)
  generalize grow (redrawn W1 dq) osq = w2 at *
  clear hb2 HM1 HB1 c0 e0 g0 g2 cG h0 h1
  go_wp2_with fail
  refine (wput_ko w2 p _ v st _ HM2.out (by omega)).mono ?_
  rintro e w3 ⟨rfl, ⟨v', hE⟩, hB, hK⟩
  have HKO : Hid (KoW p v w w3) := (KoW.below HB2.out).trans hK
  clear hK
  go_wp2_with fail
  go_ret
  exact ⟨⟨⟨0, rfl, rfl, v', hE⟩, (HB2.out.mono (by omega)).trans hB⟩, HKO.out⟩

/-- What apply leaves, as node tells it. -/
theorem ndp_of_apply {w w2 : World} {p : Nat} {ev : Value} {st : List Int} {bs : List Bd} {op n : Int} {nm : ByteArray} {ks : List Int} {r er : Int} (h1 : op ≠ 1) (h2 : op ≠ 2) (hr : apR op (st.drop (st.length - ks.length)) = (r, er)) (hE : ∃ v', Ew w2 p ev v' (st.take (st.length - ks.length) ++ [r])) (hB : Below p w w2) : NdP w p ev (evN bs st ⟨op, n, nm, ks⟩) (.returned (.int .i64 er)) w2 := by
  refine ⟨⟨er, rfl, ?_⟩, hB⟩
  unfold evN
  simp only
  rw [if_neg h1, if_neg h2]
  unfold apO
  rw [hr]
  by_cases he : er = 0
  · simp only [he, if_true]; exact ⟨trivial, hE⟩
  · simp only [he, if_false]; exact he

set_option maxRecDepth 20000 in
set_option maxHeartbeats 2000000 in
theorem wterm_un (w : World) (p : Nat) (eo : Option Addr) (ec : Nat) (v : Value) (st : List Int) (bs : List Bd) (op : Int) (a : Tm) (hM : Ew w p (.slice eo bs.length ec) v st) (hlen : st.length ≤ 64) (hk : 1 ≤ st.length) (hG : GrpCells w) (o1 : op ≠ 1) (o2 : op ≠ 2) :
    Calls Tryz.prog 22 #[.pointer (some ⟨p, 0, none⟩), tv (.un op a)] w (NdQ w p v (.slice eo bs.length ec) (evM bs st (.un op a))) := by
  have HFIN : Hid (∀ w2 r er, apR op (st.drop (st.length - 1)) = (r, er) → (∃ v', Ew w2 p (.slice eo bs.length ec) v' (st.take (st.length - 1) ++ [r])) → Below p w w2 → NdP w p (.slice eo bs.length ec) (evM bs st (.un op a)) (.returned (.int .i64 er)) w2) := fun w2 r er h1 h2 h3 => ndp_of_apply (ks := List.replicate 1 0) o1 o2 h1 h2 h3
  generalize evM bs st (.un op a) = Z at *
  unfold tv
  have h0 := taLit
  have h1 := taVar
  have h2 := taUn
  have sa := st_one (tv_one a)
  have ca := tv_cells a
  unfold Value.cells at ca
  generalize tv a = va at *
  have hpl := hM.lt
  have HM : Hid (Ew w p (.slice eo bs.length ec) v st) := hM
  have HG : Hid (GrpCells w) := hG
  have cA : Hid (∀ V, Below w.heap.size w V → Calls Tryz.prog 37 #[.pointer (some ⟨p, 0, none⟩), .int .i64 op, .int .i64 1] V fun e w' => ∃ r er, apR op (st.drop (st.length - 1)) = (r, er) ∧ e = .returned (.int .i64 er) ∧ (∃ v', Ew w' p (.slice eo bs.length ec) v' (st.take (st.length - 1) ++ [r])) ∧ Below p V w' ∧ KoW p v V w') := fun V hV => (wapply_ko V p _ v st op 1 (HM.out.below hV) (by omega) (by omega) hk (HG.out.below hV)).mono fun e w' ⟨h1, h2, h3, h4⟩ => ⟨_, _, rfl, h1, h2, h3, h4⟩
  clear hM hG o1 o2
  go_enter Tryz.func22, Tryz.ntmps22
  go_wp2_with fail
  refine (cA.out _ ((Below.refl _ _).alloc (Nat.le_refl _) _)).mono ?_
  rintro e w2 ⟨r, er, hr, rfl, hE, hB, hK⟩
  have HKO : Hid (KoW p v w w2) := (KoW.below ((Below.refl w.heap.size w).alloc (Nat.le_refl _) _)).trans hK
  have HZ : Hid (NdP w p (.slice eo bs.length ec) Z (.returned (.int .i64 er)) w2) := HFIN.out w2 r er hr hE ((((Below.refl w.heap.size w).alloc (Nat.le_refl _) _).mono (by omega)).trans hB)
  clear hr hE hB HFIN hK
  go_wp2_with fail
  go_ret
  exact ⟨HZ.out, HKO.out⟩

set_option maxRecDepth 20000 in
set_option maxHeartbeats 2000000 in
theorem wterm_bin (w : World) (p : Nat) (eo : Option Addr) (ec : Nat) (v : Value) (st : List Int) (bs : List Bd) (op : Int) (a b : Tm) (hM : Ew w p (.slice eo bs.length ec) v st) (hlen : st.length ≤ 64) (hk : 2 ≤ st.length) (hG : GrpCells w) (o1 : op ≠ 1) (o2 : op ≠ 2) :
    Calls Tryz.prog 22 #[.pointer (some ⟨p, 0, none⟩), tv (.bin op a b)] w (NdQ w p v (.slice eo bs.length ec) (evM bs st (.bin op a b))) := by
  have HFIN : Hid (∀ w2 r er, apR op (st.drop (st.length - 2)) = (r, er) → (∃ v', Ew w2 p (.slice eo bs.length ec) v' (st.take (st.length - 2) ++ [r])) → Below p w w2 → NdP w p (.slice eo bs.length ec) (evM bs st (.bin op a b)) (.returned (.int .i64 er)) w2) := fun w2 r er h1 h2 h3 => ndp_of_apply (ks := List.replicate 2 0) o1 o2 h1 h2 h3
  generalize evM bs st (.bin op a b) = Z at *
  unfold tv
  have h0 := taLit
  have h1 := taVar
  have h2 := taUn
  have h3 := taBin
  have sa := st_one (tv_one a)
  have ca := tv_cells a
  unfold Value.cells at ca
  generalize tv a = va at *
  have sb := st_one (tv_one b)
  have cb := tv_cells b
  unfold Value.cells at cb
  generalize tv b = vb at *
  have hpl := hM.lt
  have HM : Hid (Ew w p (.slice eo bs.length ec) v st) := hM
  have HG : Hid (GrpCells w) := hG
  have cA : Hid (∀ V, Below w.heap.size w V → Calls Tryz.prog 37 #[.pointer (some ⟨p, 0, none⟩), .int .i64 op, .int .i64 2] V fun e w' => ∃ r er, apR op (st.drop (st.length - 2)) = (r, er) ∧ e = .returned (.int .i64 er) ∧ (∃ v', Ew w' p (.slice eo bs.length ec) v' (st.take (st.length - 2) ++ [r])) ∧ Below p V w' ∧ KoW p v V w') := fun V hV => (wapply_ko V p _ v st op 2 (HM.out.below hV) (by omega) (by omega) hk (HG.out.below hV)).mono fun e w' ⟨h1, h2, h3, h4⟩ => ⟨_, _, rfl, h1, h2, h3, h4⟩
  clear hM hG o1 o2
  go_enter Tryz.func22, Tryz.ntmps22
  go_wp2_with fail
  refine (cA.out _ ((Below.refl _ _).alloc (Nat.le_refl _) _)).mono ?_
  rintro e w2 ⟨r, er, hr, rfl, hE, hB, hK⟩
  have HKO : Hid (KoW p v w w2) := (KoW.below ((Below.refl w.heap.size w).alloc (Nat.le_refl _) _)).trans hK
  have HZ : Hid (NdP w p (.slice eo bs.length ec) Z (.returned (.int .i64 er)) w2) := HFIN.out w2 r er hr hE ((((Below.refl w.heap.size w).alloc (Nat.le_refl _) _).mono (by omega)).trans hB)
  clear hr hE hB HFIN hK
  go_wp2_with fail
  go_ret
  exact ⟨HZ.out, HKO.out⟩

set_option maxRecDepth 20000 in
set_option maxHeartbeats 2000000 in
theorem wterm_ifs (w : World) (p : Nat) (eo : Option Addr) (ec : Nat) (v : Value) (st : List Int) (bs : List Bd) (c a b : Tm) (hM : Ew w p (.slice eo bs.length ec) v st) (hlen : st.length ≤ 64) (hk : 3 ≤ st.length) (hG : GrpCells w) :
    Calls Tryz.prog 22 #[.pointer (some ⟨p, 0, none⟩), tv (.ifs c a b)] w (NdQ w p v (.slice eo bs.length ec) (evM bs st (.ifs c a b))) := by
  have HFIN : Hid (∀ w2 r er, apR 17 (st.drop (st.length - 3)) = (r, er) → (∃ v', Ew w2 p (.slice eo bs.length ec) v' (st.take (st.length - 3) ++ [r])) → Below p w w2 → NdP w p (.slice eo bs.length ec) (evM bs st (.ifs c a b)) (.returned (.int .i64 er)) w2) := fun w2 r er h1 h2 h3 => ndp_of_apply (ks := List.replicate 3 0) (by show (17 : Int) ≠ 1; decide) (by show (17 : Int) ≠ 2; decide) h1 h2 h3
  generalize evM bs st (.ifs c a b) = Z at *
  unfold tv
  have h0 := taLit
  have h1 := taVar
  have h2 := taUn
  have h3 := taBin
  have h4 := taIf
  have sc := st_one (tv_one c)
  have cc := tv_cells c
  unfold Value.cells at cc
  generalize tv c = vc at *
  have sa := st_one (tv_one a)
  have ca := tv_cells a
  unfold Value.cells at ca
  generalize tv a = va at *
  have sb := st_one (tv_one b)
  have cb := tv_cells b
  unfold Value.cells at cb
  generalize tv b = vb at *
  have hpl := hM.lt
  have HM : Hid (Ew w p (.slice eo bs.length ec) v st) := hM
  have HG : Hid (GrpCells w) := hG
  have cA : Hid (∀ V, Below w.heap.size w V → Calls Tryz.prog 37 #[.pointer (some ⟨p, 0, none⟩), .int .i64 17, .int .i64 3] V fun e w' => ∃ r er, apR 17 (st.drop (st.length - 3)) = (r, er) ∧ e = .returned (.int .i64 er) ∧ (∃ v', Ew w' p (.slice eo bs.length ec) v' (st.take (st.length - 3) ++ [r])) ∧ Below p V w' ∧ KoW p v V w') := fun V hV => (wapply_ko V p _ v st 17 3 (HM.out.below hV) (by omega) (by omega) hk (HG.out.below hV)).mono fun e w' ⟨h1, h2, h3, h4⟩ => ⟨_, _, rfl, h1, h2, h3, h4⟩
  clear hM hG
  go_enter Tryz.func22, Tryz.ntmps22
  go_wp2_with fail
  refine (cA.out _ ((Below.refl _ _).alloc (Nat.le_refl _) _)).mono ?_
  rintro e w2 ⟨r, er, hr, rfl, hE, hB, hK⟩
  have HKO : Hid (KoW p v w w2) := (KoW.below ((Below.refl w.heap.size w).alloc (Nat.le_refl _) _)).trans hK
  have HZ : Hid (NdP w p (.slice eo bs.length ec) Z (.returned (.int .i64 er)) w2) := HFIN.out w2 r er hr hE ((((Below.refl w.heap.size w).alloc (Nat.le_refl _) _).mono (by omega)).trans hB)
  clear hr hE hB HFIN hK
  go_wp2_with fail
  go_ret
  exact ⟨HZ.out, HKO.out⟩


/-- term of a term that may stand in a sound one. -/
theorem wterm_any (w : World) (p : Nat) (eo : Option Addr) (ec : Nat) (v : Value) (st : List Int) (bs : List Bd) (t : Tm) (hf : fitB (opT t) (nT t) (nameT t) ((partsT t).length : Nat) = true) (hM : Ew w p (.slice eo bs.length ec) v st) (hlen : st.length ≤ 64) (hk : (partsT t).length ≤ st.length) (hG : GrpCells w) (hb : Bds w eo ec bs) (hreach : bs.length * 24 ≤ 140737488355328) :
    Calls Tryz.prog 22 #[.pointer (some ⟨p, 0, none⟩), tv t] w (NdQ w p v (.slice eo bs.length ec) (evM bs st t)) := by
  have har := hf
  unfold fitB at har
  simp only [Bool.and_eq_true, decide_eq_true_eq] at har
  obtain ⟨⟨⟨h0, h1⟩, _⟩, _⟩ := har
  cases t with
  | nil => simp [opT, aritI] at h0
  | other u x => simp [opT, aritI] at h0
  | lit n => exact wterm_lit w p eo ec v st bs n hM hlen
  | var s => exact wterm_var w p eo ec v st bs s hM hlen hb hreach
  | un op a =>
    refine wterm_un w p eo ec v st bs op a hM hlen (by simpa [partsT] using hk) hG ?_ ?_
    · intro e; subst e; simp [opT, partsT, aritI] at h1
    · intro e; subst e; simp [opT, partsT, aritI] at h1
  | bin op a b =>
    refine wterm_bin w p eo ec v st bs op a b hM hlen (by simpa [partsT] using hk) hG ?_ ?_
    · intro e; subst e; simp [opT, partsT, aritI] at h1
    · intro e; subst e; simp [opT, partsT, aritI] at h1
  | ifs c a b => exact wterm_ifs w p eo ec v st bs c a b hM hlen (by simpa [partsT] using hk) hG
end Go.Proofs.YtljigfiokekpoaaGreatDoor
