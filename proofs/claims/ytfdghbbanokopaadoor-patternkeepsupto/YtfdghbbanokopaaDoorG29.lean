/-
  PaLw, PkS, PkA, PkC, PkX, PkB.
-/
import Derived.Test.YtfdghbbanokopaaDoorChecked
import GoSem.PinnedTables
import GoSem.Claim
import GoSem.ClaimJoined
import GoSem.ClaimMapViews
import Derived.JoinedTies
import Derived.KernelRfl
import Derived.Shelf.Unicode.DecodeSlow
import Derived.Laws.RangeAny
import Derived.Shelf.Strconv.Itoa0
import Derived.Shelf.Unicode.DecodeAny
import Derived.Test.YtfdghbbanokopaaDoorProg
import Derived.WalkKit
import Derived.Deep.DeepFit
import Derived.Lib.OthersKept
import Derived.Lib.RuneCountTail
import Derived.Lib.LaidU8
import Derived.MakeChecks
import Derived.ProofKit
import Derived.OpenShut
import Derived.Deep.DeepHandedRow
import Derived.Deep.AppendLies
import Derived.Deep.OwnRows
import Derived.Laws.AppendOwnNone
import Derived.Deep.QuietTactic
import Derived.BigQuiet
import Derived.Deep.RegionWith
import Derived.Laws.DeepStrings4
import Derived.Deep.Slices
import Derived.SizedLaws
import Derived.Below
import Derived.Deep.RegionLaw
import Derived.Lib.SlBytesRow
import Derived.Lib.QuietBelow
import Derived.StillTail
import Derived.Lib.MapLaws
import Derived.Sort.Walk0
import Derived.Lib.ItoaNum
import Derived.Maps.OwnSet
import Derived.StringKeys
import Derived.Laws.ResultCell
import Derived.Deep.RegionHeld3
import Derived.Deep.DeepCutAuto
import Derived.Laws.IdiomStrings
import Derived.WalkSmall
import Derived.Laws.OwnMore
import Derived.Test.YtfdghbbanokopaaDoorRows
import Derived.Test.YtfdghbbanokopaaDoorG01
import Derived.Test.YtfdghbbanokopaaDoorG02
import Derived.Test.YtfdghbbanokopaaDoorG03
import Derived.Test.YtfdghbbanokopaaDoorG04
import Derived.Test.YtfdghbbanokopaaDoorG05
import Derived.Test.YtfdghbbanokopaaDoorG06
import Derived.Test.YtfdghbbanokopaaDoorG07
import Derived.Test.YtfdghbbanokopaaDoorG08
import Derived.Test.YtfdghbbanokopaaDoorG09
import Derived.Test.YtfdghbbanokopaaDoorG10
import Derived.Test.YtfdghbbanokopaaDoorG11
import Derived.Test.YtfdghbbanokopaaDoorG12
import Derived.Test.YtfdghbbanokopaaDoorG13
import Derived.Test.YtfdghbbanokopaaDoorG14
import Derived.Test.YtfdghbbanokopaaDoorG15
import Derived.Test.YtfdghbbanokopaaDoorG16
import Derived.Test.YtfdghbbanokopaaDoorG17
import Derived.Test.YtfdghbbanokopaaDoorG18
import Derived.Test.YtfdghbbanokopaaDoorG19
import Derived.Test.YtfdghbbanokopaaDoorG20
import Derived.Test.YtfdghbbanokopaaDoorG21
import Derived.Test.YtfdghbbanokopaaDoorG22
import Derived.Test.YtfdghbbanokopaaDoorG23
import Derived.Test.YtfdghbbanokopaaDoorG24
import Derived.Test.YtfdghbbanokopaaDoorG25
import Derived.Test.YtfdghbbanokopaaDoorG26
import Derived.Test.YtfdghbbanokopaaDoorG27
import Derived.Test.YtfdghbbanokopaaDoorG28
set_option linter.unusedSimpArgs false
set_option linter.unusedVariables false
namespace Go.Proofs.YtfdghbbanokopaaDoor
open Go.RowKit Go.Lib Go.Maps Go.Deep Go.Sort

set_option maxRecDepth 20000 in
set_option maxHeartbeats 2000000 in
/-- The same lists? -/
theorem sameAll_any {w : World} {ao bo : Option Addr} {ca cb : Nat} {a b : List (List Nd)} (hA : Lst w w.heap.size (.slice ao a.length ca) a) (hB : Lst w w.heap.size (.slice bo b.length cb) b) :
    Calls Tryd.prog 35 #[.slice ao a.length ca, .slice bo b.length cb] w fun e w' => e = .returned (.bool (decide (a = b))) ∧ Below w.heap.size w w' := by
  have HA : Hid (Lst w w.heap.size (.slice ao a.length ca) a) := hA
  have HB : Hid (Lst w w.heap.size (.slice bo b.length cb) b) := hB
  obtain ⟨ao', ca', e1, hal, ham, _⟩ := hA
  cases e1
  obtain ⟨bo', cb', e1, hbl, hbm, _⟩ := hB
  cases e1
  unfold maxLen at ham hbm
  by_cases hl : a.length = b.length
  · rw [← hl]
    rw [← hl] at hbl
    have HL : Hid (a.length = b.length) := hl
    clear hl
    obtain ⟨n, hn⟩ : ∃ n, a.length = n := ⟨_, rfl⟩
    have HN : Hid (a.length = n) := hn
    rw [hn] at hal hbl ⊢
    obtain ⟨R, hR⟩ : ∃ R, decide (a = b) = R := ⟨_, rfl⟩
    have HR : Hid (decide (a = b) = R) := hR
    rw [hR]
    clear hn hR
    go_enter Tryd.func35, Tryd.ntmps35
    go_wp2_with fail
    go_loopw [5] (fun i wr => ∃ k : Nat, k ≤ n ∧ i = .int .i64 k ∧ Hid (a.take k = b.take k) ∧ Below w.heap.size w wr) (fun i _ => n - (RowKit.intOf i).toNat)
    case atStart => exact ⟨0, by omega, rfl, rfl, Below.refl _ _⟩
    case round =>
      obtain ⟨k, hk, rfl, hE, hbw⟩ := hrel
      have hsw := hbw.size
      by_cases hlt : k < n
      · have hka : k < a.length := by rw [HN.out]; exact hlt
        have hkb : k < b.length := by rw [← HL.out, HN.out]; exact hlt
        obtain ⟨b1, o1, p1, c1, rfl, hb1, hc1, hn1⟩ := HA.out.part hbw hka
        obtain ⟨b2, o2, p2, c2, rfl, hb2, hc2, hn2⟩ := HB.out.part hbw hkb
        obtain ⟨r, hr⟩ : ∃ r, decide (a.getD k [] = b.getD k []) = r := ⟨_, rfl⟩
        have cS : Hid (∀ d os, Calls Tryd.prog 13 #[.slice p1 (a.getD k []).length c1, .slice p2 (b.getD k []).length c2] (grow (redrawn wr d) os) fun e w'' => e = .returned (.bool r) ∧ ∃ p : Regrown, w'' = grow (redrawn wr p.d) p.os) := fun d os => Calls.regrown_of (sameR (Rd.below hn1 (below_regrown wr d os) (below_regrown wr d os).size) (Rd.below hn2 (below_regrown wr d os) (below_regrown wr d os).size) r hr)
        have HT1 : Hid (r = true → a.take (k + 1) = b.take (k + 1)) := fun h => by
          have h2 := of_decide_eq_true (hr.trans h)
          rw [List.take_succ_eq_append_getElem hka, List.take_succ_eq_append_getElem hkb, hE.out]
          simp [hka, hkb] at h2
          rw [h2]
        have HT2 : Hid (r = false → R = false) := fun h => by
          have h2 := of_decide_eq_false (hr.trans h)
          rw [← HR.out]
          exact decide_eq_false fun e => h2 (by rw [e])
        have g1 := cell_regrown hc1
        have g2 := cell_regrown hc2
        have HBW : Hid (_) := hbw
        have hk0 : (0 : Int) ≤ (k : Int) := by omega
        have hk1 : (k : Int) < (n : Int) := by omega
        clear hbw hn1 hn2 hr hc1 hc2
        generalize (a.getD k []).length = l1 at *
        generalize (b.getD k []).length = l2 at *
        cases r
        · go_wp2_with fail
          refine wp_region_quiet_below (by kernel_rfl) (by kernel_rfl) ?_
          iterate 10 (go_big_quiet_step ((go_at_call 13; exact cS.out _ _)))
          refine wpQuiet_nil ?_
          intro _ hw'
          obtain ⟨⟨ds, oss⟩, hw''⟩ := hw'
          subst hw''
          have HB9 : Hid (Below w.heap.size w (grow (redrawn wr ds) oss)) := HBW.out.trans ((below_regrown wr ds oss).mono hsw)
          go_wp2_with fail
          go_ret
          exact ⟨by rw [HT2.out (by simp)] <;> rfl, HB9.out⟩
        · go_wp2_with fail
          refine wp_region_quiet_below (by kernel_rfl) (by kernel_rfl) ?_
          iterate 10 (go_big_quiet_step ((go_at_call 13; exact cS.out _ _)))
          refine wpQuiet_nil ?_
          intro _ hw'
          obtain ⟨⟨ds, oss⟩, hw''⟩ := hw'
          subst hw''
          have HB9 : Hid (Below w.heap.size w (grow (redrawn wr ds) oss)) := HBW.out.trans ((below_regrown wr ds oss).mono hsw)
          go_wp2_with fail
          exact ⟨⟨k + 1, by omega, by go_num, HT1.out (by simp), HB9.out⟩, by simp [RowKit.intOf]; omega⟩
      · have hke : k = n := by omega
        subst hke
        have HRT : Hid (R = true) := by
          show R = true
          rw [← HR.out]
          have := hE.out
          rw [← HN.out, List.take_length] at this
          rw [HL.out, List.take_length] at this
          exact decide_eq_true this
        have HBW : Hid (_) := hbw
        clear hbw
        go_wp2_with fail
        go_ret
        exact ⟨by rw [HRT.out] <;> rfl, HBW.out⟩
  · have hR : decide (a = b) = false := decide_eq_false fun e => hl (by rw [e])
    rw [hR]
    have hne : ((a.length : Int) != (b.length : Int)) = true := by simp; omega
    have hne2 : ¬ ((a.length : Int) = (b.length : Int)) := by omega
    clear hR hl HA HB
    generalize a.length = n at *
    generalize b.length = m at *
    go_enter Tryd.func35, Tryd.ntmps35
    go_wp2_with fail
    go_ret
    exact ⟨rfl, Below.refl _ _⟩
end Go.Proofs.YtfdghbbanokopaaDoor

set_option linter.unusedSimpArgs false
set_option linter.unusedVariables false
namespace Go.Proofs.YtfdghbbanokopaaDoor
open Go.RowKit Go.Lib

theorem pk_infoR : (Tryd.prog.info? 54).map (fun i => (i.zero, i.size, i.bytes)) = some (some (.pointer none), 1, 8) := by kernel_rfl
theorem pk_infoN : (Tryd.prog.info? 22).map (fun i => (i.zero, i.size, i.bytes)) = some (some (.slice none 0 0), 1, 24) := by kernel_rfl
structure PkL (w W : World) (ps : List (List Nd)) (r1 r2 : Rm) (rs : List Rm) (vr vi : Value) (k : Nat) : Prop where
  s : Rms w W ([r1, r2] ++ rs)
  ls : rs.map (·.l) = ps.take k
  n : rs.length = k
  rr : W.ownsRow w.heap.size 54 1 vr k (rs.map Rm.ptr)
  ri : W.ownsRow w.heap.size 22 1 vi k (rs.map Rm.sl)
theorem PkL.below {w W W' : World} {ps : List (List Nd)} {r1 r2 : Rm} {rs : List Rm} {vr vi : Value} {k : Nat} (h : PkL w W ps r1 r2 rs vr vi k) (hb : Below W.heap.size W W') : PkL w W' ps r1 r2 rs vr vi k :=
  ⟨h.s.below hb, h.ls, h.n, row_below h.rr hb, row_below h.ri hb⟩
theorem fitX_R {l : List Nd} (h : FitX l) : FitR l := ⟨h.len, h.kids, h.name⟩
/-- What one round adds. -/
structure PkM (w W : World) (ps : List (List Nd)) (r1 r2 : Rm) (rs : List Rm) (r : Rm) (vr vi : Value) (k : Nat) : Prop where
  s : Rms w W ([r1, r2] ++ (rs ++ [r]))
  ls : (rs ++ [r]).map (·.l) = ps.take (k + 1)
  n : rs.length = k
  rr : W.ownsRow w.heap.size 54 1 vr k (rs.map Rm.ptr)
  ri : W.ownsRow w.heap.size 22 1 vi k (rs.map Rm.sl)
structure PkN (w W : World) (ps : List (List Nd)) (r1 r2 : Rm) (rs : List Rm) (r : Rm) (vr vi : Value) (k : Nat) : Prop where
  s : Rms w W ([r1, r2] ++ (rs ++ [r]))
  ls : (rs ++ [r]).map (·.l) = ps.take (k + 1)
  n : rs.length = k
  rr : W.ownsRow w.heap.size 54 1 vr (k + 1) ((rs ++ [r]).map Rm.ptr)
  ri : W.ownsRow w.heap.size 22 1 vi k (rs.map Rm.sl)
section
variable {w W W' w7 : World} {ps : List (List Nd)} {r1 r2 r : Rm} {rs : List Rm} {vr vi : Value} {k : Nat}
theorem PkL.room (h : PkL w W ps r1 r2 rs vr vi k) (hk : k < ps.length) (hl : r.l = ps.getD k []) (ho : RmO W W' r) (hq : OwnP W' W.heap.size r.sl (r.p.take r.l.length)) (ha : KdAp (r.p.take r.l.length)) : PkM w W' ps r1 r2 rs r vr vi k := by
  have hb : Below W.heap.size W W' := RoomOk.below ho
  refine ⟨?_, ?_, h.n, row_below h.rr hb, row_below h.ri hb⟩
  · rw [← List.append_assoc]; exact h.s.snoc ho hq ha
  · rw [List.map_append, h.ls, List.take_add_one, List.getElem?_eq_getElem hk]
    simp [hl, hk]
theorem PkM.rooms (h : PkM w W ps r1 r2 rs r vr vi k) {o : Obj} {g cap : Nat} (hg : (W.alloc o).grownBy w7 vr.ownBlock) (ho : w7.ownsRow w.heap.size 54 1 (.slice (some ⟨g, 0, none⟩) (k + 1) cap) (k + 1) (rs.map Rm.ptr ++ [r.ptr])) : PkN w w7 ps r1 r2 rs r (.slice (some ⟨g, 0, none⟩) (k + 1) cap) vi k := by
  have hj := BkJ.grown h.rr (.inr rfl) hg
  have hs := h.s.b.size
  have hb7 : Below w.heap.size w w7 := h.s.b.trans ((((Below.refl w.heap.size W).alloc hs o)).grown hg (by rw [World.size_alloc]; omega) (fun b hb => (rw_block h.rr hb).1))
  have hs7 : W.heap.size ≤ w7.heap.size := by have := hg.size; rw [World.size_alloc] at this; omega
  refine ⟨h.s.keep hj hb7 hs7, h.ls, h.n, by rw [List.map_append]; exact ho, ?_⟩
  refine rw_same h.ri fun b hb => ?_
  have hl := (rw_block h.ri hb).2.1
  rw [hg.block b (by rw [World.size_alloc]; omega) (rw_ne h.ri h.rr (by decide) hb), Deep.blk_alloc_lt _ _ _ hl]
theorem PkN.below (h : PkN w W ps r1 r2 rs r vr vi k) (hb : Below W.heap.size W W') : PkN w W' ps r1 r2 rs r vr vi k :=
  ⟨h.s.below hb, h.ls, h.n, row_below h.rr hb, row_below h.ri hb⟩
theorem PkN.ins (h : PkN w W ps r1 r2 rs r vr vi k) {o : Obj} {g cap : Nat} (hg : (W.alloc o).grownBy w7 vi.ownBlock) (ho : w7.ownsRow w.heap.size 22 1 (.slice (some ⟨g, 0, none⟩) (k + 1) cap) (k + 1) (rs.map Rm.sl ++ [r.sl])) : PkL w w7 ps r1 r2 (rs ++ [r]) vr (.slice (some ⟨g, 0, none⟩) (k + 1) cap) (k + 1) := by
  have hj := BkJ.grown h.ri (.inl rfl) hg
  have hs := h.s.b.size
  have hb7 : Below w.heap.size w w7 := h.s.b.trans ((((Below.refl w.heap.size W).alloc hs o)).grown hg (by rw [World.size_alloc]; omega) (fun b hb => (rw_block h.ri hb).1))
  have hs7 : W.heap.size ≤ w7.heap.size := by have := hg.size; rw [World.size_alloc] at this; omega
  refine ⟨h.s.keep hj hb7 hs7, h.ls, by simp [h.n], ?_, by rw [List.map_append]; exact ho⟩
  refine rw_same h.rr fun b hb => ?_
  have hl := (rw_block h.rr hb).2.1
  rw [hg.block b (by rw [World.size_alloc]; omega) (rw_ne h.rr h.ri (by decide) hb), Deep.blk_alloc_lt _ _ _ hl]
end
end Go.Proofs.YtfdghbbanokopaaDoor

set_option linter.unusedSimpArgs false
set_option linter.unusedVariables false
namespace Go.Proofs.YtfdghbbanokopaaDoor
open Go.RowKit Go.Lib

theorem Anss.app {W : World} {lo hi : Nat} {A : List (Value × List (Nd × Value))} {v : Value} {P : List Pz} (h : Anss W lo hi A) (ho : PtM W hi v P) (hw : hi ≤ W.heap.size) : Anss W lo W.heap.size (A ++ P) := by
  have e1 : ((A ++ P).flatMap fun a => kR a.2) = (A.flatMap fun a => kR a.2) ++ kdA P := by simp [kdA]
  have e2 : ((A ++ P).map fun a => ((a.1, a.2.length, ndCells a.2) : Rw)) = (A.map fun a => (a.1, a.2.length, ndCells a.2)) ++ rwA P := by simp [rwA]
  refine ⟨?_, ?_, ?_, ?_, Nat.le_trans h.le hw⟩
  · rw [e1]; exact h.kids.app (ho.kids.low h.le) (lies_apart h.lk ho.kids.lies (.inl (Nat.le_refl _)))
  · rw [e2]; exact h.rows.app (ho.rows.low h.le) (lies_apart h.lr ho.rows.lies (.inl (Nat.le_refl _)))
  · rw [e1]; exact (h.lk.wide (Nat.le_refl _) hw).app (ho.kids.lies.wide h.le (Nat.le_refl _))
  · rw [e2]; exact (h.lr.wide (Nat.le_refl _) hw).app (ho.rows.lies.wide h.le (Nat.le_refl _))
structure PkT (w W : World) (rs : List Rm) (vr : Rw) (A : List Pz) (Tx Hs : List Rw) : Prop where
  b : Below w.heap.size w W
  ok : ∀ r ∈ rs, RmO w W r
  an : Anss W w.heap.size W.heap.size (rs.map Rm.an ++ A)
  tx : RwL W w.heap.size 9 1 Tx
  rr : W.ownsRow w.heap.size 54 1 vr.1 vr.2.1 vr.2.2
  hd : ∀ h ∈ Hs, W.ownsRow w.heap.size 22 1 h.1 h.2.1 h.2.2
section
variable {w W W' : World} {rs : List Rm} {vr : Rw} {A : List Pz} {Tx Hs : List Rw}
theorem PkT.start (h : Rms w W rs) (hv : W.ownsRow w.heap.size 54 1 vr.1 vr.2.1 vr.2.2) {r : Rw} (hr : W.ownsRow w.heap.size 22 1 r.1 r.2.1 r.2.2) : PkT w W rs vr [] [] [r] :=
  ⟨h.b, h.ok, by rw [List.append_nil]; exact h.an, ⟨by simp, List.Pairwise.nil⟩, hv, fun x hx => by rw [List.mem_singleton.1 hx]; exact hr⟩
theorem PkT.rms (h : PkT w W rs vr A Tx Hs) (hb : Below W.heap.size W W') : ∀ r ∈ rs, RmO w W' r := fun r hr => (h.ok r hr).keep (BkJ.below hb) (h.b.trans (hb.mono h.b.size))
theorem PkT.below (h : PkT w W rs vr A Tx Hs) (hb : Below W.heap.size W W') : PkT w W' rs vr A Tx Hs :=
  ⟨h.b.trans (hb.mono h.b.size), h.rms hb, (h.an.below hb).wide hb.size, h.tx.bel hb, row_below h.rr hb, fun x hx => row_below (h.hd x hx) hb⟩
theorem PkT.ans (h : PkT w W rs vr A Tx Hs) {v : Value} {q : List (Nd × Value)} (ho : OwnP W' W.heap.size v q) (ha : KdAp q) (hb : Below W.heap.size W W') : PkT w W' rs vr (A ++ [(v, q)]) Tx Hs :=
  ⟨h.b.trans (hb.mono h.b.size), h.rms hb, by rw [← List.append_assoc]; exact (h.an.below hb).snoc ho ha hb.size, h.tx.bel hb, row_below h.rr hb, fun x hx => row_below (h.hd x hx) hb⟩
theorem PkT.pts (h : PkT w W rs vr A Tx Hs) {v : Value} {P : List Pz} (ho : PtM W' W.heap.size v P) (hb : Below W.heap.size W W') : PkT w W' rs vr (A ++ P) Tx (Hs ++ [(v, P.length, P.map (·.1))]) := by
  refine ⟨h.b.trans (hb.mono h.b.size), h.rms hb, by rw [← List.append_assoc]; exact (h.an.below hb).app ho hb.size, h.tx.bel hb, row_below h.rr hb, fun x hx => ?_⟩
  rcases List.mem_append.1 hx with hx | hx
  · exact row_below (h.hd x hx) hb
  · rw [List.mem_singleton.1 hx]; exact own_low ho.row h.b.size
theorem PkT.txt (h : PkT w W rs vr A Tx Hs) {v : Value} {n : Nat} {xs : List Value} (ho : W'.ownsRow W.heap.size 9 1 v n xs) (hb : Below W.heap.size W W') : PkT w W' rs vr A (Tx ++ [(v, n, xs)]) Hs :=
  ⟨h.b.trans (hb.mono h.b.size), h.rms hb, (h.an.below hb).wide hb.size, (h.tx.bel hb).app ((RwL.one (r := (v, n, xs)) ho).low h.b.size) (fun r hr s hs g h1 h2 => by
    have e1 := (rw_block (h.tx.own r hr) h1).2.1
    rw [List.mem_singleton.1 hs] at h2
    have e2 := (rw_block ho h2).1
    omega), row_below h.rr hb, fun x hx => row_below (h.hd x hx) hb⟩
theorem PkT.x (h : PkT w W rs vr A Tx Hs) {r : Rm} (hr : r ∈ rs) : RmX W r.R r.fb r.fc r.l (r.p.take r.l.length) w.heap.size := (h.ok r hr).x
theorem PkT.expr (h : PkT w W rs vr A Tx Hs) {r : Rm} (hr : r ∈ rs) : Calls Tryd.prog 32 #[.pointer (some ⟨r.R, 0, none⟩)] W fun e w' => e = .returned (.slice (some ⟨r.fb, 0, none⟩) r.l.length r.fc) ∧ PkT w w' rs vr A Tx Hs :=
  (h.x hr).expr.mono fun e w' ⟨he, hb⟩ => ⟨he, h.below hb⟩
theorem PkT.kept (h : PkT w W rs vr A Tx Hs) {r : Rm} (hr : r ∈ rs) (hF : FitR r.l) : Calls Tryd.prog 36 #[.pointer (some ⟨r.R, 0, none⟩)] W fun e w' => e = .returned (.bool true) ∧ PkT w w' rs vr A Tx Hs :=
  ((h.x hr).kept hF).mono fun e w' ⟨he, hb⟩ => ⟨he, h.below hb⟩
theorem PkT.read (h : PkT w W rs vr A Tx Hs) {r : Rm} (hr : r ∈ rs) : Rd W (some ⟨r.fb, 0, none⟩) r.fc r.l := (h.x hr).read
/-- The list of lists, read. -/
theorem PkT.lst (h : PkT w W rs vr A Tx Hs) {ps : List Rm} (hps : ∀ r ∈ ps, r ∈ rs) {ao : Option Addr} {n cap : Nat} (hn : ps.length = n) (hr : (.slice ao n cap, n, ps.map Rm.sl) ∈ Hs) : RdP W ao cap (ps.map (·.l)) := by
  have hr := h.hd _ hr
  subst hn
  rcases hr.2 with ⟨e, h0⟩ | ⟨g, cap', cur, e, hb, hg, h1, h2, h3, h4⟩
  · have : ps = [] := List.length_eq_zero_iff.1 h0
    subst this
    cases e
    exact ⟨none, 0, rfl, by simp, by unfold maxLen; omega, .inl rfl⟩
  · cases e
    refine ⟨_, _, rfl, by simpa using h1, h2, .inr ⟨g, 0, rfl, lt_of_block hg, fun i hi => ?_⟩⟩
    have hi' : i < ps.length := by simpa using hi
    refine ⟨ps[i].sl, ?_, ?_⟩
    · rw [Nat.zero_add]
      exact (rdr_own hr).cell (b := g) rfl (by simp [hi'])
    · have e1 : (ps.map (·.l)).getD i [] = ps[i].l := by simp [hi']
      rw [e1]
      exact h.read (hps _ (List.getElem_mem hi'))
end
end Go.Proofs.YtfdghbbanokopaaDoor

set_option linter.unusedSimpArgs false
set_option linter.unusedVariables false
namespace Go.Proofs.YtfdghbbanokopaaDoor
open Go.RowKit Go.Lib

section
variable {w W : World} {R : List Rm} {vr : Rw} {A : List Pz} {Tx Hs : List Rw}
theorem pk_fill (l : List Nd) (ps : List (List Nd)) : ∃ (X : List Nd) (c : Int), (sndB X = true ∨ X = []) ∧ ∀ (w W : World) (R : List Rm) (vr : Rw) (A : List Pz) (Tx Hs : List Rw) (ao : Option Addr) (cap : Nat) (ai : Option Addr) (ci : Nat), PkT w W R vr A Tx Hs → SpanCells W → Rd W ao cap l → (∀ x ∈ l, x.name.size ≤ maxLen) → RdP W ai ci ps →
    Calls Tryd.prog 28 #[.slice ao l.length cap, .slice ai ps.length ci] W fun e w' => ∃ va ca q, e = .returned (.tuple #[.slice va X.length ca, .int .i64 c]) ∧ q.map (·.1) = X ∧ PkT w w' R vr (A ++ [(.slice va X.length ca, q)]) Tx Hs := by
  obtain ⟨X, h1, h2, h3⟩ := fillX l ps
  refine ⟨X, flC l ps, ?_, fun w W R vr A Tx Hs ao cap ai ci h hT hN hnm hL => (h3 W ao ai cap ci hT hN hnm hL).mono ?_⟩
  · by_cases hc : flC l ps = 0
    · exact .inl (h1 hc).1
    · exact .inr (h2 hc)
  · rintro e w' ⟨v, rfl, ⟨q, hq1, hq2, hq3⟩, hb⟩
    obtain ⟨va, ca, hv⟩ := rw_form hq2.row
    have hql : q.length = X.length := by have := congrArg List.length hq1; simpa using this
    rw [hql] at hv
    subst hv
    exact ⟨va, ca, q, rfl, hq1, h.ans hq2 hq3 hb⟩
theorem pk_fits (l x : List Nd) : ∃ (L : List (List Nd)) (c : Int), FtC l x L c ∧ ∀ (w W : World) (R : List Rm) (vr : Rw) (A : List Pz) (Tx Hs : List Rw) (ao bo : Option Addr) (cap cb : Nat), PkT w W R vr A Tx Hs → Tabs W → Rd W ao cap l → (∀ x ∈ l, x.name.size ≤ maxLen) → Rd W bo cb x →
    Calls Tryd.prog 33 #[.slice ao l.length cap, .slice bo x.length cb] W fun e w' => ∃ va ca P, e = .returned (.tuple #[.slice va L.length ca, .int .i64 c]) ∧ psA P = L ∧ PkT w w' R vr (A ++ P) Tx (Hs ++ [(.slice va L.length ca, L.length, P.map (·.1))]) := by
  obtain ⟨L, c, h1, h2⟩ := fitsX l x
  refine ⟨L, c, h1, fun w W R vr A Tx Hs ao bo cap cb h hT hN hnm hX => (h2 W ao bo cap cb hT hN hnm hX).mono ?_⟩
  rintro e w' ⟨v, P, rfl, hP, hL, hb⟩
  obtain ⟨va, ca, hv⟩ := rw_form hP.row
  have hpl : P.length = L.length := by rw [← hL]; simp [psA]
  have h9 := h.pts hP hb
  rw [hpl] at hv h9
  subst hv
  exact ⟨va, ca, P, rfl, hL, h9⟩
theorem pk_holes (l : List Nd) : ∃ (ks : List ByteArray) (c : Int), ks.length ≤ 16 ∧ ∀ (w W : World) (R : List Rm) (vr : Rw) (A : List Pz) (Tx Hs : List Rw) (ao : Option Addr) (cap : Nat), PkT w W R vr A Tx Hs → SpanCells W → Rd W ao cap l → (∀ x ∈ l, x.name.size ≤ maxLen) →
    Calls Tryd.prog 34 #[.slice ao l.length cap] W fun e w' => ∃ na nc, e = .returned (.tuple #[.slice na ks.length nc, .int .i64 c]) ∧ PkT w w' R vr A (Tx ++ [(.slice na ks.length nc, ks.length, ks.map Value.string)]) Hs := by
  obtain ⟨ks, c, h1, h2⟩ := holesX l
  refine ⟨ks, c, ?_, fun w W R vr A Tx Hs ao cap h hT hN hnm => (h2 W ao cap hT hN hnm).mono ?_⟩
  · rcases h1 with ⟨_, hp, rfl⟩ | ⟨_, _, rfl⟩
    · unfold patB at hp
      simp only [Bool.and_eq_true, decide_eq_true_eq] at hp
      have := hp.1.2
      omega
    · simp
  · rintro e w' ⟨na, nc, rfl, ho, hb⟩
    exact ⟨na, nc, rfl, h.txt ho hb⟩
/-- Found parts, read. -/
theorem PkT.lstP (h : PkT w W R vr A Tx Hs) {P : List Pz} (hP : ∀ a ∈ P, a ∈ A) {ao : Option Addr} {n cap : Nat} (hn : P.length = n) (hr : (.slice ao n cap, n, P.map (·.1)) ∈ Hs) : RdP W ao cap (psA P) := by
  have hr := h.hd _ hr
  subst hn
  have hl : (psA P).length = P.length := by simp [psA]
  rcases hr.2 with ⟨e, h0⟩ | ⟨g, cap', cur, e, hb, hg, h1, h2, h3, h4⟩
  · have : P = [] := List.length_eq_zero_iff.1 h0
    subst this
    cases e
    exact ⟨none, 0, rfl, by simp [psA], by unfold maxLen; omega, .inl rfl⟩
  · cases e
    refine ⟨_, _, rfl, by simpa [psA] using h1, h2, .inr ⟨g, 0, rfl, lt_of_block hg, fun i hi => ?_⟩⟩
    have hi' : i < P.length := by simpa [psA] using hi
    refine ⟨P[i].1, ?_, ?_⟩
    · rw [Nat.zero_add]
      exact (rdr_own hr).cell (b := g) rfl (by simp [hi'])
    · have e1 : (psA P).getD i [] = P[i].2.map (·.1) := by simp [psA, hi']
      rw [e1]
      exact Nodes_of_own ⟨P[i].2, rfl, h.an.ownP (a := P[i]) (List.mem_append_right _ (hP _ (List.getElem_mem hi')))⟩ (Nat.le_refl _)
theorem PkT.ansR (h : PkT w W R vr A Tx Hs) {v : Value} {q : List (Nd × Value)} {X : List Nd} (ha : (v, q) ∈ A) (hq : q.map (·.1) = X) : Nodes W W.heap.size v X :=
  Nodes_of_own ⟨q, hq, h.an.ownP (a := (v, q)) (List.mem_append_right _ ha)⟩ (Nat.le_refl _)
end
end Go.Proofs.YtfdghbbanokopaaDoor

set_option linter.unusedSimpArgs false
set_option linter.unusedVariables false
namespace Go.Proofs.YtfdghbbanokopaaDoor
open Go.RowKit Go.Lib Go.Maps Go.Deep

theorem own_strsK {W : World} {base : Nat} {ao : Option Addr} {cap : Nat} {xs : List ByteArray} (h : W.ownsRow base 9 1 (.slice ao xs.length cap) xs.length (xs.map Value.string)) : Strs W ao cap xs := by
  rcases h.2 with ⟨e, h0⟩ | ⟨g, cap', cur, e, hb, hg, h1, h2, h3, h4⟩
  · have hx0 : xs = [] := List.length_eq_zero_iff.1 h0
    subst hx0
    cases e
    exact ⟨by omega, by unfold maxLen; omega, .inl rfl⟩
  · cases e
    refine ⟨h1, h2, .inr ⟨g, 0, rfl, lt_of_block hg, fun j hj => ?_⟩⟩
    have := (rdr_own h).cell (b := g) rfl (i := j) (u := .string xs[j]) (by simp [hj])
    simpa [hj] using this

set_option maxRecDepth 20000 in
set_option maxHeartbeats 2000000 in
theorem sameTextsK_any (w : World) (ao bo : Option Addr) (ac bc : Nat) (xs : List ByteArray) (hx : Strs w ao ac xs) (hy : Strs w bo bc xs) :
    Calls Tryd.prog 20 #[.slice ao xs.length ac, .slice bo xs.length bc] w fun e w' => e = .returned (.bool true) ∧ Below w.heap.size w w' := by
  have HX : SldX (Strs w ao ac xs) := ⟨hx⟩
  have HY : SldX (Strs w bo bc xs) := ⟨hy⟩
  obtain ⟨h1, h2, _⟩ := hx
  obtain ⟨h3, h4, _⟩ := hy
  unfold maxLen at h2 h4
  go_enter Tryd.func20, Tryd.ntmps20
  go_wp2_with fail
  go_loopw [5] (fun i wr => ∃ k : Nat, k ≤ xs.length ∧ i = .int .i64 k ∧ Below w.heap.size w wr) (fun i _ => xs.length - (RowKit.intOf i).toNat)
  case atStart => exact ⟨0, by omega, rfl, Below.refl _ _⟩
  case round =>
    obtain ⟨k, hk, rfl, hB⟩ := hrel
    have HB : SldX (Below w.heap.size w wr) := ⟨hB⟩
    clear hB
    by_cases hlt : k < xs.length
    · obtain ⟨a1, o1, rfl, hl1, c1⟩ := (HX.out.below HB.out).cell hlt
      obtain ⟨a2, o2, rfl, hl2, c2⟩ := (HY.out.below HB.out).cell hlt
      generalize xs.getD k ⟨#[]⟩ = s at *
      go_wp2_with fail
      go_region
      go_wp2_with fail
      exact ⟨⟨k + 1, by omega, by go_num, HB.out.drew⟩, by simp [RowKit.intOf]; omega⟩
    · have hke : k = xs.length := by omega
      subst hke
      go_wp2_with fail
      go_ret
      exact ⟨rfl, HB.out⟩


section
variable {w W : World} {R : List Rm} {vr : Rw} {A : List Pz} {Tx Hs : List Rw}
theorem PkT.strs (h : PkT w W R vr A Tx Hs) {ao : Option Addr} {cap : Nat} {xs : List ByteArray} (ha : (.slice ao xs.length cap, xs.length, xs.map Value.string) ∈ Tx) : Strs W ao cap xs := own_strsK (h.tx.own _ ha)
end
end Go.Proofs.YtfdghbbanokopaaDoor

set_option linter.unusedSimpArgs false
set_option linter.unusedVariables false
namespace Go.Proofs.YtfdghbbanokopaaDoor
open Go.RowKit Go.Lib

/-- The book holds the lists AA, one after the other. -/
def BkA (W3 W : World) (lo Q : Nat) (ht : Value) (AA : List Pz) : Prop := BkS W3 W lo Q ht (AA.map (·.1)) (AA.flatMap fun a => a.2.map (·.2))
def cntA (AA : List Pz) : Nat := (AA.flatMap fun a => a.2).length
theorem cntA_app (A B : List Pz) : cntA (A ++ B) = cntA A + cntA B := by simp [cntA]
theorem kids_len (AA : List Pz) : (AA.flatMap fun a => a.2.map (·.2)).length = cntA AA := by
  induction AA with
  | nil => rfl
  | cons a r ih => simp [cntA] at ih ⊢
section
variable {W3 W W' V : World} {lo Q : Nat} {ht : Value} {AA : List Pz}
theorem BkA.below (h : BkA W3 W lo Q ht AA) (hlo : lo ≤ W3.heap.size) (hb : Below W.heap.size W W') : BkA W3 W' lo Q ht AA := BkS.below h hlo hb
/-- What lay ahead of the book is as it was. -/
theorem BkA.bel (h : BkA W3 W lo Q ht AA) (hb : Below V.heap.size V W3) (hQ : V.heap.size ≤ Q) : Below V.heap.size V W := by
  obtain ⟨hn, hi, h1, h2, h3, h4⟩ := h.ex
  have hs := hb.size
  exact ⟨h2.os.trans hb.os, h2.tape.trans hb.tape, h2.output.trans hb.output, Nat.le_trans hs h2.size, fun k hk => (h.six (by omega) (by omega)).trans (hb.block k hk)⟩
theorem BkA.put (h : BkA W3 W lo Q ht AA) (hQ : lo ≤ Q) {vo : Option Addr} {cap n : Nat} {q : List (Nd × Value)} (hO : OwnP W3 lo (.slice vo n cap) q) (hn : q.length = n) (h1 : AA.length ≤ 100000000) (h2 : cntA AA + n ≤ 5000000000000) :
    Calls Tryd.prog 37 #[.pointer (some ⟨Q, 0, none⟩), .slice vo n cap] W fun e w' => e = .returned (.tuple #[]) ∧ BkA W3 w' lo Q ht (AA ++ [(.slice vo n cap, q)]) := by
  refine (BkS.expr h hQ hO hn (by rw [List.length_map]; exact h1) (by rw [kids_len]; omega)).mono ?_
  rintro e w' ⟨he, hk⟩
  refine ⟨he, ?_⟩
  unfold BkA
  rw [List.map_append, List.flatMap_append]
  simpa using hk
theorem BkA.apart (h : BkA W3 W lo Q ht AA) (hlo : lo ≤ W3.heap.size) {BB : List Pz} (hp : AA.Perm BB) {hi : Nat} (hA : Anss W3 lo hi BB) {RT : List Rw} (hhT : W3.ownsRow lo 33 1 ht RT.length (RT.map (·.1))) (hT : RwL W3 lo 9 1 RT)
    (h1 : AA.length ≤ 100000000) (h2 : cntA AA ≤ 5000000000000) (h3 : ∀ a ∈ AA, a.2.length ≤ 2513169434843) (h4 : ∀ a ∈ AA, ∀ y ∈ a.2, y.1.kids.length * 8 ≤ 140737488351232) (hlT : ∀ r ∈ RT, r.2.1 ≤ 100000000) (hnT : RT.length ≤ 100000000) :
    Calls Tryd.prog 38 #[.pointer (some ⟨Q, 0, none⟩)] W fun e W' => e = .returned (.bool true) ∧ Below lo W3 W' := by
  have e1 : (AA.map fun a => ((a.1, a.2.length, ndCells a.2) : Rw)).map (·.1) = AA.map (·.1) := by simp
  have e2 : (AA.flatMap fun a => kR a.2).map (·.1) = AA.flatMap fun a => a.2.map (·.2) := by rw [List.map_flatMap]; congr 1; funext a; exact kR_v _
  refine BkS.apartQ (RN := AA.map fun a => ((a.1, a.2.length, ndCells a.2) : Rw)) (RI := AA.flatMap fun a => kR a.2) (RT := RT) ?_ hlo (RwL.perm hA.rows (hp.symm.map _)) (RwL.perm hA.kids (List.Perm.flatMap_right _ hp.symm)) hhT hT ?_ ?_ ?_ ?_ hlT hnT
  · rw [e1, e2]; exact h
  · intro r hr
    obtain ⟨a, ha, rfl⟩ := List.mem_map.1 hr
    have := h3 a ha
    show a.2.length * 56 ≤ _
    omega
  · rw [List.length_map]; omega
  · intro r hr
    obtain ⟨a, ha, hr⟩ := List.mem_flatMap.1 hr
    obtain ⟨y, hy, rfl⟩ := List.mem_map.1 hr
    exact h4 a ha y hy
  · have e3 : (AA.flatMap fun a => kR a.2).length = cntA AA := by
      rw [← kids_len, ← e2, List.length_map]
    rw [e3]; omega
end
/-- The found parts, one of each in turn. -/
def twoA (P Q : List Pz) (k : Nat) : List Pz := (List.range k).flatMap fun i => [P.getD i (.slice none 0 0, []), Q.getD i (.slice none 0 0, [])]
theorem twoA_succ (P Q : List Pz) (k : Nat) : twoA P Q (k + 1) = twoA P Q k ++ [P.getD k (.slice none 0 0, []), Q.getD k (.slice none 0 0, [])] := by simp [twoA, List.range_succ]
theorem twoA_perm (P Q : List Pz) : ∀ k, k ≤ P.length → k ≤ Q.length → (twoA P Q k).Perm (P.take k ++ Q.take k)
  | 0, _, _ => by simp [twoA]
  | k + 1, h1, h2 => by
    have ih := twoA_perm P Q k (by omega) (by omega)
    rw [twoA_succ, List.take_add_one, List.take_add_one, List.getElem?_eq_getElem (by omega), List.getElem?_eq_getElem (by omega)]
    have e1 : P.getD k (.slice none 0 0, []) = P[k] := by rw [List.getD_eq_getElem?_getD, List.getElem?_eq_getElem (by omega)]; rfl
    have e2 : Q.getD k (.slice none 0 0, []) = Q[k] := by rw [List.getD_eq_getElem?_getD, List.getElem?_eq_getElem (by omega)]; rfl
    rw [e1, e2]
    refine (ih.append_right _).trans ?_
    classical
    rw [List.perm_iff_count]
    intro a
    simp only [List.count_append, List.count_cons, List.count_nil, Option.toList]
    omega
theorem twoA_len (P Q : List Pz) (k : Nat) : (twoA P Q k).length = 2 * k := by
  induction k with
  | zero => rfl
  | succ k ih => rw [twoA_succ, List.length_append, ih]; simp; omega
end Go.Proofs.YtfdghbbanokopaaDoor
