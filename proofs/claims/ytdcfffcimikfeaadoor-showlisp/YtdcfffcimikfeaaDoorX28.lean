/-
  LsW, ShowlispK.
-/
import Derived.Test.YtdcfffcimikfeaaDoorChecked
import GoSem.PinnedTables
import GoSem.Claim
import GoSem.ClaimJoined
import GoSem.ClaimMapViews
import Derived.JoinedTies
import Derived.KernelRfl
import GoSem.ClaimSeven
import Derived.LaidByTextLater
import Derived.SevenTiedAt
import Derived.LaidSub
import Derived.LaidOnce
import Derived.Shelf.Unicode.DecodeSlow
import Derived.Laws.RangeAny
import Derived.Shelf.Strings.Builder1
import Derived.Shelf.Small.Utf8
import Derived.Shelf.Small.Bits
import Derived.Shelf.Strings.BuilderF
import Derived.Shelf.Strings.BuilderK
import Derived.Shelf.Strings.BuilderRune
import Derived.Shelf.Utf8.AppendRune
import Derived.Shelf.Strconv.Itoa0
import Derived.Shelf.Strconv.Itoa1
import Derived.Shelf.LaysM
import Derived.Shelf.Strconv.Itoa2
import Derived.Shelf.Strconv.Itoa3
import Derived.Shelf.Strconv.Itoa4
import Derived.Shelf.Strings.Prefix
import Derived.Shelf.Unicode.DecodeAny
import Derived.Shelf.Slices.CompactS
import Derived.Ground.SlsfProg
import Derived.Shelf.SlSortCmp.Insertion
import Derived.Shelf.SlSortCmp.SiftDown1
import Derived.Shelf.SlSortCmp.HeapSort1
import Derived.Shelf.SlSortCmp.Insertion1
import Derived.Shelf.SlSortCmp.Median1
import Derived.Shelf.SlSortCmp.Pivot1
import Derived.Shelf.SlSortCmp.ReverseRange1
import Derived.Shelf.SlSortCmp.PartialInsertion1
import Derived.Shelf.SlSortCmp.PartitionEqual1
import Derived.Shelf.SlSortCmp.Partition1
import Derived.Shelf.SlSortCmp.Pdq1
import Derived.Shelf.SlSortCmp.Whole1
import Derived.Test.YtdcfffcimikfeaaDoorProg
import Derived.WalkKit
import Derived.Deep.DeepFit
import Derived.Lib.OthersKept
import Derived.Lib.RuneCountTail
import Derived.Lib.LaidU8
import Derived.MakeChecks
import Derived.ProofKit
import Derived.OpenShut
import Derived.Deep.DeepHandedRow
import Derived.Lib.MapLaws
import Derived.Sort.Walk0
import Derived.Laws.DeepStrings4
import Derived.Lib.ItoaNum
import Derived.Deep.AppendLies
import Derived.Deep.OwnRows
import Derived.Laws.AppendOwnNone
import Derived.Deep.QuietTactic
import Derived.BigQuiet
import Derived.Deep.RegionWith
import Derived.BigCall
import Derived.Lib.LaidTab
import Derived.Maps.OwnSet
import Derived.StringKeys
import Derived.Deep.Slices
import Derived.Lib.QuietBelow
import Derived.StillTail
import Derived.Laws.OwnMore
import Derived.SizedLaws
import Derived.Lib.Small
import Derived.Lib.Strings
import Derived.Deep.RegionHeld3
import Derived.Laws.ResultCell
import Derived.Deep.Heap
import Derived.Laws.Rows
import Derived.Deep.RegionLaw
import Derived.Laws.IdiomStrings
import Derived.WideKeyArgs
import Derived.Test.YtdcfffcimikfeaaDoorRows
import Derived.Test.YtdcfffcimikfeaaDoorCards
import Derived.Test.YtdcfffcimikfeaaDoorTie
import Derived.Test.YtdcfffcimikfeaaDoorX01
import Derived.Test.YtdcfffcimikfeaaDoorX02
import Derived.Test.YtdcfffcimikfeaaDoorX03
import Derived.Test.YtdcfffcimikfeaaDoorX04
import Derived.Test.YtdcfffcimikfeaaDoorX05
import Derived.Test.YtdcfffcimikfeaaDoorX06
import Derived.Test.YtdcfffcimikfeaaDoorX07
import Derived.Test.YtdcfffcimikfeaaDoorX08
import Derived.Test.YtdcfffcimikfeaaDoorX09
import Derived.Test.YtdcfffcimikfeaaDoorX10
import Derived.Test.YtdcfffcimikfeaaDoorX11
import Derived.Test.YtdcfffcimikfeaaDoorX12
import Derived.Test.YtdcfffcimikfeaaDoorX13
import Derived.Test.YtdcfffcimikfeaaDoorX14
import Derived.Test.YtdcfffcimikfeaaDoorX15
import Derived.Test.YtdcfffcimikfeaaDoorX16
import Derived.Test.YtdcfffcimikfeaaDoorX17
import Derived.Test.YtdcfffcimikfeaaDoorX18
import Derived.Test.YtdcfffcimikfeaaDoorX19
import Derived.Test.YtdcfffcimikfeaaDoorX20
import Derived.Test.YtdcfffcimikfeaaDoorX21
import Derived.Test.YtdcfffcimikfeaaDoorX22
import Derived.Test.YtdcfffcimikfeaaDoorX23
import Derived.Test.YtdcfffcimikfeaaDoorX24
import Derived.Test.YtdcfffcimikfeaaDoorX25
import Derived.Test.YtdcfffcimikfeaaDoorX26
import Derived.Test.YtdcfffcimikfeaaDoorX27
set_option linter.unusedSimpArgs false
set_option linter.unusedVariables false
namespace Go.Proofs.YtdcfffcimikfeaaDoor
open Go.RowKit Go.Lib

theorem getD_mapB {α : Type} (f : Int → α) (ks : List Int) (d : α) {j : Nat} (hj : j < ks.length) : (ks.map f).getD j d = f (ks.getD j 0) := by simp [hj]

theorem read_all {S : ByteArray} (hz : S.size ≤ 8000) {l : List Nd} {fr : List Nat} (hbg : begL l = some fr) (hnum : ∀ x ∈ l, num64 x.n) : ∀ i, i < l.length → ∀ (a : Nat) (w : World), Tabs w → Bt S a (tx ahdT l i) → Stq S (a + (tx ahdT l i).size) →
    Calls Tryd.prog 36 #[.string S, .int .i64 (a : Int)] w fun e w' => RdA w (partL l (fr.getD i 0) i) (a + (tx ahdT l i).size) e w' := by
  have hok := begOk_of (begL_some hbg).2.2.1
  intro i
  induction i using Nat.strongRecOn with
  | ind i IH =>
    intro hi a w hT hb hst
    have hf := (hok.at_ i hi).1
    have hkr : ∀ q ∈ (l.getD i nd0).kids, 0 ≤ q ∧ q < (i : Int) := fun q hq => chainL_kids _ _ _ (hok.at_ i hi).2 hok.low q (by simpa using hq)
    have htx := tx_eq ahdT l i hi hkr
    have hpj := part_join hok i hi
    have hmem : l.getD i nd0 ∈ l := by simp [hi]
    have hn64 := hnum _ hmem
    have hmk : ∀ {op : Int} {ks : List Int}, l.getD i nd0 = ⟨op, 0, ⟨#[]⟩, ks⟩ → ∀ (W : World) (base : Nat) (v : Value) (pvs : List Value), SpanCells W → OwnLs W base v (ks.map (kidPart l fr)) pvs → Calls Tryd.prog 37 #[.int .i64 op, .int .i64 0, .string ⟨#[]⟩, v] W fun e w' => ∃ ao cap, e = .returned (.tuple #[.slice ao (partL l (fr.getD i 0) i).length cap, .int .i64 0]) ∧ OwnN w' W.heap.size (.slice ao (partL l (fr.getD i 0) i).length cap) (partL l (fr.getD i 0) i) ∧ Below W.heap.size W w' := fun hx W base v pvs h1 h2 => make_part hbg hi hx W base v pvs h1 h2
    have hf' : formB (fillN (l.getD i nd0)) = true := by rw [fill_same hf]; exact hf
    generalize hx : l.getD i nd0 = x at *
    have hop : ∀ (ks : List Int), x = ⟨x.op, 0, ⟨#[]⟩, ks⟩ → 0 < ks.length → ks.length ≤ 3 → 3 ≤ x.op → x.op ≤ 17 → Calls Tryd.prog 36 #[.string S, .int .i64 (a : Int)] w fun e w' => RdA w (partL l (fr.getD i 0) i) (a + (tx ahdT l i).size) e w' := by
      intro ks hxe h0 h3 ho1 ho2
      have hks : x.kids = ks := by rw [hxe]
      rw [hks] at hkr
      have htx2 : tx ahdT l i = txt [40] ++ wdT x.op ++ blT (ks.map fun q => tx ahdT l q.toNat) ++ txt [41] := by
        rw [htx, hks, if_neg (by omega), ahd_eq]
        congr 3
        simp [kdP]
      obtain ⟨N, hN⟩ : ∃ N : Nat, x.op = (N : Int) := ⟨x.op.toNat, by omega⟩
      have hmk2 := hmk hxe
      rw [hN] at htx2 hmk2
      rw [htx2] at hb hst ⊢
      refine read_op w S a hT hz N (by omega) ks.length h0 h3 _ (ks.map (kidPart l fr)) _ (by simp) (by simp) hb (fun j hj a' W hW hb' hst' => ?_) hmk2
      have e1 : (ks.map fun q => tx ahdT l q.toNat).getD j ⟨#[]⟩ = tx ahdT l (ks.getD j 0).toNat := getD_mapB _ ks _ hj
      have e2 : (ks.map (kidPart l fr)).getD j [] = kidPart l fr (ks.getD j 0) := getD_mapB _ ks _ hj
      rw [e1] at hb' hst' ⊢
      rw [e2]
      have hq := hkr (ks.getD j 0) (by simp [hj])
      exact IH (ks.getD j 0).toNat (by omega) (by omega) a' W hW hb' hst'
    rcases nd_cases hf' with ⟨h1, h2, h4⟩ | ⟨h1, h2, h4, h5⟩ | ⟨hn0, hnm, hrest⟩
    · obtain ⟨op, n, nm, ks⟩ := x
      simp only at h1 h2 h4 hn64
      subst h1 h2 h4
      simp only at htx hpj
      have e1 : leafT ⟨1, n, ⟨#[]⟩, []⟩ = txt (itoa n) := by unfold leafT; simp
      have e2 : joinL 1 n ⟨#[]⟩ (([] : List Int).map (kidPart l fr)) = [⟨1, n, ⟨#[]⟩, []⟩] := rfl
      rw [if_pos (show ([] : List Int).length = 0 from rfl), e1] at htx
      rw [e2] at hpj
      rw [htx] at hb hst ⊢
      rw [hpj]
      have hW := wd_lit n
      unfold num64 at hn64
      by_cases hn : n < 0
      · have e3 : txt (itoa n) = txt [45] ++ txt (decDigits n.natAbs) := by rw [← txt_append]; unfold itoa; rw [if_pos hn]; rfl
        have := read_neg w S (txt (itoa n)) a hT hz hW hb hst n.natAbs (by omega) (by omega) e3
        rw [show -((n.natAbs : Nat) : Int) = n by omega] at this
        exact this
      · have e3 : txt (itoa n) = txt (decDigits n.toNat) := by unfold itoa; rw [if_neg hn]
        have := read_lit w S (txt (itoa n)) a hT hz hW hb hst n.toNat (by omega) e3
        rw [show ((n.toNat : Nat) : Int) = n by omega] at this
        exact this
    · obtain ⟨op, n, nm, ks⟩ := x
      simp only at h1 h2 h4 h5
      subst h2 h4
      have h1' : op = 2 := by
        rcases h1 with h | h
        · exact h
        · exfalso
          subst h
          unfold formB fitB at hf
          simp [aritI] at hf
      subst h1'
      simp only at htx hpj
      have e1 : leafT ⟨2, 0, nm, []⟩ = nm := by unfold leafT; simp
      have e2 : joinL 2 0 nm (([] : List Int).map (kidPart l fr)) = [⟨2, 0, nm, []⟩] := rfl
      rw [if_pos (show ([] : List Int).length = 0 from rfl), e1] at htx
      rw [e2] at hpj
      rw [htx] at hb hst ⊢
      rw [hpj]
      exact read_var w S nm a hT hz (wd_name h5).1 hb hst h5
    · have hxx : ∀ ks, x.kids = ks → x = ⟨x.op, 0, ⟨#[]⟩, ks⟩ := fun ks h => by
        obtain ⟨op, n, nm, ks'⟩ := x
        simp only at hn0 hnm h ⊢
        rw [hn0, hnm, h]
      rcases hrest with ⟨ho, b, hk⟩ | ⟨ho, b, c, hk⟩ | ⟨ho, b, c, d, hk⟩
      · exact hop _ (hxx _ hk) (by simp) (by simp) (by omega) (by omega)
      · exact hop _ (hxx _ hk) (by simp) (by simp) (by omega) (by omega)
      · exact hop _ (hxx _ hk) (by simp) (by simp) (by omega) (by omega)

theorem ok_of_snd {l : List Nd} {fr : List Nat} (hbg : begL l = some fr) : okSh l = true ∧ l.map fillN = l := by
  have hok := begOk_of (begL_some hbg).2.2.1
  have hfx : ∀ x ∈ l, formB x = true := fun x hx => by
    obtain ⟨j, hj, rfl⟩ := List.getElem_of_mem hx
    have := (hok.at_ j hj).1
    simpa [hj] using this
  have hm : l.map fillN = l := by
    conv => rhs; rw [← List.map_id l]
    exact List.map_congr_left fun x hx => fill_same (hfx x hx)
  have hno : ∀ x ∈ l, x.op ≠ 18 := fun x hx e => by
    have h := hfx x hx
    unfold formB fitB at h
    rw [e] at h
    simp [aritI] at h
  have h0 := (hls_zero l).2 hno
  refine ⟨?_, hm⟩
  unfold okSh
  rw [hm, h0]
  simp [sndB, hbg]

set_option maxRecDepth 20000 in
set_option maxHeartbeats 4000000 in
theorem showLisp_walk (w : World) (ao : Option Addr) (cap : Nat) (l : List Nd) (hT : Tb5 w ∧ Tabs w) (hR : Rd w ao cap l) (hF : FitX l) :
    Calls Tryd.prog 8 #[.slice ao l.length cap] w fun e w' => e = .returned (.bool true) ∧ Below w.heap.size w w' := by
  have hnum : ∀ x ∈ l, num64 x.n := hF.fit5W.num
  have HR : SldW (∀ W, Below w.heap.size w W → Rd W ao cap l) := ⟨fun W hW => hR.below hW hW.size⟩
  have HT : SldW (∀ W, Below w.heap.size w W → Tabs W) := ⟨fun W hW => hT.2.below hW⟩
  have HT5 : SldW (∀ W, Below w.heap.size w W → Tb5 W) := ⟨fun W hW => hT.1.below hW⟩
  have CA : SldW (Calls Tryd.prog 32 #[] w fun e w' => e = .returned (.bool true) ∧ Below w.heap.size w w') := ⟨awake_any hT.1⟩
  obtain ⟨X, hX⟩ : ∃ X, shS ahdT l = X := ⟨_, rfl⟩
  obtain ⟨E, hE⟩ : ∃ E, shE l = E := ⟨_, rfl⟩
  have CC : SldW (∀ W, Below w.heap.size w W → Calls Tryd.prog 11 #[.slice ao l.length cap] W fun e w' => ∃ ao' cap', e = .returned (.slice ao' l.length cap') ∧ Rd w' ao' cap' l ∧ Below W.heap.size W w') := ⟨fun W hW => copyR (HR.out W hW) hF.fit⟩
  have CS : SldW (∀ W xo xc, Below w.heap.size w W → Rd W xo xc l → Calls Tryd.prog 35 #[.slice xo l.length xc] W fun e w' => e = .returned (.tuple #[.string X, .int .i64 E]) ∧ Below W.heap.size W w') := ⟨fun W xo xc hW h => by
    have := lisp_any (HT5.out W hW) h hF.fit5W
    rw [hX, hE] at this
    exact this⟩
  have CM : SldW (∀ W xo xc, Rd W xo xc l → Below w.heap.size w W → Calls Tryd.prog 15 #[.slice xo l.length xc, .slice ao l.length cap] W fun e w' => e = .returned (.bool true) ∧ Below W.heap.size W w') := ⟨fun W xo xc h hW => sameR h (HR.out W hW) true (by simp)⟩
  obtain ⟨hb1, hb2⟩ := hR.bound
  unfold maxLen at hb2
  cases hbg : begL l with
  | some fr =>
    obtain ⟨hok, hmf⟩ := ok_of_snd hbg
    have hE0 : E = 0 := by rw [← hE]; unfold shE; rw [if_pos hok]
    have hl0 := (begL_some hbg).1
    have hXF : X = tx ahdT l (l.length - 1) := by rw [← hX]; unfold shS; rw [if_pos hok, shF_tx]
    have hsz : X.size ≤ 6500 := by rw [hXF]; exact tx_size ahd_ok (by rw [hmf]; exact hbg) hnum _
    have CK : SldW (∀ W, Below w.heap.size w W → Calls Tryd.prog 12 #[.slice ao l.length cap] W fun e w' => e = .returned (.int .i64 0) ∧ Below W.heap.size W w') := ⟨fun W hW => rchkR (HR.out W hW) hF.fit 0 (chkE_yes (by simp [sndB, hbg]))⟩
    have CRd : SldW (∀ W, Below w.heap.size w W → Calls Tryd.prog 36 #[.string X, .int .i64 0] W fun e w' => ∃ xo xc, e = .returned (.tuple #[.slice xo l.length xc, .int .i64 (X.size : Int)]) ∧ Rd w' xo xc l ∧ Below W.heap.size W w') := ⟨fun W hW => by
      have hbt := Bt.self X
      have hst : Stq X (0 + X.size) := .inl (by omega)
      have hbt2 : Bt X 0 (tx ahdT l (l.length - 1)) := by rw [← hXF]; exact hbt
      have hst2 : Stq X (0 + (tx ahdT l (l.length - 1)).size) := by rw [← hXF]; exact hst
      have := read_all (by omega) hbg hnum (l.length - 1) (by omega) 0 W (HT.out W hW) hbt2 hst2
      rw [← hXF, Nat.zero_add, (begL_some hbg).2.2.2] at this
      have ePl : partL l 0 (l.length - 1) = l := by
        unfold partL
        have e : l.length - 1 + 1 - 0 = l.length := by omega
        rw [e]
        simp [map_mvN_zero]
      rw [ePl] at this
      exact this.mono fun e w' ⟨xo, xc, h1, h2, h3⟩ => ⟨xo, xc, h1, Nodes_of_own h2 (Nat.le_refl _), h3⟩⟩
    subst hE0
    clear hT hR hF hX hE hnum hok hXF hbg hmf
    go_enter Tryd.func8, Tryd.ntmps8
    go_wp2_with fail
    refine CA.out.mono ?_
    rintro e w1 ⟨rfl, hq1⟩
    have HB1 : SldW (Below w.heap.size w w1) := ⟨hq1⟩
    clear hq1
    go_wp2_with fail
    refine (CC.out w1 HB1.out).mono ?_
    rintro e w2 ⟨co, cc, rfl, hR2, hq2⟩
    have HR2 : SldW _ := ⟨hR2⟩
    have HB2 : SldW (Below w.heap.size w w2) := ⟨HB1.out.trans (hq2.mono HB1.out.size)⟩
    clear hq2 hR2
    go_wp2_with fail
    refine (CS.out w2 co cc HB2.out HR2.out).mono ?_
    rintro e w3 ⟨rfl, hq3⟩
    have HB3 : SldW (Below w.heap.size w w3) := ⟨HB2.out.trans (hq3.mono HB2.out.size)⟩
    clear hq3
    go_wp2_with fail
    refine (CK.out w3 HB3.out).mono ?_
    rintro e w4 ⟨rfl, hq4⟩
    have HB4 : SldW (Below w.heap.size w w4) := ⟨HB3.out.trans (hq4.mono HB3.out.size)⟩
    clear hq4
    go_wp2_with fail
    refine (CRd.out w4 HB4.out).mono ?_
    rintro e w5 ⟨xo, xc, rfl, hX5, hq5⟩
    have HB5 : SldW (Below w.heap.size w w5) := ⟨HB4.out.trans (hq5.mono HB4.out.size)⟩
    have D1 : SldW _ := ⟨CM.out w5 xo xc hX5 HB5.out⟩
    clear hX5 hq5
    go_wp2_with fail
    refine D1.out.mono ?_
    rintro e w6 ⟨rfl, hq6⟩
    have HB6 : SldW (Below w.heap.size w w6) := ⟨HB5.out.trans (hq6.mono HB5.out.size)⟩
    go_wp2_with fail
    go_ret
    exact ⟨rfl, HB6.out⟩
  | none =>
    have CK : SldW (∀ W, Below w.heap.size w W → Calls Tryd.prog 12 #[.slice ao l.length cap] W fun e w' => e = .returned (.int .i64 1) ∧ Below W.heap.size W w') := ⟨fun W hW => rchkR (HR.out W hW) hF.fit 1 (chkE_no (by simp [sndB, hbg]))⟩
    have CO : SldW (∀ W, Below w.heap.size w W → Calls Tryd.prog 34 #[.slice ao l.length cap] W fun e w' => e = .returned (.bool (okSh l)) ∧ Below W.heap.size W w') := ⟨fun W hW => ref5Sound_any (HR.out W hW) hF.fit⟩
    have pre : ∀ Q : Bool, okSh l = Q → (Q = true → E = 0) ∧ (Q = false → E = 1) := fun Q hq => ⟨fun h => by rw [← hE]; unfold shE; rw [if_pos (by rw [hq, h])], fun h => by rw [← hE]; unfold shE; rw [if_neg (by rw [hq, h]; decide)]⟩
    cases hok : okSh l with
    | true =>
      have hE0 := (pre _ hok).1 rfl
      rw [hok] at CO
      subst hE0
      clear hT hR hF hX hE hnum hok hbg pre
      go_enter Tryd.func8, Tryd.ntmps8
      go_wp2_with fail
      refine CA.out.mono ?_
      rintro e w1 ⟨rfl, hq1⟩
      have HB1 : SldW (Below w.heap.size w w1) := ⟨hq1⟩
      clear hq1
      go_wp2_with fail
      refine (CC.out w1 HB1.out).mono ?_
      rintro e w2 ⟨co, cc, rfl, hR2, hq2⟩
      have HR2 : SldW _ := ⟨hR2⟩
      have HB2 : SldW (Below w.heap.size w w2) := ⟨HB1.out.trans (hq2.mono HB1.out.size)⟩
      clear hq2 hR2
      go_wp2_with fail
      refine (CS.out w2 co cc HB2.out HR2.out).mono ?_
      rintro e w3 ⟨rfl, hq3⟩
      have HB3 : SldW (Below w.heap.size w w3) := ⟨HB2.out.trans (hq3.mono HB2.out.size)⟩
      clear hq3
      go_wp2_with fail
      refine (CK.out w3 HB3.out).mono ?_
      rintro e w4 ⟨rfl, hq4⟩
      have HB4 : SldW (Below w.heap.size w w4) := ⟨HB3.out.trans (hq4.mono HB3.out.size)⟩
      clear hq4
      go_wp2_with fail
      refine (CO.out w4 HB4.out).mono ?_
      rintro e w5 ⟨rfl, hq5⟩
      have HB5 : SldW (Below w.heap.size w w5) := ⟨HB4.out.trans (hq5.mono HB4.out.size)⟩
      clear hq5
      go_wp2_with fail
      go_ret
      exact ⟨rfl, HB5.out⟩
    | false =>
      have hE0 := (pre _ hok).2 rfl
      rw [hok] at CO
      subst hE0
      clear hT hR hF hX hE hnum hok hbg pre
      go_enter Tryd.func8, Tryd.ntmps8
      go_wp2_with fail
      refine CA.out.mono ?_
      rintro e w1 ⟨rfl, hq1⟩
      have HB1 : SldW (Below w.heap.size w w1) := ⟨hq1⟩
      clear hq1
      go_wp2_with fail
      refine (CC.out w1 HB1.out).mono ?_
      rintro e w2 ⟨co, cc, rfl, hR2, hq2⟩
      have HR2 : SldW _ := ⟨hR2⟩
      have HB2 : SldW (Below w.heap.size w w2) := ⟨HB1.out.trans (hq2.mono HB1.out.size)⟩
      clear hq2 hR2
      go_wp2_with fail
      refine (CS.out w2 co cc HB2.out HR2.out).mono ?_
      rintro e w3 ⟨rfl, hq3⟩
      have HB3 : SldW (Below w.heap.size w w3) := ⟨HB2.out.trans (hq3.mono HB2.out.size)⟩
      clear hq3
      go_wp2_with fail
      refine (CK.out w3 HB3.out).mono ?_
      rintro e w4 ⟨rfl, hq4⟩
      have HB4 : SldW (Below w.heap.size w w4) := ⟨HB3.out.trans (hq4.mono HB3.out.size)⟩
      clear hq4
      go_wp2_with fail
      refine (CO.out w4 HB4.out).mono ?_
      rintro e w5 ⟨rfl, hq5⟩
      have HB5 : SldW (Below w.heap.size w w5) := ⟨HB4.out.trans (hq5.mono HB4.out.size)⟩
      clear hq5
      go_wp2_with fail
      go_ret
      exact ⟨rfl, HB5.out⟩
end Go.Proofs.YtdcfffcimikfeaaDoor

set_option linter.unusedVariables false
namespace Go.Proofs.YtdcfffcimikfeaaDoor.showlisp
open Go.ChangeShapes Go.WideShapes Go.ChangeAt Go.RowKit Go.WideMaps Go.WideElems
open Go.ChangeMaps (open_string shut_string)

set_option maxRecDepth 100000 in
set_option maxHeartbeats 1000000 in
theorem contract (H : Type) (enc : TypeId × Value → H) (W : World) (base : Nat) (args : Array Value) (ds gs : List (DataW H)) (before : List MemPlace)
    (hval : ∀ (j : Nat) t v, Tryd.f8.params[j]? = some t → args[j]? = some v → Value.okWide Tryd.prog W .any base t v)
    (hW : DataW.Whole enc Tryd.prog Tryd.f8.params.toList Rows.showLispSpec.vars false W args.toList ds gs before)
    (hsz : (DataW.weightsEach Tryd.prog (Tryd.f8.params.toList ++ (OpenSpec.ofChange Rows.showLispSpec).bare.plain.varTypes Tryd.prog) (ds ++ gs)).all (· ≤ reachBytes) = true)
    (hL : laidMetH Tryd.prog Rows.showLispRow.laid W) :
    Calls Tryd.prog 8 args W fun e W' => ∃ v, e = .returned v ∧ Rows.showLispSpec.post enc Tryd.prog Tryd.f8 false true false false W args v W' := by
  have hW' := hW
  have hlt : ∀ x ∈ before, x.block < W.heap.size := fun x hx => by simpa using hW'.lt x hx
  obtain ⟨p, q, hA0, hV, rfl, hfz, hnd⟩ := hW
  have hA : DataW.TrodAll enc Tryd.prog W 0 (fun _ => true) true Tryd.f8.params.toList args.toList ds p := hA0
  rw [Tryd.params8 ] at hA hval
  obtain ⟨v0, vs0, d0, ds0, p0, q0, hargs0, rfl, rfl, h0, r0⟩ := trodAll_cons hA
  obtain ⟨rfl, rfl, rfl⟩ := trodAll_nil r0
  obtain rfl : args = #[v0] := by cases args; simp_all
  obtain ⟨rfl, rfl⟩ := trodVars_none hV
  clear hA0
  simp only [List.append_nil] at hW' hsz
  have h0k := h0
  have ok0 : Value.okWide Tryd.prog W .any base 22 v0 := hval 0 22 v0 (by rfl) (by rfl)
  obtain ⟨a0, n0, c0, rfl⟩ := okWide_slice Tryd.underlying22 ok0
  obtain ⟨fu0, hf0⟩ := h0
  obtain ⟨ao0, cap0, l0, he0, R0, hF0⟩ := open_nodesX (v := .slice a0 n0 c0) hf0
  cases he0
  have F0 := hF0 fun n hn => of_decide_eq_true (List.all_eq_true.1 hsz n (DataW.weights_mem_each (j := 0) (t := 22) (by kernel_rfl) rfl n hn))
  refine (showLisp_walk W a0 c0 l0 (tb7_of_laid hL)  R0  F0).mono fun e W' ⟨he, hg⟩ => ?_
  subst he
  exact ⟨_, rfl, post_below (pv := []) hW' (fun _ _ _ => trodAll_cons_mk (shut_bool Tryd.underlying4 _) trodAll_mk0) (fun sp hsp => trodAll_cons_mk (Trod_stays Tryd.laidOut (by kernel_rfl) (of_decide_eq_true (by kernel_rfl)) h0k (fun x hx => hg.same (hlt x (by simp [hx]))) (fun x hx => hsp x (by simp [hx]))) trodAll_mk0) (fun _ _ => rfl) (by simp) (hg.frame _)⟩

end Go.Proofs.YtdcfffcimikfeaaDoor.showlisp
