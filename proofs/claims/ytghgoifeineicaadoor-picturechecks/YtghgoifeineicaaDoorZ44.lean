/-
  PgE, ExOpen, PgO.
-/
import Derived.Test.YtghgoifeineicaaDoorChecked
import GoSem.PinnedTables
import GoSem.Claim
import GoSem.ClaimJoined
import GoSem.ClaimMapViews
import Derived.JoinedTies
import Derived.KernelRfl
import Derived.Shelf.Unicode.DecodeSlow
import Derived.Laws.RangeAny
import Derived.Shelf.Strconv.Itoa0
import Derived.Shelf.LaysM
import Derived.Shelf.Strconv.Clone
import Derived.Shelf.Unicode.DecodeAny
import Derived.Shelf.Slices.CompactS
import Derived.Test.YtghgoifeineicaaDoorProg
import Derived.WalkKit
import Derived.Deep.DeepFit
import Derived.Lib.OthersKept
import Derived.Lib.RuneCountTail
import Derived.Lib.LaidU8
import Derived.MakeChecks
import Derived.ProofKit
import Derived.OpenShut
import Derived.Deep.DeepHandedRow
import Derived.Deep.AppendLies
import Derived.Deep.OwnRows
import Derived.Laws.AppendOwnNone
import Derived.Deep.QuietTactic
import Derived.BigQuiet
import Derived.Deep.RegionWith
import Derived.Laws.DeepStrings4
import Derived.Below
import Derived.Lib.MapLaws
import Derived.Sort.Walk0
import Derived.Lib.QuietBelow
import Derived.StillTail
import Derived.Deep.RegionHeld3
import Derived.Laws.AppendOwn
import Derived.Deep.DeepCutAuto
import Derived.Maps.OwnSet
import Derived.Maps.Keyed
import Derived.DeepKeys4
import Derived.Laws.ResultCell
import Derived.Laws.CopyOwn
import Derived.Laws.OwnMore
import Derived.Deep.RegionLaw
import Derived.Laws.IdiomStrings
import Derived.WalkSmall
import Derived.Lib.SlBytesRow
import Derived.StringKeys
import Derived.Deep.Slices
import Derived.SizedLaws
import Derived.Test.YtghgoifeineicaaDoorRows
import Derived.Test.YtghgoifeineicaaDoorZ01
import Derived.Test.YtghgoifeineicaaDoorZ02
import Derived.Test.YtghgoifeineicaaDoorZ03
import Derived.Test.YtghgoifeineicaaDoorZ04
import Derived.Test.YtghgoifeineicaaDoorZ05
import Derived.Test.YtghgoifeineicaaDoorZ06
import Derived.Test.YtghgoifeineicaaDoorZ07
import Derived.Test.YtghgoifeineicaaDoorZ08
import Derived.Test.YtghgoifeineicaaDoorZ09
import Derived.Test.YtghgoifeineicaaDoorZ10
import Derived.Test.YtghgoifeineicaaDoorZ11
import Derived.Test.YtghgoifeineicaaDoorZ12
import Derived.Test.YtghgoifeineicaaDoorZ13
import Derived.Test.YtghgoifeineicaaDoorZ14
import Derived.Test.YtghgoifeineicaaDoorZ15
import Derived.Test.YtghgoifeineicaaDoorZ16
import Derived.Test.YtghgoifeineicaaDoorZ17
import Derived.Test.YtghgoifeineicaaDoorZ18
import Derived.Test.YtghgoifeineicaaDoorZ19
import Derived.Test.YtghgoifeineicaaDoorZ20
import Derived.Test.YtghgoifeineicaaDoorZ21
import Derived.Test.YtghgoifeineicaaDoorZ22
import Derived.Test.YtghgoifeineicaaDoorZ23
import Derived.Test.YtghgoifeineicaaDoorZ24
import Derived.Test.YtghgoifeineicaaDoorZ25
import Derived.Test.YtghgoifeineicaaDoorZ26
import Derived.Test.YtghgoifeineicaaDoorZ27
import Derived.Test.YtghgoifeineicaaDoorZ28
import Derived.Test.YtghgoifeineicaaDoorZ29
import Derived.Test.YtghgoifeineicaaDoorZ30
import Derived.Test.YtghgoifeineicaaDoorZ31
import Derived.Test.YtghgoifeineicaaDoorZ32
import Derived.Test.YtghgoifeineicaaDoorZ33
import Derived.Test.YtghgoifeineicaaDoorZ34
import Derived.Test.YtghgoifeineicaaDoorZ35
import Derived.Test.YtghgoifeineicaaDoorZ36
import Derived.Test.YtghgoifeineicaaDoorZ37
import Derived.Test.YtghgoifeineicaaDoorZ38
import Derived.Test.YtghgoifeineicaaDoorZ39
import Derived.Test.YtghgoifeineicaaDoorZ40
import Derived.Test.YtghgoifeineicaaDoorZ41
import Derived.Test.YtghgoifeineicaaDoorZ42
import Derived.Test.YtghgoifeineicaaDoorZ43
import Derived.Test.YtghgoifeineicaaDoorZA1
import Derived.Test.YtghgoifeineicaaDoorZA2
import Derived.Test.YtghgoifeineicaaDoorZA3
import Derived.Test.YtghgoifeineicaaDoorZA4
set_option linter.unusedSimpArgs false
set_option linter.unusedVariables false
namespace Go.Proofs.YtghgoifeineicaaDoor
open Go.RowKit Go.Lib Go.Sort

set_option maxHeartbeats 2000000 in
theorem pCheck_any (cs : List Cls) (roots : List Int) (ca ra : Option Addr) (cc rc : Nat) (w : World) (T : Tabs w) (hc : Clss w w.heap.size (.slice ca cs.length cc) cs) (hr : Ints w w.heap.size (.slice ra roots.length rc) roots) (hp : PicOk cs roots) :
    Calls Tryd.prog 36 #[.agg #[.slice ca cs.length cc, .slice ra roots.length rc]] w fun e w' => CkQ (ofB cs roots) e ∧ Below w.heap.size w w' := by
  obtain ⟨W1, hW1⟩ : ∃ W1, w.alloc (.cells #[.slice ca cs.length cc, .slice ra roots.length rc] 56) = W1 := ⟨_, rfl⟩
  have hb1 : Below w.heap.size w W1 := by rw [← hW1]; exact (Below.refl _ _).alloc (Nat.le_refl _) _
  have hk1 : W1.heap[w.heap.size]? = some (.cells #[.slice ca cs.length cc, .slice ra roots.length rc] 56 (0, 0)) := by rw [← hW1, Deep.blk_alloc_new]
  have p0 : W1.cell? ⟨w.heap.size, 0, none⟩ = some (.slice ca cs.length cc) := by simp [World.cell?, hk1]
  have p1 : W1.cell? ⟨w.heap.size, 1, none⟩ = some (.slice ra roots.length rc) := by simp [World.cell?, hk1]
  have CO := Sld.mk (Gt.gOf_any cs roots ca ra cc rc W1 (T.below hb1) (hc.below hb1 hb1.size) (hr.below hb1 hb1.size) hp.nodes hp.roots (fun c hc => ⟨(hp.num c hc).1, (hp.num c hc).2.1⟩))
  have HW1 := Sld.mk hW1
  have HB1 := Sld.mk hb1
  generalize ofB cs roots = B at *
  clear hW1 hb1 hk1 hc hr T hp
  go_enter Tryd.func36, Tryd.ntmps36
  go_wp2_with fail
  rw [HW1.out]
  go_wp2_with fail
  refine CO.out.mono ?_
  rintro e w2 ⟨⟨v, z, rfl, hz⟩, hb2⟩
  have HZ := Sld.mk hz
  have HB2 := Sld.mk (HB1.out.trans (hb2.mono HB1.out.size))
  clear hb2 CO hz
  go_wp2_with fail
  go_ret
  exact ⟨⟨z, rfl, HZ.out⟩, HB2.out⟩
/-- What picture.Nodes answers. -/
def PnQ (b : Bool) (m : Nat) (e : Ending) : Prop := (b = true ∧ e = .returned (.tuple #[.int .i64 (m : Int), .int .i64 0])) ∨ (b = false ∧ e = .returned (.tuple #[.int .i64 0, .int .i64 1]))
set_option maxRecDepth 20000 in
set_option maxHeartbeats 4000000 in
theorem pNodes_any (cs : List Cls) (roots : List Int) (ca ra : Option Addr) (cc rc : Nat) (w : World) (T : Tabs w) (hc : Clss w w.heap.size (.slice ca cs.length cc) cs) (hr : Ints w w.heap.size (.slice ra roots.length rc) roots) (hp : PicOk cs roots) :
    Calls Tryd.prog 34 #[.agg #[.slice ca cs.length cc, .slice ra roots.length rc]] w fun e w' => PnQ (ofB cs roots) (mnyL cs) e ∧ Below w.heap.size w w' := by
  obtain ⟨W1, hW1⟩ : ∃ W1, w.alloc (.cells #[.slice ca cs.length cc, .slice ra roots.length rc] 56) = W1 := ⟨_, rfl⟩
  have hb1 : Below w.heap.size w W1 := by rw [← hW1]; exact (Below.refl _ _).alloc (Nat.le_refl _) _
  have hk1 : W1.heap[w.heap.size]? = some (.cells #[.slice ca cs.length cc, .slice ra roots.length rc] 56 (0, 0)) := by rw [← hW1, Deep.blk_alloc_new]
  have HP : Sld (∀ V, Below W1.heap.size W1 V → V.cell? ⟨w.heap.size, 0, none⟩ = some (.slice ca cs.length cc) ∧ Below w.heap.size w V) := ⟨fun V hV => by
    have h1 := (hV.block _ (lt_of_block hk1)).trans hk1
    exact ⟨by simp [World.cell?, h1], hb1.trans (hV.mono hb1.size)⟩⟩
  have p0 : W1.cell? ⟨w.heap.size, 0, none⟩ = some (.slice ca cs.length cc) := by simp [World.cell?, hk1]
  have p1 : W1.cell? ⟨w.heap.size, 1, none⟩ = some (.slice ra roots.length rc) := by simp [World.cell?, hk1]
  have CO := Sld.mk (pCheck_any cs roots ca ra cc rc W1 (T.below hb1) (hc.below hb1 hb1.size) (hr.below hb1 hb1.size) hp)
  have HOK : Sld (ofB cs roots = true → mnyL cs ≤ 8192) := ⟨fun h => (ofB_ok h).many⟩
  have HW1 := Sld.mk hW1
  have HC := Sld.mk (hc.below hb1 hb1.size)
  obtain ⟨_, hcc1, hcc2⟩ := hc.bnd
  generalize ofB cs roots = B at *
  clear hW1 hb1 hk1 hc hr T hp
  go_enter Tryd.func34, Tryd.ntmps34
  go_wp2_with fail
  rw [HW1.out]
  go_wp2_with fail
  refine CO.out.mono ?_
  rintro e w2 ⟨⟨z, rfl, hz⟩, hb2⟩
  obtain ⟨q0, hbw⟩ := HP.out w2 hb2
  have HBW := Sld.mk hbw
  have HB2 := Sld.mk hb2
  clear hb2 CO hbw p0 p1
  rcases hz with ⟨rfl, hB⟩ | ⟨rfl, hB⟩
  · have hm := HOK.out hB
    have HBT := Sld.mk hB
    clear hB HOK
    go_wp2_with fail
    go_loopw [5, 16] (fun s q wr => ∃ j : Nat, j ≤ cs.length ∧ q = .int .i64 j ∧ s = .int .i64 (mnyL (cs.take j) : Nat) ∧ Sld (Below W1.heap.size W1 wr)) (fun _ q _ => cs.length - (RowKit.intOf q).toNat)
    case atStart => exact ⟨0, by omega, rfl, by simp [mnyL], HB2⟩
    case round =>
      obtain ⟨j, hj, rfl, rfl, HB⟩ := hrel
      by_cases hlt : j < cs.length
      · obtain ⟨cb, co, na, nc, rfl, hcb, c0, c1, hN⟩ := (HC.out.below HB.out HB.out.size).cellC hlt
        obtain ⟨_, hn1, hn2⟩ := hN.bnd
        have hmt := mnyL_take j cs hlt
        have hle : mnyL (cs.take (j + 1)) ≤ 8192 := by
          have e3 := congrArg mnyL (List.take_append_drop (j + 1) cs).symm
          unfold mnyL at e3 hm ⊢
          rw [List.map_append, List.sum_append] at e3
          omega
        have hcl : (cs.getD j cls0).nodes.length = (clA cs j).nodes.length := rfl
        rw [hcl] at hmt
        have HMT := Sld.mk hmt
        rw [hmt] at hle
        obtain ⟨V1, hV1⟩ : ∃ V1, wr.alloc (.cells #[.slice na (clA cs j).nodes.length nc, .int .i64 (clA cs j).size] 93) = V1 := ⟨_, rfl⟩
        have hk2 : V1.heap[wr.heap.size]? = some (.cells #[.slice na (clA cs j).nodes.length nc, .int .i64 (clA cs j).size] 93 (0, 0)) := by rw [← hV1, Deep.blk_alloc_new]
        have x0 : V1.cell? ⟨wr.heap.size, 0, none⟩ = some (.slice na (clA cs j).nodes.length nc) := by simp [World.cell?, hk2]
        have HBV : Sld (Below W1.heap.size W1 V1) := ⟨by rw [← hV1]; exact HB.out.alloc HB.out.size _⟩
        have HV1 := Sld.mk hV1
        generalize mnyL (cs.take j) = mj at *
        generalize (clA cs j).nodes.length = nl at *
        generalize (clA cs j).size = cz at *
        clear hN hmt hcl hV1 hk2
        go_wp2_with (rw [HV1.out])
        refine ⟨⟨j + 1, by omega, by go_num, ?_, HBV⟩, by simp [RowKit.intOf]; omega⟩
        rw [HMT.out]; go_num
      · have hje : j = cs.length := by omega
        subst hje
        have HE : Sld (mnyL (cs.take cs.length) = mnyL cs) := ⟨by rw [List.take_length]⟩
        have HBX := Sld.mk ((HP.out wr HB.out).2)
        go_wp2_with fail
        go_ret2
        exact ⟨.inl ⟨HBT.out, by rw [← HE.out]; rfl⟩, HBX.out⟩
  · have HBT := Sld.mk hB
    clear hB
    go_wp2_with fail
    go_ret2
    exact ⟨.inr ⟨HBT.out, rfl⟩, HBW.out⟩
end Go.Proofs.YtghgoifeineicaaDoor


set_option linter.unusedSimpArgs false
set_option linter.unusedVariables false
namespace Go.Proofs.YtghgoifeineicaaDoor
open Go.RowKit Go.Lib Go.ChangeShapes Go.WideShapes Go.Deep

theorem Tryd.laidOut : laidOutB Tryd.prog = true := by kernel_rfl
theorem Tryd.cells3 : Tryd.prog.cellsOf 3 = 1 := by kernel_rfl
theorem Tryd.cells2 : Tryd.prog.cellsOf 2 = 1 := by kernel_rfl
theorem Tryd.cellsStr : Tryd.prog.cellsOf 9 = 1 := by kernel_rfl
theorem Tryd.cellsInts : Tryd.prog.cellsOf 41 = 1 := by kernel_rfl
theorem Tryd.cellsNode : Tryd.prog.cellsOf 43 = 4 := by kernel_rfl
theorem Tryd.bytes3 : Tryd.prog.bytesOf 3 = 8 := by kernel_rfl
theorem Tryd.bytesNode : Tryd.prog.bytesOf 43 = 56 := by kernel_rfl

theorem len4 {α : Type} (l : List α) (h : l.length = 4) : ∃ a b c d, l = [a, b, c, d] := by
  match l, h with
  | [a, b, c, d], _ => exact ⟨a, b, c, d, rfl⟩

theorem spot_none {w : World} {a : Addr} {v : Value} (h : w.cell? a = some v) : a.spot = none := by
  unfold World.cell? at h
  split at h
  · split at h
    · cases h
    · rename_i hs; simpa using hs
  · cases h

section
variable {H : Type} {enc : TypeId × Value → H} {w : World}

theorem mem_weightsAll {P : Program} {e : TypeId} {d : DataW H} {n : Nat} : ∀ {ds : List (DataW H)}, d ∈ ds → n ∈ d.weights P e → n ∈ DataW.weightsAll P e ds
  | d0 :: ds, hd, hn => by
    simp only [DataW.weightsAll, List.mem_append]
    rcases List.mem_cons.1 hd with rfl | hd
    · exact .inl hn
    · exact .inr (mem_weightsAll hd hn)

end

end Go.Proofs.YtghgoifeineicaaDoor


set_option linter.unusedSimpArgs false
set_option linter.unusedVariables false
namespace Go.Proofs.YtghgoifeineicaaDoor
open Go.RowKit Go.Lib Go.ChangeShapes Go.WideShapes Go.Deep

theorem Tryd.cellsNodesV : Tryd.prog.cellsOf 22 = 1 := by kernel_rfl
theorem Tryd.cellsCls : Tryd.prog.cellsOf 93 = 2 := by kernel_rfl
theorem Tryd.bytesCls : Tryd.prog.bytesOf 93 = 32 := by kernel_rfl
theorem Tryd.cellsClss : Tryd.prog.cellsOf 54 = 1 := by kernel_rfl
theorem Tryd.cellsPic : Tryd.prog.cellsOf 56 = 2 := by kernel_rfl
theorem len2 {α : Type} (l : List α) (h : l.length = 2) : ∃ a b, l = [a, b] := by
  match l, h with
  | [a, b], _ => exact ⟨a, b, rfl⟩
theorem n6_wf {z : Int} (h : (Lit.int .i64 z).wf = true) : N6 z := by
  have e1 : IntKind.min .i64 = -9223372036854775808 := by decide
  have e2 : IntKind.max .i64 = 9223372036854775807 := by decide
  simp only [Lit.wf, e1, e2, Bool.and_eq_true, decide_eq_true_eq] at h
  exact h
structure NdW (y : Nd) : Prop where
  kl : y.kids.length * 8 ≤ 140737488351232
  nm : y.name.size ≤ 281474976710656
section
variable {H : Type} {enc : TypeId × Value → H} {w : World}
theorem open_kidsP {fuel : Nat} {v : Value} {x : DataW H × List MemPlace} (h : DataW.trod enc Tryd.prog w 0 (fun _ => true) true fuel 41 [v] = some x) :
    ∃ ks, Ints w w.heap.size v ks ∧ (∀ k ∈ ks, N6 k) ∧ ((∀ n ∈ x.1.weights Tryd.prog 41, n ≤ reachBytes) → ks.length * 8 ≤ 140737488351232) := by
  rcases open_ints Tryd.underlying41 Tryd.underlying3 Tryd.cells3 h with ⟨hcs, rfl⟩ | ⟨a, len, cap, zs, hcs, _, hl, hm, hz, rfl, hc, hwf⟩
  · simp only [List.cons.injEq, and_true] at hcs
    subst hcs
    exact ⟨[], ⟨none, 0, rfl, by simp, ⟨by simp [maxLen], fun _ => rfl⟩, .inl rfl⟩, (fun k hk => nomatch hk), fun _ => by simp⟩
  · simp only [List.cons.injEq, and_true] at hcs
    subst hcs
    simp only [if_true] at hz
    have hlen : (zs.take len).length = len := by simp; omega
    refine ⟨zs.take len, ⟨some a, cap, by rw [hlen], by omega, ⟨hm, by simp⟩, ?_⟩, fun k hk => n6_wf (hwf k (List.mem_of_mem_take hk)), fun hw => ?_⟩
    · by_cases h0 : len = 0
      · left; exact List.length_eq_zero_iff.1 (by omega)
      · right
        have hc0 := hc 0 (by omega)
        obtain ⟨b, o, sp⟩ := a
        have hsp : sp = none := by
          have e : (⟨b, o, sp⟩ : Addr).add 0 = ⟨b, o, sp⟩ := rfl
          rw [e] at hc0; exact spot_none hc0
        subst hsp
        refine ⟨b, o, rfl, World.block_lt_of_cell? _ _ hc0, fun j hj => ?_⟩
        rw [hlen] at hj
        have := hc j (by omega)
        rw [Go.WideShapes.add_plain] at this
        rw [this]
        simp [List.getElem?_take, hj]
    · have := hw ((((lits .i64 (zs.take len)).length : Nat) + (lits .i64 (zs.drop len)).length) * Tryd.prog.bytesOf 3) (by simp only [DataW.weights, Tryd.underlying41 ]; exact List.mem_cons_self ..)
      rw [Tryd.bytes3] at this
      simp only [lits, List.length_map, List.length_take, List.length_drop, reachBytes] at this
      rw [hlen]; omega
theorem open_nodeP {fuel : Nat} {cs : List Value} {x : DataW H × List MemPlace} (h : DataW.trod enc Tryd.prog w 0 (fun _ => true) true fuel 43 cs = some x) :
    ∃ (y : Nd) (kv : Value), cs = [.int .i64 y.op, .int .i64 y.n, .string y.name, kv] ∧ Ints w w.heap.size kv y.kids ∧ (N6 y.n ∧ ∀ k ∈ y.kids, N6 k) ∧ ((∀ n ∈ x.1.weights Tryd.prog 43, n ≤ reachBytes) → NdW y) := by
  obtain ⟨xs, n, _, rfl, hl, hxl, hall⟩ := DataW.trod_struct Tryd.underlying43 h
  rw [Tryd.cellsNode] at hl
  obtain ⟨v0, v1, v2, v3, rfl⟩ := len4 cs hl
  obtain ⟨x0, x1, x2, x3, rfl⟩ := len4 xs hxl
  have g0 : DataW.trod enc Tryd.prog w 0 (fun _ => true) true n 3 (([v0, v1, v2, v3].drop 0).take (Tryd.prog.cellsOf 3)) = some x0 := hall 0 _ rfl
  have g1 : DataW.trod enc Tryd.prog w 0 (fun _ => true) true n 2 (([v0, v1, v2, v3].drop 1).take (Tryd.prog.cellsOf 2)) = some x1 := hall 1 _ rfl
  have g2 : DataW.trod enc Tryd.prog w 0 (fun _ => true) true n 9 (([v0, v1, v2, v3].drop 2).take (Tryd.prog.cellsOf 9)) = some x2 := hall 2 _ rfl
  have g3 : DataW.trod enc Tryd.prog w 0 (fun _ => true) true n 41 (([v0, v1, v2, v3].drop 3).take (Tryd.prog.cellsOf 41)) = some x3 := hall 3 _ rfl
  rw [Tryd.cells3] at g0
  rw [Tryd.cells2] at g1
  rw [Tryd.cellsStr] at g2
  rw [Tryd.cellsInts] at g3
  obtain ⟨z0, k0, _, _⟩ := DataW.trod_int Tryd.underlying3 g0
  obtain ⟨z1, k1, _, hz1⟩ := DataW.trod_int Tryd.underlying2 g1
  obtain ⟨s, k2, hx2, hs⟩ := DataW.trod_string Tryd.underlying9 g2
  simp at k0 k1 k2
  subst k0; subst k1; subst k2
  obtain ⟨ks, hI, hk6, hw⟩ := open_kidsP (v := v3) g3
  refine ⟨⟨z0, z1, s, ks⟩, v3, rfl, hI, ⟨n6_wf hz1, hk6⟩, fun hh => ⟨hw fun q hq => hh q ?_, ?_⟩⟩
  · simp only [DataW.weights, Tryd.underlying43 ]
    exact DataW.weights_mem_each (j := 3) (t := 41) (d := x3.1) rfl rfl q hq
  · have := hh s.data.toList.length (by
      simp only [DataW.weights, Tryd.underlying43 ]
      refine DataW.weights_mem_each (j := 2) (t := 9) (d := x2.1) rfl rfl _ ?_
      rw [hx2]
      simp [DataW.weights])
    have e : s.data.toList.length = s.size := Array.length_toList
    rw [e] at this
    unfold reachBytes at this
    show s.size ≤ 281474976710656
    omega
theorem open_nodesP {fuel : Nat} {v : Value} {x : DataW H × List MemPlace} (h : DataW.trod enc Tryd.prog w 0 (fun _ => true) true fuel 22 [v] = some x) :
    ∃ (ao : Option Addr) (cap : Nat) (l : List Nd), v = .slice ao l.length cap ∧ Nodes w w.heap.size v l ∧ (∀ y ∈ l, N6 y.n ∧ ∀ k ∈ y.kids, N6 k) ∧ ((∀ n ∈ x.1.weights Tryd.prog 22, n ≤ reachBytes) → l.length * 56 ≤ 140737488351232 ∧ ∀ y ∈ l, NdW y) := by
  rcases open_slice Tryd.underlying22 h with ⟨hcs, rfl⟩ | ⟨a, len, cap, m, n, D, Pl, hcs, _, hl, hm, hmm, rfl, hx⟩
  · simp only [List.cons.injEq, and_true] at hcs
    subst hcs
    exact ⟨none, 0, [], rfl, ⟨none, 0, rfl, by simp, by simp, .inl rfl⟩, (fun y hy => nomatch hy), fun _ => ⟨by simp, fun y hy => nomatch hy⟩⟩
  · simp only [List.cons.injEq, and_true] at hcs
    subst hcs
    simp only [if_true] at hmm
    subst hmm
    have each : ∀ i, i < m → ∃ y : Nd × Value, ∃ cs', w.cells? 0 (a.add (i * 4)) 4 = some cs' ∧ cs' = [.int .i64 y.1.op, .int .i64 y.1.n, .string y.1.name, y.2] ∧ Ints w w.heap.size y.2 y.1.kids ∧ (N6 y.1.n ∧ ∀ k ∈ y.1.kids, N6 k) ∧ ((∀ n ∈ (D i).weights Tryd.prog 43, n ≤ reachBytes) → NdW y.1) := by
      intro i hi
      obtain ⟨cs', h1, h2⟩ := hx i hi
      rw [Tryd.cellsNode] at h1
      obtain ⟨y, kv, e, h3, h4, h5⟩ := open_nodeP h2
      exact ⟨(y, kv), cs', h1, e, h3, h4, h5⟩
    have : Inhabited (Nd × Value) := ⟨(nd0, .slice none 0 0)⟩
    obtain ⟨q, hq⟩ := choose_lt each
    have hlen : ((List.range len).map fun i => (q i).1).length = len := by simp
    have hget : ∀ i, i < len → ((List.range len).map fun i => (q i).1).getD i nd0 = (q i).1 := fun i hi => by simp [hi]
    refine ⟨some a, m, (List.range len).map fun i => (q i).1, by rw [hlen], ⟨some a, m, by rw [hlen], by rw [hlen]; exact hl, hm, ?_⟩, fun y hy => ?_, fun hw => ⟨?_, fun y hy => ?_⟩⟩
    · by_cases h0 : len = 0
      · left; subst h0; rfl
      · right
        have hc0 : w.cell? a = some (.int .i64 (q 0).1.op) := by
          obtain ⟨cs', h1, rfl, _⟩ := hq 0 (by omega)
          have := (World.cells?_some h1).2.2 0 (by omega)
          rw [Nat.zero_mul] at this
          exact this
        obtain ⟨b, o, sp⟩ := a
        have hsp : sp = none := spot_none hc0
        subst hsp
        refine ⟨b, o, rfl, World.block_lt_of_cell? _ _ hc0, fun i hi => ?_⟩
        rw [hlen] at hi
        rw [hget i hi]
        obtain ⟨cs', h1, rfl, h3, _⟩ := hq i (by omega)
        have hcell := (World.cells?_some h1).2.2
        rw [Go.WideShapes.add_plain] at hcell
        refine ⟨(q i).2, ?_, ?_, ?_, ?_, h3⟩
        · have := hcell 0 (by omega); rw [Go.WideShapes.add_plain] at this; exact this
        · have := hcell 1 (by omega); rw [Go.WideShapes.add_plain] at this; exact this
        · have := hcell 2 (by omega); rw [Go.WideShapes.add_plain] at this; exact this
        · have := hcell 3 (by omega); rw [Go.WideShapes.add_plain] at this; exact this
    · obtain ⟨i, hi, rfl⟩ := List.mem_map.1 hy
      rw [List.mem_range] at hi
      obtain ⟨cs', _, _, _, h4, _⟩ := hq i (by omega)
      exact h4
    · have := hw ((((List.range len).map D).length + ((List.range (m - len)).map fun j => D (len + j)).length) * Tryd.prog.bytesOf 43) (by simp only [DataW.weights, Tryd.underlying22 ]; exact List.mem_cons_self ..)
      rw [Tryd.bytesNode] at this
      simp only [List.length_map, List.length_range, reachBytes] at this
      rw [hlen]; omega
    · obtain ⟨i, hi, rfl⟩ := List.mem_map.1 hy
      rw [List.mem_range] at hi
      obtain ⟨cs', _, _, _, _, h5⟩ := hq i (by omega)
      exact h5 fun n hn => hw n (by
        simp only [DataW.weights, Tryd.underlying22, List.mem_cons, List.mem_append]
        exact .inr (.inl (mem_weightsAll (List.mem_map.2 ⟨i, List.mem_range.2 hi, rfl⟩) hn)))
/-- A class within reach. -/
structure ClW (c : Cls) : Prop where
  len : c.nodes.length * 56 ≤ 140737488351232
  each : ∀ y ∈ c.nodes, NdW y
theorem open_class {fuel : Nat} {cs : List Value} {x : DataW H × List MemPlace} (h : DataW.trod enc Tryd.prog w 0 (fun _ => true) true fuel 93 cs = some x) :
    ∃ (c : Cls) (na : Option Addr) (nc : Nat), cs = [.slice na c.nodes.length nc, .int .i64 c.size] ∧ Nodes w w.heap.size (.slice na c.nodes.length nc) c.nodes ∧ (∀ y ∈ c.nodes, N6 y.n ∧ ∀ k ∈ y.kids, N6 k) ∧ ((∀ n ∈ x.1.weights Tryd.prog 93, n ≤ reachBytes) → ClW c) := by
  obtain ⟨xs, n, _, rfl, hl, hxl, hall⟩ := DataW.trod_struct Tryd.underlying93 h
  rw [Tryd.cellsCls] at hl
  obtain ⟨v0, v1, rfl⟩ := len2 cs hl
  obtain ⟨x0, x1, rfl⟩ := len2 xs hxl
  have g0 : DataW.trod enc Tryd.prog w 0 (fun _ => true) true n 22 (([v0, v1].drop 0).take (Tryd.prog.cellsOf 22)) = some x0 := hall 0 _ rfl
  have g1 : DataW.trod enc Tryd.prog w 0 (fun _ => true) true n 3 (([v0, v1].drop 1).take (Tryd.prog.cellsOf 3)) = some x1 := hall 1 _ rfl
  rw [Tryd.cellsNodesV] at g0
  rw [Tryd.cells3] at g1
  obtain ⟨z1, k1, _, _⟩ := DataW.trod_int Tryd.underlying3 g1
  simp at k1
  subst k1
  obtain ⟨ao, cap, l, rfl, hN, h6, hw⟩ := open_nodesP (v := v0) g0
  refine ⟨⟨l, z1⟩, ao, cap, rfl, hN, h6, fun hh => ?_⟩
  obtain ⟨f1, f2⟩ := hw fun q hq => hh q (by
    simp only [DataW.weights, Tryd.underlying93 ]
    exact DataW.weights_mem_each (j := 0) (t := 22) (d := x0.1) rfl rfl q hq)
  exact ⟨f1, f2⟩
theorem open_classes {fuel : Nat} {v : Value} {x : DataW H × List MemPlace} (h : DataW.trod enc Tryd.prog w 0 (fun _ => true) true fuel 54 [v] = some x) :
    ∃ (ao : Option Addr) (cap : Nat) (l : List Cls), v = .slice ao l.length cap ∧ Clss w w.heap.size v l ∧ (∀ c ∈ l, ∀ y ∈ c.nodes, N6 y.n ∧ ∀ k ∈ y.kids, N6 k) ∧ ((∀ n ∈ x.1.weights Tryd.prog 54, n ≤ reachBytes) → l.length * 32 ≤ 140737488351232 ∧ ∀ c ∈ l, ClW c) := by
  rcases open_slice Tryd.underlying54 h with ⟨hcs, rfl⟩ | ⟨a, len, cap, m, n, D, Pl, hcs, _, hl, hm, hmm, rfl, hx⟩
  · simp only [List.cons.injEq, and_true] at hcs
    subst hcs
    exact ⟨none, 0, [], rfl, ⟨none, 0, rfl, by simp, by simp, .inl rfl⟩, (fun y hy => nomatch hy), fun _ => ⟨by simp, fun y hy => nomatch hy⟩⟩
  · simp only [List.cons.injEq, and_true] at hcs
    subst hcs
    simp only [if_true] at hmm
    subst hmm
    have each : ∀ i, i < m → ∃ y : Cls, ∃ cs' na nc, w.cells? 0 (a.add (i * 2)) 2 = some cs' ∧ cs' = [.slice na y.nodes.length nc, .int .i64 y.size] ∧ Nodes w w.heap.size (.slice na y.nodes.length nc) y.nodes ∧ (∀ u ∈ y.nodes, N6 u.n ∧ ∀ k ∈ u.kids, N6 k) ∧ ((∀ n ∈ (D i).weights Tryd.prog 93, n ≤ reachBytes) → ClW y) := by
      intro i hi
      obtain ⟨cs', h1, h2⟩ := hx i hi
      rw [Tryd.cellsCls] at h1
      obtain ⟨c, na, nc, e, h3, h4, h5⟩ := open_class h2
      exact ⟨c, cs', na, nc, h1, e, h3, h4, h5⟩
    have : Inhabited Cls := ⟨cls0⟩
    obtain ⟨q, hq⟩ := choose_lt each
    have hlen : ((List.range len).map fun i => q i).length = len := by simp
    have hget : ∀ i, i < len → ((List.range len).map fun i => q i).getD i cls0 = q i := fun i hi => by simp [hi]
    refine ⟨some a, m, (List.range len).map fun i => q i, by rw [hlen], ⟨some a, m, by rw [hlen], by rw [hlen]; exact hl, hm, ?_⟩, fun c hc => ?_, fun hw => ⟨?_, fun c hc => ?_⟩⟩
    · by_cases h0 : len = 0
      · left; subst h0; rfl
      · right
        have hc0 : ∃ u, w.cell? a = some u := by
          obtain ⟨cs', na, nc, h1, rfl, _⟩ := hq 0 (by omega)
          have := (World.cells?_some h1).2.2 0 (by omega)
          rw [Nat.zero_mul] at this
          exact ⟨_, this⟩
        obtain ⟨u0, hc0⟩ := hc0
        obtain ⟨b, o, sp⟩ := a
        have hsp : sp = none := spot_none hc0
        subst hsp
        refine ⟨b, o, rfl, World.block_lt_of_cell? _ _ hc0, fun i hi => ?_⟩
        rw [hlen] at hi
        rw [hget i hi]
        obtain ⟨cs', na, nc, h1, rfl, h3, _⟩ := hq i (by omega)
        have hcell := (World.cells?_some h1).2.2
        rw [Go.WideShapes.add_plain] at hcell
        refine ⟨na, nc, ?_, ?_, h3⟩
        · have := hcell 0 (by omega); rw [Go.WideShapes.add_plain] at this; exact this
        · have := hcell 1 (by omega); rw [Go.WideShapes.add_plain] at this; exact this
    · obtain ⟨i, hi, rfl⟩ := List.mem_map.1 hc
      rw [List.mem_range] at hi
      obtain ⟨cs', _, _, _, _, _, h4, _⟩ := hq i (by omega)
      exact h4
    · have := hw ((((List.range len).map D).length + ((List.range (m - len)).map fun j => D (len + j)).length) * Tryd.prog.bytesOf 93) (by simp only [DataW.weights, Tryd.underlying54 ]; exact List.mem_cons_self ..)
      rw [Tryd.bytesCls] at this
      simp only [List.length_map, List.length_range, reachBytes] at this
      rw [hlen]; omega
    · obtain ⟨i, hi, rfl⟩ := List.mem_map.1 hc
      rw [List.mem_range] at hi
      obtain ⟨cs', _, _, _, _, _, _, h5⟩ := hq i (by omega)
      exact h5 fun n hn => hw n (by
        simp only [DataW.weights, Tryd.underlying54, List.mem_cons, List.mem_append]
        exact .inr (.inl (mem_weightsAll (List.mem_map.2 ⟨i, List.mem_range.2 hi, rfl⟩) hn)))
/-- The whole argument. -/
theorem open_pic {fuel : Nat} {vs : List Value} {x : DataW H × List MemPlace} (h : DataW.trod enc Tryd.prog w 0 (fun _ => true) true fuel 56 vs = some x) :
    ∃ (ca : Option Addr) (cc : Nat) (cs : List Cls) (ra : Option Addr) (rc : Nat) (roots : List Int), vs = [.slice ca cs.length cc, .slice ra roots.length rc] ∧ Clss w w.heap.size (.slice ca cs.length cc) cs ∧ Ints w w.heap.size (.slice ra roots.length rc) roots ∧ ((∀ n ∈ x.1.weights Tryd.prog 56, n ≤ reachBytes) → PicOk cs roots) := by
  obtain ⟨xs, n, _, rfl, hl, hxl, hall⟩ := DataW.trod_struct Tryd.underlying56 h
  rw [Tryd.cellsPic] at hl
  obtain ⟨v0, v1, rfl⟩ := len2 vs hl
  obtain ⟨x0, x1, rfl⟩ := len2 xs hxl
  have g0 : DataW.trod enc Tryd.prog w 0 (fun _ => true) true n 54 (([v0, v1].drop 0).take (Tryd.prog.cellsOf 54)) = some x0 := hall 0 _ rfl
  have g1 : DataW.trod enc Tryd.prog w 0 (fun _ => true) true n 41 (([v0, v1].drop 1).take (Tryd.prog.cellsOf 41)) = some x1 := hall 1 _ rfl
  rw [Tryd.cellsClss] at g0
  rw [Tryd.cellsInts] at g1
  obtain ⟨ca, cc, cs, rfl, hC, h6, hw⟩ := open_classes (v := v0) g0
  obtain ⟨roots, hI, _, hr⟩ := open_kidsP (v := v1) g1
  obtain ⟨ra, rc, rfl, hI2⟩ := id hI
  refine ⟨ca, cc, cs, ra, rc, roots, rfl, hC, hI, fun hh => ?_⟩
  obtain ⟨f1, f2⟩ := hw fun q hq => hh q (by
    simp only [DataW.weights, Tryd.underlying56 ]
    exact DataW.weights_mem_each (j := 0) (t := 54) (d := x0.1) rfl rfl q hq)
  have f3 := hr fun q hq => hh q (by
    simp only [DataW.weights, Tryd.underlying56 ]
    exact DataW.weights_mem_each (j := 1) (t := 41) (d := x1.1) rfl rfl q hq)
  refine ⟨fun c hc => (f2 c hc).len, by omega, fun ⟨y, z⟩ hc => ?_, by omega, fun c hc y hy => ?_⟩
  · obtain ⟨h1, h2, h3⟩ := mem_cells.1 hc
    have hm : clA cs z.toNat ∈ cs := clA_mem (by omega)
    exact ⟨(h6 _ hm y h3).1, ((f2 _ hm).each y h3).nm, (h6 _ hm y h3).2⟩
  · have := ((f2 c hc).each y hy).kl; omega
end
end Go.Proofs.YtghgoifeineicaaDoor
