/-
  PgH, PgI, PicturechecksK.
-/
import Derived.Test.YtghgoifeineicaaDoorChecked
import GoSem.PinnedTables
import GoSem.Claim
import GoSem.ClaimJoined
import GoSem.ClaimMapViews
import Derived.JoinedTies
import Derived.KernelRfl
import GoSem.ClaimSeven
import Derived.LaidByTextLater
import Derived.SevenTiedAt
import Derived.LaidSub
import Derived.LaidOnce
import Derived.Shelf.Unicode.DecodeSlow
import Derived.Laws.RangeAny
import Derived.Shelf.Strconv.Itoa0
import Derived.Shelf.LaysM
import Derived.Shelf.Strconv.Clone
import Derived.Shelf.Unicode.DecodeAny
import Derived.Shelf.Slices.CompactS
import Derived.Test.YtghgoifeineicaaDoorProg
import Derived.WalkKit
import Derived.Deep.DeepFit
import Derived.Lib.OthersKept
import Derived.Lib.RuneCountTail
import Derived.Lib.LaidU8
import Derived.MakeChecks
import Derived.ProofKit
import Derived.OpenShut
import Derived.Deep.DeepHandedRow
import Derived.Deep.AppendLies
import Derived.Deep.OwnRows
import Derived.Laws.AppendOwnNone
import Derived.Deep.QuietTactic
import Derived.BigQuiet
import Derived.Deep.RegionWith
import Derived.Laws.DeepStrings4
import Derived.Below
import Derived.Lib.MapLaws
import Derived.Sort.Walk0
import Derived.Lib.QuietBelow
import Derived.StillTail
import Derived.Deep.RegionHeld3
import Derived.Laws.AppendOwn
import Derived.Deep.DeepCutAuto
import Derived.Maps.OwnSet
import Derived.Maps.Keyed
import Derived.DeepKeys4
import Derived.Laws.ResultCell
import Derived.Laws.CopyOwn
import Derived.Laws.OwnMore
import Derived.Deep.RegionLaw
import Derived.Laws.IdiomStrings
import Derived.WalkSmall
import Derived.Lib.SlBytesRow
import Derived.StringKeys
import Derived.Deep.Slices
import Derived.SizedLaws
import Derived.Laws.Rows
import Derived.WideKeyArgs
import Derived.Test.YtghgoifeineicaaDoorRows
import Derived.Test.YtghgoifeineicaaDoorCards
import Derived.Test.YtghgoifeineicaaDoorTie
import Derived.Test.YtghgoifeineicaaDoorZ01
import Derived.Test.YtghgoifeineicaaDoorZ02
import Derived.Test.YtghgoifeineicaaDoorZ03
import Derived.Test.YtghgoifeineicaaDoorZ04
import Derived.Test.YtghgoifeineicaaDoorZ05
import Derived.Test.YtghgoifeineicaaDoorZ06
import Derived.Test.YtghgoifeineicaaDoorZ07
import Derived.Test.YtghgoifeineicaaDoorZ08
import Derived.Test.YtghgoifeineicaaDoorZ09
import Derived.Test.YtghgoifeineicaaDoorZ10
import Derived.Test.YtghgoifeineicaaDoorZ11
import Derived.Test.YtghgoifeineicaaDoorZ12
import Derived.Test.YtghgoifeineicaaDoorZ13
import Derived.Test.YtghgoifeineicaaDoorZ14
import Derived.Test.YtghgoifeineicaaDoorZ15
import Derived.Test.YtghgoifeineicaaDoorZ16
import Derived.Test.YtghgoifeineicaaDoorZ17
import Derived.Test.YtghgoifeineicaaDoorZ18
import Derived.Test.YtghgoifeineicaaDoorZ19
import Derived.Test.YtghgoifeineicaaDoorZ20
import Derived.Test.YtghgoifeineicaaDoorZ21
import Derived.Test.YtghgoifeineicaaDoorZ22
import Derived.Test.YtghgoifeineicaaDoorZ23
import Derived.Test.YtghgoifeineicaaDoorZ24
import Derived.Test.YtghgoifeineicaaDoorZ25
import Derived.Test.YtghgoifeineicaaDoorZ26
import Derived.Test.YtghgoifeineicaaDoorZ27
import Derived.Test.YtghgoifeineicaaDoorZ28
import Derived.Test.YtghgoifeineicaaDoorZ29
import Derived.Test.YtghgoifeineicaaDoorZ30
import Derived.Test.YtghgoifeineicaaDoorZ31
import Derived.Test.YtghgoifeineicaaDoorZ32
import Derived.Test.YtghgoifeineicaaDoorZ33
import Derived.Test.YtghgoifeineicaaDoorZ34
import Derived.Test.YtghgoifeineicaaDoorZ35
import Derived.Test.YtghgoifeineicaaDoorZ36
import Derived.Test.YtghgoifeineicaaDoorZ37
import Derived.Test.YtghgoifeineicaaDoorZ38
import Derived.Test.YtghgoifeineicaaDoorZ39
import Derived.Test.YtghgoifeineicaaDoorZ40
import Derived.Test.YtghgoifeineicaaDoorZ41
import Derived.Test.YtghgoifeineicaaDoorZ42
import Derived.Test.YtghgoifeineicaaDoorZ43
import Derived.Test.YtghgoifeineicaaDoorZ44
import Derived.Test.YtghgoifeineicaaDoorZ45
import Derived.Test.YtghgoifeineicaaDoorZA1
import Derived.Test.YtghgoifeineicaaDoorZA2
import Derived.Test.YtghgoifeineicaaDoorZA3
import Derived.Test.YtghgoifeineicaaDoorZA4
set_option linter.unusedSimpArgs false
set_option linter.unusedVariables false
namespace Go.Proofs.YtghgoifeineicaaDoor
open Go.RowKit Go.Lib Go.Sort

def csA : List Cls := [⟨[⟨1, 1, ⟨#[]⟩, []⟩], 1⟩]
theorem ofB_A : ofB csA [] = true := by kernel_rfl
theorem picOk_A : PicOk csA [] := by
  refine ⟨fun c hc => ?_, by simp, fun c hc => ?_, by simp [csA], fun c hc x hx => ?_⟩
  · simp [csA] at hc; subst hc; simp
  · simp [csA, cellsL, cellsF] at hc; subst hc; refine ⟨by unfold N6; simp, Nat.zero_le _, fun k hk => by simp at hk⟩
  · simp [csA] at hc; subst hc; simp at hx; subst hx; simp
theorem clss_A (w : World) : Clss (((w.alloc (.cells #[.int .i64 1, .int .i64 1, .string ⟨#[]⟩, .slice none 0 0] 43)).alloc (.cells #[.slice (some ⟨w.heap.size, 0, none⟩) 1 1, .int .i64 1] 93))) (w.heap.size + 2) (.slice (some ⟨w.heap.size + 1, 0, none⟩) 1 1) csA := by
  refine ⟨_, 1, rfl, by simp [csA], by unfold maxLen; omega, .inr ⟨w.heap.size + 1, 0, rfl, by omega, fun i hi => ?_⟩⟩
  have hi0 : i = 0 := by simp [csA] at hi; omega
  subst hi0
  have e1 : ((w.alloc (.cells #[.int .i64 1, .int .i64 1, .string ⟨#[]⟩, .slice none 0 0] 43)).alloc (.cells #[.slice (some ⟨w.heap.size, 0, none⟩) 1 1, .int .i64 1] 93)).heap[w.heap.size + 1]? = some (.cells #[.slice (some ⟨w.heap.size, 0, none⟩) 1 1, .int .i64 1] 93 (0, 0)) := by
    have := Deep.blk_alloc_new (w.alloc (.cells #[.int .i64 1, .int .i64 1, .string ⟨#[]⟩, .slice none 0 0] 43)) (.cells #[.slice (some ⟨w.heap.size, 0, none⟩) 1 1, .int .i64 1] 93)
    rw [World.size_alloc] at this
    exact this
  have e0 : ((w.alloc (.cells #[.int .i64 1, .int .i64 1, .string ⟨#[]⟩, .slice none 0 0] 43)).alloc (.cells #[.slice (some ⟨w.heap.size, 0, none⟩) 1 1, .int .i64 1] 93)).heap[w.heap.size]? = some (.cells #[.int .i64 1, .int .i64 1, .string ⟨#[]⟩, .slice none 0 0] 43 (0, 0)) := by
    rw [Deep.blk_alloc_lt _ _ _ (by simp), Deep.blk_alloc_new]
  have f1 := fun o => cell_of_heap (j := o) e1
  refine ⟨some ⟨w.heap.size, 0, none⟩, 1, (f1 0).trans rfl, (f1 1).trans rfl, ?_⟩
  refine ⟨_, 1, rfl, by simp [csA], by unfold maxLen; omega, .inr ⟨w.heap.size, 0, rfl, by omega, fun i hi => ?_⟩⟩
  have hi0 : i = 0 := by simp [csA] at hi; omega
  subst hi0
  exact ⟨.slice none 0 0, by simp [World.cell?, e0, csA], by simp [World.cell?, e0, csA], by simp [World.cell?, e0, csA], by simp [World.cell?, e0, csA], ⟨none, 0, rfl, by simp [csA], ⟨by unfold maxLen; omega, fun _ => rfl⟩, .inl rfl⟩⟩
set_option maxRecDepth 20000 in
set_option maxHeartbeats 4000000 in
theorem awakeP_any (w : World) (T : Tabs w) : Calls Tryd.prog 32 #[] w fun e w' => e = .returned (.bool true) ∧ Below w.heap.size w w' := by
  obtain ⟨W2, hW2⟩ : ∃ W2, ((w.alloc (.cells #[.int .i64 1, .int .i64 1, .string ⟨#[]⟩, .slice none 0 0] 43)).alloc (.cells #[.slice (some ⟨w.heap.size, 0, none⟩) 1 1, .int .i64 1] 93)) = W2 := ⟨_, rfl⟩
  have hC := clss_A w
  rw [hW2] at hC
  have hs2 : W2.heap.size = w.heap.size + 2 := by rw [← hW2]; simp
  have hb2 : Below w.heap.size w W2 := by rw [← hW2]; exact ((Below.refl _ _).alloc (Nat.le_refl _) _).alloc (by simp) _
  obtain ⟨W3, hW3⟩ : ∃ W3, W2.alloc (.cells #[.slice (some ⟨w.heap.size + 1, 0, none⟩) 1 1, .slice none 0 0] 56) = W3 := ⟨_, rfl⟩
  have hb23 : Below W2.heap.size W2 W3 := by rw [← hW3]; exact (Below.refl _ _).alloc (Nat.le_refl _) _
  have hb3 : Below w.heap.size w W3 := hb2.trans (hb23.mono hb2.size)
  have hk3 : W3.heap[w.heap.size + 2]? = some (.cells #[.slice (some ⟨w.heap.size + 1, 0, none⟩) 1 1, .slice none 0 0] 56 (0, 0)) := by rw [← hW3, ← hs2, Deep.blk_alloc_new]
  have p0 : W3.cell? ⟨w.heap.size + 1 + 1, 0, none⟩ = some (.slice (some ⟨w.heap.size + 1, 0, none⟩) 1 1) := by simp [World.cell?, hk3]
  have p1 : W3.cell? ⟨w.heap.size + 1 + 1, 1, none⟩ = some (.slice none 0 0) := by simp [World.cell?, hk3]
  have CN := Sld.mk (pNodes_any csA [] (some ⟨w.heap.size + 1, 0, none⟩) none 1 0 W3 (T.below hb3) (hC.below (by rw [← hs2]; exact hb23) (by have := hb23.size; omega)) ⟨none, 0, rfl, by simp, ⟨by unfold maxLen; omega, fun _ => rfl⟩, .inl rfl⟩ picOk_A)
  have HW2 := Sld.mk hW2
  have HW3 := Sld.mk hW3
  have HB3 := Sld.mk hb3
  clear hW2 hC hs2 hb2 hW3 hb23 hb3 hk3 T
  go_enter Tryd.func32, Tryd.ntmps32
  go_wp2_with (rw [HW2.out, HW3.out])
  refine CN.out.mono ?_
  rintro e w4 ⟨hq, hb4⟩
  have HB4 := Sld.mk (HB3.out.trans (hb4.mono HB3.out.size))
  rcases hq with ⟨_, rfl⟩ | ⟨hf, _⟩
  · clear hb4 CN
    have hm : mnyL csA = 1 := rfl
    rw [hm]
    go_wp2_with fail
    go_ret
    exact ⟨rfl, HB4.out⟩
  · rw [ofB_A] at hf; cases hf
set_option maxRecDepth 20000 in
set_option maxHeartbeats 4000000 in
theorem lawPic_any (cs : List Cls) (roots : List Int) (ca ra : Option Addr) (cc rc : Nat) (w : World) (T : Tabs w) (hc : Clss w w.heap.size (.slice ca cs.length cc) cs) (hr : Ints w w.heap.size (.slice ra roots.length rc) roots) (hp : PicOk cs roots) (hcp : ∀ V : World, Clss V V.heap.size (.slice ca cs.length cc) cs → Ints V V.heap.size (.slice ra roots.length rc) roots → Calls Tryd.prog 35 #[.agg #[.slice ca cs.length cc, .slice ra roots.length rc]] V fun e w' => (∃ ca' cc' ra' rc', e = .returned (.agg #[.slice ca' cs.length cc', .slice ra' roots.length rc']) ∧ Clss w' w'.heap.size (.slice ca' cs.length cc') cs ∧ Ints w' w'.heap.size (.slice ra' roots.length rc') roots) ∧ Below V.heap.size V w') :
    Calls Tryd.prog 6 #[.agg #[.slice ca cs.length cc, .slice ra roots.length rc]] w fun e w' => e = .returned (.bool true) ∧ Below w.heap.size w w' := by
  obtain ⟨W1, hW1⟩ : ∃ W1, w.alloc (.cells #[.slice ca cs.length cc, .slice ra roots.length rc] 56) = W1 := ⟨_, rfl⟩
  have hb1 : Below w.heap.size w W1 := by rw [← hW1]; exact (Below.refl _ _).alloc (Nat.le_refl _) _
  have hk1 : W1.heap[w.heap.size]? = some (.cells #[.slice ca cs.length cc, .slice ra roots.length rc] 56 (0, 0)) := by rw [← hW1, Deep.blk_alloc_new]
  have HP : Sld (∀ V, Below W1.heap.size W1 V → V.cell? ⟨w.heap.size, 0, none⟩ = some (.slice ca cs.length cc) ∧ V.cell? ⟨w.heap.size, 1, none⟩ = some (.slice ra roots.length rc) ∧ Below w.heap.size w V ∧ Tabs V ∧ Clss V V.heap.size (.slice ca cs.length cc) cs ∧ Ints V V.heap.size (.slice ra roots.length rc) roots) := ⟨fun V hV => by
    have h1 := (hV.block _ (lt_of_block hk1)).trans hk1
    have hb := hb1.trans (hV.mono hb1.size)
    exact ⟨by simp [World.cell?, h1], by simp [World.cell?, h1], hb, T.below hb, hc.below hb hb.size, hr.below hb hb.size⟩⟩
  have HPO := Sld.mk hp
  have HCP := Sld.mk hcp
  have HW1 := Sld.mk hW1
  clear hW1 hb1 hk1 hp hc hr T hcp
  have CW : Sld (∀ V, Below W1.heap.size W1 V → Calls Tryd.prog 32 #[] V fun e w' => e = .returned (.bool true) ∧ Below W1.heap.size W1 w') := ⟨fun V hV => (awakeP_any V (HP.out V hV).2.2.2.1).mono fun e w' ⟨h1, h2⟩ => ⟨h1, hV.trans (h2.mono hV.size)⟩⟩
  have CD : Sld (∀ V, Below W1.heap.size W1 V → Calls Tryd.prog 33 #[.agg #[.slice ca cs.length cc, .slice ra roots.length rc]] V fun e w' => CkQ (ofB cs roots) e ∧ Below W1.heap.size W1 w') := ⟨fun V hV => (dcheck_any cs roots ca ra cc rc V (HP.out V hV).2.2.2.2.1 (HP.out V hV).2.2.2.2.2 HPO.out.nodes HPO.out.roots HPO.out.num).mono fun e w' ⟨h1, h2⟩ => ⟨h1, hV.trans (h2.mono hV.size)⟩⟩
  have CC : Sld (∀ V, Below W1.heap.size W1 V → Calls Tryd.prog 35 #[.agg #[.slice ca cs.length cc, .slice ra roots.length rc]] V fun e w' => (∃ ca' cc' ra' rc', e = .returned (.agg #[.slice ca' cs.length cc', .slice ra' roots.length rc']) ∧ Calls Tryd.prog 36 #[.agg #[.slice ca' cs.length cc', .slice ra' roots.length rc']] w' (fun e w2 => CkQ (ofB cs roots) e ∧ Below W1.heap.size W1 w2) ∧ Calls Tryd.prog 34 #[.agg #[.slice ca' cs.length cc', .slice ra' roots.length rc']] w' (fun e w2 => PnQ (ofB cs roots) (mnyL cs) e ∧ Below W1.heap.size W1 w2)) ∧ Below W1.heap.size W1 w') := ⟨fun V hV => (HCP.out V (HP.out V hV).2.2.2.2.1 (HP.out V hV).2.2.2.2.2).mono fun e w' ⟨⟨ca', cc', ra', rc', h1, h3, h4⟩, h2⟩ => by
    have hb := hV.trans (h2.mono hV.size)
    have hT := (HP.out w' hb).2.2.2.1
    exact ⟨⟨ca', cc', ra', rc', h1, (pCheck_any cs roots ca' ra' cc' rc' w' hT h3 h4 HPO.out).mono (fun e w2 ⟨a, b⟩ => ⟨a, hb.trans (b.mono hb.size)⟩), (pNodes_any cs roots ca' ra' cc' rc' w' hT h3 h4 HPO.out).mono (fun e w2 ⟨a, b⟩ => ⟨a, hb.trans (b.mono hb.size)⟩)⟩, hb⟩⟩
  have CM : Sld (∀ V, Below W1.heap.size W1 V → cs.length ≤ 4096 → Calls Tryd.prog 37 #[.agg #[.slice ca cs.length cc, .slice ra roots.length rc]] V fun e w' => e = .returned (.int .i64 (mnyL cs : Nat)) ∧ Below W1.heap.size W1 w') := ⟨fun V hV hl => (countNodes_any cs _ ca cc V (HP.out V hV).2.2.2.2.1 hl HPO.out.nodes).mono fun e w' ⟨h1, h2⟩ => ⟨h1, hV.trans (h2.mono hV.size)⟩⟩
  have HOK : Sld (ofB cs roots = true → cs.length ≤ 4096) := ⟨fun h => (ofB_ok h).few⟩
  generalize ofB cs roots = B at *
  generalize mnyL cs = M at *
  go_enter Tryd.func6, Tryd.ntmps6
  go_wp2_with fail
  rw [HW1.out]
  refine (CW.out W1 (Below.refl _ _)).mono ?_
  rintro e w2 ⟨rfl, hb2⟩
  obtain ⟨p0, p1, _⟩ := HP.out w2 hb2
  have C2 := Sld.mk (CD.out w2 hb2)
  clear hb2
  go_wp2_with fail
  refine C2.out.mono ?_
  rintro e w3 ⟨⟨z, rfl, hz⟩, hb3⟩
  obtain ⟨p0, p1, _⟩ := HP.out w3 hb3
  have C3 := Sld.mk (CC.out w3 hb3)
  clear hb3 C2
  go_wp2_with fail
  refine C3.out.mono ?_
  rintro e w4 ⟨⟨ca', cc', ra', rc', rfl, _, c4⟩, hb4⟩
  have C4 := Sld.mk c4
  clear hb4 c4 C3
  go_wp2_with fail
  refine C4.out.mono ?_
  rintro e w5 ⟨hq, hb5⟩
  obtain ⟨p0, p1, _⟩ := HP.out w5 hb5
  have C5 := Sld.mk (CC.out w5 hb5)
  clear hb5 C4
  rcases hz with ⟨rfl, hB⟩ | ⟨rfl, hB⟩
  · rcases hq with ⟨_, rfl⟩ | ⟨hB2, _⟩
    · have hl := HOK.out hB
      have HBT := Sld.mk hB
      clear hB
      go_wp2_with fail
      refine C5.out.mono ?_
      rintro e w6 ⟨⟨ca2, cc2, ra2, rc2, rfl, c6, _⟩, hb6⟩
      have C6 := Sld.mk c6
      clear hb6 c6 C5
      go_wp2_with fail
      refine C6.out.mono ?_
      rintro e w7 ⟨⟨z7, rfl, hz7⟩, hb7⟩
      obtain ⟨p0, p1, hbw, _⟩ := HP.out w7 hb7
      have C7 := Sld.mk (CM.out w7 hb7 hl)
      have hz0 : z7 = 0 := by
        rcases hz7 with ⟨h, _⟩ | ⟨_, h⟩
        · exact h
        · rw [HBT.out] at h; cases h
      subst hz0
      clear hz7 hb7 C6 hbw
      go_wp2_with fail
      refine C7.out.mono ?_
      rintro e w8 ⟨rfl, hb8⟩
      have HB8 := Sld.mk ((HP.out w8 hb8).2.2.1)
      clear hb8 C7
      go_wp2_with fail
      go_ret
      exact ⟨by simp, HB8.out⟩
    · rw [hB] at hB2; cases hB2
  · rcases hq with ⟨hB2, _⟩ | ⟨_, rfl⟩
    · rw [hB] at hB2; cases hB2
    · have HBT := Sld.mk hB
      clear hB
      go_wp2_with fail
      refine C5.out.mono ?_
      rintro e w6 ⟨⟨ca2, cc2, ra2, rc2, rfl, c6, _⟩, hb6⟩
      have C6 := Sld.mk c6
      clear hb6 c6 C5
      go_wp2_with fail
      refine C6.out.mono ?_
      rintro e w7 ⟨⟨z7, rfl, hz7⟩, hb7⟩
      have HB7 := Sld.mk ((HP.out w7 hb7).2.2.1)
      have hz0 : z7 = 1 := by
        rcases hz7 with ⟨_, h⟩ | ⟨h, _⟩
        · rw [HBT.out] at h; cases h
        · exact h
      subst hz0
      clear hz7 hb7 C6
      go_wp2_with fail
      go_ret
      exact ⟨by simp, HB7.out⟩
end Go.Proofs.YtghgoifeineicaaDoor


set_option linter.unusedVariables false
namespace Go.Proofs.YtghgoifeineicaaDoor
open Go.RowKit Go.Lib

theorem picture_walk (W : World) (ca : Option Addr) (cc : Nat) (cs : List Cls) (ra : Option Addr) (rc : Nat) (roots : List Int) (T : Tabs W) (hc : Clss W W.heap.size (.slice ca cs.length cc) cs) (hr : Ints W W.heap.size (.slice ra roots.length rc) roots) (hp : PicOk cs roots) :
    Calls Tryd.prog 6 #[.agg #[.slice ca cs.length cc, .slice ra roots.length rc]] W fun e w' => e = .returned (.bool true) ∧ Below W.heap.size W w' :=
  lawPic_any cs roots ca ra cc rc W T hc hr hp (fun V h1 h2 => copyP_any cs roots ca ra cc rc V h1 h2 hp)
end Go.Proofs.YtghgoifeineicaaDoor


set_option linter.unusedVariables false
namespace Go.Proofs.YtghgoifeineicaaDoor.picturechecks
open Go.ChangeShapes Go.WideShapes Go.ChangeAt Go.RowKit Go.WideMaps Go.WideElems
open Go.ChangeMaps (open_string shut_string)

set_option maxRecDepth 100000 in
set_option maxHeartbeats 1000000 in
theorem contract (H : Type) (enc : TypeId × Value → H) (W : World) (base : Nat) (args : Array Value) (ds gs : List (DataW H)) (before : List MemPlace)
    (hval : ∀ (j : Nat) t v, Tryd.f6.params[j]? = some t → args[j]? = some v → Value.okWide Tryd.prog W .any base t v)
    (hW : DataW.Whole enc Tryd.prog Tryd.f6.params.toList Rows.pictureChecksSpec.vars false W args.toList ds gs before)
    (hsz : (DataW.weightsEach Tryd.prog (Tryd.f6.params.toList ++ (OpenSpec.ofChange Rows.pictureChecksSpec).bare.plain.varTypes Tryd.prog) (ds ++ gs)).all (· ≤ reachBytes) = true)
    (hL : laidMetH Tryd.prog Rows.pictureChecksRow.laid W) :
    Calls Tryd.prog 6 args W fun e W' => ∃ v, e = .returned v ∧ Rows.pictureChecksSpec.post enc Tryd.prog Tryd.f6 false true false false W args v W' := by
  have hW' := hW
  have hlt : ∀ x ∈ before, x.block < W.heap.size := fun x hx => by simpa using hW'.lt x hx
  obtain ⟨p, q, hA0, hV, rfl, hfz, hnd⟩ := hW
  have hA : DataW.TrodAll enc Tryd.prog W 0 (fun _ => true) true Tryd.f6.params.toList args.toList ds p := hA0
  rw [Tryd.params6 ] at hA hval
  obtain ⟨v0, vs0, d0, ds0, p0, q0, hargs0, rfl, rfl, h0, r0⟩ := trodAll_cons hA
  obtain ⟨rfl, rfl, rfl⟩ := trodAll_nil r0
  obtain rfl : args = #[v0] := by cases args; simp_all
  obtain ⟨rfl, rfl⟩ := trodVars_none hV
  clear hA0
  simp only [List.append_nil] at hW' hsz
  have h0k := h0
  have ok0 : Value.okWide Tryd.prog W .any base 56 v0 := hval 0 56 v0 (by rfl) (by rfl)
  obtain ⟨cs0, rfl, _⟩ := okWide_struct Tryd.underlying56 ok0
  obtain ⟨fu0, hf0⟩ := h0
  have hg0 : DataW.trod enc Tryd.prog W 0 (fun _ => true) true fu0 56 cs0.toList = some (d0, p0) := hf0
  obtain ⟨ca0, cc0, l0, ra0, rc0, rs0, he0, R0, I0, hF0⟩ := open_pic hg0
  obtain rfl : cs0 = #[.slice ca0 l0.length cc0, .slice ra0 rs0.length rc0] := Array.toList_inj.1 he0
  have F0 := hF0 fun n hn => of_decide_eq_true (List.all_eq_true.1 hsz n (DataW.weights_mem_each (j := 0) (t := 56) (by kernel_rfl) rfl n hn))
  refine (picture_walk W ca0 cc0 l0 ra0 rc0 rs0 (tabs_of_laid hL) R0 I0 F0).mono fun e W' ⟨he, hg⟩ => ?_
  subst he
  exact ⟨_, rfl, post_below (pv := []) hW' (fun _ _ _ => trodAll_cons_mk (shut_bool Tryd.underlying4 _) trodAll_mk0) (fun sp hsp => trodAll_cons_mk (Trod_stays Tryd.laidOut (by kernel_rfl) (of_decide_eq_true (by kernel_rfl)) h0k (fun x hx => hg.same (hlt x (by simp [hx]))) (fun x hx => hsp x (by simp [hx]))) trodAll_mk0) (fun _ _ => rfl) (by simp) (hg.frame _)⟩

end Go.Proofs.YtghgoifeineicaaDoor.picturechecks
