/-
  PgC.
-/
import Derived.Shelf.Unicode.DecodeSlow
import Derived.Laws.RangeAny
import Derived.Shelf.Strconv.Itoa0
import Derived.Shelf.LaysM
import Derived.Shelf.Strconv.Clone
import Derived.Shelf.Unicode.DecodeAny
import Derived.Shelf.Slices.CompactS
import Derived.Test.YtghgoifeineicaaDoorProg
import Derived.WalkKit
import Derived.Deep.DeepFit
import Derived.Lib.OthersKept
import Derived.Lib.RuneCountTail
import Derived.Deep.AppendLies
import Derived.Deep.OwnRows
import Derived.Laws.AppendOwnNone
import Derived.Deep.QuietTactic
import Derived.BigQuiet
import Derived.Deep.RegionWith
import Derived.Laws.DeepStrings4
import Derived.Below
import Derived.Lib.MapLaws
import Derived.Sort.Walk0
import Derived.Lib.QuietBelow
import Derived.StillTail
import Derived.Deep.RegionHeld3
import Derived.Laws.AppendOwn
import Derived.Deep.DeepCutAuto
import Derived.Maps.OwnSet
import Derived.Maps.Keyed
import Derived.DeepKeys4
import Derived.Laws.ResultCell
import Derived.Laws.CopyOwn
import Derived.Laws.OwnMore
import Derived.Deep.RegionLaw
import Derived.Laws.IdiomStrings
import Derived.WalkSmall
import Derived.Test.YtghgoifeineicaaDoorZ01
import Derived.Test.YtghgoifeineicaaDoorZ02
import Derived.Test.YtghgoifeineicaaDoorZ03
import Derived.Test.YtghgoifeineicaaDoorZ04
import Derived.Test.YtghgoifeineicaaDoorZ05
import Derived.Test.YtghgoifeineicaaDoorZ06
import Derived.Test.YtghgoifeineicaaDoorZ07
import Derived.Test.YtghgoifeineicaaDoorZ08
import Derived.Test.YtghgoifeineicaaDoorZ09
import Derived.Test.YtghgoifeineicaaDoorZ10
import Derived.Test.YtghgoifeineicaaDoorZ11
import Derived.Test.YtghgoifeineicaaDoorZ12
import Derived.Test.YtghgoifeineicaaDoorZ13
import Derived.Test.YtghgoifeineicaaDoorZ14
import Derived.Test.YtghgoifeineicaaDoorZ15
import Derived.Test.YtghgoifeineicaaDoorZ16
import Derived.Test.YtghgoifeineicaaDoorZ17
import Derived.Test.YtghgoifeineicaaDoorZ18
import Derived.Test.YtghgoifeineicaaDoorZ19
import Derived.Test.YtghgoifeineicaaDoorZ20
import Derived.Test.YtghgoifeineicaaDoorZ21
import Derived.Test.YtghgoifeineicaaDoorZ22
import Derived.Test.YtghgoifeineicaaDoorZ23
import Derived.Test.YtghgoifeineicaaDoorZ24
import Derived.Test.YtghgoifeineicaaDoorZ25
import Derived.Test.YtghgoifeineicaaDoorZ26
import Derived.Test.YtghgoifeineicaaDoorZ27
import Derived.Test.YtghgoifeineicaaDoorZ28
import Derived.Test.YtghgoifeineicaaDoorZ29
import Derived.Test.YtghgoifeineicaaDoorZ30
import Derived.Test.YtghgoifeineicaaDoorZ31
import Derived.Test.YtghgoifeineicaaDoorZ32
import Derived.Test.YtghgoifeineicaaDoorZA1

set_option linter.unusedSimpArgs false
set_option linter.unusedVariables false
namespace Go.Proofs.YtghgoifeineicaaDoor.Gt
open Go.RowKit Go.Lib

def G00 : Gs := ⟨.slice none 0 0, .map none, .slice none 0 0, .slice none 0 0, 0, 0, [], [], []⟩
theorem GrM.start (w : World) : GrM (w.alloc (.cells #[.slice none 0 0, .map none, .slice none 0 0, .int .i64 0, .int .i64 0, .slice none 0 0] 137)) w.heap.size G00 := by
  refine ⟨@TbM.mk G00.gr _ _ _ _ _ (Deep.blk_alloc_new _ _) (World.ownsRow_nil _ _ _ _) (.inl ⟨rfl, rfl⟩) TbI.nil (fun x hx => by cases hx), World.ownsRow_nil _ _ _ _, ?_, Nat.le_refl _⟩
  exact ⟨fun r hr => by
    simp [seRows, G00] at hr
    subst hr
    exact OwnI_nil _ _, by simp [seRows, G00]⟩
set_option maxHeartbeats 1000000 in
theorem gnew_any (w : World) : Calls Tryd.prog 86 #[] w fun e w' => e = .returned (.pointer (some ⟨w.heap.size, 0, none⟩)) ∧ w' = w.alloc (.cells #[.slice none 0 0, .map none, .slice none 0 0, .int .i64 0, .int .i64 0, .slice none 0 0] 137) := by
  go_enter Tryd.func86, Tryd.ntmps86
  go_wp2_with fail
  go_ret
  exact ⟨rfl, rfl⟩
set_option maxRecDepth 20000 in
set_option maxHeartbeats 2000000 in
theorem clone_any (w : World) (ra : Option Addr) (rc : Nat) (rs : List Int) (hr : Ints w w.heap.size (.slice ra rs.length rc) rs) (hrw : rs.length * 8 ≤ 140737488355328) : Calls Tryd.prog 89 #[.slice ra rs.length rc] w fun e w' => (∃ a n c, e = .returned (.slice a n c)) ∧ Below w.heap.size w w' := by
  obtain ⟨i0, hi0, hz0, hz1, hz2⟩ := info_parts Tryd.infoI3
  have hnil := eql_nil
  cases ra with
  | none =>
    go_enter Tryd.func89, Tryd.ntmps89
    go_wp2_with fail
    go_ret
    exact ⟨⟨_, _, _, rfl⟩, Below.refl _ _⟩
  | some ad =>
    have hb0 : Below w.heap.size w (w.alloc (.cells #[] 3)) := (Below.refl w.heap.size w).alloc (Nat.le_refl _) _
    have HR := Sld.mk (hr.below hb0 hb0.size)
    have HS : Sld (∀ j u, (rs.map (Value.int .i64))[j]? = some u → (w.alloc (.cells #[] 3)).cell? (ad.add j) = some u) := ⟨fun j u hu => by
      rw [List.getElem?_map] at hu
      obtain ⟨z, hz, rfl⟩ := Option.map_eq_some_iff.1 hu
      obtain ⟨hl', e'⟩ := List.getElem?_eq_some_iff.1 hz
      obtain ⟨b', o', e, _, hcell⟩ := HR.out.cellK hl'
      injection e with e
      subst e
      rw [Go.WideShapes.add_plain, hcell]
      simp [hl', e']⟩
    have HO : Sld ((w.alloc (.cells #[] 3)).ownsRow w.heap.size 3 1 (.slice (some ⟨w.heap.size, 0, none⟩) 0 0) 0 []) := ⟨World.ownsRow_made w #[] 0 (Nat.le_refl _) (Nat.zero_le _) (by simp)⟩
    have HL : Sld ((rs.map (Value.int .i64)).length = rs.length * 1) := ⟨by simp⟩
    have H1 : Sld (∀ u ∈ rs.map (Value.int .i64), u.oneCell' = true) := ⟨fun u hu => by
      obtain ⟨x, _, rfl⟩ := List.mem_map.1 hu; rfl⟩
    obtain ⟨_, hrc1, hrc2⟩ := hr.bnd
    have HM : Sld (0 + rs.length ≤ maxLen) := ⟨by unfold maxLen; omega⟩
    clear hr hb0
    go_enter Tryd.func89, Tryd.ntmps89
    go_wp2_with (at_builtin; refine wpList_append_own _ rfl _ _ 41 rfl w.heap.size 3 i0 (.int .i64 0) 1 8 Tryd.underlying41 hi0 hz0 hz1 hz2 rfl (by decide) _ _ _ rfl HO.out ad rs.length rc (rs.map (Value.int .i64)) rfl HL.out HS.out H1.out HM.out (by omega) (by simp) ?_; intro v' w1 hown hgrow _)
    obtain ⟨sa, sn, sc, rfl⟩ : ∃ a n c, v' = .slice a n c := by
      rcases hown.2 with ⟨rfl, _⟩ | ⟨g, cap, cur, rfl, _⟩
      · exact ⟨_, _, _, rfl⟩
      · exact ⟨_, _, _, rfl⟩
    go_ret
    exact ⟨⟨_, _, _, rfl⟩, ((Below.refl w.heap.size w).alloc (Nat.le_refl _) _).grown hgrow (by simp) (fun k hk => by have e : some w.heap.size = some k := hk; cases e; exact Nat.le_refl _)⟩
theorem Ints.far {w : World} {B : Nat} {ka : Option Addr} {n kc : Nat} {ks : List Int} (h : Ints w B (.slice ka n kc) ks) {b o : Nat} (hk : ka = some ⟨b, o, none⟩) (hn : ks ≠ []) : b < B := by
  obtain ⟨ao, cap, e, _, _, h2⟩ := h
  injection e with e _ _
  rcases h2 with h2 | ⟨b', o', h2, hl, _⟩
  · exact absurd h2 hn
  · rw [hk, h2] at e
    injection e with e
    injection e with e _ _
    omega
theorem seat_both {w : World} {p : Nat} {G : Gs} (h : GrM w p G) (hT : SpanCells w) (x : Nd) (ka : Option Addr) (kc : Nat) (hv : NdV w x ka kc) (hap : ∀ b o, ka = some ⟨b, o, none⟩ → x.kids ≠ [] → ¬ GrS p G b) (c : Int) (hc : c = -1 ∨ ∃ k : Nat, c = (k : Int) ∧ k < G.ss.length) (hB : GsB G) :
    Calls Tryd.prog 87 #[.pointer (some ⟨p, 0, none⟩), .agg #[.int .i64 x.op, .int .i64 x.n, .string x.name, .slice ka x.kids.length kc], .int .i64 c] w fun e w' => e = .returned (.tuple #[.int .i64 ((ptR G.L x).1 : Nat), .int .i64 (ptR G.L x).2.1]) ∧ ∃ G', GrT w p G G' w' ∧ SeatR G x c G' := by
  by_cases he : (ptR G.L x).2.1 = 0
  · cases hs : knG G.ss (ptR G.L x).1 with
    | true => exact seat_same h hT x ka kc hv c (.inr hs)
    | false => exact seat_new h hT x ka kc hv hap c hc hB he hs
  · exact seat_same h hT x ka kc hv c (.inl he)
end Go.Proofs.YtghgoifeineicaaDoor.Gt
