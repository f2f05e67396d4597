/-
  A picture as a law may hand it over; what a class takes.
-/
import Derived.Shelf.Unicode.DecodeSlow
import Derived.Laws.RangeAny
import Derived.Shelf.Strconv.Itoa0
import Derived.Shelf.LaysM
import Derived.Shelf.Strconv.Clone
import Derived.Shelf.Unicode.DecodeAny
import Derived.Shelf.Slices.CompactS
import Derived.Test.YtghgoifeineicaaDoorProg
import Derived.WalkKit
import Derived.Deep.DeepFit
import Derived.Lib.OthersKept
import Derived.Lib.RuneCountTail
import Derived.Deep.AppendLies
import Derived.Deep.OwnRows
import Derived.Laws.AppendOwnNone
import Derived.Deep.QuietTactic
import Derived.BigQuiet
import Derived.Deep.RegionWith
import Derived.Laws.DeepStrings4
import Derived.Below
import Derived.Lib.MapLaws
import Derived.Sort.Walk0
import Derived.Lib.QuietBelow
import Derived.StillTail
import Derived.Deep.RegionHeld3
import Derived.Laws.AppendOwn
import Derived.Deep.DeepCutAuto
import Derived.Maps.OwnSet
import Derived.Maps.Keyed
import Derived.DeepKeys4
import Derived.Deep.RegionLaw
import Derived.Laws.IdiomStrings
import Derived.WalkSmall
import Derived.Lib.SlBytesRow
import Derived.Laws.ResultCell
import Derived.Test.YtghgoifeineicaaDoorZ01
import Derived.Test.YtghgoifeineicaaDoorZ02
import Derived.Test.YtghgoifeineicaaDoorZ03
import Derived.Test.YtghgoifeineicaaDoorZ04
import Derived.Test.YtghgoifeineicaaDoorZ05
import Derived.Test.YtghgoifeineicaaDoorZ06
import Derived.Test.YtghgoifeineicaaDoorZ07
import Derived.Test.YtghgoifeineicaaDoorZ08
import Derived.Test.YtghgoifeineicaaDoorZ09
import Derived.Test.YtghgoifeineicaaDoorZ10
import Derived.Test.YtghgoifeineicaaDoorZ11
import Derived.Test.YtghgoifeineicaaDoorZ12
import Derived.Test.YtghgoifeineicaaDoorZ13
import Derived.Test.YtghgoifeineicaaDoorZ14
import Derived.Test.YtghgoifeineicaaDoorZ15
import Derived.Test.YtghgoifeineicaaDoorZ16
import Derived.Test.YtghgoifeineicaaDoorZ17
import Derived.Test.YtghgoifeineicaaDoorZ29
import Derived.Test.YtghgoifeineicaaDoorZ30
import Derived.Test.YtghgoifeineicaaDoorZ31
import Derived.Test.YtghgoifeineicaaDoorZ32
import Derived.Test.YtghgoifeineicaaDoorZ33
import Derived.Test.YtghgoifeineicaaDoorZ34
import Derived.Test.YtghgoifeineicaaDoorZ35
import Derived.Test.YtghgoifeineicaaDoorZ36
import Derived.Test.YtghgoifeineicaaDoorZ37
import Derived.Test.YtghgoifeineicaaDoorZ38
import Derived.Test.YtghgoifeineicaaDoorZ39
import Derived.Test.YtghgoifeineicaaDoorZ40
import Derived.Test.YtghgoifeineicaaDoorZA1
set_option linter.unusedVariables false
namespace Go.Proofs.YtghgoifeineicaaDoor
open Go.RowKit Go.Lib Go.Sort

theorem Tryd.infoCls : (Tryd.prog.info? 93).map (fun i => (i.zero, i.size, i.bytes)) = some (some (.agg #[.slice none 0 0, .int .i64 0]), 2, 32) := by kernel_rfl
/-- A picture as a law may hand it over. -/
structure PicOk (cs : List Cls) (roots : List Int) : Prop where
  nodes : ∀ c ∈ cs, c.nodes.length * 56 ≤ 140737488351232
  roots : roots.length * 8 ≤ 140737488355328
  num : ∀ c ∈ cellsL cs, N6 c.1.n ∧ c.1.name.size ≤ 281474976710656 ∧ ∀ k ∈ c.1.kids, N6 k
  few : cs.length * 32 ≤ 140737488355328
  kids : ∀ c ∈ cs, ∀ x ∈ c.nodes, x.kids.length * 8 ≤ 140737488355328
end Go.Proofs.YtghgoifeineicaaDoor
