/-
  BkX.
-/
import Derived.Shelf.Unicode.DecodeSlow
import Derived.Laws.RangeAny
import Derived.Shelf.Strconv.Itoa0
import Derived.Shelf.LaysM
import Derived.Shelf.Strconv.Clone
import Derived.Shelf.Unicode.DecodeAny
import Derived.Shelf.Slices.CompactS
import Derived.Test.YtghgoifeineicaaDoorProg
import Derived.WalkKit
import Derived.Deep.DeepFit
import Derived.Lib.OthersKept
import Derived.Lib.RuneCountTail
import Derived.Deep.AppendLies
import Derived.Deep.OwnRows
import Derived.Laws.AppendOwnNone
import Derived.Deep.QuietTactic
import Derived.BigQuiet
import Derived.Deep.RegionWith
import Derived.Laws.DeepStrings4
import Derived.Below
import Derived.Lib.MapLaws
import Derived.Sort.Walk0
import Derived.Lib.QuietBelow
import Derived.StillTail
import Derived.Deep.RegionHeld3
import Derived.Laws.AppendOwn
import Derived.Deep.DeepCutAuto
import Derived.Maps.OwnSet
import Derived.Maps.Keyed
import Derived.DeepKeys4
import Derived.Laws.ResultCell
import Derived.Laws.CopyOwn
import Derived.Laws.OwnMore
import Derived.Deep.RegionLaw
import Derived.Test.YtghgoifeineicaaDoorZ01
import Derived.Test.YtghgoifeineicaaDoorZ02
import Derived.Test.YtghgoifeineicaaDoorZ03
import Derived.Test.YtghgoifeineicaaDoorZ06

set_option linter.unusedSimpArgs false
set_option linter.unusedVariables false
namespace Go.Proofs.YtghgoifeineicaaDoor
open Go.RowKit Go.Lib

/-- A row: its value, how many it holds, its cells. -/
abbrev Rw := Value × Nat × List Value
def vA : Value → Option Addr
  | .slice a _ _ => a
  | _ => none
def vC : Value → Nat
  | .slice _ _ c => c
  | _ => 0
def rw0 : Rw := (.slice none 0 0, 0, [])
structure RwL (w : World) (base : Nat) (e : TypeId) (size : Nat) (R : List Rw) : Prop where
  own : ∀ r ∈ R, w.ownsRow base e size r.1 r.2.1 r.2.2
  ap : R.Pairwise fun r s => ∀ b, r.1.ownBlock = some b → s.1.ownBlock ≠ some b
theorem rw_eta {w : World} {base : Nat} {e : TypeId} {size n : Nat} {v : Value} {xs : List Value} (h : w.ownsRow base e size v n xs) : v = .slice (vA v) n (vC v) := by
  obtain ⟨ao, cap, rfl⟩ := rw_form h
  rfl
theorem vA_blk {v : Value} {n c : Nat} (hv : v = .slice (vA v) n c) {a : Addr} (h : vA v = some a) : v.ownBlock = some a.block := by
  rw [hv, h]; rfl
theorem gd_rw {R : List Rw} {k : Nat} (hk : k < R.length) : R.getD k rw0 = R[k] := by simp [hk]
theorem RwL.rows {w : World} {base : Nat} {e eL : TypeId} {size : Nat} {R : List Rw} (h : RwL w base e size R) {B : Nat} {cs : Array Value} {fr : Nat × Nat} (hB : w.heap[B]? = some (.cells cs eL fr)) (hne : e ≠ eL) : RwsAp R.length B (fun k => vA (R.getD k rw0).1) := by
  refine ⟨fun k k' hk hk' hkk a a' ha ha' he => ?_, fun k hk a ha he => ?_⟩
  · simp only [gd_rw hk] at ha
    simp only [gd_rw hk'] at ha'
    have o1 := vA_blk (rw_eta (h.own _ (List.getElem_mem hk))) ha
    have o2 := vA_blk (rw_eta (h.own _ (List.getElem_mem hk'))) ha'
    have hp := List.pairwise_iff_getElem.1 h.ap
    rcases Nat.lt_or_gt_of_ne hkk with hl | hl
    · exact hp k k' hk hk' hl _ o1 (by rw [he]; exact o2)
    · exact hp k' k hk' hk hl _ o2 (by rw [← he]; exact o1)
  · simp only [gd_rw hk] at ha
    have o1 := vA_blk (rw_eta (h.own _ (List.getElem_mem hk))) ha
    obtain ⟨_, _, cap, cur, _, hc, _⟩ := rw_block (h.own _ (List.getElem_mem hk)) o1
    rw [he, hB] at hc
    injection hc with hc
    injection hc with _ hc _
    exact hne hc.symm
end Go.Proofs.YtghgoifeineicaaDoor


namespace Go.Proofs.YtghgoifeineicaaDoor
open Go.RowKit Go.Lib

end Go.Proofs.YtghgoifeineicaaDoor
