/-
  VrPure, StrMem.
-/
import Derived.Shelf.Unicode.DecodeSlow
import Derived.Laws.RangeAny
import Derived.Shelf.Small.Bits
import Derived.Shelf.Strconv.Itoa0
import Derived.Shelf.LaysM
import Derived.Shelf.Strconv.Clone
import Derived.Shelf.Unicode.DecodeAny
import Derived.Shelf.Slices.CompactS
import Derived.Ground.SlsfProg
import Derived.Shelf.SlSortCmp.Insertion
import Derived.Shelf.SlSortCmp.SiftDown1
import Derived.Shelf.SlSortCmp.HeapSort1
import Derived.Shelf.SlSortCmp.Insertion1
import Derived.Shelf.SlSortCmp.Median1
import Derived.Shelf.SlSortCmp.Pivot1
import Derived.Shelf.SlSortCmp.ReverseRange1
import Derived.Shelf.SlSortCmp.PartialInsertion1
import Derived.Shelf.SlSortCmp.PartitionEqual1
import Derived.Shelf.SlSortCmp.Partition1
import Derived.Shelf.SlSortCmp.Pdq1
import Derived.Shelf.SlSortCmp.Whole1
import Derived.Test.YtpacjofepiojdaaDoorProg
import Derived.WalkKit
import Derived.Deep.DeepFit
import Derived.Lib.OthersKept
import Derived.Lib.RuneCountTail
import Derived.Deep.AppendLies
import Derived.Deep.OwnRows
import Derived.Laws.AppendOwnNone
import Derived.Deep.QuietTactic
import Derived.BigQuiet
import Derived.Deep.RegionWith
import Derived.Laws.DeepStrings4
import Derived.Lib.MapLaws
import Derived.Sort.Walk0
import Derived.Lib.SlicesCompact
import Derived.Sort.EncStr
import Derived.Test.YtpacjofepiojdaaDoorE01
import Derived.Test.YtpacjofepiojdaaDoorE02
import Derived.Test.YtpacjofepiojdaaDoorE03
import Derived.Test.YtpacjofepiojdaaDoorE04
import Derived.Test.YtpacjofepiojdaaDoorE05
import Derived.Test.YtpacjofepiojdaaDoorE06
import Derived.Test.YtpacjofepiojdaaDoorE09
import Derived.Test.YtpacjofepiojdaaDoorE10
set_option linter.unusedSimpArgs false
set_option linter.unusedVariables false
namespace Go.Proofs.YtpacjofepiojdaaDoor
open Go.Lib

def bl (s : ByteArray) : List UInt8 := s.data.toList
def ba (l : List UInt8) : ByteArray := ⟨l.toArray⟩
theorem ba_bl (s : ByteArray) : ba (bl s) = s := by simp [ba, bl]
theorem encStr_bl (s : ByteArray) : encStr (bl s) = .string s := by simp [encStr, bl]
/-- The order of two texts, told by their bytes. -/
def cfS (x y : List UInt8) : Int := ordI (ba x) (ba y)

theorem ordI_neg (a b : ByteArray) : ordI a b = -ordI b a := cmpL_neg _ _
theorem ordI_self (a : ByteArray) : ordI a a = 0 := cmpL_self _
theorem ordI_le_lt {a b c : ByteArray} (h1 : ordI a b ≤ 0) (h2 : ordI b c < 0) : ordI a c < 0 := by
  unfold ordI at *
  have h3 := cmpL_trans _ _ _ h1 (Int.le_of_lt h2)
  by_cases h0 : cmpL (rl a) (rl c) = 0
  · exfalso
    have e := cmpL_zero _ _ h0
    rw [e, cmpL_neg] at h1
    omega
  · omega
theorem ordI_le_trans {a b c : ByteArray} (h1 : ordI a b ≤ 0) (h2 : ordI b c ≤ 0) : ordI a c ≤ 0 := cmpL_trans _ _ _ h1 h2

theorem lt_t {x y : List UInt8} (h : ltOf cfS x y = true) : ordI (ba x) (ba y) < 0 := of_decide_eq_true h
theorem lt_f {x y : List UInt8} (h : ltOf cfS x y = false) : 0 ≤ ordI (ba x) (ba y) := Int.not_lt.1 (of_decide_eq_false h)
theorem cf_swo : Go.Sort.SWO (ltOf cfS) where
  irrefl x := decide_eq_false (by unfold cfS; rw [ordI_self]; exact Int.lt_irrefl 0)
  trans x y z h1 h2 := decide_eq_true (ordI_le_lt (Int.le_of_lt (lt_t h1)) (lt_t h2))
  ntrans x y z h1 h2 := decide_eq_false (by
    have h1 := lt_f h1
    have h2 := lt_f h2
    have e1 := ordI_neg (ba x) (ba y)
    have e2 := ordI_neg (ba y) (ba z)
    have e3 := ordI_neg (ba x) (ba z)
    have := ordI_le_trans (a := ba z) (b := ba y) (c := ba x) (by omega) (by omega)
    show ¬ ordI (ba x) (ba z) < 0
    omega)

/-- vs tells the texts of ns in order, each once. -/
structure VrOf (ns vs : List ByteArray) : Prop where
  mem : ∀ s, s ∈ vs ↔ s ∈ ns
  ord : vs.Pairwise (fun a b => ordI a b < 0)

theorem VrOf.nil : VrOf [] [] := ⟨fun _ => Iff.rfl, List.Pairwise.nil⟩

theorem sorted_eq : ∀ a b : List ByteArray, a.Pairwise (fun a b => ordI a b < 0) → b.Pairwise (fun a b => ordI a b < 0) → (∀ s, s ∈ a ↔ s ∈ b) → a = b
  | [], [], _, _, _ => rfl
  | [], y :: b, _, _, h => by have := (h y).2 (List.mem_cons_self ..); cases this
  | x :: a, [], _, _, h => by have := (h x).1 (List.mem_cons_self ..); cases this
  | x :: a, y :: b, ha, hb, h => by
    rw [List.pairwise_cons] at ha hb
    have exy : x = y := by
      rcases List.mem_cons.1 ((h x).1 (List.mem_cons_self ..)) with e | h1
      · exact e
      · rcases List.mem_cons.1 ((h y).2 (List.mem_cons_self ..)) with e | h2
        · exact e.symm
        · have k1 := hb.1 _ h1
          have k2 := ha.1 _ h2
          have := ordI_neg x y
          omega
    subst exy
    rw [sorted_eq a b ha.2 hb.2 fun s => ?_]
    constructor
    · intro hs
      rcases List.mem_cons.1 ((h s).1 (List.mem_cons_of_mem _ hs)) with e | h1
      · subst e
        have := ha.1 _ hs
        rw [ordI_self] at this; omega
      · exact h1
    · intro hs
      rcases List.mem_cons.1 ((h s).2 (List.mem_cons_of_mem _ hs)) with e | h1
      · subst e
        have := hb.1 _ hs
        rw [ordI_self] at this; omega
      · exact h1
theorem VrOf.eq {ns ns' a b : List ByteArray} (ha : VrOf ns a) (hb : VrOf ns' b) (h : ∀ s, s ∈ ns ↔ s ∈ ns') : a = b :=
  sorted_eq a b ha.ord hb.ord fun s => ((ha.mem s).trans (h s)).trans (hb.mem s).symm

theorem compact_vr (d : Array (List UInt8)) (hs : Go.Sort.SortedIn (ltOf cfS) 0 d.size d) (hz : ∀ i j, i < d.size → j < d.size → cfS d[i]! d[j]! = 0 → d[i]! = d[j]!) : ∀ m, m ≤ d.size →
    (∀ x, x ∈ compactUpTo d m ↔ ∃ j, j < m ∧ d[j]! = x) ∧ (compactUpTo d m).Pairwise (fun a b => cfS a b < 0) := by
  intro m
  induction m with
  | zero => intro _; exact ⟨fun x => by simp [compactUpTo], by simp [compactUpTo]⟩
  | succ m ih =>
    intro hm
    obtain ⟨h1, h2⟩ := ih (by omega)
    rw [compactUpTo_succ]
    have low : ∀ i, i ≤ m → cfS d[i]! d[m]! ≤ 0 := by
      intro i hi
      by_cases e : i = m
      · subst e; unfold cfS; rw [ordI_self]; exact Int.le_refl _
      · have := hs i m (by omega) (by omega) (by omega)
        have := lt_f this
        show ordI _ _ ≤ 0
        rw [ordI_neg]; omega
    have low1 : ∀ i, i < m → cfS d[i]! d[m - 1]! ≤ 0 := by
      intro i hi
      by_cases e : i = m - 1
      · subst e; unfold cfS; rw [ordI_self]; exact Int.le_refl _
      · have := hs i (m - 1) (by omega) (by omega) (by omega)
        have := lt_f this
        show ordI _ _ ≤ 0
        rw [ordI_neg]; omega
    by_cases hk : keeps d m = true
    · rw [if_pos hk]
      refine ⟨fun x => ?_, ?_⟩
      · rw [List.mem_append, h1 x]
        constructor
        · rintro (⟨j, hj, e⟩ | h)
          · exact ⟨j, by omega, e⟩
          · simp at h; exact ⟨m, by omega, h.symm⟩
        · rintro ⟨j, hj, e⟩
          by_cases hjm : j = m
          · subst hjm; exact .inr (by simp [e])
          · exact .inl ⟨j, by omega, e⟩
      · rw [List.pairwise_append]
        refine ⟨h2, by simp, fun a ha b hb => ?_⟩
        simp at hb; subst hb
        obtain ⟨j, hj, rfl⟩ := (h1 a).1 ha
        have hm0 : m ≠ 0 := by omega
        simp only [keeps, hm0, false_or, decide_eq_true_eq] at hk
        have k1 := low1 j hj
        have k2 : cfS d[m - 1]! d[m]! < 0 := by
          have := low (m - 1) (by omega)
          by_cases e0 : cfS d[m - 1]! d[m]! = 0
          · exact absurd (hz (m - 1) m (by omega) (by omega) e0).symm hk
          · omega
        exact ordI_le_lt k1 k2
    · rw [if_neg hk, List.append_nil]
      refine ⟨fun x => ?_, h2⟩
      rw [h1 x]
      constructor
      · rintro ⟨j, hj, e⟩; exact ⟨j, by omega, e⟩
      · rintro ⟨j, hj, e⟩
        by_cases hjm : j = m
        · subst hjm
          simp only [keeps, decide_eq_true_eq, not_or, ne_eq, Decidable.not_not] at hk
          exact ⟨j - 1, by omega, by rw [← hk.2]; exact e⟩
        · exact ⟨j, by omega, e⟩

/-- What the sort and Compact leave of the names. -/
theorem sort_vr (ns : List ByteArray) (hn : ∀ s ∈ ns, (chk s).2 = 0) (d : Array (List UInt8)) (hp : Go.Sort.PermIn 0 ns.length (ns.map bl).toArray d) (hs : Go.Sort.SortedIn (ltOf cfS) 0 ns.length d) :
    VrOf ns ((compactUpTo d d.size).map ba) := by
  obtain ⟨p1, _, p3⟩ := hp
  have hsz : d.size = ns.length := by rw [p1]; simp
  rw [← hsz] at hs p3
  have hperm : d.toList.Perm (ns.map bl) := by
    have e1 : (d.extract 0 d.size).toList = d.toList := by simp
    have e2 : ((ns.map bl).toArray.extract 0 d.size).toList = ns.map bl := by rw [hsz]; simp [List.take_of_length_le]
    rw [e1, e2] at p3; exact p3
  have hmem : ∀ x, (∃ j, j < d.size ∧ d[j]! = x) ↔ ∃ s ∈ ns, bl s = x := by
    intro x
    have : x ∈ d.toList ↔ x ∈ ns.map bl := hperm.mem_iff
    constructor
    · rintro ⟨j, hj, rfl⟩
      have h0 : d[j]! ∈ d.toList := by rw [getElem!_pos d j hj]; simp
      obtain ⟨s, h1, h2⟩ := List.mem_map.1 (this.1 h0)
      exact ⟨s, h1, h2⟩
    · rintro ⟨s, h1, h2⟩
      have h0 : x ∈ d.toList := this.2 (List.mem_map.2 ⟨s, h1, h2⟩)
      obtain ⟨j, hj, e⟩ := List.mem_iff_getElem.1 h0
      have hj' : j < d.size := by simpa using hj
      exact ⟨j, hj', by rw [getElem!_pos d j hj']; simpa using e⟩
  have hz : ∀ i j, i < d.size → j < d.size → cfS d[i]! d[j]! = 0 → d[i]! = d[j]! := by
    intro i j hi hj h0
    obtain ⟨s, h1, e1⟩ := (hmem _).1 ⟨i, hi, rfl⟩
    obtain ⟨t, h2, e2⟩ := (hmem _).1 ⟨j, hj, rfl⟩
    rw [← e1, ← e2] at h0 ⊢
    unfold cfS at h0
    rw [ba_bl, ba_bl] at h0
    rw [name_eq (hn s h1) (hn t h2) h0]
  obtain ⟨k1, k2⟩ := compact_vr d hs hz d.size (Nat.le_refl _)
  refine ⟨fun s => ?_, ?_⟩
  · rw [List.mem_map]
    constructor
    · rintro ⟨x, hx, rfl⟩
      obtain ⟨t, h1, e1⟩ := (hmem x).1 ((k1 x).1 hx)
      rw [← e1, ba_bl]; exact h1
    · intro h
      exact ⟨bl s, (k1 _).2 ((hmem _).2 ⟨s, h, rfl⟩), ba_bl s⟩
  · rw [List.pairwise_map]
    exact k2

theorem compact_len (d : Array (List UInt8)) : (compactUpTo d d.size).length ≤ d.size := by
  unfold compactUpTo
  rw [List.length_map]
  exact Nat.le_trans (List.length_filter_le _ _) (by simp)
end Go.Proofs.YtpacjofepiojdaaDoor

set_option linter.unusedSimpArgs false
set_option linter.unusedVariables false
namespace Go.Proofs.YtpacjofepiojdaaDoor
open Go.RowKit Go.Lib

/-- The slice reads as the texts qs. -/
def Strs (w : World) (ao : Option Addr) (cap : Nat) (qs : List ByteArray) : Prop :=
  qs.length ≤ cap ∧ cap ≤ maxLen ∧ (qs = [] ∨ ∃ b o, ao = some ⟨b, o, none⟩ ∧ b < w.heap.size ∧ ∀ j, j < qs.length → w.cell? ⟨b, o + j, none⟩ = some (.string (qs.getD j ⟨#[]⟩)))
theorem Strs.below {w w' : World} {ao : Option Addr} {cap : Nat} {qs : List ByteArray} (h : Strs w ao cap qs) (hb : Below w.heap.size w w') : Strs w' ao cap qs := by
  obtain ⟨h1, h2, h3⟩ := h
  refine ⟨h1, h2, ?_⟩
  rcases h3 with h3 | ⟨b, o, e, hlt, hc⟩
  · exact .inl h3
  · exact .inr ⟨b, o, e, Nat.lt_of_lt_of_le hlt hb.size, fun j hj => (hb.cell (p := ⟨b, o + j, none⟩) hlt).trans (hc j hj)⟩
theorem Strs.same {w w' : World} {ao : Option Addr} {cap : Nat} {qs : List ByteArray} (h : Strs w ao cap qs) (hs : w.heap.size ≤ w'.heap.size) (hb : ∀ b : Nat, b < w.heap.size → w'.heap[b]? = w.heap[b]?) : Strs w' ao cap qs := by
  obtain ⟨h1, h2, h3⟩ := h
  refine ⟨h1, h2, ?_⟩
  rcases h3 with h3 | ⟨b, o, e, hlt, hc⟩
  · exact .inl h3
  · exact .inr ⟨b, o, e, by omega, fun j hj => (World.cell?_of_block (a := ⟨b, o + j, none⟩) (hb b hlt)).trans (hc j hj)⟩

theorem Strs.cell {w : World} {ao : Option Addr} {cap : Nat} {qs : List ByteArray} (h : Strs w ao cap qs) {j : Nat} (hj : j < qs.length) : ∃ b o, ao = some ⟨b, o, none⟩ ∧ b < w.heap.size ∧ w.cell? ⟨b, o + j, none⟩ = some (.string (qs.getD j ⟨#[]⟩)) := by
  rcases h.2.2 with h | ⟨b, o, e, hlt, hc⟩
  · subst h; simp at hj
  · exact ⟨b, o, e, hlt, hc j hj⟩
theorem Rd.cell {w : World} {ao : Option Addr} {cap : Nat} {l : List Nd} (h : Rd w ao cap l) {k : Nat} (hk : k < l.length) : ∃ b o kv, ao = some ⟨b, o, none⟩ ∧ b < w.heap.size ∧ NodeAt w w.heap.size b (o + k * 4) (l.getD k nd0) kv := by
  obtain ⟨ao', cap', e1, _, _, hc⟩ := h
  cases e1
  rcases hc with h | ⟨b, o, e, hlt, hc⟩
  · subst h; simp at hk
  · obtain ⟨kv, hn⟩ := hc k hk
    exact ⟨b, o, kv, e, hlt, hn⟩

end Go.Proofs.YtpacjofepiojdaaDoor
