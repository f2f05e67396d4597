/-
  OrdPure, BytePure, NmPure, VrPure.
-/
import Derived.Shelf.Unicode.DecodeSlow
import Derived.Laws.RangeAny
import Derived.Shelf.Small.Bits
import Derived.Shelf.Strconv.Itoa0
import Derived.Shelf.LaysM
import Derived.Shelf.Strconv.Clone
import Derived.Shelf.Unicode.DecodeAny
import Derived.Ground.SlsfProg
import Derived.Shelf.SlSortCmp.Insertion
import Derived.Shelf.SlSortCmp.SiftDown1
import Derived.Shelf.SlSortCmp.HeapSort1
import Derived.Shelf.SlSortCmp.Insertion1
import Derived.Shelf.SlSortCmp.Median1
import Derived.Shelf.SlSortCmp.Pivot1
import Derived.Shelf.SlSortCmp.ReverseRange1
import Derived.Shelf.SlSortCmp.PartitionEqual1
import Derived.Test.YtkbcgcempchoaaaDoorProg
import Derived.WalkKit
import Derived.Deep.DeepFit
import Derived.Lib.OthersKept
import Derived.Lib.RuneCountTail
import Derived.Laws.DeepStrings4
import Derived.Lib.MapLaws
import Derived.Sort.Walk0
import Derived.Shelf.SlSortCmp.Whole1
import Derived.Lib.SlicesCompact
import Derived.Sort.EncStr
import Derived.Test.YtkbcgcempchoaaaDoorH01
import Derived.Test.YtkbcgcempchoaaaDoorH02
import Derived.Test.YtkbcgcempchoaaaDoorH04
set_option linter.unusedSimpArgs false
set_option linter.unusedVariables false
namespace Go.Proofs.YtkbcgcempchoaaaDoor
open Go.Lib

/-! ### an order -/
theorem cmp3_self (a : Int) : cmp3 a a = 0 := by simp [cmp3]
theorem cmp3_neg (a b : Int) : cmp3 a b = -cmp3 b a := by unfold cmp3; repeat' split <;> omega
theorem cmp3_zero (a b : Int) : cmp3 a b = 0 ↔ a = b := by unfold cmp3; constructor <;> intro h <;> (repeat' split at *) <;> omega
theorem cmpL_self : ∀ l : List Int, cmpL l l = 0
  | [] => rfl
  | a :: l => by rw [cmpL, if_pos (cmp3_self a), cmpL_self l]
theorem cmpL_neg : ∀ l m : List Int, cmpL l m = -cmpL m l
  | [], [] => rfl
  | [], _ :: _ => rfl
  | _ :: _, [] => rfl
  | a :: l, b :: m => by
    rw [cmpL, cmpL, cmp3_neg a b]
    by_cases h : cmp3 b a = 0
    · rw [if_pos (by omega), if_pos h, cmpL_neg l m]
    · rw [if_neg (by omega), if_neg h]
theorem cmpL_trans : ∀ l m k : List Int, cmpL l m ≤ 0 → cmpL m k ≤ 0 → cmpL l k ≤ 0
  | [], [], [], _, _ => by simp [cmpL]
  | [], _, _ :: _, _, _ => by simp [cmpL]
  | [], _ :: _, [], _, h => by simp [cmpL]
  | _ :: _, [], _, h, _ => by simp [cmpL] at h
  | _ :: _, _ :: _, [], _, h => by simp [cmpL] at h
  | a :: l, b :: m, c :: k, h1, h2 => by
    rw [cmpL] at h1 h2 ⊢
    unfold cmp3 at *
    by_cases e1 : a < b
    · by_cases e2 : b < c
      · have : a < c := by omega
        simp [this]
      · by_cases e3 : c < b
        · simp [e2, e3] at h2
        · have : a < c := by omega
          simp [this]
    · by_cases e1' : b < a
      · simp [e1, e1'] at h1
      · have eab : a = b := by omega
        subst eab
        by_cases e2 : a < c
        · simp [e2]
        · by_cases e3 : c < a
          · simp [e2, e3] at h2
          · simp [e2, e3] at h1 h2 ⊢
            exact cmpL_trans l m k h1 h2
theorem cmpL_zero : ∀ l m : List Int, cmpL l m = 0 → l = m
  | [], [], _ => rfl
  | [], _ :: _, h => by simp [cmpL] at h
  | _ :: _, [], h => by simp [cmpL] at h
  | a :: l, b :: m, h => by
    rw [cmpL] at h
    split at h
    · rename_i e; rw [(cmp3_zero a b).1 e, cmpL_zero l m h]
    · rename_i e; exact absurd h e

/-! ### texts that are joined -/
theorem bad_false_iff (s : ByteArray) (pos : Nat) : bad s pos = false ↔ ¬ Utf8.decode s pos = (65533, 1) := by
  constructor
  · intro h e; simp [bad, e] at h
  · intro h
    cases hb : bad s pos
    · rfl
    · exact absurd (bad_eq hb) h
/-- Every place that is come to is good. -/
def Good (a : ByteArray) (pos : Nat) : Prop := ∃ f, a.size ≤ pos + f ∧ (chkF a f pos).2 = 0
theorem good_start (a : ByteArray) (h : (chk a).2 = 0) : Good a 0 := ⟨a.size, by omega, h⟩
theorem good_step (a : ByteArray) (pos : Nat) (hp : pos < a.size) (h : Good a pos) : bad a pos = false ∧ Good a (pos + (Utf8.decode a pos).2) := by
  obtain ⟨f, hf, hc⟩ := h
  obtain ⟨f, rfl⟩ : ∃ g, f = g + 1 := ⟨f - 1, by omega⟩
  have hv := width_pos a pos hp
  cases hb : bad a pos
  · rw [chkF_good a f pos hp hb] at hc
    exact ⟨rfl, f, by omega, hc⟩
  · rw [chkF_bad a f pos hp hb] at hc
    simp at hc
theorem ord_self (a : ByteArray) : ordI a a = 0 := cmpL_self _
end Go.Proofs.YtkbcgcempchoaaaDoor

set_option linter.unusedSimpArgs false
set_option linter.unusedVariables false
namespace Go.Proofs.YtkbcgcempchoaaaDoor
open Go.Lib

/-! ### a text without bad bytes -/
theorem bytes_good (s : ByteArray) : ∀ (f pos : Nat), s.size ≤ pos + f → pos ≤ s.size → Good s pos → s.data.toList.drop pos = (runesFrom s f pos).flatMap encodeRune
  | 0, pos, h1, h2, _ => by
    have : pos = s.size := by omega
    subst this
    rw [size_eq, List.drop_of_length_le (Nat.le_refl _)]; rfl
  | f + 1, pos, h1, h2, hg => by
    by_cases hp : pos < s.size
    · obtain ⟨hb, hg'⟩ := good_step s pos hp hg
      have hv := width_pos s pos hp
      have hv2 := dec_le s pos hp
      have hne : s.data.toList.drop pos ≠ [] := by
        intro e
        have := congrArg List.length e
        rw [List.length_drop, ← size_eq] at this
        simp at this; omega
      have he := encode_decode (s.data.toList.drop pos) hne (by
        rw [decodeL_drop]
        intro e
        exact (bad_false_iff s pos).1 hb (Prod.ext e.1 e.2))
      rw [decodeL_drop] at he
      rw [runesFrom_cons s f pos hp, List.flatMap_cons, he, ← bytes_good s f _ (by omega) hv2 hg', ← List.drop_drop, List.take_append_drop]
    · have : pos = s.size := by omega
      subst this
      rw [runesFrom_end s _ _ hp, size_eq, List.drop_of_length_le (Nat.le_refl _)]; rfl
theorem bytes_of_good (s : ByteArray) (h : (chk s).2 = 0) : s.data.toList = (rl s).flatMap encodeRune := by
  have := bytes_good s s.size 0 (by omega) (by omega) (good_start s h)
  simpa [rl] using this
theorem eq_good (a b : ByteArray) (ha : (chk a).2 = 0) (hb : (chk b).2 = 0) : (a.toList == b.toList) = decide (ordI a b = 0) := by
  rw [Bool.eq_iff_iff, beq_iff_eq, decide_eq_true_eq, toList_data, toList_data]
  constructor
  · intro h
    have : a = b := by
      apply ByteArray.ext; exact Array.ext' h
    rw [this]; exact ord_self b
  · intro h
    rw [bytes_of_good a ha, bytes_of_good b hb, cmpL_zero _ _ h]
end Go.Proofs.YtkbcgcempchoaaaDoor

set_option linter.unusedSimpArgs false
set_option linter.unusedVariables false
namespace Go.Proofs.YtkbcgcempchoaaaDoor
open Go.Lib

/-! ### names -/
theorem nmF_chk (s : ByteArray) : ∀ (f pos n : Nat), nmF s f pos n = true → (chkF s f pos).2 = 0
  | 0, pos, n, h => rfl
  | f + 1, pos, n, h => by
    by_cases hp : pos < s.size
    · rw [nmF_step s f pos n hp] at h
      unfold nmS at h
      split at h
      · simp at h
      · rename_i hk
        have ho : onB (Utf8.decode s pos).1 = true := by
          cases hq : onB (Utf8.decode s pos).1 with
          | true => rfl
          | false => simp [hq] at hk
        rw [chkF_good s f pos hp (good_of_on s pos ho)]
        exact nmF_chk s f _ _ h
    · rw [chkF_end s _ pos hp]
theorem name_chk (s : ByteArray) (h : nameB s = true) : (chk s).2 = 0 := nmF_chk s _ _ _ h
theorem empty_chk (s : ByteArray) (h : s.toList.isEmpty = true) : (chk s).2 = 0 := by
  rw [toList_data] at h
  have hz : s.size = 0 := by
    have : s.data.toList = [] := by simpa using h
    show s.data.size = 0
    rw [← Array.length_toList, this]; rfl
  unfold chk
  rw [chkF_end s _ 0 (by omega)]

theorem nmF_size (s : ByteArray) : ∀ (f pos n : Nat), s.size ≤ pos + f → nmF s f pos n = true → s.size ≤ pos + 4 * (16 - n)
  | 0, pos, n, hf, h => by omega
  | f + 1, pos, n, hf, h => by
    by_cases hp : pos < s.size
    · have hw := width_pos s pos hp
      have hw4 : (Utf8.decode s pos).2 ≤ 4 := by
        rw [decode_at s pos]; exact (decodeN_width _ _ _ _ _).2
      have hn : n < 16 := by
        by_cases hn : 16 ≤ n
        · exfalso
          rw [nmF_step s f pos n hp] at h
          unfold nmS at h
          split at h
          · simp at h
          · rw [nmF_long s f _ (n + 1) (by omega)] at h; simp at h
        · omega
      rw [nmF_step s f pos n hp] at h
      unfold nmS at h
      split at h
      · simp at h
      · have := nmF_size s f _ _ (by omega) h
        omega
    · omega
theorem name_size (s : ByteArray) (h : nameB s = true) : s.size ≤ 64 := by
  have := nmF_size s s.size 0 0 (by omega) h
  omega

theorem form_name {x : Nd} (h : formB x = true) : (chk x.name).2 = 0 ∧ x.name.size ≤ 64 := by
  unfold formB fitB at h
  simp only [Bool.and_eq_true] at h
  obtain ⟨_, h⟩ := h
  split at h
  · exact ⟨name_chk _ h, name_size _ h⟩
  · refine ⟨empty_chk _ h, ?_⟩
    rw [toList_data] at h
    have : x.name.data.toList = [] := by simpa using h
    show x.name.data.size ≤ 64
    rw [← Array.length_toList, this]; simp
theorem name_eq {a b : ByteArray} (ha : (chk a).2 = 0) (hb : (chk b).2 = 0) (h : ordI a b = 0) : a = b := by
  have := eq_good a b ha hb
  rw [h] at this
  simp only [decide_true, beq_iff_eq, toList_data] at this
  exact ByteArray.ext (Array.ext' this)

end Go.Proofs.YtkbcgcempchoaaaDoor

set_option linter.unusedSimpArgs false
set_option linter.unusedVariables false
namespace Go.Proofs.YtkbcgcempchoaaaDoor
open Go.Lib

def bl (s : ByteArray) : List UInt8 := s.data.toList
def ba (l : List UInt8) : ByteArray := ⟨l.toArray⟩
theorem ba_bl (s : ByteArray) : ba (bl s) = s := by simp [ba, bl]
theorem encStr_bl (s : ByteArray) : encStr (bl s) = .string s := by simp [encStr, bl]
/-- The order of two texts, told by their bytes. -/
def cfS (x y : List UInt8) : Int := ordI (ba x) (ba y)

theorem ordI_neg (a b : ByteArray) : ordI a b = -ordI b a := cmpL_neg _ _
theorem ordI_self (a : ByteArray) : ordI a a = 0 := cmpL_self _
theorem ordI_le_lt {a b c : ByteArray} (h1 : ordI a b ≤ 0) (h2 : ordI b c < 0) : ordI a c < 0 := by
  unfold ordI at *
  have h3 := cmpL_trans _ _ _ h1 (Int.le_of_lt h2)
  by_cases h0 : cmpL (rl a) (rl c) = 0
  · exfalso
    have e := cmpL_zero _ _ h0
    rw [e, cmpL_neg] at h1
    omega
  · omega
theorem ordI_le_trans {a b c : ByteArray} (h1 : ordI a b ≤ 0) (h2 : ordI b c ≤ 0) : ordI a c ≤ 0 := cmpL_trans _ _ _ h1 h2

theorem lt_t {x y : List UInt8} (h : ltOf cfS x y = true) : ordI (ba x) (ba y) < 0 := of_decide_eq_true h
theorem lt_f {x y : List UInt8} (h : ltOf cfS x y = false) : 0 ≤ ordI (ba x) (ba y) := Int.not_lt.1 (of_decide_eq_false h)
theorem cf_swo : Go.Sort.SWO (ltOf cfS) where
  irrefl x := decide_eq_false (by unfold cfS; rw [ordI_self]; exact Int.lt_irrefl 0)
  trans x y z h1 h2 := decide_eq_true (ordI_le_lt (Int.le_of_lt (lt_t h1)) (lt_t h2))
  ntrans x y z h1 h2 := decide_eq_false (by
    have h1 := lt_f h1
    have h2 := lt_f h2
    have e1 := ordI_neg (ba x) (ba y)
    have e2 := ordI_neg (ba y) (ba z)
    have e3 := ordI_neg (ba x) (ba z)
    have := ordI_le_trans (a := ba z) (b := ba y) (c := ba x) (by omega) (by omega)
    show ¬ ordI (ba x) (ba z) < 0
    omega)

/-- vs tells the texts of ns in order, each once. -/
structure VrOf (ns vs : List ByteArray) : Prop where
  mem : ∀ s, s ∈ vs ↔ s ∈ ns
  ord : vs.Pairwise (fun a b => ordI a b < 0)

theorem VrOf.nil : VrOf [] [] := ⟨fun _ => Iff.rfl, List.Pairwise.nil⟩

theorem compact_vr (d : Array (List UInt8)) (hs : Go.Sort.SortedIn (ltOf cfS) 0 d.size d) (hz : ∀ i j, i < d.size → j < d.size → cfS d[i]! d[j]! = 0 → d[i]! = d[j]!) : ∀ m, m ≤ d.size →
    (∀ x, x ∈ compactUpTo d m ↔ ∃ j, j < m ∧ d[j]! = x) ∧ (compactUpTo d m).Pairwise (fun a b => cfS a b < 0) := by
  intro m
  induction m with
  | zero => intro _; exact ⟨fun x => by simp [compactUpTo], by simp [compactUpTo]⟩
  | succ m ih =>
    intro hm
    obtain ⟨h1, h2⟩ := ih (by omega)
    rw [compactUpTo_succ]
    have low : ∀ i, i ≤ m → cfS d[i]! d[m]! ≤ 0 := by
      intro i hi
      by_cases e : i = m
      · subst e; unfold cfS; rw [ordI_self]; exact Int.le_refl _
      · have := hs i m (by omega) (by omega) (by omega)
        have := lt_f this
        show ordI _ _ ≤ 0
        rw [ordI_neg]; omega
    have low1 : ∀ i, i < m → cfS d[i]! d[m - 1]! ≤ 0 := by
      intro i hi
      by_cases e : i = m - 1
      · subst e; unfold cfS; rw [ordI_self]; exact Int.le_refl _
      · have := hs i (m - 1) (by omega) (by omega) (by omega)
        have := lt_f this
        show ordI _ _ ≤ 0
        rw [ordI_neg]; omega
    by_cases hk : keeps d m = true
    · rw [if_pos hk]
      refine ⟨fun x => ?_, ?_⟩
      · rw [List.mem_append, h1 x]
        constructor
        · rintro (⟨j, hj, e⟩ | h)
          · exact ⟨j, by omega, e⟩
          · simp at h; exact ⟨m, by omega, h.symm⟩
        · rintro ⟨j, hj, e⟩
          by_cases hjm : j = m
          · subst hjm; exact .inr (by simp [e])
          · exact .inl ⟨j, by omega, e⟩
      · rw [List.pairwise_append]
        refine ⟨h2, by simp, fun a ha b hb => ?_⟩
        simp at hb; subst hb
        obtain ⟨j, hj, rfl⟩ := (h1 a).1 ha
        have hm0 : m ≠ 0 := by omega
        simp only [keeps, hm0, false_or, decide_eq_true_eq] at hk
        have k1 := low1 j hj
        have k2 : cfS d[m - 1]! d[m]! < 0 := by
          have := low (m - 1) (by omega)
          by_cases e0 : cfS d[m - 1]! d[m]! = 0
          · exact absurd (hz (m - 1) m (by omega) (by omega) e0).symm hk
          · omega
        exact ordI_le_lt k1 k2
    · rw [if_neg hk, List.append_nil]
      refine ⟨fun x => ?_, h2⟩
      rw [h1 x]
      constructor
      · rintro ⟨j, hj, e⟩; exact ⟨j, by omega, e⟩
      · rintro ⟨j, hj, e⟩
        by_cases hjm : j = m
        · subst hjm
          simp only [keeps, decide_eq_true_eq, not_or, ne_eq, Decidable.not_not] at hk
          exact ⟨j - 1, by omega, by rw [← hk.2]; exact e⟩
        · exact ⟨j, by omega, e⟩

/-- What the sort and Compact leave of the names. -/
theorem sort_vr (ns : List ByteArray) (hn : ∀ s ∈ ns, (chk s).2 = 0) (d : Array (List UInt8)) (hp : Go.Sort.PermIn 0 ns.length (ns.map bl).toArray d) (hs : Go.Sort.SortedIn (ltOf cfS) 0 ns.length d) :
    VrOf ns ((compactUpTo d d.size).map ba) := by
  obtain ⟨p1, _, p3⟩ := hp
  have hsz : d.size = ns.length := by rw [p1]; simp
  rw [← hsz] at hs p3
  have hperm : d.toList.Perm (ns.map bl) := by
    have e1 : (d.extract 0 d.size).toList = d.toList := by simp
    have e2 : ((ns.map bl).toArray.extract 0 d.size).toList = ns.map bl := by rw [hsz]; simp [List.take_of_length_le]
    rw [e1, e2] at p3; exact p3
  have hmem : ∀ x, (∃ j, j < d.size ∧ d[j]! = x) ↔ ∃ s ∈ ns, bl s = x := by
    intro x
    have : x ∈ d.toList ↔ x ∈ ns.map bl := hperm.mem_iff
    constructor
    · rintro ⟨j, hj, rfl⟩
      have h0 : d[j]! ∈ d.toList := by rw [getElem!_pos d j hj]; simp
      obtain ⟨s, h1, h2⟩ := List.mem_map.1 (this.1 h0)
      exact ⟨s, h1, h2⟩
    · rintro ⟨s, h1, h2⟩
      have h0 : x ∈ d.toList := this.2 (List.mem_map.2 ⟨s, h1, h2⟩)
      obtain ⟨j, hj, e⟩ := List.mem_iff_getElem.1 h0
      have hj' : j < d.size := by simpa using hj
      exact ⟨j, hj', by rw [getElem!_pos d j hj']; simpa using e⟩
  have hz : ∀ i j, i < d.size → j < d.size → cfS d[i]! d[j]! = 0 → d[i]! = d[j]! := by
    intro i j hi hj h0
    obtain ⟨s, h1, e1⟩ := (hmem _).1 ⟨i, hi, rfl⟩
    obtain ⟨t, h2, e2⟩ := (hmem _).1 ⟨j, hj, rfl⟩
    rw [← e1, ← e2] at h0 ⊢
    unfold cfS at h0
    rw [ba_bl, ba_bl] at h0
    rw [name_eq (hn s h1) (hn t h2) h0]
  obtain ⟨k1, k2⟩ := compact_vr d hs hz d.size (Nat.le_refl _)
  refine ⟨fun s => ?_, ?_⟩
  · rw [List.mem_map]
    constructor
    · rintro ⟨x, hx, rfl⟩
      obtain ⟨t, h1, e1⟩ := (hmem x).1 ((k1 x).1 hx)
      rw [← e1, ba_bl]; exact h1
    · intro h
      exact ⟨bl s, (k1 _).2 ((hmem _).2 ⟨s, h, rfl⟩), ba_bl s⟩
  · rw [List.pairwise_map]
    exact k2

theorem compact_len (d : Array (List UInt8)) : (compactUpTo d d.size).length ≤ d.size := by
  unfold compactUpTo
  rw [List.length_map]
  exact Nat.le_trans (List.length_filter_le _ _) (by simp)
end Go.Proofs.YtkbcgcempchoaaaDoor
