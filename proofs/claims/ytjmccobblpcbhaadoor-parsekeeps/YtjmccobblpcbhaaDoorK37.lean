/-
  BkR, EmPure, EmTok, EmNest.
-/
import Derived.Shelf.Unicode.DecodeSlow
import Derived.Laws.RangeAny
import Derived.Shelf.Strings.Builder1
import Derived.Shelf.Small.Utf8
import Derived.Shelf.Small.Bits
import Derived.Shelf.Strings.BuilderF
import Derived.Shelf.Strings.BuilderK
import Derived.Shelf.Strings.BuilderRune
import Derived.Shelf.Utf8.AppendRune
import Derived.Shelf.Strconv.Itoa0
import Derived.Shelf.Strconv.Itoa1
import Derived.Shelf.LaysM
import Derived.Shelf.Strconv.Itoa2
import Derived.Shelf.Strconv.Itoa3
import Derived.Shelf.Strconv.Itoa4
import Derived.Shelf.Strings.Prefix
import Derived.Shelf.Unicode.DecodeAny
import Derived.Test.YtjmccobblpcbhaaDoorProg
import Derived.WalkKit
import Derived.Deep.DeepFit
import Derived.Lib.OthersKept
import Derived.Lib.RuneCountTail
import Derived.Lib.Small
import Derived.Lib.Strings
import Derived.Lib.MapLaws
import Derived.Deep.AppendLies
import Derived.Deep.OwnRows
import Derived.Laws.AppendOwnNone
import Derived.Deep.QuietTactic
import Derived.BigQuiet
import Derived.Deep.RegionWith
import Derived.Laws.DeepStrings4
import Derived.Deep.RegionHeld3
import Derived.Laws.ResultCell
import Derived.Lib.QuietBelow
import Derived.Deep.Heap
import Derived.Laws.Rows
import Derived.Below
import Derived.StillTail
import Derived.Sort.Walk0
import Derived.Deep.RegionLaw
import Derived.Test.YtjmccobblpcbhaaDoorK01
import Derived.Test.YtjmccobblpcbhaaDoorK02
import Derived.Test.YtjmccobblpcbhaaDoorK03
import Derived.Test.YtjmccobblpcbhaaDoorK04
import Derived.Test.YtjmccobblpcbhaaDoorK05
import Derived.Test.YtjmccobblpcbhaaDoorK06
import Derived.Test.YtjmccobblpcbhaaDoorK07
import Derived.Test.YtjmccobblpcbhaaDoorK08
import Derived.Test.YtjmccobblpcbhaaDoorK09
import Derived.Test.YtjmccobblpcbhaaDoorK10
import Derived.Test.YtjmccobblpcbhaaDoorK11
import Derived.Test.YtjmccobblpcbhaaDoorK12
import Derived.Test.YtjmccobblpcbhaaDoorK13
import Derived.Test.YtjmccobblpcbhaaDoorK14
import Derived.Test.YtjmccobblpcbhaaDoorK15
import Derived.Test.YtjmccobblpcbhaaDoorK19
import Derived.Test.YtjmccobblpcbhaaDoorK20
import Derived.Test.YtjmccobblpcbhaaDoorK21
import Derived.Test.YtjmccobblpcbhaaDoorK34
import Derived.Test.YtjmccobblpcbhaaDoorK35
import Derived.Test.YtjmccobblpcbhaaDoorK36
set_option linter.unusedSimpArgs false
set_option linter.unusedVariables false
namespace Go.Proofs.YtjmccobblpcbhaaDoor
open Go.RowKit Go.Lib Go.Sort

theorem own_low {w : World} {base base' : Nat} {e : TypeId} {s n : Nat} {v : Value} {xs : List Value} (h : w.ownsRow base e s v n xs) (hb : base' ≤ base) : w.ownsRow base' e s v n xs :=
  ⟨h.1, h.2.imp id fun ⟨g, cap, cur, h1, h2, h3⟩ => ⟨g, cap, cur, h1, by omega, h3⟩⟩
/-- The rows of kids. -/
def kR (q : List (Nd × Value)) : List Rw := q.map fun y => (y.2, y.1.kids.length, y.1.kids.map (Value.int .i64))
theorem kR_v (q : List (Nd × Value)) : (kR q).map (·.1) = q.map (·.2) := by simp [kR]
/-- Rows one after the other. -/
def LiesR (R : List Rw) (lo hi : Nat) : Prop := ∀ r ∈ R, ∀ b, r.1.ownBlock = some b → lo ≤ b ∧ b < hi
theorem RwL.app {w : World} {base : Nat} {e : TypeId} {s : Nat} {R S : List Rw} (h : RwL w base e s R) (k : RwL w base e s S) (hd : ∀ r ∈ R, ∀ t ∈ S, ∀ b, r.1.ownBlock = some b → t.1.ownBlock ≠ some b) : RwL w base e s (R ++ S) :=
  ⟨fun r hr => (List.mem_append.1 hr).elim (h.own r) (k.own r), List.pairwise_append.2 ⟨h.ap, k.ap, hd⟩⟩
theorem lies_apart {R S : List Rw} {a b c d : Nat} (h : LiesR R a b) (k : LiesR S c d) (hbc : b ≤ c ∨ d ≤ a) : ∀ r ∈ R, ∀ t ∈ S, ∀ g, r.1.ownBlock = some g → t.1.ownBlock ≠ some g := fun r hr t ht g h1 h2 => by
  have := h r hr g h1; have := k t ht g h2; omega
theorem RwL.one {w : World} {base : Nat} {e : TypeId} {s : Nat} {r : Rw} (h : w.ownsRow base e s r.1 r.2.1 r.2.2) : RwL w base e s [r] := ⟨fun x hx => by simp at hx; subst hx; exact h, List.pairwise_singleton _ _⟩
theorem RwL.lies {w : World} {base : Nat} {e : TypeId} {s : Nat} {R : List Rw} (h : RwL w base e s R) : LiesR R base w.heap.size := fun r hr b hb => by
  obtain ⟨h1, h2, _⟩ := rw_block (h.own r hr) hb
  exact ⟨h1, h2⟩
theorem RwL.low {w : World} {base base' : Nat} {e : TypeId} {s : Nat} {R : List Rw} (h : RwL w base e s R) (hb : base' ≤ base) : RwL w base' e s R := ⟨fun r hr => own_low (h.own r hr) hb, h.ap⟩
theorem RwL.bel {w w' : World} {base : Nat} {e : TypeId} {s : Nat} {R : List Rw} (h : RwL w base e s R) (hb : Below w.heap.size w w') : RwL w' base e s R := h.keep fun r hr b hv => hb.block b (rw_block (h.own r hr) hv).2.1
theorem LiesR.app {R S : List Rw} {a b : Nat} (h : LiesR R a b) (k : LiesR S a b) : LiesR (R ++ S) a b := fun r hr => (List.mem_append.1 hr).elim (h r) (k r)
theorem LiesR.wide {R : List Rw} {a b a' b' : Nat} (h : LiesR R a b) (h1 : a' ≤ a) (h2 : b ≤ b') : LiesR R a' b' := fun r hr g hg => by have := h r hr g hg; omega
theorem kR_own {w : World} {base : Nat} {v : Value} {q : List (Nd × Value)} (h : OwnP w base v q) (ha : KdAp q) : RwL w base 3 1 (kR q) :=
  ⟨fun r hr => by
    obtain ⟨y, hy, rfl⟩ := List.mem_map.1 hr
    exact h.kids y hy, List.pairwise_map.2 ha⟩
/-- Answers: expressions that were made one after the other, from lo to hi. -/
structure Anss (W : World) (lo hi : Nat) (A : List (Value × List (Nd × Value))) : Prop where
  kids : RwL W lo 3 1 (A.flatMap fun a => kR a.2)
  rows : RwL W lo 60 4 (A.map fun a => (a.1, a.2.length, ndCells a.2))
  lk : LiesR (A.flatMap fun a => kR a.2) lo hi
  lr : LiesR (A.map fun a => (a.1, a.2.length, ndCells a.2)) lo hi
  le : lo ≤ hi
theorem Anss.nil (W : World) (z : Nat) : Anss W z z [] := ⟨⟨by simp, List.Pairwise.nil⟩, ⟨by simp, List.Pairwise.nil⟩, (by intro r hr; simp at hr), (by intro r hr; simp at hr), Nat.le_refl _⟩
theorem Anss.below {W W' : World} {lo hi : Nat} {A : List (Value × List (Nd × Value))} (h : Anss W lo hi A) (hb : Below W.heap.size W W') : Anss W' lo hi A :=
  ⟨h.kids.bel hb, h.rows.bel hb, h.lk, h.lr, h.le⟩
theorem Anss.wide {W : World} {lo hi hi' : Nat} {A : List (Value × List (Nd × Value))} (h : Anss W lo hi A) (hb : hi ≤ hi') : Anss W lo hi' A :=
  ⟨h.kids, h.rows, h.lk.wide (Nat.le_refl _) hb, h.lr.wide (Nat.le_refl _) hb, Nat.le_trans h.le hb⟩
theorem Anss.snoc {W : World} {lo hi : Nat} {A : List (Value × List (Nd × Value))} {v : Value} {q : List (Nd × Value)} (h : Anss W lo hi A) (ho : OwnP W hi v q) (ha : KdAp q) (hw : hi ≤ W.heap.size) : Anss W lo W.heap.size (A ++ [(v, q)]) := by
  have k1 := kR_own ho ha
  have r1 : RwL W hi 60 4 [((v, q.length, ndCells q) : Rw)] := RwL.one ho.row
  have e1 : ((A ++ [(v, q)]).flatMap fun a => kR a.2) = (A.flatMap fun a => kR a.2) ++ kR q := by simp
  have e2 : ((A ++ [(v, q)]).map fun a => ((a.1, a.2.length, ndCells a.2) : Rw)) = (A.map fun a => (a.1, a.2.length, ndCells a.2)) ++ [(v, q.length, ndCells q)] := by simp
  refine ⟨?_, ?_, ?_, ?_, Nat.le_trans h.le hw⟩
  · rw [e1]; exact h.kids.app (k1.low h.le) (lies_apart h.lk k1.lies (.inl (Nat.le_refl _)))
  · rw [e2]; exact h.rows.app (r1.low h.le) (lies_apart h.lr r1.lies (.inl (Nat.le_refl _)))
  · rw [e1]; exact (h.lk.wide (Nat.le_refl _) hw).app (k1.lies.wide h.le (Nat.le_refl _))
  · rw [e2]; exact (h.lr.wide (Nat.le_refl _) hw).app (r1.lies.wide h.le (Nat.le_refl _))
theorem Anss.ownP {W : World} {lo hi : Nat} {A : List (Value × List (Nd × Value))} (h : Anss W lo hi A) {a : Value × List (Nd × Value)} (ha : a ∈ A) : OwnP W lo a.1 a.2 :=
  ⟨h.rows.own _ (List.mem_map_of_mem ha), fun y hy => h.kids.own ((y.2, y.1.kids.length, y.1.kids.map (Value.int .i64)) : Rw) (List.mem_flatMap.2 ⟨a, ha, List.mem_map_of_mem (f := fun y : Nd × Value => ((y.2, y.1.kids.length, y.1.kids.map (Value.int .i64)) : Rw)) hy⟩)⟩
end Go.Proofs.YtjmccobblpcbhaaDoor

set_option linter.unusedSimpArgs false
set_option linter.unusedVariables false
namespace Go.Proofs.YtjmccobblpcbhaaDoor
open Go.Lib

/-- s stands in S from d on; behind it a bracket that closes, or a blank. -/
structure Mid (S s : ByteArray) (d : Nat) : Prop where
  size : d + s.size < S.size
  get : ∀ i, i < s.size → S.get! (d + i) = s.get! i
  stop : S.get! (d + s.size) = 41 ∨ S.get! (d + s.size) = 32

theorem Mid.low {S s : ByteArray} {d : Nat} (h : Mid S s d) : (S.get! (d + s.size)).toNat < 64 := by
  rcases h.stop with e | e <;> rw [e] <;> decide
theorem dN1 (n b0 x1 x2 x3 y1 y2 y3 : Nat) (hx : x1 / 64 = 0) : decodeN n b0 x1 x2 x3 = decodeN 1 b0 y1 y2 y3 := by
  unfold decodeN
  by_cases h0 : b0 < 128
  · rw [if_pos h0, if_pos h0]
  · rw [if_neg h0, if_neg h0, if_neg (fun c => by omega), if_neg (fun c => by omega), if_neg (fun c => by omega), if_neg (fun c => by omega), if_neg (fun c => by omega), if_neg (fun c => by omega)]
theorem dN2 (n b0 b1 x2 x3 y2 y3 : Nat) (hn : 1 < n) (hx : x2 / 64 = 0) : decodeN n b0 b1 x2 x3 = decodeN 2 b0 b1 y2 y3 := by
  have a1 : (1 < n) = True := by simp; omega
  have a2 : (1 < 2) = True := by simp
  have a3 : ¬ (2 < n ∧ x2 / 64 = 2) := fun c => by omega
  have a4 : ¬ (2 < 2 ∧ y2 / 64 = 2) := fun c => by omega
  unfold decodeN
  simp only [a1, a2, a3, a4, false_and, and_false, if_false]
theorem dN3 (n b0 b1 b2 x3 y3 : Nat) (hn : 2 < n) (hx : x3 / 64 = 0) : decodeN n b0 b1 b2 x3 = decodeN 3 b0 b1 b2 y3 := by
  have a1 : (1 < n) = True := by simp; omega
  have a2 : (2 < n) = True := by simp; omega
  have a3 : (1 < 3) = True := by simp
  have a4 : (2 < 3) = True := by simp
  have a5 : ¬ (3 < n ∧ x3 / 64 = 2) := fun c => by omega
  have a6 : ¬ (3 < 3 ∧ y3 / 64 = 2) := fun c => by omega
  unfold decodeN
  simp only [a1, a2, a3, a4, a5, a6, false_and, and_false, if_false]
theorem dN4 (n m b0 b1 b2 b3 : Nat) (hn : 3 < n) (hm : 3 < m) : decodeN n b0 b1 b2 b3 = decodeN m b0 b1 b2 b3 := by
  unfold decodeN
  have a1 : (1 < n) = True := by simp; omega
  have a2 : (2 < n) = True := by simp; omega
  have a3 : (3 < n) = True := by simp; omega
  have c1 : (1 < m) = True := by simp; omega
  have c2 : (2 < m) = True := by simp; omega
  have c3 : (3 < m) = True := by simp; omega
  simp only [a1, a2, a3, c1, c2, c3]
theorem Mid.dec {S s : ByteArray} {d : Nat} (h : Mid S s d) {p : Nat} (hp : p < s.size) : Utf8.decode S (d + p) = Utf8.decode s p := by
  have hl := h.low
  have hz := h.size
  rw [decode_at, decode_at, h.get p hp]
  have g : ∀ i, p + i < s.size → S.get! (d + p + i) = s.get! (p + i) := fun i hi => by rw [Nat.add_assoc]; exact h.get (p + i) hi
  have e : ∀ i, p + i = s.size → (S.get! (d + p + i)).toNat / 64 = 0 := fun i hi => by
    have : d + p + i = d + s.size := by omega
    rw [this]; omega
  have c : s.size - p = 1 ∨ s.size - p = 2 ∨ s.size - p = 3 ∨ 4 ≤ s.size - p := by omega
  rcases c with c | c | c | c
  · rw [c]; exact dN1 _ _ _ _ _ _ _ _ (e 1 (by omega))
  · rw [c, g 1 (by omega)]; exact dN2 _ _ _ _ _ _ _ (by omega) (e 2 (by omega))
  · rw [c, g 1 (by omega), g 2 (by omega)]; exact dN3 _ _ _ _ _ _ (by omega) (e 3 (by omega))
  · rw [g 1 (by omega), g 2 (by omega), g 3 (by omega)]; exact dN4 _ _ _ _ _ _ (by omega) (by omega)
/-- What stands behind s. -/
theorem Mid.behind {S s : ByteArray} {d : Nat} (h : Mid S s d) : (Utf8.decode S (d + s.size)).1 = 41 ∨ (Utf8.decode S (d + s.size)).1 = 32 := by
  rcases h.stop with e | e
  · left; rw [decode_at, e]; unfold decodeN; rfl
  · right; rw [decode_at, e]; unfold decodeN; rfl
theorem ba_get (s : ByteArray) (k : Nat) (h : k < s.size) : s.data.toList[k]? = some (s.get! k) := by
  have hl : s.data.toList.length = s.size := (size_eq s).symm
  rw [List.getElem?_eq_getElem (by omega), Utf8W.get!_of_lt s k h]
  rfl
theorem Mid.ext {S s : ByteArray} {d : Nat} (h : Mid S s d) {p q : Nat} (hpq : p ≤ q) (hq : q ≤ s.size) : S.extract (d + p) (d + q) = s.extract p q := by
  have hz := h.size
  apply ByteArray.ext
  apply Array.ext'
  rw [extract_data, extract_data]
  apply List.ext_getElem?
  intro i
  rw [List.getElem?_take, List.getElem?_take, show d + q - (d + p) = q - p by omega]
  by_cases hi : i < q - p
  · rw [if_pos hi, if_pos hi, List.getElem?_drop, List.getElem?_drop, ba_get s (p + i) (by omega), show d + p + i = d + (p + i) by omega, ba_get S (d + (p + i)) (by omega), h.get (p + i) (by omega)]
  · rw [if_neg hi, if_neg hi]

theorem Mid.skip {S s : ByteArray} {d : Nat} (h : Mid S s d) : ∀ (f p : Nat), p ≤ s.size → s.size ≤ p + f → psSkip S (f + (S.size - s.size)) (d + p) = if psSkip s f p < s.size then d + psSkip s f p else psSkip S (S.size - s.size) (d + s.size) := by
  have hz := h.size
  have fuel : ∀ (f g p : Nat), S.size ≤ p + f → S.size ≤ p + g → psSkip S f p = psSkip S g p := by
    intro f
    induction f with
    | zero =>
      intro g p h1 h2
      cases g with
      | zero => rfl
      | succ g => simp only [psSkip]; rw [if_neg (by omega)]
    | succ f ih =>
      intro g p h1 h2
      cases g with
      | zero => simp only [psSkip]; rw [if_neg (by omega)]
      | succ g =>
        simp only [psSkip]
        by_cases hp : p < S.size
        · rw [if_pos hp, if_pos hp]
          by_cases hk : kd (Utf8.decode S p).1 = 3
          · rw [if_pos hk, if_pos hk]
            have := width_pos S p hp
            exact ih g _ (by omega) (by omega)
          · rw [if_neg hk, if_neg hk]
        · rw [if_neg hp, if_neg hp]
  intro f
  induction f with
  | zero =>
    intro p hp hf
    have e : p = s.size := by omega
    subst e
    have e0 : psSkip s 0 s.size = s.size := rfl
    rw [e0, if_neg (Nat.lt_irrefl _), Nat.zero_add]
  | succ f ih =>
    intro p hp hf
    by_cases hlt : p < s.size
    · rw [show f + 1 + (S.size - s.size) = (f + (S.size - s.size)) + 1 by omega]
      have hS : psSkip S ((f + (S.size - s.size)) + 1) (d + p) = if kd (Utf8.decode s p).1 = 3 then psSkip S (f + (S.size - s.size)) (d + p + (Utf8.decode s p).2) else d + p := by
        simp only [psSkip]
        rw [if_pos (by omega), h.dec hlt]
      have hs' : psSkip s (f + 1) p = if kd (Utf8.decode s p).1 = 3 then psSkip s f (p + (Utf8.decode s p).2) else p := by
        simp only [psSkip]
        rw [if_pos hlt]
      rw [hS, hs']
      by_cases hk : kd (Utf8.decode s p).1 = 3
      · rw [if_pos hk, if_pos hk]
        have hw := width_pos s p hlt
        have hw2 := dec_le s p hlt
        have := ih (p + (Utf8.decode s p).2) hw2 (by omega)
        rw [show d + p + (Utf8.decode s p).2 = d + (p + (Utf8.decode s p).2) by omega]
        exact this
      · rw [if_neg hk, if_neg hk, if_pos hlt]
    · have e : p = s.size := by omega
      subst e
      have e0 : psSkip s (f + 1) s.size = s.size := by simp only [psSkip]; rw [if_neg (Nat.lt_irrefl _)]
      rw [e0, if_neg (Nat.lt_irrefl _)]
      exact fuel _ _ _ (by omega) (by omega)
end Go.Proofs.YtjmccobblpcbhaaDoor

set_option linter.unusedSimpArgs false
set_option linter.unusedVariables false
namespace Go.Proofs.YtjmccobblpcbhaaDoor
open Go.Lib

set_option maxRecDepth 100000 in
theorem em_on : onB 41 = false ∧ onB 32 = false ∧ digZ 41 = 0 ∧ digZ 32 = 0 ∧ kd 41 = 4 ∧ kd 32 = 3 := by decide +kernel
theorem Mid.off {S s : ByteArray} {d : Nat} (h : Mid S s d) : onB (Utf8.decode S (d + s.size)).1 = false ∧ digZ (Utf8.decode S (d + s.size)).1 = 0 := by
  rcases h.behind with e | e <;> rw [e]
  · exact ⟨em_on.1, em_on.2.2.1⟩
  · exact ⟨em_on.2.1, em_on.2.2.2.1⟩
theorem Mid.sp {S s : ByteArray} {d : Nat} (h : Mid S s d) : ∀ (f g p : Nat), p ≤ s.size → s.size ≤ p + f → S.size ≤ d + p + g → spF S g (d + p) = d + spF s f p := by
  have hz := h.size
  have fin : ∀ f g, spF S g (d + s.size) = d + spF s f s.size := fun f g => by rw [spF_end s f _ (Nat.lt_irrefl _), spF_off S g _ hz h.off.1]
  intro f
  induction f with
  | zero =>
    intro g p hp hf hg
    have e : p = s.size := by omega
    subst e
    exact fin 0 g
  | succ f ih =>
    intro g p hp hf hg
    by_cases hlt : p < s.size
    · obtain ⟨g, rfl⟩ : ∃ k, g = k + 1 := ⟨g - 1, by omega⟩
      have hw := width_pos s p hlt
      have hw2 := dec_le s p hlt
      cases ho : onB (Utf8.decode s p).1
      · rw [spF_off s _ p hlt ho, spF_off S _ (d + p) (by omega) (by rw [h.dec hlt]; exact ho)]
      · rw [spF_on s f p hlt ho, spF_on S g (d + p) (by omega) (by rw [h.dec hlt]; exact ho), h.dec hlt, Nat.add_assoc]
        exact ih g _ hw2 (by omega) (by omega)
    · have e : p = s.size := by omega
      subst e
      exact fin (f + 1) g
def nsh (d : Nat) (r : Nat × Nat × Int) : Nat × Nat × Int := (r.1, if r.2.2 = 0 then d + r.2.1 else r.2.1, r.2.2)
theorem Mid.nu {S s : ByteArray} {d : Nat} (h : Mid S s d) (z : Int) (hz0 : z ≠ 0) : ∀ (f g p n : Nat), p ≤ s.size → s.size ≤ p + f → S.size ≤ d + p + g → nuF S z g (d + p) n = nsh d (nuF s z f p n) := by
  have hz := h.size
  have fin : ∀ f g n, nuF S z g (d + s.size) n = nsh d (nuF s z f s.size n) := fun f g n => by
    rw [nuF_end s z f _ n (Nat.lt_irrefl _), nuF_off S z g _ n (by rw [h.off.2]; exact fun c => hz0 c.symm)]
    rfl
  intro f
  induction f with
  | zero =>
    intro g p n hp hf hg
    have e : p = s.size := by omega
    subst e
    exact fin 0 g n
  | succ f ih =>
    intro g p n hp hf hg
    by_cases hlt : p < s.size
    · obtain ⟨g, rfl⟩ : ∃ k, g = k + 1 := ⟨g - 1, by omega⟩
      have hw := width_pos s p hlt
      have hw2 := dec_le s p hlt
      by_cases hk : digZ (Utf8.decode s p).1 = z
      · by_cases hl : 18446744073709551615 < n * 10 + (digV (Utf8.decode s p).1).toNat
        · rw [nuF_large s z f p n hlt hk hl, nuF_large S z g (d + p) n (by omega) (by rw [h.dec hlt]; exact hk) (by rw [h.dec hlt]; exact hl)]
          rfl
        · rw [nuF_on s z f p n hlt hk hl, nuF_on S z g (d + p) n (by omega) (by rw [h.dec hlt]; exact hk) (by rw [h.dec hlt]; exact hl), h.dec hlt, Nat.add_assoc]
          exact ih g _ _ hw2 (by omega) (by omega)
      · rw [nuF_off s z _ p n hk, nuF_off S z _ (d + p) n (by rw [h.dec hlt]; exact hk)]
        rfl
    · have e : p = s.size := by omega
      subst e
      exact fin (f + 1) g n
theorem Mid.num {S s : ByteArray} {d : Nat} (h : Mid S s d) {p : Nat} (hp : p ≤ s.size) : numI S ((d + p : Nat) : Int) = nsh d (numI s (p : Int)) := by
  have hz := h.size
  unfold numI
  rw [if_neg (by omega), if_neg (by omega), Int.toNat_natCast, Int.toNat_natCast]
  unfold numP
  by_cases hlt : p < s.size
  · rw [digZ_rn s p hlt, digZ_rn S (d + p) (by omega), h.dec hlt]
    by_cases hk : digZ (Utf8.decode s p).1 = 0
    · rw [if_pos hk, if_pos hk]; rfl
    · rw [if_neg hk, if_neg hk]
      exact h.nu _ hk _ _ _ _ hp (by omega) (by omega)
  · have e : p = s.size := by omega
    subst e
    have e1 : rn s s.size = -1 := by unfold rn; rw [if_neg (Nat.lt_irrefl _)]
    rw [e1, digZ_rn S (d + s.size) hz, if_pos h.off.2, if_pos (by decide)]
    rfl
theorem two_list (l : List UInt8) (c : UInt8) : hasPrefix l [c, c] = true ↔ l[0]? = some c ∧ l[1]? = some c := by
  unfold hasPrefix
  rcases l with _ | ⟨a, _ | ⟨b, l⟩⟩
  · simp
  · simp [List.isPrefixOf]
  · simp only [List.isPrefixOf, Bool.and_true, Bool.and_eq_true, beq_iff_eq, List.getElem?_cons_zero, List.getElem?_cons_succ, Option.some.injEq]
    constructor
    · rintro ⟨x, y⟩; exact ⟨x.symm, y.symm⟩
    · rintro ⟨x, y⟩; exact ⟨x.symm, y.symm⟩
theorem ba_at (s : ByteArray) (p i : Nat) : (s.extract p s.size).data.toList[i]? = if p + i < s.size then some (s.get! (p + i)) else none := by
  rw [extract_data]
  have hl : s.data.toList.length = s.size := (size_eq s).symm
  rw [List.getElem?_take, List.getElem?_drop]
  by_cases hi : p + i < s.size
  · rw [if_pos (by omega), if_pos hi, ba_get s _ hi]
  · rw [if_neg hi]
    split
    · exact List.getElem?_eq_none (by omega)
    · rfl
theorem two_iff (s : ByteArray) (p : Nat) (c : UInt8) : psTwo s p c = true ↔ p + 1 < s.size ∧ s.get! p = c ∧ s.get! (p + 1) = c := by
  unfold psTwo
  rw [two_list, ba_at, ba_at]
  by_cases h1 : p + 1 < s.size
  · rw [if_pos (by omega), if_pos h1]
    simp [h1]
  · rw [if_neg h1]
    simp [h1]
theorem Mid.two {S s : ByteArray} {d : Nat} (h : Mid S s d) {p : Nat} (hp : p < s.size) (c : UInt8) (h1 : c ≠ 41) (h2 : c ≠ 32) : psTwo S (d + p) c = psTwo s p c := by
  have hz := h.size
  rw [Bool.eq_iff_iff, two_iff, two_iff, h.get p hp, Nat.add_assoc]
  by_cases hl : p + 1 < s.size
  · rw [h.get (p + 1) hl]
    constructor
    · intro x; exact ⟨hl, x.2⟩
    · intro x; exact ⟨by omega, x.2⟩
  · have e : p + 1 = s.size := by omega
    constructor
    · rintro ⟨_, _, x⟩
      rw [e] at x
      rcases h.stop with y | y
      · exact absurd (x.symm.trans y) h1
      · exact absurd (x.symm.trans y) h2
    · intro x; omega
theorem Mid.sign {S s : ByteArray} {d : Nat} (h : Mid S s d) (pat : Bool) {p : Nat} (hp : p < s.size) (r : Int) : psSign S pat (d + p) r = psSign s pat p r := by
  unfold psSign
  rw [h.two hp 61 (by decide) (by decide), h.two hp 60 (by decide) (by decide), h.two hp 62 (by decide) (by decide)]
/-- The same token, d places on. -/
structure TkS (d : Nat) (t t' : Tk) : Prop where
  what : t'.what = t.what
  at_ : t'.from_ = d + t.from_
  n : t'.n = t.n
  err : t'.err = t.err
  to : (t.what = 48 → t.err = 0) → t'.to = d + t.to
/-- The same answer, d places on. -/
def PrS (d : Nat) : Pr Tk → Pr Tk → Prop
  | .ok t, .ok t' => TkS d t t'
  | .bad p e, .bad q e' => q = d + p ∧ e' = e
  | .out, .out => True
  | _, _ => False
theorem Mid.from_ {S s : ByteArray} {d : Nat} (h : Mid S s d) (pat : Bool) (m : Nat) {p : Nat} (hp : p < s.size) : PrS d (psFrom s pat m p) (psFrom S pat m (d + p)) := by
  have hz := h.size
  unfold psFrom
  rw [if_pos hp, if_pos (by omega), h.dec hp]
  unfold psAt
  by_cases k1 : kd (Utf8.decode s p).1 = 1
  · rw [if_pos k1, if_pos k1]
    obtain ⟨e1, e2, e3⟩ := span_in' s p hp k1
    obtain ⟨g1, g2, g3⟩ := span_in' S (d + p) (by omega) (by rw [h.dec hp]; exact k1)
    rw [e1, g1]
    simp only [Int.toNat_natCast]
    rw [h.sp s.size S.size p (by omega) (by omega) (by omega)]
    simp only [h.ext (Nat.le_of_lt e2) e3]
    exact ⟨rfl, rfl, rfl, rfl, fun _ => rfl⟩
  · rw [if_neg k1, if_neg k1]
    by_cases k2 : kd (Utf8.decode s p).1 = 2
    · rw [if_pos k2, if_pos k2, h.num (by omega)]
      refine ⟨rfl, rfl, rfl, rfl, fun h0 => ?_⟩
      have h0 := h0 rfl
      simp only at h0
      split at h0
      · cases h0
      · show (nsh d _).2.1 = _
        unfold nsh
        simp only
        rw [if_pos h0]
    · rw [if_neg k2, if_neg k2, h.sign pat hp]
      by_cases k4 : kd (Utf8.decode s p).1 = 4 ∧ 0 < (psSign s pat p (Utf8.decode s p).1).2
      · rw [if_pos k4, if_pos k4]
        exact ⟨rfl, rfl, rfl, rfl, fun _ => Nat.add_assoc _ _ _⟩
      · rw [if_neg k4, if_neg k4]
        exact ⟨rfl, rfl⟩
/-- A bracket that closes, as a token. -/
theorem close_at (S : ByteArray) (pat : Bool) (m e : Nat) (he : e < S.size) (h : S.get! e = 41) : psFrom S pat m e = .ok ⟨41, e, e + 1, 0, 0⟩ := by
  have hd : (Utf8.decode S e).1 = 41 := by rw [decode_at, h]; unfold decodeN; rfl
  have h2 : ∀ c : UInt8, c ≠ 41 → psTwo S e c = false := fun c hc => by
    cases hb : psTwo S e c
    · rfl
    · exact absurd (((two_iff S e c).1 hb).2.1.symm.trans h) hc
  have hsg : psSign S pat e 41 = (41, 1) := by
    unfold psSign
    rw [h2 61 (by decide), h2 60 (by decide), h2 62 (by decide)]
    simp only [Bool.false_eq_true, if_false]
    rw [if_neg (by decide), if_neg (fun c => absurd c.1 (by decide))]
    rfl
  have hdI : (((Utf8.decode S e).1 : Nat) : Int) = 41 := by rw [hd]; rfl
  unfold psFrom
  rw [if_pos he, hdI]
  unfold psAt
  rw [if_neg (by rw [em_on.2.2.2.2.1]; decide), if_neg (by rw [em_on.2.2.2.2.1]; decide), hsg, if_pos ⟨em_on.2.2.2.2.1, by decide⟩]
  rfl
end Go.Proofs.YtjmccobblpcbhaaDoor

set_option linter.unusedSimpArgs false
set_option linter.unusedVariables false
namespace Go.Proofs.YtjmccobblpcbhaaDoor
open Go.Lib

def brk1 (b : UInt8) : Int := if b = 40 then 1 else if b = 41 then -1 else 0
/-- How many brackets are open at p. -/
def opn (s : ByteArray) : Nat → Int
  | 0 => 0
  | p + 1 => opn s p + brk1 (s.get! p)
def brR (r : Int) : Int := if r = 40 then 1 else if r = 41 then -1 else 0
theorem brk1_hi (b : UInt8) (h : 128 ≤ b.toNat) : brk1 b = 0 := by
  unfold brk1
  rw [if_neg (fun c => by rw [c] at h; simp at h), if_neg (fun c => by rw [c] at h; simp at h)]
theorem brk1_lo (b : UInt8) : brk1 b = brR (b.toNat : Int) := by
  unfold brk1 brR
  have e : ∀ c : UInt8, (b = c) ↔ ((b.toNat : Int) = (c.toNat : Int)) := fun c => by
    rw [← UInt8.toNat_inj]; omega
  have h40 := e 40
  have h41 := e 41
  simp only [h40, h41]
  rfl
theorem opn_dec (s : ByteArray) (p : Nat) (hp : p < s.size) : opn s (p + (Utf8.decode s p).2) = opn s p + brR (((Utf8.decode s p).1 : Nat) : Int) := by
  rw [decode_at]
  have big : ∀ n : Nat, 128 ≤ n → brR (n : Int) = 0 := fun n hn => by unfold brR; rw [if_neg (by omega), if_neg (by omega)]
  rcases Nat.lt_or_ge (s.get! p).toNat 128 with c | c
  · have e : decodeN (s.size - p) (s.get! p).toNat (s.get! (p + 1)).toNat (s.get! (p + 2)).toNat (s.get! (p + 3)).toNat = ((s.get! p).toNat, 1) := by unfold decodeN; rw [if_pos c]
    rw [e]
    show opn s p + brk1 (s.get! p) = _
    rw [brk1_lo]
  · rcases decodeN_shape (s.size - p) (s.get! p).toNat (s.get! (p + 1)).toNat (s.get! (p + 2)).toNat (s.get! (p + 3)).toNat with ⟨c', e⟩ | ⟨k1, k2, k3, cv, e⟩ | ⟨k1, k2, k3, k4, cv, cs, e⟩ | ⟨k1, k2, k3, k4, k5, cv, cw, e⟩ | e
    · omega
    · rw [e, big _ cv]
      show opn s p + brk1 (s.get! p) + brk1 (s.get! (p + 1)) = _
      rw [brk1_hi _ c, brk1_hi _ (by omega)]; omega
    · rw [e, big _ (by omega)]
      show opn s p + brk1 (s.get! p) + brk1 (s.get! (p + 1)) + brk1 (s.get! (p + 2)) = _
      rw [brk1_hi _ c, brk1_hi _ (by omega), brk1_hi _ (by omega)]; omega
    · rw [e, big _ (by omega)]
      show opn s p + brk1 (s.get! p) + brk1 (s.get! (p + 1)) + brk1 (s.get! (p + 2)) + brk1 (s.get! (p + 3)) = _
      rw [brk1_hi _ c, brk1_hi _ (by omega), brk1_hi _ (by omega), brk1_hi _ (by omega)]; omega
    · rw [e, big _ (by omega)]
      show opn s p + brk1 (s.get! p) = _
      rw [brk1_hi _ c]
set_option maxRecDepth 100000 in
theorem em_off : onB 40 = false ∧ onB 41 = false ∧ digZ 40 = 0 ∧ digZ 41 = 0 ∧ kd 40 = 4 ∧ kd 41 = 4 := by decide +kernel
theorem brR_of {P : Int → Prop} (h0 : ¬ P 40) (h1 : ¬ P 41) {r : Int} (h : P r) : brR r = 0 := by
  unfold brR
  have n0 : ¬ r = 40 := fun c => by subst c; exact h0 h
  have n1 : ¬ r = 41 := fun c => by subst c; exact h1 h
  rw [if_neg n0, if_neg n1]
theorem brR_on {r : Int} (h : onB r = true) : brR r = 0 := brR_of (P := fun r => onB r = true) (by rw [em_off.1]; decide) (by rw [em_off.2.1]; decide) h
theorem brR_dig {r : Int} (h : digZ r ≠ 0) : brR r = 0 := brR_of (P := fun r => digZ r ≠ 0) (fun c => c em_off.2.2.1) (fun c => c em_off.2.2.2.1) h
theorem brR_blank {r : Int} (h : kd r = 3) : brR r = 0 := brR_of (P := fun r => kd r = 3) (by rw [em_off.2.2.2.2.1]; decide) (by rw [em_off.2.2.2.2.2]; decide) h
theorem opn_sp (s : ByteArray) : ∀ f p, opn s (spF s f p) = opn s p := by
  intro f
  induction f with
  | zero => intro p; rfl
  | succ f ih =>
    intro p
    by_cases hp : p < s.size
    · cases ho : onB (Utf8.decode s p).1
      · rw [spF_off s _ p hp ho]
      · rw [spF_on s f p hp ho, ih, opn_dec s p hp, brR_on ho]; omega
    · rw [spF_end s _ p hp]
theorem opn_skip (s : ByteArray) : ∀ f p, opn s (psSkip s f p) = opn s p := by
  intro f
  induction f with
  | zero => intro p; rfl
  | succ f ih =>
    intro p
    simp only [psSkip]
    split
    · rename_i hp
      split
      · rename_i hk
        rw [ih, opn_dec s p hp, brR_blank hk]; omega
      · rfl
    · rfl
theorem opn_skp (s : ByteArray) (p : Nat) : opn s (skp s p) = opn s p := opn_skip s _ p
theorem opn_nu (s : ByteArray) (z : Int) (hz : z ≠ 0) : ∀ f p n, (nuF s z f p n).2.2 = 0 → opn s (nuF s z f p n).2.1 = opn s p := by
  intro f
  induction f with
  | zero => intro p n _; rfl
  | succ f ih =>
    intro p n h
    by_cases hp : p < s.size
    · by_cases hk : digZ (Utf8.decode s p).1 = z
      · by_cases hl : 18446744073709551615 < n * 10 + (digV (Utf8.decode s p).1).toNat
        · rw [nuF_large s z f p n hp hk hl] at h; cases h
        · rw [nuF_on s z f p n hp hk hl] at h ⊢
          rw [ih _ _ h, opn_dec s p hp, brR_dig (by rw [hk]; exact hz)]; omega
      · rw [nuF_off s z _ p n hk]
    · rw [nuF_end s z _ p n hp]
theorem opn_num (s : ByteArray) (p : Nat) (hp : p < s.size) (h : (numI s p).2.2 = 0) : opn s (numI s p).2.1 = opn s p := by
  unfold numI at h ⊢
  rw [if_neg (by omega), Int.toNat_natCast] at h ⊢
  unfold numP at h ⊢
  by_cases hz : digZ (rn s p) = 0
  · rw [if_pos hz] at h; cases h
  · rw [if_neg hz] at h ⊢
    exact opn_nu s _ hz _ _ _ h
theorem plain_br (r : Int) : brR (psPlain r) = brR r := by
  unfold psPlain
  repeat' split
  all_goals first | rfl | (subst_vars; rfl) | (rename_i h; rcases h with h | h <;> (subst h; rfl))
theorem opn_sign (s : ByteArray) (pat : Bool) (p : Nat) (hp : p < s.size) (hk : kd (Utf8.decode s p).1 = 4) (h0 : 0 < (psSign s pat p (Utf8.decode s p).1).2) :
    opn s (p + (psSign s pat p (Utf8.decode s p).1).2.toNat) = opn s p + brR (psSign s pat p (Utf8.decode s p).1).1 := by
  have two : ∀ c : UInt8, brk1 c = 0 → psTwo s p c = true → ∀ x : Int, brR x = 0 → opn s (p + (2 : Int).toNat) = opn s p + brR x := fun c hc h2 x hx => by
    obtain ⟨_, e1, e2⟩ := (two_iff s p c).1 h2
    show opn s p + brk1 (s.get! p) + brk1 (s.get! (p + 1)) = _
    rw [e1, e2, hc, hx]; omega
  unfold psSign at h0 ⊢
  split
  · rename_i h2; exact two 61 (by decide) h2 _ (by decide)
  · rename_i n1
    rw [if_neg n1] at h0
    split
    · rename_i h2; exact two 60 (by decide) h2 _ (by decide)
    · rename_i n2
      rw [if_neg n2] at h0
      split
      · rename_i h2; exact two 62 (by decide) h2 _ (by decide)
      · rename_i n3
        rw [if_neg n3] at h0
        split
        · rename_i n4; rw [if_pos n4] at h0; simp at h0
        · rename_i n4
          rw [if_neg n4] at h0
          split
          · rename_i n5; rw [if_pos n5] at h0; simp at h0
          · simp only
            rw [len_dec s p hp hk, Int.toNat_natCast, opn_dec s p hp, plain_br]
/-- A token at a, and what it opens. -/
structure TkO (s : ByteArray) (a : Nat) (t : Tk) : Prop where
  is : TkA s a t
  opn : t.err = 0 → opn s t.to = opn s a + brR t.what
theorem from_opn {s : ByteArray} {pat : Bool} {m a : Nat} {t : Tk} (ha : a ≤ s.size) (h : psFrom s pat m a = .ok t) : TkO s a t := by
  refine ⟨from_at ha h, fun h0 => ?_⟩
  unfold psFrom at h
  split at h
  · rename_i hp
    unfold psAt at h
    split at h
    · rename_i k1
      obtain ⟨e1, e2, e3⟩ := span_in' s a hp k1
      rw [e1] at h
      simp only [Int.toNat_natCast] at h
      cases h
      show opn s (spF s s.size a) = _
      rw [opn_sp]
      show _ = _ + (0 : Int)
      omega
    · split at h
      · rename_i k2
        cases h
        simp only at h0
        split at h0
        · cases h0
        · show opn s (numI s a).2.1 = _
          rw [opn_num s a hp h0]
          show _ = _ + (0 : Int)
          omega
      · split at h
        · rename_i k4
          cases h
          exact opn_sign s pat a hp k4.1 k4.2
        · cases h
  · cases h
    have : a = s.size := by omega
    subst this
    show opn s s.size = _ + (0 : Int)
    omega
end Go.Proofs.YtjmccobblpcbhaaDoor
