/-
  ShPure, CntW, StrMem, PkHoW.
-/
import Derived.Shelf.Unicode.DecodeSlow
import Derived.Laws.RangeAny
import Derived.Shelf.Strings.Builder1
import Derived.Shelf.Small.Utf8
import Derived.Shelf.Small.Bits
import Derived.Shelf.Strings.BuilderF
import Derived.Shelf.Strings.BuilderK
import Derived.Shelf.Strings.BuilderRune
import Derived.Shelf.Utf8.AppendRune
import Derived.Shelf.Strconv.Itoa0
import Derived.Shelf.Strconv.Itoa1
import Derived.Shelf.LaysM
import Derived.Shelf.Strconv.Itoa2
import Derived.Shelf.Strconv.Itoa3
import Derived.Shelf.Strconv.Itoa4
import Derived.Shelf.Strings.Prefix
import Derived.Shelf.Unicode.DecodeAny
import Derived.Test.YtjmccobblpcbhaaDoorProg
import Derived.WalkKit
import Derived.Deep.DeepFit
import Derived.Lib.OthersKept
import Derived.Lib.RuneCountTail
import Derived.Lib.Small
import Derived.Lib.Strings
import Derived.Lib.MapLaws
import Derived.Deep.AppendLies
import Derived.Deep.OwnRows
import Derived.Laws.AppendOwnNone
import Derived.Deep.QuietTactic
import Derived.BigQuiet
import Derived.Deep.RegionWith
import Derived.Laws.DeepStrings4
import Derived.Deep.RegionHeld3
import Derived.Laws.ResultCell
import Derived.Lib.QuietBelow
import Derived.Deep.Heap
import Derived.Laws.Rows
import Derived.Below
import Derived.StillTail
import Derived.Deep.RegionLaw
import Derived.Laws.OwnMore
import Derived.Sort.Walk0
import Derived.Lib.ItoaNum
import Derived.Maps.OwnSet
import Derived.StringKeys
import Derived.Test.YtjmccobblpcbhaaDoorP01
import Derived.Test.YtjmccobblpcbhaaDoorP02
import Derived.Test.YtjmccobblpcbhaaDoorP03
import Derived.Test.YtjmccobblpcbhaaDoorP04
import Derived.Test.YtjmccobblpcbhaaDoorP05
import Derived.Test.YtjmccobblpcbhaaDoorP06
import Derived.Test.YtjmccobblpcbhaaDoorP07
import Derived.Test.YtjmccobblpcbhaaDoorP08
import Derived.Test.YtjmccobblpcbhaaDoorP09
import Derived.Test.YtjmccobblpcbhaaDoorP10
import Derived.Test.YtjmccobblpcbhaaDoorP11
import Derived.Test.YtjmccobblpcbhaaDoorP12
import Derived.Test.YtjmccobblpcbhaaDoorP13
import Derived.Test.YtjmccobblpcbhaaDoorP14
import Derived.Test.YtjmccobblpcbhaaDoorP15
import Derived.Test.YtjmccobblpcbhaaDoorP16
set_option linter.unusedSimpArgs false
set_option linter.unusedVariables false
namespace Go.Proofs.YtjmccobblpcbhaaDoor
open Go.Lib

def txt (l : List UInt8) : ByteArray := ⟨l.toArray⟩
theorem txt_size (l : List UInt8) : (txt l).size = l.length := by simp [txt, ByteArray.size]
theorem txt_data (s : ByteArray) : txt s.data.toList = s := by simp [txt]
theorem txt_append (a b : List UInt8) : txt (a ++ b) = txt a ++ txt b := by
  apply ByteArray.ext
  simp [txt]
theorem app_size (a b : ByteArray) : (a ++ b).size = a.size + b.size := ByteArray.size_append ..

/-! ### soundness -/
def fillN (x : Nd) : Nd := if x.op = 18 then { x with op := 2 } else x
theorem fillN_kids (x : Nd) : (fillN x).kids = x.kids := by unfold fillN; split <;> rfl
theorem fillN_name (x : Nd) : (fillN x).name = x.name := by unfold fillN; split <;> rfl
theorem fillN_n (x : Nd) : (fillN x).n = x.n := by unfold fillN; split <;> rfl
def addNm (acc : List ByteArray) (x : Nd) : List ByteArray := if x.op = 18 then (if acc.any (fun y => decide (y = x.name)) = true then acc else acc ++ [x.name]) else acc
def hlsL (l : List Nd) : List ByteArray := l.foldl addNm []
theorem hlsL_snoc (l : List Nd) (x : Nd) : hlsL (l ++ [x]) = addNm (hlsL l) x := by simp [hlsL]
theorem addNm_len (acc : List ByteArray) (x : Nd) : (addNm acc x).length ≤ acc.length + 1 := by
  unfold addNm; split
  · split <;> simp
  · omega
theorem foldl_addNm_len : ∀ (l : List Nd) (acc : List ByteArray), (l.foldl addNm acc).length ≤ acc.length + l.length
  | [], acc => by simp
  | x :: l, acc => by
    have := foldl_addNm_len l (addNm acc x)
    have := addNm_len acc x
    simp; omega
theorem hlsL_len (l : List Nd) : (hlsL l).length ≤ l.length := by have := foldl_addNm_len l []; simpa [hlsL] using this
/-- An expression, or a pattern. -/
def okSh (l : List Nd) : Bool := !(decide (6 < (hlsL l).length)) && (decide ((hlsL l).length = 0) || decide (l.length ≤ 16)) && sndB (l.map fillN)

/-! ### texts -/
def wrTab : List (List UInt8 × List UInt8 × Int) :=
  [([], [], 0), ([], [], 11), ([], [], 11), ([45], [110, 101, 103], 10), ([126], [110, 111, 116], 10), ([43], [97, 100, 100], 8), ([45], [115, 117, 98], 8), ([42], [109, 117, 108], 9), ([47], [100, 105, 118], 9), ([37], [114, 101, 109], 9), ([38], [97, 110, 100], 4), ([124], [111, 114], 2), ([94], [120, 111, 114], 3), ([60, 60], [115, 104, 108], 7), ([62, 62], [115, 104, 114], 7), ([61, 61], [101, 113], 5), ([60], [108, 116], 6), ([63], [105, 102], 1), ([], [], 11)]
def wrAt (op : Int) : List UInt8 × List UInt8 × Int := wrTab.getD op.toNat ([], [], 0)
def sgT (op : Int) : ByteArray := txt (wrAt op).1
def rkT (op : Int) : Int := (wrAt op).2.2
theorem wr_len : ∀ k : Nat, (wrTab.getD k ([], [], 0)).1.length ≤ 2 ∧ (wrTab.getD k ([], [], 0)).2.1.length ≤ 3 := by
  intro k
  by_cases hk : k < 19
  · have : ∀ k : Fin 19, (wrTab.getD k.1 ([], [], 0)).1.length ≤ 2 ∧ (wrTab.getD k.1 ([], [], 0)).2.1.length ≤ 3 := by decide
    exact this ⟨k, hk⟩
  · have : wrTab.getD k ([], [], 0) = ([], [], 0) := by
      rw [List.getD_eq_getElem?_getD, List.getElem?_eq_none (by simp [wrTab]; omega)]; rfl
    rw [this]; simp
theorem sg_size (op : Int) : (sgT op).size ≤ 2 := by unfold sgT; rw [txt_size]; exact (wr_len _).1
def leafT (x : Nd) : ByteArray := if x.op = 1 then txt (itoa x.n) else if x.op = 18 then txt [64] ++ x.name else x.name

def brkB (op : Int) (place : Nat) (y : Nd) : Bool :=
  if op = 17 then decide (place = 0) && decide (rkT y.op = rkT op)
  else if op = 15 ∨ op = 16 then decide (rkT y.op ≤ rkT op)
  else if op = 3 ∧ y.op = 1 then decide (0 ≤ y.n)
  else if place = 0 then decide (rkT y.op < rkT op)
  else decide (rkT y.op ≤ rkT op)
def tkT (op : Int) (place : Nat) (p : Nd × ByteArray) : ByteArray := if brkB op place p.1 = true then txt [40] ++ p.2 ++ txt [41] else p.2
theorem tk_size (op : Int) (place : Nat) (p : Nd × ByteArray) : (tkT op place p).size ≤ p.2.size + 2 := by
  unfold tkT
  split
  · rw [app_size, app_size, txt_size, txt_size]; simp; omega
  · omega

def tksF (op : Int) : Nat → List (Nd × ByteArray) → List ByteArray
  | _, [] => []
  | k, p :: ps => tkT op k p :: tksF op (k + 1) ps
theorem tksF_snoc (op : Int) : ∀ (ps : List (Nd × ByteArray)) (k : Nat) (p : Nd × ByteArray), tksF op k (ps ++ [p]) = tksF op k ps ++ [tkT op (k + ps.length) p]
  | [], k, p => by simp [tksF]
  | q :: ps, k, p => by
    simp only [List.cons_append, tksF, tksF_snoc op ps (k + 1) p, List.length_cons]
    rw [show k + 1 + ps.length = k + (ps.length + 1) by omega]
def putT (op : Int) : List ByteArray → ByteArray
  | [a] => sgT op ++ a
  | [a, b] => a ++ txt [32] ++ sgT op ++ txt [32] ++ b
  | [a, b, c] => a ++ txt [32] ++ sgT op ++ txt [32] ++ b ++ (txt [32, 58, 32] ++ c)
  | _ => txt []
def betT (x : Nd) (ps : List (Nd × ByteArray)) : ByteArray := putT x.op (tksF x.op 0 ps)
def szs (ps : List (Nd × ByteArray)) : Nat := (ps.map fun p => p.2.size).sum
theorem bet_size (x : Nd) (ps : List (Nd × ByteArray)) (h : ps.length ≤ 3) : (betT x ps).size ≤ szs ps + 15 := by
  unfold betT szs
  have hs := sg_size x.op
  match ps, h with
  | [], _ => simp [tksF, putT, txt_size]
  | [a], _ =>
    have := tk_size x.op 0 a
    simp only [tksF, putT, app_size, List.map_cons, List.map_nil, List.sum_cons, List.sum_nil]
    omega
  | [a, b], _ =>
    have := tk_size x.op 0 a
    have := tk_size x.op (0 + 1) b
    simp only [tksF, putT, app_size, txt_size, List.map_cons, List.map_nil, List.sum_cons, List.sum_nil, List.length_cons, List.length_nil]
    omega
  | [a, b, c], _ =>
    have := tk_size x.op 0 a
    have := tk_size x.op (0 + 1) b
    have := tk_size x.op (0 + 1 + 1) c
    simp only [tksF, putT, app_size, txt_size, List.map_cons, List.map_nil, List.sum_cons, List.sum_nil, List.length_cons, List.length_nil]
    omega
/-! ### the whole -/
def pt0 : Nd × ByteArray := (nd0, ⟨#[]⟩)
abbrev JT := Nd → List (Nd × ByteArray) → ByteArray
def kidsP (told : List (Nd × ByteArray)) (ks : List Int) : List (Nd × ByteArray) := ks.map fun k => told.getD k.toNat pt0
def ndT (J : JT) (told : List (Nd × ByteArray)) (x : Nd) : ByteArray := if x.kids.length = 0 then leafT x else J x (kidsP told x.kids)
def tlS (J : JT) (told : List (Nd × ByteArray)) (x : Nd) : List (Nd × ByteArray) := told ++ [(x, ndT J told x)]
def tlL (J : JT) (l : List Nd) : List (Nd × ByteArray) := l.foldl (tlS J) []
theorem tlL_snoc (J : JT) (l : List Nd) (x : Nd) : tlL J (l ++ [x]) = tlL J l ++ [(x, ndT J (tlL J l) x)] := by simp [tlL, tlS]
theorem tlL_take {J : JT} {l : List Nd} {k : Nat} (h : k < l.length) : tlL J (l.take (k + 1)) = tlL J (l.take k) ++ [(l.getD k nd0, ndT J (tlL J (l.take k)) (l.getD k nd0))] := by
  rw [List.take_succ_eq_append_getElem h, tlL_snoc]; simp [h]
theorem foldl_tlS_len (J : JT) : ∀ (l : List Nd) (t : List (Nd × ByteArray)), (l.foldl (tlS J) t).length = t.length + l.length
  | [], t => by simp
  | x :: l, t => by simp [foldl_tlS_len J l, tlS]; omega
theorem tlL_len (J : JT) (l : List Nd) : (tlL J l).length = l.length := by simp [tlL, foldl_tlS_len]
def shF (J : JT) (l : List Nd) : ByteArray := ((tlL J l).getD (l.length - 1) pt0).2

/-! ### sizes -/
theorem dec_len : ∀ (n u : Nat), u < 10 ^ (n + 1) → (decDigits u).length ≤ n + 1
  | 0, u, h => by rw [decDigits]; simp at h; simp [h]
  | n + 1, u, h => by
    rw [decDigits]
    split
    · simp
    · have := dec_len n (u / 10) (by rw [Nat.div_lt_iff_lt_mul (by omega)]; rw [Nat.pow_succ] at h; exact h)
      simp; omega
theorem itoa_len (n : Int) (h0 : -9223372036854775808 ≤ n) (h1 : n ≤ 9223372036854775807) : (itoa n).length ≤ 20 := by
  unfold itoa
  split
  · have := dec_len 18 n.natAbs (by omega)
    simp; omega
  · have := dec_len 18 n.toNat (by omega)
    omega

def num64 (n : Int) : Prop := -9223372036854775808 ≤ n ∧ n ≤ 9223372036854775807
theorem leaf_size (x : Nd) (hf : formB (fillN x) = true) (hn : num64 x.n) : (leafT x).size ≤ 65 := by
  have hs := (form_name hf).2
  rw [fillN_name] at hs
  unfold leafT
  split
  · rw [txt_size]; have := itoa_len x.n hn.1 hn.2; omega
  · split
    · rw [app_size, txt_size]; simp; omega
    · omega
/-- How much of the list a node's text may take. -/
def wgt (fr : List Nat) (k : Nat) : Nat := k + 1 - fr.getD k 0
theorem chain_sum {fr : List Nat} (hL : Low fr) : ∀ (ks : List Int) (c a : Nat), chainL fr ks c = some a → (ks.map fun k => wgt fr k.toNat).sum + a = c ∧ ∀ k ∈ ks, 0 ≤ k ∧ k < (c : Int)
  | [], c, a, h => by simp [chainL] at h; subst h; simp
  | k :: ks, c, a, h => by
    simp only [chainL] at h
    split at h
    · cases h
    · rename_i hc
      have hk : k = (c : Int) - 1 := by
        by_cases e : k = (c : Int) - 1
        · exact e
        · exact absurd (.inr e) hc
      have hc0 : c ≠ 0 := fun e => hc (.inl e)
      obtain ⟨h1, h2⟩ := chain_sum hL ks _ _ h
      have hl := hL (c - 1)
      have e : k.toNat = c - 1 := by omega
      refine ⟨?_, fun q hq => ?_⟩
      · have hw : wgt fr (c - 1) = c - fr.getD (c - 1) 0 := by unfold wgt; omega
        rw [List.map_cons, List.sum_cons, e, hw]
        omega
      · rcases List.mem_cons.1 hq with rfl | hq
        · omega
        · have := h2 q hq
          omega

def TlOk (fr : List Nat) (told : List (Nd × ByteArray)) : Prop := ∀ i, i < told.length → (told.getD i pt0).2.size ≤ 100 * wgt fr i
def JOk (J : JT) : Prop := ∀ x ps, ps.length ≤ 3 → (J x ps).size ≤ szs ps + 15
theorem bet_ok : JOk betT := bet_size
theorem szs_le {fr : List Nat} {told : List (Nd × ByteArray)} (hT : TlOk fr told) : ∀ ks : List Int, (∀ k ∈ ks, 0 ≤ k ∧ k < (told.length : Int)) → szs (kidsP told ks) ≤ 100 * (ks.map fun k => wgt fr k.toNat).sum
  | [], _ => by simp [szs, kidsP]
  | k :: ks, h => by
    have h1 := szs_le hT ks fun q hq => h q (List.mem_cons_of_mem _ hq)
    have h2 := hT k.toNat (by have := h k (List.mem_cons_self ..); omega)
    simp only [szs, kidsP, List.map_cons, List.sum_cons] at *
    omega

theorem begR_prefix {L : List Nd} {k : Nat} {fr f1 : List Nat} (hr : begR [] L = some fr) (h1 : begR [] (L.take k) = some f1) (j : Nat) (hj : j < f1.length) : fr.getD j 0 = f1.getD j 0 := by
  rw [← List.take_append_drop k L, begR_append, h1, Option.bind_some] at hr
  exact (begR_some hr (begR_some h1 low_nil).2.1).2.2.1 j hj

/-- The facts of one node of a sound list, its place told. -/
structure NdAt (fr : List Nat) (k : Nat) (x : Nd) : Prop where
  form : formB (fillN x) = true
  kids : ∀ q ∈ x.kids, 0 ≤ q ∧ q < (k : Int)
  sum : (x.kids.map fun q => wgt fr q.toNat).sum + 1 = wgt fr k
  three : x.kids.length ≤ 3
theorem ndAt_of {l : List Nd} {fr : List Nat} (hb : begL (l.map fillN) = some fr) {k : Nat} (hk : k < l.length) : NdAt fr k (l.getD k nd0) := by
  unfold begL at hb
  split at hb
  · cases hb
  · cases hr : begR [] (l.map fillN) with
    | none => rw [hr] at hb; cases hb
    | some fr' =>
      rw [hr, Option.bind_some] at hb
      split at hb
      · simp only [Option.some.injEq] at hb
        subst hb
        have hL := (begR_some hr low_nil).2.1
        cases h1 : begR [] ((l.map fillN).take (k + 1)) with
        | none => rw [begR_take_none h1] at hr; cases hr
        | some f1 =>
          cases h0 : begR [] ((l.map fillN).take k) with
          | none =>
            have : begR [] (((l.map fillN).take (k + 1))) = none := by
              have e : (l.map fillN).take k = ((l.map fillN).take (k + 1)).take k := by rw [List.take_take, Nat.min_eq_left (by omega)]
              rw [e] at h0
              exact begR_take_none h0
            rw [this] at h1; cases h1
          | some f0 =>
            have hkm : k < (l.map fillN).length := by simpa using hk
            rw [List.take_succ_eq_append_getElem hkm, begR_snoc, h0, Option.bind_some] at h1
            have hx : (l.map fillN)[k] = fillN (l.getD k nd0) := by simp [hk]
            rw [hx] at h1
            obtain ⟨hf, a, hc, rfl⟩ := stp_some h1
            have hl0 : f0.length = k := by have := begR_len h0; simp at this; omega
            have hL0 := (begR_some h0 low_nil).2.1
            obtain ⟨h2, h3⟩ := chain_sum hL0 _ _ _ hc
            have hpre : ∀ j, j < k + 1 → fr'.getD j 0 = (f0 ++ [a]).getD j 0 := by
              intro j hj
              have h1' : begR [] ((l.map fillN).take (k + 1)) = some (f0 ++ [a]) := by
                rw [List.take_succ_eq_append_getElem hkm, begR_snoc, h0, Option.bind_some, hx, h1]
              exact begR_prefix hr h1' j (by simp; omega)
            have hwk : ∀ j, j < k → wgt fr' j = wgt f0 j := by
              intro j hj
              unfold wgt
              rw [hpre j (by omega), getD_snoc, if_pos (by omega)]
            have hfk : fr'.getD k 0 = a := by rw [hpre k (by omega), getD_snoc, if_neg (by omega), if_pos (by omega)]
            rw [fillN_kids] at h2 h3
            rw [hl0] at h2 h3
            have hkk : ∀ q ∈ (l.getD k nd0).kids, 0 ≤ q ∧ q < (k : Int) := fun q hq => h3 q (by simpa using hq)
            refine ⟨hf, hkk, ?_, ?_⟩
            · have e : ((l.getD k nd0).kids.map fun q => wgt fr' q.toNat) = ((l.getD k nd0).kids.map fun q => wgt f0 q.toNat) := by
                apply List.map_congr_left
                intro q hq
                have := hkk q hq
                exact hwk q.toNat (by omega)
              rw [e]
              have e2 : ((l.getD k nd0).kids.reverse.map fun q => wgt f0 q.toNat).sum = ((l.getD k nd0).kids.map fun q => wgt f0 q.toNat).sum := by
                rw [List.map_reverse, List.sum_reverse]
              rw [e2] at h2
              unfold wgt at *
              omega
            · have := formB_kids hf
              rwa [fillN_kids] at this
      · cases hb

theorem ndT_size {J : JT} (hJ : JOk J) {fr : List Nat} {told : List (Nd × ByteArray)} {x : Nd} (hT : TlOk fr told) (hx : NdAt fr told.length x) (hn : num64 x.n) : (ndT J told x).size ≤ 100 * wgt fr told.length := by
  unfold ndT
  have h1 := hx.sum
  split
  · have := leaf_size x hx.form hn
    omega
  · have h2 := hJ x (kidsP told x.kids) (by simp [kidsP]; exact hx.three)
    have h3 := szs_le hT x.kids hx.kids
    omega
theorem TlOk.snoc {fr : List Nat} {told : List (Nd × ByteArray)} {x : Nd} {s : ByteArray} (hT : TlOk fr told) (hs : s.size ≤ 100 * wgt fr told.length) : TlOk fr (told ++ [(x, s)]) := by
  intro i hi
  simp only [List.length_append, List.length_cons, List.length_nil] at hi
  by_cases h : i < told.length
  · have := hT i h
    simpa [List.getElem?_append_left h] using this
  · have : i = told.length := by omega
    subst this
    simpa using hs
theorem tl_ok {J : JT} (hJ : JOk J) {l : List Nd} {fr : List Nat} (hb : begL (l.map fillN) = some fr) (hn : ∀ x ∈ l, num64 x.n) : ∀ k, k ≤ l.length → TlOk fr (tlL J (l.take k))
  | 0, _ => by intro i hi; simp [tlL] at hi
  | k + 1, h => by
    have h1 := tl_ok hJ hb hn k (by omega)
    rw [tlL_take (by omega)]
    have hl : (tlL J (l.take k)).length = k := by rw [tlL_len]; simp; omega
    refine h1.snoc (ndT_size hJ h1 ?_ (hn _ (by simp [show k < l.length by omega])))
    rw [hl]; exact ndAt_of hb (by omega)
theorem wgt_le (fr : List Nat) (k : Nat) : wgt fr k ≤ k + 1 := by unfold wgt; omega
end Go.Proofs.YtjmccobblpcbhaaDoor

set_option linter.unusedSimpArgs false
set_option linter.unusedVariables false
namespace Go.Proofs.YtjmccobblpcbhaaDoor
open Go.RowKit Go.Lib Go.Maps

theorem cntLaw : Keyed Tryd.prog 9 := string_keyed Tryd.underlying9
theorem zeroInt (w : World) : (zeroValue 3).run Tryd.prog w = .ok (.int .i64 0) w := by kernel_rfl
def klB (s : ByteArray) : Lit := .string s.data.toList
theorem keyB {s : ByteArray} (h : s.size ≤ maxLen) : keyOf Tryd.prog 9 (.string s) = some (klB s) := Go.WideMaps.keyOf_string_mk Tryd.underlying9 h
theorem isKeyB (s : ByteArray) : WideAt.IsKeyLit (klB s) := trivial
theorem klB_inj {s t : ByteArray} (h : klB s = klB t) : s = t := by
  have : s.data.toList = t.data.toList := by simpa [klB] using h
  exact ByteArray.ext (by simpa using congrArg List.toArray this)

/-- Block B is a map of n stores whose keys are the texts ks. -/
def CntM (w : World) (B n : Nat) (ks : List ByteArray) : Prop :=
  ∃ D : DataW Unit, w.ownsMap Tryd.prog 9 (plainElem (H := Unit) Tryd.prog 3) B n D ∧ (∀ s, ∃ c : Nat, c ≤ n ∧ D.atKey (klB s) (.lit (.int .i64 0)) = .lit (.int .i64 (c : Int))) ∧ Maps.size D = ks.length ∧ (∀ s, has D (klB s) = ks.any (fun y => decide (y = s)))

theorem CntM.made (w : World) : CntM (w.alloc (.map #[] 0)) w.heap.size 0 [] :=
  ⟨.map [], World.ownsMap_made _ _ _ _, fun s => ⟨0, Nat.le_refl _, rfl⟩, rfl, fun s => rfl⟩
theorem CntM.lt {w : World} {B n : Nat} {ks : List ByteArray} (h : CntM w B n ks) : B < w.heap.size := let ⟨_, h, _⟩ := h; World.ownsMap.lt h
theorem CntM.kept {w w' : World} {B n : Nat} {ks : List ByteArray} {row : Option Nat} (h : CntM w B n ks) (hg : w.grownBy w' row) (hne : some B ≠ row) : CntM w' B n ks := let ⟨D, h, r⟩ := h; ⟨D, World.ownsMap.kept h hg hne, r⟩
theorem CntM.alloc {w : World} {B n : Nat} {ks : List ByteArray} (h : CntM w B n ks) (o : Obj) : CntM (w.alloc o) B n ks := let ⟨D, h, r⟩ := h; ⟨D, World.ownsMap.alloc h o, r⟩
theorem CntM.setCell {w : World} {B n : Nat} {ks : List ByteArray} (h : CntM w B n ks) {a : Addr} (ha : B ≠ a.block) (u : Value) : CntM (w.setCell a u) B n ks := let ⟨D, h, r⟩ := h; ⟨D, World.ownsMap.setCell h ha u, r⟩

/-- One more is counted: what is read, and what is laid. -/
theorem CntM.more {w : World} {B n : Nat} {ks : List ByteArray} (h : CntM w B n ks) (hn : n ≤ 1000) {s : ByteArray} (hs : s.size ≤ maxLen) :
    ∃ (c : Nat) (w' : World), c ≤ n ∧ (Instr.lookup 166 (.map (some B)) (.string s) false).run Tryd.prog w = .ok (.int .i64 (c : Int)) w ∧
      (Instr.mapUpdate 166 (.map (some B)) (.string s) (.int .i64 ((c : Int) + 1))).run Tryd.prog w = .ok () w' ∧ CntM w' B (n + 1) (if ks.any (fun y => decide (y = s)) = true then ks else ks ++ [s]) ∧ w.grownBy w' (some B) := by
  obtain ⟨D, hD, hc, hz, hh⟩ := h
  obtain ⟨c', hr, hat, hw⟩ := hD.lookup_int cntLaw Tryd.underlying166 Tryd.underlying3 (zeroInt w) (keyB hs)
  obtain ⟨c, hcn, hcs⟩ := hc s
  have e : c' = (c : Int) := by
    rw [hat] at hcs
    simpa using hcs
  subst e
  have hwf : (Lit.int .i64 ((c : Int) + 1)).wf = true := by
    have e1 : IntKind.min .i64 = -9223372036854775808 := by decide
    have e2 : IntKind.max .i64 = 9223372036854775807 := by decide
    simp only [Lit.wf, e1, e2, Bool.and_eq_true, decide_eq_true_eq]
    omega
  obtain ⟨w', h1, h2, h3⟩ := World.ownsMap.update hD cntLaw Tryd.underlying166 (by unfold maxLen; omega) (keyB hs) (plainElem_int Tryd.underlying3 hwf)
  refine ⟨c, w', hcn, hr, h1, ⟨_, h2, fun t => ?_, ?_, fun t => ?_⟩, h3⟩
  · by_cases e : t = s
    · subst e
      exact ⟨c + 1, by omega, by rw [atKey_put_same hD.isMap (isKeyB t)]; simp⟩
    · obtain ⟨ct, hct, hat'⟩ := hc t
      exact ⟨ct, by omega, by rw [atKey_put_other (fun e2 => e (klB_inj e2))]; exact hat'⟩
  · rw [size_put (hD.tidy cntLaw), hh s, hz]
    split
    · rfl
    · simp
  · by_cases e : t = s
    · subst e
      rw [has_put_same hD.isMap (isKeyB t)]
      split
      · rename_i h; rw [h]
      · simp
    · rw [has_put_other (fun e2 => e (klB_inj e2)), hh t]
      split
      · rfl
      · simp [Ne.symm e]
theorem CntM.len {w : World} {B n : Nat} {ks : List ByteArray} (h : CntM w B n ks) (ty : TypeId) :
    (Builtin.len_ #[166 ] ty #[.map (some B)]).run Tryd.prog w = .ok (.int .i64 (ks.length : Nat)) w := by
  obtain ⟨D, hD, _, hz, _⟩ := h
  rw [World.ownsMap.len hD Tryd.underlying166 ty, hz]
end Go.Proofs.YtjmccobblpcbhaaDoor

set_option linter.unusedSimpArgs false
set_option linter.unusedVariables false
namespace Go.Proofs.YtjmccobblpcbhaaDoor
open Go.RowKit Go.Lib

/-- The slice reads as the texts qs. -/
def Strs (w : World) (ao : Option Addr) (cap : Nat) (qs : List ByteArray) : Prop :=
  qs.length ≤ cap ∧ cap ≤ maxLen ∧ (qs = [] ∨ ∃ b o, ao = some ⟨b, o, none⟩ ∧ b < w.heap.size ∧ ∀ j, j < qs.length → w.cell? ⟨b, o + j, none⟩ = some (.string (qs.getD j ⟨#[]⟩)))
theorem Strs.below {w w' : World} {ao : Option Addr} {cap : Nat} {qs : List ByteArray} (h : Strs w ao cap qs) (hb : Below w.heap.size w w') : Strs w' ao cap qs := by
  obtain ⟨h1, h2, h3⟩ := h
  refine ⟨h1, h2, ?_⟩
  rcases h3 with h3 | ⟨b, o, e, hlt, hc⟩
  · exact .inl h3
  · exact .inr ⟨b, o, e, Nat.lt_of_lt_of_le hlt hb.size, fun j hj => (hb.cell (p := ⟨b, o + j, none⟩) hlt).trans (hc j hj)⟩
theorem Strs.same {w w' : World} {ao : Option Addr} {cap : Nat} {qs : List ByteArray} (h : Strs w ao cap qs) (hs : w.heap.size ≤ w'.heap.size) (hb : ∀ b : Nat, b < w.heap.size → w'.heap[b]? = w.heap[b]?) : Strs w' ao cap qs := by
  obtain ⟨h1, h2, h3⟩ := h
  refine ⟨h1, h2, ?_⟩
  rcases h3 with h3 | ⟨b, o, e, hlt, hc⟩
  · exact .inl h3
  · exact .inr ⟨b, o, e, by omega, fun j hj => (World.cell?_of_block (a := ⟨b, o + j, none⟩) (hb b hlt)).trans (hc j hj)⟩

theorem Strs.cell {w : World} {ao : Option Addr} {cap : Nat} {qs : List ByteArray} (h : Strs w ao cap qs) {j : Nat} (hj : j < qs.length) : ∃ b o, ao = some ⟨b, o, none⟩ ∧ b < w.heap.size ∧ w.cell? ⟨b, o + j, none⟩ = some (.string (qs.getD j ⟨#[]⟩)) := by
  rcases h.2.2 with h | ⟨b, o, e, hlt, hc⟩
  · subst h; simp at hj
  · exact ⟨b, o, e, hlt, hc j hj⟩
theorem Rd.cell {w : World} {ao : Option Addr} {cap : Nat} {l : List Nd} (h : Rd w ao cap l) {k : Nat} (hk : k < l.length) : ∃ b o kv, ao = some ⟨b, o, none⟩ ∧ b < w.heap.size ∧ NodeAt w w.heap.size b (o + k * 4) (l.getD k nd0) kv := by
  obtain ⟨ao', cap', e1, _, _, hc⟩ := h
  cases e1
  rcases hc with h | ⟨b, o, e, hlt, hc⟩
  · subst h; simp at hk
  · obtain ⟨kv, hn⟩ := hc k hk
    exact ⟨b, o, kv, e, hlt, hn⟩

end Go.Proofs.YtjmccobblpcbhaaDoor

set_option linter.unusedSimpArgs false
set_option linter.unusedVariables false
namespace Go.Proofs.YtjmccobblpcbhaaDoor
open Go.RowKit Go.Lib Go.Sort Go.Maps

/-- Between two nodes: the holes ahead of k are counted. -/
structure HoMid (w : World) (l : List Nd) (M : Nat) (k : Nat) (wr : World) : Prop where
  map : ∃ n, n ≤ k ∧ CntM wr M n (hlsL (l.take k))
  below : RowKit.Below w.heap.size w wr
  le : w.heap.size ≤ M
theorem HoMid.skip {w : World} {l : List Nd} {M k : Nat} {wr : World} (h : HoMid w l M k wr) (hk : k < l.length) (hop : (l.getD k nd0).op ≠ 18) (o : Obj) : HoMid w l M (k + 1) (wr.alloc o) := by
  obtain ⟨⟨n, hn, hm⟩, hb, hle⟩ := h
  refine ⟨⟨n, by omega, ?_⟩, hb.alloc hb.size _, hle⟩
  have e : hlsL (l.take (k + 1)) = hlsL (l.take k) := by
    rw [List.take_succ_eq_append_getElem hk, hlsL_snoc]
    have e : l.getD k nd0 = l[k] := by simp [hk]
    rw [e] at hop
    simp [addNm, hop]
  rw [e]; exact hm.alloc _
theorem HoMid.fill {w : World} {l : List Nd} {M k : Nat} {wr w' : World} {o : Obj} {n : Nat} (h : HoMid w l M k wr) (hk : k < l.length) (hop : (l.getD k nd0).op = 18) (hn : n ≤ k)
    (hm : CntM w' M (n + 1) (if (hlsL (l.take k)).any (fun y => decide (y = (l.getD k nd0).name)) = true then hlsL (l.take k) else hlsL (l.take k) ++ [(l.getD k nd0).name])) (hg : (wr.alloc o).grownBy w' (some M)) : HoMid w l M (k + 1) w' := by
  obtain ⟨_, hb, hle⟩ := h
  have hs := hb.size
  have hbA : Below w.heap.size w (wr.alloc o) := hb.alloc hs _
  have e : l.getD k nd0 = l[k] := by simp [hk]
  refine ⟨⟨n + 1, by omega, ?_⟩, hbA.grown hg (by simp; omega) (fun k hk => by cases hk; exact hle), hle⟩
  have e2 : hlsL (l.take (k + 1)) = addNm (hlsL (l.take k)) (l.getD k nd0) := by rw [List.take_succ_eq_append_getElem hk, hlsL_snoc, e]
  have e3 : addNm (hlsL (l.take k)) (l.getD k nd0) = if (hlsL (l.take k)).any (fun y => decide (y = (l.getD k nd0).name)) = true then hlsL (l.take k) else hlsL (l.take k) ++ [(l.getD k nd0).name] := by unfold addNm; rw [if_pos hop]
  rw [e2, e3]
  exact hm

set_option maxRecDepth 20000 in
set_option maxHeartbeats 4000000 in
theorem holes_any (w : World) (B : Nat) (s : ByteArray) (pat : Bool) (st : Ps) (v : Value) (hM : PsM w B s pat st v) (hlen : st.nodes.length ≤ 1000) (hnm : ∀ x ∈ st.nodes, x.name.size ≤ maxLen) :
    Calls Tryd.prog 94 #[.pointer (some ⟨B, 0, none⟩)] w fun e w' => e = .returned (.int .i64 ((hlsL st.nodes).length : Nat)) ∧ RowKit.Below w.heap.size w w' := by
  have hBl := hM.lt
  have hBn : B ≠ w.heap.size := by omega
  obtain ⟨ao, cap, rfl, hN⟩ := Rd_of_own hM.own.n
  have c7 : ∀ o, (w.alloc o).cell? ⟨B, 7, none⟩ = some (.slice ao st.nodes.length cap) := fun o => (World.cell?_alloc_past _ _ _ hBl).trans (hM.cell 7)
  obtain ⟨hb1, hb2⟩ := hN.bound
  unfold maxLen at hb2
  generalize st.nodes = l at *
  have HN : Hid (Rd w ao cap l) := hN
  have HM : Hid (∀ x ∈ l, x.name.size ≤ maxLen) := hnm
  clear hM hN hnm
  have hmm := @run_makeMap Tryd.prog
  have HS0 : Hid (HoMid w l w.heap.size 0 (w.alloc (.map #[] 0))) := ⟨⟨0, by omega, by simpa [hlsL] using CntM.made w⟩, (Below.refl _ _).alloc (Nat.le_refl _) _, Nat.le_refl _⟩
  go_enter Tryd.func94, Tryd.ntmps94
  go_wp2_with fail
  go_loopw [12] (fun i wr => ∃ k : Nat, k ≤ l.length ∧ i = .int .i64 k ∧ HoMid w l w.heap.size k wr) (fun i _ => l.length - (RowKit.intOf i).toNat)
  case atStart => exact ⟨0, by omega, rfl, HS0.out⟩
  case round =>
    obtain ⟨k, hk, rfl, hM⟩ := hrel
    have hbw := hM.below
    have hsw := hbw.size
    by_cases hlt : k < l.length
    · obtain ⟨b, o, kv, rfl, hbk, hna⟩ := Rd.cell (HN.out.below hbw hsw) hlt
      have HNM : Hid ((l.getD k nd0).name.size ≤ maxLen) := HM.out _ (by simp [hlt])
      obtain ⟨c0, c1, c2, c3, hki⟩ := hna
      obtain ⟨ka, kc, rfl, _⟩ := hki
      generalize hkl : (l.getD k nd0).kids.length = kl at *
      by_cases hop : (l.getD k nd0).op = 18
      · obtain ⟨n, hn, hC⟩ := hM.map
        obtain ⟨c, w5, hcn, hlook, hput, hC5, hg5⟩ := (hC.alloc (.cells #[.int .i64 18, .int .i64 (l.getD k nd0).n, .string (l.getD k nd0).name, .slice ka kl kc] 60)).more (by omega) HNM.out
        have hMl := hC.lt
        have HFI : Hid (HoMid w l w.heap.size (k + 1) w5) := hM.fill hlt hop hn hC5 hg5
        rw [hop] at c0
        have hc64 : (c : Int) ≤ 1000 := by omega
        clear hM hC hC5 hg5
        generalize (l.getD k nd0).name = nm at *
        generalize (l.getD k nd0).n = nn at *
        clear hop hkl
        go_wp2_with fail
        exact ⟨⟨k + 1, by omega, by go_num, HFI.out⟩, by simp [RowKit.intOf]; omega⟩
      · have HSK : Hid (HoMid w l w.heap.size (k + 1) (wr.alloc (.cells #[.int .i64 (l.getD k nd0).op, .int .i64 (l.getD k nd0).n, .string (l.getD k nd0).name, .slice ka kl kc] 60))) := hM.skip hlt hop _
        have g18 : ((l.getD k nd0).op == 18) = false := by rw [beq_eq_false_iff_ne]; exact hop
        clear hM hop hkl HNM
        generalize (l.getD k nd0).name = nm at *
        generalize (l.getD k nd0).n = nn at *
        generalize (l.getD k nd0).op = oo at *
        go_wp2_with fail
        exact ⟨⟨k + 1, by omega, by go_num, HSK.out⟩, by simp [RowKit.intOf]; omega⟩
    · have hke : k = l.length := by omega
      subst hke
      obtain ⟨⟨n, hn, hC⟩, _, hle⟩ := hM
      have hlenM := hC.len
      rw [List.take_length] at hlenM
      clear hC
      obtain ⟨nh, hnh⟩ : ∃ nh, (hlsL l).length = nh := ⟨_, rfl⟩
      rw [hnh] at hlenM
      have HNH : Hid ((hlsL l).length = nh) := hnh
      clear hnh
      go_wp2_with fail
      go_ret
      exact ⟨by rw [HNH.out]; rfl, hbw⟩
end Go.Proofs.YtjmccobblpcbhaaDoor
