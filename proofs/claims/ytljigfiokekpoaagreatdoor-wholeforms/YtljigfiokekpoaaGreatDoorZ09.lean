/-
  NmPure, ShPure, ExAddP, SwPure.
-/
import Derived.Shelf.Unicode.DecodeSlow
import Derived.Laws.RangeAny
import Derived.Shelf.Strings.Builder1
import Derived.Shelf.Small.Utf8
import Derived.Shelf.Strings.BuilderF
import Derived.Shelf.Strings.BuilderK
import Derived.Shelf.Strings.BuilderRune
import Derived.Shelf.Utf8.AppendRune
import Derived.Shelf.Strconv.Itoa0
import Derived.Shelf.Strconv.Itoa1
import Derived.Shelf.LaysM
import Derived.Shelf.Strconv.Itoa2
import Derived.Shelf.Strconv.Itoa3
import Derived.Shelf.Strconv.Itoa4
import Derived.Shelf.Strings.Prefix
import Derived.Shelf.Unicode.DecodeAny
import Derived.Test.YtljigfiokekpoaaGreatDoorProg
import Derived.WalkKit
import Derived.Deep.DeepFit
import Derived.Lib.OthersKept
import Derived.Lib.RuneCountTail
import Derived.Deep.AppendLies
import Derived.Deep.OwnRows
import Derived.Laws.AppendOwnNone
import Derived.Deep.QuietTactic
import Derived.BigQuiet
import Derived.Deep.RegionWith
import Derived.Laws.DeepStrings4
import Derived.Lib.MapLaws
import Derived.Sort.Walk0
import Derived.Lib.ItoaNum
import Derived.Test.YtljigfiokekpoaaGreatDoorZ01
import Derived.Test.YtljigfiokekpoaaGreatDoorZ02
import Derived.Test.YtljigfiokekpoaaGreatDoorZ03
import Derived.Test.YtljigfiokekpoaaGreatDoorZ04
import Derived.Test.YtljigfiokekpoaaGreatDoorZ05
import Derived.Test.YtljigfiokekpoaaGreatDoorZ06
import Derived.Test.YtljigfiokekpoaaGreatDoorZ07
import Derived.Test.YtljigfiokekpoaaGreatDoorZ08
set_option linter.unusedSimpArgs false
set_option linter.unusedVariables false
namespace Go.Proofs.YtljigfiokekpoaaGreatDoor
open Go.Lib

/-! ### names -/
theorem nmF_chk (s : ByteArray) : ∀ (f pos n : Nat), nmF s f pos n = true → (chkF s f pos).2 = 0
  | 0, pos, n, h => rfl
  | f + 1, pos, n, h => by
    by_cases hp : pos < s.size
    · rw [nmF_step s f pos n hp] at h
      unfold nmS at h
      split at h
      · simp at h
      · rename_i hk
        have ho : onB (Utf8.decode s pos).1 = true := by
          cases hq : onB (Utf8.decode s pos).1 with
          | true => rfl
          | false => simp [hq] at hk
        rw [chkF_good s f pos hp (good_of_on s pos ho)]
        exact nmF_chk s f _ _ h
    · rw [chkF_end s _ pos hp]
theorem name_chk (s : ByteArray) (h : nameB s = true) : (chk s).2 = 0 := nmF_chk s _ _ _ h
theorem empty_chk (s : ByteArray) (h : s.toList.isEmpty = true) : (chk s).2 = 0 := by
  rw [toList_data] at h
  have hz : s.size = 0 := by
    have : s.data.toList = [] := by simpa using h
    show s.data.size = 0
    rw [← Array.length_toList, this]; rfl
  unfold chk
  rw [chkF_end s _ 0 (by omega)]

theorem nmF_size (s : ByteArray) : ∀ (f pos n : Nat), s.size ≤ pos + f → nmF s f pos n = true → s.size ≤ pos + 4 * (16 - n)
  | 0, pos, n, hf, h => by omega
  | f + 1, pos, n, hf, h => by
    by_cases hp : pos < s.size
    · have hw := width_pos s pos hp
      have hw4 : (Utf8.decode s pos).2 ≤ 4 := by
        rw [decode_at s pos]; exact (decodeN_width _ _ _ _ _).2
      have hn : n < 16 := by
        by_cases hn : 16 ≤ n
        · exfalso
          rw [nmF_step s f pos n hp] at h
          unfold nmS at h
          split at h
          · simp at h
          · rw [nmF_long s f _ (n + 1) (by omega)] at h; simp at h
        · omega
      rw [nmF_step s f pos n hp] at h
      unfold nmS at h
      split at h
      · simp at h
      · have := nmF_size s f _ _ (by omega) h
        omega
    · omega
theorem name_size (s : ByteArray) (h : nameB s = true) : s.size ≤ 64 := by
  have := nmF_size s s.size 0 0 (by omega) h
  omega

theorem form_name {x : Nd} (h : formB x = true) : (chk x.name).2 = 0 ∧ x.name.size ≤ 64 := by
  unfold formB fitB at h
  simp only [Bool.and_eq_true] at h
  obtain ⟨_, h⟩ := h
  split at h
  · exact ⟨name_chk _ h, name_size _ h⟩
  · refine ⟨empty_chk _ h, ?_⟩
    rw [toList_data] at h
    have : x.name.data.toList = [] := by simpa using h
    show x.name.data.size ≤ 64
    rw [← Array.length_toList, this]; simp
end Go.Proofs.YtljigfiokekpoaaGreatDoor

set_option linter.unusedSimpArgs false
set_option linter.unusedVariables false
namespace Go.Proofs.YtljigfiokekpoaaGreatDoor
open Go.Lib

def txt (l : List UInt8) : ByteArray := ⟨l.toArray⟩
theorem txt_size (l : List UInt8) : (txt l).size = l.length := by simp [txt, ByteArray.size]
theorem txt_data (s : ByteArray) : txt s.data.toList = s := by simp [txt]
theorem txt_append (a b : List UInt8) : txt (a ++ b) = txt a ++ txt b := by
  apply ByteArray.ext
  simp [txt]
theorem app_size (a b : ByteArray) : (a ++ b).size = a.size + b.size := ByteArray.size_append ..

/-! ### soundness -/
def fillN (x : Nd) : Nd := if x.op = 18 then { x with op := 2 } else x
theorem fillN_kids (x : Nd) : (fillN x).kids = x.kids := by unfold fillN; split <;> rfl
theorem fillN_name (x : Nd) : (fillN x).name = x.name := by unfold fillN; split <;> rfl
theorem fillN_n (x : Nd) : (fillN x).n = x.n := by unfold fillN; split <;> rfl
def addNm (acc : List ByteArray) (x : Nd) : List ByteArray := if x.op = 18 then (if acc.any (fun y => decide (y = x.name)) = true then acc else acc ++ [x.name]) else acc
def hlsL (l : List Nd) : List ByteArray := l.foldl addNm []
theorem hlsL_snoc (l : List Nd) (x : Nd) : hlsL (l ++ [x]) = addNm (hlsL l) x := by simp [hlsL]
theorem addNm_len (acc : List ByteArray) (x : Nd) : (addNm acc x).length ≤ acc.length + 1 := by
  unfold addNm; split
  · split <;> simp
  · omega
theorem foldl_addNm_len : ∀ (l : List Nd) (acc : List ByteArray), (l.foldl addNm acc).length ≤ acc.length + l.length
  | [], acc => by simp
  | x :: l, acc => by
    have := foldl_addNm_len l (addNm acc x)
    have := addNm_len acc x
    simp; omega
theorem hlsL_len (l : List Nd) : (hlsL l).length ≤ l.length := by have := foldl_addNm_len l []; simpa [hlsL] using this
/-- An expression, or a pattern. -/
def okSh (l : List Nd) : Bool := !(decide (6 < (hlsL l).length)) && (decide ((hlsL l).length = 0) || decide (l.length ≤ 16)) && sndB (l.map fillN)

/-! ### texts -/
def wrTab : List (List UInt8 × List UInt8 × Int) :=
  [([], [], 0), ([], [], 11), ([], [], 11), ([45], [110, 101, 103], 10), ([126], [110, 111, 116], 10), ([43], [97, 100, 100], 8), ([45], [115, 117, 98], 8), ([42], [109, 117, 108], 9), ([47], [100, 105, 118], 9), ([37], [114, 101, 109], 9), ([38], [97, 110, 100], 4), ([124], [111, 114], 2), ([94], [120, 111, 114], 3), ([60, 60], [115, 104, 108], 7), ([62, 62], [115, 104, 114], 7), ([61, 61], [101, 113], 5), ([60], [108, 116], 6), ([63], [105, 102], 1), ([], [], 11)]
def wrAt (op : Int) : List UInt8 × List UInt8 × Int := wrTab.getD op.toNat ([], [], 0)
def sgT (op : Int) : ByteArray := txt (wrAt op).1
def rkT (op : Int) : Int := (wrAt op).2.2
theorem wr_len : ∀ k : Nat, (wrTab.getD k ([], [], 0)).1.length ≤ 2 ∧ (wrTab.getD k ([], [], 0)).2.1.length ≤ 3 := by
  intro k
  by_cases hk : k < 19
  · have : ∀ k : Fin 19, (wrTab.getD k.1 ([], [], 0)).1.length ≤ 2 ∧ (wrTab.getD k.1 ([], [], 0)).2.1.length ≤ 3 := by decide
    exact this ⟨k, hk⟩
  · have : wrTab.getD k ([], [], 0) = ([], [], 0) := by
      rw [List.getD_eq_getElem?_getD, List.getElem?_eq_none (by simp [wrTab]; omega)]; rfl
    rw [this]; simp
theorem sg_size (op : Int) : (sgT op).size ≤ 2 := by unfold sgT; rw [txt_size]; exact (wr_len _).1
def leafT (x : Nd) : ByteArray := if x.op = 1 then txt (itoa x.n) else if x.op = 18 then txt [64] ++ x.name else x.name

def brkB (op : Int) (place : Nat) (y : Nd) : Bool :=
  if op = 17 then decide (place = 0) && decide (rkT y.op = rkT op)
  else if op = 15 ∨ op = 16 then decide (rkT y.op ≤ rkT op)
  else if op = 3 ∧ y.op = 1 then decide (0 ≤ y.n)
  else if place = 0 then decide (rkT y.op < rkT op)
  else decide (rkT y.op ≤ rkT op)
def tkT (op : Int) (place : Nat) (p : Nd × ByteArray) : ByteArray := if brkB op place p.1 = true then txt [40] ++ p.2 ++ txt [41] else p.2
theorem tk_size (op : Int) (place : Nat) (p : Nd × ByteArray) : (tkT op place p).size ≤ p.2.size + 2 := by
  unfold tkT
  split
  · rw [app_size, app_size, txt_size, txt_size]; simp; omega
  · omega

def tksF (op : Int) : Nat → List (Nd × ByteArray) → List ByteArray
  | _, [] => []
  | k, p :: ps => tkT op k p :: tksF op (k + 1) ps
theorem tksF_snoc (op : Int) : ∀ (ps : List (Nd × ByteArray)) (k : Nat) (p : Nd × ByteArray), tksF op k (ps ++ [p]) = tksF op k ps ++ [tkT op (k + ps.length) p]
  | [], k, p => by simp [tksF]
  | q :: ps, k, p => by
    simp only [List.cons_append, tksF, tksF_snoc op ps (k + 1) p, List.length_cons]
    rw [show k + 1 + ps.length = k + (ps.length + 1) by omega]
def putT (op : Int) : List ByteArray → ByteArray
  | [a] => sgT op ++ a
  | [a, b] => a ++ txt [32] ++ sgT op ++ txt [32] ++ b
  | [a, b, c] => a ++ txt [32] ++ sgT op ++ txt [32] ++ b ++ (txt [32, 58, 32] ++ c)
  | _ => txt []
def betT (x : Nd) (ps : List (Nd × ByteArray)) : ByteArray := putT x.op (tksF x.op 0 ps)
def szs (ps : List (Nd × ByteArray)) : Nat := (ps.map fun p => p.2.size).sum
theorem bet_size (x : Nd) (ps : List (Nd × ByteArray)) (h : ps.length ≤ 3) : (betT x ps).size ≤ szs ps + 15 := by
  unfold betT szs
  have hs := sg_size x.op
  match ps, h with
  | [], _ => simp [tksF, putT, txt_size]
  | [a], _ =>
    have := tk_size x.op 0 a
    simp only [tksF, putT, app_size, List.map_cons, List.map_nil, List.sum_cons, List.sum_nil]
    omega
  | [a, b], _ =>
    have := tk_size x.op 0 a
    have := tk_size x.op (0 + 1) b
    simp only [tksF, putT, app_size, txt_size, List.map_cons, List.map_nil, List.sum_cons, List.sum_nil, List.length_cons, List.length_nil]
    omega
  | [a, b, c], _ =>
    have := tk_size x.op 0 a
    have := tk_size x.op (0 + 1) b
    have := tk_size x.op (0 + 1 + 1) c
    simp only [tksF, putT, app_size, txt_size, List.map_cons, List.map_nil, List.sum_cons, List.sum_nil, List.length_cons, List.length_nil]
    omega
/-! ### the whole -/
def pt0 : Nd × ByteArray := (nd0, ⟨#[]⟩)
abbrev JT := Nd → List (Nd × ByteArray) → ByteArray
def kidsP (told : List (Nd × ByteArray)) (ks : List Int) : List (Nd × ByteArray) := ks.map fun k => told.getD k.toNat pt0
def ndT (J : JT) (told : List (Nd × ByteArray)) (x : Nd) : ByteArray := if x.kids.length = 0 then leafT x else J x (kidsP told x.kids)
def tlS (J : JT) (told : List (Nd × ByteArray)) (x : Nd) : List (Nd × ByteArray) := told ++ [(x, ndT J told x)]
def tlL (J : JT) (l : List Nd) : List (Nd × ByteArray) := l.foldl (tlS J) []
theorem tlL_snoc (J : JT) (l : List Nd) (x : Nd) : tlL J (l ++ [x]) = tlL J l ++ [(x, ndT J (tlL J l) x)] := by simp [tlL, tlS]
theorem tlL_take {J : JT} {l : List Nd} {k : Nat} (h : k < l.length) : tlL J (l.take (k + 1)) = tlL J (l.take k) ++ [(l.getD k nd0, ndT J (tlL J (l.take k)) (l.getD k nd0))] := by
  rw [List.take_succ_eq_append_getElem h, tlL_snoc]; simp [h]
theorem foldl_tlS_len (J : JT) : ∀ (l : List Nd) (t : List (Nd × ByteArray)), (l.foldl (tlS J) t).length = t.length + l.length
  | [], t => by simp
  | x :: l, t => by simp [foldl_tlS_len J l, tlS]; omega
theorem tlL_len (J : JT) (l : List Nd) : (tlL J l).length = l.length := by simp [tlL, foldl_tlS_len]
def shF (J : JT) (l : List Nd) : ByteArray := ((tlL J l).getD (l.length - 1) pt0).2

/-! ### sizes -/
theorem dec_len : ∀ (n u : Nat), u < 10 ^ (n + 1) → (decDigits u).length ≤ n + 1
  | 0, u, h => by rw [decDigits]; simp at h; simp [h]
  | n + 1, u, h => by
    rw [decDigits]
    split
    · simp
    · have := dec_len n (u / 10) (by rw [Nat.div_lt_iff_lt_mul (by omega)]; rw [Nat.pow_succ] at h; exact h)
      simp; omega
theorem itoa_len (n : Int) (h0 : -9223372036854775808 ≤ n) (h1 : n ≤ 9223372036854775807) : (itoa n).length ≤ 20 := by
  unfold itoa
  split
  · have := dec_len 18 n.natAbs (by omega)
    simp; omega
  · have := dec_len 18 n.toNat (by omega)
    omega

def num64 (n : Int) : Prop := -9223372036854775808 ≤ n ∧ n ≤ 9223372036854775807
theorem leaf_size (x : Nd) (hf : formB (fillN x) = true) (hn : num64 x.n) : (leafT x).size ≤ 65 := by
  have hs := (form_name hf).2
  rw [fillN_name] at hs
  unfold leafT
  split
  · rw [txt_size]; have := itoa_len x.n hn.1 hn.2; omega
  · split
    · rw [app_size, txt_size]; simp; omega
    · omega
/-- How much of the list a node's text may take. -/
def wgt (fr : List Nat) (k : Nat) : Nat := k + 1 - fr.getD k 0
theorem chain_sum {fr : List Nat} (hL : Low fr) : ∀ (ks : List Int) (c a : Nat), chainL fr ks c = some a → (ks.map fun k => wgt fr k.toNat).sum + a = c ∧ ∀ k ∈ ks, 0 ≤ k ∧ k < (c : Int)
  | [], c, a, h => by simp [chainL] at h; subst h; simp
  | k :: ks, c, a, h => by
    simp only [chainL] at h
    split at h
    · cases h
    · rename_i hc
      have hk : k = (c : Int) - 1 := by
        by_cases e : k = (c : Int) - 1
        · exact e
        · exact absurd (.inr e) hc
      have hc0 : c ≠ 0 := fun e => hc (.inl e)
      obtain ⟨h1, h2⟩ := chain_sum hL ks _ _ h
      have hl := hL (c - 1)
      have e : k.toNat = c - 1 := by omega
      refine ⟨?_, fun q hq => ?_⟩
      · have hw : wgt fr (c - 1) = c - fr.getD (c - 1) 0 := by unfold wgt; omega
        rw [List.map_cons, List.sum_cons, e, hw]
        omega
      · rcases List.mem_cons.1 hq with rfl | hq
        · omega
        · have := h2 q hq
          omega

def TlOk (fr : List Nat) (told : List (Nd × ByteArray)) : Prop := ∀ i, i < told.length → (told.getD i pt0).2.size ≤ 100 * wgt fr i
def JOk (J : JT) : Prop := ∀ x ps, ps.length ≤ 3 → (J x ps).size ≤ szs ps + 15
theorem bet_ok : JOk betT := bet_size
theorem szs_le {fr : List Nat} {told : List (Nd × ByteArray)} (hT : TlOk fr told) : ∀ ks : List Int, (∀ k ∈ ks, 0 ≤ k ∧ k < (told.length : Int)) → szs (kidsP told ks) ≤ 100 * (ks.map fun k => wgt fr k.toNat).sum
  | [], _ => by simp [szs, kidsP]
  | k :: ks, h => by
    have h1 := szs_le hT ks fun q hq => h q (List.mem_cons_of_mem _ hq)
    have h2 := hT k.toNat (by have := h k (List.mem_cons_self ..); omega)
    simp only [szs, kidsP, List.map_cons, List.sum_cons] at *
    omega

theorem begR_prefix {L : List Nd} {k : Nat} {fr f1 : List Nat} (hr : begR [] L = some fr) (h1 : begR [] (L.take k) = some f1) (j : Nat) (hj : j < f1.length) : fr.getD j 0 = f1.getD j 0 := by
  rw [← List.take_append_drop k L, begR_append, h1, Option.bind_some] at hr
  exact (begR_some hr (begR_some h1 low_nil).2.1).2.2.1 j hj

/-- The facts of one node of a sound list, its place told. -/
structure NdAt (fr : List Nat) (k : Nat) (x : Nd) : Prop where
  form : formB (fillN x) = true
  kids : ∀ q ∈ x.kids, 0 ≤ q ∧ q < (k : Int)
  sum : (x.kids.map fun q => wgt fr q.toNat).sum + 1 = wgt fr k
  three : x.kids.length ≤ 3
theorem ndAt_of {l : List Nd} {fr : List Nat} (hb : begL (l.map fillN) = some fr) {k : Nat} (hk : k < l.length) : NdAt fr k (l.getD k nd0) := by
  unfold begL at hb
  split at hb
  · cases hb
  · cases hr : begR [] (l.map fillN) with
    | none => rw [hr] at hb; cases hb
    | some fr' =>
      rw [hr, Option.bind_some] at hb
      split at hb
      · simp only [Option.some.injEq] at hb
        subst hb
        have hL := (begR_some hr low_nil).2.1
        cases h1 : begR [] ((l.map fillN).take (k + 1)) with
        | none => rw [begR_take_none h1] at hr; cases hr
        | some f1 =>
          cases h0 : begR [] ((l.map fillN).take k) with
          | none =>
            have : begR [] (((l.map fillN).take (k + 1))) = none := by
              have e : (l.map fillN).take k = ((l.map fillN).take (k + 1)).take k := by rw [List.take_take, Nat.min_eq_left (by omega)]
              rw [e] at h0
              exact begR_take_none h0
            rw [this] at h1; cases h1
          | some f0 =>
            have hkm : k < (l.map fillN).length := by simpa using hk
            rw [List.take_succ_eq_append_getElem hkm, begR_snoc, h0, Option.bind_some] at h1
            have hx : (l.map fillN)[k] = fillN (l.getD k nd0) := by simp [hk]
            rw [hx] at h1
            obtain ⟨hf, a, hc, rfl⟩ := stp_some h1
            have hl0 : f0.length = k := by have := begR_len h0; simp at this; omega
            have hL0 := (begR_some h0 low_nil).2.1
            obtain ⟨h2, h3⟩ := chain_sum hL0 _ _ _ hc
            have hpre : ∀ j, j < k + 1 → fr'.getD j 0 = (f0 ++ [a]).getD j 0 := by
              intro j hj
              have h1' : begR [] ((l.map fillN).take (k + 1)) = some (f0 ++ [a]) := by
                rw [List.take_succ_eq_append_getElem hkm, begR_snoc, h0, Option.bind_some, hx, h1]
              exact begR_prefix hr h1' j (by simp; omega)
            have hwk : ∀ j, j < k → wgt fr' j = wgt f0 j := by
              intro j hj
              unfold wgt
              rw [hpre j (by omega), getD_snoc, if_pos (by omega)]
            have hfk : fr'.getD k 0 = a := by rw [hpre k (by omega), getD_snoc, if_neg (by omega), if_pos (by omega)]
            rw [fillN_kids] at h2 h3
            rw [hl0] at h2 h3
            have hkk : ∀ q ∈ (l.getD k nd0).kids, 0 ≤ q ∧ q < (k : Int) := fun q hq => h3 q (by simpa using hq)
            refine ⟨hf, hkk, ?_, ?_⟩
            · have e : ((l.getD k nd0).kids.map fun q => wgt fr' q.toNat) = ((l.getD k nd0).kids.map fun q => wgt f0 q.toNat) := by
                apply List.map_congr_left
                intro q hq
                have := hkk q hq
                exact hwk q.toNat (by omega)
              rw [e]
              have e2 : ((l.getD k nd0).kids.reverse.map fun q => wgt f0 q.toNat).sum = ((l.getD k nd0).kids.map fun q => wgt f0 q.toNat).sum := by
                rw [List.map_reverse, List.sum_reverse]
              rw [e2] at h2
              unfold wgt at *
              omega
            · have := formB_kids hf
              rwa [fillN_kids] at this
      · cases hb

theorem ndT_size {J : JT} (hJ : JOk J) {fr : List Nat} {told : List (Nd × ByteArray)} {x : Nd} (hT : TlOk fr told) (hx : NdAt fr told.length x) (hn : num64 x.n) : (ndT J told x).size ≤ 100 * wgt fr told.length := by
  unfold ndT
  have h1 := hx.sum
  split
  · have := leaf_size x hx.form hn
    omega
  · have h2 := hJ x (kidsP told x.kids) (by simp [kidsP]; exact hx.three)
    have h3 := szs_le hT x.kids hx.kids
    omega
theorem TlOk.snoc {fr : List Nat} {told : List (Nd × ByteArray)} {x : Nd} {s : ByteArray} (hT : TlOk fr told) (hs : s.size ≤ 100 * wgt fr told.length) : TlOk fr (told ++ [(x, s)]) := by
  intro i hi
  simp only [List.length_append, List.length_cons, List.length_nil] at hi
  by_cases h : i < told.length
  · have := hT i h
    simpa [List.getElem?_append_left h] using this
  · have : i = told.length := by omega
    subst this
    simpa using hs
theorem tl_ok {J : JT} (hJ : JOk J) {l : List Nd} {fr : List Nat} (hb : begL (l.map fillN) = some fr) (hn : ∀ x ∈ l, num64 x.n) : ∀ k, k ≤ l.length → TlOk fr (tlL J (l.take k))
  | 0, _ => by intro i hi; simp [tlL] at hi
  | k + 1, h => by
    have h1 := tl_ok hJ hb hn k (by omega)
    rw [tlL_take (by omega)]
    have hl : (tlL J (l.take k)).length = k := by rw [tlL_len]; simp; omega
    refine h1.snoc (ndT_size hJ h1 ?_ (hn _ (by simp [show k < l.length by omega])))
    rw [hl]; exact ndAt_of hb (by omega)
theorem wgt_le (fr : List Nat) (k : Nat) : wgt fr k ≤ k + 1 := by unfold wgt; omega
end Go.Proofs.YtljigfiokekpoaaGreatDoor

set_option linter.unusedSimpArgs false
set_option linter.unusedVariables false
namespace Go.Proofs.YtljigfiokekpoaaGreatDoor
open Go.RowKit Go.Lib

/-- In the middle of it. -/
structure AddMid (w : World) (base : Nat) (v : Value) (p : List (Nd × Value)) (ms : List Nd) (x : Value) (wr : World) : Prop where
  ex : ∃ p', OwnP wr base x (p ++ p') ∧ p'.map (·.1) = ms ∧ (∀ q ∈ p', OwnI wr w.heap.size q.2 q.1.kids) ∧ w.grownBy wr v.ownBlock ∧ (x.ownBlock = v.ownBlock ∨ ∀ g, x.ownBlock = some g → w.heap.size ≤ g) ∧ Below base w wr

theorem AddMid.start {w : World} {base : Nat} {v : Value} {p : List (Nd × Value)} (h : OwnP w base v p) : AddMid w base v p [] v w :=
  ⟨⟨[], by simpa using h, rfl, by simp, World.grownBy.refl _ _, .inl rfl, Below.refl _ _⟩⟩

/-- One node more: its kids are owned (new since wr), the append has gone through. -/
theorem AddMid.snoc {w : World} {base : Nat} {v x : Value} {p p' : List (Nd × Value)} {ms : List Nd} {wr W w1 : World} {y : Nd} {kv : Value} {g n cap : Nat} (hP : OwnP wr base x (p ++ p')) (hm : p'.map (·.1) = ms) (hkid : ∀ q ∈ p', OwnI wr w.heap.size q.2 q.1.kids) (hgr : w.grownBy wr v.ownBlock) (hx : x.ownBlock = v.ownBlock ∨ ∀ g, x.ownBlock = some g → w.heap.size ≤ g) (hB : Below base w wr)
    (hbase : base ≤ w.heap.size) (hBW : Below wr.heap.size wr W) (hk : OwnI W wr.heap.size kv y.kids) (hn : n = (p ++ p').length)
    (hown : w1.ownsRow base 53 4 (.slice (some ⟨g, 0, none⟩) (n + 1) cap) (n + 1) (ndCells (p ++ p') ++ [.int .i64 y.op, .int .i64 y.n, .string y.name, kv])) (hg : W.grownBy w1 x.ownBlock) (hat : x.ownBlock = some g ∨ g = W.heap.size) :
    AddMid w base v p (ms ++ [y]) (.slice (some ⟨g, 0, none⟩) (n + 1) cap) w1 := by
  have hsz : w.heap.size ≤ wr.heap.size := hgr.size
  have hPW := hP.below hBW
  have hkb : OwnI W base kv y.kids := ownsRow_mono hk (by omega)
  refine ⟨⟨p' ++ [(y, kv)], ?_, by simp [hm], fun q hq => ?_, ?_, ?_, ?_⟩⟩
  · rw [← List.append_assoc]
    subst hn
    exact hPW.snoc hkb hown hg
  · rcases List.mem_append.1 hq with hq | hq
    · have h1 := (hkid q hq).below hBW
      exact World.ownsRow.kept h1 hg (ownBlock_ne h1 hPW.row (by decide))
    · simp at hq; subst hq
      exact ownsRow_mono (World.ownsRow.kept hk hg (ownBlock_ne hk hPW.row (by decide))) hsz
  · refine ⟨hg.os.trans (hBW.os.trans hgr.os), hg.tape.trans (hBW.tape.trans hgr.tape), hg.output.trans (hBW.output.trans hgr.output), Nat.le_trans hsz (Nat.le_trans hBW.size hg.size), fun k hk1 hk2 => ?_⟩
    rw [hg.block k (by have := hBW.size; omega) (fun he => by
      rcases hx with hx | hx
      · rw [hx] at he; exact hk2 he
      · have := hx k he.symm; omega), hBW.block k (by omega), hgr.block k hk1 hk2]
  · rcases hat with hat | hat
    · rcases hx with hx | hx
      · left; show some g = v.ownBlock; rw [← hx, hat]
      · right; intro g' hg'; have e : g = g' := Option.some.inj hg'; have := hx g hat; omega
    · right; intro g' hg'; have e : g = g' := Option.some.inj hg'; have := hBW.size; omega
  · exact (hB.trans (hBW.mono (by omega))).grown hg (by have := hBW.size; omega) (fun k hk => (hPW.row.lt k hk).1)

end Go.Proofs.YtljigfiokekpoaaGreatDoor

namespace Go.Proofs.YtljigfiokekpoaaGreatDoor
open Go.RowKit Go.Lib

/-- The slice v reads as the lists ps, in blocks below B. -/
def Lst (w : World) (B : Nat) (v : Value) (ps : List (List Nd)) : Prop :=
  ∃ ao cap, v = .slice ao ps.length cap ∧ ps.length ≤ cap ∧ cap ≤ maxLen ∧ (ps = [] ∨ ∃ b o, ao = some ⟨b, o, none⟩ ∧ b < B ∧ ∀ i, i < ps.length → ∃ pv, w.cell? ⟨b, o + i, none⟩ = some pv ∧ Nodes w B pv (ps.getD i []))

theorem Lst.below {w w' : World} {B B' : Nat} {v : Value} {ps : List (List Nd)} (h : Lst w B v ps) (hb : Below B w w') (hB : B ≤ B') : Lst w' B' v ps := by
  obtain ⟨ao, cap, rfl, h1, h2, h3⟩ := h
  refine ⟨ao, cap, rfl, h1, h2, ?_⟩
  rcases h3 with h3 | ⟨b, o, rfl, hlt, hc⟩
  · exact .inl h3
  · exact .inr ⟨b, o, rfl, by omega, fun i hi => let ⟨pv, h4, h5⟩ := hc i hi; ⟨pv, (hb.cell (p := ⟨b, o + i, none⟩) hlt).trans h4, h5.below hb hB⟩⟩

theorem OwnP.kept {w w' : World} {base base' : Nat} {v v2 : Value} {p : List (Nd × Value)} {e : TypeId} {s n : Nat} {xs : List Value} (h : OwnP w base v p) (hg : w.grownBy w' v2.ownBlock) (hr : w.ownsRow base' e s v2 n xs) (h1 : 53 ≠ e) (h2 : 3 ≠ e) : OwnP w' base v p :=
  ⟨World.ownsRow.kept h.row hg (ownBlock_ne h.row hr h1), fun q hq => World.ownsRow.kept (h.kids q hq) hg (ownBlock_ne (h.kids q hq) hr h2)⟩
theorem OwnN.kept {w w' : World} {base base' : Nat} {v v2 : Value} {l : List Nd} {e : TypeId} {s n : Nat} {xs : List Value} (h : OwnN w base v l) (hg : w.grownBy w' v2.ownBlock) (hr : w.ownsRow base' e s v2 n xs) (h1 : 53 ≠ e) (h2 : 3 ≠ e) : OwnN w' base v l :=
  let ⟨p, h3, h4⟩ := h; ⟨p, h3, h4.kept hg hr h1 h2⟩

/-- Lists of lists of the call's own; pvs: the slices. -/
structure OwnLs (w : World) (base : Nat) (v : Value) (ps : List (List Nd)) (pvs : List Value) : Prop where
  len : pvs.length = ps.length
  row : w.ownsRow base 22 1 v ps.length pvs
  each : ∀ i, i < ps.length → OwnN w base (pvs.getD i (.slice none 0 0)) (ps.getD i [])

theorem OwnLs.snoc {w w1 : World} {base : Nat} {v v' : Value} {ps : List (List Nd)} {pvs : List Value} {l : List Nd} {pv : Value} (h : OwnLs w base v ps pvs) (hl : OwnN w base pv l)
    (hown : w1.ownsRow base 22 1 v' (ps.length + 1) (pvs ++ [pv])) (hg : w.grownBy w1 v.ownBlock) : OwnLs w1 base v' (ps ++ [l]) (pvs ++ [pv]) := by
  have hlen := h.len
  refine ⟨by simp [hlen], by simpa using hown, fun i hi => ?_⟩
  by_cases hlt : i < ps.length
  · have e1 : (pvs ++ [pv]).getD i (.slice none 0 0) = pvs.getD i (.slice none 0 0) := by simp only [List.getD_eq_getElem?_getD]; rw [List.getElem?_append_left (by omega)]
    have e2 : (ps ++ [l]).getD i [] = ps.getD i [] := by simp only [List.getD_eq_getElem?_getD]; rw [List.getElem?_append_left (by omega)]
    rw [e1, e2]
    exact (h.each i hlt).kept hg h.row (by decide) (by decide)
  · have he : i = ps.length := by simp at hi; omega
    have e1 : (pvs ++ [pv]).getD i (.slice none 0 0) = pv := by rw [he, ← hlen]; simp
    have e2 : (ps ++ [l]).getD i [] = l := by rw [he]; simp
    rw [e1, e2]
    exact hl.kept hg h.row (by decide) (by decide)

theorem OwnLs.below {w w' : World} {base : Nat} {v : Value} {ps : List (List Nd)} {pvs : List Value} (h : OwnLs w base v ps pvs) (hb : Below w.heap.size w w') : OwnLs w' base v ps pvs :=
  ⟨h.len, ownsRow_below h.row hb, fun i hi => (h.each i hi).below hb⟩

end Go.Proofs.YtljigfiokekpoaaGreatDoor

set_option linter.unusedSimpArgs false
set_option linter.unusedVariables false
namespace Go.Proofs.YtljigfiokekpoaaGreatDoor
open Go.RowKit Go.Lib

/-- One cell of an owned row is set. -/
theorem own_put {w : World} {base : Nat} {e : TypeId} {s n g cap : Nat} {xs : List Value} {i : Nat} {u : Value} (h : w.ownsRow base e s (.slice (some ⟨g, 0, none⟩) n cap) n xs) (hi : i < xs.length) : (w.setCell ⟨g, i, none⟩ u).ownsRow base e s (.slice (some ⟨g, 0, none⟩) n cap) n (xs.set i u) := by
  obtain ⟨h1, h2⟩ := h
  refine ⟨by simpa using h1, ?_⟩
  rcases h2 with ⟨h2, _⟩ | ⟨g', cap', cur, h3, hb, hg, hn, hm, hs, ht⟩
  · cases h2
  · cases h3
    refine .inr ⟨g, cap, cur.setIfInBounds i u, rfl, hb, heap_setCell_same w g i cur e u hg, hn, hm, by simpa using hs, ?_⟩
    rw [← ht]
    simp [List.take_set]

theorem own_block' {w : World} {base : Nat} {e : TypeId} {s n : Nat} {v : Value} {xs : List Value} (h : w.ownsRow base e s v n xs) : ∀ b, v.ownBlock = some b → base ≤ b ∧ b < w.heap.size := by
  intro b hb
  rcases h.2 with ⟨rfl, _⟩ | ⟨g, cap, cur, rfl, h1, h2, _⟩
  · cases hb
  · simp [Value.ownBlock] at hb; subst hb; exact ⟨h1, lt_of_block h2⟩
theorem row_form' {w : World} {base : Nat} {e : TypeId} {s n : Nat} {v : Value} {xs : List Value} (h : w.ownsRow base e s v n xs) : ∃ ao cap, v = .slice ao n cap := by
  rcases h.2 with ⟨rfl, h0⟩ | ⟨g', cap', cur, rfl, _⟩
  · exact ⟨none, 0, by rw [h0]⟩
  · exact ⟨_, _, rfl⟩

/-- The names' list, the number to stop at: where the function finds them. -/
structure Cst (w : World) (A Sb Nb : Nat) (stop : Int) (na : Option Addr) (nc : Nat) (names : List ByteArray) : Prop where
  sb : Sb < A
  nb : Nb < A
  stopC : w.cell? ⟨Sb, 0, none⟩ = some (.int .i64 stop)
  namesC : w.cell? ⟨Nb, 0, none⟩ = some (.slice na names.length nc)
  len : names.length ≤ nc ∧ nc ≤ maxLen
  row : names = [] ∨ ∃ b o, na = some ⟨b, o, none⟩ ∧ b < A ∧ ∀ j, j < names.length → w.cell? ⟨b, o + j, none⟩ = some (.string (names.getD j ⟨#[]⟩))
theorem Cst.below {w w' : World} {A Sb Nb : Nat} {stop : Int} {na : Option Addr} {nc : Nat} {names : List ByteArray} (h : Cst w A Sb Nb stop na nc names) (hb : Below A w w') : Cst w' A Sb Nb stop na nc names :=
  ⟨h.sb, h.nb, (hb.cell (p := ⟨Sb, 0, none⟩) h.sb).trans h.stopC, (hb.cell (p := ⟨Nb, 0, none⟩) h.nb).trans h.namesC, h.len, by
    rcases h.row with h | ⟨b, o, e, hlt, hc⟩
    · exact .inl h
    · exact .inr ⟨b, o, e, hlt, fun j hj => (hb.cell (p := ⟨b, o + j, none⟩) hlt).trans (hc j hj)⟩⟩

/-- What has been asked. -/
structure AskAt (w : World) (A : Nat) (va : Value) (qs : List ByteArray) : Prop where
  blk : w.heap[A]? = some (.cells #[va] 90 (0, 0))
  row : w.ownsRow (A + 1) 9 1 va qs.length (qs.map Value.string)
theorem AskAt.below {w w' : World} {A : Nat} {va : Value} {qs : List ByteArray} (h : AskAt w A va qs) (hb : Below w.heap.size w w') : AskAt w' A va qs :=
  ⟨(hb.block _ (lt_of_block h.blk)).trans h.blk, ownsRow_below h.row hb⟩

/-- What a question leaves. -/
structure FrA (w w' : World) (A : Nat) (va va' : Value) : Prop where
  os : w'.os = w.os
  tape : w'.tape = w.tape
  output : w'.output = w.output
  size : w.heap.size ≤ w'.heap.size
  same : ∀ b, b < w.heap.size → b ≠ A → va.ownBlock ≠ some b → w'.heap[b]? = w.heap[b]?
  yo : ∀ b, va'.ownBlock = some b → va.ownBlock = some b ∨ w.heap.size ≤ b
theorem FrA.under {w w' : World} {A : Nat} {va va' : Value} {qs : List ByteArray} (h : FrA w w' A va va') (ha : AskAt w A va qs) : Below A w w' :=
  ⟨h.os, h.tape, h.output, h.size, fun b hb => h.same b (by have := lt_of_block ha.blk; omega) (by omega) (fun e => by have := (own_block' ha.row b e).1; omega)⟩

theorem row_cell {w : World} {base : Nat} {e : TypeId} {v : Value} {n : Nat} {xs : List Value} (h : w.ownsRow base e 1 v n xs) {i : Nat} (hi : i < n) {d : Value} : ∃ g cap, v = .slice (some ⟨g, 0, none⟩) n cap ∧ g < w.heap.size ∧ n ≤ cap ∧ cap ≤ maxLen ∧ w.cell? ⟨g, i, none⟩ = some (xs.getD i d) := by
  obtain ⟨h1, h2⟩ := h
  rcases h2 with ⟨rfl, h0⟩ | ⟨g, cap, cur, rfl, hb, hg, hn, hm, hs, ht⟩
  · omega
  · refine ⟨g, cap, rfl, lt_of_block hg, hn, hm, ?_⟩
    have hc : w.cell? ⟨g, i, none⟩ = cur[i]? := by simp [World.cell?, hg]
    rw [hc, ← Array.getElem?_toList]
    have e : cur.toList[i]? = (cur.toList.take (n * 1))[i]? := by rw [List.getElem?_take, if_pos (by omega)]
    rw [e, ht]
    simp [show i < xs.length by omega]
end Go.Proofs.YtljigfiokekpoaaGreatDoor
