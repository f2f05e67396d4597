/-
  RefNm, NmPure, ShPure, ExArW.
-/
import Derived.Shelf.Unicode.DecodeSlow
import Derived.Laws.RangeAny
import Derived.Shelf.Strings.Builder1
import Derived.Shelf.Small.Utf8
import Derived.Shelf.Small.Bits
import Derived.Shelf.Strings.BuilderF
import Derived.Shelf.Strings.BuilderK
import Derived.Shelf.Strings.BuilderRune
import Derived.Shelf.Utf8.AppendRune
import Derived.Shelf.Strconv.Itoa0
import Derived.Shelf.Strconv.Itoa1
import Derived.Shelf.LaysM
import Derived.Shelf.Strconv.Itoa2
import Derived.Shelf.Strconv.Itoa3
import Derived.Shelf.Strconv.Itoa4
import Derived.Shelf.Strings.Prefix
import Derived.Shelf.Unicode.DecodeAny
import Derived.Test.YtjmccobblpcbhaaDoorProg
import Derived.WalkKit
import Derived.Deep.DeepFit
import Derived.Lib.OthersKept
import Derived.Lib.RuneCountTail
import Derived.Lib.MapLaws
import Derived.Sort.Walk0
import Derived.Laws.DeepStrings4
import Derived.Lib.ItoaNum
import Derived.Test.YtjmccobblpcbhaaDoorM01
import Derived.Test.YtjmccobblpcbhaaDoorM02
import Derived.Test.YtjmccobblpcbhaaDoorM03
set_option linter.unusedSimpArgs false
set_option linter.unusedVariables false
namespace Go.Proofs.YtjmccobblpcbhaaDoor
open Go.RowKit Go.Lib

theorem behind_any (r : Int) (w : World) :
    Calls Tryd.prog 88 #[.int .i32 r] w fun e w' => e = .returned (.bool (onB r)) ∧ Below w.heap.size w w' := by
  have c1 : Hid (∀ W, Calls Tryd.prog 57 #[.int .i32 r] W fun e w' => e = .returned (.int .i64 (kd r)) ∧ Below W.heap.size W w') := fun W => by
    have := refKind_any r W; rw [← kd_eq] at this; exact this
  cases h1 : (kd r == 1)
  · cases h2 : (kd r == 2)
    · go_enter Tryd.func88, Tryd.ntmps88
      go_wp2_with (go_at_call 57; refine (c1.out _).mono ?_; rintro e w' ⟨rfl, hb1⟩)
      go_ret
      exact ⟨ret_bool (by simp [onB, h1, h2]), hb1⟩
    · go_enter Tryd.func88, Tryd.ntmps88
      go_wp2_with (go_at_call 57; refine (c1.out _).mono ?_; rintro e w' ⟨rfl, hb1⟩)
      go_ret
      exact ⟨ret_bool (by simp [onB, h1, h2]), hb1⟩
  · go_enter Tryd.func88, Tryd.ntmps88
    go_wp2_with (go_at_call 57; refine (c1.out _).mono ?_; rintro e w' ⟨rfl, hb1⟩)
    go_ret
    exact ⟨ret_bool (by simp [onB, h1]), hb1⟩

theorem good_of_on (s : ByteArray) (p : Nat) (h : onB (Utf8.decode s p).1 = true) : bad s p = false := by
  cases hb : bad s p
  · rfl
  · rw [bad_eq hb] at h; exact absurd h (by decide)
theorem refKind_kd (r : Int) (w : World) :
    Calls Tryd.prog 57 #[.int .i32 r] w fun e w' => e = .returned (.int .i64 (kd r)) ∧ Below w.heap.size w w' := by
  rw [kd_eq]; exact refKind_any r w

/-! ### Name -/
set_option maxHeartbeats 1000000 in
theorem refName_any (s : ByteArray) (w : World) (hs : s.size ≤ maxLen) :
    Calls Tryd.prog 73 #[.string s] w fun e w' => e = .returned (.bool (nameB s)) ∧ Below w.heap.size w w' := by
  have hs0 := hs
  unfold maxLen at hs
  go_enter Tryd.func73, Tryd.ntmps73
  go_wp2
  go_loopw [3, 4] (fun c p w' => ∃ (q f n : Nat), c = .int .i64 n ∧ p = .int .i64 q ∧ Below w.heap.size w w' ∧ Hid (nmF s f q n = nameB s) ∧ s.size ≤ q + f ∧ q ≤ s.size ∧ n ≤ q) (fun _ p _ => s.size - (RowKit.intOf p).toNat)
  case atStart => exact ⟨0, s.size, 0, rfl, rfl, Below.refl _ _, rfl, by omega, by omega, by omega⟩
  case round =>
    obtain ⟨q, f, n, rfl, rfl, hB, HN, hf, hqS, hn⟩ := hrel
    have z := hB.size
    by_cases hp : q < s.size
    · obtain ⟨f, rfl⟩ : ∃ g, f = g + 1 := ⟨f - 1, by omega⟩
      have hw := width_pos s q hp
      have hw2 := dec_le s q hp
      have c3 : Hid (∀ W, Calls Tryd.prog 58 #[.string s, .int .i64 q] W fun e w' => e = .returned (.int .i32 (rn s q)) ∧ Below W.heap.size W w') := fun W => refRune_any s q W hs0 hqS
      have c4 : Hid (∀ W, Calls Tryd.prog 88 #[.int .i32 (rn s q)] W fun e w' => e = .returned (.bool (onB (Utf8.decode s q).1)) ∧ Below W.heap.size W w') := fun W => by
        rw [← onB_rn s q hp]; exact behind_any _ W
      have c6 : Hid (∀ W, Calls Tryd.prog 57 #[.int .i32 (rn s q)] W fun e w' => e = .returned (.int .i64 (kd (Utf8.decode s q).1)) ∧ Below W.heap.size W w') := fun W => by
        rw [← kd_rn s q hp]; exact refKind_kd _ W
      have c5 : Hid (∀ W, Calls Tryd.prog 54 #[.string s, .int .i64 q] W fun e w' => e = .returned (.int .i64 (wd s q)) ∧ Below W.heap.size W w') := fun W => refWidth_in s q W hp hs0
      have HX : Hid (nmF s (f + 1) q n = nmS (Utf8.decode s q).1 n (nmF s f (q + (Utf8.decode s q).2) (n + 1))) := nmF_step s f q n hp
      have HG : Hid (onB (Utf8.decode s q).1 = true → wd s q = (Utf8.decode s q).2) := fun ho => by simp [wd, good_of_on s q ho]
      generalize rn s q = rr at *
      generalize wd s q = u at *
      generalize (Utf8.decode s q).2 = v at *
      generalize ((Utf8.decode s q).1 : Int) = r at *
      cases ho : onB r
      · rw [ho] at c4
        have hv : Hid (nameB s = false) := by show nameB s = false; rw [← HN.out, HX.out]; simp [nmS, ho]
        clear c5 HG
        by_cases h0 : n = 0
        · subst h0
          generalize kd r = kk at c6
          go_wp2_with (first | (go_at_call 58; refine (c3.out _).mono ?_; rintro e w3 ⟨rfl, hb3⟩) | (go_at_call 57; refine (c6.out _).mono ?_; rintro e w6 ⟨rfl, hb6⟩) | (go_at_call 88; refine (c4.out _).mono ?_; rintro e w4 ⟨rfl, hb4⟩))
          · go_ret
            have z3 := hb3.size
            have z6 := hb6.size
            exact ⟨ret_bool hv.out.symm, ((hB.trans (hb3.mono z)).trans (hb6.mono (by omega))).trans (hb4.mono (by omega))⟩
          · go_ret
            have z3 := hb3.size
            exact ⟨ret_bool hv.out.symm, (hB.trans (hb3.mono z)).trans (hb6.mono (by omega))⟩
        · have hn0 : ((n : Int) == 0) = false := by simp; omega
          go_wp2_with (first | (go_at_call 58; refine (c3.out _).mono ?_; rintro e w3 ⟨rfl, hb3⟩) | (go_at_call 88; refine (c4.out _).mono ?_; rintro e w4 ⟨rfl, hb4⟩))
          go_ret
          have z3 := hb3.size
          exact ⟨ret_bool hv.out.symm, (hB.trans (hb3.mono z)).trans (hb4.mono (by omega))⟩
      · rw [ho] at c4
        rw [HG.out ho] at c5
        by_cases h0 : n = 0
        · subst h0
          by_cases hk : kd r = 1
          · have hx : Hid (nmF s f (q + v) 1 = nameB s) := by show _ = _; rw [← HN.out, HX.out]; simp [nmS, ho, hk]
            rw [hk] at c6
            clear hk
            go_wp2_with (first | (go_at_call 58; refine (c3.out _).mono ?_; rintro e w3 ⟨rfl, hb3⟩) | (go_at_call 57; refine (c6.out _).mono ?_; rintro e w6 ⟨rfl, hb6⟩) | (go_at_call 88; refine (c4.out _).mono ?_; rintro e w4 ⟨rfl, hb4⟩) | (go_at_call 54; refine (c5.out _).mono ?_; rintro e w5 ⟨rfl, hb5⟩))
            have z3 := hb3.size
            have z6 := hb6.size
            have z4 := hb4.size
            exact ⟨⟨q + v, f, 1, rfl, by go_num, (((hB.trans (hb3.mono z)).trans (hb6.mono (by omega))).trans (hb4.mono (by omega))).trans (hb5.mono (by omega)), hx, by omega, by omega, by omega⟩, by simp [RowKit.intOf]; omega⟩
          · have hv : Hid (nameB s = false) := by show nameB s = false; rw [← HN.out, HX.out]; simp [nmS, hk]
            have hne : (kd r != 1) = true := by simpa using hk
            generalize kd r = kk at *
            go_wp2_with (first | (go_at_call 58; refine (c3.out _).mono ?_; rintro e w3 ⟨rfl, hb3⟩) | (go_at_call 57; refine (c6.out _).mono ?_; rintro e w6 ⟨rfl, hb6⟩))
            go_ret
            have z3 := hb3.size
            exact ⟨ret_bool hv.out.symm, (hB.trans (hb3.mono z)).trans (hb6.mono (by omega))⟩
        · have hn0 : ((n : Int) == 0) = false := by simp; omega
          have hx : Hid (nmF s f (q + v) (n + 1) = nameB s) := by show _ = _; rw [← HN.out, HX.out]; simp [nmS, ho, h0]
          go_wp2_with (first | (go_at_call 58; refine (c3.out _).mono ?_; rintro e w3 ⟨rfl, hb3⟩) | (go_at_call 88; refine (c4.out _).mono ?_; rintro e w4 ⟨rfl, hb4⟩) | (go_at_call 54; refine (c5.out _).mono ?_; rintro e w5 ⟨rfl, hb5⟩))
          have z3 := hb3.size
          have z4 := hb4.size
          exact ⟨⟨q + v, f, n + 1, by go_num, by go_num, ((hB.trans (hb3.mono z)).trans (hb4.mono (by omega))).trans (hb5.mono (by omega)), hx, by omega, by omega, by omega⟩, by simp [RowKit.intOf]; omega⟩
    · go_wp2
      all_goals go_ret
      all_goals exact ⟨ret_bool (by rw [← HN.out, nmF_end s f q n hp, Bool.eq_iff_iff]; simp; try omega), hB⟩
end Go.Proofs.YtjmccobblpcbhaaDoor

set_option linter.unusedSimpArgs false
set_option linter.unusedVariables false
namespace Go.Proofs.YtjmccobblpcbhaaDoor
open Go.Lib

/-! ### names -/
theorem nmF_chk (s : ByteArray) : ∀ (f pos n : Nat), nmF s f pos n = true → (chkF s f pos).2 = 0
  | 0, pos, n, h => rfl
  | f + 1, pos, n, h => by
    by_cases hp : pos < s.size
    · rw [nmF_step s f pos n hp] at h
      unfold nmS at h
      split at h
      · simp at h
      · rename_i hk
        have ho : onB (Utf8.decode s pos).1 = true := by
          cases hq : onB (Utf8.decode s pos).1 with
          | true => rfl
          | false => simp [hq] at hk
        rw [chkF_good s f pos hp (good_of_on s pos ho)]
        exact nmF_chk s f _ _ h
    · rw [chkF_end s _ pos hp]
theorem name_chk (s : ByteArray) (h : nameB s = true) : (chk s).2 = 0 := nmF_chk s _ _ _ h
theorem empty_chk (s : ByteArray) (h : s.toList.isEmpty = true) : (chk s).2 = 0 := by
  rw [toList_data] at h
  have hz : s.size = 0 := by
    have : s.data.toList = [] := by simpa using h
    show s.data.size = 0
    rw [← Array.length_toList, this]; rfl
  unfold chk
  rw [chkF_end s _ 0 (by omega)]

theorem nmF_size (s : ByteArray) : ∀ (f pos n : Nat), s.size ≤ pos + f → nmF s f pos n = true → s.size ≤ pos + 4 * (16 - n)
  | 0, pos, n, hf, h => by omega
  | f + 1, pos, n, hf, h => by
    by_cases hp : pos < s.size
    · have hw := width_pos s pos hp
      have hw4 : (Utf8.decode s pos).2 ≤ 4 := by
        rw [decode_at s pos]; exact (decodeN_width _ _ _ _ _).2
      have hn : n < 16 := by
        by_cases hn : 16 ≤ n
        · exfalso
          rw [nmF_step s f pos n hp] at h
          unfold nmS at h
          split at h
          · simp at h
          · rw [nmF_long s f _ (n + 1) (by omega)] at h; simp at h
        · omega
      rw [nmF_step s f pos n hp] at h
      unfold nmS at h
      split at h
      · simp at h
      · have := nmF_size s f _ _ (by omega) h
        omega
    · omega
theorem name_size (s : ByteArray) (h : nameB s = true) : s.size ≤ 64 := by
  have := nmF_size s s.size 0 0 (by omega) h
  omega

theorem form_name {x : Nd} (h : formB x = true) : (chk x.name).2 = 0 ∧ x.name.size ≤ 64 := by
  unfold formB fitB at h
  simp only [Bool.and_eq_true] at h
  obtain ⟨_, h⟩ := h
  split at h
  · exact ⟨name_chk _ h, name_size _ h⟩
  · refine ⟨empty_chk _ h, ?_⟩
    rw [toList_data] at h
    have : x.name.data.toList = [] := by simpa using h
    show x.name.data.size ≤ 64
    rw [← Array.length_toList, this]; simp
end Go.Proofs.YtjmccobblpcbhaaDoor

set_option linter.unusedSimpArgs false
set_option linter.unusedVariables false
namespace Go.Proofs.YtjmccobblpcbhaaDoor
open Go.Lib

def txt (l : List UInt8) : ByteArray := ⟨l.toArray⟩
theorem txt_size (l : List UInt8) : (txt l).size = l.length := by simp [txt, ByteArray.size]
theorem txt_data (s : ByteArray) : txt s.data.toList = s := by simp [txt]
theorem txt_append (a b : List UInt8) : txt (a ++ b) = txt a ++ txt b := by
  apply ByteArray.ext
  simp [txt]
theorem app_size (a b : ByteArray) : (a ++ b).size = a.size + b.size := ByteArray.size_append ..

/-! ### soundness -/
def fillN (x : Nd) : Nd := if x.op = 18 then { x with op := 2 } else x
theorem fillN_kids (x : Nd) : (fillN x).kids = x.kids := by unfold fillN; split <;> rfl
theorem fillN_name (x : Nd) : (fillN x).name = x.name := by unfold fillN; split <;> rfl
theorem fillN_n (x : Nd) : (fillN x).n = x.n := by unfold fillN; split <;> rfl
def addNm (acc : List ByteArray) (x : Nd) : List ByteArray := if x.op = 18 then (if acc.any (fun y => decide (y = x.name)) = true then acc else acc ++ [x.name]) else acc
def hlsL (l : List Nd) : List ByteArray := l.foldl addNm []
theorem hlsL_snoc (l : List Nd) (x : Nd) : hlsL (l ++ [x]) = addNm (hlsL l) x := by simp [hlsL]
theorem addNm_len (acc : List ByteArray) (x : Nd) : (addNm acc x).length ≤ acc.length + 1 := by
  unfold addNm; split
  · split <;> simp
  · omega
theorem foldl_addNm_len : ∀ (l : List Nd) (acc : List ByteArray), (l.foldl addNm acc).length ≤ acc.length + l.length
  | [], acc => by simp
  | x :: l, acc => by
    have := foldl_addNm_len l (addNm acc x)
    have := addNm_len acc x
    simp; omega
theorem hlsL_len (l : List Nd) : (hlsL l).length ≤ l.length := by have := foldl_addNm_len l []; simpa [hlsL] using this
/-- An expression, or a pattern. -/
def okSh (l : List Nd) : Bool := !(decide (6 < (hlsL l).length)) && (decide ((hlsL l).length = 0) || decide (l.length ≤ 16)) && sndB (l.map fillN)

/-! ### texts -/
def wrTab : List (List UInt8 × List UInt8 × Int) :=
  [([], [], 0), ([], [], 11), ([], [], 11), ([45], [110, 101, 103], 10), ([126], [110, 111, 116], 10), ([43], [97, 100, 100], 8), ([45], [115, 117, 98], 8), ([42], [109, 117, 108], 9), ([47], [100, 105, 118], 9), ([37], [114, 101, 109], 9), ([38], [97, 110, 100], 4), ([124], [111, 114], 2), ([94], [120, 111, 114], 3), ([60, 60], [115, 104, 108], 7), ([62, 62], [115, 104, 114], 7), ([61, 61], [101, 113], 5), ([60], [108, 116], 6), ([63], [105, 102], 1), ([], [], 11)]
def wrAt (op : Int) : List UInt8 × List UInt8 × Int := wrTab.getD op.toNat ([], [], 0)
def sgT (op : Int) : ByteArray := txt (wrAt op).1
def rkT (op : Int) : Int := (wrAt op).2.2
theorem wr_len : ∀ k : Nat, (wrTab.getD k ([], [], 0)).1.length ≤ 2 ∧ (wrTab.getD k ([], [], 0)).2.1.length ≤ 3 := by
  intro k
  by_cases hk : k < 19
  · have : ∀ k : Fin 19, (wrTab.getD k.1 ([], [], 0)).1.length ≤ 2 ∧ (wrTab.getD k.1 ([], [], 0)).2.1.length ≤ 3 := by decide
    exact this ⟨k, hk⟩
  · have : wrTab.getD k ([], [], 0) = ([], [], 0) := by
      rw [List.getD_eq_getElem?_getD, List.getElem?_eq_none (by simp [wrTab]; omega)]; rfl
    rw [this]; simp
theorem sg_size (op : Int) : (sgT op).size ≤ 2 := by unfold sgT; rw [txt_size]; exact (wr_len _).1
def leafT (x : Nd) : ByteArray := if x.op = 1 then txt (itoa x.n) else if x.op = 18 then txt [64] ++ x.name else x.name

def brkB (op : Int) (place : Nat) (y : Nd) : Bool :=
  if op = 17 then decide (place = 0) && decide (rkT y.op = rkT op)
  else if op = 15 ∨ op = 16 then decide (rkT y.op ≤ rkT op)
  else if op = 3 ∧ y.op = 1 then decide (0 ≤ y.n)
  else if place = 0 then decide (rkT y.op < rkT op)
  else decide (rkT y.op ≤ rkT op)
def tkT (op : Int) (place : Nat) (p : Nd × ByteArray) : ByteArray := if brkB op place p.1 = true then txt [40] ++ p.2 ++ txt [41] else p.2
theorem tk_size (op : Int) (place : Nat) (p : Nd × ByteArray) : (tkT op place p).size ≤ p.2.size + 2 := by
  unfold tkT
  split
  · rw [app_size, app_size, txt_size, txt_size]; simp; omega
  · omega

def tksF (op : Int) : Nat → List (Nd × ByteArray) → List ByteArray
  | _, [] => []
  | k, p :: ps => tkT op k p :: tksF op (k + 1) ps
theorem tksF_snoc (op : Int) : ∀ (ps : List (Nd × ByteArray)) (k : Nat) (p : Nd × ByteArray), tksF op k (ps ++ [p]) = tksF op k ps ++ [tkT op (k + ps.length) p]
  | [], k, p => by simp [tksF]
  | q :: ps, k, p => by
    simp only [List.cons_append, tksF, tksF_snoc op ps (k + 1) p, List.length_cons]
    rw [show k + 1 + ps.length = k + (ps.length + 1) by omega]
def putT (op : Int) : List ByteArray → ByteArray
  | [a] => sgT op ++ a
  | [a, b] => a ++ txt [32] ++ sgT op ++ txt [32] ++ b
  | [a, b, c] => a ++ txt [32] ++ sgT op ++ txt [32] ++ b ++ (txt [32, 58, 32] ++ c)
  | _ => txt []
def betT (x : Nd) (ps : List (Nd × ByteArray)) : ByteArray := putT x.op (tksF x.op 0 ps)
def szs (ps : List (Nd × ByteArray)) : Nat := (ps.map fun p => p.2.size).sum
theorem bet_size (x : Nd) (ps : List (Nd × ByteArray)) (h : ps.length ≤ 3) : (betT x ps).size ≤ szs ps + 15 := by
  unfold betT szs
  have hs := sg_size x.op
  match ps, h with
  | [], _ => simp [tksF, putT, txt_size]
  | [a], _ =>
    have := tk_size x.op 0 a
    simp only [tksF, putT, app_size, List.map_cons, List.map_nil, List.sum_cons, List.sum_nil]
    omega
  | [a, b], _ =>
    have := tk_size x.op 0 a
    have := tk_size x.op (0 + 1) b
    simp only [tksF, putT, app_size, txt_size, List.map_cons, List.map_nil, List.sum_cons, List.sum_nil, List.length_cons, List.length_nil]
    omega
  | [a, b, c], _ =>
    have := tk_size x.op 0 a
    have := tk_size x.op (0 + 1) b
    have := tk_size x.op (0 + 1 + 1) c
    simp only [tksF, putT, app_size, txt_size, List.map_cons, List.map_nil, List.sum_cons, List.sum_nil, List.length_cons, List.length_nil]
    omega
/-! ### the whole -/
def pt0 : Nd × ByteArray := (nd0, ⟨#[]⟩)
abbrev JT := Nd → List (Nd × ByteArray) → ByteArray
def kidsP (told : List (Nd × ByteArray)) (ks : List Int) : List (Nd × ByteArray) := ks.map fun k => told.getD k.toNat pt0
def ndT (J : JT) (told : List (Nd × ByteArray)) (x : Nd) : ByteArray := if x.kids.length = 0 then leafT x else J x (kidsP told x.kids)
def tlS (J : JT) (told : List (Nd × ByteArray)) (x : Nd) : List (Nd × ByteArray) := told ++ [(x, ndT J told x)]
def tlL (J : JT) (l : List Nd) : List (Nd × ByteArray) := l.foldl (tlS J) []
theorem tlL_snoc (J : JT) (l : List Nd) (x : Nd) : tlL J (l ++ [x]) = tlL J l ++ [(x, ndT J (tlL J l) x)] := by simp [tlL, tlS]
theorem tlL_take {J : JT} {l : List Nd} {k : Nat} (h : k < l.length) : tlL J (l.take (k + 1)) = tlL J (l.take k) ++ [(l.getD k nd0, ndT J (tlL J (l.take k)) (l.getD k nd0))] := by
  rw [List.take_succ_eq_append_getElem h, tlL_snoc]; simp [h]
theorem foldl_tlS_len (J : JT) : ∀ (l : List Nd) (t : List (Nd × ByteArray)), (l.foldl (tlS J) t).length = t.length + l.length
  | [], t => by simp
  | x :: l, t => by simp [foldl_tlS_len J l, tlS]; omega
theorem tlL_len (J : JT) (l : List Nd) : (tlL J l).length = l.length := by simp [tlL, foldl_tlS_len]
def shF (J : JT) (l : List Nd) : ByteArray := ((tlL J l).getD (l.length - 1) pt0).2

/-! ### sizes -/
theorem dec_len : ∀ (n u : Nat), u < 10 ^ (n + 1) → (decDigits u).length ≤ n + 1
  | 0, u, h => by rw [decDigits]; simp at h; simp [h]
  | n + 1, u, h => by
    rw [decDigits]
    split
    · simp
    · have := dec_len n (u / 10) (by rw [Nat.div_lt_iff_lt_mul (by omega)]; rw [Nat.pow_succ] at h; exact h)
      simp; omega
theorem itoa_len (n : Int) (h0 : -9223372036854775808 ≤ n) (h1 : n ≤ 9223372036854775807) : (itoa n).length ≤ 20 := by
  unfold itoa
  split
  · have := dec_len 18 n.natAbs (by omega)
    simp; omega
  · have := dec_len 18 n.toNat (by omega)
    omega

def num64 (n : Int) : Prop := -9223372036854775808 ≤ n ∧ n ≤ 9223372036854775807
theorem leaf_size (x : Nd) (hf : formB (fillN x) = true) (hn : num64 x.n) : (leafT x).size ≤ 65 := by
  have hs := (form_name hf).2
  rw [fillN_name] at hs
  unfold leafT
  split
  · rw [txt_size]; have := itoa_len x.n hn.1 hn.2; omega
  · split
    · rw [app_size, txt_size]; simp; omega
    · omega
/-- How much of the list a node's text may take. -/
def wgt (fr : List Nat) (k : Nat) : Nat := k + 1 - fr.getD k 0
theorem chain_sum {fr : List Nat} (hL : Low fr) : ∀ (ks : List Int) (c a : Nat), chainL fr ks c = some a → (ks.map fun k => wgt fr k.toNat).sum + a = c ∧ ∀ k ∈ ks, 0 ≤ k ∧ k < (c : Int)
  | [], c, a, h => by simp [chainL] at h; subst h; simp
  | k :: ks, c, a, h => by
    simp only [chainL] at h
    split at h
    · cases h
    · rename_i hc
      have hk : k = (c : Int) - 1 := by
        by_cases e : k = (c : Int) - 1
        · exact e
        · exact absurd (.inr e) hc
      have hc0 : c ≠ 0 := fun e => hc (.inl e)
      obtain ⟨h1, h2⟩ := chain_sum hL ks _ _ h
      have hl := hL (c - 1)
      have e : k.toNat = c - 1 := by omega
      refine ⟨?_, fun q hq => ?_⟩
      · have hw : wgt fr (c - 1) = c - fr.getD (c - 1) 0 := by unfold wgt; omega
        rw [List.map_cons, List.sum_cons, e, hw]
        omega
      · rcases List.mem_cons.1 hq with rfl | hq
        · omega
        · have := h2 q hq
          omega

def TlOk (fr : List Nat) (told : List (Nd × ByteArray)) : Prop := ∀ i, i < told.length → (told.getD i pt0).2.size ≤ 100 * wgt fr i
def JOk (J : JT) : Prop := ∀ x ps, ps.length ≤ 3 → (J x ps).size ≤ szs ps + 15
theorem bet_ok : JOk betT := bet_size
theorem szs_le {fr : List Nat} {told : List (Nd × ByteArray)} (hT : TlOk fr told) : ∀ ks : List Int, (∀ k ∈ ks, 0 ≤ k ∧ k < (told.length : Int)) → szs (kidsP told ks) ≤ 100 * (ks.map fun k => wgt fr k.toNat).sum
  | [], _ => by simp [szs, kidsP]
  | k :: ks, h => by
    have h1 := szs_le hT ks fun q hq => h q (List.mem_cons_of_mem _ hq)
    have h2 := hT k.toNat (by have := h k (List.mem_cons_self ..); omega)
    simp only [szs, kidsP, List.map_cons, List.sum_cons] at *
    omega

theorem begR_prefix {L : List Nd} {k : Nat} {fr f1 : List Nat} (hr : begR [] L = some fr) (h1 : begR [] (L.take k) = some f1) (j : Nat) (hj : j < f1.length) : fr.getD j 0 = f1.getD j 0 := by
  rw [← List.take_append_drop k L, begR_append, h1, Option.bind_some] at hr
  exact (begR_some hr (begR_some h1 low_nil).2.1).2.2.1 j hj

/-- The facts of one node of a sound list, its place told. -/
structure NdAt (fr : List Nat) (k : Nat) (x : Nd) : Prop where
  form : formB (fillN x) = true
  kids : ∀ q ∈ x.kids, 0 ≤ q ∧ q < (k : Int)
  sum : (x.kids.map fun q => wgt fr q.toNat).sum + 1 = wgt fr k
  three : x.kids.length ≤ 3
theorem ndAt_of {l : List Nd} {fr : List Nat} (hb : begL (l.map fillN) = some fr) {k : Nat} (hk : k < l.length) : NdAt fr k (l.getD k nd0) := by
  unfold begL at hb
  split at hb
  · cases hb
  · cases hr : begR [] (l.map fillN) with
    | none => rw [hr] at hb; cases hb
    | some fr' =>
      rw [hr, Option.bind_some] at hb
      split at hb
      · simp only [Option.some.injEq] at hb
        subst hb
        have hL := (begR_some hr low_nil).2.1
        cases h1 : begR [] ((l.map fillN).take (k + 1)) with
        | none => rw [begR_take_none h1] at hr; cases hr
        | some f1 =>
          cases h0 : begR [] ((l.map fillN).take k) with
          | none =>
            have : begR [] (((l.map fillN).take (k + 1))) = none := by
              have e : (l.map fillN).take k = ((l.map fillN).take (k + 1)).take k := by rw [List.take_take, Nat.min_eq_left (by omega)]
              rw [e] at h0
              exact begR_take_none h0
            rw [this] at h1; cases h1
          | some f0 =>
            have hkm : k < (l.map fillN).length := by simpa using hk
            rw [List.take_succ_eq_append_getElem hkm, begR_snoc, h0, Option.bind_some] at h1
            have hx : (l.map fillN)[k] = fillN (l.getD k nd0) := by simp [hk]
            rw [hx] at h1
            obtain ⟨hf, a, hc, rfl⟩ := stp_some h1
            have hl0 : f0.length = k := by have := begR_len h0; simp at this; omega
            have hL0 := (begR_some h0 low_nil).2.1
            obtain ⟨h2, h3⟩ := chain_sum hL0 _ _ _ hc
            have hpre : ∀ j, j < k + 1 → fr'.getD j 0 = (f0 ++ [a]).getD j 0 := by
              intro j hj
              have h1' : begR [] ((l.map fillN).take (k + 1)) = some (f0 ++ [a]) := by
                rw [List.take_succ_eq_append_getElem hkm, begR_snoc, h0, Option.bind_some, hx, h1]
              exact begR_prefix hr h1' j (by simp; omega)
            have hwk : ∀ j, j < k → wgt fr' j = wgt f0 j := by
              intro j hj
              unfold wgt
              rw [hpre j (by omega), getD_snoc, if_pos (by omega)]
            have hfk : fr'.getD k 0 = a := by rw [hpre k (by omega), getD_snoc, if_neg (by omega), if_pos (by omega)]
            rw [fillN_kids] at h2 h3
            rw [hl0] at h2 h3
            have hkk : ∀ q ∈ (l.getD k nd0).kids, 0 ≤ q ∧ q < (k : Int) := fun q hq => h3 q (by simpa using hq)
            refine ⟨hf, hkk, ?_, ?_⟩
            · have e : ((l.getD k nd0).kids.map fun q => wgt fr' q.toNat) = ((l.getD k nd0).kids.map fun q => wgt f0 q.toNat) := by
                apply List.map_congr_left
                intro q hq
                have := hkk q hq
                exact hwk q.toNat (by omega)
              rw [e]
              have e2 : ((l.getD k nd0).kids.reverse.map fun q => wgt f0 q.toNat).sum = ((l.getD k nd0).kids.map fun q => wgt f0 q.toNat).sum := by
                rw [List.map_reverse, List.sum_reverse]
              rw [e2] at h2
              unfold wgt at *
              omega
            · have := formB_kids hf
              rwa [fillN_kids] at this
      · cases hb

theorem ndT_size {J : JT} (hJ : JOk J) {fr : List Nat} {told : List (Nd × ByteArray)} {x : Nd} (hT : TlOk fr told) (hx : NdAt fr told.length x) (hn : num64 x.n) : (ndT J told x).size ≤ 100 * wgt fr told.length := by
  unfold ndT
  have h1 := hx.sum
  split
  · have := leaf_size x hx.form hn
    omega
  · have h2 := hJ x (kidsP told x.kids) (by simp [kidsP]; exact hx.three)
    have h3 := szs_le hT x.kids hx.kids
    omega
theorem TlOk.snoc {fr : List Nat} {told : List (Nd × ByteArray)} {x : Nd} {s : ByteArray} (hT : TlOk fr told) (hs : s.size ≤ 100 * wgt fr told.length) : TlOk fr (told ++ [(x, s)]) := by
  intro i hi
  simp only [List.length_append, List.length_cons, List.length_nil] at hi
  by_cases h : i < told.length
  · have := hT i h
    simpa [List.getElem?_append_left h] using this
  · have : i = told.length := by omega
    subst this
    simpa using hs
theorem tl_ok {J : JT} (hJ : JOk J) {l : List Nd} {fr : List Nat} (hb : begL (l.map fillN) = some fr) (hn : ∀ x ∈ l, num64 x.n) : ∀ k, k ≤ l.length → TlOk fr (tlL J (l.take k))
  | 0, _ => by intro i hi; simp [tlL] at hi
  | k + 1, h => by
    have h1 := tl_ok hJ hb hn k (by omega)
    rw [tlL_take (by omega)]
    have hl : (tlL J (l.take k)).length = k := by rw [tlL_len]; simp; omega
    refine h1.snoc (ndT_size hJ h1 ?_ (hn _ (by simp [show k < l.length by omega])))
    rw [hl]; exact ndAt_of hb (by omega)
theorem wgt_le (fr : List Nat) (k : Nat) : wgt fr k ≤ k + 1 := by unfold wgt; omega
end Go.Proofs.YtjmccobblpcbhaaDoor

set_option linter.unusedSimpArgs false
set_option linter.unusedVariables false
namespace Go.Proofs.YtjmccobblpcbhaaDoor
open Go.RowKit Go.Lib

theorem ret2' {k l : IntKind} {a b c d : Int} (h : a = c) (h' : b = d) : Ending.returned (.tuple #[.int k a, .int l b]) = .returned (.tuple #[.int k c, .int l d]) := by rw [h, h']

def arK (op : Int) : Int := max (aritI op) 0
def arE (op : Int) : Int := if aritI op < 0 then 2 else 0
theorem ar_of {op a : Int} (h : aritI op = a) (h0 : 0 ≤ a) : arK op = a ∧ arE op = 0 := by
  unfold arK arE; rw [h, if_neg (by omega)]; exact ⟨by omega, rfl⟩
theorem ar_none {op : Int} (h : aritI op = -1) : arK op = 0 ∧ arE op = 2 := by
  unfold arK arE; rw [h]; exact ⟨by decide, by decide⟩

theorem ar_spec (op : Int) : (arK op = 0 ∧ arE op = 0 ∧ (op = 1 ∨ op = 2)) ∨ (arK op = 1 ∧ arE op = 0 ∧ (op = 3 ∨ op = 4)) ∨ (arK op = 2 ∧ arE op = 0 ∧ 5 ≤ op ∧ op ≤ 16) ∨ (arK op = 3 ∧ arE op = 0 ∧ op = 17) ∨ (arK op = 0 ∧ arE op = 2 ∧ (op < 1 ∨ 17 < op)) := by
  by_cases h1 : op = 1 ∨ op = 2
  · have := ar_of (op := op) (a := 0) (by simp [aritI, h1]) (by omega); omega
  by_cases h2 : op = 3 ∨ op = 4
  · have := ar_of (op := op) (a := 1) (by simp [aritI, h1, h2]) (by omega); omega
  by_cases h3 : 5 ≤ op ∧ op ≤ 16
  · have := ar_of (op := op) (a := 2) (by simp [aritI, h1, h2, h3]) (by omega); omega
  by_cases h4 : op = 17
  · have := ar_of (op := op) (a := 3) (by simp [aritI, h4]) (by omega); omega
  · have := ar_none (op := op) (by simp [aritI, h1, h2, h3, h4]); omega

set_option maxHeartbeats 400000 in
theorem arity_any (op : Int) (w : World) :
    Calls Tryd.prog 106 #[.int .i64 op] w fun e w' => e = .returned (.tuple #[.int .i64 (arK op), .int .i64 (arE op)]) ∧ w' = w := by
  go_enter Tryd.func106, Tryd.ntmps106
  go_wp2
  all_goals
    go_ret2
    have hs := ar_spec op
    simp only [beq_iff_eq, beq_eq_false_iff_ne, ne_eq] at *
    exact ⟨ret2' (by omega) (by omega), trivial⟩

set_option maxHeartbeats 400000 in
theorem fits_any (op n : Int) (name : ByteArray) (parts : Int) (w : World) (hT : SpanCells w) :
    Calls Tryd.prog 71 #[.int .i64 op, .int .i64 n, .string name, .int .i64 parts] w fun e w' => e = .returned (.bool (fitB op n name parts)) ∧ Below w.heap.size w w' := by
  have HF : Hid (fitB op n name parts = (!(arE op != 0) && !(parts != arK op) && !(n != 0 && op != 1) && (if op = 2 then nameB name else name.toList.isEmpty))) := by
    show _ = _
    by_cases h : 0 ≤ aritI op
    · rw [(ar_of rfl h).1, (ar_of rfl h).2]
      unfold fitB
      rw [Bool.eq_iff_iff]
      simp [h]
    · have h1 : aritI op = -1 := by have := aritI_ge op; omega
      rw [(ar_none h1).1, (ar_none h1).2]
      unfold fitB
      simp [h1]
  have ca : Hid (∀ W, Calls Tryd.prog 106 #[.int .i64 op] W fun e w' => e = .returned (.tuple #[.int .i64 (arK op), .int .i64 (arE op)]) ∧ w' = W) := arity_any op
  generalize arK op = k at *
  generalize arE op = x at *
  go_enter Tryd.func71, Tryd.ntmps71
  go_wp2_with (first | (go_at_call 106; refine (ca.out _).mono ?_; rintro e w' ⟨rfl, rfl⟩) | (go_at_call 70; refine (name_spans _ _ hT).mono ?_; rintro e w' ⟨rfl, hb⟩))
  all_goals
    go_ret
    first
    | exact ⟨ret_bool (by rw [HF.out]; simp_all), hb⟩
    | exact ⟨ret_bool (by rw [HF.out]; simp_all), Below.refl _ _⟩
end Go.Proofs.YtjmccobblpcbhaaDoor
