/-
  SgFr.
-/
import Derived.Shelf.Unicode.DecodeSlow
import Derived.Laws.RangeAny
import Derived.Shelf.Strings.Builder1
import Derived.Shelf.Small.Utf8
import Derived.Shelf.Small.Bits
import Derived.Shelf.Strings.BuilderF
import Derived.Shelf.Strings.BuilderK
import Derived.Shelf.Strings.BuilderRune
import Derived.Shelf.Utf8.AppendRune
import Derived.Shelf.Strconv.Itoa0
import Derived.Shelf.Strconv.Itoa1
import Derived.Shelf.LaysM
import Derived.Shelf.Strconv.Itoa2
import Derived.Shelf.Strconv.Itoa3
import Derived.Shelf.Strconv.Itoa4
import Derived.Shelf.Strings.Prefix
import Derived.Shelf.Unicode.DecodeAny
import Derived.Test.YtjmccobblpcbhaaDoorProg
import Derived.WalkKit
import Derived.Deep.DeepFit
import Derived.Lib.OthersKept
import Derived.Lib.RuneCountTail
import Derived.Lib.Small
import Derived.Lib.Strings
import Derived.Lib.MapLaws
import Derived.Deep.AppendLies
import Derived.Deep.OwnRows
import Derived.Laws.AppendOwnNone
import Derived.Deep.QuietTactic
import Derived.BigQuiet
import Derived.Deep.RegionWith
import Derived.Laws.DeepStrings4
import Derived.Deep.RegionHeld3
import Derived.Laws.ResultCell
import Derived.Lib.QuietBelow
import Derived.Deep.Heap
import Derived.Laws.Rows
import Derived.Below
import Derived.StillTail
import Derived.Sort.Walk0
import Derived.Test.YtjmccobblpcbhaaDoorK01
import Derived.Test.YtjmccobblpcbhaaDoorK02
import Derived.Test.YtjmccobblpcbhaaDoorK03
import Derived.Test.YtjmccobblpcbhaaDoorK04
import Derived.Test.YtjmccobblpcbhaaDoorK05
import Derived.Test.YtjmccobblpcbhaaDoorK06
import Derived.Test.YtjmccobblpcbhaaDoorK07
import Derived.Test.YtjmccobblpcbhaaDoorK08
import Derived.Test.YtjmccobblpcbhaaDoorK09
import Derived.Test.YtjmccobblpcbhaaDoorK10
import Derived.Test.YtjmccobblpcbhaaDoorK11
import Derived.Test.YtjmccobblpcbhaaDoorK12
import Derived.Test.YtjmccobblpcbhaaDoorK13
import Derived.Test.YtjmccobblpcbhaaDoorK14
import Derived.Test.YtjmccobblpcbhaaDoorK15
import Derived.Test.YtjmccobblpcbhaaDoorK19
set_option linter.unusedSimpArgs false
set_option linter.unusedVariables false
namespace Go.Proofs.YtjmccobblpcbhaaDoor
open Go.RowKit Go.Lib

def SgIs (s : ByteArray) (pat : Bool) (a : Nat) (x : Pr Tk) : Prop := match x with
  | .ok t => sgR s pat a = some (sgW t.what, if t.what = 0 ∨ t.what = 48 ∨ t.what = 97 then 0 else t.to - a)
  | .bad p er => p = a ∧ er = 5 ∧ sgR s pat a = none
  | .out => False
/-- What follows where a sign may stand. -/
def sgX (s : ByteArray) (pat : Bool) (a : Nat) (c : Int) (v : Nat) : Option (ByteArray × Nat) :=
  if wrT c ≠ ⟨#[]⟩ then some (wrT c, v)
  else if (psTwo s a 60 || psTwo s a 62 || psTwo s a 61) = true then some ((s.extract a s.size).extract 0 2, 2)
  else if sgLst.any (· == c) = true then some (Utf8.encode c, 1)
  else if c = 64 ∧ pat = true then some (⟨#[64]⟩, 1)
  else none
theorem sg2_eq (s : ByteArray) (a : Nat) : sg2 (s.extract a s.size) = (psTwo s a 60 || psTwo s a 62 || psTwo s a 61) := by
  rw [← two_ext, ← two_ext, ← two_ext]
  unfold sg2
  cases decide (1 < (s.extract a s.size).size) <;> simp
theorem two_is {s : ByteArray} {a : Nat} {c : UInt8} (h : psTwo s a c = true) : (s.extract a s.size).extract 0 2 = ⟨#[c, c]⟩ := by
  rw [← two_ext] at h
  have h2 : ((s.extract a s.size).extract 0 2).toList = [c, c] := by
    rw [Bool.and_eq_true] at h
    simpa using h.2
  rw [toList_data] at h2
  exact ByteArray.ext (Array.toList_inj.1 h2)
theorem sgR_in {s : ByteArray} {pat : Bool} {a : Nat} (hp : a < s.size) (h1 : kd (rn s a) ≠ 1) (h2 : kd (rn s a) ≠ 2) : sgR s pat a = sgX s pat a (rn s a) (wd s a) := by
  unfold sgR sgX
  rw [if_neg (by rintro (h | h | h); exact h hp; exact h1 h; exact h2 h), sg2_eq]
/-- One sign's token. -/
def sgTk (s : ByteArray) (pat : Bool) (a : Nat) (r : Int) : Pr Tk := if 0 < (psSign s pat a r).2 then .ok ⟨(psSign s pat a r).1, a, a + (psSign s pat a r).2.toNat, 0, 0⟩ else .bad a 5
theorem wrT_p (c : Int) : wrT c = wrO c (if c = 8722 then some 45 else if c = 215 then some 42 else if c = 183 then some 42 else if c = 247 then some 47 else if c = 172 then some 126 else if c = 8743 then some 38 else if c = 8744 then some 124 else if c = 8853 then some 94 else none) := by unfold wrT; rw [wrF_eq]
set_option maxRecDepth 100000
theorem sgv40 (s : ByteArray) (pat : Bool) (a w : Nat) (hp : a < s.size) (hd : Utf8.decode s a = (40, w)) (hw : runeLen 40 = (w : Int)) : (match sgTk s pat a 40 with | .ok t => sgX s pat a 40 w = some (sgW t.what, if t.what = 0 ∨ t.what = 48 ∨ t.what = 97 then 0 else t.to - a) | .bad p er => p = a ∧ er = 5 ∧ sgX s pat a 40 w = none | .out => False) := by
  have n60 : psTwo s a 60 = false := no_two hp (by decide) (by rw [hd]; show (40 : Nat) ≠ UInt8.toNat 60; decide)
  have n61 : psTwo s a 61 = false := no_two hp (by decide) (by rw [hd]; show (40 : Nat) ≠ UInt8.toNat 61; decide)
  have n62 : psTwo s a 62 = false := no_two hp (by decide) (by rw [hd]; show (40 : Nat) ≠ UInt8.toNat 62; decide)
  have hw0 : wrT 40 = ⟨#[]⟩ := by rw [wrT_p]; simp [wrO]
  have hrl : runeLen 40 = 1 := by decide +kernel
  rw [hrl] at hw
  obtain rfl : w = 1 := by omega
  simp [sgTk, psSign, n60, n61, n62, psPlain, hrl, sgX, hw0, sgLst, sgW]
theorem sgv41 (s : ByteArray) (pat : Bool) (a w : Nat) (hp : a < s.size) (hd : Utf8.decode s a = (41, w)) (hw : runeLen 41 = (w : Int)) : (match sgTk s pat a 41 with | .ok t => sgX s pat a 41 w = some (sgW t.what, if t.what = 0 ∨ t.what = 48 ∨ t.what = 97 then 0 else t.to - a) | .bad p er => p = a ∧ er = 5 ∧ sgX s pat a 41 w = none | .out => False) := by
  have n60 : psTwo s a 60 = false := no_two hp (by decide) (by rw [hd]; show (41 : Nat) ≠ UInt8.toNat 60; decide)
  have n61 : psTwo s a 61 = false := no_two hp (by decide) (by rw [hd]; show (41 : Nat) ≠ UInt8.toNat 61; decide)
  have n62 : psTwo s a 62 = false := no_two hp (by decide) (by rw [hd]; show (41 : Nat) ≠ UInt8.toNat 62; decide)
  have hw0 : wrT 41 = ⟨#[]⟩ := by rw [wrT_p]; simp [wrO]
  have hrl : runeLen 41 = 1 := by decide +kernel
  rw [hrl] at hw
  obtain rfl : w = 1 := by omega
  simp [sgTk, psSign, n60, n61, n62, psPlain, hrl, sgX, hw0, sgLst, sgW]
theorem sgv43 (s : ByteArray) (pat : Bool) (a w : Nat) (hp : a < s.size) (hd : Utf8.decode s a = (43, w)) (hw : runeLen 43 = (w : Int)) : (match sgTk s pat a 43 with | .ok t => sgX s pat a 43 w = some (sgW t.what, if t.what = 0 ∨ t.what = 48 ∨ t.what = 97 then 0 else t.to - a) | .bad p er => p = a ∧ er = 5 ∧ sgX s pat a 43 w = none | .out => False) := by
  have n60 : psTwo s a 60 = false := no_two hp (by decide) (by rw [hd]; show (43 : Nat) ≠ UInt8.toNat 60; decide)
  have n61 : psTwo s a 61 = false := no_two hp (by decide) (by rw [hd]; show (43 : Nat) ≠ UInt8.toNat 61; decide)
  have n62 : psTwo s a 62 = false := no_two hp (by decide) (by rw [hd]; show (43 : Nat) ≠ UInt8.toNat 62; decide)
  have hw0 : wrT 43 = ⟨#[]⟩ := by rw [wrT_p]; simp [wrO]
  have hrl : runeLen 43 = 1 := by decide +kernel
  rw [hrl] at hw
  obtain rfl : w = 1 := by omega
  simp [sgTk, psSign, n60, n61, n62, psPlain, hrl, sgX, hw0, sgLst, sgW]
theorem sgv45 (s : ByteArray) (pat : Bool) (a w : Nat) (hp : a < s.size) (hd : Utf8.decode s a = (45, w)) (hw : runeLen 45 = (w : Int)) : (match sgTk s pat a 45 with | .ok t => sgX s pat a 45 w = some (sgW t.what, if t.what = 0 ∨ t.what = 48 ∨ t.what = 97 then 0 else t.to - a) | .bad p er => p = a ∧ er = 5 ∧ sgX s pat a 45 w = none | .out => False) := by
  have n60 : psTwo s a 60 = false := no_two hp (by decide) (by rw [hd]; show (45 : Nat) ≠ UInt8.toNat 60; decide)
  have n61 : psTwo s a 61 = false := no_two hp (by decide) (by rw [hd]; show (45 : Nat) ≠ UInt8.toNat 61; decide)
  have n62 : psTwo s a 62 = false := no_two hp (by decide) (by rw [hd]; show (45 : Nat) ≠ UInt8.toNat 62; decide)
  have hw0 : wrT 45 = ⟨#[]⟩ := by rw [wrT_p]; simp [wrO]
  have hrl : runeLen 45 = 1 := by decide +kernel
  rw [hrl] at hw
  obtain rfl : w = 1 := by omega
  simp [sgTk, psSign, n60, n61, n62, psPlain, hrl, sgX, hw0, sgLst, sgW]
theorem sgv42 (s : ByteArray) (pat : Bool) (a w : Nat) (hp : a < s.size) (hd : Utf8.decode s a = (42, w)) (hw : runeLen 42 = (w : Int)) : (match sgTk s pat a 42 with | .ok t => sgX s pat a 42 w = some (sgW t.what, if t.what = 0 ∨ t.what = 48 ∨ t.what = 97 then 0 else t.to - a) | .bad p er => p = a ∧ er = 5 ∧ sgX s pat a 42 w = none | .out => False) := by
  have n60 : psTwo s a 60 = false := no_two hp (by decide) (by rw [hd]; show (42 : Nat) ≠ UInt8.toNat 60; decide)
  have n61 : psTwo s a 61 = false := no_two hp (by decide) (by rw [hd]; show (42 : Nat) ≠ UInt8.toNat 61; decide)
  have n62 : psTwo s a 62 = false := no_two hp (by decide) (by rw [hd]; show (42 : Nat) ≠ UInt8.toNat 62; decide)
  have hw0 : wrT 42 = ⟨#[]⟩ := by rw [wrT_p]; simp [wrO]
  have hrl : runeLen 42 = 1 := by decide +kernel
  rw [hrl] at hw
  obtain rfl : w = 1 := by omega
  simp [sgTk, psSign, n60, n61, n62, psPlain, hrl, sgX, hw0, sgLst, sgW]
theorem sgv47 (s : ByteArray) (pat : Bool) (a w : Nat) (hp : a < s.size) (hd : Utf8.decode s a = (47, w)) (hw : runeLen 47 = (w : Int)) : (match sgTk s pat a 47 with | .ok t => sgX s pat a 47 w = some (sgW t.what, if t.what = 0 ∨ t.what = 48 ∨ t.what = 97 then 0 else t.to - a) | .bad p er => p = a ∧ er = 5 ∧ sgX s pat a 47 w = none | .out => False) := by
  have n60 : psTwo s a 60 = false := no_two hp (by decide) (by rw [hd]; show (47 : Nat) ≠ UInt8.toNat 60; decide)
  have n61 : psTwo s a 61 = false := no_two hp (by decide) (by rw [hd]; show (47 : Nat) ≠ UInt8.toNat 61; decide)
  have n62 : psTwo s a 62 = false := no_two hp (by decide) (by rw [hd]; show (47 : Nat) ≠ UInt8.toNat 62; decide)
  have hw0 : wrT 47 = ⟨#[]⟩ := by rw [wrT_p]; simp [wrO]
  have hrl : runeLen 47 = 1 := by decide +kernel
  rw [hrl] at hw
  obtain rfl : w = 1 := by omega
  simp [sgTk, psSign, n60, n61, n62, psPlain, hrl, sgX, hw0, sgLst, sgW]
theorem sgv37 (s : ByteArray) (pat : Bool) (a w : Nat) (hp : a < s.size) (hd : Utf8.decode s a = (37, w)) (hw : runeLen 37 = (w : Int)) : (match sgTk s pat a 37 with | .ok t => sgX s pat a 37 w = some (sgW t.what, if t.what = 0 ∨ t.what = 48 ∨ t.what = 97 then 0 else t.to - a) | .bad p er => p = a ∧ er = 5 ∧ sgX s pat a 37 w = none | .out => False) := by
  have n60 : psTwo s a 60 = false := no_two hp (by decide) (by rw [hd]; show (37 : Nat) ≠ UInt8.toNat 60; decide)
  have n61 : psTwo s a 61 = false := no_two hp (by decide) (by rw [hd]; show (37 : Nat) ≠ UInt8.toNat 61; decide)
  have n62 : psTwo s a 62 = false := no_two hp (by decide) (by rw [hd]; show (37 : Nat) ≠ UInt8.toNat 62; decide)
  have hw0 : wrT 37 = ⟨#[]⟩ := by rw [wrT_p]; simp [wrO]
  have hrl : runeLen 37 = 1 := by decide +kernel
  rw [hrl] at hw
  obtain rfl : w = 1 := by omega
  simp [sgTk, psSign, n60, n61, n62, psPlain, hrl, sgX, hw0, sgLst, sgW]
theorem sgv38 (s : ByteArray) (pat : Bool) (a w : Nat) (hp : a < s.size) (hd : Utf8.decode s a = (38, w)) (hw : runeLen 38 = (w : Int)) : (match sgTk s pat a 38 with | .ok t => sgX s pat a 38 w = some (sgW t.what, if t.what = 0 ∨ t.what = 48 ∨ t.what = 97 then 0 else t.to - a) | .bad p er => p = a ∧ er = 5 ∧ sgX s pat a 38 w = none | .out => False) := by
  have n60 : psTwo s a 60 = false := no_two hp (by decide) (by rw [hd]; show (38 : Nat) ≠ UInt8.toNat 60; decide)
  have n61 : psTwo s a 61 = false := no_two hp (by decide) (by rw [hd]; show (38 : Nat) ≠ UInt8.toNat 61; decide)
  have n62 : psTwo s a 62 = false := no_two hp (by decide) (by rw [hd]; show (38 : Nat) ≠ UInt8.toNat 62; decide)
  have hw0 : wrT 38 = ⟨#[]⟩ := by rw [wrT_p]; simp [wrO]
  have hrl : runeLen 38 = 1 := by decide +kernel
  rw [hrl] at hw
  obtain rfl : w = 1 := by omega
  simp [sgTk, psSign, n60, n61, n62, psPlain, hrl, sgX, hw0, sgLst, sgW]
theorem sgv124 (s : ByteArray) (pat : Bool) (a w : Nat) (hp : a < s.size) (hd : Utf8.decode s a = (124, w)) (hw : runeLen 124 = (w : Int)) : (match sgTk s pat a 124 with | .ok t => sgX s pat a 124 w = some (sgW t.what, if t.what = 0 ∨ t.what = 48 ∨ t.what = 97 then 0 else t.to - a) | .bad p er => p = a ∧ er = 5 ∧ sgX s pat a 124 w = none | .out => False) := by
  have n60 : psTwo s a 60 = false := no_two hp (by decide) (by rw [hd]; show (124 : Nat) ≠ UInt8.toNat 60; decide)
  have n61 : psTwo s a 61 = false := no_two hp (by decide) (by rw [hd]; show (124 : Nat) ≠ UInt8.toNat 61; decide)
  have n62 : psTwo s a 62 = false := no_two hp (by decide) (by rw [hd]; show (124 : Nat) ≠ UInt8.toNat 62; decide)
  have hw0 : wrT 124 = ⟨#[]⟩ := by rw [wrT_p]; simp [wrO]
  have hrl : runeLen 124 = 1 := by decide +kernel
  rw [hrl] at hw
  obtain rfl : w = 1 := by omega
  simp [sgTk, psSign, n60, n61, n62, psPlain, hrl, sgX, hw0, sgLst, sgW]
theorem sgv94 (s : ByteArray) (pat : Bool) (a w : Nat) (hp : a < s.size) (hd : Utf8.decode s a = (94, w)) (hw : runeLen 94 = (w : Int)) : (match sgTk s pat a 94 with | .ok t => sgX s pat a 94 w = some (sgW t.what, if t.what = 0 ∨ t.what = 48 ∨ t.what = 97 then 0 else t.to - a) | .bad p er => p = a ∧ er = 5 ∧ sgX s pat a 94 w = none | .out => False) := by
  have n60 : psTwo s a 60 = false := no_two hp (by decide) (by rw [hd]; show (94 : Nat) ≠ UInt8.toNat 60; decide)
  have n61 : psTwo s a 61 = false := no_two hp (by decide) (by rw [hd]; show (94 : Nat) ≠ UInt8.toNat 61; decide)
  have n62 : psTwo s a 62 = false := no_two hp (by decide) (by rw [hd]; show (94 : Nat) ≠ UInt8.toNat 62; decide)
  have hw0 : wrT 94 = ⟨#[]⟩ := by rw [wrT_p]; simp [wrO]
  have hrl : runeLen 94 = 1 := by decide +kernel
  rw [hrl] at hw
  obtain rfl : w = 1 := by omega
  simp [sgTk, psSign, n60, n61, n62, psPlain, hrl, sgX, hw0, sgLst, sgW]
theorem sgv126 (s : ByteArray) (pat : Bool) (a w : Nat) (hp : a < s.size) (hd : Utf8.decode s a = (126, w)) (hw : runeLen 126 = (w : Int)) : (match sgTk s pat a 126 with | .ok t => sgX s pat a 126 w = some (sgW t.what, if t.what = 0 ∨ t.what = 48 ∨ t.what = 97 then 0 else t.to - a) | .bad p er => p = a ∧ er = 5 ∧ sgX s pat a 126 w = none | .out => False) := by
  have n60 : psTwo s a 60 = false := no_two hp (by decide) (by rw [hd]; show (126 : Nat) ≠ UInt8.toNat 60; decide)
  have n61 : psTwo s a 61 = false := no_two hp (by decide) (by rw [hd]; show (126 : Nat) ≠ UInt8.toNat 61; decide)
  have n62 : psTwo s a 62 = false := no_two hp (by decide) (by rw [hd]; show (126 : Nat) ≠ UInt8.toNat 62; decide)
  have hw0 : wrT 126 = ⟨#[]⟩ := by rw [wrT_p]; simp [wrO]
  have hrl : runeLen 126 = 1 := by decide +kernel
  rw [hrl] at hw
  obtain rfl : w = 1 := by omega
  simp [sgTk, psSign, n60, n61, n62, psPlain, hrl, sgX, hw0, sgLst, sgW]
theorem sgv60 (s : ByteArray) (pat : Bool) (a w : Nat) (hp : a < s.size) (hd : Utf8.decode s a = (60, w)) (hw : runeLen 60 = (w : Int)) : (match sgTk s pat a 60 with | .ok t => sgX s pat a 60 w = some (sgW t.what, if t.what = 0 ∨ t.what = 48 ∨ t.what = 97 then 0 else t.to - a) | .bad p er => p = a ∧ er = 5 ∧ sgX s pat a 60 w = none | .out => False) := by
  have n61 : psTwo s a 61 = false := no_two hp (by decide) (by rw [hd]; show (60 : Nat) ≠ UInt8.toNat 61; decide)
  have n62 : psTwo s a 62 = false := no_two hp (by decide) (by rw [hd]; show (60 : Nat) ≠ UInt8.toNat 62; decide)
  have hw0 : wrT 60 = ⟨#[]⟩ := by rw [wrT_p]; simp [wrO]
  have hrl : runeLen 60 = 1 := by decide +kernel
  rw [hrl] at hw
  obtain rfl : w = 1 := by omega
  cases h2 : psTwo s a 60
  · simp [sgTk, psSign, n61, n62, h2, psPlain, hrl, sgX, hw0, sgLst, sgW]
  · have hx := two_is h2
    simp [sgTk, psSign, n61, n62, h2, sgX, hw0, hx, sgW]
theorem sgv62 (s : ByteArray) (pat : Bool) (a w : Nat) (hp : a < s.size) (hd : Utf8.decode s a = (62, w)) (hw : runeLen 62 = (w : Int)) : (match sgTk s pat a 62 with | .ok t => sgX s pat a 62 w = some (sgW t.what, if t.what = 0 ∨ t.what = 48 ∨ t.what = 97 then 0 else t.to - a) | .bad p er => p = a ∧ er = 5 ∧ sgX s pat a 62 w = none | .out => False) := by
  have n60 : psTwo s a 60 = false := no_two hp (by decide) (by rw [hd]; show (62 : Nat) ≠ UInt8.toNat 60; decide)
  have n61 : psTwo s a 61 = false := no_two hp (by decide) (by rw [hd]; show (62 : Nat) ≠ UInt8.toNat 61; decide)
  have hw0 : wrT 62 = ⟨#[]⟩ := by rw [wrT_p]; simp [wrO]
  have hrl : runeLen 62 = 1 := by decide +kernel
  rw [hrl] at hw
  obtain rfl : w = 1 := by omega
  cases h2 : psTwo s a 62
  · simp [sgTk, psSign, n60, n61, h2, sgX, hw0, sgLst]
  · have hx := two_is h2
    simp [sgTk, psSign, n60, n61, h2, sgX, hw0, hx, sgW]
theorem sgv61 (s : ByteArray) (pat : Bool) (a w : Nat) (hp : a < s.size) (hd : Utf8.decode s a = (61, w)) (hw : runeLen 61 = (w : Int)) : (match sgTk s pat a 61 with | .ok t => sgX s pat a 61 w = some (sgW t.what, if t.what = 0 ∨ t.what = 48 ∨ t.what = 97 then 0 else t.to - a) | .bad p er => p = a ∧ er = 5 ∧ sgX s pat a 61 w = none | .out => False) := by
  have n60 : psTwo s a 60 = false := no_two hp (by decide) (by rw [hd]; show (61 : Nat) ≠ UInt8.toNat 60; decide)
  have n62 : psTwo s a 62 = false := no_two hp (by decide) (by rw [hd]; show (61 : Nat) ≠ UInt8.toNat 62; decide)
  have hw0 : wrT 61 = ⟨#[]⟩ := by rw [wrT_p]; simp [wrO]
  have hrl : runeLen 61 = 1 := by decide +kernel
  rw [hrl] at hw
  obtain rfl : w = 1 := by omega
  cases h2 : psTwo s a 61
  · simp [sgTk, psSign, n60, n62, h2, sgX, hw0, sgLst]
  · have hx := two_is h2
    simp [sgTk, psSign, n60, n62, h2, sgX, hw0, hx, sgW]
theorem sgv63 (s : ByteArray) (pat : Bool) (a w : Nat) (hp : a < s.size) (hd : Utf8.decode s a = (63, w)) (hw : runeLen 63 = (w : Int)) : (match sgTk s pat a 63 with | .ok t => sgX s pat a 63 w = some (sgW t.what, if t.what = 0 ∨ t.what = 48 ∨ t.what = 97 then 0 else t.to - a) | .bad p er => p = a ∧ er = 5 ∧ sgX s pat a 63 w = none | .out => False) := by
  have n60 : psTwo s a 60 = false := no_two hp (by decide) (by rw [hd]; show (63 : Nat) ≠ UInt8.toNat 60; decide)
  have n61 : psTwo s a 61 = false := no_two hp (by decide) (by rw [hd]; show (63 : Nat) ≠ UInt8.toNat 61; decide)
  have n62 : psTwo s a 62 = false := no_two hp (by decide) (by rw [hd]; show (63 : Nat) ≠ UInt8.toNat 62; decide)
  have hw0 : wrT 63 = ⟨#[]⟩ := by rw [wrT_p]; simp [wrO]
  have hrl : runeLen 63 = 1 := by decide +kernel
  rw [hrl] at hw
  obtain rfl : w = 1 := by omega
  simp [sgTk, psSign, n60, n61, n62, psPlain, hrl, sgX, hw0, sgLst, sgW]
theorem sgv58 (s : ByteArray) (pat : Bool) (a w : Nat) (hp : a < s.size) (hd : Utf8.decode s a = (58, w)) (hw : runeLen 58 = (w : Int)) : (match sgTk s pat a 58 with | .ok t => sgX s pat a 58 w = some (sgW t.what, if t.what = 0 ∨ t.what = 48 ∨ t.what = 97 then 0 else t.to - a) | .bad p er => p = a ∧ er = 5 ∧ sgX s pat a 58 w = none | .out => False) := by
  have n60 : psTwo s a 60 = false := no_two hp (by decide) (by rw [hd]; show (58 : Nat) ≠ UInt8.toNat 60; decide)
  have n61 : psTwo s a 61 = false := no_two hp (by decide) (by rw [hd]; show (58 : Nat) ≠ UInt8.toNat 61; decide)
  have n62 : psTwo s a 62 = false := no_two hp (by decide) (by rw [hd]; show (58 : Nat) ≠ UInt8.toNat 62; decide)
  have hw0 : wrT 58 = ⟨#[]⟩ := by rw [wrT_p]; simp [wrO]
  have hrl : runeLen 58 = 1 := by decide +kernel
  rw [hrl] at hw
  obtain rfl : w = 1 := by omega
  simp [sgTk, psSign, n60, n61, n62, psPlain, hrl, sgX, hw0, sgLst, sgW]
theorem sgv59 (s : ByteArray) (pat : Bool) (a w : Nat) (hp : a < s.size) (hd : Utf8.decode s a = (59, w)) (hw : runeLen 59 = (w : Int)) : (match sgTk s pat a 59 with | .ok t => sgX s pat a 59 w = some (sgW t.what, if t.what = 0 ∨ t.what = 48 ∨ t.what = 97 then 0 else t.to - a) | .bad p er => p = a ∧ er = 5 ∧ sgX s pat a 59 w = none | .out => False) := by
  have n60 : psTwo s a 60 = false := no_two hp (by decide) (by rw [hd]; show (59 : Nat) ≠ UInt8.toNat 60; decide)
  have n61 : psTwo s a 61 = false := no_two hp (by decide) (by rw [hd]; show (59 : Nat) ≠ UInt8.toNat 61; decide)
  have n62 : psTwo s a 62 = false := no_two hp (by decide) (by rw [hd]; show (59 : Nat) ≠ UInt8.toNat 62; decide)
  have hw0 : wrT 59 = ⟨#[]⟩ := by rw [wrT_p]; simp [wrO]
  have hrl : runeLen 59 = 1 := by decide +kernel
  rw [hrl] at hw
  obtain rfl : w = 1 := by omega
  simp [sgTk, psSign, n60, n61, n62, sgX, hw0, sgLst]
theorem sgv44 (s : ByteArray) (pat : Bool) (a w : Nat) (hp : a < s.size) (hd : Utf8.decode s a = (44, w)) (hw : runeLen 44 = (w : Int)) : (match sgTk s pat a 44 with | .ok t => sgX s pat a 44 w = some (sgW t.what, if t.what = 0 ∨ t.what = 48 ∨ t.what = 97 then 0 else t.to - a) | .bad p er => p = a ∧ er = 5 ∧ sgX s pat a 44 w = none | .out => False) := by
  have n60 : psTwo s a 60 = false := no_two hp (by decide) (by rw [hd]; show (44 : Nat) ≠ UInt8.toNat 60; decide)
  have n61 : psTwo s a 61 = false := no_two hp (by decide) (by rw [hd]; show (44 : Nat) ≠ UInt8.toNat 61; decide)
  have n62 : psTwo s a 62 = false := no_two hp (by decide) (by rw [hd]; show (44 : Nat) ≠ UInt8.toNat 62; decide)
  have hw0 : wrT 44 = ⟨#[]⟩ := by rw [wrT_p]; simp [wrO]
  have hrl : runeLen 44 = 1 := by decide +kernel
  rw [hrl] at hw
  obtain rfl : w = 1 := by omega
  simp [sgTk, psSign, n60, n61, n62, sgX, hw0, sgLst]
theorem sgv64 (s : ByteArray) (pat : Bool) (a w : Nat) (hp : a < s.size) (hd : Utf8.decode s a = (64, w)) (hw : runeLen 64 = (w : Int)) : (match sgTk s pat a 64 with | .ok t => sgX s pat a 64 w = some (sgW t.what, if t.what = 0 ∨ t.what = 48 ∨ t.what = 97 then 0 else t.to - a) | .bad p er => p = a ∧ er = 5 ∧ sgX s pat a 64 w = none | .out => False) := by
  have n60 : psTwo s a 60 = false := no_two hp (by decide) (by rw [hd]; show (64 : Nat) ≠ UInt8.toNat 60; decide)
  have n61 : psTwo s a 61 = false := no_two hp (by decide) (by rw [hd]; show (64 : Nat) ≠ UInt8.toNat 61; decide)
  have n62 : psTwo s a 62 = false := no_two hp (by decide) (by rw [hd]; show (64 : Nat) ≠ UInt8.toNat 62; decide)
  have hw0 : wrT 64 = ⟨#[]⟩ := by rw [wrT_p]; simp [wrO]
  have hrl : runeLen 64 = 1 := by decide +kernel
  rw [hrl] at hw
  obtain rfl : w = 1 := by omega
  cases pat <;> simp [sgTk, psSign, n60, n61, n62, psPlain, hrl, sgX, hw0, sgLst, sgW]
  decide +kernel
theorem sgv172 (s : ByteArray) (pat : Bool) (a w : Nat) (hp : a < s.size) (hd : Utf8.decode s a = (172, w)) (hw : runeLen 172 = (w : Int)) : (match sgTk s pat a 172 with | .ok t => sgX s pat a 172 w = some (sgW t.what, if t.what = 0 ∨ t.what = 48 ∨ t.what = 97 then 0 else t.to - a) | .bad p er => p = a ∧ er = 5 ∧ sgX s pat a 172 w = none | .out => False) := by
  have n60 : psTwo s a 60 = false := no_two hp (by decide) (by rw [hd]; show (172 : Nat) ≠ UInt8.toNat 60; decide)
  have n61 : psTwo s a 61 = false := no_two hp (by decide) (by rw [hd]; show (172 : Nat) ≠ UInt8.toNat 61; decide)
  have n62 : psTwo s a 62 = false := no_two hp (by decide) (by rw [hd]; show (172 : Nat) ≠ UInt8.toNat 62; decide)
  have hw0 : wrT 172 = Utf8.encode 126 := by rw [wrT_p]; simp [wrO]
  have hrl : runeLen 172 = 2 := by decide +kernel
  rw [hrl] at hw
  obtain rfl : w = 2 := by omega
  have hne : Utf8.encode 126 ≠ ⟨#[]⟩ := by decide +kernel
  simp [sgTk, psSign, n60, n61, n62, psPlain, hrl, sgX, hw0, hne, sgW]
theorem sgv183 (s : ByteArray) (pat : Bool) (a w : Nat) (hp : a < s.size) (hd : Utf8.decode s a = (183, w)) (hw : runeLen 183 = (w : Int)) : (match sgTk s pat a 183 with | .ok t => sgX s pat a 183 w = some (sgW t.what, if t.what = 0 ∨ t.what = 48 ∨ t.what = 97 then 0 else t.to - a) | .bad p er => p = a ∧ er = 5 ∧ sgX s pat a 183 w = none | .out => False) := by
  have n60 : psTwo s a 60 = false := no_two hp (by decide) (by rw [hd]; show (183 : Nat) ≠ UInt8.toNat 60; decide)
  have n61 : psTwo s a 61 = false := no_two hp (by decide) (by rw [hd]; show (183 : Nat) ≠ UInt8.toNat 61; decide)
  have n62 : psTwo s a 62 = false := no_two hp (by decide) (by rw [hd]; show (183 : Nat) ≠ UInt8.toNat 62; decide)
  have hw0 : wrT 183 = Utf8.encode 42 := by rw [wrT_p]; simp [wrO]
  have hrl : runeLen 183 = 2 := by decide +kernel
  rw [hrl] at hw
  obtain rfl : w = 2 := by omega
  have hne : Utf8.encode 42 ≠ ⟨#[]⟩ := by decide +kernel
  simp [sgTk, psSign, n60, n61, n62, psPlain, hrl, sgX, hw0, hne, sgW]
theorem sgv215 (s : ByteArray) (pat : Bool) (a w : Nat) (hp : a < s.size) (hd : Utf8.decode s a = (215, w)) (hw : runeLen 215 = (w : Int)) : (match sgTk s pat a 215 with | .ok t => sgX s pat a 215 w = some (sgW t.what, if t.what = 0 ∨ t.what = 48 ∨ t.what = 97 then 0 else t.to - a) | .bad p er => p = a ∧ er = 5 ∧ sgX s pat a 215 w = none | .out => False) := by
  have n60 : psTwo s a 60 = false := no_two hp (by decide) (by rw [hd]; show (215 : Nat) ≠ UInt8.toNat 60; decide)
  have n61 : psTwo s a 61 = false := no_two hp (by decide) (by rw [hd]; show (215 : Nat) ≠ UInt8.toNat 61; decide)
  have n62 : psTwo s a 62 = false := no_two hp (by decide) (by rw [hd]; show (215 : Nat) ≠ UInt8.toNat 62; decide)
  have hw0 : wrT 215 = Utf8.encode 42 := by rw [wrT_p]; simp [wrO]
  have hrl : runeLen 215 = 2 := by decide +kernel
  rw [hrl] at hw
  obtain rfl : w = 2 := by omega
  have hne : Utf8.encode 42 ≠ ⟨#[]⟩ := by decide +kernel
  simp [sgTk, psSign, n60, n61, n62, psPlain, hrl, sgX, hw0, hne, sgW]
theorem sgv247 (s : ByteArray) (pat : Bool) (a w : Nat) (hp : a < s.size) (hd : Utf8.decode s a = (247, w)) (hw : runeLen 247 = (w : Int)) : (match sgTk s pat a 247 with | .ok t => sgX s pat a 247 w = some (sgW t.what, if t.what = 0 ∨ t.what = 48 ∨ t.what = 97 then 0 else t.to - a) | .bad p er => p = a ∧ er = 5 ∧ sgX s pat a 247 w = none | .out => False) := by
  have n60 : psTwo s a 60 = false := no_two hp (by decide) (by rw [hd]; show (247 : Nat) ≠ UInt8.toNat 60; decide)
  have n61 : psTwo s a 61 = false := no_two hp (by decide) (by rw [hd]; show (247 : Nat) ≠ UInt8.toNat 61; decide)
  have n62 : psTwo s a 62 = false := no_two hp (by decide) (by rw [hd]; show (247 : Nat) ≠ UInt8.toNat 62; decide)
  have hw0 : wrT 247 = Utf8.encode 47 := by rw [wrT_p]; simp [wrO]
  have hrl : runeLen 247 = 2 := by decide +kernel
  rw [hrl] at hw
  obtain rfl : w = 2 := by omega
  have hne : Utf8.encode 47 ≠ ⟨#[]⟩ := by decide +kernel
  simp [sgTk, psSign, n60, n61, n62, psPlain, hrl, sgX, hw0, hne, sgW]
theorem sgv8722 (s : ByteArray) (pat : Bool) (a w : Nat) (hp : a < s.size) (hd : Utf8.decode s a = (8722, w)) (hw : runeLen 8722 = (w : Int)) : (match sgTk s pat a 8722 with | .ok t => sgX s pat a 8722 w = some (sgW t.what, if t.what = 0 ∨ t.what = 48 ∨ t.what = 97 then 0 else t.to - a) | .bad p er => p = a ∧ er = 5 ∧ sgX s pat a 8722 w = none | .out => False) := by
  have n60 : psTwo s a 60 = false := no_two hp (by decide) (by rw [hd]; show (8722 : Nat) ≠ UInt8.toNat 60; decide)
  have n61 : psTwo s a 61 = false := no_two hp (by decide) (by rw [hd]; show (8722 : Nat) ≠ UInt8.toNat 61; decide)
  have n62 : psTwo s a 62 = false := no_two hp (by decide) (by rw [hd]; show (8722 : Nat) ≠ UInt8.toNat 62; decide)
  have hw0 : wrT 8722 = Utf8.encode 45 := by rw [wrT_p]; simp [wrO]
  have hrl : runeLen 8722 = 3 := by decide +kernel
  rw [hrl] at hw
  obtain rfl : w = 3 := by omega
  have hne : Utf8.encode 45 ≠ ⟨#[]⟩ := by decide +kernel
  simp [sgTk, psSign, n60, n61, n62, psPlain, hrl, sgX, hw0, hne, sgW]
theorem sgv8743 (s : ByteArray) (pat : Bool) (a w : Nat) (hp : a < s.size) (hd : Utf8.decode s a = (8743, w)) (hw : runeLen 8743 = (w : Int)) : (match sgTk s pat a 8743 with | .ok t => sgX s pat a 8743 w = some (sgW t.what, if t.what = 0 ∨ t.what = 48 ∨ t.what = 97 then 0 else t.to - a) | .bad p er => p = a ∧ er = 5 ∧ sgX s pat a 8743 w = none | .out => False) := by
  have n60 : psTwo s a 60 = false := no_two hp (by decide) (by rw [hd]; show (8743 : Nat) ≠ UInt8.toNat 60; decide)
  have n61 : psTwo s a 61 = false := no_two hp (by decide) (by rw [hd]; show (8743 : Nat) ≠ UInt8.toNat 61; decide)
  have n62 : psTwo s a 62 = false := no_two hp (by decide) (by rw [hd]; show (8743 : Nat) ≠ UInt8.toNat 62; decide)
  have hw0 : wrT 8743 = Utf8.encode 38 := by rw [wrT_p]; simp [wrO]
  have hrl : runeLen 8743 = 3 := by decide +kernel
  rw [hrl] at hw
  obtain rfl : w = 3 := by omega
  have hne : Utf8.encode 38 ≠ ⟨#[]⟩ := by decide +kernel
  simp [sgTk, psSign, n60, n61, n62, psPlain, hrl, sgX, hw0, hne, sgW]
theorem sgv8744 (s : ByteArray) (pat : Bool) (a w : Nat) (hp : a < s.size) (hd : Utf8.decode s a = (8744, w)) (hw : runeLen 8744 = (w : Int)) : (match sgTk s pat a 8744 with | .ok t => sgX s pat a 8744 w = some (sgW t.what, if t.what = 0 ∨ t.what = 48 ∨ t.what = 97 then 0 else t.to - a) | .bad p er => p = a ∧ er = 5 ∧ sgX s pat a 8744 w = none | .out => False) := by
  have n60 : psTwo s a 60 = false := no_two hp (by decide) (by rw [hd]; show (8744 : Nat) ≠ UInt8.toNat 60; decide)
  have n61 : psTwo s a 61 = false := no_two hp (by decide) (by rw [hd]; show (8744 : Nat) ≠ UInt8.toNat 61; decide)
  have n62 : psTwo s a 62 = false := no_two hp (by decide) (by rw [hd]; show (8744 : Nat) ≠ UInt8.toNat 62; decide)
  have hw0 : wrT 8744 = Utf8.encode 124 := by rw [wrT_p]; simp [wrO]
  have hrl : runeLen 8744 = 3 := by decide +kernel
  rw [hrl] at hw
  obtain rfl : w = 3 := by omega
  have hne : Utf8.encode 124 ≠ ⟨#[]⟩ := by decide +kernel
  simp [sgTk, psSign, n60, n61, n62, psPlain, hrl, sgX, hw0, hne, sgW]
theorem sgv8801 (s : ByteArray) (pat : Bool) (a w : Nat) (hp : a < s.size) (hd : Utf8.decode s a = (8801, w)) (hw : runeLen 8801 = (w : Int)) : (match sgTk s pat a 8801 with | .ok t => sgX s pat a 8801 w = some (sgW t.what, if t.what = 0 ∨ t.what = 48 ∨ t.what = 97 then 0 else t.to - a) | .bad p er => p = a ∧ er = 5 ∧ sgX s pat a 8801 w = none | .out => False) := by
  have n60 : psTwo s a 60 = false := no_two hp (by decide) (by rw [hd]; show (8801 : Nat) ≠ UInt8.toNat 60; decide)
  have n61 : psTwo s a 61 = false := no_two hp (by decide) (by rw [hd]; show (8801 : Nat) ≠ UInt8.toNat 61; decide)
  have n62 : psTwo s a 62 = false := no_two hp (by decide) (by rw [hd]; show (8801 : Nat) ≠ UInt8.toNat 62; decide)
  have hw0 : wrT 8801 = ⟨#[61, 61]⟩ := by rw [wrT_p]; simp [wrO]
  have hrl : runeLen 8801 = 3 := by decide +kernel
  rw [hrl] at hw
  obtain rfl : w = 3 := by omega
  simp [sgTk, psSign, n60, n61, n62, psPlain, hrl, sgX, hw0, sgW]
theorem sgv8810 (s : ByteArray) (pat : Bool) (a w : Nat) (hp : a < s.size) (hd : Utf8.decode s a = (8810, w)) (hw : runeLen 8810 = (w : Int)) : (match sgTk s pat a 8810 with | .ok t => sgX s pat a 8810 w = some (sgW t.what, if t.what = 0 ∨ t.what = 48 ∨ t.what = 97 then 0 else t.to - a) | .bad p er => p = a ∧ er = 5 ∧ sgX s pat a 8810 w = none | .out => False) := by
  have n60 : psTwo s a 60 = false := no_two hp (by decide) (by rw [hd]; show (8810 : Nat) ≠ UInt8.toNat 60; decide)
  have n61 : psTwo s a 61 = false := no_two hp (by decide) (by rw [hd]; show (8810 : Nat) ≠ UInt8.toNat 61; decide)
  have n62 : psTwo s a 62 = false := no_two hp (by decide) (by rw [hd]; show (8810 : Nat) ≠ UInt8.toNat 62; decide)
  have hw0 : wrT 8810 = ⟨#[60, 60]⟩ := by rw [wrT_p]; simp [wrO]
  have hrl : runeLen 8810 = 3 := by decide +kernel
  rw [hrl] at hw
  obtain rfl : w = 3 := by omega
  simp [sgTk, psSign, n60, n61, n62, psPlain, hrl, sgX, hw0, sgW]
theorem sgv8811 (s : ByteArray) (pat : Bool) (a w : Nat) (hp : a < s.size) (hd : Utf8.decode s a = (8811, w)) (hw : runeLen 8811 = (w : Int)) : (match sgTk s pat a 8811 with | .ok t => sgX s pat a 8811 w = some (sgW t.what, if t.what = 0 ∨ t.what = 48 ∨ t.what = 97 then 0 else t.to - a) | .bad p er => p = a ∧ er = 5 ∧ sgX s pat a 8811 w = none | .out => False) := by
  have n60 : psTwo s a 60 = false := no_two hp (by decide) (by rw [hd]; show (8811 : Nat) ≠ UInt8.toNat 60; decide)
  have n61 : psTwo s a 61 = false := no_two hp (by decide) (by rw [hd]; show (8811 : Nat) ≠ UInt8.toNat 61; decide)
  have n62 : psTwo s a 62 = false := no_two hp (by decide) (by rw [hd]; show (8811 : Nat) ≠ UInt8.toNat 62; decide)
  have hw0 : wrT 8811 = ⟨#[62, 62]⟩ := by rw [wrT_p]; simp [wrO]
  have hrl : runeLen 8811 = 3 := by decide +kernel
  rw [hrl] at hw
  obtain rfl : w = 3 := by omega
  simp [sgTk, psSign, n60, n61, n62, psPlain, hrl, sgX, hw0, sgW]
theorem sgv8853 (s : ByteArray) (pat : Bool) (a w : Nat) (hp : a < s.size) (hd : Utf8.decode s a = (8853, w)) (hw : runeLen 8853 = (w : Int)) : (match sgTk s pat a 8853 with | .ok t => sgX s pat a 8853 w = some (sgW t.what, if t.what = 0 ∨ t.what = 48 ∨ t.what = 97 then 0 else t.to - a) | .bad p er => p = a ∧ er = 5 ∧ sgX s pat a 8853 w = none | .out => False) := by
  have n60 : psTwo s a 60 = false := no_two hp (by decide) (by rw [hd]; show (8853 : Nat) ≠ UInt8.toNat 60; decide)
  have n61 : psTwo s a 61 = false := no_two hp (by decide) (by rw [hd]; show (8853 : Nat) ≠ UInt8.toNat 61; decide)
  have n62 : psTwo s a 62 = false := no_two hp (by decide) (by rw [hd]; show (8853 : Nat) ≠ UInt8.toNat 62; decide)
  have hw0 : wrT 8853 = Utf8.encode 94 := by rw [wrT_p]; simp [wrO]
  have hrl : runeLen 8853 = 3 := by decide +kernel
  rw [hrl] at hw
  obtain rfl : w = 3 := by omega
  have hne : Utf8.encode 94 ≠ ⟨#[]⟩ := by decide +kernel
  simp [sgTk, psSign, n60, n61, n62, psPlain, hrl, sgX, hw0, hne, sgW]

/-- For every place: the reader's sign is the parser's token. -/
theorem sg_from (s : ByteArray) (pat : Bool) (m a : Nat) : SgIs s pat a (psFrom s pat m a) := by
  unfold psFrom
  by_cases hp : a < s.size
  · rw [if_pos hp]
    have hk := kd_rn s a hp
    unfold psAt
    by_cases k1 : kd (Utf8.decode s a).1 = 1
    · rw [if_pos k1]
      show sgR s pat a = some (sgW 97, _)
      unfold sgR
      rw [if_pos (.inr (.inl (hk.trans k1)))]
      rfl
    · rw [if_neg k1]
      by_cases k2 : kd (Utf8.decode s a).1 = 2
      · rw [if_pos k2]
        show sgR s pat a = some (sgW 48, _)
        unfold sgR
        rw [if_pos (.inr (.inr (hk.trans k2)))]
        rfl
      · rw [if_neg k2]
        have hR := sgR_in (pat := pat) hp (by rw [hk]; exact k1) (by rw [hk]; exact k2)
        by_cases k4 : kd (Utf8.decode s a).1 = 4
        · have hb : bad s a = false := by
            cases hb : bad s a
            · rfl
            · rw [bad_eq hb] at k4
              exact absurd k4 kd_bad
          have hrn : rn s a = ((Utf8.decode s a).1 : Int) := by unfold rn; rw [if_pos hp, hb]; rfl
          have hwd : wd s a = (Utf8.decode s a).2 := by unfold wd; rw [hb]; rfl
          have hlen := len_dec s a hp k4
          have hmem := kd4 k4
          rw [hrn, hwd] at hR
          have hT : (if kd (Utf8.decode s a).1 = 4 ∧ 0 < (psSign s pat a (Utf8.decode s a).1).2 then Pr.ok (⟨(psSign s pat a (Utf8.decode s a).1).1, a, a + (psSign s pat a (Utf8.decode s a).1).2.toNat, 0, 0⟩ : Tk) else .bad a 5) = sgTk s pat a (Utf8.decode s a).1 := by
            unfold sgTk
            by_cases h0 : 0 < (psSign s pat a (Utf8.decode s a).1).2
            · rw [if_pos ⟨k4, h0⟩, if_pos h0]
            · rw [if_neg (fun h => h0 h.2), if_neg h0]
          rw [hT]
          clear hT hk k1 k2 k4 hb hrn hwd
          unfold SgIs
          rw [hR]
          clear hR
          obtain ⟨r, v, hd⟩ : ∃ r v, Utf8.decode s a = (r, v) := ⟨_, _, rfl⟩
          rw [hd] at hlen hmem ⊢
          simp only at hlen hmem ⊢
          simp only [signList, List.mem_cons, List.not_mem_nil, or_false] at hmem
          rcases hmem with h | h | h | h | h | h | h | h | h | h | h | h | h | h | h | h | h | h | h | h | h | h | h | h | h | h | h | h | h | h
          · obtain rfl : r = 40 := by omega
            exact sgv40 s pat a v hp hd hlen
          · obtain rfl : r = 41 := by omega
            exact sgv41 s pat a v hp hd hlen
          · obtain rfl : r = 43 := by omega
            exact sgv43 s pat a v hp hd hlen
          · obtain rfl : r = 45 := by omega
            exact sgv45 s pat a v hp hd hlen
          · obtain rfl : r = 42 := by omega
            exact sgv42 s pat a v hp hd hlen
          · obtain rfl : r = 47 := by omega
            exact sgv47 s pat a v hp hd hlen
          · obtain rfl : r = 37 := by omega
            exact sgv37 s pat a v hp hd hlen
          · obtain rfl : r = 38 := by omega
            exact sgv38 s pat a v hp hd hlen
          · obtain rfl : r = 124 := by omega
            exact sgv124 s pat a v hp hd hlen
          · obtain rfl : r = 94 := by omega
            exact sgv94 s pat a v hp hd hlen
          · obtain rfl : r = 126 := by omega
            exact sgv126 s pat a v hp hd hlen
          · obtain rfl : r = 60 := by omega
            exact sgv60 s pat a v hp hd hlen
          · obtain rfl : r = 62 := by omega
            exact sgv62 s pat a v hp hd hlen
          · obtain rfl : r = 61 := by omega
            exact sgv61 s pat a v hp hd hlen
          · obtain rfl : r = 63 := by omega
            exact sgv63 s pat a v hp hd hlen
          · obtain rfl : r = 58 := by omega
            exact sgv58 s pat a v hp hd hlen
          · obtain rfl : r = 59 := by omega
            exact sgv59 s pat a v hp hd hlen
          · obtain rfl : r = 44 := by omega
            exact sgv44 s pat a v hp hd hlen
          · obtain rfl : r = 64 := by omega
            exact sgv64 s pat a v hp hd hlen
          · obtain rfl : r = 172 := by omega
            exact sgv172 s pat a v hp hd hlen
          · obtain rfl : r = 183 := by omega
            exact sgv183 s pat a v hp hd hlen
          · obtain rfl : r = 215 := by omega
            exact sgv215 s pat a v hp hd hlen
          · obtain rfl : r = 247 := by omega
            exact sgv247 s pat a v hp hd hlen
          · obtain rfl : r = 8722 := by omega
            exact sgv8722 s pat a v hp hd hlen
          · obtain rfl : r = 8743 := by omega
            exact sgv8743 s pat a v hp hd hlen
          · obtain rfl : r = 8744 := by omega
            exact sgv8744 s pat a v hp hd hlen
          · obtain rfl : r = 8801 := by omega
            exact sgv8801 s pat a v hp hd hlen
          · obtain rfl : r = 8810 := by omega
            exact sgv8810 s pat a v hp hd hlen
          · obtain rfl : r = 8811 := by omega
            exact sgv8811 s pat a v hp hd hlen
          · obtain rfl : r = 8853 := by omega
            exact sgv8853 s pat a v hp hd hlen
        · rw [if_neg (fun h => k4 h.1)]
          have kc : kd (rn s a) ≠ 4 := by rw [hk]; exact k4
          have n : ∀ v ∈ signList, rn s a ≠ v := fun v hv e => kc (e ▸ kd4_all v hv)
          have tw : ∀ c : UInt8, c.toNat < 128 → kd ((c.toNat : Nat) : Int) = 4 → psTwo s a c = false := fun c hc h4 => no_two hp hc (fun e => k4 (by rw [e]; exact h4))
          refine ⟨rfl, rfl, ?_⟩
          rw [hR]
          unfold sgX
          rw [if_neg (by rw [wrT_no kc]; simp), tw 60 (by decide) (kd4_all 60 (by decide)), tw 61 (by decide) (kd4_all 61 (by decide)), tw 62 (by decide) (kd4_all 62 (by decide))]
          have na : sgLst.any (· == rn s a) = false := by
            rw [List.any_eq_false]
            intro x hx
            have : x ∈ signList := by
              revert x
              decide
            simpa using fun e => n x this e.symm
          rw [na]
          have n64 := n 64 (by decide)
          simp [n64]
  · rw [if_neg hp]
    show sgR s pat a = some (sgW 0, _)
    unfold sgR
    rw [if_pos (.inl hp)]
    rfl
end Go.Proofs.YtjmccobblpcbhaaDoor
