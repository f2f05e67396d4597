/-
  NmPure, ShPure, CntW, ExMakW, ExDecPure, PaP.
-/
import Derived.Shelf.Unicode.DecodeSlow
import Derived.Laws.RangeAny
import Derived.Shelf.Strconv.Itoa0
import Derived.Shelf.Unicode.DecodeAny
import Derived.Test.YtfdghbbanokopaaDoorProg
import Derived.WalkKit
import Derived.Deep.DeepFit
import Derived.Lib.OthersKept
import Derived.Lib.RuneCountTail
import Derived.Deep.AppendLies
import Derived.Deep.OwnRows
import Derived.Laws.AppendOwnNone
import Derived.Deep.QuietTactic
import Derived.BigQuiet
import Derived.Deep.RegionWith
import Derived.Laws.DeepStrings4
import Derived.Lib.MapLaws
import Derived.Sort.Walk0
import Derived.Lib.ItoaNum
import Derived.Maps.OwnSet
import Derived.StringKeys
import Derived.Test.YtfdghbbanokopaaDoorG01
import Derived.Test.YtfdghbbanokopaaDoorG02
import Derived.Test.YtfdghbbanokopaaDoorG03
import Derived.Test.YtfdghbbanokopaaDoorG04
import Derived.Test.YtfdghbbanokopaaDoorG05
import Derived.Test.YtfdghbbanokopaaDoorG06
import Derived.Test.YtfdghbbanokopaaDoorG17
set_option linter.unusedSimpArgs false
set_option linter.unusedVariables false
namespace Go.Proofs.YtfdghbbanokopaaDoor
open Go.Lib

/-! ### names -/
theorem nmF_chk (s : ByteArray) : ∀ (f pos n : Nat), nmF s f pos n = true → (chkF s f pos).2 = 0
  | 0, pos, n, h => rfl
  | f + 1, pos, n, h => by
    by_cases hp : pos < s.size
    · rw [nmF_step s f pos n hp] at h
      unfold nmS at h
      split at h
      · simp at h
      · rename_i hk
        have ho : onB (Utf8.decode s pos).1 = true := by
          cases hq : onB (Utf8.decode s pos).1 with
          | true => rfl
          | false => simp [hq] at hk
        rw [chkF_good s f pos hp (good_of_on s pos ho)]
        exact nmF_chk s f _ _ h
    · rw [chkF_end s _ pos hp]
theorem name_chk (s : ByteArray) (h : nameB s = true) : (chk s).2 = 0 := nmF_chk s _ _ _ h
theorem empty_chk (s : ByteArray) (h : s.toList.isEmpty = true) : (chk s).2 = 0 := by
  rw [toList_data] at h
  have hz : s.size = 0 := by
    have : s.data.toList = [] := by simpa using h
    show s.data.size = 0
    rw [← Array.length_toList, this]; rfl
  unfold chk
  rw [chkF_end s _ 0 (by omega)]

theorem nmF_size (s : ByteArray) : ∀ (f pos n : Nat), s.size ≤ pos + f → nmF s f pos n = true → s.size ≤ pos + 4 * (16 - n)
  | 0, pos, n, hf, h => by omega
  | f + 1, pos, n, hf, h => by
    by_cases hp : pos < s.size
    · have hw := width_pos s pos hp
      have hw4 : (Utf8.decode s pos).2 ≤ 4 := by
        rw [decode_at s pos]; exact (decodeN_width _ _ _ _ _).2
      have hn : n < 16 := by
        by_cases hn : 16 ≤ n
        · exfalso
          rw [nmF_step s f pos n hp] at h
          unfold nmS at h
          split at h
          · simp at h
          · rw [nmF_long s f _ (n + 1) (by omega)] at h; simp at h
        · omega
      rw [nmF_step s f pos n hp] at h
      unfold nmS at h
      split at h
      · simp at h
      · have := nmF_size s f _ _ (by omega) h
        omega
    · omega
theorem name_size (s : ByteArray) (h : nameB s = true) : s.size ≤ 64 := by
  have := nmF_size s s.size 0 0 (by omega) h
  omega

theorem form_name {x : Nd} (h : formB x = true) : (chk x.name).2 = 0 ∧ x.name.size ≤ 64 := by
  unfold formB fitB at h
  simp only [Bool.and_eq_true] at h
  obtain ⟨_, h⟩ := h
  split at h
  · exact ⟨name_chk _ h, name_size _ h⟩
  · refine ⟨empty_chk _ h, ?_⟩
    rw [toList_data] at h
    have : x.name.data.toList = [] := by simpa using h
    show x.name.data.size ≤ 64
    rw [← Array.length_toList, this]; simp
theorem form_len {x y : Nd} (hx : formB x = true) (hy : formB y = true) (h : x.op = y.op) : x.kids.length = y.kids.length := by
  unfold formB fitB at hx hy
  simp only [Bool.and_eq_true, decide_eq_true_eq] at hx hy
  rw [h] at hx
  omega
theorem name_eq {a b : ByteArray} (ha : (chk a).2 = 0) (hb : (chk b).2 = 0) (h : ordI a b = 0) : a = b := by
  have := eq_good a b ha hb
  rw [h] at this
  simp only [decide_true, beq_iff_eq, toList_data] at this
  exact ByteArray.ext (Array.ext' this)

end Go.Proofs.YtfdghbbanokopaaDoor

set_option linter.unusedSimpArgs false
set_option linter.unusedVariables false
namespace Go.Proofs.YtfdghbbanokopaaDoor
open Go.Lib

def txt (l : List UInt8) : ByteArray := ⟨l.toArray⟩
/-! ### soundness -/
def fillN (x : Nd) : Nd := if x.op = 18 then { x with op := 2 } else x
def addNm (acc : List ByteArray) (x : Nd) : List ByteArray := if x.op = 18 then (if acc.any (fun y => decide (y = x.name)) = true then acc else acc ++ [x.name]) else acc
def hlsL (l : List Nd) : List ByteArray := l.foldl addNm []
theorem hlsL_snoc (l : List Nd) (x : Nd) : hlsL (l ++ [x]) = addNm (hlsL l) x := by simp [hlsL]
theorem addNm_len (acc : List ByteArray) (x : Nd) : (addNm acc x).length ≤ acc.length + 1 := by
  unfold addNm; split
  · split <;> simp
  · omega
theorem foldl_addNm_len : ∀ (l : List Nd) (acc : List ByteArray), (l.foldl addNm acc).length ≤ acc.length + l.length
  | [], acc => by simp
  | x :: l, acc => by
    have := foldl_addNm_len l (addNm acc x)
    have := addNm_len acc x
    simp; omega
theorem hlsL_len (l : List Nd) : (hlsL l).length ≤ l.length := by have := foldl_addNm_len l []; simpa [hlsL] using this
/-! ### texts -/
/-! ### the whole -/
def pt0 : Nd × ByteArray := (nd0, ⟨#[]⟩)
/-! ### sizes -/
/-- How much of the list a node's text may take. -/
def wgt (fr : List Nat) (k : Nat) : Nat := k + 1 - fr.getD k 0
def TlOk (fr : List Nat) (told : List (Nd × ByteArray)) : Prop := ∀ i, i < told.length → (told.getD i pt0).2.size ≤ 100 * wgt fr i
theorem TlOk.snoc {fr : List Nat} {told : List (Nd × ByteArray)} {x : Nd} {s : ByteArray} (hT : TlOk fr told) (hs : s.size ≤ 100 * wgt fr told.length) : TlOk fr (told ++ [(x, s)]) := by
  intro i hi
  simp only [List.length_append, List.length_cons, List.length_nil] at hi
  by_cases h : i < told.length
  · have := hT i h
    simpa [List.getElem?_append_left h] using this
  · have : i = told.length := by omega
    subst this
    simpa using hs
end Go.Proofs.YtfdghbbanokopaaDoor

set_option linter.unusedSimpArgs false
set_option linter.unusedVariables false
namespace Go.Proofs.YtfdghbbanokopaaDoor
open Go.RowKit Go.Lib Go.Maps

theorem cntLaw : Keyed Tryd.prog 9 := string_keyed Tryd.underlying9
theorem zeroInt (w : World) : (zeroValue 3).run Tryd.prog w = .ok (.int .i64 0) w := by kernel_rfl
def klB (s : ByteArray) : Lit := .string s.data.toList
theorem keyB {s : ByteArray} (h : s.size ≤ maxLen) : keyOf Tryd.prog 9 (.string s) = some (klB s) := Go.WideMaps.keyOf_string_mk Tryd.underlying9 h
theorem isKeyB (s : ByteArray) : WideAt.IsKeyLit (klB s) := trivial
theorem klB_inj {s t : ByteArray} (h : klB s = klB t) : s = t := by
  have : s.data.toList = t.data.toList := by simpa [klB] using h
  exact ByteArray.ext (by simpa using congrArg List.toArray this)

/-- Block B is a map of n stores whose keys are the texts ks. -/
def CntM (w : World) (B n : Nat) (ks : List ByteArray) : Prop :=
  ∃ D : DataW Unit, w.ownsMap Tryd.prog 9 (plainElem (H := Unit) Tryd.prog 3) B n D ∧ (∀ s, ∃ c : Nat, c ≤ n ∧ D.atKey (klB s) (.lit (.int .i64 0)) = .lit (.int .i64 (c : Int))) ∧ Maps.size D = ks.length ∧ (∀ s, has D (klB s) = ks.any (fun y => decide (y = s)))

theorem CntM.made (w : World) : CntM (w.alloc (.map #[] 0)) w.heap.size 0 [] :=
  ⟨.map [], World.ownsMap_made _ _ _ _, fun s => ⟨0, Nat.le_refl _, rfl⟩, rfl, fun s => rfl⟩
theorem CntM.lt {w : World} {B n : Nat} {ks : List ByteArray} (h : CntM w B n ks) : B < w.heap.size := let ⟨_, h, _⟩ := h; World.ownsMap.lt h
theorem CntM.kept {w w' : World} {B n : Nat} {ks : List ByteArray} {row : Option Nat} (h : CntM w B n ks) (hg : w.grownBy w' row) (hne : some B ≠ row) : CntM w' B n ks := let ⟨D, h, r⟩ := h; ⟨D, World.ownsMap.kept h hg hne, r⟩
theorem CntM.alloc {w : World} {B n : Nat} {ks : List ByteArray} (h : CntM w B n ks) (o : Obj) : CntM (w.alloc o) B n ks := let ⟨D, h, r⟩ := h; ⟨D, World.ownsMap.alloc h o, r⟩
theorem CntM.setCell {w : World} {B n : Nat} {ks : List ByteArray} (h : CntM w B n ks) {a : Addr} (ha : B ≠ a.block) (u : Value) : CntM (w.setCell a u) B n ks := let ⟨D, h, r⟩ := h; ⟨D, World.ownsMap.setCell h ha u, r⟩

/-- One more is counted: what is read, and what is laid. -/
theorem CntM.more {w : World} {B n : Nat} {ks : List ByteArray} (h : CntM w B n ks) (hn : n ≤ 1000) {s : ByteArray} (hs : s.size ≤ maxLen) :
    ∃ (c : Nat) (w' : World), c ≤ n ∧ (Instr.lookup 88 (.map (some B)) (.string s) false).run Tryd.prog w = .ok (.int .i64 (c : Int)) w ∧
      (Instr.mapUpdate 88 (.map (some B)) (.string s) (.int .i64 ((c : Int) + 1))).run Tryd.prog w = .ok () w' ∧ CntM w' B (n + 1) (if ks.any (fun y => decide (y = s)) = true then ks else ks ++ [s]) ∧ w.grownBy w' (some B) := by
  obtain ⟨D, hD, hc, hz, hh⟩ := h
  obtain ⟨c', hr, hat, hw⟩ := hD.lookup_int cntLaw Tryd.underlying88 Tryd.underlying3 (zeroInt w) (keyB hs)
  obtain ⟨c, hcn, hcs⟩ := hc s
  have e : c' = (c : Int) := by
    rw [hat] at hcs
    simpa using hcs
  subst e
  have hwf : (Lit.int .i64 ((c : Int) + 1)).wf = true := by
    have e1 : IntKind.min .i64 = -9223372036854775808 := by decide
    have e2 : IntKind.max .i64 = 9223372036854775807 := by decide
    simp only [Lit.wf, e1, e2, Bool.and_eq_true, decide_eq_true_eq]
    omega
  obtain ⟨w', h1, h2, h3⟩ := World.ownsMap.update hD cntLaw Tryd.underlying88 (by unfold maxLen; omega) (keyB hs) (plainElem_int Tryd.underlying3 hwf)
  refine ⟨c, w', hcn, hr, h1, ⟨_, h2, fun t => ?_, ?_, fun t => ?_⟩, h3⟩
  · by_cases e : t = s
    · subst e
      exact ⟨c + 1, by omega, by rw [atKey_put_same hD.isMap (isKeyB t)]; simp⟩
    · obtain ⟨ct, hct, hat'⟩ := hc t
      exact ⟨ct, by omega, by rw [atKey_put_other (fun e2 => e (klB_inj e2))]; exact hat'⟩
  · rw [size_put (hD.tidy cntLaw), hh s, hz]
    split
    · rfl
    · simp
  · by_cases e : t = s
    · subst e
      rw [has_put_same hD.isMap (isKeyB t)]
      split
      · rename_i h; rw [h]
      · simp
    · rw [has_put_other (fun e2 => e (klB_inj e2)), hh t]
      split
      · rfl
      · simp [Ne.symm e]
theorem CntM.len {w : World} {B n : Nat} {ks : List ByteArray} (h : CntM w B n ks) (ty : TypeId) :
    (Builtin.len_ #[88 ] ty #[.map (some B)]).run Tryd.prog w = .ok (.int .i64 (ks.length : Nat)) w := by
  obtain ⟨D, hD, _, hz, _⟩ := h
  rw [World.ownsMap.len hD Tryd.underlying88 ty, hz]
end Go.Proofs.YtfdghbbanokopaaDoor

set_option linter.unusedSimpArgs false
set_option linter.unusedVariables false
namespace Go.Proofs.YtfdghbbanokopaaDoor
open Go.RowKit Go.Lib

/-- Parts behind one another, and the places of their own nodes. -/
def accS (ps : List (List Nd)) : List Nd × List Int := ps.foldl (fun s p => (s.1 ++ p.map (mvN 0 s.1.length), s.2 ++ [((s.1.length + p.length : Nat) : Int) - 1])) ([], [])
theorem accS_snoc (ps : List (List Nd)) (p : List Nd) : accS (ps ++ [p]) = ((accS ps).1 ++ p.map (mvN 0 (accS ps).1.length), (accS ps).2 ++ [(((accS ps).1.length + p.length : Nat) : Int) - 1]) := by
  unfold accS; rw [List.foldl_append]; rfl
def joinL (op n : Int) (nm : ByteArray) (ps : List (List Nd)) : List Nd := (accS ps).1 ++ [⟨op, n, nm, (accS ps).2⟩]

theorem OwnP.form {w : World} {base : Nat} {v : Value} {p : List (Nd × Value)} (h : OwnP w base v p) : ∃ ao cap, v = .slice ao p.length cap := by
  obtain ⟨_, h2⟩ := h.row
  rcases h2 with ⟨rfl, h0⟩ | ⟨g, cap, cur, rfl, _⟩
  · exact ⟨none, 0, by rw [h0]⟩
  · exact ⟨_, cap, rfl⟩
end Go.Proofs.YtfdghbbanokopaaDoor

set_option linter.unusedSimpArgs false
set_option linter.unusedVariables false
namespace Go.Proofs.YtfdghbbanokopaaDoor

/-- The part whose own node stands at a kid's place. -/
def kidPart (l : List Nd) (fr : List Nat) (k : Int) : List Nd := partL l (fr.getD k.toNat 0) k.toNat


theorem cut_split (l : List Nd) (a b c : Nat) (hab : a ≤ b) (hbc : b ≤ c) : (l.drop a).take (c - a) = (l.drop a).take (b - a) ++ (l.drop b).take (c - b) := by
  have e : c - a = (b - a) + (c - b) := by omega
  rw [e, List.take_add, List.drop_drop]
  have e2 : a + (b - a) = b := by omega
  rw [e2]

theorem acc_parts {l : List Nd} {fr : List Nat} (h : BegOk l fr) : ∀ (r : List Int) (c c0 : Nat), c ≤ l.length → chainL fr r c = some c0 →
    accS ((r.reverse).map (kidPart l fr)) = (((l.drop c0).take (c - c0)).map (mvN 0 (-(c0 : Int))), r.reverse.map (· - (c0 : Int))) := by
  intro r
  induction r with
  | nil =>
    intro c c0 _ hc
    simp only [chainL, Option.some.injEq] at hc
    subst hc
    simp [accS]
  | cons k r ih =>
    intro c c0 hcl hc
    simp only [chainL] at hc
    split at hc
    · cases hc
    · rename_i hn
      have hlo := h.low (c - 1)
      have hle := chainL_le h.low _ _ _ hc
      have hi := ih _ c0 (by omega) hc
      have hk : k = ((c - 1 : Nat) : Int) := by omega
      have hkt : k.toNat = c - 1 := by omega
      rw [List.reverse_cons, List.map_append, List.map_cons, List.map_nil, accS_snoc, hi]
      have hins := kids_inside h (c - 1) (by omega)
      have hplen := partL_len l (fr.getD (c - 1) 0) (c - 1) (by omega) hlo
      have hkp : kidPart l fr k = partL l (fr.getD (c - 1) 0) (c - 1) := by unfold kidPart; rw [hkt]
      rw [hkp]
      generalize hb : fr.getD (c - 1) 0 = b at *
      have hAl : ((((l.drop c0).take (b - c0)).map (mvN 0 (-(c0 : Int)))).length) = b - c0 := by simp; omega
      have hpart : (partL l b (c - 1)).map (mvN 0 ((b - c0 : Nat) : Int)) = ((l.drop b).take (c - b)).map (mvN 0 (-(c0 : Int))) := by
        unfold partL
        have e : c - 1 + 1 - b = c - b := by omega
        rw [e, List.map_map]
        apply List.map_congr_left
        intro x hx
        obtain ⟨j, hj, rfl⟩ := List.getElem_of_mem hx
        have hj' : j < c - b := by simp at hj; omega
        have hgx : ((l.drop b).take (c - b))[j] = l.getD (b + j) nd0 := by
          have hlt : b + j < l.length := by omega
          simp [hlt]
        rw [hgx]
        have hin := hins (b + j) (by omega) (by omega)
        show mvN 0 ((b - c0 : Nat) : Int) (mvN 0 (-(b : Int)) (l.getD (b + j) nd0)) = mvN 0 (-(c0 : Int)) (l.getD (b + j) nd0)
        unfold mvN
        simp only [List.map_map, Nd.mk.injEq, true_and]
        apply List.map_congr_left
        intro q hq
        have := hin q hq
        show mvK 0 ((b - c0 : Nat) : Int) (mvK 0 (-(b : Int)) q) = mvK 0 (-(c0 : Int)) q
        have e1 : mvK 0 (-(b : Int)) q = q - b := by unfold mvK; rw [if_pos (by omega)]; omega
        rw [e1]
        unfold mvK
        rw [if_pos (by omega), if_pos (by omega)]
        omega
      rw [hAl, hpart]
      refine Prod.ext ?_ ?_
      · show _ ++ _ = _
        rw [cut_split l c0 b c (by omega) (by omega), List.map_append]
      · show _ ++ _ = (r.reverse ++ [k]).map _
        rw [List.map_append, hplen, hk]
        simp
        omega

/-- The expression at a place is its operator with its parts. -/
theorem part_join {l : List Nd} {fr : List Nat} (h : BegOk l fr) (i : Nat) (hi : i < l.length) :
    partL l (fr.getD i 0) i = joinL (l.getD i nd0).op (l.getD i nd0).n (l.getD i nd0).name ((l.getD i nd0).kids.map (kidPart l fr)) := by
  have hc := (h.at_ i hi).2
  have hlo := h.low i
  have hacc := acc_parts h _ i _ (by omega) hc
  rw [List.reverse_reverse] at hacc
  unfold joinL
  rw [hacc]
  have hk0 := ok_kids h i hi
  generalize fr.getD i 0 = a at *
  unfold partL
  have e : i + 1 - a = (i - a) + 1 := by omega
  have hlt : i - a < (l.drop a).length := by simp; omega
  rw [e, List.take_succ_eq_append_getElem hlt, List.map_append]
  congr 1
  have hg : (l.drop a)[i - a] = l.getD i nd0 := by
    have e2 : a + (i - a) = i := by omega
    simp [e2, hi]
  rw [hg]
  simp only [List.map_cons, List.map_nil, List.cons.injEq, and_true]
  unfold mvN
  simp only [Nd.mk.injEq, true_and]
  apply List.map_congr_left
  intro k hk
  have := hk0 k hk
  unfold mvK
  rw [if_pos this]; omega

end Go.Proofs.YtfdghbbanokopaaDoor

set_option linter.unusedSimpArgs false
set_option linter.unusedVariables false
namespace Go.Proofs.YtfdghbbanokopaaDoor

abbrev Hd := Int × Int × ByteArray
def hd (x : Nd) : Hd := (x.op, x.n, x.name)
def hds (l : List Nd) : List Hd := l.map hd
theorem hds_len (l : List Nd) : (hds l).length = l.length := by simp [hds]
theorem hds_app (l m : List Nd) : hds (l ++ m) = hds l ++ hds m := by simp [hds]
theorem hd_mv (f b : Int) (x : Nd) : hd (mvN f b x) = hd x := rfl
theorem hds_mv (f b : Int) (l : List Nd) : hds (l.map (mvN f b)) = hds l := by simp [hds, Function.comp_def, hd_mv]
theorem hds_part (l : List Nd) (a i : Nat) : hds (partL l a i) = ((hds l).drop a).take (i + 1 - a) := by
  unfold partL; rw [hds_mv]; simp [hds]
theorem hds_put (l m : List Nd) (a i : Nat) : hds (putL l a i m) = (hds l).take a ++ hds m ++ (hds l).drop (i + 1) := by
  unfold putL; rw [hds_app, hds_app, hds_mv, hds_mv, hds_mv]; simp [hds]

theorem chain_det {fr : List Nat} : ∀ (ks ms : List Int) (c a b : Nat), ks.length = ms.length → chainL fr ks c = some a → chainL fr ms c = some b → ks = ms ∧ a = b
  | [], [], c, a, b, _, h1, h2 => by simp [chainL] at h1 h2; exact ⟨rfl, by omega⟩
  | k :: ks, m :: ms, c, a, b, hl, h1, h2 => by
    simp only [chainL] at h1 h2
    split at h1
    · cases h1
    · split at h2
      · cases h2
      · obtain ⟨e1, e2⟩ := chain_det ks ms _ _ _ (by simpa using hl) h1 h2
        have : k = m := by omega
        exact ⟨by rw [this, e1], e2⟩
theorem form_ar {x : Nd} (h : formB x = true) : (x.kids.length : Int) = aritI x.op := by
  unfold formB fitB at h
  simp only [Bool.and_eq_true, decide_eq_true_eq] at h
  exact h.1.1.2
theorem stp_det {fr f g : List Nat} {x y : Nd} (h : stp fr x = some f) (h' : stp fr y = some g) (he : hd x = hd y) : x = y ∧ f = g := by
  obtain ⟨hf, a, hc, rfl⟩ := stp_some h
  obtain ⟨hg, b, hd', rfl⟩ := stp_some h'
  obtain ⟨o, n, nm, ks⟩ := x
  obtain ⟨o', n', nm', ks'⟩ := y
  simp only [hd, Prod.mk.injEq] at he
  obtain ⟨rfl, rfl, rfl⟩ := he
  have h1 := form_ar hf
  have h2 := form_ar hg
  simp only at h1 h2 hc hd'
  obtain ⟨e1, e2⟩ := chain_det _ _ _ _ _ (by simp; omega) hc hd'
  have : ks = ks' := by simpa using congrArg List.reverse e1
  subst this; subst e2
  exact ⟨rfl, rfl⟩
theorem beg_det : ∀ (l m : List Nd) (fr f g : List Nat), begR fr l = some f → begR fr m = some g → hds l = hds m → l = m
  | [], [], _, _, _, _, _, _ => rfl
  | x :: l, y :: m, fr, f, g, h1, h2, he => by
    simp only [begR] at h1 h2
    simp only [hds, List.map_cons, List.cons.injEq] at he
    cases hx : stp fr x with
    | none => rw [hx] at h1; cases h1
    | some f1 =>
      cases hy : stp fr y with
      | none => rw [hy] at h2; cases h2
      | some g1 =>
        obtain ⟨e1, e2⟩ := stp_det hx hy he.1
        subst e1; subst e2
        rw [hx] at h1; rw [hy] at h2
        rw [beg_det l m f1 f g h1 h2 he.2]
  | [], _ :: _, _, _, _, _, _, he => by simp [hds] at he
  | _ :: _, [], _, _, _, _, _, he => by simp [hds] at he
theorem snd_det {l m : List Nd} (hl : sndB l = true) (hm : sndB m = true) (he : hds l = hds m) : l = m := by
  obtain ⟨f, hf⟩ := Option.isSome_iff_exists.1 hl
  obtain ⟨g, hg⟩ := Option.isSome_iff_exists.1 hm
  exact beg_det l m [] f g (begL_some hf).2.2.1 (begL_some hg).2.2.1 he

/-! ### how many stand side by side -/
def dep (hs : List Hd) : Int := (hs.map fun h => 1 - aritI h.1).sum
theorem dep_app (a b : List Hd) : dep (a ++ b) = dep a + dep b := by simp [dep]
theorem dep_nil : dep [] = 0 := rfl
theorem dep_one (h : Hd) : dep [h] = 1 - aritI h.1 := by simp [dep]
theorem hds_take_succ {l : List Nd} {k : Nat} (h : k < l.length) : (hds l).take (k + 1) = (hds l).take k ++ [hd (l.getD k nd0)] := by
  rw [List.take_succ_eq_append_getElem (by rw [hds_len]; exact h)]
  simp [hds, h]
theorem dep_chain {l : List Nd} {fr : List Nat} (K : Nat) (ih : ∀ c, c < K → dep ((hds l).take (c + 1)) = dep ((hds l).take (fr.getD c 0)) + 1) (hlow : Low fr) :
    ∀ (ks : List Int) (c a : Nat), c ≤ K → chainL fr ks c = some a → dep ((hds l).take c) = dep ((hds l).take a) + ks.length
  | [], c, a, _, h => by simp [chainL] at h; subst h; simp
  | k :: ks, c, a, hc, h => by
    simp only [chainL] at h
    split at h
    · cases h
    · rename_i hh
      have h1 := ih (c - 1) (by omega)
      have e : c - 1 + 1 = c := by omega
      rw [e] at h1
      have hl := hlow (c - 1)
      have h2 := dep_chain K ih hlow ks _ _ (by omega) h
      rw [h1, h2]; simp; omega
theorem dep_step {l : List Nd} {fr : List Nat} (h : BegOk l fr) : ∀ (n k : Nat), k < n → k < l.length → dep ((hds l).take (k + 1)) = dep ((hds l).take (fr.getD k 0)) + 1
  | 0, k, h0, _ => by omega
  | n + 1, k, h0, hk => by
    obtain ⟨hf, hc⟩ := h.at_ k hk
    have h1 := dep_chain (l := l) k (fun c hc => dep_step h n c (by omega) (by omega)) h.low _ _ _ (Nat.le_refl k) hc
    rw [hds_take_succ hk, dep_app, dep_one, h1]
    have := form_ar hf
    have e : (hd (l.getD k nd0)).1 = (l.getD k nd0).op := rfl
    rw [e, List.length_reverse]; omega
theorem dep_beg {l : List Nd} {fr : List Nat} (h : BegOk l fr) {k : Nat} (hk : k < l.length) : dep ((hds l).take (k + 1)) = dep ((hds l).take (fr.getD k 0)) + 1 := dep_step h (k + 1) k (by omega) hk
theorem dep_ge {l : List Nd} {fr : List Nat} (h : BegOk l fr) : ∀ (n k : Nat), k < n → k ≤ l.length → 0 ≤ dep ((hds l).take k)
  | 0, k, h0, _ => by omega
  | n + 1, 0, _, _ => by simp [dep_nil]
  | n + 1, k + 1, h0, hk => by
    rw [dep_beg h (by omega)]
    have := h.low k
    have := dep_ge h n (fr.getD k 0) (by omega) (by omega)
    omega
theorem dep_nn {l : List Nd} {fr : List Nat} (h : BegOk l fr) {k : Nat} (hk : k ≤ l.length) : 0 ≤ dep ((hds l).take k) := dep_ge h (k + 1) k (by omega) hk
theorem dep_pos {l : List Nd} {fr : List Nat} (h : BegOk l fr) {k : Nat} (h0 : 0 < k) (hk : k ≤ l.length) : 1 ≤ dep ((hds l).take k) := by
  obtain ⟨j, rfl⟩ : ∃ j, k = j + 1 := ⟨k - 1, by omega⟩
  rw [dep_beg h (by omega)]
  have := h.low j
  have := dep_nn h (k := fr.getD j 0) (by omega)
  omega
theorem dep_whole {l : List Nd} {fr : List Nat} (h : begL l = some fr) : dep (hds l) = 1 := by
  obtain ⟨h0, _, hr, ht⟩ := begL_some h
  have := dep_beg (begOk_of hr) (k := l.length - 1) (by omega)
  rw [ht, show l.length - 1 + 1 = (hds l).length by rw [hds_len]; omega, List.take_length] at this
  simpa [dep_nil] using this

/-- What ends at a place and is sound is the part there. -/
theorem part_at {e r : List Nd} {fe fr : List Nat} {A : List Hd} {a : Nat} (he : begL e = some fe) (hr : begL r = some fr) (ha : a ≤ e.length) (h : (hds e).take a = A ++ hds r) :
    fe.getD (a - 1) 0 = A.length ∧ partL e (fe.getD (a - 1) 0) (a - 1) = r := by
  have hok := begOk_of (begL_some he).2.2.1
  have hrk := begOk_of (begL_some hr).2.2.1
  have hr0 := (begL_some hr).1
  have hlen : a = A.length + r.length := by
    have := congrArg List.length h
    simp [hds_len] at this; omega
  obtain ⟨b', hb'⟩ : ∃ b', fe.getD (a - 1) 0 = b' := ⟨_, rfl⟩
  have hlow := hok.low (a - 1)
  have h1 := dep_beg hok (k := a - 1) (by omega)
  rw [hb'] at h1 hlow
  have e1 : a - 1 + 1 = a := by omega
  rw [e1, h, dep_app, dep_whole hr] at h1
  have tk : ∀ c, c ≤ a → (hds e).take c = (A ++ hds r).take c := fun c hc => by
    rw [← h, List.take_take]; congr 1; omega
  have hA : dep ((hds e).take A.length) = dep A := by
    rw [tk _ (by omega), List.take_left]
  have hbA : b' = A.length := by
    rcases Nat.lt_trichotomy b' A.length with hlt | heq | hgt
    · exfalso
      have hp := part_ok hok (a - 1) (by omega)
      rw [hb'] at hp
      have hpl := partL_len e b' (a - 1) (by omega) hlow
      have h2 := dep_pos hp (k := A.length - b') (by omega) (by rw [hpl]; omega)
      rw [hds_part, List.take_take] at h2
      have e2 : min (A.length - b') (a - 1 + 1 - b') = A.length - b' := by omega
      rw [e2] at h2
      have e3 : (hds e).take A.length = (hds e).take b' ++ ((hds e).drop b').take (A.length - b') := by
        have := List.take_add (l := hds e) (i := b') (j := A.length - b')
        rw [← this]; congr 1; omega
      have h3 := hA
      rw [e3, dep_app] at h3
      omega
    · exact heq
    · exfalso
      have h2 := dep_pos hrk (k := b' - A.length) (by omega) (by omega)
      rw [tk _ (by omega), List.take_append, dep_app, List.take_of_length_le (by omega)] at h1
      omega
  refine ⟨by rw [hb']; exact hbA, ?_⟩
  obtain ⟨fo, hfo⟩ := part_snd he (a - 1) (by omega)
  refine snd_det (by unfold sndB; rw [hfo]; rfl) (by unfold sndB; rw [hr]; rfl) ?_
  rw [hds_part, hb', hbA]
  have e2 : a - 1 + 1 - A.length = r.length := by omega
  rw [e2]
  have e3 : (hds e).drop A.length = (A ++ hds r ++ (hds e).drop a).drop A.length := by rw [← h, List.take_append_drop]
  rw [e3, List.append_assoc, List.drop_left, List.take_left' (hds_len r)]
end Go.Proofs.YtfdghbbanokopaaDoor
