/-
  PaF, PaM, SnW, StrMem.
-/
import Derived.Shelf.Unicode.DecodeSlow
import Derived.Laws.RangeAny
import Derived.Shelf.Strconv.Itoa0
import Derived.Shelf.Unicode.DecodeAny
import Derived.Test.YtfdghbbanokopaaDoorProg
import Derived.WalkKit
import Derived.Deep.DeepFit
import Derived.Lib.OthersKept
import Derived.Lib.RuneCountTail
import Derived.Deep.AppendLies
import Derived.Deep.OwnRows
import Derived.Laws.AppendOwnNone
import Derived.Deep.QuietTactic
import Derived.BigQuiet
import Derived.Deep.RegionWith
import Derived.Laws.DeepStrings4
import Derived.Lib.MapLaws
import Derived.Sort.Walk0
import Derived.Lib.ItoaNum
import Derived.Maps.OwnSet
import Derived.StringKeys
import Derived.Deep.Slices
import Derived.Test.YtfdghbbanokopaaDoorG01
import Derived.Test.YtfdghbbanokopaaDoorG02
import Derived.Test.YtfdghbbanokopaaDoorG03
import Derived.Test.YtfdghbbanokopaaDoorG04
import Derived.Test.YtfdghbbanokopaaDoorG05
import Derived.Test.YtfdghbbanokopaaDoorG06
import Derived.Test.YtfdghbbanokopaaDoorG14
import Derived.Test.YtfdghbbanokopaaDoorG17
import Derived.Test.YtfdghbbanokopaaDoorG18
set_option linter.unusedSimpArgs false
set_option linter.unusedVariables false
namespace Go.Proofs.YtfdghbbanokopaaDoor

def numL : List ByteArray → ByteArray → Nat
  | [], _ => 0
  | k :: ks, s => if k = s then 0 else numL ks s + 1
theorem numL_lt {ks : List ByteArray} {s : ByteArray} (h : s ∈ ks) : numL ks s < ks.length := by
  induction ks with
  | nil => simp at h
  | cons k ks ih =>
    unfold numL
    split
    · simp
    · rename_i hne
      rcases List.mem_cons.1 h with rfl | h
      · exact absurd rfl hne
      · have := ih h; simp; omega
theorem numL_app {ks m : List ByteArray} {s : ByteArray} (h : s ∈ ks) : numL (ks ++ m) s = numL ks s := by
  induction ks with
  | nil => simp at h
  | cons k ks ih =>
    simp only [List.cons_append, numL]
    split
    · rfl
    · rename_i hne
      rcases List.mem_cons.1 h with rfl | h
      · exact absurd rfl hne
      · rw [ih h]
theorem numL_new {ks : List ByteArray} {s : ByteArray} (h : s ∉ ks) : numL (ks ++ [s]) s = ks.length := by
  induction ks with
  | nil => simp [numL]
  | cons k ks ih =>
    simp only [List.mem_cons, not_or] at h
    simp only [List.cons_append, numL, if_neg (Ne.symm h.1), ih h.2, List.length_cons]
theorem foldl_mem : ∀ (l : List Nd) (acc : List ByteArray) (s : ByteArray), s ∈ acc → s ∈ l.foldl addNm acc
  | [], acc, s, h => h
  | x :: l, acc, s, h => by
    simp only [List.foldl_cons]
    refine foldl_mem l _ s ?_
    unfold addNm
    split
    · split
      · exact h
      · exact List.mem_append_left _ h
    · exact h
theorem foldl_hole : ∀ (l : List Nd) (acc : List ByteArray) (x : Nd), x ∈ l → x.op = 18 → x.name ∈ l.foldl addNm acc
  | y :: l, acc, x, hx, ho => by
    simp only [List.foldl_cons]
    rcases List.mem_cons.1 hx with rfl | hx
    · refine foldl_mem l _ _ ?_
      unfold addNm
      rw [if_pos ho]
      split
      · rename_i h
        obtain ⟨y, hy, he⟩ := List.any_eq_true.1 h
        rw [← of_decide_eq_true he]; exact hy
      · simp
    · exact foldl_hole l _ x hx ho
theorem mem_hls {l : List Nd} {x : Nd} (hx : x ∈ l) (ho : x.op = 18) : x.name ∈ hlsL l := foldl_hole l [] x hx ho

/-- What stands in a node's place. -/
def flN (ps : List (List Nd)) (ks : List ByteArray) (x : Nd) : List Hd := if x.op = 18 then hds (ps.getD (numL ks x.name) []) else [hd x]
/-- The heads of a filled pattern. -/
def flH (ps : List (List Nd)) (ks : List ByteArray) (l : List Nd) : List Hd := l.flatMap (flN ps ks)
theorem flH_app (ps : List (List Nd)) (ks : List ByteArray) (l m : List Nd) : flH ps ks (l ++ m) = flH ps ks l ++ flH ps ks m := by simp [flH]
theorem flH_one (ps : List (List Nd)) (ks : List ByteArray) (x : Nd) : flH ps ks [x] = flN ps ks x := by simp [flH]
theorem flH_take {ps : List (List Nd)} {ks : List ByteArray} {l : List Nd} {k : Nat} (h : k < l.length) : flH ps ks (l.take (k + 1)) = flH ps ks (l.take k) ++ flN ps ks (l.getD k nd0) := by
  rw [List.take_succ_eq_append_getElem h, flH_app, flH_one]; simp [h]
theorem flH_drop {ps : List (List Nd)} {ks : List ByteArray} {l : List Nd} {k : Nat} (h : k < l.length) : flH ps ks (l.drop k) = flN ps ks (l.getD k nd0) ++ flH ps ks (l.drop (k + 1)) := by
  rw [List.drop_eq_getElem_cons h]
  have : l.getD k nd0 = l[k] := by simp [h]
  rw [this]; exact List.flatMap_cons
/-- Each hole of l has a part with nodes. -/
def PtsOk (ps : List (List Nd)) (ks : List ByteArray) (l : List Nd) : Prop := ∀ x ∈ l, x.op = 18 → sndB (ps.getD (numL ks x.name) []) = true
theorem snd_len {l : List Nd} (h : sndB l = true) : 1 ≤ l.length ∧ l.length ≤ 64 := by
  obtain ⟨f, hf⟩ := Option.isSome_iff_exists.1 h
  have := begL_some hf
  omega
theorem flN_len {ps : List (List Nd)} {ks : List ByteArray} {l : List Nd} (h : PtsOk ps ks l) {x : Nd} (hx : x ∈ l) : 1 ≤ (flN ps ks x).length := by
  unfold flN
  split
  · rename_i ho
    rw [hds_len]; exact (snd_len (h x hx ho)).1
  · simp
theorem flH_ge {ps : List (List Nd)} {ks : List ByteArray} : ∀ {l : List Nd}, PtsOk ps ks l → l.length ≤ (flH ps ks l).length
  | [], _ => by simp [flH]
  | x :: l, h => by
    have h1 := flN_len h (x := x) (by simp)
    have h2 := flH_ge (l := l) (fun y hy => h y (List.mem_cons_of_mem _ hy))
    have e : flH ps ks (x :: l) = flN ps ks x ++ flH ps ks l := by simp [flH]
    rw [e]; simp; omega
theorem hd_fill {x : Nd} (h : x.op ≠ 18) : hd (fillN x) = hd x := by unfold fillN; rw [if_neg h]

/-- Filled from k on. -/
structure FlI (p : List Nd) (ps : List (List Nd)) (ks : List ByteArray) (k : Nat) (e : List Nd) : Prop where
  snd : sndB e = true
  eq : hds e = (hds (p.map fillN)).take k ++ flH ps ks (p.drop k)
theorem FlI.start {p : List Nd} (ps : List (List Nd)) (ks : List ByteArray) (h : sndB (p.map fillN) = true) : FlI p ps ks p.length (p.map fillN) :=
  ⟨h, by rw [List.take_of_length_le (by simp [hds]), List.drop_length]; simp [flH]⟩
theorem fillN_at {p : List Nd} {k : Nat} (hk : k < p.length) : (p.map fillN).getD k nd0 = fillN (p.getD k nd0) := by simp [hk]
theorem FlI.skip {p : List Nd} {ps : List (List Nd)} {ks : List ByteArray} {k : Nat} {e : List Nd} (h : FlI p ps ks (k + 1) e) (hk : k < p.length) (ho : (p.getD k nd0).op ≠ 18) : FlI p ps ks k e := by
  refine ⟨h.snd, ?_⟩
  rw [h.eq, hds_take_succ (by simpa using hk), fillN_at hk, hd_fill ho, flH_drop hk, List.append_assoc]
  unfold flN; rw [if_neg ho]
theorem FlI.at_ {p : List Nd} {ps : List (List Nd)} {ks : List ByteArray} {k : Nat} {e : List Nd} (h : FlI p ps ks (k + 1) e) (hk : k < p.length) (ho : (p.getD k nd0).op = 18) : k < e.length ∧ ∃ fr, begL e = some fr ∧ fr.getD k 0 = k := by
  obtain ⟨fr, hfr⟩ := Option.isSome_iff_exists.1 h.snd
  have hlen : k < e.length := by
    have := congrArg List.length h.eq
    rw [hds_len] at this
    simp [hds_len] at this
    omega
  refine ⟨hlen, fr, hfr, ?_⟩
  have hok := begOk_of (begL_some hfr).2.2.1
  obtain ⟨hf, hc⟩ := hok.at_ k hlen
  have h1 : (hds e).take (k + 1) = (hds (p.map fillN)).take (k + 1) := by
    rw [h.eq, List.take_append_of_le_length (by simp [hds_len]; omega), List.take_take]; congr 1; omega
  rw [hds_take_succ hlen, hds_take_succ (by simpa using hk), fillN_at hk] at h1
  have h2 := (List.append_inj' h1 rfl).2
  simp only [List.cons.injEq, and_true] at h2
  have h3 : (e.getD k nd0).op = 2 := by
    have : (hd (e.getD k nd0)).1 = (hd (fillN (p.getD k nd0))).1 := by rw [h2]
    simp only [hd] at this
    rw [this]; unfold fillN; rw [if_pos ho]
  have h4 := form_ar hf
  rw [h3] at h4
  have h5 : (e.getD k nd0).kids = [] := by
    have : aritI 2 = 0 := by decide
    rw [this] at h4
    exact List.length_eq_zero_iff.1 (by omega)
  rw [h5] at hc
  simp [chainL] at hc
  simpa using hc.symm
theorem FlI.put {p : List Nd} {ps : List (List Nd)} {ks : List ByteArray} {k : Nat} {e : List Nd} (h : FlI p ps ks (k + 1) e) (hk : k < p.length) (ho : (p.getD k nd0).op = 18) (hm : sndB (ps.getD (numL ks (p.getD k nd0).name) []) = true)
    (hl : e.length + (ps.getD (numL ks (p.getD k nd0).name) []).length ≤ 65) : FlI p ps ks k (putL e k k (ps.getD (numL ks (p.getD k nd0).name) [])) := by
  obtain ⟨hke, fr, hfr, hfk⟩ := h.at_ hk ho
  obtain ⟨fm, hfm⟩ := Option.isSome_iff_exists.1 hm
  obtain ⟨fx, hfx, _⟩ := put_snd hfr hfm k hke (by rw [hfk]; omega)
  rw [hfk] at hfx
  refine ⟨by unfold sndB; rw [hfx]; rfl, ?_⟩
  rw [hds_put, h.eq, flH_drop hk]
  have e1 : flN ps ks (p.getD k nd0) = hds (ps.getD (numL ks (p.getD k nd0).name) []) := by unfold flN; rw [if_pos ho]
  have e2 : ((hds (p.map fillN)).take (k + 1)).length = k + 1 := by simp [hds_len]; omega
  rw [e1, List.take_append_of_le_length (by omega), List.take_take, show min k (k + 1) = k by omega, List.drop_left' e2, List.append_assoc]
theorem FlI.large {p : List Nd} {ps : List (List Nd)} {ks : List ByteArray} {k : Nat} {e : List Nd} (h : FlI p ps ks (k + 1) e) (hk : k < p.length) (ho : (p.getD k nd0).op = 18) (hp : PtsOk ps ks p)
    (hl : 65 < e.length + (ps.getD (numL ks (p.getD k nd0).name) []).length) : 64 < (flH ps ks p).length := by
  have h1 := congrArg List.length h.eq
  rw [hds_len] at h1
  simp [hds_len] at h1
  have h2 : flH ps ks p = flH ps ks (p.take k) ++ (flN ps ks (p.getD k nd0) ++ flH ps ks (p.drop (k + 1))) := by rw [← flH_drop hk, ← flH_app, List.take_append_drop]
  have h3 := flH_ge (l := p.take k) (fun x hx => hp x (List.mem_of_mem_take hx))
  have e1 : flN ps ks (p.getD k nd0) = hds (ps.getD (numL ks (p.getD k nd0).name) []) := by unfold flN; rw [if_pos ho]
  rw [h2, e1]
  simp only [List.length_append, hds_len]
  simp at h3
  omega
theorem FlI.done {p : List Nd} {ps : List (List Nd)} {ks : List ByteArray} {e : List Nd} (h : FlI p ps ks 0 e) : hds e = flH ps ks p := by simpa using h.eq
end Go.Proofs.YtfdghbbanokopaaDoor

set_option linter.unusedSimpArgs false
set_option linter.unusedVariables false
namespace Go.Proofs.YtfdghbbanokopaaDoor
open Go.RowKit Go.Lib Go.Maps

/-- The number of a name, or 0. -/
def numZ (ks : List ByteArray) (s : ByteArray) : Nat := if ks.any (fun y => decide (y = s)) = true then numL ks s else 0
theorem any_mem (ks : List ByteArray) (s : ByteArray) : ks.any (fun y => decide (y = s)) = true ↔ s ∈ ks := by
  simp
theorem numZ_mem {ks : List ByteArray} {s : ByteArray} (h : s ∈ ks) : numZ ks s = numL ks s := by unfold numZ; rw [if_pos ((any_mem _ _).2 h)]
/-- Block B is a map of n stores: each of the names ks has its number. -/
def NumM (w : World) (B n : Nat) (ks : List ByteArray) : Prop :=
  ∃ D : DataW Unit, w.ownsMap Tryd.prog 9 (plainElem (H := Unit) Tryd.prog 3) B n D ∧ (∀ s, D.atKey (klB s) (.lit (.int .i64 0)) = .lit (.int .i64 (numZ ks s : Nat))) ∧ (∀ s, has D (klB s) = ks.any (fun y => decide (y = s)))

theorem NumM.made (w : World) : NumM (w.alloc (.map #[] 0)) w.heap.size 0 [] :=
  ⟨.map [], World.ownsMap_made _ _ _ _, fun s => rfl, fun s => rfl⟩
theorem NumM.lt {w : World} {B n : Nat} {ks : List ByteArray} (h : NumM w B n ks) : B < w.heap.size := let ⟨_, h, _⟩ := h; World.ownsMap.lt h
theorem NumM.kept {w w' : World} {B n : Nat} {ks : List ByteArray} {row : Option Nat} (h : NumM w B n ks) (hg : w.grownBy w' row) (hne : some B ≠ row) : NumM w' B n ks := let ⟨D, h, r⟩ := h; ⟨D, World.ownsMap.kept h hg hne, r⟩
theorem NumM.alloc {w : World} {B n : Nat} {ks : List ByteArray} (h : NumM w B n ks) (o : Obj) : NumM (w.alloc o) B n ks := let ⟨D, h, r⟩ := h; ⟨D, World.ownsMap.alloc h o, r⟩
theorem NumM.setCell {w : World} {B n : Nat} {ks : List ByteArray} (h : NumM w B n ks) {a : Addr} (ha : B ≠ a.block) (u : Value) : NumM (w.setCell a u) B n ks := let ⟨D, h, r⟩ := h; ⟨D, World.ownsMap.setCell h ha u, r⟩
theorem NumM.below {w w' : World} {B n : Nat} {ks : List ByteArray} (h : NumM w B n ks) (hb : Below w.heap.size w w') : NumM w' B n ks :=
  h.kept (row := none) ⟨hb.os, hb.tape, hb.output, hb.size, fun k hk _ => hb.block k hk⟩ (by simp)
theorem NumM.drew {w : World} {B n : Nat} {ks : List ByteArray} (h : NumM w B n ks) (q : Nat) : NumM (w.drewN q) B n ks :=
  h.below (below_drewN' (Below.refl _ _) q)

theorem NumM.look {w : World} {B n : Nat} {ks : List ByteArray} (h : NumM w B n ks) {s : ByteArray} (hs : s.size ≤ maxLen) :
    (Instr.lookup 88 (.map (some B)) (.string s) false).run Tryd.prog w = .ok (.int .i64 (numZ ks s : Nat)) w := by
  obtain ⟨D, hD, hc, hh⟩ := h
  obtain ⟨c, hr, hat, _⟩ := hD.lookup_int cntLaw Tryd.underlying88 Tryd.underlying3 (zeroInt w) (keyB hs)
  have e : c = (numZ ks s : Nat) := by
    have := hc s
    rw [hat] at this
    simpa using this
  rw [hr, e]
theorem NumM.look2 {w : World} {B n : Nat} {ks : List ByteArray} (h : NumM w B n ks) {s : ByteArray} (hs : s.size ≤ maxLen) :
    (Instr.lookup 88 (.map (some B)) (.string s) true).run Tryd.prog w = .ok (.tuple #[.int .i64 (numZ ks s : Nat), .bool (ks.any (fun y => decide (y = s)))]) w := by
  obtain ⟨D, hD, hc, hh⟩ := h
  obtain ⟨v, ps, hr, hv⟩ := hD.look_ok cntLaw Tryd.underlying88 (zeroInt w) (plainElem_int Tryd.underlying3 (show (Lit.int .i64 0).wf = true by decide)) (keyB hs)
  obtain ⟨c, rfl, hc2, _⟩ := plainElem_int_inv Tryd.underlying3 hv
  have e : c = (numZ ks s : Nat) := by
    have h1 := hc s
    have h2 := congrArg Prod.fst hc2
    simp only at h2
    rw [h1] at h2
    simpa using h2.symm
  rw [hr, e, hh s]
/-- A name more. -/
theorem NumM.more {w : World} {B n : Nat} {ks : List ByteArray} (h : NumM w B n ks) (hn : n ≤ 1000) (hk : ks.length ≤ 1000) {s : ByteArray} (hs : s.size ≤ maxLen) (hnew : ks.any (fun y => decide (y = s)) = false) :
    ∃ (w' : World), (Instr.mapUpdate 88 (.map (some B)) (.string s) (.int .i64 (ks.length : Nat))).run Tryd.prog w = .ok () w' ∧ NumM w' B (n + 1) (ks ++ [s]) ∧ w.grownBy w' (some B) := by
  obtain ⟨D, hD, hc, hh⟩ := h
  have hwf : (Lit.int .i64 (ks.length : Nat)).wf = true := by
    have e1 : IntKind.min .i64 = -9223372036854775808 := by decide
    have e2 : IntKind.max .i64 = 9223372036854775807 := by decide
    simp only [Lit.wf, e1, e2, Bool.and_eq_true, decide_eq_true_eq]
    omega
  have hns : s ∉ ks := fun hm => by rw [(any_mem ks s).2 hm] at hnew; cases hnew
  obtain ⟨w', h1, h2, h3⟩ := World.ownsMap.update hD cntLaw Tryd.underlying88 (by unfold maxLen; omega) (keyB hs) (plainElem_int Tryd.underlying3 hwf)
  refine ⟨w', h1, ⟨_, h2, fun t => ?_, fun t => ?_⟩, h3⟩
  · by_cases e : t = s
    · subst e
      rw [atKey_put_same hD.isMap (isKeyB t), numZ_mem (by simp), numL_new hns]
    · rw [atKey_put_other (fun e2 => e (klB_inj e2)), hc t]
      have : numZ (ks ++ [s]) t = numZ ks t := by
        unfold numZ
        by_cases ht : t ∈ ks
        · rw [if_pos ((any_mem _ _).2 ht), if_pos ((any_mem _ _).2 (List.mem_append_left _ ht)), numL_app ht]
        · rw [if_neg (fun h => ht ((any_mem _ _).1 h)), if_neg (fun h => by
            have := (any_mem _ _).1 h
            simp at this
            rcases this with h | h
            · exact ht h
            · exact e h)]
      rw [this]
  · by_cases e : t = s
    · subst e
      rw [has_put_same hD.isMap (isKeyB t)]
      simp
    · rw [has_put_other (fun e2 => e (klB_inj e2)), hh t]
      simp [Ne.symm e]
end Go.Proofs.YtfdghbbanokopaaDoor

set_option linter.unusedSimpArgs false
set_option linter.unusedVariables false
namespace Go.Proofs.YtfdghbbanokopaaDoor
open Go.RowKit Go.Lib Go.Maps Go.Deep

/-- Nodes of the call's own whose kids are others'. -/
structure ClN (w : World) (base B : Nat) (v : Value) (p : List (Nd × Value)) : Prop where
  row : w.ownsRow base 50 4 v p.length (ndCells p)
  kids : ∀ q ∈ p, Ints w B q.2 q.1.kids
theorem ClN.nodes {w : World} {base B C : Nat} {v : Value} {p : List (Nd × Value)} (h : ClN w base B v p) (hB : w.heap.size ≤ C) (hC : B ≤ C) : Nodes w C v (p.map (·.1)) := by
  obtain ⟨h1, h2⟩ := h.row
  rcases h2 with ⟨rfl, h0⟩ | ⟨g, cap, cur, rfl, hb, hg, hn, hm, hs, ht⟩
  · have : p = [] := List.length_eq_zero_iff.1 h0
    subst this
    exact ⟨none, 0, rfl, by simp, by simp, .inl rfl⟩
  · refine ⟨_, cap, by simp, by simpa using hn, hm, .inr ⟨g, 0, rfl, ?_, fun i hi => ?_⟩⟩
    · have := lt_of_block hg; omega
    · simp at hi
      have hp : p[i]? = some (p[i].1, p[i].2) := by simp [hi]
      have hx : (p.map (·.1)).getD i nd0 = p[i].1 := by simp [hi]
      obtain ⟨a0, a1, a2, a3⟩ := ndCells_at p i _ _ hp
      have hc : ∀ j, j < p.length * 4 → w.cell? ⟨g, j, none⟩ = (ndCells p)[j]? := by
        intro j hj
        have : w.cell? ⟨g, j, none⟩ = cur[j]? := by simp [World.cell?, hg]
        rw [this, ← Array.getElem?_toList, ← ht, List.getElem?_take, if_pos (by omega)]
      rw [hx]
      refine ⟨p[i].2, ?_, ?_, ?_, ?_, ?_⟩
      · rw [Nat.zero_add, hc _ (by omega), a0]
      · rw [Nat.zero_add, hc _ (by omega), a1]
      · rw [Nat.zero_add, hc _ (by omega), a2]
      · rw [Nat.zero_add, hc _ (by omega), a3]
      · exact (h.kids p[i] (by simp)).mono hC

theorem eql_nilN (ao : Option Addr) (n c : Nat) (w : World) : (binOp .eql 22 (.slice ao n c) (.slice none 0 0)).run Tryd.prog w = .ok (.bool ao.isNone) w := by
  cases ao <;> kernel_rfl

theorem nd_one {w : World} {B b o : Nat} {l : List Nd} (h : ∀ i, i < l.length → ∃ kv, NodeAt w B b (o + i * 4) (l.getD i nd0) kv) : ∃ p : List (Nd × Value), p.map (·.1) = l ∧ (∀ q ∈ p, Ints w B q.2 q.1.kids) ∧ ∀ j u, (ndCells p)[j]? = some u → w.cell? ⟨b, o + j, none⟩ = some u := by
  have : Inhabited Value := ⟨.slice none 0 0⟩
  obtain ⟨kf, hk⟩ := choose_lt h
  refine ⟨(List.range l.length).map fun i => (l.getD i nd0, kf i), ?_, ?_, ?_⟩
  · apply List.ext_getElem?
    intro i
    by_cases hi : i < l.length
    · simp [hi]
    · simp [hi]
  · intro q hq
    obtain ⟨i, hi, rfl⟩ := List.mem_map.1 hq
    rw [List.mem_range] at hi
    exact (hk i hi).kids
  · intro j u hj
    have hjl : j < l.length * 4 := by
      have := (List.getElem?_eq_some_iff.1 hj).1
      rw [ndCells_length] at this; simpa using this
    have hi : j / 4 < l.length := by omega
    have hp : ((List.range l.length).map fun i => (l.getD i nd0, kf i))[j / 4]? = some (l.getD (j / 4) nd0, kf (j / 4)) := by simp [hi]
    obtain ⟨a0, a1, a2, a3⟩ := ndCells_at _ _ _ _ hp
    have hN := hk (j / 4) hi
    have hr : j % 4 = 0 ∨ j % 4 = 1 ∨ j % 4 = 2 ∨ j % 4 = 3 := by omega
    rcases hr with hr | hr | hr | hr
    · have e : j = j / 4 * 4 := by omega
      rw [← e] at a0
      rw [a0] at hj; cases hj
      have := hN.c0; rw [← e] at this; exact this
    · have e : j = j / 4 * 4 + 1 := by omega
      rw [← e] at a1
      rw [a1] at hj; cases hj
      have := hN.c1; rw [Nat.add_assoc, ← e] at this; exact this
    · have e : j = j / 4 * 4 + 2 := by omega
      rw [← e] at a2
      rw [a2] at hj; cases hj
      have := hN.c2; rw [Nat.add_assoc, ← e] at this; exact this
    · have e : j = j / 4 * 4 + 3 := by omega
      rw [← e] at a3
      rw [a3] at hj; cases hj
      have := hN.c3; rw [Nat.add_assoc, ← e] at this; exact this

theorem nd_cell1 {p : List (Nd × Value)} (h : ∀ q ∈ p, ∃ a n c, q.2 = .slice a n c) : ∀ u ∈ ndCells p, u.oneCell' = true := by
  induction p with
  | nil => simp [ndCells]
  | cons a r ih =>
    obtain ⟨x, kv⟩ := a
    obtain ⟨ka, kn, kc, rfl⟩ := h (x, kv) (by simp)
    intro u hu
    simp only [ndCells, List.mem_cons] at hu
    rcases hu with rfl | rfl | rfl | rfl | hu
    · rfl
    · rfl
    · rfl
    · rfl
    · exact ih (fun q hq => h q (List.mem_cons_of_mem _ hq)) u hu

theorem ndCells_op (p : List (Nd × Value)) (k : Nat) (x : Nd) (kv : Value) (z : Int) (h : p[k]? = some (x, kv)) : ndCells (p.set k ({ x with op := z }, kv)) = (ndCells p).set (k * 4) (.int .i64 z) := by
  induction p generalizing k with
  | nil => simp at h
  | cons a r ih =>
    obtain ⟨y, kw⟩ := a
    cases k with
    | zero =>
      simp at h
      obtain ⟨rfl, rfl⟩ := h
      simp [ndCells]
    | succ k =>
      have := ih k (by simpa using h)
      have e : (k + 1) * 4 = k * 4 + 4 := by omega
      rw [e]
      simp [ndCells, this]

/-- Between two nodes: those ahead of k are filled. -/
structure SnMid (w : World) (l : List Nd) (M : Nat) (v : Value) (k : Nat) (wr : World) : Prop where
  p : ∃ p, p.map (·.1) = (l.take k).map fillN ++ l.drop k ∧ ClN wr w.heap.size w.heap.size v p
  map : ∃ n, n ≤ k ∧ CntM wr M n (hlsL (l.take k))
  below : Below w.heap.size w wr
  le : w.heap.size ≤ M

theorem fill_step {l : List Nd} {k : Nat} (hk : k < l.length) (h : (l.getD k nd0).op ≠ 18) : (l.take (k + 1)).map fillN ++ l.drop (k + 1) = (l.take k).map fillN ++ l.drop k := by
  rw [List.take_succ_eq_append_getElem hk, List.map_append, List.drop_eq_getElem_cons hk]
  have e : l.getD k nd0 = l[k] := by simp [hk]
  rw [e] at h
  simp [fillN, h]
theorem SnMid.skip {w : World} {l : List Nd} {M : Nat} {v : Value} {k : Nat} {wr : World} (h : SnMid w l M v k wr) (hk : k < l.length) (hop : (l.getD k nd0).op ≠ 18) (o : Obj) : SnMid w l M v (k + 1) (wr.alloc o) := by
  obtain ⟨⟨p, hp, hc⟩, ⟨n, hn, hm⟩, hb, hle⟩ := h
  have hs := hb.size
  refine ⟨⟨p, by rw [fill_step hk hop]; exact hp, hc.row.alloc _, fun q hq => (hc.kids q hq).below (((Below.refl _ _).alloc hs _)) (Nat.le_refl _)⟩, ⟨n, by omega, ?_⟩, hb.alloc hs _, hle⟩
  have e : hlsL (l.take (k + 1)) = hlsL (l.take k) := by
    rw [List.take_succ_eq_append_getElem hk, hlsL_snoc]
    have e : l.getD k nd0 = l[k] := by simp [hk]
    rw [e] at hop
    simp [addNm, hop]
  rw [e]; exact hm.alloc _

/-- The cell that is set. -/
theorem SnMid.at_ {w : World} {l : List Nd} {M : Nat} {v : Value} {k : Nat} {wr : World} (h : SnMid w l M v k wr) (hk : k < l.length) : ∃ g cap, v = .slice (some ⟨g, 0, none⟩) l.length cap ∧ w.heap.size ≤ g ∧ g < wr.heap.size ∧ g ≠ M ∧ l.length ≤ cap ∧ cap ≤ maxLen ∧ (∃ c, wr.cell? ⟨g, k * 4, none⟩ = some (.int .i64 c)) ∧ wr.frozen? ⟨g, k * 4, none⟩ = false := by
  obtain ⟨⟨p, hp, hc⟩, ⟨n, hn, hm⟩, hb, hle⟩ := h
  have hpl : p.length = l.length := by have := congrArg List.length hp; simp at this; omega
  rcases hc.row.2 with ⟨rfl, h0⟩ | ⟨g, cap, cur, rfl, hg0, hg, h1, h2, h3, h4⟩
  · omega
  · refine ⟨g, cap, by rw [hpl], hg0, lt_of_block hg, ?_, by omega, h2, ?_, frozen_of_heap hg _⟩
    · rintro rfl
      obtain ⟨D, ⟨es, c, h5, _⟩, _⟩ := hm
      rw [hg] at h5; cases h5
    · have hp2 : p[k]? = some (p[k].1, p[k].2) := by simp [hpl, hk]
      have := (ndCells_at p k _ _ hp2).1
      refine ⟨p[k].1.op, ?_⟩
      rw [cell_of_heap hg, ← Array.getElem?_toList, ← this, ← h4, List.getElem?_take, if_pos (by omega)]

end Go.Proofs.YtfdghbbanokopaaDoor

set_option linter.unusedSimpArgs false
set_option linter.unusedVariables false
namespace Go.Proofs.YtfdghbbanokopaaDoor
open Go.RowKit Go.Lib

/-- The slice reads as the texts qs. -/
def Strs (w : World) (ao : Option Addr) (cap : Nat) (qs : List ByteArray) : Prop :=
  qs.length ≤ cap ∧ cap ≤ maxLen ∧ (qs = [] ∨ ∃ b o, ao = some ⟨b, o, none⟩ ∧ b < w.heap.size ∧ ∀ j, j < qs.length → w.cell? ⟨b, o + j, none⟩ = some (.string (qs.getD j ⟨#[]⟩)))
theorem Strs.below {w w' : World} {ao : Option Addr} {cap : Nat} {qs : List ByteArray} (h : Strs w ao cap qs) (hb : Below w.heap.size w w') : Strs w' ao cap qs := by
  obtain ⟨h1, h2, h3⟩ := h
  refine ⟨h1, h2, ?_⟩
  rcases h3 with h3 | ⟨b, o, e, hlt, hc⟩
  · exact .inl h3
  · exact .inr ⟨b, o, e, Nat.lt_of_lt_of_le hlt hb.size, fun j hj => (hb.cell (p := ⟨b, o + j, none⟩) hlt).trans (hc j hj)⟩
theorem Strs.same {w w' : World} {ao : Option Addr} {cap : Nat} {qs : List ByteArray} (h : Strs w ao cap qs) (hs : w.heap.size ≤ w'.heap.size) (hb : ∀ b : Nat, b < w.heap.size → w'.heap[b]? = w.heap[b]?) : Strs w' ao cap qs := by
  obtain ⟨h1, h2, h3⟩ := h
  refine ⟨h1, h2, ?_⟩
  rcases h3 with h3 | ⟨b, o, e, hlt, hc⟩
  · exact .inl h3
  · exact .inr ⟨b, o, e, by omega, fun j hj => (World.cell?_of_block (a := ⟨b, o + j, none⟩) (hb b hlt)).trans (hc j hj)⟩

theorem Strs.cell {w : World} {ao : Option Addr} {cap : Nat} {qs : List ByteArray} (h : Strs w ao cap qs) {j : Nat} (hj : j < qs.length) : ∃ b o, ao = some ⟨b, o, none⟩ ∧ b < w.heap.size ∧ w.cell? ⟨b, o + j, none⟩ = some (.string (qs.getD j ⟨#[]⟩)) := by
  rcases h.2.2 with h | ⟨b, o, e, hlt, hc⟩
  · subst h; simp at hj
  · exact ⟨b, o, e, hlt, hc j hj⟩
theorem Rd.cell {w : World} {ao : Option Addr} {cap : Nat} {l : List Nd} (h : Rd w ao cap l) {k : Nat} (hk : k < l.length) : ∃ b o kv, ao = some ⟨b, o, none⟩ ∧ b < w.heap.size ∧ NodeAt w w.heap.size b (o + k * 4) (l.getD k nd0) kv := by
  obtain ⟨ao', cap', e1, _, _, hc⟩ := h
  cases e1
  rcases hc with h | ⟨b, o, e, hlt, hc⟩
  · subst h; simp at hk
  · obtain ⟨kv, hn⟩ := hc k hk
    exact ⟨b, o, kv, e, hlt, hn⟩

end Go.Proofs.YtfdghbbanokopaaDoor
