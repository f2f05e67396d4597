/-
  PaF, PaM, SwPure, SnW.
-/
import Derived.Shelf.Unicode.DecodeSlow
import Derived.Laws.RangeAny
import Derived.Shelf.Unicode.DecodeAny
import Derived.Test.YtlllkjbbldhddaaDoorProg
import Derived.WalkKit
import Derived.Deep.DeepFit
import Derived.Lib.OthersKept
import Derived.Lib.RuneCountTail
import Derived.Deep.AppendLies
import Derived.Deep.OwnRows
import Derived.Laws.AppendOwnNone
import Derived.Deep.QuietTactic
import Derived.BigQuiet
import Derived.Deep.RegionWith
import Derived.Laws.DeepStrings4
import Derived.Lib.MapLaws
import Derived.Sort.Walk0
import Derived.Lib.ItoaNum
import Derived.Maps.OwnSet
import Derived.StringKeys
import Derived.Deep.Slices
import Derived.Test.YtlllkjbbldhddaaDoorF01
import Derived.Test.YtlllkjbbldhddaaDoorF02
import Derived.Test.YtlllkjbbldhddaaDoorF03
import Derived.Test.YtlllkjbbldhddaaDoorF04
import Derived.Test.YtlllkjbbldhddaaDoorF05
import Derived.Test.YtlllkjbbldhddaaDoorF06
import Derived.Test.YtlllkjbbldhddaaDoorF07
import Derived.Test.YtlllkjbbldhddaaDoorF08
import Derived.Test.YtlllkjbbldhddaaDoorF09
import Derived.Test.YtlllkjbbldhddaaDoorF10
set_option linter.unusedSimpArgs false
set_option linter.unusedVariables false
namespace Go.Proofs.YtlllkjbbldhddaaDoor

def numL : List ByteArray → ByteArray → Nat
  | [], _ => 0
  | k :: ks, s => if k = s then 0 else numL ks s + 1
theorem numL_lt {ks : List ByteArray} {s : ByteArray} (h : s ∈ ks) : numL ks s < ks.length := by
  induction ks with
  | nil => simp at h
  | cons k ks ih =>
    unfold numL
    split
    · simp
    · rename_i hne
      rcases List.mem_cons.1 h with rfl | h
      · exact absurd rfl hne
      · have := ih h; simp; omega
theorem numL_app {ks m : List ByteArray} {s : ByteArray} (h : s ∈ ks) : numL (ks ++ m) s = numL ks s := by
  induction ks with
  | nil => simp at h
  | cons k ks ih =>
    simp only [List.cons_append, numL]
    split
    · rfl
    · rename_i hne
      rcases List.mem_cons.1 h with rfl | h
      · exact absurd rfl hne
      · rw [ih h]
theorem numL_new {ks : List ByteArray} {s : ByteArray} (h : s ∉ ks) : numL (ks ++ [s]) s = ks.length := by
  induction ks with
  | nil => simp [numL]
  | cons k ks ih =>
    simp only [List.mem_cons, not_or] at h
    simp only [List.cons_append, numL, if_neg (Ne.symm h.1), ih h.2, List.length_cons]
theorem foldl_mem : ∀ (l : List Nd) (acc : List ByteArray) (s : ByteArray), s ∈ acc → s ∈ l.foldl addNm acc
  | [], acc, s, h => h
  | x :: l, acc, s, h => by
    simp only [List.foldl_cons]
    refine foldl_mem l _ s ?_
    unfold addNm
    split
    · split
      · exact h
      · exact List.mem_append_left _ h
    · exact h
theorem foldl_hole : ∀ (l : List Nd) (acc : List ByteArray) (x : Nd), x ∈ l → x.op = 18 → x.name ∈ l.foldl addNm acc
  | y :: l, acc, x, hx, ho => by
    simp only [List.foldl_cons]
    rcases List.mem_cons.1 hx with rfl | hx
    · refine foldl_mem l _ _ ?_
      unfold addNm
      rw [if_pos ho]
      split
      · rename_i h
        obtain ⟨y, hy, he⟩ := List.any_eq_true.1 h
        rw [← of_decide_eq_true he]; exact hy
      · simp
    · exact foldl_hole l _ x hx ho
theorem mem_hls {l : List Nd} {x : Nd} (hx : x ∈ l) (ho : x.op = 18) : x.name ∈ hlsL l := foldl_hole l [] x hx ho

/-- What stands in a node's place. -/
def flN (ps : List (List Nd)) (ks : List ByteArray) (x : Nd) : List Hd := if x.op = 18 then hds (ps.getD (numL ks x.name) []) else [hd x]
/-- The heads of a filled pattern. -/
def flH (ps : List (List Nd)) (ks : List ByteArray) (l : List Nd) : List Hd := l.flatMap (flN ps ks)
theorem flH_app (ps : List (List Nd)) (ks : List ByteArray) (l m : List Nd) : flH ps ks (l ++ m) = flH ps ks l ++ flH ps ks m := by simp [flH]
theorem flH_one (ps : List (List Nd)) (ks : List ByteArray) (x : Nd) : flH ps ks [x] = flN ps ks x := by simp [flH]
theorem flH_take {ps : List (List Nd)} {ks : List ByteArray} {l : List Nd} {k : Nat} (h : k < l.length) : flH ps ks (l.take (k + 1)) = flH ps ks (l.take k) ++ flN ps ks (l.getD k nd0) := by
  rw [List.take_succ_eq_append_getElem h, flH_app, flH_one]; simp [h]
theorem flH_drop {ps : List (List Nd)} {ks : List ByteArray} {l : List Nd} {k : Nat} (h : k < l.length) : flH ps ks (l.drop k) = flN ps ks (l.getD k nd0) ++ flH ps ks (l.drop (k + 1)) := by
  rw [List.drop_eq_getElem_cons h]
  have : l.getD k nd0 = l[k] := by simp [h]
  rw [this]; exact List.flatMap_cons
/-- Each hole of l has a part with nodes. -/
def PtsOk (ps : List (List Nd)) (ks : List ByteArray) (l : List Nd) : Prop := ∀ x ∈ l, x.op = 18 → sndB (ps.getD (numL ks x.name) []) = true
theorem snd_len {l : List Nd} (h : sndB l = true) : 1 ≤ l.length ∧ l.length ≤ 64 := by
  obtain ⟨f, hf⟩ := Option.isSome_iff_exists.1 h
  have := begL_some hf
  omega
theorem flN_len {ps : List (List Nd)} {ks : List ByteArray} {l : List Nd} (h : PtsOk ps ks l) {x : Nd} (hx : x ∈ l) : 1 ≤ (flN ps ks x).length := by
  unfold flN
  split
  · rename_i ho
    rw [hds_len]; exact (snd_len (h x hx ho)).1
  · simp
theorem flH_ge {ps : List (List Nd)} {ks : List ByteArray} : ∀ {l : List Nd}, PtsOk ps ks l → l.length ≤ (flH ps ks l).length
  | [], _ => by simp [flH]
  | x :: l, h => by
    have h1 := flN_len h (x := x) (by simp)
    have h2 := flH_ge (l := l) (fun y hy => h y (List.mem_cons_of_mem _ hy))
    have e : flH ps ks (x :: l) = flN ps ks x ++ flH ps ks l := by simp [flH]
    rw [e]; simp; omega
theorem hd_fill {x : Nd} (h : x.op ≠ 18) : hd (fillN x) = hd x := by unfold fillN; rw [if_neg h]

/-- Filled from k on. -/
structure FlI (p : List Nd) (ps : List (List Nd)) (ks : List ByteArray) (k : Nat) (e : List Nd) : Prop where
  snd : sndB e = true
  eq : hds e = (hds (p.map fillN)).take k ++ flH ps ks (p.drop k)
theorem FlI.start {p : List Nd} (ps : List (List Nd)) (ks : List ByteArray) (h : sndB (p.map fillN) = true) : FlI p ps ks p.length (p.map fillN) :=
  ⟨h, by rw [List.take_of_length_le (by simp [hds]), List.drop_length]; simp [flH]⟩
theorem fillN_at {p : List Nd} {k : Nat} (hk : k < p.length) : (p.map fillN).getD k nd0 = fillN (p.getD k nd0) := by simp [hk]
theorem FlI.skip {p : List Nd} {ps : List (List Nd)} {ks : List ByteArray} {k : Nat} {e : List Nd} (h : FlI p ps ks (k + 1) e) (hk : k < p.length) (ho : (p.getD k nd0).op ≠ 18) : FlI p ps ks k e := by
  refine ⟨h.snd, ?_⟩
  rw [h.eq, hds_take_succ (by simpa using hk), fillN_at hk, hd_fill ho, flH_drop hk, List.append_assoc]
  unfold flN; rw [if_neg ho]
theorem FlI.at_ {p : List Nd} {ps : List (List Nd)} {ks : List ByteArray} {k : Nat} {e : List Nd} (h : FlI p ps ks (k + 1) e) (hk : k < p.length) (ho : (p.getD k nd0).op = 18) : k < e.length ∧ ∃ fr, begL e = some fr ∧ fr.getD k 0 = k := by
  obtain ⟨fr, hfr⟩ := Option.isSome_iff_exists.1 h.snd
  have hlen : k < e.length := by
    have := congrArg List.length h.eq
    rw [hds_len] at this
    simp [hds_len] at this
    omega
  refine ⟨hlen, fr, hfr, ?_⟩
  have hok := begOk_of (begL_some hfr).2.2.1
  obtain ⟨hf, hc⟩ := hok.at_ k hlen
  have h1 : (hds e).take (k + 1) = (hds (p.map fillN)).take (k + 1) := by
    rw [h.eq, List.take_append_of_le_length (by simp [hds_len]; omega), List.take_take]; congr 1; omega
  rw [hds_take_succ hlen, hds_take_succ (by simpa using hk), fillN_at hk] at h1
  have h2 := (List.append_inj' h1 rfl).2
  simp only [List.cons.injEq, and_true] at h2
  have h3 : (e.getD k nd0).op = 2 := by
    have : (hd (e.getD k nd0)).1 = (hd (fillN (p.getD k nd0))).1 := by rw [h2]
    simp only [hd] at this
    rw [this]; unfold fillN; rw [if_pos ho]
  have h4 := form_ar hf
  rw [h3] at h4
  have h5 : (e.getD k nd0).kids = [] := by
    have : aritI 2 = 0 := by decide
    rw [this] at h4
    exact List.length_eq_zero_iff.1 (by omega)
  rw [h5] at hc
  simp [chainL] at hc
  simpa using hc.symm
theorem FlI.put {p : List Nd} {ps : List (List Nd)} {ks : List ByteArray} {k : Nat} {e : List Nd} (h : FlI p ps ks (k + 1) e) (hk : k < p.length) (ho : (p.getD k nd0).op = 18) (hm : sndB (ps.getD (numL ks (p.getD k nd0).name) []) = true)
    (hl : e.length + (ps.getD (numL ks (p.getD k nd0).name) []).length ≤ 65) : FlI p ps ks k (putL e k k (ps.getD (numL ks (p.getD k nd0).name) [])) := by
  obtain ⟨hke, fr, hfr, hfk⟩ := h.at_ hk ho
  obtain ⟨fm, hfm⟩ := Option.isSome_iff_exists.1 hm
  obtain ⟨fx, hfx, _⟩ := put_snd hfr hfm k hke (by rw [hfk]; omega)
  rw [hfk] at hfx
  refine ⟨by unfold sndB; rw [hfx]; rfl, ?_⟩
  rw [hds_put, h.eq, flH_drop hk]
  have e1 : flN ps ks (p.getD k nd0) = hds (ps.getD (numL ks (p.getD k nd0).name) []) := by unfold flN; rw [if_pos ho]
  have e2 : ((hds (p.map fillN)).take (k + 1)).length = k + 1 := by simp [hds_len]; omega
  rw [e1, List.take_append_of_le_length (by omega), List.take_take, show min k (k + 1) = k by omega, List.drop_left' e2, List.append_assoc]
theorem FlI.large {p : List Nd} {ps : List (List Nd)} {ks : List ByteArray} {k : Nat} {e : List Nd} (h : FlI p ps ks (k + 1) e) (hk : k < p.length) (ho : (p.getD k nd0).op = 18) (hp : PtsOk ps ks p)
    (hl : 65 < e.length + (ps.getD (numL ks (p.getD k nd0).name) []).length) : 64 < (flH ps ks p).length := by
  have h1 := congrArg List.length h.eq
  rw [hds_len] at h1
  simp [hds_len] at h1
  have h2 : flH ps ks p = flH ps ks (p.take k) ++ (flN ps ks (p.getD k nd0) ++ flH ps ks (p.drop (k + 1))) := by rw [← flH_drop hk, ← flH_app, List.take_append_drop]
  have h3 := flH_ge (l := p.take k) (fun x hx => hp x (List.mem_of_mem_take hx))
  have e1 : flN ps ks (p.getD k nd0) = hds (ps.getD (numL ks (p.getD k nd0).name) []) := by unfold flN; rw [if_pos ho]
  rw [h2, e1]
  simp only [List.length_append, hds_len]
  simp at h3
  omega
theorem FlI.done {p : List Nd} {ps : List (List Nd)} {ks : List ByteArray} {e : List Nd} (h : FlI p ps ks 0 e) : hds e = flH ps ks p := by simpa using h.eq
end Go.Proofs.YtlllkjbbldhddaaDoor

set_option linter.unusedSimpArgs false
set_option linter.unusedVariables false
namespace Go.Proofs.YtlllkjbbldhddaaDoor
open Go.RowKit Go.Lib Go.Maps

/-- The number of a name, or 0. -/
def numZ (ks : List ByteArray) (s : ByteArray) : Nat := if ks.any (fun y => decide (y = s)) = true then numL ks s else 0
theorem any_mem (ks : List ByteArray) (s : ByteArray) : ks.any (fun y => decide (y = s)) = true ↔ s ∈ ks := by
  simp
theorem numZ_mem {ks : List ByteArray} {s : ByteArray} (h : s ∈ ks) : numZ ks s = numL ks s := by unfold numZ; rw [if_pos ((any_mem _ _).2 h)]
/-- Block B is a map of n stores: each of the names ks has its number. -/
def NumM (w : World) (B n : Nat) (ks : List ByteArray) : Prop :=
  ∃ D : DataW Unit, w.ownsMap Tryd.prog 9 (plainElem (H := Unit) Tryd.prog 3) B n D ∧ (∀ s, D.atKey (klB s) (.lit (.int .i64 0)) = .lit (.int .i64 (numZ ks s : Nat))) ∧ (∀ s, has D (klB s) = ks.any (fun y => decide (y = s)))

theorem NumM.made (w : World) : NumM (w.alloc (.map #[] 0)) w.heap.size 0 [] :=
  ⟨.map [], World.ownsMap_made _ _ _ _, fun s => rfl, fun s => rfl⟩
theorem NumM.lt {w : World} {B n : Nat} {ks : List ByteArray} (h : NumM w B n ks) : B < w.heap.size := let ⟨_, h, _⟩ := h; World.ownsMap.lt h
theorem NumM.kept {w w' : World} {B n : Nat} {ks : List ByteArray} {row : Option Nat} (h : NumM w B n ks) (hg : w.grownBy w' row) (hne : some B ≠ row) : NumM w' B n ks := let ⟨D, h, r⟩ := h; ⟨D, World.ownsMap.kept h hg hne, r⟩
theorem NumM.alloc {w : World} {B n : Nat} {ks : List ByteArray} (h : NumM w B n ks) (o : Obj) : NumM (w.alloc o) B n ks := let ⟨D, h, r⟩ := h; ⟨D, World.ownsMap.alloc h o, r⟩
theorem NumM.setCell {w : World} {B n : Nat} {ks : List ByteArray} (h : NumM w B n ks) {a : Addr} (ha : B ≠ a.block) (u : Value) : NumM (w.setCell a u) B n ks := let ⟨D, h, r⟩ := h; ⟨D, World.ownsMap.setCell h ha u, r⟩
theorem NumM.below {w w' : World} {B n : Nat} {ks : List ByteArray} (h : NumM w B n ks) (hb : Below w.heap.size w w') : NumM w' B n ks :=
  h.kept (row := none) ⟨hb.os, hb.tape, hb.output, hb.size, fun k hk _ => hb.block k hk⟩ (by simp)
theorem NumM.drew {w : World} {B n : Nat} {ks : List ByteArray} (h : NumM w B n ks) (q : Nat) : NumM (w.drewN q) B n ks :=
  h.below (below_drewN' (Below.refl _ _) q)

theorem NumM.look {w : World} {B n : Nat} {ks : List ByteArray} (h : NumM w B n ks) {s : ByteArray} (hs : s.size ≤ maxLen) :
    (Instr.lookup 91 (.map (some B)) (.string s) false).run Tryd.prog w = .ok (.int .i64 (numZ ks s : Nat)) w := by
  obtain ⟨D, hD, hc, hh⟩ := h
  obtain ⟨c, hr, hat, _⟩ := hD.lookup_int cntLaw Tryd.underlying91 Tryd.underlying3 (zeroInt w) (keyB hs)
  have e : c = (numZ ks s : Nat) := by
    have := hc s
    rw [hat] at this
    simpa using this
  rw [hr, e]
theorem NumM.look2 {w : World} {B n : Nat} {ks : List ByteArray} (h : NumM w B n ks) {s : ByteArray} (hs : s.size ≤ maxLen) :
    (Instr.lookup 91 (.map (some B)) (.string s) true).run Tryd.prog w = .ok (.tuple #[.int .i64 (numZ ks s : Nat), .bool (ks.any (fun y => decide (y = s)))]) w := by
  obtain ⟨D, hD, hc, hh⟩ := h
  obtain ⟨v, ps, hr, hv⟩ := hD.look_ok cntLaw Tryd.underlying91 (zeroInt w) (plainElem_int Tryd.underlying3 (show (Lit.int .i64 0).wf = true by decide)) (keyB hs)
  obtain ⟨c, rfl, hc2, _⟩ := plainElem_int_inv Tryd.underlying3 hv
  have e : c = (numZ ks s : Nat) := by
    have h1 := hc s
    have h2 := congrArg Prod.fst hc2
    simp only at h2
    rw [h1] at h2
    simpa using h2.symm
  rw [hr, e, hh s]
/-- A name more. -/
theorem NumM.more {w : World} {B n : Nat} {ks : List ByteArray} (h : NumM w B n ks) (hn : n ≤ 1000) (hk : ks.length ≤ 1000) {s : ByteArray} (hs : s.size ≤ maxLen) (hnew : ks.any (fun y => decide (y = s)) = false) :
    ∃ (w' : World), (Instr.mapUpdate 91 (.map (some B)) (.string s) (.int .i64 (ks.length : Nat))).run Tryd.prog w = .ok () w' ∧ NumM w' B (n + 1) (ks ++ [s]) ∧ w.grownBy w' (some B) := by
  obtain ⟨D, hD, hc, hh⟩ := h
  have hwf : (Lit.int .i64 (ks.length : Nat)).wf = true := by
    have e1 : IntKind.min .i64 = -9223372036854775808 := by decide
    have e2 : IntKind.max .i64 = 9223372036854775807 := by decide
    simp only [Lit.wf, e1, e2, Bool.and_eq_true, decide_eq_true_eq]
    omega
  have hns : s ∉ ks := fun hm => by rw [(any_mem ks s).2 hm] at hnew; cases hnew
  obtain ⟨w', h1, h2, h3⟩ := World.ownsMap.update hD cntLaw Tryd.underlying91 (by unfold maxLen; omega) (keyB hs) (plainElem_int Tryd.underlying3 hwf)
  refine ⟨w', h1, ⟨_, h2, fun t => ?_, fun t => ?_⟩, h3⟩
  · by_cases e : t = s
    · subst e
      rw [atKey_put_same hD.isMap (isKeyB t), numZ_mem (by simp), numL_new hns]
    · rw [atKey_put_other (fun e2 => e (klB_inj e2)), hc t]
      have : numZ (ks ++ [s]) t = numZ ks t := by
        unfold numZ
        by_cases ht : t ∈ ks
        · rw [if_pos ((any_mem _ _).2 ht), if_pos ((any_mem _ _).2 (List.mem_append_left _ ht)), numL_app ht]
        · rw [if_neg (fun h => ht ((any_mem _ _).1 h)), if_neg (fun h => by
            have := (any_mem _ _).1 h
            simp at this
            rcases this with h | h
            · exact ht h
            · exact e h)]
      rw [this]
  · by_cases e : t = s
    · subst e
      rw [has_put_same hD.isMap (isKeyB t)]
      simp
    · rw [has_put_other (fun e2 => e (klB_inj e2)), hh t]
      simp [Ne.symm e]
end Go.Proofs.YtlllkjbbldhddaaDoor

set_option linter.unusedSimpArgs false
set_option linter.unusedVariables false
namespace Go.Proofs.YtlllkjbbldhddaaDoor
open Go.RowKit Go.Lib

/-- One cell of an owned row is set. -/
theorem own_put {w : World} {base : Nat} {e : TypeId} {s n g cap : Nat} {xs : List Value} {i : Nat} {u : Value} (h : w.ownsRow base e s (.slice (some ⟨g, 0, none⟩) n cap) n xs) (hi : i < xs.length) : (w.setCell ⟨g, i, none⟩ u).ownsRow base e s (.slice (some ⟨g, 0, none⟩) n cap) n (xs.set i u) := by
  obtain ⟨h1, h2⟩ := h
  refine ⟨by simpa using h1, ?_⟩
  rcases h2 with ⟨h2, _⟩ | ⟨g', cap', cur, h3, hb, hg, hn, hm, hs, ht⟩
  · cases h2
  · cases h3
    refine .inr ⟨g, cap, cur.setIfInBounds i u, rfl, hb, heap_setCell_same w g i cur e u hg, hn, hm, by simpa using hs, ?_⟩
    rw [← ht]
    simp [List.take_set]

theorem own_block' {w : World} {base : Nat} {e : TypeId} {s n : Nat} {v : Value} {xs : List Value} (h : w.ownsRow base e s v n xs) : ∀ b, v.ownBlock = some b → base ≤ b ∧ b < w.heap.size := by
  intro b hb
  rcases h.2 with ⟨rfl, _⟩ | ⟨g, cap, cur, rfl, h1, h2, _⟩
  · cases hb
  · simp [Value.ownBlock] at hb; subst hb; exact ⟨h1, lt_of_block h2⟩
theorem own_same' {w w' : World} {base : Nat} {e : TypeId} {s n : Nat} {v : Value} {xs : List Value} (h : w.ownsRow base e s v n xs) (hb : ∀ b, v.ownBlock = some b → w'.heap[b]? = w.heap[b]?) : w'.ownsRow base e s v n xs := by
  rcases h with ⟨h1, h2⟩
  refine ⟨h1, ?_⟩
  rcases h2 with h2 | ⟨g, cap, cur, rfl, hg, h3, r⟩
  · exact .inl h2
  · exact .inr ⟨g, cap, cur, rfl, hg, (hb g rfl).trans h3, r⟩
theorem row_form' {w : World} {base : Nat} {e : TypeId} {s n : Nat} {v : Value} {xs : List Value} (h : w.ownsRow base e s v n xs) : ∃ ao cap, v = .slice ao n cap := by
  rcases h.2 with ⟨rfl, h0⟩ | ⟨g', cap', cur, rfl, _⟩
  · exact ⟨none, 0, by rw [h0]⟩
  · exact ⟨_, _, rfl⟩

theorem own_set' {w : World} {base p o : Nat} {e : TypeId} {s n : Nat} {v u : Value} {xs : List Value} (h : w.ownsRow base e s v n xs) (hp : v.ownBlock ≠ some p) : (w.setCell ⟨p, o, none⟩ u).ownsRow base e s v n xs :=
  own_same' h fun b hb => Deep.blk_setCell_other _ _ _ _ (by show b ≠ p; intro e; subst e; exact hp hb)

/-- The names' list, the number to stop at: where the function finds them. -/
structure Cst (w : World) (A Sb Nb : Nat) (stop : Int) (na : Option Addr) (nc : Nat) (names : List ByteArray) : Prop where
  sb : Sb < A
  nb : Nb < A
  stopC : w.cell? ⟨Sb, 0, none⟩ = some (.int .i64 stop)
  namesC : w.cell? ⟨Nb, 0, none⟩ = some (.slice na names.length nc)
  len : names.length ≤ nc ∧ nc ≤ maxLen
  row : names = [] ∨ ∃ b o, na = some ⟨b, o, none⟩ ∧ b < A ∧ ∀ j, j < names.length → w.cell? ⟨b, o + j, none⟩ = some (.string (names.getD j ⟨#[]⟩))
theorem Cst.below {w w' : World} {A Sb Nb : Nat} {stop : Int} {na : Option Addr} {nc : Nat} {names : List ByteArray} (h : Cst w A Sb Nb stop na nc names) (hb : Below A w w') : Cst w' A Sb Nb stop na nc names :=
  ⟨h.sb, h.nb, (hb.cell (p := ⟨Sb, 0, none⟩) h.sb).trans h.stopC, (hb.cell (p := ⟨Nb, 0, none⟩) h.nb).trans h.namesC, h.len, by
    rcases h.row with h | ⟨b, o, e, hlt, hc⟩
    · exact .inl h
    · exact .inr ⟨b, o, e, hlt, fun j hj => (hb.cell (p := ⟨b, o + j, none⟩) hlt).trans (hc j hj)⟩⟩

/-- What has been asked. -/
structure AskAt (w : World) (A : Nat) (va : Value) (qs : List ByteArray) : Prop where
  blk : w.heap[A]? = some (.cells #[va] 33 (0, 0))
  row : w.ownsRow (A + 1) 9 1 va qs.length (qs.map Value.string)
theorem AskAt.below {w w' : World} {A : Nat} {va : Value} {qs : List ByteArray} (h : AskAt w A va qs) (hb : Below w.heap.size w w') : AskAt w' A va qs :=
  ⟨(hb.block _ (lt_of_block h.blk)).trans h.blk, ownsRow_below h.row hb⟩

theorem row_cell {w : World} {base : Nat} {e : TypeId} {v : Value} {n : Nat} {xs : List Value} (h : w.ownsRow base e 1 v n xs) {i : Nat} (hi : i < n) {d : Value} : ∃ g cap, v = .slice (some ⟨g, 0, none⟩) n cap ∧ g < w.heap.size ∧ n ≤ cap ∧ cap ≤ maxLen ∧ w.cell? ⟨g, i, none⟩ = some (xs.getD i d) := by
  obtain ⟨h1, h2⟩ := h
  rcases h2 with ⟨rfl, h0⟩ | ⟨g, cap, cur, rfl, hb, hg, hn, hm, hs, ht⟩
  · omega
  · refine ⟨g, cap, rfl, lt_of_block hg, hn, hm, ?_⟩
    have hc : w.cell? ⟨g, i, none⟩ = cur[i]? := by simp [World.cell?, hg]
    rw [hc, ← Array.getElem?_toList]
    have e : cur.toList[i]? = (cur.toList.take (n * 1))[i]? := by rw [List.getElem?_take, if_pos (by omega)]
    rw [e, ht]
    simp [show i < xs.length by omega]
end Go.Proofs.YtlllkjbbldhddaaDoor

set_option linter.unusedSimpArgs false
set_option linter.unusedVariables false
namespace Go.Proofs.YtlllkjbbldhddaaDoor
open Go.RowKit Go.Lib Go.Maps Go.Deep

/-- Nodes of the call's own whose kids are others'. -/
structure ClN (w : World) (base B : Nat) (v : Value) (p : List (Nd × Value)) : Prop where
  row : w.ownsRow base 63 4 v p.length (ndCells p)
  kids : ∀ q ∈ p, Ints w B q.2 q.1.kids
theorem ClN.nodes {w : World} {base B C : Nat} {v : Value} {p : List (Nd × Value)} (h : ClN w base B v p) (hB : w.heap.size ≤ C) (hC : B ≤ C) : Nodes w C v (p.map (·.1)) := by
  obtain ⟨h1, h2⟩ := h.row
  rcases h2 with ⟨rfl, h0⟩ | ⟨g, cap, cur, rfl, hb, hg, hn, hm, hs, ht⟩
  · have : p = [] := List.length_eq_zero_iff.1 h0
    subst this
    exact ⟨none, 0, rfl, by simp, by simp, .inl rfl⟩
  · refine ⟨_, cap, by simp, by simpa using hn, hm, .inr ⟨g, 0, rfl, ?_, fun i hi => ?_⟩⟩
    · have := lt_of_block hg; omega
    · simp at hi
      have hp : p[i]? = some (p[i].1, p[i].2) := by simp [hi]
      have hx : (p.map (·.1)).getD i nd0 = p[i].1 := by simp [hi]
      obtain ⟨a0, a1, a2, a3⟩ := ndCells_at p i _ _ hp
      have hc : ∀ j, j < p.length * 4 → w.cell? ⟨g, j, none⟩ = (ndCells p)[j]? := by
        intro j hj
        have : w.cell? ⟨g, j, none⟩ = cur[j]? := by simp [World.cell?, hg]
        rw [this, ← Array.getElem?_toList, ← ht, List.getElem?_take, if_pos (by omega)]
      rw [hx]
      refine ⟨p[i].2, ?_, ?_, ?_, ?_, ?_⟩
      · rw [Nat.zero_add, hc _ (by omega), a0]
      · rw [Nat.zero_add, hc _ (by omega), a1]
      · rw [Nat.zero_add, hc _ (by omega), a2]
      · rw [Nat.zero_add, hc _ (by omega), a3]
      · exact (h.kids p[i] (by simp)).mono hC

theorem eql_nilN (ao : Option Addr) (n c : Nat) (w : World) : (binOp .eql 22 (.slice ao n c) (.slice none 0 0)).run Tryd.prog w = .ok (.bool ao.isNone) w := by
  cases ao <;> kernel_rfl

theorem nd_one {w : World} {B b o : Nat} {l : List Nd} (h : ∀ i, i < l.length → ∃ kv, NodeAt w B b (o + i * 4) (l.getD i nd0) kv) : ∃ p : List (Nd × Value), p.map (·.1) = l ∧ (∀ q ∈ p, Ints w B q.2 q.1.kids) ∧ ∀ j u, (ndCells p)[j]? = some u → w.cell? ⟨b, o + j, none⟩ = some u := by
  have : Inhabited Value := ⟨.slice none 0 0⟩
  obtain ⟨kf, hk⟩ := choose_lt h
  refine ⟨(List.range l.length).map fun i => (l.getD i nd0, kf i), ?_, ?_, ?_⟩
  · apply List.ext_getElem?
    intro i
    by_cases hi : i < l.length
    · simp [hi]
    · simp [hi]
  · intro q hq
    obtain ⟨i, hi, rfl⟩ := List.mem_map.1 hq
    rw [List.mem_range] at hi
    exact (hk i hi).kids
  · intro j u hj
    have hjl : j < l.length * 4 := by
      have := (List.getElem?_eq_some_iff.1 hj).1
      rw [ndCells_length] at this; simpa using this
    have hi : j / 4 < l.length := by omega
    have hp : ((List.range l.length).map fun i => (l.getD i nd0, kf i))[j / 4]? = some (l.getD (j / 4) nd0, kf (j / 4)) := by simp [hi]
    obtain ⟨a0, a1, a2, a3⟩ := ndCells_at _ _ _ _ hp
    have hN := hk (j / 4) hi
    have hr : j % 4 = 0 ∨ j % 4 = 1 ∨ j % 4 = 2 ∨ j % 4 = 3 := by omega
    rcases hr with hr | hr | hr | hr
    · have e : j = j / 4 * 4 := by omega
      rw [← e] at a0
      rw [a0] at hj; cases hj
      have := hN.c0; rw [← e] at this; exact this
    · have e : j = j / 4 * 4 + 1 := by omega
      rw [← e] at a1
      rw [a1] at hj; cases hj
      have := hN.c1; rw [Nat.add_assoc, ← e] at this; exact this
    · have e : j = j / 4 * 4 + 2 := by omega
      rw [← e] at a2
      rw [a2] at hj; cases hj
      have := hN.c2; rw [Nat.add_assoc, ← e] at this; exact this
    · have e : j = j / 4 * 4 + 3 := by omega
      rw [← e] at a3
      rw [a3] at hj; cases hj
      have := hN.c3; rw [Nat.add_assoc, ← e] at this; exact this

theorem nd_cell1 {p : List (Nd × Value)} (h : ∀ q ∈ p, ∃ a n c, q.2 = .slice a n c) : ∀ u ∈ ndCells p, u.oneCell' = true := by
  induction p with
  | nil => simp [ndCells]
  | cons a r ih =>
    obtain ⟨x, kv⟩ := a
    obtain ⟨ka, kn, kc, rfl⟩ := h (x, kv) (by simp)
    intro u hu
    simp only [ndCells, List.mem_cons] at hu
    rcases hu with rfl | rfl | rfl | rfl | hu
    · rfl
    · rfl
    · rfl
    · rfl
    · exact ih (fun q hq => h q (List.mem_cons_of_mem _ hq)) u hu

theorem ndCells_op (p : List (Nd × Value)) (k : Nat) (x : Nd) (kv : Value) (z : Int) (h : p[k]? = some (x, kv)) : ndCells (p.set k ({ x with op := z }, kv)) = (ndCells p).set (k * 4) (.int .i64 z) := by
  induction p generalizing k with
  | nil => simp at h
  | cons a r ih =>
    obtain ⟨y, kw⟩ := a
    cases k with
    | zero =>
      simp at h
      obtain ⟨rfl, rfl⟩ := h
      simp [ndCells]
    | succ k =>
      have := ih k (by simpa using h)
      have e : (k + 1) * 4 = k * 4 + 4 := by omega
      rw [e]
      simp [ndCells, this]

/-- Between two nodes: those ahead of k are filled. -/
structure SnMid (w : World) (l : List Nd) (M : Nat) (v : Value) (k : Nat) (wr : World) : Prop where
  p : ∃ p, p.map (·.1) = (l.take k).map fillN ++ l.drop k ∧ ClN wr w.heap.size w.heap.size v p
  map : ∃ n, n ≤ k ∧ CntM wr M n (hlsL (l.take k))
  below : Below w.heap.size w wr
  le : w.heap.size ≤ M

theorem fill_step {l : List Nd} {k : Nat} (hk : k < l.length) (h : (l.getD k nd0).op ≠ 18) : (l.take (k + 1)).map fillN ++ l.drop (k + 1) = (l.take k).map fillN ++ l.drop k := by
  rw [List.take_succ_eq_append_getElem hk, List.map_append, List.drop_eq_getElem_cons hk]
  have e : l.getD k nd0 = l[k] := by simp [hk]
  rw [e] at h
  simp [fillN, h]
theorem SnMid.skip {w : World} {l : List Nd} {M : Nat} {v : Value} {k : Nat} {wr : World} (h : SnMid w l M v k wr) (hk : k < l.length) (hop : (l.getD k nd0).op ≠ 18) (o : Obj) : SnMid w l M v (k + 1) (wr.alloc o) := by
  obtain ⟨⟨p, hp, hc⟩, ⟨n, hn, hm⟩, hb, hle⟩ := h
  have hs := hb.size
  refine ⟨⟨p, by rw [fill_step hk hop]; exact hp, hc.row.alloc _, fun q hq => (hc.kids q hq).below (((Below.refl _ _).alloc hs _)) (Nat.le_refl _)⟩, ⟨n, by omega, ?_⟩, hb.alloc hs _, hle⟩
  have e : hlsL (l.take (k + 1)) = hlsL (l.take k) := by
    rw [List.take_succ_eq_append_getElem hk, hlsL_snoc]
    have e : l.getD k nd0 = l[k] := by simp [hk]
    rw [e] at hop
    simp [addNm, hop]
  rw [e]; exact hm.alloc _

/-- The cell that is set. -/
theorem SnMid.at_ {w : World} {l : List Nd} {M : Nat} {v : Value} {k : Nat} {wr : World} (h : SnMid w l M v k wr) (hk : k < l.length) : ∃ g cap, v = .slice (some ⟨g, 0, none⟩) l.length cap ∧ w.heap.size ≤ g ∧ g < wr.heap.size ∧ g ≠ M ∧ l.length ≤ cap ∧ cap ≤ maxLen ∧ (∃ c, wr.cell? ⟨g, k * 4, none⟩ = some (.int .i64 c)) ∧ wr.frozen? ⟨g, k * 4, none⟩ = false := by
  obtain ⟨⟨p, hp, hc⟩, ⟨n, hn, hm⟩, hb, hle⟩ := h
  have hpl : p.length = l.length := by have := congrArg List.length hp; simp at this; omega
  rcases hc.row.2 with ⟨rfl, h0⟩ | ⟨g, cap, cur, rfl, hg0, hg, h1, h2, h3, h4⟩
  · omega
  · refine ⟨g, cap, by rw [hpl], hg0, lt_of_block hg, ?_, by omega, h2, ?_, frozen_of_heap hg _⟩
    · rintro rfl
      obtain ⟨D, ⟨es, c, h5, _⟩, _⟩ := hm
      rw [hg] at h5; cases h5
    · have hp2 : p[k]? = some (p[k].1, p[k].2) := by simp [hpl, hk]
      have := (ndCells_at p k _ _ hp2).1
      refine ⟨p[k].1.op, ?_⟩
      rw [cell_of_heap hg, ← Array.getElem?_toList, ← this, ← h4, List.getElem?_take, if_pos (by omega)]

theorem SnMid.fill {w : World} {l : List Nd} {M : Nat} {g cap : Nat} {k : Nat} {wr w' : World} {o : Obj} {n : Nat} (h : SnMid w l M (.slice (some ⟨g, 0, none⟩) l.length cap) k wr) (hk : k < l.length) (hop : (l.getD k nd0).op = 18) (hn : n ≤ k)
    (hm : CntM w' M (n + 1) (if (hlsL (l.take k)).any (fun y => decide (y = (l.getD k nd0).name)) = true then hlsL (l.take k) else hlsL (l.take k) ++ [(l.getD k nd0).name])) (hg : (wr.alloc o).grownBy w' (some M)) : SnMid w l M (.slice (some ⟨g, 0, none⟩) l.length cap) (k + 1) (w'.setCell ⟨g, k * 4, none⟩ (.int .i64 2)) := by
  obtain ⟨g', cap', e1, hg0, hgl, hgM, _⟩ := h.at_ hk
  cases e1
  obtain ⟨⟨p, hp, hc⟩, _, hb, hle⟩ := h
  have hs := hb.size
  have hpl : p.length = l.length := by have := congrArg List.length hp; simp at this; omega
  have hbA : Below w.heap.size w (wr.alloc o) := hb.alloc hs _
  have hb' : Below w.heap.size w w' := hbA.grown hg (by simp; omega) (fun k hk => by cases hk; exact hle)
  have hb2 : Below w.heap.size wr w' := ((Below.refl _ _).alloc hs _).grown hg (by simp; omega) (fun k hk => by cases hk; exact hle)
  have e : l.getD k nd0 = l[k] := by simp [hk]
  have hx : ((l.take k).map fillN ++ l.drop k)[k]? = some l[k] := by
    rw [List.getElem?_append_right (by simp; omega)]
    have : k - ((l.take k).map fillN).length = 0 := by simp; omega
    rw [this]; simp [hk]
  have hpk : p[k]? = some (l[k], (p.getD k (nd0, .slice none 0 0)).2) := by
    have hkp : k < p.length := by omega
    have : (p.map (·.1))[k]? = some l[k] := by rw [hp]; exact hx
    simp [hkp] at this
    simp [hkp, ← this]
  have hrow : w'.ownsRow w.heap.size 63 4 (.slice (some ⟨g, 0, none⟩) l.length cap) l.length (ndCells p) := by
    have h1 := World.ownsRow.kept (hc.row.alloc o) hg (.inr (by simp [Value.ownBlock]; exact hgM))
    rw [hpl] at h1; exact h1
  have hfl : fillN l[k] = { l[k] with op := 2 } := by rw [e] at hop; simp [fillN, hop]
  refine ⟨⟨p.set k ({ l[k] with op := 2 }, (p.getD k (nd0, .slice none 0 0)).2), ?_, ?_, ?_⟩, ⟨n + 1, by omega, ?_⟩, hb'.setCell (p := ⟨g, k * 4, none⟩) hg0 _, hle⟩
  · rw [List.map_set, hp, ← hfl]
    rw [List.take_succ_eq_append_getElem hk, List.map_append, List.set_append_right _ _ (by simp; omega)]
    have : k - ((l.take k).map fillN).length = 0 := by simp; omega
    rw [this, List.drop_eq_getElem_cons hk, List.set_cons_zero, List.append_assoc]
    rfl
  · rw [ndCells_op p k _ _ 2 hpk, List.length_set, hpl]
    exact own_put hrow (by rw [ndCells_length]; omega)
  · intro q hq
    have hin : ∀ q ∈ p, Ints (w'.setCell ⟨g, k * 4, none⟩ (.int .i64 2)) w.heap.size q.2 q.1.kids := fun q hq => (hc.kids q hq).below (hb2.setCell (p := ⟨g, k * 4, none⟩) hg0 _) (Nat.le_refl _)
    rcases List.mem_or_eq_of_mem_set hq with hq | rfl
    · exact hin q hq
    · exact hin (l[k], _) (List.mem_of_getElem? hpk)
  · have e2 : hlsL (l.take (k + 1)) = addNm (hlsL (l.take k)) (l.getD k nd0) := by rw [List.take_succ_eq_append_getElem hk, hlsL_snoc, e]
    have e3 : addNm (hlsL (l.take k)) (l.getD k nd0) = if (hlsL (l.take k)).any (fun y => decide (y = (l.getD k nd0).name)) = true then hlsL (l.take k) else hlsL (l.take k) ++ [(l.getD k nd0).name] := by unfold addNm; rw [if_pos hop]
    rw [e2, e3]
    exact hm.setCell (by show M ≠ g; omega) _
end Go.Proofs.YtlllkjbbldhddaaDoor
