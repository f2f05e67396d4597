/-
  PaHl, PaP, PaF, PaNu, CntW, PaM.
-/
import Derived.Shelf.Unicode.DecodeSlow
import Derived.Laws.RangeAny
import Derived.Shelf.Strconv.Itoa0
import Derived.Shelf.Unicode.DecodeAny
import Derived.Test.YtjkcbigmebbkkaaDoorProg
import Derived.WalkKit
import Derived.Deep.DeepFit
import Derived.Lib.OthersKept
import Derived.Lib.RuneCountTail
import Derived.Deep.AppendLies
import Derived.Deep.OwnRows
import Derived.Laws.AppendOwnNone
import Derived.Deep.QuietTactic
import Derived.BigQuiet
import Derived.Deep.RegionWith
import Derived.Laws.DeepStrings4
import Derived.Lib.MapLaws
import Derived.Sort.Walk0
import Derived.Lib.ItoaNum
import Derived.Maps.OwnSet
import Derived.StringKeys
import Derived.Test.YtjkcbigmebbkkaaDoorY01
import Derived.Test.YtjkcbigmebbkkaaDoorY02
import Derived.Test.YtjkcbigmebbkkaaDoorY03
import Derived.Test.YtjkcbigmebbkkaaDoorY04
import Derived.Test.YtjkcbigmebbkkaaDoorY05
import Derived.Test.YtjkcbigmebbkkaaDoorY07
import Derived.Test.YtjkcbigmebbkkaaDoorY08
import Derived.Test.YtjkcbigmebbkkaaDoorY13
set_option linter.unusedSimpArgs false
set_option linter.unusedVariables false
namespace Go.Proofs.YtjkcbigmebbkkaaDoor
open Go.RowKit Go.Lib

theorem ho_ext {a b : ByteArray} (h : a.data.toList = b.data.toList) : a = b := by
  apply ByteArray.ext
  exact Array.ext' h

theorem beq_toLisO (a b : ByteArray) : (a.toList == b.toList) = decide (a = b) := by
  rw [toList_data, toList_data]
  by_cases h : a = b
  · subst h; simp
  · have : a.data.toList ≠ b.data.toList := fun e => h (ho_ext e)
    rw [beq_eq_false_iff_ne.2 this]
    simp [h]
end Go.Proofs.YtjkcbigmebbkkaaDoor

set_option linter.unusedSimpArgs false
set_option linter.unusedVariables false
namespace Go.Proofs.YtjkcbigmebbkkaaDoor

abbrev Hd := Int × Int × ByteArray
def hd (x : Nd) : Hd := (x.op, x.n, x.name)
def hds (l : List Nd) : List Hd := l.map hd
theorem hds_len (l : List Nd) : (hds l).length = l.length := by simp [hds]
theorem hds_app (l m : List Nd) : hds (l ++ m) = hds l ++ hds m := by simp [hds]
theorem hd_mv (f b : Int) (x : Nd) : hd (mvN f b x) = hd x := rfl
theorem hds_mv (f b : Int) (l : List Nd) : hds (l.map (mvN f b)) = hds l := by simp [hds, Function.comp_def, hd_mv]
theorem hds_part (l : List Nd) (a i : Nat) : hds (partL l a i) = ((hds l).drop a).take (i + 1 - a) := by
  unfold partL; rw [hds_mv]; simp [hds]
theorem hds_put (l m : List Nd) (a i : Nat) : hds (putL l a i m) = (hds l).take a ++ hds m ++ (hds l).drop (i + 1) := by
  unfold putL; rw [hds_app, hds_app, hds_mv, hds_mv, hds_mv]; simp [hds]

theorem chain_det {fr : List Nat} : ∀ (ks ms : List Int) (c a b : Nat), ks.length = ms.length → chainL fr ks c = some a → chainL fr ms c = some b → ks = ms ∧ a = b
  | [], [], c, a, b, _, h1, h2 => by simp [chainL] at h1 h2; exact ⟨rfl, by omega⟩
  | k :: ks, m :: ms, c, a, b, hl, h1, h2 => by
    simp only [chainL] at h1 h2
    split at h1
    · cases h1
    · split at h2
      · cases h2
      · obtain ⟨e1, e2⟩ := chain_det ks ms _ _ _ (by simpa using hl) h1 h2
        have : k = m := by omega
        exact ⟨by rw [this, e1], e2⟩
theorem form_ar {x : Nd} (h : formB x = true) : (x.kids.length : Int) = aritI x.op := by
  unfold formB fitB at h
  simp only [Bool.and_eq_true, decide_eq_true_eq] at h
  exact h.1.1.2
theorem stp_det {fr f g : List Nat} {x y : Nd} (h : stp fr x = some f) (h' : stp fr y = some g) (he : hd x = hd y) : x = y ∧ f = g := by
  obtain ⟨hf, a, hc, rfl⟩ := stp_some h
  obtain ⟨hg, b, hd', rfl⟩ := stp_some h'
  obtain ⟨o, n, nm, ks⟩ := x
  obtain ⟨o', n', nm', ks'⟩ := y
  simp only [hd, Prod.mk.injEq] at he
  obtain ⟨rfl, rfl, rfl⟩ := he
  have h1 := form_ar hf
  have h2 := form_ar hg
  simp only at h1 h2 hc hd'
  obtain ⟨e1, e2⟩ := chain_det _ _ _ _ _ (by simp; omega) hc hd'
  have : ks = ks' := by simpa using congrArg List.reverse e1
  subst this; subst e2
  exact ⟨rfl, rfl⟩
theorem beg_det : ∀ (l m : List Nd) (fr f g : List Nat), begR fr l = some f → begR fr m = some g → hds l = hds m → l = m
  | [], [], _, _, _, _, _, _ => rfl
  | x :: l, y :: m, fr, f, g, h1, h2, he => by
    simp only [begR] at h1 h2
    simp only [hds, List.map_cons, List.cons.injEq] at he
    cases hx : stp fr x with
    | none => rw [hx] at h1; cases h1
    | some f1 =>
      cases hy : stp fr y with
      | none => rw [hy] at h2; cases h2
      | some g1 =>
        obtain ⟨e1, e2⟩ := stp_det hx hy he.1
        subst e1; subst e2
        rw [hx] at h1; rw [hy] at h2
        rw [beg_det l m f1 f g h1 h2 he.2]
  | [], _ :: _, _, _, _, _, _, he => by simp [hds] at he
  | _ :: _, [], _, _, _, _, _, he => by simp [hds] at he
theorem snd_det {l m : List Nd} (hl : sndB l = true) (hm : sndB m = true) (he : hds l = hds m) : l = m := by
  obtain ⟨f, hf⟩ := Option.isSome_iff_exists.1 hl
  obtain ⟨g, hg⟩ := Option.isSome_iff_exists.1 hm
  exact beg_det l m [] f g (begL_some hf).2.2.1 (begL_some hg).2.2.1 he

/-! ### how many stand side by side -/
def dep (hs : List Hd) : Int := (hs.map fun h => 1 - aritI h.1).sum
theorem dep_app (a b : List Hd) : dep (a ++ b) = dep a + dep b := by simp [dep]
theorem dep_nil : dep [] = 0 := rfl
theorem dep_one (h : Hd) : dep [h] = 1 - aritI h.1 := by simp [dep]
theorem hds_take_succ {l : List Nd} {k : Nat} (h : k < l.length) : (hds l).take (k + 1) = (hds l).take k ++ [hd (l.getD k nd0)] := by
  rw [List.take_succ_eq_append_getElem (by rw [hds_len]; exact h)]
  simp [hds, h]
theorem dep_chain {l : List Nd} {fr : List Nat} (K : Nat) (ih : ∀ c, c < K → dep ((hds l).take (c + 1)) = dep ((hds l).take (fr.getD c 0)) + 1) (hlow : Low fr) :
    ∀ (ks : List Int) (c a : Nat), c ≤ K → chainL fr ks c = some a → dep ((hds l).take c) = dep ((hds l).take a) + ks.length
  | [], c, a, _, h => by simp [chainL] at h; subst h; simp
  | k :: ks, c, a, hc, h => by
    simp only [chainL] at h
    split at h
    · cases h
    · rename_i hh
      have h1 := ih (c - 1) (by omega)
      have e : c - 1 + 1 = c := by omega
      rw [e] at h1
      have hl := hlow (c - 1)
      have h2 := dep_chain K ih hlow ks _ _ (by omega) h
      rw [h1, h2]; simp; omega
theorem dep_step {l : List Nd} {fr : List Nat} (h : BegOk l fr) : ∀ (n k : Nat), k < n → k < l.length → dep ((hds l).take (k + 1)) = dep ((hds l).take (fr.getD k 0)) + 1
  | 0, k, h0, _ => by omega
  | n + 1, k, h0, hk => by
    obtain ⟨hf, hc⟩ := h.at_ k hk
    have h1 := dep_chain (l := l) k (fun c hc => dep_step h n c (by omega) (by omega)) h.low _ _ _ (Nat.le_refl k) hc
    rw [hds_take_succ hk, dep_app, dep_one, h1]
    have := form_ar hf
    have e : (hd (l.getD k nd0)).1 = (l.getD k nd0).op := rfl
    rw [e, List.length_reverse]; omega
theorem dep_beg {l : List Nd} {fr : List Nat} (h : BegOk l fr) {k : Nat} (hk : k < l.length) : dep ((hds l).take (k + 1)) = dep ((hds l).take (fr.getD k 0)) + 1 := dep_step h (k + 1) k (by omega) hk
theorem dep_ge {l : List Nd} {fr : List Nat} (h : BegOk l fr) : ∀ (n k : Nat), k < n → k ≤ l.length → 0 ≤ dep ((hds l).take k)
  | 0, k, h0, _ => by omega
  | n + 1, 0, _, _ => by simp [dep_nil]
  | n + 1, k + 1, h0, hk => by
    rw [dep_beg h (by omega)]
    have := h.low k
    have := dep_ge h n (fr.getD k 0) (by omega) (by omega)
    omega
theorem dep_nn {l : List Nd} {fr : List Nat} (h : BegOk l fr) {k : Nat} (hk : k ≤ l.length) : 0 ≤ dep ((hds l).take k) := dep_ge h (k + 1) k (by omega) hk
theorem dep_pos {l : List Nd} {fr : List Nat} (h : BegOk l fr) {k : Nat} (h0 : 0 < k) (hk : k ≤ l.length) : 1 ≤ dep ((hds l).take k) := by
  obtain ⟨j, rfl⟩ : ∃ j, k = j + 1 := ⟨k - 1, by omega⟩
  rw [dep_beg h (by omega)]
  have := h.low j
  have := dep_nn h (k := fr.getD j 0) (by omega)
  omega
theorem dep_whole {l : List Nd} {fr : List Nat} (h : begL l = some fr) : dep (hds l) = 1 := by
  obtain ⟨h0, _, hr, ht⟩ := begL_some h
  have := dep_beg (begOk_of hr) (k := l.length - 1) (by omega)
  rw [ht, show l.length - 1 + 1 = (hds l).length by rw [hds_len]; omega, List.take_length] at this
  simpa [dep_nil] using this

/-- What ends at a place and is sound is the part there. -/
theorem part_at {e r : List Nd} {fe fr : List Nat} {A : List Hd} {a : Nat} (he : begL e = some fe) (hr : begL r = some fr) (ha : a ≤ e.length) (h : (hds e).take a = A ++ hds r) :
    fe.getD (a - 1) 0 = A.length ∧ partL e (fe.getD (a - 1) 0) (a - 1) = r := by
  have hok := begOk_of (begL_some he).2.2.1
  have hrk := begOk_of (begL_some hr).2.2.1
  have hr0 := (begL_some hr).1
  have hlen : a = A.length + r.length := by
    have := congrArg List.length h
    simp [hds_len] at this; omega
  obtain ⟨b', hb'⟩ : ∃ b', fe.getD (a - 1) 0 = b' := ⟨_, rfl⟩
  have hlow := hok.low (a - 1)
  have h1 := dep_beg hok (k := a - 1) (by omega)
  rw [hb'] at h1 hlow
  have e1 : a - 1 + 1 = a := by omega
  rw [e1, h, dep_app, dep_whole hr] at h1
  have tk : ∀ c, c ≤ a → (hds e).take c = (A ++ hds r).take c := fun c hc => by
    rw [← h, List.take_take]; congr 1; omega
  have hA : dep ((hds e).take A.length) = dep A := by
    rw [tk _ (by omega), List.take_left]
  have hbA : b' = A.length := by
    rcases Nat.lt_trichotomy b' A.length with hlt | heq | hgt
    · exfalso
      have hp := part_ok hok (a - 1) (by omega)
      rw [hb'] at hp
      have hpl := partL_len e b' (a - 1) (by omega) hlow
      have h2 := dep_pos hp (k := A.length - b') (by omega) (by rw [hpl]; omega)
      rw [hds_part, List.take_take] at h2
      have e2 : min (A.length - b') (a - 1 + 1 - b') = A.length - b' := by omega
      rw [e2] at h2
      have e3 : (hds e).take A.length = (hds e).take b' ++ ((hds e).drop b').take (A.length - b') := by
        have := List.take_add (l := hds e) (i := b') (j := A.length - b')
        rw [← this]; congr 1; omega
      have h3 := hA
      rw [e3, dep_app] at h3
      omega
    · exact heq
    · exfalso
      have h2 := dep_pos hrk (k := b' - A.length) (by omega) (by omega)
      rw [tk _ (by omega), List.take_append, dep_app, List.take_of_length_le (by omega)] at h1
      omega
  refine ⟨by rw [hb']; exact hbA, ?_⟩
  obtain ⟨fo, hfo⟩ := part_snd he (a - 1) (by omega)
  refine snd_det (by unfold sndB; rw [hfo]; rfl) (by unfold sndB; rw [hr]; rfl) ?_
  rw [hds_part, hb', hbA]
  have e2 : a - 1 + 1 - A.length = r.length := by omega
  rw [e2]
  have e3 : (hds e).drop A.length = (A ++ hds r ++ (hds e).drop a).drop A.length := by rw [← h, List.take_append_drop]
  rw [e3, List.append_assoc, List.drop_left, List.take_left' (hds_len r)]
end Go.Proofs.YtjkcbigmebbkkaaDoor

set_option linter.unusedSimpArgs false
set_option linter.unusedVariables false
namespace Go.Proofs.YtjkcbigmebbkkaaDoor

def numL : List ByteArray → ByteArray → Nat
  | [], _ => 0
  | k :: ks, s => if k = s then 0 else numL ks s + 1
theorem numL_lt {ks : List ByteArray} {s : ByteArray} (h : s ∈ ks) : numL ks s < ks.length := by
  induction ks with
  | nil => simp at h
  | cons k ks ih =>
    unfold numL
    split
    · simp
    · rename_i hne
      rcases List.mem_cons.1 h with rfl | h
      · exact absurd rfl hne
      · have := ih h; simp; omega
theorem numL_app {ks m : List ByteArray} {s : ByteArray} (h : s ∈ ks) : numL (ks ++ m) s = numL ks s := by
  induction ks with
  | nil => simp at h
  | cons k ks ih =>
    simp only [List.cons_append, numL]
    split
    · rfl
    · rename_i hne
      rcases List.mem_cons.1 h with rfl | h
      · exact absurd rfl hne
      · rw [ih h]
theorem numL_new {ks : List ByteArray} {s : ByteArray} (h : s ∉ ks) : numL (ks ++ [s]) s = ks.length := by
  induction ks with
  | nil => simp [numL]
  | cons k ks ih =>
    simp only [List.mem_cons, not_or] at h
    simp only [List.cons_append, numL, if_neg (Ne.symm h.1), ih h.2, List.length_cons]
theorem foldl_mem : ∀ (l : List Nd) (acc : List ByteArray) (s : ByteArray), s ∈ acc → s ∈ l.foldl addNm acc
  | [], acc, s, h => h
  | x :: l, acc, s, h => by
    simp only [List.foldl_cons]
    refine foldl_mem l _ s ?_
    unfold addNm
    split
    · split
      · exact h
      · exact List.mem_append_left _ h
    · exact h
theorem foldl_hole : ∀ (l : List Nd) (acc : List ByteArray) (x : Nd), x ∈ l → x.op = 18 → x.name ∈ l.foldl addNm acc
  | y :: l, acc, x, hx, ho => by
    simp only [List.foldl_cons]
    rcases List.mem_cons.1 hx with rfl | hx
    · refine foldl_mem l _ _ ?_
      unfold addNm
      rw [if_pos ho]
      split
      · rename_i h
        obtain ⟨y, hy, he⟩ := List.any_eq_true.1 h
        rw [← of_decide_eq_true he]; exact hy
      · simp
    · exact foldl_hole l _ x hx ho
theorem mem_hls {l : List Nd} {x : Nd} (hx : x ∈ l) (ho : x.op = 18) : x.name ∈ hlsL l := foldl_hole l [] x hx ho

/-- What stands in a node's place. -/
def flN (ps : List (List Nd)) (ks : List ByteArray) (x : Nd) : List Hd := if x.op = 18 then hds (ps.getD (numL ks x.name) []) else [hd x]
/-- The heads of a filled pattern. -/
def flH (ps : List (List Nd)) (ks : List ByteArray) (l : List Nd) : List Hd := l.flatMap (flN ps ks)
theorem flH_app (ps : List (List Nd)) (ks : List ByteArray) (l m : List Nd) : flH ps ks (l ++ m) = flH ps ks l ++ flH ps ks m := by simp [flH]
theorem flH_one (ps : List (List Nd)) (ks : List ByteArray) (x : Nd) : flH ps ks [x] = flN ps ks x := by simp [flH]
theorem flH_take {ps : List (List Nd)} {ks : List ByteArray} {l : List Nd} {k : Nat} (h : k < l.length) : flH ps ks (l.take (k + 1)) = flH ps ks (l.take k) ++ flN ps ks (l.getD k nd0) := by
  rw [List.take_succ_eq_append_getElem h, flH_app, flH_one]; simp [h]
theorem flH_drop {ps : List (List Nd)} {ks : List ByteArray} {l : List Nd} {k : Nat} (h : k < l.length) : flH ps ks (l.drop k) = flN ps ks (l.getD k nd0) ++ flH ps ks (l.drop (k + 1)) := by
  rw [List.drop_eq_getElem_cons h]
  have : l.getD k nd0 = l[k] := by simp [h]
  rw [this]; exact List.flatMap_cons
/-- Each hole of l has a part with nodes. -/
def PtsOk (ps : List (List Nd)) (ks : List ByteArray) (l : List Nd) : Prop := ∀ x ∈ l, x.op = 18 → sndB (ps.getD (numL ks x.name) []) = true
/-- Filled from k on. -/
structure FlI (p : List Nd) (ps : List (List Nd)) (ks : List ByteArray) (k : Nat) (e : List Nd) : Prop where
  snd : sndB e = true
  eq : hds e = (hds (p.map fillN)).take k ++ flH ps ks (p.drop k)
theorem FlI.start {p : List Nd} (ps : List (List Nd)) (ks : List ByteArray) (h : sndB (p.map fillN) = true) : FlI p ps ks p.length (p.map fillN) :=
  ⟨h, by rw [List.take_of_length_le (by simp [hds]), List.drop_length]; simp [flH]⟩
theorem fillN_at {p : List Nd} {k : Nat} (hk : k < p.length) : (p.map fillN).getD k nd0 = fillN (p.getD k nd0) := by simp [hk]
theorem FlI.at_ {p : List Nd} {ps : List (List Nd)} {ks : List ByteArray} {k : Nat} {e : List Nd} (h : FlI p ps ks (k + 1) e) (hk : k < p.length) (ho : (p.getD k nd0).op = 18) : k < e.length ∧ ∃ fr, begL e = some fr ∧ fr.getD k 0 = k := by
  obtain ⟨fr, hfr⟩ := Option.isSome_iff_exists.1 h.snd
  have hlen : k < e.length := by
    have := congrArg List.length h.eq
    rw [hds_len] at this
    simp [hds_len] at this
    omega
  refine ⟨hlen, fr, hfr, ?_⟩
  have hok := begOk_of (begL_some hfr).2.2.1
  obtain ⟨hf, hc⟩ := hok.at_ k hlen
  have h1 : (hds e).take (k + 1) = (hds (p.map fillN)).take (k + 1) := by
    rw [h.eq, List.take_append_of_le_length (by simp [hds_len]; omega), List.take_take]; congr 1; omega
  rw [hds_take_succ hlen, hds_take_succ (by simpa using hk), fillN_at hk] at h1
  have h2 := (List.append_inj' h1 rfl).2
  simp only [List.cons.injEq, and_true] at h2
  have h3 : (e.getD k nd0).op = 2 := by
    have : (hd (e.getD k nd0)).1 = (hd (fillN (p.getD k nd0))).1 := by rw [h2]
    simp only [hd] at this
    rw [this]; unfold fillN; rw [if_pos ho]
  have h4 := form_ar hf
  rw [h3] at h4
  have h5 : (e.getD k nd0).kids = [] := by
    have : aritI 2 = 0 := by decide
    rw [this] at h4
    exact List.length_eq_zero_iff.1 (by omega)
  rw [h5] at hc
  simp [chainL] at hc
  simpa using hc.symm
theorem FlI.put {p : List Nd} {ps : List (List Nd)} {ks : List ByteArray} {k : Nat} {e : List Nd} (h : FlI p ps ks (k + 1) e) (hk : k < p.length) (ho : (p.getD k nd0).op = 18) (hm : sndB (ps.getD (numL ks (p.getD k nd0).name) []) = true)
    (hl : e.length + (ps.getD (numL ks (p.getD k nd0).name) []).length ≤ 65) : FlI p ps ks k (putL e k k (ps.getD (numL ks (p.getD k nd0).name) [])) := by
  obtain ⟨hke, fr, hfr, hfk⟩ := h.at_ hk ho
  obtain ⟨fm, hfm⟩ := Option.isSome_iff_exists.1 hm
  obtain ⟨fx, hfx, _⟩ := put_snd hfr hfm k hke (by rw [hfk]; omega)
  rw [hfk] at hfx
  refine ⟨by unfold sndB; rw [hfx]; rfl, ?_⟩
  rw [hds_put, h.eq, flH_drop hk]
  have e1 : flN ps ks (p.getD k nd0) = hds (ps.getD (numL ks (p.getD k nd0).name) []) := by unfold flN; rw [if_pos ho]
  have e2 : ((hds (p.map fillN)).take (k + 1)).length = k + 1 := by simp [hds_len]; omega
  rw [e1, List.take_append_of_le_length (by omega), List.take_take, show min k (k + 1) = k by omega, List.drop_left' e2, List.append_assoc]
end Go.Proofs.YtjkcbigmebbkkaaDoor

set_option linter.unusedSimpArgs false
set_option linter.unusedVariables false
namespace Go.Proofs.YtjkcbigmebbkkaaDoor
open Go.RowKit Go.Lib

def numW (ks : List ByteArray) (s : ByteArray) : Int := if ks.any (fun y => decide (y = s)) = true then (numL ks s : Nat) else -1
theorem numW_mem {ks : List ByteArray} {s : ByteArray} (h : s ∈ ks) : numW ks s = (numL ks s : Nat) := by
  unfold numW
  rw [if_pos (List.any_eq_true.2 ⟨s, h, by simp⟩)]
theorem numL_stop : ∀ (ks : List ByteArray) (s : ByteArray) (k : Nat), (ks.take k).any (fun y => decide (y = s)) = false → (hk : k < ks.length) → ks[k] = s → numL ks s = k
  | y :: ks, s, 0, _, _, he => by simp at he; unfold numL; rw [if_pos he]
  | y :: ks, s, k + 1, h, hk, he => by
    simp only [List.take_succ_cons, List.any_cons, Bool.or_eq_false_iff] at h
    unfold numL
    rw [if_neg (of_decide_eq_false h.1), numL_stop ks s k h.2 (by simpa using hk) (by simpa using he)]

end Go.Proofs.YtjkcbigmebbkkaaDoor

set_option linter.unusedSimpArgs false
set_option linter.unusedVariables false
namespace Go.Proofs.YtjkcbigmebbkkaaDoor
open Go.RowKit Go.Lib Go.Maps

theorem cntLaw : Keyed Tryd.prog 9 := string_keyed Tryd.underlying9
theorem zeroInt (w : World) : (zeroValue 3).run Tryd.prog w = .ok (.int .i64 0) w := by kernel_rfl
def klB (s : ByteArray) : Lit := .string s.data.toList
theorem keyB {s : ByteArray} (h : s.size ≤ maxLen) : keyOf Tryd.prog 9 (.string s) = some (klB s) := Go.WideMaps.keyOf_string_mk Tryd.underlying9 h
theorem isKeyB (s : ByteArray) : WideAt.IsKeyLit (klB s) := trivial
theorem klB_inj {s t : ByteArray} (h : klB s = klB t) : s = t := by
  have : s.data.toList = t.data.toList := by simpa [klB] using h
  exact ByteArray.ext (by simpa using congrArg List.toArray this)

/-- Block B is a map of n stores whose keys are the texts ks. -/
def CntM (w : World) (B n : Nat) (ks : List ByteArray) : Prop :=
  ∃ D : DataW Unit, w.ownsMap Tryd.prog 9 (plainElem (H := Unit) Tryd.prog 3) B n D ∧ (∀ s, ∃ c : Nat, c ≤ n ∧ D.atKey (klB s) (.lit (.int .i64 0)) = .lit (.int .i64 (c : Int))) ∧ Maps.size D = ks.length ∧ (∀ s, has D (klB s) = ks.any (fun y => decide (y = s)))

theorem CntM.made (w : World) : CntM (w.alloc (.map #[] 0)) w.heap.size 0 [] :=
  ⟨.map [], World.ownsMap_made _ _ _ _, fun s => ⟨0, Nat.le_refl _, rfl⟩, rfl, fun s => rfl⟩
theorem CntM.lt {w : World} {B n : Nat} {ks : List ByteArray} (h : CntM w B n ks) : B < w.heap.size := let ⟨_, h, _⟩ := h; World.ownsMap.lt h
theorem CntM.kept {w w' : World} {B n : Nat} {ks : List ByteArray} {row : Option Nat} (h : CntM w B n ks) (hg : w.grownBy w' row) (hne : some B ≠ row) : CntM w' B n ks := let ⟨D, h, r⟩ := h; ⟨D, World.ownsMap.kept h hg hne, r⟩
theorem CntM.alloc {w : World} {B n : Nat} {ks : List ByteArray} (h : CntM w B n ks) (o : Obj) : CntM (w.alloc o) B n ks := let ⟨D, h, r⟩ := h; ⟨D, World.ownsMap.alloc h o, r⟩
theorem CntM.setCell {w : World} {B n : Nat} {ks : List ByteArray} (h : CntM w B n ks) {a : Addr} (ha : B ≠ a.block) (u : Value) : CntM (w.setCell a u) B n ks := let ⟨D, h, r⟩ := h; ⟨D, World.ownsMap.setCell h ha u, r⟩

/-- One more is counted: what is read, and what is laid. -/
theorem CntM.more {w : World} {B n : Nat} {ks : List ByteArray} (h : CntM w B n ks) (hn : n ≤ 1000) {s : ByteArray} (hs : s.size ≤ maxLen) :
    ∃ (c : Nat) (w' : World), c ≤ n ∧ (Instr.lookup 97 (.map (some B)) (.string s) false).run Tryd.prog w = .ok (.int .i64 (c : Int)) w ∧
      (Instr.mapUpdate 97 (.map (some B)) (.string s) (.int .i64 ((c : Int) + 1))).run Tryd.prog w = .ok () w' ∧ CntM w' B (n + 1) (if ks.any (fun y => decide (y = s)) = true then ks else ks ++ [s]) ∧ w.grownBy w' (some B) := by
  obtain ⟨D, hD, hc, hz, hh⟩ := h
  obtain ⟨c', hr, hat, hw⟩ := hD.lookup_int cntLaw Tryd.underlying97 Tryd.underlying3 (zeroInt w) (keyB hs)
  obtain ⟨c, hcn, hcs⟩ := hc s
  have e : c' = (c : Int) := by
    rw [hat] at hcs
    simpa using hcs
  subst e
  have hwf : (Lit.int .i64 ((c : Int) + 1)).wf = true := by
    have e1 : IntKind.min .i64 = -9223372036854775808 := by decide
    have e2 : IntKind.max .i64 = 9223372036854775807 := by decide
    simp only [Lit.wf, e1, e2, Bool.and_eq_true, decide_eq_true_eq]
    omega
  obtain ⟨w', h1, h2, h3⟩ := World.ownsMap.update hD cntLaw Tryd.underlying97 (by unfold maxLen; omega) (keyB hs) (plainElem_int Tryd.underlying3 hwf)
  refine ⟨c, w', hcn, hr, h1, ⟨_, h2, fun t => ?_, ?_, fun t => ?_⟩, h3⟩
  · by_cases e : t = s
    · subst e
      exact ⟨c + 1, by omega, by rw [atKey_put_same hD.isMap (isKeyB t)]; simp⟩
    · obtain ⟨ct, hct, hat'⟩ := hc t
      exact ⟨ct, by omega, by rw [atKey_put_other (fun e2 => e (klB_inj e2))]; exact hat'⟩
  · rw [size_put (hD.tidy cntLaw), hh s, hz]
    split
    · rfl
    · simp
  · by_cases e : t = s
    · subst e
      rw [has_put_same hD.isMap (isKeyB t)]
      split
      · rename_i h; rw [h]
      · simp
    · rw [has_put_other (fun e2 => e (klB_inj e2)), hh t]
      split
      · rfl
      · simp [Ne.symm e]
theorem CntM.len {w : World} {B n : Nat} {ks : List ByteArray} (h : CntM w B n ks) (ty : TypeId) :
    (Builtin.len_ #[97 ] ty #[.map (some B)]).run Tryd.prog w = .ok (.int .i64 (ks.length : Nat)) w := by
  obtain ⟨D, hD, _, hz, _⟩ := h
  rw [World.ownsMap.len hD Tryd.underlying97 ty, hz]
end Go.Proofs.YtjkcbigmebbkkaaDoor

set_option linter.unusedSimpArgs false
set_option linter.unusedVariables false
namespace Go.Proofs.YtjkcbigmebbkkaaDoor
open Go.RowKit Go.Lib Go.Maps

/-- The number of a name, or 0. -/
def numZ (ks : List ByteArray) (s : ByteArray) : Nat := if ks.any (fun y => decide (y = s)) = true then numL ks s else 0
theorem any_mem (ks : List ByteArray) (s : ByteArray) : ks.any (fun y => decide (y = s)) = true ↔ s ∈ ks := by
  simp
theorem numZ_mem {ks : List ByteArray} {s : ByteArray} (h : s ∈ ks) : numZ ks s = numL ks s := by unfold numZ; rw [if_pos ((any_mem _ _).2 h)]
/-- Block B is a map of n stores: each of the names ks has its number. -/
def NumM (w : World) (B n : Nat) (ks : List ByteArray) : Prop :=
  ∃ D : DataW Unit, w.ownsMap Tryd.prog 9 (plainElem (H := Unit) Tryd.prog 3) B n D ∧ (∀ s, D.atKey (klB s) (.lit (.int .i64 0)) = .lit (.int .i64 (numZ ks s : Nat))) ∧ (∀ s, has D (klB s) = ks.any (fun y => decide (y = s)))

theorem NumM.made (w : World) : NumM (w.alloc (.map #[] 0)) w.heap.size 0 [] :=
  ⟨.map [], World.ownsMap_made _ _ _ _, fun s => rfl, fun s => rfl⟩
theorem NumM.lt {w : World} {B n : Nat} {ks : List ByteArray} (h : NumM w B n ks) : B < w.heap.size := let ⟨_, h, _⟩ := h; World.ownsMap.lt h
theorem NumM.kept {w w' : World} {B n : Nat} {ks : List ByteArray} {row : Option Nat} (h : NumM w B n ks) (hg : w.grownBy w' row) (hne : some B ≠ row) : NumM w' B n ks := let ⟨D, h, r⟩ := h; ⟨D, World.ownsMap.kept h hg hne, r⟩
theorem NumM.alloc {w : World} {B n : Nat} {ks : List ByteArray} (h : NumM w B n ks) (o : Obj) : NumM (w.alloc o) B n ks := let ⟨D, h, r⟩ := h; ⟨D, World.ownsMap.alloc h o, r⟩
theorem NumM.setCell {w : World} {B n : Nat} {ks : List ByteArray} (h : NumM w B n ks) {a : Addr} (ha : B ≠ a.block) (u : Value) : NumM (w.setCell a u) B n ks := let ⟨D, h, r⟩ := h; ⟨D, World.ownsMap.setCell h ha u, r⟩
theorem NumM.below {w w' : World} {B n : Nat} {ks : List ByteArray} (h : NumM w B n ks) (hb : Below w.heap.size w w') : NumM w' B n ks :=
  h.kept (row := none) ⟨hb.os, hb.tape, hb.output, hb.size, fun k hk _ => hb.block k hk⟩ (by simp)
theorem NumM.drew {w : World} {B n : Nat} {ks : List ByteArray} (h : NumM w B n ks) (q : Nat) : NumM (w.drewN q) B n ks :=
  h.below (below_drewN' (Below.refl _ _) q)

theorem NumM.look2 {w : World} {B n : Nat} {ks : List ByteArray} (h : NumM w B n ks) {s : ByteArray} (hs : s.size ≤ maxLen) :
    (Instr.lookup 97 (.map (some B)) (.string s) true).run Tryd.prog w = .ok (.tuple #[.int .i64 (numZ ks s : Nat), .bool (ks.any (fun y => decide (y = s)))]) w := by
  obtain ⟨D, hD, hc, hh⟩ := h
  obtain ⟨v, ps, hr, hv⟩ := hD.look_ok cntLaw Tryd.underlying97 (zeroInt w) (plainElem_int Tryd.underlying3 (show (Lit.int .i64 0).wf = true by decide)) (keyB hs)
  obtain ⟨c, rfl, hc2, _⟩ := plainElem_int_inv Tryd.underlying3 hv
  have e : c = (numZ ks s : Nat) := by
    have h1 := hc s
    have h2 := congrArg Prod.fst hc2
    simp only at h2
    rw [h1] at h2
    simpa using h2.symm
  rw [hr, e, hh s]
/-- A name more. -/
theorem NumM.more {w : World} {B n : Nat} {ks : List ByteArray} (h : NumM w B n ks) (hn : n ≤ 1000) (hk : ks.length ≤ 1000) {s : ByteArray} (hs : s.size ≤ maxLen) (hnew : ks.any (fun y => decide (y = s)) = false) :
    ∃ (w' : World), (Instr.mapUpdate 97 (.map (some B)) (.string s) (.int .i64 (ks.length : Nat))).run Tryd.prog w = .ok () w' ∧ NumM w' B (n + 1) (ks ++ [s]) ∧ w.grownBy w' (some B) := by
  obtain ⟨D, hD, hc, hh⟩ := h
  have hwf : (Lit.int .i64 (ks.length : Nat)).wf = true := by
    have e1 : IntKind.min .i64 = -9223372036854775808 := by decide
    have e2 : IntKind.max .i64 = 9223372036854775807 := by decide
    simp only [Lit.wf, e1, e2, Bool.and_eq_true, decide_eq_true_eq]
    omega
  have hns : s ∉ ks := fun hm => by rw [(any_mem ks s).2 hm] at hnew; cases hnew
  obtain ⟨w', h1, h2, h3⟩ := World.ownsMap.update hD cntLaw Tryd.underlying97 (by unfold maxLen; omega) (keyB hs) (plainElem_int Tryd.underlying3 hwf)
  refine ⟨w', h1, ⟨_, h2, fun t => ?_, fun t => ?_⟩, h3⟩
  · by_cases e : t = s
    · subst e
      rw [atKey_put_same hD.isMap (isKeyB t), numZ_mem (by simp), numL_new hns]
    · rw [atKey_put_other (fun e2 => e (klB_inj e2)), hc t]
      have : numZ (ks ++ [s]) t = numZ ks t := by
        unfold numZ
        by_cases ht : t ∈ ks
        · rw [if_pos ((any_mem _ _).2 ht), if_pos ((any_mem _ _).2 (List.mem_append_left _ ht)), numL_app ht]
        · rw [if_neg (fun h => ht ((any_mem _ _).1 h)), if_neg (fun h => by
            have := (any_mem _ _).1 h
            simp at this
            rcases this with h | h
            · exact ht h
            · exact e h)]
      rw [this]
  · by_cases e : t = s
    · subst e
      rw [has_put_same hD.isMap (isKeyB t)]
      simp
    · rw [has_put_other (fun e2 => e (klB_inj e2)), hh t]
      simp [Ne.symm e]
end Go.Proofs.YtjkcbigmebbkkaaDoor
