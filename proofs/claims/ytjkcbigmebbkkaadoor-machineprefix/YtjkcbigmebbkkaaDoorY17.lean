/-
  PaFt, ExDepW, RbPure, MaQ, MaR.
-/
import Derived.Shelf.Unicode.DecodeSlow
import Derived.Laws.RangeAny
import Derived.Shelf.Strconv.Itoa0
import Derived.Shelf.Unicode.DecodeAny
import Derived.Test.YtjkcbigmebbkkaaDoorProg
import Derived.WalkKit
import Derived.Deep.DeepFit
import Derived.Lib.OthersKept
import Derived.Lib.RuneCountTail
import Derived.Deep.AppendLies
import Derived.Deep.OwnRows
import Derived.Laws.AppendOwnNone
import Derived.Deep.QuietTactic
import Derived.BigQuiet
import Derived.Deep.RegionWith
import Derived.Laws.DeepStrings4
import Derived.Laws.CopyOwn
import Derived.Laws.MakeOwn
import Derived.Deep.RegionLaw
import Derived.Below
import Derived.Deep.RegionHeld3
import Derived.Lib.QuietBelow
import Derived.StillTail
import Derived.Lib.MapLaws
import Derived.Sort.Walk0
import Derived.Lib.ItoaNum
import Derived.Maps.OwnSet
import Derived.StringKeys
import Derived.Deep.Slices
import Derived.Laws.ResultCell
import Derived.Test.YtjkcbigmebbkkaaDoorY01
import Derived.Test.YtjkcbigmebbkkaaDoorY02
import Derived.Test.YtjkcbigmebbkkaaDoorY03
import Derived.Test.YtjkcbigmebbkkaaDoorY04
import Derived.Test.YtjkcbigmebbkkaaDoorY05
import Derived.Test.YtjkcbigmebbkkaaDoorY06
import Derived.Test.YtjkcbigmebbkkaaDoorY07
import Derived.Test.YtjkcbigmebbkkaaDoorY08
import Derived.Test.YtjkcbigmebbkkaaDoorY09
import Derived.Test.YtjkcbigmebbkkaaDoorY10
import Derived.Test.YtjkcbigmebbkkaaDoorY11
import Derived.Test.YtjkcbigmebbkkaaDoorY12
import Derived.Test.YtjkcbigmebbkkaaDoorY13
import Derived.Test.YtjkcbigmebbkkaaDoorY14
import Derived.Test.YtjkcbigmebbkkaaDoorY15
import Derived.Test.YtjkcbigmebbkkaaDoorY16
set_option linter.unusedSimpArgs false
set_option linter.unusedVariables false
namespace Go.Proofs.YtjkcbigmebbkkaaDoor

theorem foldl_hit : ∀ (l : List Nd) (acc : List ByteArray) (s : ByteArray), s ∈ l.foldl addNm acc → s ∈ acc ∨ ∃ x ∈ l, x.op = 18 ∧ x.name = s
  | [], acc, s, h => .inl h
  | x :: l, acc, s, h => by
    simp only [List.foldl_cons] at h
    rcases foldl_hit l _ s h with h | ⟨y, hy, h⟩
    · unfold addNm at h
      split at h
      · rename_i ho
        split at h
        · exact .inl h
        · rcases List.mem_append.1 h with h | h
          · exact .inl h
          · simp at h; exact .inr ⟨x, by simp, ho, h.symm⟩
      · exact .inl h
    · exact .inr ⟨y, List.mem_cons_of_mem _ hy, h⟩
theorem foldl_nodup : ∀ (l : List Nd) (acc : List ByteArray), acc.Nodup → (l.foldl addNm acc).Nodup
  | [], acc, h => h
  | x :: l, acc, h => by
    simp only [List.foldl_cons]
    refine foldl_nodup l _ ?_
    unfold addNm
    split
    · split
      · exact h
      · rename_i hn
        refine List.nodup_append.2 ⟨h, by simp, fun a ha b hb => ?_⟩
        simp at hb; subst hb
        rintro rfl
        exact hn (List.any_eq_true.2 ⟨_, ha, by simp⟩)
    · exact h
theorem numL_get : ∀ (ks : List ByteArray) (n : Nat) (h : n < ks.length), ks.Nodup → numL ks ks[n] = n
  | k :: ks, 0, h, _ => by simp [numL]
  | k :: ks, n + 1, h, hd => by
    simp only [List.getElem_cons_succ, numL]
    have hd' := List.nodup_cons.1 hd
    rw [if_neg (fun e => hd'.1 (by rw [e]; exact List.getElem_mem _)), numL_get ks n (by simpa using h) hd'.2]
/-- Each number is a hole's. -/
theorem hls_hit {l : List Nd} {n : Nat} (h : n < (hlsL l).length) : ∃ x ∈ l, x.op = 18 ∧ numL (hlsL l) x.name = n := by
  have hm : (hlsL l)[n] ∈ hlsL l := List.getElem_mem h
  rcases foldl_hit l [] _ hm with h1 | ⟨x, hx, ho, he⟩
  · simp at h1
  · refine ⟨x, hx, ho, ?_⟩
    rw [he]
    exact numL_get _ _ h (foldl_nodup l [] List.nodup_nil)
theorem hole_lt {l : List Nd} {x : Nd} (hx : x ∈ l) (ho : x.op = 18) : numL (hlsL l) x.name < (hlsL l).length := numL_lt (mem_hls hx ho)
theorem getD_mem {α : Type} {l : List α} {d : α} {n : Nat} (h : n < l.length) : l.getD n d ∈ l := by
  have : l.getD n d = l[n] := by simp [h]
  rw [this]; exact List.getElem_mem h

/-- The parts with which a pattern is e. -/
structure FtOk (l e : List Nd) (ps : List (List Nd)) : Prop where
  len : ps.length = (hlsL l).length
  snd : ∀ r ∈ ps, sndB r = true
  eq : hds e = flH ps (hlsL l) l
theorem FtOk.pts {l e : List Nd} {ps : List (List Nd)} (h : FtOk l e ps) : PtsOk ps (hlsL l) l := fun x hx ho => h.snd _ (getD_mem (by rw [h.len]; exact hole_lt hx ho))
/-- What fits, from the right. -/
structure FtI (l e : List Nd) (k a : Nat) (ps : List (List Nd)) : Prop where
  le : a ≤ e.length
  kle : k ≤ l.length
  len : ps.length = (hlsL l).length
  dp : dep ((hds e).take a) = dep ((hds (l.map fillN)).take k)
  eq : (hds e).drop a = flH ps (hlsL l) (l.drop k)
  pts : PtsOk ps (hlsL l) (l.drop k)
  all : ∀ n, n < ps.length → ps.getD n [] = [] ∨ sndB (ps.getD n []) = true
  uniq : ∀ qs, FtOk l e qs → (hds e).take a = flH qs (hlsL l) (l.take k) ∧ ∀ n, n < ps.length → ps.getD n [] = [] ∨ ps.getD n [] = qs.getD n []
theorem FtI.start {l e : List Nd} {fe fr : List Nat} (he : begL e = some fe) (hl : begL (l.map fillN) = some fr) : FtI l e l.length e.length (List.replicate (hlsL l).length []) := by
  have hg : ∀ n, (List.replicate (hlsL l).length ([] : List Nd)).getD n [] = [] := fun n => by
    rw [List.getD_eq_getElem?_getD, List.getElem?_replicate]; split <;> rfl
  refine ⟨Nat.le_refl _, Nat.le_refl _, by simp, ?_, ?_, ?_, fun n _ => .inl (hg n), fun qs hq => ⟨?_, fun n _ => .inl (hg n)⟩⟩
  · rw [List.take_of_length_le (by rw [hds_len]; exact Nat.le_refl _), List.take_of_length_le (by rw [hds_len]; simp), dep_whole he, dep_whole hl]
  · rw [List.drop_eq_nil_of_le (by rw [hds_len]; exact Nat.le_refl _), List.drop_eq_nil_of_le (Nat.le_refl _)]; rfl
  · rw [List.drop_eq_nil_of_le (Nat.le_refl _)]; intro x hx; simp at hx
  · rw [List.take_of_length_le (by rw [hds_len]; exact Nat.le_refl _), List.take_of_length_le (Nat.le_refl _)]; exact hq.eq
theorem FtI.pos {l e : List Nd} {k a : Nat} {ps : List (List Nd)} {fr : List Nat} (hl : begL (l.map fillN) = some fr) (h : FtI l e (k + 1) a ps) : 0 < a := by
  have h1 := dep_pos (begOk_of (begL_some hl).2.2.1) (k := k + 1) (by omega) (by simpa using h.kle)
  rw [← h.dp] at h1
  rcases Nat.eq_zero_or_pos a with h0 | h0
  · subst h0; simp [dep_nil] at h1
  · exact h0
/-- What a fitting has at a hole. -/
theorem FtI.at_ {l e : List Nd} {fe : List Nat} {k a : Nat} {ps : List (List Nd)} (he : begL e = some fe) (h : FtI l e (k + 1) (a + 1) ps) (ho : (l.getD k nd0).op = 18) {qs : List (List Nd)} (hq : FtOk l e qs) :
    (hds e).take (fe.getD a 0) = flH qs (hlsL l) (l.take k) ∧ partL e (fe.getD a 0) a = qs.getD (numL (hlsL l) (l.getD k nd0).name) [] := by
  have hk : k < l.length := by have := h.kle; omega
  have ha : a < e.length := by have := h.le; omega
  have h1 := (h.uniq qs hq).1
  rw [flH_take hk] at h1
  have e1 : flN qs (hlsL l) (l.getD k nd0) = hds (qs.getD (numL (hlsL l) (l.getD k nd0).name) []) := by unfold flN; rw [if_pos ho]
  rw [e1] at h1
  have hs := hq.pts _ (getD_mem hk) ho
  obtain ⟨f, hf⟩ := Option.isSome_iff_exists.1 hs
  obtain ⟨h2, h3⟩ := part_at he hf h.le h1
  simp only [Nat.add_sub_cancel] at h2 h3
  refine ⟨?_, h3⟩
  have h4 : (hds e).take (fe.getD a 0) = ((hds e).take (a + 1)).take (fe.getD a 0) := by
    rw [List.take_take]
    have := (begOk_of (begL_some he).2.2.1).low a
    congr 1; omega
  rw [h4, h1, h2, List.take_left]
/-- What fits is one. -/
theorem FtOk.one {l e : List Nd} {fe : List Nat} {ps qs : List (List Nd)} (he : begL e = some fe) (hp : FtOk l e ps) (hq : FtOk l e qs) : ps = qs := by
  have key : ∀ m k, k + m = l.length → ∃ a, a ≤ e.length ∧ (hds e).take a = flH ps (hlsL l) (l.take k) ∧ flH ps (hlsL l) (l.take k) = flH qs (hlsL l) (l.take k) ∧ ∀ x ∈ l.drop k, x.op = 18 → ps.getD (numL (hlsL l) x.name) [] = qs.getD (numL (hlsL l) x.name) [] := by
    intro m
    induction m with
    | zero =>
      intro k hk
      have : k = l.length := by omega
      subst this
      rw [List.take_of_length_le (Nat.le_refl _), List.drop_eq_nil_of_le (Nat.le_refl _)]
      exact ⟨e.length, Nat.le_refl _, by rw [List.take_of_length_le (by rw [hds_len]; exact Nat.le_refl _), hp.eq], by rw [← hp.eq, hq.eq], by simp⟩
    | succ m ih =>
      intro k hk
      have hkl : k < l.length := by omega
      obtain ⟨a, ha, h1, h2, h3⟩ := ih (k + 1) (by omega)
      have hxm : l.drop k = l.getD k nd0 :: l.drop (k + 1) := by rw [List.drop_eq_getElem_cons hkl]; simp [hkl]
      rw [flH_take hkl] at h1
      rw [flH_take hkl, flH_take hkl] at h2
      by_cases ho : (l.getD k nd0).op = 18
      · have e1 : ∀ rs : List (List Nd), flN rs (hlsL l) (l.getD k nd0) = hds (rs.getD (numL (hlsL l) (l.getD k nd0).name) []) := fun rs => by unfold flN; rw [if_pos ho]
        rw [e1] at h1
        rw [e1, e1] at h2
        obtain ⟨f, hf⟩ := Option.isSome_iff_exists.1 (hp.pts _ (getD_mem hkl) ho)
        obtain ⟨g, hg⟩ := Option.isSome_iff_exists.1 (hq.pts _ (getD_mem hkl) ho)
        obtain ⟨i1, i2⟩ := part_at he hf ha h1
        obtain ⟨j1, j2⟩ := part_at he hg ha (h1.trans h2)
        have heq := i2.symm.trans j2
        refine ⟨fe.getD (a - 1) 0, ?_, ?_, ?_, ?_⟩
        · have := (begOk_of (begL_some he).2.2.1).low (a - 1); omega
        · have h4 : (hds e).take (fe.getD (a - 1) 0) = ((hds e).take a).take (fe.getD (a - 1) 0) := by
            rw [List.take_take]
            have := (begOk_of (begL_some he).2.2.1).low (a - 1)
            have : fe.getD (a - 1) 0 ≤ a := by
              have e5 := congrArg List.length h1
              simp [hds_len] at e5
              rw [i1]; omega
            congr 1; omega
          rw [h4, h1, i1, List.take_left]
        · rw [heq] at h2
          exact List.append_cancel_right h2
        · intro x hx hx18
          rw [hxm] at hx
          rcases List.mem_cons.1 hx with rfl | hx
          · exact heq
          · exact h3 x hx hx18
      · have e1 : ∀ rs : List (List Nd), flN rs (hlsL l) (l.getD k nd0) = [hd (l.getD k nd0)] := fun rs => by unfold flN; rw [if_neg ho]
        rw [e1] at h1
        rw [e1, e1] at h2
        have hal : a = (flH ps (hlsL l) (l.take k)).length + 1 := by
          have e5 := congrArg List.length h1
          simp [hds_len] at e5; omega
        refine ⟨a - 1, by omega, ?_, List.append_cancel_right h2, ?_⟩
        · have h4 : (hds e).take (a - 1) = ((hds e).take a).take (a - 1) := by rw [List.take_take]; congr 1; omega
          rw [h4, h1, hal, Nat.add_sub_cancel, List.take_left]
        · intro x hx hx18
          rw [hxm] at hx
          rcases List.mem_cons.1 hx with rfl | hx
          · exact absurd hx18 ho
          · exact h3 x hx hx18
  obtain ⟨_, _, _, _, h⟩ := key l.length 0 (by omega)
  refine List.ext_getElem (by rw [hp.len, hq.len]) fun n h1 h2 => ?_
  obtain ⟨x, hx, ho, hn⟩ := hls_hit (l := l) (n := n) (by rw [← hp.len]; exact h1)
  have := h x (by simpa using hx) ho
  rw [hn] at this
  simpa [h1, h2] using this
end Go.Proofs.YtjkcbigmebbkkaaDoor

set_option linter.unusedSimpArgs false
set_option linter.unusedVariables false
namespace Go.Proofs.YtjkcbigmebbkkaaDoor
open Go.RowKit Go.Lib

def Small (ds : List Nat) : Prop := ∀ j, ds.getD j 0 ≤ j + 1
theorem Small.snoc {ds : List Nat} (h : Small ds) {a : Nat} (ha : a ≤ ds.length + 1) : Small (ds ++ [a]) := by
  intro j
  rw [getD_snoc]
  split
  · exact h j
  · split <;> omega

structure DpMid (w2 : World) (G : Nat) (n : Nat) (ds : List Nat) (wo : World) (nv : Array Value) (m k : Nat) (wr : World) : Prop where
  row : wr.rowIs G 3 n (fun j => .int .i64 (if j = k then (m : Nat) else (ds.getD j 0 : Nat)))
  node : wr.heap[wo.heap.size]? = some (.cells nv 71 (0, 0))
  below : Below G w2 wr

theorem DpMid.drew {w2 : World} {G n : Nat} {ds : List Nat} {wo : World} {nv : Array Value} {m k : Nat} {wr : World} (h : DpMid w2 G n ds wo nv m k wr) : DpMid w2 G n ds wo nv m k wr.drew := ⟨h.row, h.node, h.below.drew⟩

end Go.Proofs.YtjkcbigmebbkkaaDoor

set_option linter.unusedSimpArgs false
set_option linter.unusedVariables false
namespace Go.Proofs.YtjkcbigmebbkkaaDoor
open Go.Lib

/-! ### the variables -/
/-! ### the depth -/
theorem ok_kids_lt {l : List Nd} {fr : List Nat} (h : BegOk l fr) (i : Nat) (hi : i < l.length) : ∀ k ∈ (l.getD i nd0).kids, 0 ≤ k ∧ k < (i : Int) := by
  intro k hk
  exact chainL_kids _ _ _ (h.at_ i hi).2 h.low k (by simpa using hk)

end Go.Proofs.YtjkcbigmebbkkaaDoor

set_option linter.unusedSimpArgs false
set_option linter.unusedVariables false
namespace Go.Proofs.YtjkcbigmebbkkaaDoor

/-- What Compile has made so far. -/
structure Cp where
  place : List Int
  first : ByteArray → Option Int
  regs : Nat
  prog : List Cm
def kidsC : List Int → Nat → List Int → List Int
  | [], _, pl => pl
  | k :: r, n, pl => kidsC r (n + 1) (pl.set k.toNat (n : Int))
/-- The command of the node at a place. -/
def cpC (ks : List ByteArray) (x : Nd) (i : Nat) (s : Cp) : Cm :=
  if x.op = 18 then (match s.first x.name with
    | some r => ⟨2, s.place.getD i 0, r, 0, 0, ⟨#[]⟩⟩
    | none => ⟨3, s.place.getD i 0, (numL ks x.name : Nat), 0, 0, ⟨#[]⟩⟩)
  else ⟨1, s.place.getD i 0, (s.regs : Nat), x.op, x.n, x.name⟩
def cpFst (x : Nd) (i : Nat) (s : Cp) : ByteArray → Option Int :=
  if x.op = 18 ∧ s.first x.name = none then (fun t => if t = x.name then some (s.place.getD i 0) else s.first t) else s.first
def cpS (ks : List ByteArray) (x : Nd) (i : Nat) (s : Cp) : Cp :=
  ⟨if x.op = 18 then s.place else kidsC x.kids s.regs s.place, cpFst x i s, if x.op = 18 then s.regs else s.regs + x.kids.length, s.prog ++ [cpC ks x i s]⟩
/-- Behind the last j nodes. -/
def cpF (l : List Nd) : Nat → Cp
  | 0 => ⟨List.replicate l.length 0, fun _ => none, 1, []⟩
  | j + 1 => cpS (hlsL l) (l.getD (l.length - 1 - j) nd0) (l.length - 1 - j) (cpF l j)

theorem kidsC_len : ∀ (ks : List Int) (n : Nat) (pl : List Int), (kidsC ks n pl).length = pl.length
  | [], _, _ => rfl
  | k :: r, n, pl => by simp [kidsC, kidsC_len r]
theorem kidsC_mem : ∀ (ks : List Int) (n : Nat) (pl : List Int) (z : Int), z ∈ kidsC ks n pl → z ∈ pl ∨ ((n : Int) ≤ z ∧ z < ((n + ks.length : Nat) : Int))
  | [], _, _, z, h => .inl h
  | k :: r, n, pl, z, h => by
    rcases kidsC_mem r (n + 1) _ z h with h | h
    · rcases List.mem_or_eq_of_mem_set h with h | rfl
      · exact .inl h
      · right; simp; omega
    · right; simp; omega
theorem numL_at : ∀ {ks : List ByteArray} {s : ByteArray}, s ∈ ks → ks[numL ks s]? = some s
  | k :: ks, s, h => by
    unfold numL
    split
    · rename_i e; simp [e]
    · rename_i hne
      rcases List.mem_cons.1 h with rfl | h
      · exact absurd rfl hne
      · simpa using numL_at h
theorem numL_inj {ks : List ByteArray} {s t : ByteArray} (hs : s ∈ ks) (ht : t ∈ ks) (h : numL ks s = numL ks t) : s = t := by
  have h1 := numL_at hs
  rw [h, numL_at ht] at h1
  injection h1 with h1
  exact h1.symm

structure CpI (l : List Nd) (j : Nat) (s : Cp) : Prop where
  len : s.place.length = l.length
  pl : ∀ z ∈ s.place, 0 ≤ z ∧ z < (s.regs : Int)
  fs : ∀ t z, s.first t = some z → t ∈ hlsL l ∧ 0 ≤ z ∧ z < (s.regs : Int)
  plen : s.prog.length = j
  one : 1 ≤ s.regs
  reg : s.regs ≤ 1 + 3 * j
  ck : ∃ tk, ckL (1, List.replicate (hlsL l).length false) s.prog = some (s.regs, tk) ∧ tk.length = (hlsL l).length ∧ ∀ t ∈ hlsL l, tk.getD (numL (hlsL l) t) true = (s.first t).isSome
  seen : ∀ i, l.length ≤ i + j → i < l.length → (l.getD i nd0).op = 18 → (s.first (l.getD i nd0).name).isSome = true

theorem patB_beg {l : List Nd} (h : patB l = true) : l.length ≤ 16 ∧ (hlsL l).length ≤ 6 ∧ ∃ fr, begL (l.map fillN) = some fr := by
  unfold patB at h
  simp only [Bool.and_eq_true, decide_eq_true_eq] at h
  exact ⟨h.1.1, h.1.2, Option.isSome_iff_exists.1 h.2⟩
theorem fillN_not {x : Nd} (h : x.op ≠ 18) : fillN x = x := by unfold fillN; rw [if_neg h]
/-- What is known of a pattern's node. -/
theorem pat_node {l : List Nd} (h : patB l = true) {i : Nat} (hi : i < l.length) : (∀ k ∈ (l.getD i nd0).kids, 0 ≤ k ∧ k < (i : Int)) ∧ ((l.getD i nd0).op ≠ 18 → formB (l.getD i nd0) = true) := by
  obtain ⟨_, _, fr, hfr⟩ := patB_beg h
  have hok := begOk_of (begL_some hfr).2.2.1
  have hi' : i < (l.map fillN).length := by simpa using hi
  have e : (l.map fillN).getD i nd0 = fillN (l.getD i nd0) := by simp [hi]
  have h1 := ok_kids_lt hok i hi'
  have h2 := (hok.at_ i hi').1
  rw [e] at h1 h2
  rw [fillN_kids] at h1
  exact ⟨h1, fun ho => by rwa [fillN_not ho] at h2⟩

theorem CpI.start (l : List Nd) : CpI l 0 (cpF l 0) := by
  refine ⟨by simp [cpF], fun z hz => ?_, fun t z h => (by cases h), rfl, Nat.le_refl _, Nat.le_refl _, ⟨List.replicate (hlsL l).length false, rfl, by simp, fun t ht => ?_⟩, fun i h1 h2 => by omega⟩
  · simp [cpF] at hz; simp [cpF]; omega
  · have := numL_lt ht
    simp [cpF, this]
theorem ck_snoc {s s1 s2 : Nat × List Bool} {p : List Cm} {c : Cm} (h : ckL s p = some s1) (h2 : ckS s1 c = some s2) : ckL s (p ++ [c]) = some s2 := by
  rw [ckL_app, h, Option.bind_some, ckL_one, h2]
theorem form_fitC {x : Nd} (h : formB x = true) (r t : Int) : fitC ⟨1, r, t, x.op, x.n, x.name⟩ = true ∧ (arK x.op).toNat = x.kids.length := by
  unfold formB fitB at h
  have h' := h
  simp only [Bool.and_eq_true, decide_eq_true_eq] at h
  have e : arK x.op = (x.kids.length : Nat) := by unfold arK; omega
  unfold fitC fitB
  simp only [e]
  exact ⟨h', by omega⟩
theorem CpI.step {l : List Nd} (hp : patB l = true) {j : Nat} {s : Cp} (h : CpI l j s) (hj : j < l.length) :
    CpI l (j + 1) (cpS (hlsL l) (l.getD (l.length - 1 - j) nd0) (l.length - 1 - j) s) := by
  have hi : l.length - 1 - j < l.length := by omega
  obtain ⟨hk, hf⟩ := pat_node hp hi
  have hmem : l.getD (l.length - 1 - j) nd0 ∈ l := getD_mem hi
  have hseen : ∀ i, l.length ≤ i + (j + 1) → i < l.length → i = l.length - 1 - j ∨ l.length ≤ i + j := fun i h1 h2 => by omega
  have hS := h.seen
  generalize hix : l.length - 1 - j = i at *
  generalize hx : l.getD i nd0 = x at *
  have hpl : 0 ≤ s.place.getD i 0 ∧ s.place.getD i 0 < (s.regs : Int) := h.pl _ (getD_mem (by rw [h.len]; exact hi))
  obtain ⟨tk, c1, c2, c3⟩ := h.ck
  have h1 := h.one
  have hreg := h.reg
  by_cases ho : x.op = 18
  · have hin := mem_hls hmem ho
    have hlt := numL_lt hin
    cases hs : s.first x.name with
    | some r =>
      obtain ⟨_, r0, r1⟩ := h.fs _ _ hs
      have eF : cpFst x i s = s.first := by unfold cpFst; rw [if_neg (by rw [hs]; simp)]
      have eC : cpC (hlsL l) x i s = ⟨2, s.place.getD i 0, r, 0, 0, ⟨#[]⟩⟩ := by unfold cpC; rw [if_pos ho, hs]
      unfold cpS
      rw [if_pos ho, if_pos ho, eF, eC]
      refine ⟨h.len, h.pl, h.fs, by simp [h.plen], h.one, by show s.regs ≤ _; omega, ⟨tk, ck_snoc c1 ?_, c2, c3⟩, fun i' a1 a2 a3 => ?_⟩
      · unfold ckS
        rw [if_pos ⟨hpl.1, hpl.2⟩, if_neg (by show ¬ (2 : Int) = 1; decide), if_pos rfl, if_pos ⟨by simp [bareB], r0, r1⟩]
      · rcases hseen i' a1 a2 with rfl | a4
        · rw [hx, hs]; rfl
        · exact hS i' a4 a2 a3
    | none =>
      have eF : cpFst x i s = fun t => if t = x.name then some (s.place.getD i 0) else s.first t := by unfold cpFst; rw [if_pos ⟨ho, hs⟩]
      have eC : cpC (hlsL l) x i s = ⟨3, s.place.getD i 0, (numL (hlsL l) x.name : Nat), 0, 0, ⟨#[]⟩⟩ := by unfold cpC; rw [if_pos ho, hs]
      have ht0 : tk.getD (numL (hlsL l) x.name) true = false := by rw [c3 _ hin, hs]; rfl
      unfold cpS
      rw [if_pos ho, if_pos ho, eF, eC]
      refine ⟨h.len, h.pl, fun t z hz => ?_, by simp [h.plen], h.one, by show s.regs ≤ _; omega, ⟨tk.set (numL (hlsL l) x.name) true, ck_snoc c1 ?_, by simpa using c2, fun t ht => ?_⟩, fun i' a1 a2 a3 => ?_⟩
      · simp only at hz
        split at hz
        · rename_i e; subst e; cases hz; exact ⟨hin, hpl⟩
        · exact h.fs t z hz
      · unfold ckS
        rw [if_pos ⟨hpl.1, hpl.2⟩, if_neg (by show ¬ (3 : Int) = 1; decide), if_neg (by show ¬ (3 : Int) = 2; decide), if_pos rfl, if_pos ⟨by simp [bareB], by simp, by simp only [c2]; omega, by simpa using ht0⟩]
        simp
      · simp only
        split
        · rename_i e; subst e
          simp [c2, hlt]
        · rename_i e
          have : numL (hlsL l) x.name ≠ numL (hlsL l) t := fun h => e (numL_inj ht hin h.symm)
          rw [List.getD_eq_getElem?_getD, List.getElem?_set_ne this, ← List.getD_eq_getElem?_getD]
          exact c3 t ht
      · simp only
        split
        · rfl
        · rename_i e
          rcases hseen i' a1 a2 with rfl | a4
          · exact absurd (by rw [hx]) e
          · exact hS i' a4 a2 a3
  · have hF := hf ho
    have h3 := formB_kids hF
    obtain ⟨f1, f2⟩ := form_fitC hF (s.place.getD i 0) (s.regs : Nat)
    have eF : cpFst x i s = s.first := by unfold cpFst; rw [if_neg (fun h => ho h.1)]
    have eC : cpC (hlsL l) x i s = ⟨1, s.place.getD i 0, (s.regs : Nat), x.op, x.n, x.name⟩ := by unfold cpC; rw [if_neg ho]
    unfold cpS
    rw [if_neg ho, if_neg ho, eF, eC]
    refine ⟨by rw [kidsC_len]; exact h.len, fun z hz => ?_, fun t z hz => ?_, by simp [h.plen], by show 1 ≤ s.regs + _; omega, by show s.regs + _ ≤ _; omega, ⟨tk, ck_snoc c1 ?_, c2, c3⟩, fun i' a1 a2 a3 => ?_⟩
    · show 0 ≤ z ∧ z < ((s.regs + x.kids.length : Nat) : Int)
      rcases kidsC_mem _ _ _ z hz with hz | hz
      · have := h.pl z hz; omega
      · omega
    · have := h.fs t z hz
      show _ ∧ 0 ≤ z ∧ z < ((s.regs + x.kids.length : Nat) : Int)
      exact ⟨this.1, by omega, by omega⟩
    · unfold ckS
      rw [if_pos ⟨hpl.1, hpl.2⟩, if_pos rfl, if_pos ⟨f1, rfl⟩]
      show some (s.regs + (arK x.op).toNat, tk) = _
      rw [f2]
    · rcases hseen i' a1 a2 with rfl | a4
      · exact absurd (by rw [← hx]; exact a3) ho
      · exact hS i' a4 a2 a3
theorem cp_inv {l : List Nd} (hp : patB l = true) : ∀ j, j ≤ l.length → CpI l j (cpF l j)
  | 0, _ => CpI.start l
  | j + 1, hj => (cp_inv hp j (by omega)).step hp (by omega)
end Go.Proofs.YtjkcbigmebbkkaaDoor

set_option linter.unusedSimpArgs false
set_option linter.unusedVariables false
namespace Go.Proofs.YtjkcbigmebbkkaaDoor
open Go.RowKit Go.Lib Go.Maps

def cmCells : List Cm → List Value
  | [] => []
  | c :: r => .int .i64 c.kind :: .int .i64 c.r :: .int .i64 c.to :: .int .i64 c.op :: .int .i64 c.n :: .string c.name :: cmCells r
theorem cmCells_len : ∀ l : List Cm, (cmCells l).length = l.length * 6
  | [] => rfl
  | c :: r => by simp [cmCells, cmCells_len r]; omega
theorem cmCells_app : ∀ l m : List Cm, cmCells (l ++ m) = cmCells l ++ cmCells m
  | [], _ => rfl
  | c :: r, m => by simp [cmCells, cmCells_app r m]
theorem cmCells_at : ∀ (l : List Cm) (i : Nat) (c : Cm), l[i]? = some c → (cmCells l)[i * 6]? = some (.int .i64 c.kind) ∧ (cmCells l)[i * 6 + 1]? = some (.int .i64 c.r) ∧ (cmCells l)[i * 6 + 2]? = some (.int .i64 c.to) ∧ (cmCells l)[i * 6 + 3]? = some (.int .i64 c.op) ∧ (cmCells l)[i * 6 + 4]? = some (.int .i64 c.n) ∧ (cmCells l)[i * 6 + 5]? = some (.string c.name)
  | [], i, c, h => by simp at h
  | d :: r, 0, c, h => by simp at h; subst h; simp [cmCells]
  | d :: r, i + 1, c, h => by
    have h2 := cmCells_at r i c (by simpa using h)
    have e : (i + 1) * 6 = i * 6 + 6 := by omega
    rw [e]
    simpa [cmCells] using h2
/-- An owned program is read. -/
theorem Cms_of_own {w : World} {base : Nat} {v : Value} {l : List Cm} (h : w.ownsRow base 68 6 v l.length (cmCells l)) : ∃ ao cap, v = .slice ao l.length cap ∧ Cms w ao cap l := by
  rcases h.2 with ⟨rfl, h0⟩ | ⟨g, cap, cur, rfl, hb, hg, hn, hm, hs, ht⟩
  · have : l = [] := List.length_eq_zero_iff.1 h0
    subst this
    exact ⟨none, 0, rfl, by simp, by simp, .inl rfl⟩
  · refine ⟨_, cap, rfl, hn, hm, .inr ⟨g, 0, rfl, lt_of_block hg, fun i hi => ?_⟩⟩
    have hcell : ∀ (j : Nat), j < l.length * 6 → w.cell? ⟨g, j, none⟩ = (cmCells l)[j]? := by
      intro j hj
      rw [cell_of_heap hg, ← Array.getElem?_toList]
      have : cur.toList[j]? = (cur.toList.take (l.length * 6))[j]? := by rw [List.getElem?_take, if_pos hj]
      rw [this, ht]
    have e : l[i]? = some (l.getD i cm0) := by simp [hi]
    obtain ⟨k0, k1, k2, k3, k4, k5⟩ := cmCells_at l i _ e
    rw [Nat.zero_add]
    exact ⟨(hcell _ (by omega)).trans k0, (hcell _ (by omega)).trans k1, (hcell _ (by omega)).trans k2, (hcell _ (by omega)).trans k3, (hcell _ (by omega)).trans k4, (hcell _ (by omega)).trans k5⟩

/-- Compile's memory: the program so far, the registers of the nodes (block pg), the map of the holes' (block M). -/
structure CpM (base L : Nat) (s : Cp) (pv : Value) (pg M k : Nat) (w : World) : Prop where
  prow : w.ownsRow base 68 6 pv s.prog.length (cmCells s.prog)
  place : OwnI w base (.slice (some ⟨pg, 0, none⟩) L L) s.place
  len : s.place.length = L
  map : MapF w M k s.first
  leM : base ≤ M
theorem row_ne_mapF {w : World} {base : Nat} {e : TypeId} {s n M k : Nat} {v : Value} {xs : List Value} {f : ByteArray → Option Int} (h : w.ownsRow base e s v n xs) (hM : MapF w M k f) : v.ownBlock ≠ some M := by
  rcases h.2 with ⟨rfl, _⟩ | ⟨g, cap, cur, rfl, _, hg, _⟩
  · simp [Value.ownBlock]
  · intro hh
    simp [Value.ownBlock] at hh
    subst hh
    exact hM.isMap _ _ _ hg
theorem CpM.below {base L : Nat} {s : Cp} {pv : Value} {pg M k : Nat} {w w' : World} (h : CpM base L s pv pg M k w) (hb : Below w.heap.size w w') : CpM base L s pv pg M k w' :=
  ⟨ownsRow_below h.prow hb, h.place.below hb, h.len, h.map.below hb, h.leM⟩
theorem CpM.pg {base L : Nat} {s : Cp} {pv : Value} {pg M k : Nat} {w : World} (h : CpM base L s pv pg M k w) : base ≤ pg ∧ pg < w.heap.size := own_lt h.place rfl
theorem CpM.at_ {base L : Nat} {s : Cp} {pv : Value} {pg M k : Nat} {w : World} (h : CpM base L s pv pg M k w) {i : Nat} (hi : i < L) : w.cell? ⟨pg, i, none⟩ = some (.int .i64 (s.place.getD i 0)) ∧ w.frozen? ⟨pg, i, none⟩ = false := by
  obtain ⟨ao, cap, e, _, _, h3⟩ := ownI_form h.place
  simp only [Value.slice.injEq] at e
  obtain ⟨rfl, e2, rfl⟩ := e
  rcases h3 with h3 | ⟨g, e3, _, _, hc⟩
  · have := h.len; rw [h3] at this; simp at this; omega
  · injection e3 with e3
    injection e3 with e3
    subst e3
    exact hc i (by rw [h.len]; exact hi)
/-- A command more. -/
theorem CpM.cmd {base L : Nat} {s : Cp} {pv pv' : Value} {pg M k n : Nat} {w w' : World} (h : CpM base L s pv pg M k w) (c : Cm) (hn : s.prog.length = n)
    (hown : w'.ownsRow base 68 6 pv' (n + 1) (cmCells s.prog ++ [.int .i64 c.kind, .int .i64 c.r, .int .i64 c.to, .int .i64 c.op, .int .i64 c.n, .string c.name])) (hg : w.grownBy w' pv.ownBlock) (hB : base ≤ w.heap.size) : CpM base L { s with prog := s.prog ++ [c] } pv' pg M k w' ∧ Below base w w' := by
  refine ⟨⟨?_, World.ownsRow.kept h.place hg (ownBlock_ne h.place h.prow (by decide)), h.len, h.map.kept hg (Ne.symm (row_ne_mapF h.prow h.map)), h.leM⟩, (Below.refl _ _).grown hg hB (fun j hj => (own_lt h.prow hj).1)⟩
  rw [cmCells_app, List.length_append, hn]; exact hown
/-- A node's register. -/
theorem CpM.set {base L : Nat} {s : Cp} {pv : Value} {pg M k i : Nat} {w : World} (h : CpM base L s pv pg M k w) (hi : i < L) (z : Int) : CpM base L { s with place := s.place.set i z } pv pg M k (w.setCell ⟨pg, i, none⟩ (.int .i64 z)) ∧ Below base w (w.setCell ⟨pg, i, none⟩ (.int .i64 z)) := by
  have hrow := h.place
  unfold OwnI at hrow
  rw [h.len] at hrow
  refine ⟨⟨own_set' h.prow (fun e => ?_), ?_, by simp [h.len], h.map.setCell (fun e => ?_) _, h.leM⟩, (Below.refl _ _).setCell (p := ⟨pg, i, none⟩) h.pg.1 _⟩
  · rcases ownBlock_ne h.prow h.place (by decide) with n | n
    · rw [n] at e; cases e
    · exact n e
  · unfold OwnI
    rw [List.length_set, h.len, List.map_set]
    exact own_put hrow (by simp [h.len]; omega)
  · have e : M = pg := e
    exact row_ne_mapF h.place h.map (by rw [e]; rfl)
/-- A hole's register. -/
theorem CpM.put {base L : Nat} {s : Cp} {pv : Value} {pg M k : Nat} {w w' : World} {f : ByteArray → Option Int} (h : CpM base L s pv pg M k w) (hm : MapF w' M (k + 1) f) (hg : w.grownBy w' (some M)) (hB : base ≤ w.heap.size) : CpM base L { s with first := f } pv pg M (k + 1) w' ∧ Below base w w' :=
  ⟨⟨World.ownsRow.kept h.prow hg (.inr (row_ne_mapF h.prow h.map)), World.ownsRow.kept h.place hg (.inr (row_ne_mapF h.place h.map)), h.len, hm, h.leM⟩, (Below.refl _ _).grown hg hB (fun j hj => by cases hj; exact h.leM)⟩
theorem kidsC_app (n : Nat) (pl : List Int) : ∀ (a b : List Int), kidsC (a ++ b) n pl = kidsC b (n + a.length) (kidsC a n pl) := by
  intro a
  induction a generalizing n pl with
  | nil => intro b; rfl
  | cons k r ih =>
    intro b
    simp only [List.cons_append, kidsC, ih, List.length_cons]
    congr 1
    omega
theorem kidsC_next {ks : List Int} {t : Nat} (ht : t < ks.length) (n : Nat) (pl : List Int) : kidsC (ks.take (t + 1)) n pl = (kidsC (ks.take t) n pl).set (ks.getD t 0).toNat ((n + t : Nat) : Int) := by
  have e : ks.take (t + 1) = ks.take t ++ [ks.getD t 0] := by rw [List.take_succ_eq_append_getElem ht]; simp [ht]
  rw [e, kidsC_app]
  simp only [kidsC, List.length_take, Nat.min_eq_left (Nat.le_of_lt ht)]
/-- Compile's memory at the start. -/
theorem CpM.start {w : World} (l : List Nd) (hl : l.length ≤ 1000) : CpM w.heap.size l.length (cpF l 0) (.slice none 0 0) w.heap.size (w.heap.size + 1) 0 ((w.alloc (.cells (madeCells #[.int .i64 0] l.length) 3)).alloc (.map #[] 0)) := by
  have hb : Below (w.alloc (.cells (madeCells #[.int .i64 0] l.length) 3)).heap.size (w.alloc (.cells (madeCells #[.int .i64 0] l.length) 3)) ((w.alloc (.cells (madeCells #[.int .i64 0] l.length) 3)).alloc (.map #[] 0)) := (Below.refl _ _).alloc (Nat.le_refl _) _
  have hm := MapF.made (w.alloc (.cells (madeCells #[.int .i64 0] l.length) 3))
  rw [show (w.alloc (.cells (madeCells #[.int .i64 0] l.length) 3)).heap.size = w.heap.size + 1 by simp] at hm
  refine ⟨World.ownsRow_nil _ _ _ _, ?_, by simp [cpF], hm, by omega⟩
  refine OwnI.below ?_ hb
  have hg : (w.alloc (.cells (madeCells #[.int .i64 0] l.length) 3)).heap[w.heap.size]? = some (.cells (List.replicate l.length (.int .i64 0)).toArray 3 (0, 0)) := by
    rw [made_one]; exact (MapKept.heap_alloc w _).1
  exact own_rep hg (Nat.le_refl _) hl
end Go.Proofs.YtjkcbigmebbkkaaDoor
