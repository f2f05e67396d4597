/-
  PkE, PkF.
-/
import Derived.Test.YtfdghbbanokopaaDoorChecked
import GoSem.PinnedTables
import GoSem.Claim
import GoSem.ClaimJoined
import GoSem.ClaimMapViews
import Derived.JoinedTies
import Derived.KernelRfl
import Derived.Shelf.Unicode.DecodeSlow
import Derived.Laws.RangeAny
import Derived.Shelf.Strconv.Itoa0
import Derived.Shelf.Unicode.DecodeAny
import Derived.Test.YtfdghbbanokopaaDoorProg
import Derived.WalkKit
import Derived.Deep.DeepFit
import Derived.Lib.OthersKept
import Derived.Lib.RuneCountTail
import Derived.Lib.LaidU8
import Derived.MakeChecks
import Derived.ProofKit
import Derived.OpenShut
import Derived.Deep.DeepHandedRow
import Derived.Deep.AppendLies
import Derived.Deep.OwnRows
import Derived.Laws.AppendOwnNone
import Derived.Deep.QuietTactic
import Derived.BigQuiet
import Derived.Deep.RegionWith
import Derived.Laws.DeepStrings4
import Derived.Deep.Slices
import Derived.SizedLaws
import Derived.Below
import Derived.Deep.RegionLaw
import Derived.Lib.SlBytesRow
import Derived.Lib.QuietBelow
import Derived.StillTail
import Derived.Lib.MapLaws
import Derived.Sort.Walk0
import Derived.Lib.ItoaNum
import Derived.Maps.OwnSet
import Derived.StringKeys
import Derived.Laws.ResultCell
import Derived.Deep.RegionHeld3
import Derived.Deep.DeepCutAuto
import Derived.Laws.IdiomStrings
import Derived.WalkSmall
import Derived.Laws.OwnMore
import Derived.Test.YtfdghbbanokopaaDoorRows
import Derived.Test.YtfdghbbanokopaaDoorG01
import Derived.Test.YtfdghbbanokopaaDoorG02
import Derived.Test.YtfdghbbanokopaaDoorG03
import Derived.Test.YtfdghbbanokopaaDoorG04
import Derived.Test.YtfdghbbanokopaaDoorG05
import Derived.Test.YtfdghbbanokopaaDoorG06
import Derived.Test.YtfdghbbanokopaaDoorG07
import Derived.Test.YtfdghbbanokopaaDoorG08
import Derived.Test.YtfdghbbanokopaaDoorG09
import Derived.Test.YtfdghbbanokopaaDoorG10
import Derived.Test.YtfdghbbanokopaaDoorG11
import Derived.Test.YtfdghbbanokopaaDoorG12
import Derived.Test.YtfdghbbanokopaaDoorG13
import Derived.Test.YtfdghbbanokopaaDoorG14
import Derived.Test.YtfdghbbanokopaaDoorG15
import Derived.Test.YtfdghbbanokopaaDoorG16
import Derived.Test.YtfdghbbanokopaaDoorG17
import Derived.Test.YtfdghbbanokopaaDoorG18
import Derived.Test.YtfdghbbanokopaaDoorG19
import Derived.Test.YtfdghbbanokopaaDoorG20
import Derived.Test.YtfdghbbanokopaaDoorG21
import Derived.Test.YtfdghbbanokopaaDoorG22
import Derived.Test.YtfdghbbanokopaaDoorG23
import Derived.Test.YtfdghbbanokopaaDoorG24
import Derived.Test.YtfdghbbanokopaaDoorG25
import Derived.Test.YtfdghbbanokopaaDoorG26
import Derived.Test.YtfdghbbanokopaaDoorG27
import Derived.Test.YtfdghbbanokopaaDoorG28
import Derived.Test.YtfdghbbanokopaaDoorG29
set_option linter.unusedSimpArgs false
set_option linter.unusedVariables false
namespace Go.Proofs.YtfdghbbanokopaaDoor
open Go.RowKit Go.Lib

theorem cnt_take (B : List Pz) (k : Nat) : cntA (B.take k) ≤ cntA B := by
  conv => rhs; rw [← List.take_append_drop k B]
  rw [cntA_app]; omega
theorem cnt_rooms {rs : List Rm} (h : ∀ r ∈ rs, (r.p.take r.l.length).length = r.l.length) : cntA (rs.map Rm.an) = (rs.map (·.l)).flatten.length := by
  induction rs with
  | nil => rfl
  | cons r t ih =>
    have h1 := h r (List.mem_cons_self ..)
    have h2 := ih fun x hx => h x (List.mem_cons_of_mem _ hx)
    have e : cntA ((r :: t).map Rm.an) = (r.p.take r.l.length).length + cntA (t.map Rm.an) := by simp [cntA, Rm.an]
    rw [e, h1, h2]; simp
/-- What a round over the rooms asks. -/
structure RmF (W3 : World) (lo : Nat) (R rs : List Rm) (k : Nat) (r : Rm) : Prop where
  mem : r ∈ R
  fit : FitR r.l
  own : OwnP W3 lo (.slice (some ⟨r.fb, 0, none⟩) r.l.length r.fc) (r.p.take r.l.length)
  len : (r.p.take r.l.length).length = r.l.length
  cnt : cntA ((rs.take k).map Rm.an) + r.l.length ≤ 5000000000000
  nxt : (rs.take (k + 1)).map Rm.an = (rs.take k).map Rm.an ++ [(.slice (some ⟨r.fb, 0, none⟩) r.l.length r.fc, r.p.take r.l.length)]
theorem rmF {w W3 : World} {r1 r2 : Rm} {rs : List Rm} {vr : Rw} {A : List Pz} {Tx Hs : List Rw} (h : PkT w W3 ([r1, r2] ++ rs) vr A Tx Hs) (hF : ∀ y ∈ rs.map (·.l), FitR y) (hs : (rs.map (·.l)).flatten.length ≤ 1048576) {k : Nat} {r : Rm} (hr : rs[k]? = some r) : RmF W3 w.heap.size ([r1, r2] ++ rs) rs k r := by
  have hm : r ∈ rs := List.mem_of_getElem? hr
  have hlen : ∀ x ∈ rs, (x.p.take x.l.length).length = x.l.length := fun x hx => by
    have := congrArg List.length (h.x (List.mem_append_right _ hx)).nodes
    simpa using this
  have hx := h.x (List.mem_append_right [r1, r2] hm)
  have hn : (rs.take (k + 1)).map Rm.an = (rs.take k).map Rm.an ++ [(.slice (some ⟨r.fb, 0, none⟩) r.l.length r.fc, r.p.take r.l.length)] := by
    rw [List.take_add_one, hr, List.map_append]; rfl
  refine ⟨List.mem_append_right _ hm, hF _ (List.mem_map_of_mem hm), hx.own, hlen r hm, ?_, hn⟩
  have h1 : cntA ((rs.take (k + 1)).map Rm.an) ≤ cntA (rs.map Rm.an) := by rw [List.map_take]; exact cnt_take _ _
  rw [hn, cntA_app, cnt_rooms hlen] at h1
  have h2 : cntA [(Value.slice (some ⟨r.fb, 0, none⟩) r.l.length r.fc, r.p.take r.l.length)] = r.l.length := by simp only [cntA, List.flatMap_cons, List.flatMap_nil, List.append_nil]; exact hlen r hm
  omega
/-- A found part. -/
structure PtF (W3 : World) (lo : Nat) (P : List Pz) (k : Nat) (ao : Option Addr) (n cap : Nat) (q : List (Nd × Value)) : Prop where
  at_ : P[k]? = some (.slice ao n cap, q)
  own : OwnP W3 lo (.slice ao n cap) q
  len : q.length = n
  le : n ≤ 64
theorem ptF {w W3 : World} {R : List Rm} {vr : Rw} {A : List Pz} {Tx Hs : List Rw} (h : PkT w W3 R vr A Tx Hs) {P : List Pz} {L : List (List Nd)} (hP : ∀ a ∈ P, a ∈ A) (hL : psA P = L) (hS : ∀ y ∈ L, y.length ≤ 64) {k : Nat} (hk : k < L.length) : ∃ ao n cap q, PtF W3 w.heap.size P k ao n cap q := by
  have hpl : P.length = L.length := by rw [← hL]; simp [psA]
  have ha : P[k]? = some P[k] := List.getElem?_eq_getElem (by omega)
  have hm : P[k] ∈ P := List.getElem_mem (by omega)
  have ho := h.an.ownP (a := P[k]) (List.mem_append_right _ (hP _ hm))
  obtain ⟨ao, cap, hv⟩ := rw_form ho.row
  refine ⟨ao, P[k].2.length, cap, P[k].2, ?_, by rw [← hv]; exact ho, rfl, ?_⟩
  · rw [ha, ← hv]
  · have : P[k].2.map (·.1) ∈ psA P := List.mem_map_of_mem (f := fun a : Pz => a.2.map (·.1)) hm
    rw [hL] at this
    have := hS _ this
    simpa using this
theorem ft_small {l x : List Nd} {L : List (List Nd)} {c : Int} (h : FtC l x L c) : L.length ≤ 6 ∧ ∀ y ∈ L, y.length ≤ 64 := by
  rcases h.ways with ⟨_, hp, _, hf⟩ | ⟨_, rfl, _⟩ | ⟨_, rfl, _⟩
  · unfold patB at hp
    simp only [Bool.and_eq_true, decide_eq_true_eq] at hp
    exact ⟨by rw [hf.len]; exact hp.1.2, fun y hy => (snd_len (hf.snd y hy)).2⟩
  · exact ⟨by simp, by simp⟩
  · exact ⟨by simp, by simp⟩
end Go.Proofs.YtfdghbbanokopaaDoor

set_option linter.unusedSimpArgs false
set_option linter.unusedVariables false
namespace Go.Proofs.YtfdghbbanokopaaDoor
open Go.RowKit Go.Lib

theorem mem_cnt {AA : List Pz} {a : Pz} (h : a ∈ AA) : a.2.length ≤ cntA AA := by
  obtain ⟨s, t, rfl⟩ := List.append_of_mem h
  rw [cntA_app]
  have : cntA (a :: t) = a.2.length + cntA t := by simp [cntA]
  omega
theorem pk_perm (a1 a2 b1 b2 : Pz) (rr P Q : List Pz) (n : Nat) (hP : P.length = n) (hQ : Q.length = n) : ((((rr ++ twoA P Q n) ++ [a1]) ++ [a2]) ++ [b1] ++ [b2]).Perm ((b1 :: b2 :: rr) ++ (((([] ++ [a1]) ++ P) ++ [a2]) ++ Q)) := by
  classical
  have h := twoA_perm P Q n (by omega) (by omega)
  rw [List.take_of_length_le (by omega), List.take_of_length_le (by omega)] at h
  rw [List.perm_iff_count] at h ⊢
  intro a
  have h1 := h a
  simp only [List.count_append, List.count_cons, List.count_nil] at h1 ⊢
  omega
theorem cnt_pr (v : Value) (q : List (Nd × Value)) : cntA [(v, q)] = q.length := by simp [cntA]
theorem small3 {X : List Nd} (h : sndB X = true ∨ X = []) : X.length ≤ 64 ∧ ∀ y ∈ X, y.kids.length ≤ 3 := by
  rcases h with h | rfl
  · obtain ⟨f, hf⟩ := Option.isSome_iff_exists.1 h
    exact ⟨(snd_bounds hf).1, (snd_bounds hf).2⟩
  · exact ⟨by simp, by simp⟩
theorem ft_snd {l x : List Nd} {L : List (List Nd)} {c : Int} (h : FtC l x L c) : ∀ y ∈ L, sndB y = true := by
  rcases h.ways with ⟨_, _, _, hf⟩ | ⟨_, rfl, _⟩ | ⟨_, rfl, _⟩
  · exact hf.snd
  · simp
  · simp
theorem pk_kids {w W : World} {R : List Rm} {vr : Rw} {P1 P2 : List Pz} {v1 v2 : Value} {q1 q2 : List (Nd × Value)} {X : List Nd} {L : List (List Nd)} {Tx Hs : List Rw} (h : PkT w W R vr (((([] ++ [(v1, q1)]) ++ P1) ++ [(v2, q2)]) ++ P2) Tx Hs) (hR : ∀ r ∈ R, FitR r.l) (h1 : q1.map (·.1) = X) (h2 : q2.map (·.1) = X) (hX : sndB X = true ∨ X = []) (hp1 : psA P1 = L) (hp2 : psA P2 = L) (hL : ∀ y ∈ L, sndB y = true) :
    ∀ a ∈ R.map Rm.an ++ (((([] ++ [(v1, q1)]) ++ P1) ++ [(v2, q2)]) ++ P2), ∀ y ∈ a.2, y.1.kids.length * 8 ≤ 140737488351232 := by
  have hq : ∀ q : List (Nd × Value), q.map (·.1) = X → ∀ y ∈ q, y.1.kids.length * 8 ≤ 140737488351232 := fun q hq y hy => by
    have : y.1 ∈ X := by rw [← hq]; exact List.mem_map_of_mem (f := fun y : Nd × Value => y.1) hy
    have := (small3 hX).2 _ this
    omega
  have hp : ∀ P : List Pz, psA P = L → ∀ a ∈ P, ∀ y ∈ a.2, y.1.kids.length * 8 ≤ 140737488351232 := fun P hP a ha y hy => by
    have h5 : a.2.map (·.1) ∈ L := by rw [← hP]; exact List.mem_map_of_mem (f := fun a : Pz => a.2.map (·.1)) ha
    have := (small3 (.inl (hL _ h5))).2 y.1 (List.mem_map_of_mem (f := fun y : Nd × Value => y.1) hy)
    omega
  intro a ha y hy
  simp only [List.mem_append, List.not_mem_nil, false_or, List.mem_singleton] at ha
  rcases ha with ha | ((rfl | ha) | rfl) | ha
  · obtain ⟨r, hr, rfl⟩ := List.mem_map.1 ha
    have hn := (h.x hr).nodes
    have : y.1 ∈ r.l := by rw [← hn]; exact List.mem_map_of_mem (f := fun y : Nd × Value => y.1) hy
    exact (hR r hr).kids _ this
  · exact hq _ h1 y hy
  · exact hp _ hp1 a ha y hy
  · exact hq _ h2 y hy
  · exact hp _ hp2 a ha y hy
end Go.Proofs.YtfdghbbanokopaaDoor
