/-
  PcH, ExAddP, ExMakW, ExDecPure.
-/
import Derived.Shelf.Unicode.DecodeSlow
import Derived.Laws.RangeAny
import Derived.Shelf.Strconv.Itoa0
import Derived.Shelf.LaysM
import Derived.Shelf.Strconv.Clone
import Derived.Shelf.Unicode.DecodeAny
import Derived.Test.YtlbmijcpalfaeaaDoorProg
import Derived.WalkKit
import Derived.Deep.DeepFit
import Derived.Lib.OthersKept
import Derived.Lib.RuneCountTail
import Derived.Deep.AppendLies
import Derived.Deep.OwnRows
import Derived.Laws.AppendOwnNone
import Derived.Deep.QuietTactic
import Derived.BigQuiet
import Derived.Deep.RegionWith
import Derived.Laws.DeepStrings4
import Derived.Below
import Derived.Lib.MapLaws
import Derived.Sort.Walk0
import Derived.Lib.QuietBelow
import Derived.StillTail
import Derived.Deep.RegionHeld3
import Derived.Laws.AppendOwn
import Derived.Deep.DeepCutAuto
import Derived.Test.YtlbmijcpalfaeaaDoorF01
import Derived.Test.YtlbmijcpalfaeaaDoorF02
import Derived.Test.YtlbmijcpalfaeaaDoorF03
import Derived.Test.YtlbmijcpalfaeaaDoorF04
import Derived.Test.YtlbmijcpalfaeaaDoorF05
import Derived.Test.YtlbmijcpalfaeaaDoorF06
import Derived.Test.YtlbmijcpalfaeaaDoorF07
import Derived.Test.YtlbmijcpalfaeaaDoorF08
import Derived.Test.YtlbmijcpalfaeaaDoorF09
import Derived.Test.YtlbmijcpalfaeaaDoorF10
import Derived.Test.YtlbmijcpalfaeaaDoorF11
import Derived.Test.YtlbmijcpalfaeaaDoorF12
import Derived.Test.YtlbmijcpalfaeaaDoorF13
import Derived.Test.YtlbmijcpalfaeaaDoorF14
import Derived.Test.YtlbmijcpalfaeaaDoorF15
set_option linter.unusedSimpArgs false
set_option linter.unusedVariables false
namespace Go.Proofs.YtlbmijcpalfaeaaDoor
open Go.RowKit Go.Lib
/-- How the document lays the classes out. -/
structure AllO (n : Nat) (sz : Int → Int) (ls : Int → Nd) (F : Nat) (al : List Int) : Prop where
  perm : al.Perm (rngI n)
  srt : al.Pairwise fun p q => ordO sz ls F p q ≤ 0
theorem renN_id {n : Nat} {x : Nd} (h : ∀ k ∈ x.kids, 0 ≤ k ∧ k < (n : Int)) : renN (rngI n) x = x := by
  unfold renN
  have : x.kids.map (plA (rngI n)) = x.kids := by
    conv => rhs; rw [← List.map_id x.kids]
    exact List.map_congr_left fun k hk => plA_range (h k hk).1 (h k hk).2
  rw [this]
/-- A row of nodes in order goes in one behind the other. -/
theorem arr_class {al : List Int} : ∀ (l : List Nd) (ns : List (List Nd)) (q : Int) (a : List Nd), (plA al q).toNat < ns.length → ns.getD (plA al q).toNat [] = a → (∀ x ∈ l, renN al x = x) → (a ++ l).Pairwise (fun x y => nodC cmp3 x y < 0) → (∀ x ∈ a ++ l, formB x = true) → (l.map (fun x => (x, q))).foldl (arrS al) ns = ns.set (plA al q).toNat (a ++ l) := by
  intro l
  induction l with
  | nil =>
    intro ns q a h1 h2 _ _ _
    rw [List.append_nil, List.map_nil, List.foldl_nil, ← h2, List.getD_eq_getElem?_getD, List.getElem?_eq_getElem h1]
    simp
  | cons x l ih =>
    intro ns q a h1 h2 h3 h4 h5
    rw [List.map_cons, List.foldl_cons]
    have e : arrS al ns (x, q) = ns.set (plA al q).toNat (a ++ [x]) := by
      unfold arrS
      simp only
      rw [h2, h3 x (by simp)]
      congr 1
      refine insF_end ?_
      by_cases e : a = []
      · exact .inl e
      · right
        have hl : a.length - 1 < a.length := by have := List.length_pos_iff.2 e; omega
        rw [ndA_get hl]
        have hp := (List.pairwise_append.1 h4).2.2 a[a.length - 1] (List.getElem_mem hl) x (by simp)
        have n1 := cmpN.neg _ _ (h5 a[a.length - 1] (by simp)) (h5 x (by simp))
        omega
    rw [e, ih (ns.set (plA al q).toNat (a ++ [x])) q (a ++ [x]) (by simpa using h1) (by simp [h1]) (fun y hy => h3 y (by simp [hy])) (by simpa using h4) (by simpa using h5)]
    simp
theorem arr_all {n : Nat} : ∀ (cs : List Cls) (q : Nat) (ns : List (List Nd)), ns.length = n → q + cs.length ≤ n → (∀ i, q ≤ i → ns.getD i [] = []) → (∀ c ∈ cs, ∀ x ∈ c.nodes, formB x = true ∧ ∀ k ∈ x.kids, 0 ≤ k ∧ k < (n : Int)) → (∀ c ∈ cs, c.nodes.Pairwise fun x y => nodC cmp3 x y < 0) → ∀ i, ((cellsF q cs).foldl (arrS (rngI n)) ns).getD i [] = if q ≤ i ∧ i < q + cs.length then (clA cs (i - q)).nodes else ns.getD i [] := by
  intro cs
  induction cs with
  | nil => intro q ns _ _ _ _ _ i; simp only [cellsF, List.foldl_nil, List.length_nil]; rw [if_neg (by omega)]
  | cons c cs ih =>
    intro q ns hn hq h0 hf hp i
    simp only [List.length_cons] at hq ⊢
    simp only [cellsF, List.foldl_append]
    have hpl : (plA (rngI n) (q : Int)).toNat = q := by rw [plA_range (by omega) (by omega)]; omega
    have e := arr_class (al := rngI n) c.nodes ns (q : Int) [] (by rw [hpl]; omega) (by rw [hpl]; exact h0 q (Nat.le_refl _)) (fun x hx => renN_id (hf c (by simp) x hx).2) (by simpa using hp c (by simp)) (by simpa using fun x hx => (hf c (by simp) x hx).1)
    rw [List.nil_append, hpl] at e
    rw [e, ih (q + 1) (ns.set q c.nodes) (by simpa using hn) (by omega) (fun i hi => by
      have := h0 i (by omega)
      simp only [List.getD_eq_getElem?_getD] at this ⊢
      rw [List.getElem?_set_ne (by omega)]; exact this) (fun d hd => hf d (by simp [hd])) (fun d hd => hp d (by simp [hd])) i]
    by_cases e1 : i = q
    · subst e1
      rw [if_neg (by omega), if_pos (by omega), Nat.sub_self]
      simp only [List.getD_eq_getElem?_getD]
      rw [List.getElem?_set_self (by omega)]
      rfl
    · by_cases e2 : q + 1 ≤ i ∧ i < q + 1 + cs.length
      · rw [if_pos e2, if_pos (by omega)]
        have : i - q = (i - (q + 1)) + 1 := by omega
        rw [this]; rfl
      · rw [if_neg e2, if_neg (by omega)]
        simp only [List.getD_eq_getElem?_getD]
        rw [List.getElem?_set_ne (by omega)]
theorem cls_ext {c d : Cls} (h1 : c.nodes = d.nodes) (h2 : c.size = d.size) : c = d := by
  cases c; cases d; simp only at h1 h2; rw [h1, h2]
theorem cs_ext {cs ds : List Cls} (hl : cs.length = ds.length) (h : ∀ i, i < cs.length → (clA cs i).nodes = (clA ds i).nodes ∧ (clA cs i).size = (clA ds i).size) : cs = ds := by
  refine List.ext_getElem hl fun i h1 h2 => ?_
  have := h i h1
  unfold clA at this
  rw [List.getD_eq_getElem?_getD, List.getD_eq_getElem?_getD, List.getElem?_eq_getElem h1, List.getElem?_eq_getElem h2] at this
  exact cls_ext this.1 this.2
theorem arrC_len (al : List Int) (n : Nat) (sz : Int → Int) (cells : List (Nd × Int)) : (arrC al n sz cells).length = n := by simp [arrC]
theorem arrC_at {al : List Int} {n : Nat} {sz : Int → Int} {cells : List (Nd × Int)} {i : Nat} (h : i < n) : clA (arrC al n sz cells) i = ⟨(arrF al n cells).getD i [], sz (al.getD i 0)⟩ := by
  unfold clA arrC
  rw [List.getD_eq_getElem?_getD, List.getElem?_map, List.getElem?_range h]
  rfl
/-- What the program takes, the document finds laid out as it is. -/
theorem OfOk.laid {cs : List Cls} {roots : List Int} (h : OfOk cs roots) {sz : Int → Int} (hf : FixS cs.length (cellsL cs) sz) {ls : Int → Nd} {F : Nat} (hF : 1073741824 ≤ F) (hl : LstO cs.length (cellsL cs) sz ls F) {al : List Int} (ha : AllO cs.length sz ls F al) : arrC al cs.length sz (cellsL cs) = cs ∧ roots.map (plA al) = roots := by
  have hM : ∀ q, 0 ≤ q → q < (cs.length : Int) → sz q < 1073741824 := fun q h0 h1 => (h.low hf h0 h1).2
  have hL := hl.lay h.inCs hf hM
  have hls := h.least hf hF hl
  have hnum := ordO_num hL (fun p r hp hr hlt => by
    rcases h.lt hp.1 hlt hr.2.1 with e | ⟨e1, e2⟩
    · left; rw [(h.low hf hp.1 hp.2.1).1, (h.low hf hr.1 hr.2.1).1]; exact e
    · right
      rw [(h.low hf hp.1 hp.2.1).1, (h.low hf hr.1 hr.2.1).1, hls p hp.1 hp.2.1, hls r hr.1 hr.2.1]
      exact ⟨e1, e2⟩) F
  have hin : ∀ q ∈ al, 0 ≤ q ∧ q < (cs.length : Int) := fun q hq => mem_rngI.1 (ha.perm.mem_iff.1 hq)
  have hal : al = rngI cs.length := by
    refine List.Perm.eq_of_pairwise (le := fun a b : Int => a ≤ b) (fun a b _ _ h1 h2 => by omega) ?_ ?_ ha.perm
    · refine List.Pairwise.imp_of_mem (fun {a b} hm1 hm2 hab => ?_) ha.srt
      have h1 := hin a hm1
      have h2 := hin b hm2
      have := (hnum a b ⟨h1.1, h1.2, hM a h1.1 h1.2⟩ ⟨h2.1, h2.2, hM b h2.1 h2.2⟩ (by have := hM a h1.1 h1.2; omega) (by have := hM b h2.1 h2.2; omega)).2.1
      rcases Int.lt_or_le b a with e | e
      · have := this e; omega
      · exact e
    · unfold rngI
      exact List.Pairwise.map _ (fun a b h => by omega) (List.pairwise_lt_range (n := cs.length))
  subst hal
  refine ⟨cs_ext (arrC_len _ _ _ _) fun i hi => ?_, ?_⟩
  · rw [arrC_len] at hi
    rw [arrC_at hi]
    simp only
    refine ⟨?_, ?_⟩
    · have := arr_all (n := cs.length) cs 0 (List.replicate cs.length []) (by simp) (by omega) (fun i _ => by
        simp only [List.getD_eq_getElem?_getD]
        rcases Nat.lt_or_ge i cs.length with h | h
        · simp [h]
        · rw [List.getElem?_eq_none (by simpa using h)]; rfl) (fun c hc x hx => ⟨h.form c hc x hx, h.kids c hc x hx⟩) (fun c hc => by
          obtain ⟨j, hj, e⟩ := List.getElem_of_mem hc
          have e2 : clA cs j = c := by unfold clA; rw [List.getD_eq_getElem?_getD, List.getElem?_eq_getElem hj]; exact e
          rw [← e2]; exact h.sorted j hj) i
      unfold arrF cellsL
      rw [this, if_pos (by omega), Nat.sub_zero]
    · rw [rngI_at hi, (h.low hf (q := (i : Int)) (by omega) (by omega)).1]
      unfold szP
      rw [Int.toNat_natCast]
  · conv => rhs; rw [← List.map_id roots]
    exact List.map_congr_left fun k hk => plA_range (h.roots k hk).1 (h.roots k hk).2
end Go.Proofs.YtlbmijcpalfaeaaDoor

set_option linter.unusedSimpArgs false
set_option linter.unusedVariables false
namespace Go.Proofs.YtlbmijcpalfaeaaDoor
open Go.RowKit Go.Lib

/-- In the middle of it. -/
structure AddMid (w : World) (base : Nat) (v : Value) (p : List (Nd × Value)) (ms : List Nd) (x : Value) (wr : World) : Prop where
  ex : ∃ p', OwnP wr base x (p ++ p') ∧ p'.map (·.1) = ms ∧ (∀ q ∈ p', OwnI wr w.heap.size q.2 q.1.kids) ∧ w.grownBy wr v.ownBlock ∧ (x.ownBlock = v.ownBlock ∨ ∀ g, x.ownBlock = some g → w.heap.size ≤ g) ∧ Below base w wr

theorem AddMid.start {w : World} {base : Nat} {v : Value} {p : List (Nd × Value)} (h : OwnP w base v p) : AddMid w base v p [] v w :=
  ⟨⟨[], by simpa using h, rfl, by simp, World.grownBy.refl _ _, .inl rfl, Below.refl _ _⟩⟩

theorem grown_of_below {w w' : World} (h : Below w.heap.size w w') (row : Option Nat) : w.grownBy w' row := ⟨h.os, h.tape, h.output, h.size, fun k hk _ => h.block k hk⟩

/-- One node more: its kids are owned (new since wr), the append has gone through. -/
theorem AddMid.snoc {w : World} {base : Nat} {v x : Value} {p p' : List (Nd × Value)} {ms : List Nd} {wr W w1 : World} {y : Nd} {kv : Value} {g n cap : Nat} (hP : OwnP wr base x (p ++ p')) (hm : p'.map (·.1) = ms) (hkid : ∀ q ∈ p', OwnI wr w.heap.size q.2 q.1.kids) (hgr : w.grownBy wr v.ownBlock) (hx : x.ownBlock = v.ownBlock ∨ ∀ g, x.ownBlock = some g → w.heap.size ≤ g) (hB : Below base w wr)
    (hbase : base ≤ w.heap.size) (hBW : Below wr.heap.size wr W) (hk : OwnI W wr.heap.size kv y.kids) (hn : n = (p ++ p').length)
    (hown : w1.ownsRow base 43 4 (.slice (some ⟨g, 0, none⟩) (n + 1) cap) (n + 1) (ndCells (p ++ p') ++ [.int .i64 y.op, .int .i64 y.n, .string y.name, kv])) (hg : W.grownBy w1 x.ownBlock) (hat : x.ownBlock = some g ∨ g = W.heap.size) :
    AddMid w base v p (ms ++ [y]) (.slice (some ⟨g, 0, none⟩) (n + 1) cap) w1 := by
  have hsz : w.heap.size ≤ wr.heap.size := hgr.size
  have hPW := hP.below hBW
  have hkb : OwnI W base kv y.kids := ownsRow_mono hk (by omega)
  refine ⟨⟨p' ++ [(y, kv)], ?_, by simp [hm], fun q hq => ?_, ?_, ?_, ?_⟩⟩
  · rw [← List.append_assoc]
    subst hn
    exact hPW.snoc hkb hown hg
  · rcases List.mem_append.1 hq with hq | hq
    · have h1 := (hkid q hq).below hBW
      exact World.ownsRow.kept h1 hg (ownBlock_ne h1 hPW.row (by decide))
    · simp at hq; subst hq
      exact ownsRow_mono (World.ownsRow.kept hk hg (ownBlock_ne hk hPW.row (by decide))) hsz
  · refine ⟨hg.os.trans (hBW.os.trans hgr.os), hg.tape.trans (hBW.tape.trans hgr.tape), hg.output.trans (hBW.output.trans hgr.output), Nat.le_trans hsz (Nat.le_trans hBW.size hg.size), fun k hk1 hk2 => ?_⟩
    rw [hg.block k (by have := hBW.size; omega) (fun he => by
      rcases hx with hx | hx
      · rw [hx] at he; exact hk2 he
      · have := hx k he.symm; omega), hBW.block k (by omega), hgr.block k hk1 hk2]
  · rcases hat with hat | hat
    · rcases hx with hx | hx
      · left; show some g = v.ownBlock; rw [← hx, hat]
      · right; intro g' hg'; have e : g = g' := Option.some.inj hg'; have := hx g hat; omega
    · right; intro g' hg'; have e : g = g' := Option.some.inj hg'; have := hBW.size; omega
  · exact (hB.trans (hBW.mono (by omega))).grown hg (by have := hBW.size; omega) (fun k hk => (hPW.row.lt k hk).1)

end Go.Proofs.YtlbmijcpalfaeaaDoor

namespace Go.Proofs.YtlbmijcpalfaeaaDoor
open Go.RowKit Go.Lib

/-- The slice v reads as the lists ps, in blocks below B. -/
def Lst (w : World) (B : Nat) (v : Value) (ps : List (List Nd)) : Prop :=
  ∃ ao cap, v = .slice ao ps.length cap ∧ ps.length ≤ cap ∧ cap ≤ maxLen ∧ (ps = [] ∨ ∃ b o, ao = some ⟨b, o, none⟩ ∧ b < B ∧ ∀ i, i < ps.length → ∃ pv, w.cell? ⟨b, o + i, none⟩ = some pv ∧ Nodes w B pv (ps.getD i []))

theorem Lst.below {w w' : World} {B B' : Nat} {v : Value} {ps : List (List Nd)} (h : Lst w B v ps) (hb : Below B w w') (hB : B ≤ B') : Lst w' B' v ps := by
  obtain ⟨ao, cap, rfl, h1, h2, h3⟩ := h
  refine ⟨ao, cap, rfl, h1, h2, ?_⟩
  rcases h3 with h3 | ⟨b, o, rfl, hlt, hc⟩
  · exact .inl h3
  · exact .inr ⟨b, o, rfl, by omega, fun i hi => let ⟨pv, h4, h5⟩ := hc i hi; ⟨pv, (hb.cell (p := ⟨b, o + i, none⟩) hlt).trans h4, h5.below hb hB⟩⟩

theorem OwnP.kept {w w' : World} {base base' : Nat} {v v2 : Value} {p : List (Nd × Value)} {e : TypeId} {s n : Nat} {xs : List Value} (h : OwnP w base v p) (hg : w.grownBy w' v2.ownBlock) (hr : w.ownsRow base' e s v2 n xs) (h1 : 43 ≠ e) (h2 : 3 ≠ e) : OwnP w' base v p :=
  ⟨World.ownsRow.kept h.row hg (ownBlock_ne h.row hr h1), fun q hq => World.ownsRow.kept (h.kids q hq) hg (ownBlock_ne (h.kids q hq) hr h2)⟩
theorem OwnN.kept {w w' : World} {base base' : Nat} {v v2 : Value} {l : List Nd} {e : TypeId} {s n : Nat} {xs : List Value} (h : OwnN w base v l) (hg : w.grownBy w' v2.ownBlock) (hr : w.ownsRow base' e s v2 n xs) (h1 : 43 ≠ e) (h2 : 3 ≠ e) : OwnN w' base v l :=
  let ⟨p, h3, h4⟩ := h; ⟨p, h3, h4.kept hg hr h1 h2⟩

/-- Lists of lists of the call's own; pvs: the slices. -/
structure OwnLs (w : World) (base : Nat) (v : Value) (ps : List (List Nd)) (pvs : List Value) : Prop where
  len : pvs.length = ps.length
  row : w.ownsRow base 22 1 v ps.length pvs
  each : ∀ i, i < ps.length → OwnN w base (pvs.getD i (.slice none 0 0)) (ps.getD i [])

theorem OwnLs.snoc {w w1 : World} {base : Nat} {v v' : Value} {ps : List (List Nd)} {pvs : List Value} {l : List Nd} {pv : Value} (h : OwnLs w base v ps pvs) (hl : OwnN w base pv l)
    (hown : w1.ownsRow base 22 1 v' (ps.length + 1) (pvs ++ [pv])) (hg : w.grownBy w1 v.ownBlock) : OwnLs w1 base v' (ps ++ [l]) (pvs ++ [pv]) := by
  have hlen := h.len
  refine ⟨by simp [hlen], by simpa using hown, fun i hi => ?_⟩
  by_cases hlt : i < ps.length
  · have e1 : (pvs ++ [pv]).getD i (.slice none 0 0) = pvs.getD i (.slice none 0 0) := by simp only [List.getD_eq_getElem?_getD]; rw [List.getElem?_append_left (by omega)]
    have e2 : (ps ++ [l]).getD i [] = ps.getD i [] := by simp only [List.getD_eq_getElem?_getD]; rw [List.getElem?_append_left (by omega)]
    rw [e1, e2]
    exact (h.each i hlt).kept hg h.row (by decide) (by decide)
  · have he : i = ps.length := by simp at hi; omega
    have e1 : (pvs ++ [pv]).getD i (.slice none 0 0) = pv := by rw [he, ← hlen]; simp
    have e2 : (ps ++ [l]).getD i [] = l := by rw [he]; simp
    rw [e1, e2]
    exact hl.kept hg h.row (by decide) (by decide)

theorem OwnLs.below {w w' : World} {base : Nat} {v : Value} {ps : List (List Nd)} {pvs : List Value} (h : OwnLs w base v ps pvs) (hb : Below w.heap.size w w') : OwnLs w' base v ps pvs :=
  ⟨h.len, ownsRow_below h.row hb, fun i hi => (h.each i hi).below hb⟩

end Go.Proofs.YtlbmijcpalfaeaaDoor

set_option linter.unusedSimpArgs false
set_option linter.unusedVariables false
namespace Go.Proofs.YtlbmijcpalfaeaaDoor
open Go.RowKit Go.Lib

/-- Parts behind one another, and the places of their own nodes. -/
def accS (ps : List (List Nd)) : List Nd × List Int := ps.foldl (fun s p => (s.1 ++ p.map (mvN 0 s.1.length), s.2 ++ [((s.1.length + p.length : Nat) : Int) - 1])) ([], [])
theorem accS_snoc (ps : List (List Nd)) (p : List Nd) : accS (ps ++ [p]) = ((accS ps).1 ++ p.map (mvN 0 (accS ps).1.length), (accS ps).2 ++ [(((accS ps).1.length + p.length : Nat) : Int) - 1]) := by
  unfold accS; rw [List.foldl_append]; rfl
def joinL (op n : Int) (nm : ByteArray) (ps : List (List Nd)) : List Nd := (accS ps).1 ++ [⟨op, n, nm, (accS ps).2⟩]

theorem OwnP.form {w : World} {base : Nat} {v : Value} {p : List (Nd × Value)} (h : OwnP w base v p) : ∃ ao cap, v = .slice ao p.length cap := by
  obtain ⟨_, h2⟩ := h.row
  rcases h2 with ⟨rfl, h0⟩ | ⟨g, cap, cur, rfl, _⟩
  · exact ⟨none, 0, by rw [h0]⟩
  · exact ⟨_, cap, rfl⟩
end Go.Proofs.YtlbmijcpalfaeaaDoor

set_option linter.unusedSimpArgs false
set_option linter.unusedVariables false
namespace Go.Proofs.YtlbmijcpalfaeaaDoor

/-- The part whose own node stands at a kid's place. -/
def kidPart (l : List Nd) (fr : List Nat) (k : Int) : List Nd := partL l (fr.getD k.toNat 0) k.toNat


theorem cut_split (l : List Nd) (a b c : Nat) (hab : a ≤ b) (hbc : b ≤ c) : (l.drop a).take (c - a) = (l.drop a).take (b - a) ++ (l.drop b).take (c - b) := by
  have e : c - a = (b - a) + (c - b) := by omega
  rw [e, List.take_add, List.drop_drop]
  have e2 : a + (b - a) = b := by omega
  rw [e2]

theorem acc_parts {l : List Nd} {fr : List Nat} (h : BegOk l fr) : ∀ (r : List Int) (c c0 : Nat), c ≤ l.length → chainL fr r c = some c0 →
    accS ((r.reverse).map (kidPart l fr)) = (((l.drop c0).take (c - c0)).map (mvN 0 (-(c0 : Int))), r.reverse.map (· - (c0 : Int))) := by
  intro r
  induction r with
  | nil =>
    intro c c0 _ hc
    simp only [chainL, Option.some.injEq] at hc
    subst hc
    simp [accS]
  | cons k r ih =>
    intro c c0 hcl hc
    simp only [chainL] at hc
    split at hc
    · cases hc
    · rename_i hn
      have hlo := h.low (c - 1)
      have hle := chainL_le h.low _ _ _ hc
      have hi := ih _ c0 (by omega) hc
      have hk : k = ((c - 1 : Nat) : Int) := by omega
      have hkt : k.toNat = c - 1 := by omega
      rw [List.reverse_cons, List.map_append, List.map_cons, List.map_nil, accS_snoc, hi]
      have hins := kids_inside h (c - 1) (by omega)
      have hplen := partL_len l (fr.getD (c - 1) 0) (c - 1) (by omega) hlo
      have hkp : kidPart l fr k = partL l (fr.getD (c - 1) 0) (c - 1) := by unfold kidPart; rw [hkt]
      rw [hkp]
      generalize hb : fr.getD (c - 1) 0 = b at *
      have hAl : ((((l.drop c0).take (b - c0)).map (mvN 0 (-(c0 : Int)))).length) = b - c0 := by simp; omega
      have hpart : (partL l b (c - 1)).map (mvN 0 ((b - c0 : Nat) : Int)) = ((l.drop b).take (c - b)).map (mvN 0 (-(c0 : Int))) := by
        unfold partL
        have e : c - 1 + 1 - b = c - b := by omega
        rw [e, List.map_map]
        apply List.map_congr_left
        intro x hx
        obtain ⟨j, hj, rfl⟩ := List.getElem_of_mem hx
        have hj' : j < c - b := by simp at hj; omega
        have hgx : ((l.drop b).take (c - b))[j] = l.getD (b + j) nd0 := by
          have hlt : b + j < l.length := by omega
          simp [hlt]
        rw [hgx]
        have hin := hins (b + j) (by omega) (by omega)
        show mvN 0 ((b - c0 : Nat) : Int) (mvN 0 (-(b : Int)) (l.getD (b + j) nd0)) = mvN 0 (-(c0 : Int)) (l.getD (b + j) nd0)
        unfold mvN
        simp only [List.map_map, Nd.mk.injEq, true_and]
        apply List.map_congr_left
        intro q hq
        have := hin q hq
        show mvK 0 ((b - c0 : Nat) : Int) (mvK 0 (-(b : Int)) q) = mvK 0 (-(c0 : Int)) q
        have e1 : mvK 0 (-(b : Int)) q = q - b := by unfold mvK; rw [if_pos (by omega)]; omega
        rw [e1]
        unfold mvK
        rw [if_pos (by omega), if_pos (by omega)]
        omega
      rw [hAl, hpart]
      refine Prod.ext ?_ ?_
      · show _ ++ _ = _
        rw [cut_split l c0 b c (by omega) (by omega), List.map_append]
      · show _ ++ _ = (r.reverse ++ [k]).map _
        rw [List.map_append, hplen, hk]
        simp
        omega

/-- The expression at a place is its operator with its parts. -/
theorem part_join {l : List Nd} {fr : List Nat} (h : BegOk l fr) (i : Nat) (hi : i < l.length) :
    partL l (fr.getD i 0) i = joinL (l.getD i nd0).op (l.getD i nd0).n (l.getD i nd0).name ((l.getD i nd0).kids.map (kidPart l fr)) := by
  have hc := (h.at_ i hi).2
  have hlo := h.low i
  have hacc := acc_parts h _ i _ (by omega) hc
  rw [List.reverse_reverse] at hacc
  unfold joinL
  rw [hacc]
  have hk0 := ok_kids h i hi
  generalize fr.getD i 0 = a at *
  unfold partL
  have e : i + 1 - a = (i - a) + 1 := by omega
  have hlt : i - a < (l.drop a).length := by simp; omega
  rw [e, List.take_succ_eq_append_getElem hlt, List.map_append]
  congr 1
  have hg : (l.drop a)[i - a] = l.getD i nd0 := by
    have e2 : a + (i - a) = i := by omega
    simp [e2, hi]
  rw [hg]
  simp only [List.map_cons, List.map_nil, List.cons.injEq, and_true]
  unfold mvN
  simp only [Nd.mk.injEq, true_and]
  apply List.map_congr_left
  intro k hk
  have := hk0 k hk
  unfold mvK
  rw [if_pos this]; omega

/-- The whole, made of its parts again. -/
theorem whole_join {l : List Nd} {fr : List Nat} (hb : begL l = some fr) :
    joinL (l.getD (l.length - 1) nd0).op (l.getD (l.length - 1) nd0).n (l.getD (l.length - 1) nd0).name ((l.getD (l.length - 1) nd0).kids.map (kidPart l fr)) = l := by
  obtain ⟨h0, _, hr, ht⟩ := begL_some hb
  have hok := begOk_of hr
  rw [← part_join hok (l.length - 1) (by omega), ht]
  unfold partL
  have e : l.length - 1 + 1 - 0 = l.length := by omega
  rw [e]
  simp [map_mvN_zero]
end Go.Proofs.YtlbmijcpalfaeaaDoor
