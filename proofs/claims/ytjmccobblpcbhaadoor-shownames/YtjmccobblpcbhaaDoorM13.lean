/-
  TlP, QTail.
-/
import Derived.Shelf.Unicode.DecodeSlow
import Derived.Laws.RangeAny
import Derived.Shelf.Strings.Builder1
import Derived.Shelf.Small.Utf8
import Derived.Shelf.Small.Bits
import Derived.Shelf.Strings.BuilderF
import Derived.Shelf.Strings.BuilderK
import Derived.Shelf.Strings.BuilderRune
import Derived.Shelf.Utf8.AppendRune
import Derived.Shelf.Strconv.Itoa0
import Derived.Shelf.Strconv.Itoa1
import Derived.Shelf.LaysM
import Derived.Shelf.Strconv.Itoa2
import Derived.Shelf.Strconv.Itoa3
import Derived.Shelf.Strconv.Itoa4
import Derived.Shelf.Strings.Prefix
import Derived.Shelf.Unicode.DecodeAny
import Derived.Test.YtjmccobblpcbhaaDoorProg
import Derived.WalkKit
import Derived.Deep.DeepFit
import Derived.Lib.OthersKept
import Derived.Lib.RuneCountTail
import Derived.Lib.MapLaws
import Derived.Sort.Walk0
import Derived.Laws.DeepStrings4
import Derived.Lib.ItoaNum
import Derived.Deep.AppendLies
import Derived.Deep.OwnRows
import Derived.Laws.AppendOwnNone
import Derived.Deep.QuietTactic
import Derived.BigQuiet
import Derived.Deep.RegionWith
import Derived.BigCall
import Derived.Lib.LaidTab
import Derived.Maps.OwnSet
import Derived.StringKeys
import Derived.Deep.Slices
import Derived.Lib.QuietBelow
import Derived.StillTail
import Derived.Test.YtjmccobblpcbhaaDoorM01
import Derived.Test.YtjmccobblpcbhaaDoorM02
import Derived.Test.YtjmccobblpcbhaaDoorM03
import Derived.Test.YtjmccobblpcbhaaDoorM04
import Derived.Test.YtjmccobblpcbhaaDoorM05
import Derived.Test.YtjmccobblpcbhaaDoorM06
import Derived.Test.YtjmccobblpcbhaaDoorM07
import Derived.Test.YtjmccobblpcbhaaDoorM08
import Derived.Test.YtjmccobblpcbhaaDoorM09
import Derived.Test.YtjmccobblpcbhaaDoorM10
import Derived.Test.YtjmccobblpcbhaaDoorM11
import Derived.Test.YtjmccobblpcbhaaDoorM12
set_option linter.unusedSimpArgs false
set_option linter.unusedVariables false
namespace Go.Proofs.YtjmccobblpcbhaaDoor
open Go.RowKit Go.Lib

/-- The tables that Show and Lisp read. -/
structure Tb5 (w : World) : Prop where
  wr : WrCells w
  pw : Pows w
  sp : SpanCells w
theorem Tb5.below {w w' : World} (h : Tb5 w) (hb : Below w.heap.size w w') : Tb5 w' := ⟨h.wr.below hb, h.pw.below hb, h.sp.below hb⟩

theorem op_of_form {x : Nd} (h : formB (fillN x) = true) : 1 ≤ x.op ∧ x.op ≤ 18 := by
  unfold formB fitB at h
  simp only [Bool.and_eq_true, decide_eq_true_eq] at h
  have h0 := h.1.1.1
  unfold aritI at h0
  by_cases e : x.op = 18
  · omega
  · have e2 : (fillN x).op = x.op := by simp [fillN, e]
    rw [e2] at h0
    split at h0
    · omega
    · split at h0
      · omega
      · split at h0
        · omega
        · split at h0
          · omega
          · omega

theorem getD_append_left {α : Type} (a b : List α) (d : α) (i : Nat) (h : i < a.length) : (a ++ b).getD i d = a.getD i d := by
  simp only [List.getD_eq_getElem?_getD]; rw [List.getElem?_append_left h]

/-! ### five cells set -/
def set5T (w : World) (G o : Nat) (v0 v1 v2 v3 v4 : Value) : World := ((((w.setCell ⟨G, o, none⟩ v0).setCell ⟨G, o + 1, none⟩ v1).setCell ⟨G, o + 2, none⟩ v2).setCell ⟨G, o + 3, none⟩ v3).setCell ⟨G, o + 4, none⟩ v4
theorem below_set5T {B : Nat} {w0 w : World} {G : Nat} (h : Below B w0 w) (hB : B ≤ G) (o : Nat) (v0 v1 v2 v3 v4 : Value) : Below B w0 (set5T w G o v0 v1 v2 v3 v4) :=
  ((((h.setCell (p := ⟨G, o, none⟩) hB _).setCell (p := ⟨G, o + 1, none⟩) hB _).setCell (p := ⟨G, o + 2, none⟩) hB _).setCell (p := ⟨G, o + 3, none⟩) hB _).setCell (p := ⟨G, o + 4, none⟩) hB _
theorem list_set5 (a : List Value) (r0 r1 r2 r3 r4 : Value) (r : List Value) (v0 v1 v2 v3 v4 : Value) :
    (((((a ++ r0 :: r1 :: r2 :: r3 :: r4 :: r).set a.length v0).set (a.length + 1) v1).set (a.length + 2) v2).set (a.length + 3) v3).set (a.length + 4) v4 = a ++ v0 :: v1 :: v2 :: v3 :: v4 :: r := by
  induction a with
  | nil => rfl
  | cons x a ih =>
    simp only [List.cons_append, List.length_cons]
    have e : ∀ j, a.length + 1 + j = (a.length + j) + 1 := fun j => by omega
    rw [e 1, e 2, e 3, e 4]
    simp only [List.set_cons_succ]
    rw [ih]
theorem OwnT.set5 {w : World} {base G cap n : Nat} {q : List ((Nd × ByteArray) × Value)} {rest : List Value} (h : OwnT w base (.slice (some ⟨G, 0, none⟩) n cap) n q rest) (hr : 5 ≤ rest.length) (x : Nd) (s : ByteArray) (ka : Option Addr) (kn kc : Nat) :
    OwnT (set5T w G (q.length * 5) (.int .i64 x.op) (.int .i64 x.n) (.string x.name) (.slice ka kn kc) (.string s)) base (.slice (some ⟨G, 0, none⟩) n cap) n (q ++ [((x, s), .slice ka kn kc)]) (rest.drop 5) := by
  obtain ⟨h1, h2⟩ := h
  match rest, hr with
  | r0 :: r1 :: r2 :: r3 :: r4 :: r, _ =>
    have hl : (ptCells q).length = q.length * 5 := ptCells_length q
    have hL : (ptCells q ++ r0 :: r1 :: r2 :: r3 :: r4 :: r).length = q.length * 5 + 5 + r.length := by rw [List.length_append, hl]; simp; omega
    have k0 := own_put h1 (i := q.length * 5) (u := .int .i64 x.op) (by omega)
    have k1 := own_put k0 (i := q.length * 5 + 1) (u := .int .i64 x.n) (by simp only [List.length_set]; omega)
    have k2 := own_put k1 (i := q.length * 5 + 2) (u := .string x.name) (by simp only [List.length_set]; omega)
    have k3 := own_put k2 (i := q.length * 5 + 3) (u := .slice ka kn kc) (by simp only [List.length_set]; omega)
    have k4 := own_put k3 (i := q.length * 5 + 4) (u := .string s) (by simp only [List.length_set]; omega)
    refine ⟨?_, fun y hy => ?_⟩
    · have e := list_set5 (ptCells q) r0 r1 r2 r3 r4 r (.int .i64 x.op) (.int .i64 x.n) (.string x.name) (.slice ka kn kc) (.string s)
      rw [hl] at e
      rw [e] at k4
      have e2 : ptCells (q ++ [((x, s), .slice ka kn kc)]) ++ (r0 :: r1 :: r2 :: r3 :: r4 :: r).drop 5 = ptCells q ++ .int .i64 x.op :: .int .i64 x.n :: .string x.name :: .slice ka kn kc :: .string s :: r := by
        rw [ptCells_append, List.append_assoc]; rfl
      rw [e2]; exact k4
    · rcases List.mem_append.1 hy with hy | hy
      · exact h2 y hy
      · simp at hy; subst hy; exact ⟨ka, kn, kc, rfl⟩

/-! ### the outer loop -/
structure TlMid (w1 : World) (J : JT) (l : List Nd) (k : Nat) (wr : World) : Prop where
  own : ∃ q rest, q.map (·.1) = tlL J (l.take k) ∧ OwnT wr w1.heap.size (.slice (some ⟨w1.heap.size, 0, none⟩) l.length l.length) l.length q rest ∧ rest.length = (l.length - k) * 5
  below : Below w1.heap.size w1 wr
theorem TlMid.pt {w1 : World} {J : JT} {l : List Nd} {k : Nat} {wr : World} (h : TlMid w1 J l k wr) (hk : k ≤ l.length) {j : Nat} (hj : j < k) : w1.heap.size < wr.heap.size ∧ PtAt wr w1.heap.size (j * 5) ((tlL J (l.take k)).getD j pt0) := by
  obtain ⟨⟨q, rest, hq, hO, hr⟩, _⟩ := h
  have hl : q.length = k := by have := congrArg List.length hq; rw [tlL_len] at this; simp at this; omega
  obtain ⟨ao, cap, e, _, _, h3⟩ := hO.pts (by omega)
  cases e
  rcases h3 with h3 | ⟨b, e, hb, _, hc⟩
  · subst h3; simp at hl; omega
  · cases e
    have := hc j (by omega)
    rw [hq] at this
    exact ⟨hb, this⟩
theorem TlMid.lt {w1 : World} {J : JT} {l : List Nd} {k : Nat} {wr : World} (h : TlMid w1 J l k wr) (hl : 0 < l.length) : w1.heap.size < wr.heap.size := by
  obtain ⟨⟨q, rest, hq, hO, hr⟩, _⟩ := h
  rcases hO.1.2 with ⟨e, _⟩ | ⟨g, cap, cur, e, _, hg, _⟩
  · simp at e
  · cases e; exact lt_of_block hg
/-- Where the next is stored. -/
theorem TlMid.free {w1 : World} {J : JT} {l : List Nd} {k : Nat} {wr : World} (h : TlMid w1 J l k wr) (hk : k < l.length) : (∀ i, i < 5 → ∃ u, wr.cell? ⟨w1.heap.size, k * 5 + i, none⟩ = some u) ∧ ∀ i, wr.frozen? ⟨w1.heap.size, i, none⟩ = false := by
  obtain ⟨⟨q, rest, hq, hO, hr⟩, _⟩ := h
  have hl : q.length = k := by have := congrArg List.length hq; rw [tlL_len] at this; simp at this; omega
  obtain ⟨h1, h2⟩ := hO.1
  rcases h2 with ⟨e, _⟩ | ⟨g, cap, cur, e, _, hg, hn, _, hs, ht⟩
  · simp at e
  · cases e
    refine ⟨fun i hi => ?_, fun i => frozen_of_heap hg i⟩
    have hi2 : k * 5 + i < cur.size := by rw [hs]; omega
    exact ⟨cur[k * 5 + i], by rw [cell_of_heap hg]; simp [hi2]⟩
theorem TlMid.up {w1 : World} {J : JT} {l : List Nd} {k : Nat} {wr w' : World} (h : TlMid w1 J l k wr) (hb : Below wr.heap.size wr w') : TlMid w1 J l k w' := by
  obtain ⟨⟨q, rest, hq, hO, hr⟩, hbl⟩ := h
  exact ⟨⟨q, rest, hq, hO.below hb, hr⟩, hbl.trans (hb.mono hbl.size)⟩
theorem TlMid.store {w1 : World} {J : JT} {l : List Nd} {k : Nat} {wr : World} (h : TlMid w1 J l k wr) (hk : k < l.length) (ka : Option Addr) (kn kc : Nat) :
    TlMid w1 J l (k + 1) (set5T wr w1.heap.size (k * 5) (.int .i64 (l.getD k nd0).op) (.int .i64 (l.getD k nd0).n) (.string (l.getD k nd0).name) (.slice ka kn kc) (.string (ndT J (tlL J (l.take k)) (l.getD k nd0)))) := by
  obtain ⟨⟨q, rest, hq, hO, hr⟩, hbl⟩ := h
  have hl : q.length = k := by have := congrArg List.length hq; rw [tlL_len] at this; simp at this; omega
  have h5 := hO.set5 (by omega) (l.getD k nd0) (ndT J (tlL J (l.take k)) (l.getD k nd0)) ka kn kc
  rw [hl] at h5
  exact ⟨⟨_, _, by rw [List.map_append, hq, tlL_take hk]; rfl, h5, by rw [List.length_drop]; omega⟩, below_set5T hbl (Nat.le_refl _) _ _ _ _ _ _⟩

/-! ### the inner loop -/
structure KdMid (wo : World) (told : List (Nd × ByteArray)) (ks : List Int) (j : Nat) (v : Value) (wq : World) : Prop where
  own : ∃ q, q.map (·.1) = kidsP told (ks.take j) ∧ OwnT wq wo.heap.size v q.length q [] ∧ q.length = j
  below : Below wo.heap.size wo wq
theorem KdMid.start (wo : World) (told : List (Nd × ByteArray)) (ks : List Int) : KdMid wo told ks 0 (.slice none 0 0) wo :=
  ⟨⟨[], rfl, ⟨World.ownsRow_nil _ _ _ _, by simp⟩, rfl⟩, Below.refl _ _⟩
theorem kids_take (told : List (Nd × ByteArray)) (ks : List Int) (j : Nat) (h : j < ks.length) : kidsP told (ks.take (j + 1)) = kidsP told (ks.take j) ++ [told.getD (ks.getD j 0).toNat pt0] := by
  unfold kidsP
  rw [List.take_succ_eq_append_getElem h, List.map_append]
  simp [h]
theorem cell_news5 (w : World) (a b c d e : Value) (t : TypeId) (H : Nat) (hH : w.heap.size = H) : ∀ j u, [a, b, c, d, e][j]? = some u → (w.alloc (.cells #[a, b, c, d, e] t)).cell? ((⟨H, 0, none⟩ : Addr).add j) = some u := by
  subst hH
  intro j u hj
  rw [Go.WideShapes.add_plain, Nat.zero_add]
  match j, hj with
  | 0, hj => simpa using hj
  | 1, hj => simpa using hj
  | 2, hj => simpa using hj
  | 3, hj => simpa using hj
  | 4, hj => simpa using hj
theorem Tryd.infoPart : (Tryd.prog.info? 141).map (fun i => (i.zero, i.size, i.bytes)) = some (some (.agg #[.int .i64 0, .int .i64 0, .string ⟨#[]⟩, .slice none 0 0, .string ⟨#[]⟩]), 5, 72) := by kernel_rfl
theorem KdMid.app {wo : World} {told : List (Nd × ByteArray)} {ks : List Int} {j : Nat} {v : Value} {wq w6 : World} {o : Obj} {q : List ((Nd × ByteArray) × Value)} {g cap : Nat} {x : Nd} {s : ByteArray} {ka : Option Addr} {kn kc : Nat} (hb : Below wo.heap.size wo wq) (hj : j < ks.length)
    (hq : q.map (·.1) = kidsP told (ks.take j)) (hO : OwnT wq wo.heap.size v q.length q []) (hl : q.length = j) (hx : told.getD (ks.getD j 0).toNat pt0 = (x, s))
    (hown : w6.ownsRow wo.heap.size 141 5 (.slice (some ⟨g, 0, none⟩) (q.length + 1) cap) (q.length + 1) (ptCells q ++ [] ++ [.int .i64 x.op, .int .i64 x.n, .string x.name, .slice ka kn kc, .string s])) (hg : (wq.alloc o).grownBy w6 v.ownBlock) : KdMid wo told ks (j + 1) (.slice (some ⟨g, 0, none⟩) (j + 1) cap) w6 := by
  have hs := hb.size
  subst hl
  refine ⟨⟨q ++ [((x, s), .slice ka kn kc)], ?_, ⟨?_, fun y hy => ?_⟩, by simp⟩, (hb.alloc hs _).grown hg (by simp; omega) (fun k hk => (own_block' hO.1 k hk).1)⟩
  · rw [List.map_append, hq, kids_take told ks _ hj, hx]; rfl
  · have e : ptCells (q ++ [((x, s), .slice ka kn kc)]) ++ [] = ptCells q ++ [] ++ [.int .i64 x.op, .int .i64 x.n, .string x.name, .slice ka kn kc, .string s] := by rw [ptCells_append]; simp [ptCells]
    have e2 : (q ++ [((x, s), Value.slice ka kn kc)]).length = q.length + 1 := by simp
    rw [e, e2]; exact hown
  · rcases List.mem_append.1 hy with hy | hy
    · exact hO.2 y hy
    · simp at hy; subst hy; exact ⟨ka, kn, kc, rfl⟩
theorem KdMid.read {wo : World} {told : List (Nd × ByteArray)} {ks : List Int} {v : Value} {wq : World} (h : KdMid wo told ks ks.length v wq) : ∃ ao cap, v = .slice ao ks.length cap ∧ Pts wq ao cap (kidsP told ks) := by
  obtain ⟨⟨q, hq, hO, hl⟩, _⟩ := h
  obtain ⟨ao, cap, e, hP⟩ := hO.read
  rw [hq, List.take_length] at hP
  rw [hl] at e
  exact ⟨ao, cap, e, hP⟩
end Go.Proofs.YtjmccobblpcbhaaDoor

namespace Go.Proofs.YtjmccobblpcbhaaDoor
open Go Go.Sort Go.RowKit

section
variable {P : Program} {ops : Array Oper} {md : Region.Mode} {C : World → Prop}

/-- f operations of the first n are still to come, each quiet in the class; behind them L. -/
def QHead (P : Program) (md : Region.Mode) (ops : Array Oper) (C : World → Prop) (n : Nat) (L : Array Bool → Act → Prop) : Nat → Array Bool → Act → Prop
  | 0, ls, a => L ls a
  | f + 1, ls, a => Region.ready md ops ls ≠ [] ∧ ∀ i ∈ Region.ready md ops ls, i < n ∧ qOp P ops C i (QHead P md ops C n L f (ls.setIfInBounds i true)) a

theorem QHead.any {n g : Nat} {L : Array Bool → Act → Prop} {Q : Exit → Act → World → Prop} (hL : ∀ ls a w, C w → L ls a → wpAny P md ops Q g ls a w) : ∀ (f : Nat) (ls : Array Bool) (a : Act) (w : World), C w → QHead P md ops C n L f ls a → wpAny P md ops Q (f + g) ls a w := by
  intro f
  induction f with
  | zero => intro ls a w hw h; rw [Nat.zero_add]; exact hL _ _ _ hw h
  | succ f ih =>
    intro ls a w hw h
    have e : f + 1 + g = (f + g) + 1 := by omega
    rw [e]
    exact ⟨fun h0 => absurd h0 h.1, fun i hi => wpOp_of_qOp hw (fun a' w' hw' h' => ih _ a' w' hw' h') (h.2 i hi).2⟩

/-- One that is ready, and apart from all that don't wait for it, may come first. -/
theorem QHead.first {n i : Nat} {oi : Oper} {v : Value} {L : Array Bool → Act → Prop} (hi : ops[i]? = some oi) (hsel : ∀ (j : Nat) (o : Oper) cs b, ops[j]? = some o → o.op ≠ .select cs b)
    (hs : Region.sinkB md ops n = true) (hc : Region.chainB md ops n = true) (hn : n < ops.size) (hin : i < n) (hdone : ∀ ls a, L ls a → ∀ j ∈ Region.ready md ops ls, n ≤ j) :
    ∀ (f : Nat) (ls : Array Bool) (a : Act), HeadInv md ops n ls →
      (∀ j oj, ops[j]? = some oj → j ≠ i → ls.getD j true = false → (∀ e ∈ oj.after, Region.binds md e = true → e.on ≠ i) → oi.apart ops oj = true) →
      i ∈ Region.ready md ops ls → YieldsIn P ops C oi v a → QHead P md ops C n L f (ls.setIfInBounds i true) (a.put oi.dst v) → QHead P md ops C n L (f + 1) ls a := by
  intro f
  induction f with
  | zero =>
    intro ls a inv _ hr hy H
    have hun := (mem_ready.1 hr).1
    constructor
    · intro h; rw [h] at hr; cases hr
    · intro j hj
      have hjn : j < n := Nat.lt_of_not_le fun h => tail_waits hs hc hn inv _ i rfl hin hun j h hj
      refine ⟨hjn, ?_⟩
      by_cases hji : j = i
      · subst hji; exact hy.qOp hi H
      · have := hdone _ _ H j (ready_mono hj hji); omega
  | succ f ih =>
    intro ls a inv hfree hr hy H
    have hun := (mem_ready.1 hr).1
    constructor
    · intro h; rw [h] at hr; cases hr
    · intro j hj
      have hjn : j < n := Nat.lt_of_not_le fun h => tail_waits hs hc hn inv _ i rfl hin hun j h hj
      refine ⟨hjn, ?_⟩
      by_cases hji : j = i
      · subst hji; exact hy.qOp hi H
      · obtain ⟨hjun, oj, hoj, hall⟩ := mem_ready.1 hj
        have hnot : ∀ e ∈ oj.after, Region.binds md e = true → e.on ≠ i := fun e he hb heq => by
          have h1 := hall e he hb
          rw [heq, getD_both hun] at h1
          cases h1
        have h2 := qOp_put hoj (hfree j oj hoj hji hjun hnot) (fun cs b => hsel i oi cs b hi) (fun cs b => hsel j oj cs b hoj) hy (H.2 j (ready_mono hj hji)).2
        have hfree' : ∀ k ok, ops[k]? = some ok → k ≠ i → (ls.setIfInBounds j true).getD k true = false → (∀ e ∈ ok.after, Region.binds md e = true → e.on ≠ i) → oi.apart ops ok = true := fun k ok hk hki hu hno => by
          refine hfree k ok hk hki ?_ hno
          by_cases hjk : j = k
          · subst hjk; exact hjun
          · rw [getD_set_ne true hjk] at hu; exact hu
        refine qOp_mono (fun a' h3 => ih (ls.setIfInBounds j true) a' (inv.set hj hjn) hfree' (ready_mono hr (Ne.symm hji)) h3.1 ?_) h2
        rw [Array.setIfInBounds_comm _ _ hji]
        exact h3.2

theorem QHead.lex {n g : Nat} {K : Act → Prop} (hsel : Region.noSelect ops = true) (hs : Region.sinkB md ops n = true) (hc : Region.chainB md ops n = true) (hn : n < ops.size) :
    ∀ (l : List Oper) (k : Nat) (ls : Array Bool) (a : Act), (∀ j, j < l.length → l[j]? = ops[k + j]?) → k + l.length = n → HeadInv md ops n ls → Region.lexHead md ops g l.length k ls = true → wpQuiet P ops C K l a →
      QHead P md ops C n (fun ls' a' => Region.seqB md ops g n ls' = true ∧ K a') l.length ls a := by
  intro l
  induction l with
  | nil =>
    intro k ls a _ hk _ hB h
    have : k = n := by simpa using hk
    subst this
    exact ⟨by simpa [Region.lexHead] using hB, h⟩
  | cons o l ih =>
    intro k ls a hl hk inv hB h
    have h0 : ops[k]? = some o := by simpa using (hl 0 (by simp)).symm
    simp only [List.length_cons, Region.lexHead, Bool.and_eq_true] at hB
    have hkn : k < n := by simp only [List.length_cons] at hk; omega
    have hr : k ∈ Region.ready md ops ls := by simpa using hB.1.1
    have hq : qOp P ops C k (wpQuiet P ops C K l) a := by unfold qOp; simp only [h0]; exact h
    obtain ⟨v, hy, hK⟩ := yieldsIn_of_qOp h0 hq
    refine QHead.first h0 (Region.noSelect_spec hsel) hs hc hn hkn (fun ls' a' hL => seqB_ready hL.1) l.length ls a inv (Region.free_spec h0 hB.1.2) hr hy ?_
    refine ih (k + 1) _ _ (fun j hj => ?_) (by simp only [List.length_cons] at hk; omega) (inv.set hr hkn) hB.2 hK
    have := hl (j + 1) (by simp; omega)
    simpa [Nat.add_assoc, Nat.add_comm 1 j] using this
end

/-- THE LAW, at the class 'w with new memory laid behind it'. -/
theorem wp_region_quiet_then {P : Program} {id : Nat} {Q : Exit → Act → World → Prop} {a : Act} {w : World} {l : List Oper} (n : Nat) (hm : P.follows .mixedOrders = true) (hB : Region.lexTailB .any l.toArray n = true)
    (h : wpQuiet P l.toArray (fun w' => ∃ p : Regrown, w' = grow (redrawn w p.d) p.os) (fun a' => ∀ w', (∃ p : Regrown, w' = grow (redrawn w p.d) p.os) → wpList P l.toArray Q (l.drop n) a' w') (l.take n) a) : (Code.region id l.toArray true).wp P Q a w := by
  simp only [Region.lexTailB, Bool.and_eq_true, decide_eq_true_eq] at hB
  obtain ⟨⟨⟨⟨hsel, hn⟩, hs⟩, hc⟩, hlex⟩ := hB
  have hn' : n < l.length := by simpa using hn
  have htl : (l.take n).length = n := by simp; omega
  have hdl : (l.drop n).length = l.toArray.size - n := by simp
  have inv0 : HeadInv .any l.toArray n (Array.replicate l.toArray.size false) :=
    ⟨by simp, fun j oj _ hl => (by rw [getD_replicate_false] at hl; cases hl), fun t _ ht => getD_in (by simpa using ht) (getD_replicate_false _ _)⟩
  have H := QHead.lex (P := P) (md := .any) (g := l.toArray.size - n) hsel hs hc hn (l.take n) 0 _ a (fun j hj => by
    have hj' : j < n := by rw [htl] at hj; exact hj
    simp [hj']) (by simpa using htl) inv0 (by rw [htl]; exact hlex) h
  refine wp_region_any hm ?_
  have := QHead.any (Q := Q) (g := l.toArray.size - n) (fun ls a' w' hw' hL => by
    have := wpAny_of_seq (md := .any) (Q' := Q) (l.drop n) n ls a' w' (fun j => by simp [List.getElem?_drop]) (by rw [hdl]; exact hL.1) (hL.2 w' hw')
    rwa [hdl] at this) _ _ _ { w with drawn := w.drawn + 1 } ⟨⟨w.drawn + 1, #[]⟩, by rw [grow_empty]; rfl⟩ H
  rw [htl, show n + (l.toArray.size - n) = l.toArray.size by omega] at this
  exact this
end Go.Proofs.YtjmccobblpcbhaaDoor
