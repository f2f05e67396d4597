/-
  ExAddP, ExMakW, JnEq, RdUp.
-/
import Derived.Shelf.Unicode.DecodeSlow
import Derived.Laws.RangeAny
import Derived.Shelf.Strings.Builder1
import Derived.Shelf.Small.Utf8
import Derived.Shelf.Small.Bits
import Derived.Shelf.Strings.BuilderF
import Derived.Shelf.Strings.BuilderK
import Derived.Shelf.Strings.BuilderRune
import Derived.Shelf.Utf8.AppendRune
import Derived.Shelf.Strconv.Itoa0
import Derived.Shelf.Strconv.Itoa1
import Derived.Shelf.LaysM
import Derived.Shelf.Strconv.Itoa2
import Derived.Shelf.Strconv.Itoa3
import Derived.Shelf.Strconv.Itoa4
import Derived.Shelf.Strings.Prefix
import Derived.Shelf.Unicode.DecodeAny
import Derived.Test.YtjmccobblpcbhaaDoorProg
import Derived.WalkKit
import Derived.Deep.DeepFit
import Derived.Lib.OthersKept
import Derived.Lib.RuneCountTail
import Derived.Lib.Small
import Derived.Lib.Strings
import Derived.Lib.MapLaws
import Derived.Deep.AppendLies
import Derived.Deep.OwnRows
import Derived.Laws.AppendOwnNone
import Derived.Deep.QuietTactic
import Derived.BigQuiet
import Derived.Deep.RegionWith
import Derived.Laws.DeepStrings4
import Derived.Test.YtjmccobblpcbhaaDoorK01
import Derived.Test.YtjmccobblpcbhaaDoorK02
import Derived.Test.YtjmccobblpcbhaaDoorK03
import Derived.Test.YtjmccobblpcbhaaDoorK04
import Derived.Test.YtjmccobblpcbhaaDoorK05
import Derived.Test.YtjmccobblpcbhaaDoorK06
import Derived.Test.YtjmccobblpcbhaaDoorK07
set_option linter.unusedSimpArgs false
set_option linter.unusedVariables false
namespace Go.Proofs.YtjmccobblpcbhaaDoor
open Go.RowKit Go.Lib

/-- What was appended to a list of the call's own. -/
structure AddPost (w : World) (base : Nat) (v : Value) (p : List (Nd × Value)) (ms : List Nd) (e : Ending) (w' : World) : Prop where
  ex : ∃ v' p', e = .returned v' ∧ OwnP w' base v' (p ++ p') ∧ p'.map (·.1) = ms ∧ (∀ q ∈ p', OwnI w' w.heap.size q.2 q.1.kids) ∧ w.grownBy w' v.ownBlock ∧ (v'.ownBlock = v.ownBlock ∨ ∀ g, v'.ownBlock = some g → w.heap.size ≤ g) ∧ Below base w w'

/-- In the middle of it. -/
structure AddMid (w : World) (base : Nat) (v : Value) (p : List (Nd × Value)) (ms : List Nd) (x : Value) (wr : World) : Prop where
  ex : ∃ p', OwnP wr base x (p ++ p') ∧ p'.map (·.1) = ms ∧ (∀ q ∈ p', OwnI wr w.heap.size q.2 q.1.kids) ∧ w.grownBy wr v.ownBlock ∧ (x.ownBlock = v.ownBlock ∨ ∀ g, x.ownBlock = some g → w.heap.size ≤ g) ∧ Below base w wr

theorem AddMid.start {w : World} {base : Nat} {v : Value} {p : List (Nd × Value)} (h : OwnP w base v p) : AddMid w base v p [] v w :=
  ⟨⟨[], by simpa using h, rfl, by simp, World.grownBy.refl _ _, .inl rfl, Below.refl _ _⟩⟩

/-- One node more: its kids are owned (new since wr), the append has gone through. -/
theorem AddMid.snoc {w : World} {base : Nat} {v x : Value} {p p' : List (Nd × Value)} {ms : List Nd} {wr W w1 : World} {y : Nd} {kv : Value} {g n cap : Nat} (hP : OwnP wr base x (p ++ p')) (hm : p'.map (·.1) = ms) (hkid : ∀ q ∈ p', OwnI wr w.heap.size q.2 q.1.kids) (hgr : w.grownBy wr v.ownBlock) (hx : x.ownBlock = v.ownBlock ∨ ∀ g, x.ownBlock = some g → w.heap.size ≤ g) (hB : Below base w wr)
    (hbase : base ≤ w.heap.size) (hBW : Below wr.heap.size wr W) (hk : OwnI W wr.heap.size kv y.kids) (hn : n = (p ++ p').length)
    (hown : w1.ownsRow base 60 4 (.slice (some ⟨g, 0, none⟩) (n + 1) cap) (n + 1) (ndCells (p ++ p') ++ [.int .i64 y.op, .int .i64 y.n, .string y.name, kv])) (hg : W.grownBy w1 x.ownBlock) (hat : x.ownBlock = some g ∨ g = W.heap.size) :
    AddMid w base v p (ms ++ [y]) (.slice (some ⟨g, 0, none⟩) (n + 1) cap) w1 := by
  have hsz : w.heap.size ≤ wr.heap.size := hgr.size
  have hPW := hP.below hBW
  have hkb : OwnI W base kv y.kids := ownsRow_mono hk (by omega)
  refine ⟨⟨p' ++ [(y, kv)], ?_, by simp [hm], fun q hq => ?_, ?_, ?_, ?_⟩⟩
  · rw [← List.append_assoc]
    subst hn
    exact hPW.snoc hkb hown hg
  · rcases List.mem_append.1 hq with hq | hq
    · have h1 := (hkid q hq).below hBW
      exact World.ownsRow.kept h1 hg (ownBlock_ne h1 hPW.row (by decide))
    · simp at hq; subst hq
      exact ownsRow_mono (World.ownsRow.kept hk hg (ownBlock_ne hk hPW.row (by decide))) hsz
  · refine ⟨hg.os.trans (hBW.os.trans hgr.os), hg.tape.trans (hBW.tape.trans hgr.tape), hg.output.trans (hBW.output.trans hgr.output), Nat.le_trans hsz (Nat.le_trans hBW.size hg.size), fun k hk1 hk2 => ?_⟩
    rw [hg.block k (by have := hBW.size; omega) (fun he => by
      rcases hx with hx | hx
      · rw [hx] at he; exact hk2 he
      · have := hx k he.symm; omega), hBW.block k (by omega), hgr.block k hk1 hk2]
  · rcases hat with hat | hat
    · rcases hx with hx | hx
      · left; show some g = v.ownBlock; rw [← hx, hat]
      · right; intro g' hg'; have e : g = g' := Option.some.inj hg'; have := hx g hat; omega
    · right; intro g' hg'; have e : g = g' := Option.some.inj hg'; have := hBW.size; omega
  · exact (hB.trans (hBW.mono (by omega))).grown hg (by have := hBW.size; omega) (fun k hk => (hPW.row.lt k hk).1)

end Go.Proofs.YtjmccobblpcbhaaDoor

namespace Go.Proofs.YtjmccobblpcbhaaDoor
open Go.RowKit Go.Lib

/-- The slice v reads as the lists ps, in blocks below B. -/
def Lst (w : World) (B : Nat) (v : Value) (ps : List (List Nd)) : Prop :=
  ∃ ao cap, v = .slice ao ps.length cap ∧ ps.length ≤ cap ∧ cap ≤ maxLen ∧ (ps = [] ∨ ∃ b o, ao = some ⟨b, o, none⟩ ∧ b < B ∧ ∀ i, i < ps.length → ∃ pv, w.cell? ⟨b, o + i, none⟩ = some pv ∧ Nodes w B pv (ps.getD i []))

theorem Lst.below {w w' : World} {B B' : Nat} {v : Value} {ps : List (List Nd)} (h : Lst w B v ps) (hb : Below B w w') (hB : B ≤ B') : Lst w' B' v ps := by
  obtain ⟨ao, cap, rfl, h1, h2, h3⟩ := h
  refine ⟨ao, cap, rfl, h1, h2, ?_⟩
  rcases h3 with h3 | ⟨b, o, rfl, hlt, hc⟩
  · exact .inl h3
  · exact .inr ⟨b, o, rfl, by omega, fun i hi => let ⟨pv, h4, h5⟩ := hc i hi; ⟨pv, (hb.cell (p := ⟨b, o + i, none⟩) hlt).trans h4, h5.below hb hB⟩⟩

theorem OwnP.kept {w w' : World} {base base' : Nat} {v v2 : Value} {p : List (Nd × Value)} {e : TypeId} {s n : Nat} {xs : List Value} (h : OwnP w base v p) (hg : w.grownBy w' v2.ownBlock) (hr : w.ownsRow base' e s v2 n xs) (h1 : 60 ≠ e) (h2 : 3 ≠ e) : OwnP w' base v p :=
  ⟨World.ownsRow.kept h.row hg (ownBlock_ne h.row hr h1), fun q hq => World.ownsRow.kept (h.kids q hq) hg (ownBlock_ne (h.kids q hq) hr h2)⟩
theorem OwnN.kept {w w' : World} {base base' : Nat} {v v2 : Value} {l : List Nd} {e : TypeId} {s n : Nat} {xs : List Value} (h : OwnN w base v l) (hg : w.grownBy w' v2.ownBlock) (hr : w.ownsRow base' e s v2 n xs) (h1 : 60 ≠ e) (h2 : 3 ≠ e) : OwnN w' base v l :=
  let ⟨p, h3, h4⟩ := h; ⟨p, h3, h4.kept hg hr h1 h2⟩

/-- Lists of lists of the call's own; pvs: the slices. -/
structure OwnLs (w : World) (base : Nat) (v : Value) (ps : List (List Nd)) (pvs : List Value) : Prop where
  len : pvs.length = ps.length
  row : w.ownsRow base 22 1 v ps.length pvs
  each : ∀ i, i < ps.length → OwnN w base (pvs.getD i (.slice none 0 0)) (ps.getD i [])

theorem OwnLs.snoc {w w1 : World} {base : Nat} {v v' : Value} {ps : List (List Nd)} {pvs : List Value} {l : List Nd} {pv : Value} (h : OwnLs w base v ps pvs) (hl : OwnN w base pv l)
    (hown : w1.ownsRow base 22 1 v' (ps.length + 1) (pvs ++ [pv])) (hg : w.grownBy w1 v.ownBlock) : OwnLs w1 base v' (ps ++ [l]) (pvs ++ [pv]) := by
  have hlen := h.len
  refine ⟨by simp [hlen], by simpa using hown, fun i hi => ?_⟩
  by_cases hlt : i < ps.length
  · have e1 : (pvs ++ [pv]).getD i (.slice none 0 0) = pvs.getD i (.slice none 0 0) := by simp only [List.getD_eq_getElem?_getD]; rw [List.getElem?_append_left (by omega)]
    have e2 : (ps ++ [l]).getD i [] = ps.getD i [] := by simp only [List.getD_eq_getElem?_getD]; rw [List.getElem?_append_left (by omega)]
    rw [e1, e2]
    exact (h.each i hlt).kept hg h.row (by decide) (by decide)
  · have he : i = ps.length := by simp at hi; omega
    have e1 : (pvs ++ [pv]).getD i (.slice none 0 0) = pv := by rw [he, ← hlen]; simp
    have e2 : (ps ++ [l]).getD i [] = l := by rw [he]; simp
    rw [e1, e2]
    exact hl.kept hg h.row (by decide) (by decide)

theorem OwnLs.below {w w' : World} {base : Nat} {v : Value} {ps : List (List Nd)} {pvs : List Value} (h : OwnLs w base v ps pvs) (hb : Below w.heap.size w w') : OwnLs w' base v ps pvs :=
  ⟨h.len, ownsRow_below h.row hb, fun i hi => (h.each i hi).below hb⟩

end Go.Proofs.YtjmccobblpcbhaaDoor

set_option linter.unusedSimpArgs false
set_option linter.unusedVariables false
namespace Go.Proofs.YtjmccobblpcbhaaDoor
open Go.RowKit Go.Lib

/-- Parts behind one another, and the places of their own nodes. -/
def accS (ps : List (List Nd)) : List Nd × List Int := ps.foldl (fun s p => (s.1 ++ p.map (mvN 0 s.1.length), s.2 ++ [((s.1.length + p.length : Nat) : Int) - 1])) ([], [])
theorem accS_snoc (ps : List (List Nd)) (p : List Nd) : accS (ps ++ [p]) = ((accS ps).1 ++ p.map (mvN 0 (accS ps).1.length), (accS ps).2 ++ [(((accS ps).1.length + p.length : Nat) : Int) - 1]) := by
  unfold accS; rw [List.foldl_append]; rfl
theorem accS_len2 (ps : List (List Nd)) : (accS ps).2.length = ps.length := by
  have key : ∀ (qs rs : List (List Nd)), (accS rs).2.length = rs.length → (accS (rs ++ qs)).2.length = (rs ++ qs).length := by
    intro qs
    induction qs with
    | nil => intro rs h; simpa using h
    | cons q qs ih =>
      intro rs h
      have e : rs ++ q :: qs = (rs ++ [q]) ++ qs := by simp
      rw [e]
      exact ih (rs ++ [q]) (by rw [accS_snoc]; simp [h])
  simpa using key ps [] rfl

def joinL (op n : Int) (nm : ByteArray) (ps : List (List Nd)) : List Nd := (accS ps).1 ++ [⟨op, n, nm, (accS ps).2⟩]

theorem OwnP_nil (w : World) (base : Nat) : OwnP w base (.slice none 0 0) [] := ⟨World.ownsRow_nil _ _ _ _, by simp⟩

theorem OwnP.form {w : World} {base : Nat} {v : Value} {p : List (Nd × Value)} (h : OwnP w base v p) : ∃ ao cap, v = .slice ao p.length cap := by
  obtain ⟨_, h2⟩ := h.row
  rcases h2 with ⟨rfl, h0⟩ | ⟨g, cap, cur, rfl, _⟩
  · exact ⟨none, 0, by rw [h0]⟩
  · exact ⟨_, cap, rfl⟩
theorem accS_le' {ps : List (List Nd)} {N : Nat} (h : ∀ l ∈ ps, l.length ≤ N) : (accS ps).1.length ≤ N * ps.length := by
  have key : ∀ (qs rs : List (List Nd)), (∀ l ∈ qs, l.length ≤ N) → (accS rs).1.length ≤ N * rs.length → (accS (rs ++ qs)).1.length ≤ N * (rs ++ qs).length := by
    intro qs
    induction qs with
    | nil => intro rs _ h; simpa using h
    | cons q qs ih =>
      intro rs hq h
      have e : rs ++ q :: qs = (rs ++ [q]) ++ qs := by simp
      rw [e]
      refine ih (rs ++ [q]) (fun l hl => hq l (List.mem_cons_of_mem _ hl)) ?_
      have := hq q (List.mem_cons_self ..)
      rw [accS_snoc]; simp [Nat.mul_add]; omega
  simpa using key ps [] h (by simp [accS])

/-- In the third loop. -/
structure MkMid (w : World) (base : Nat) (ps : List (List Nd)) (v kv : Value) (wr : World) : Prop where
  ex : ∃ p, OwnP wr base v p ∧ p.map (·.1) = (accS ps).1 ∧ OwnI wr base kv (accS ps).2 ∧ (∀ q ∈ p, q.2.ownBlock = none ∨ q.2.ownBlock ≠ kv.ownBlock) ∧ Below base w wr

/-- The kids' list grows by one. -/
theorem mk_kids {W w1 : World} {base : Nat} {v kv : Value} {p : List (Nd × Value)} {ks : List Int} {z : Int} {g cap : Nat} (hP : OwnP W base v p) (hK : OwnI W base kv ks) (hd : ∀ q ∈ p, q.2.ownBlock = none ∨ q.2.ownBlock ≠ kv.ownBlock)
    (hown : w1.ownsRow base 3 1 (.slice (some ⟨g, 0, none⟩) (ks.length + 1) cap) (ks.length + 1) (ks.map (Value.int .i64) ++ [.int .i64 z])) (hg : W.grownBy w1 kv.ownBlock) (hat : kv.ownBlock = some g ∨ g = W.heap.size) :
    OwnP w1 base v p ∧ OwnI w1 base (.slice (some ⟨g, 0, none⟩) (ks.length + 1) cap) (ks ++ [z]) ∧ ∀ q ∈ p, q.2.ownBlock = none ∨ q.2.ownBlock ≠ (Value.slice (some ⟨g, 0, none⟩) (ks.length + 1) cap).ownBlock := by
  refine ⟨⟨World.ownsRow.kept hP.row hg (ownBlock_ne hP.row hK (by decide)), fun q hq => World.ownsRow.kept (hP.kids q hq) hg (hd q hq)⟩, OwnI_snoc hown, fun q hq => ?_⟩
  rcases hd q hq with h | h
  · exact .inl h
  · right
    show q.2.ownBlock ≠ some g
    rcases hat with hat | hat
    · rw [← hat]; exact h
    · intro he
      have := ((hP.kids q hq).lt g he).2
      omega

end Go.Proofs.YtjmccobblpcbhaaDoor

set_option linter.unusedSimpArgs false
set_option linter.unusedVariables false
namespace Go.Proofs.YtjmccobblpcbhaaDoor
open Go.RowKit Go.Lib

def KidsUp (l : List Nd) : Prop := ∀ x ∈ l, ∀ k ∈ x.kids, 0 ≤ k
theorem mv_sh {d : Nat} {x : Nd} (h : ∀ k ∈ x.kids, 0 ≤ k) : mvN 0 d x = shN d x := by
  unfold mvN shN
  congr 1
  refine List.map_congr_left fun k hk => ?_
  have := h k hk
  unfold mvK
  split <;> omega
theorem mv_shs {d : Nat} {l : List Nd} (h : KidsUp l) : l.map (mvN 0 d) = l.map (shN d) := List.map_congr_left fun x hx => mv_sh (h x hx)
theorem join1 (op : Int) {a : List Nd} (ka : KidsUp a) (na : a ≠ []) : joinL op 0 ⟨#[]⟩ [a] = jn1 op a := by
  have := List.length_pos_iff.2 na
  have e0 : a.map (mvN 0 0) = a := by
    have := mv_shs (d := 0) ka
    rw [shN_zero] at this
    exact this
  unfold joinL accS jn1
  simp [e0]
  omega
theorem join2 (op : Int) {a b : List Nd} (ka : KidsUp a) (kb : KidsUp b) (na : a ≠ []) (nb : b ≠ []) : joinL op 0 ⟨#[]⟩ [a, b] = jn2 op a b := by
  have := List.length_pos_iff.2 na
  have := List.length_pos_iff.2 nb
  have e0 : a.map (mvN 0 0) = a := by
    have := mv_shs (d := 0) ka
    rw [shN_zero] at this
    exact this
  have e1 := mv_shs (d := a.length) kb
  unfold joinL accS jn2
  simp [e0, e1]
  omega
theorem join3 (op : Int) {a b c : List Nd} (ka : KidsUp a) (kb : KidsUp b) (kc : KidsUp c) (na : a ≠ []) (nb : b ≠ []) (nc : c ≠ []) : joinL op 0 ⟨#[]⟩ [a, b, c] = jn3 op a b c := by
  have := List.length_pos_iff.2 na
  have := List.length_pos_iff.2 nb
  have := List.length_pos_iff.2 nc
  have e0 : a.map (mvN 0 0) = a := by
    have := mv_shs (d := 0) ka
    rw [shN_zero] at this
    exact this
  have e1 := mv_shs (d := a.length) kb
  have e2 := mv_shs (d := a.length + b.length) kc
  rw [Int.natCast_add] at e2
  unfold joinL accS jn3
  simp [e0, e1, e2]
  omega
end Go.Proofs.YtjmccobblpcbhaaDoor

set_option linter.unusedSimpArgs false
set_option linter.unusedVariables false
namespace Go.Proofs.YtjmccobblpcbhaaDoor
open Go.Lib

structure KidsIn (l : List Nd) : Prop where
  ne : l ≠ []
  few : ∀ x ∈ l, x.kids.length ≤ 3
  kin : ∀ x ∈ l, ∀ k ∈ x.kids, 0 ≤ k ∧ k < l.length
theorem KidsIn.up {l : List Nd} (h : KidsIn l) : KidsUp l := fun x hx k hk => (h.kin x hx k hk).1
theorem one_up (op n : Int) (nm : ByteArray) : KidsIn [⟨op, n, nm, []⟩] := ⟨by simp, fun x hx => by rw [List.mem_singleton.1 hx]; simp, fun x hx k hk => by rw [List.mem_singleton.1 hx] at hk; cases hk⟩
theorem sh_in {l : List Nd} (h : KidsIn l) (d N : Nat) (hN : d + l.length ≤ N) : ∀ x ∈ l.map (shN d), x.kids.length ≤ 3 ∧ ∀ k ∈ x.kids, 0 ≤ k ∧ k < (N : Int) := by
  intro x hx
  obtain ⟨y, hy, rfl⟩ := List.mem_map.1 hx
  refine ⟨by unfold shN; simpa using h.few y hy, fun k hk => ?_⟩
  unfold shN at hk
  obtain ⟨z, hz, rfl⟩ := List.mem_map.1 hk
  have := h.kin y hy z hz
  omega
theorem KidsIn.wide {l : List Nd} (h : KidsIn l) (N : Nat) (hN : l.length ≤ N) : ∀ x ∈ l, x.kids.length ≤ 3 ∧ ∀ k ∈ x.kids, 0 ≤ k ∧ k < (N : Int) := fun x hx => ⟨h.few x hx, fun k hk => by have := h.kin x hx k hk; omega⟩
theorem in_of {l : List Nd} (hne : l ≠ []) (h : ∀ x ∈ l, x.kids.length ≤ 3 ∧ ∀ k ∈ x.kids, 0 ≤ k ∧ k < (l.length : Int)) : KidsIn l := ⟨hne, fun x hx => (h x hx).1, fun x hx => (h x hx).2⟩
theorem jn1_up (op : Int) {a : List Nd} (ha : KidsIn a) : KidsIn (jn1 op a) := by
  have := List.length_pos_iff.2 ha.ne
  have hl : (jn1 op a).length = a.length + 1 := by simp [jn1]
  refine in_of (jn1_ne _ _) fun x hx => ?_
  rw [hl]
  unfold jn1 at hx
  rcases List.mem_append.1 hx with hx | hx
  · exact ha.wide (a.length + 1) (by omega) x hx
  · rw [List.mem_singleton.1 hx]
    refine ⟨by simp, fun k hk => ?_⟩
    simp at hk
    omega
theorem jn2_up (op : Int) {a b : List Nd} (ha : KidsIn a) (hb : KidsIn b) : KidsIn (jn2 op a b) := by
  have := List.length_pos_iff.2 ha.ne
  have := List.length_pos_iff.2 hb.ne
  have hl : (jn2 op a b).length = a.length + b.length + 1 := by simp [jn2]; omega
  refine in_of (jn2_ne _ _ _) fun x hx => ?_
  rw [hl]
  unfold jn2 at hx
  rcases List.mem_append.1 hx with hx | hx
  · rcases List.mem_append.1 hx with hx | hx
    · exact ha.wide _ (by omega) x hx
    · exact sh_in hb a.length _ (by omega) x hx
  · rw [List.mem_singleton.1 hx]
    refine ⟨by simp, fun k hk => ?_⟩
    simp at hk
    omega
theorem jn3_up (op : Int) {a b c : List Nd} (ha : KidsIn a) (hb : KidsIn b) (hc : KidsIn c) : KidsIn (jn3 op a b c) := by
  have := List.length_pos_iff.2 ha.ne
  have := List.length_pos_iff.2 hb.ne
  have := List.length_pos_iff.2 hc.ne
  have hl : (jn3 op a b c).length = a.length + b.length + c.length + 1 := by simp [jn3]; omega
  refine in_of (jn3_ne _ _ _ _) fun x hx => ?_
  rw [hl]
  unfold jn3 at hx
  rcases List.mem_append.1 hx with hx | hx
  · rcases List.mem_append.1 hx with hx | hx
    · rcases List.mem_append.1 hx with hx | hx
      · exact ha.wide _ (by omega) x hx
      · exact sh_in hb a.length _ (by omega) x hx
    · exact sh_in hc (a.length + b.length) _ (by omega) x hx
  · rw [List.mem_singleton.1 hx]
    refine ⟨by simp, fun k hk => ?_⟩
    simp at hk
    omega
def RdQ.up (q : RdQ) : Prop := ∀ lv la, q = .loop lv la → KidsIn la
theorem rdLit_up {s : ByteArray} {v : Int} {t : Tk} {r : List Nd × Nat} (h : rdLit s v t = .ok r) : KidsIn r.1 := by
  unfold rdLit at h
  split at h
  · split at h
    · cases h; exact one_up _ _ _
    · cases h
  · cases h
theorem rdNamed_up {s : ByteArray} {v : Int} {t : Tk} {r : List Nd × Nat} (h : rdNamed s v t = .ok r) : KidsIn r.1 := by
  unfold rdNamed at h
  split at h
  · split at h
    · cases h; exact one_up _ _ _
    · cases h
  · cases h
theorem rd_up (s : ByteArray) (pat : Bool) : ∀ (f : Nat) (q : RdQ) (t : Tk) (o : Nat) (r : List Nd × Nat), q.up → rdRun s pat f q t o = .ok r → KidsIn r.1 := by
  intro f
  induction f with
  | zero => intro q t o r _ h; cases h
  | succ f ih =>
    intro q t o r hq h
    cases q with
    | cond =>
      obtain ⟨c, h1, h⟩ := Pr.bind_ok h
      obtain ⟨t1, _, h⟩ := Pr.bind_ok h
      split at h
      · obtain ⟨t2, _, h⟩ := Pr.bind_ok h
        obtain ⟨a, ha, h⟩ := Pr.bind_ok h
        obtain ⟨t3, _, h⟩ := Pr.bind_ok h
        split at h
        · split at h
          · obtain ⟨t4, _, h⟩ := Pr.bind_ok h
            obtain ⟨b, hb, h⟩ := Pr.bind_ok h
            cases h
            exact jn3_up _ (ih (.level 1) _ _ _ (fun _ _ e => by cases e) h1) (ih .cond _ _ _ (fun _ _ e => by cases e) ha) (ih .cond _ _ _ (fun _ _ e => by cases e) hb)
          · cases h
        · cases h
      · cases h; exact ih (.level 1) _ _ _ (fun _ _ e => by cases e) h1
    | level lv =>
      simp only [rdRun] at h
      split at h
      · exact ih .un _ _ _ (fun _ _ e => by cases e) h
      · obtain ⟨a, h1, h⟩ := Pr.bind_ok h
        obtain ⟨t1, _, h⟩ := Pr.bind_ok h
        exact ih (.loop lv a.1) _ _ _ (fun _ _ e => by cases e; exact ih (.level (lv + 1)) _ _ _ (fun _ _ e => by cases e) h1) h
    | loop lv la =>
      simp only [rdRun] at h
      split at h
      · obtain ⟨t1, _, h⟩ := Pr.bind_ok h
        obtain ⟨b, hb, h⟩ := Pr.bind_ok h
        have kb := ih (.level (lv + 1)) _ _ _ (fun _ _ e => by cases e) hb
        split at h
        · cases h; exact jn2_up _ (hq lv la rfl) kb
        · obtain ⟨t2, _, h⟩ := Pr.bind_ok h
          exact ih (.loop lv _) _ _ _ (fun _ _ e => by cases e; exact jn2_up _ (hq lv la rfl) kb) h
      · cases h; exact hq lv la rfl
    | un =>
      simp only [rdRun] at h
      split at h
      · split at h
        · obtain ⟨t1, _, h⟩ := Pr.bind_ok h
          obtain ⟨x, hx, h⟩ := Pr.bind_ok h
          cases h; exact jn1_up _ (ih .un _ _ _ (fun _ _ e => by cases e) hx)
        · obtain ⟨t1, _, h⟩ := Pr.bind_ok h
          exact rdLit_up h
      · split at h
        · obtain ⟨t1, _, h⟩ := Pr.bind_ok h
          obtain ⟨x, hx, h⟩ := Pr.bind_ok h
          cases h; exact jn1_up _ (ih .un _ _ _ (fun _ _ e => by cases e) hx)
        · exact ih .atom _ _ _ (fun _ _ e => by cases e) h
    | atom =>
      simp only [rdRun] at h
      split at h
      · exact rdLit_up h
      · split at h
        · exact rdNamed_up h
        · split at h
          · obtain ⟨t1, _, h⟩ := Pr.bind_ok h
            exact rdNamed_up h
          · split at h
            · split at h
              · cases h
              · obtain ⟨t1, _, h⟩ := Pr.bind_ok h
                obtain ⟨e, h1, h⟩ := Pr.bind_ok h
                obtain ⟨t2, _, h⟩ := Pr.bind_ok h
                split at h
                · split at h
                  · cases h; have k := ih .cond _ _ e (fun _ _ e => by cases e) h1; exact k
                  · cases h
                · cases h
            · cases h

end Go.Proofs.YtjmccobblpcbhaaDoor
