/-
  RrCt.
-/
import Derived.Shelf.Unicode.DecodeSlow
import Derived.Laws.RangeAny
import Derived.Shelf.Strings.Builder1
import Derived.Shelf.Small.Utf8
import Derived.Shelf.Small.Bits
import Derived.Shelf.Strings.BuilderF
import Derived.Shelf.Strings.BuilderK
import Derived.Shelf.Strings.BuilderRune
import Derived.Shelf.Utf8.AppendRune
import Derived.Shelf.Strconv.Itoa0
import Derived.Shelf.Strconv.Itoa1
import Derived.Shelf.LaysM
import Derived.Shelf.Strconv.Itoa2
import Derived.Shelf.Strconv.Itoa3
import Derived.Shelf.Strconv.Itoa4
import Derived.Shelf.Strings.Prefix
import Derived.Shelf.Unicode.DecodeAny
import Derived.Test.YtjmccobblpcbhaaDoorProg
import Derived.WalkKit
import Derived.Deep.DeepFit
import Derived.Lib.OthersKept
import Derived.Lib.RuneCountTail
import Derived.Lib.Small
import Derived.Lib.Strings
import Derived.Lib.MapLaws
import Derived.Deep.AppendLies
import Derived.Deep.OwnRows
import Derived.Laws.AppendOwnNone
import Derived.Deep.QuietTactic
import Derived.BigQuiet
import Derived.Deep.RegionWith
import Derived.Laws.DeepStrings4
import Derived.Deep.RegionHeld3
import Derived.Laws.ResultCell
import Derived.Lib.QuietBelow
import Derived.Deep.Heap
import Derived.Laws.Rows
import Derived.Below
import Derived.StillTail
import Derived.Sort.Walk0
import Derived.Deep.RegionLaw
import Derived.Laws.OwnMore
import Derived.Test.YtjmccobblpcbhaaDoorK01
import Derived.Test.YtjmccobblpcbhaaDoorK02
import Derived.Test.YtjmccobblpcbhaaDoorK03
import Derived.Test.YtjmccobblpcbhaaDoorK04
import Derived.Test.YtjmccobblpcbhaaDoorK05
import Derived.Test.YtjmccobblpcbhaaDoorK06
import Derived.Test.YtjmccobblpcbhaaDoorK07
import Derived.Test.YtjmccobblpcbhaaDoorK08
import Derived.Test.YtjmccobblpcbhaaDoorK09
import Derived.Test.YtjmccobblpcbhaaDoorK10
import Derived.Test.YtjmccobblpcbhaaDoorK11
import Derived.Test.YtjmccobblpcbhaaDoorK12
import Derived.Test.YtjmccobblpcbhaaDoorK13
import Derived.Test.YtjmccobblpcbhaaDoorK14
import Derived.Test.YtjmccobblpcbhaaDoorK15
import Derived.Test.YtjmccobblpcbhaaDoorK16
import Derived.Test.YtjmccobblpcbhaaDoorK17
import Derived.Test.YtjmccobblpcbhaaDoorK18
import Derived.Test.YtjmccobblpcbhaaDoorK19
import Derived.Test.YtjmccobblpcbhaaDoorK20
import Derived.Test.YtjmccobblpcbhaaDoorK21
set_option linter.unusedSimpArgs false
set_option linter.unusedVariables false
namespace Go.Proofs.YtjmccobblpcbhaaDoor
open Go.RowKit Go.Lib Go.Sort

theorem own_gr {w w' : World} {base R : Nat} {e : TypeId} {sz n : Nat} {v : Value} {xs : List Value} (h : w.ownsRow base e sz v n xs) (hg : w.grownBy w' (some R)) (hR : R < base) : w'.ownsRow base e sz v n xs :=
  h.kept hg (by
    cases hk : v.ownBlock with
    | none => exact .inl rfl
    | some k =>
      right
      intro hh
      have h1 := (h.lt k hk).1
      injection hh with hh
      omega)
theorem OwnN.gr {w w' : World} {base R : Nat} {v : Value} {l : List Nd} (h : OwnN w base v l) (hg : w.grownBy w' (some R)) (hR : R < base) : OwnN w' base v l := by
  obtain ⟨p, h1, h2⟩ := h
  exact ⟨p, h1, ⟨own_gr h2.row hg hR, fun q hq => own_gr (h2.kids q hq) hg hR⟩⟩
theorem OwnN.lower {w : World} {base base' : Nat} {v : Value} {l : List Nd} (h : OwnN w base v l) (hb : base' ≤ base) : OwnN w base' v l := by
  obtain ⟨p, h1, h2⟩ := h
  exact ⟨p, h1, ⟨ownsRow_mono h2.row hb, fun q hq => ownsRow_mono (h2.kids q hq) hb⟩⟩

/-- A list that is left where a fault was come to. -/
structure BadL (s : ByteArray) (a : Nat) (l : List Nd) : Prop where
  len : l.length + a ≤ s.size
  kids : ∀ x ∈ l, x.kids.length ≤ 3 ∧ ∀ k ∈ x.kids, 0 ≤ k ∧ k < (l.length : Int)
theorem BadL.nil {s : ByteArray} {a : Nat} (h : a ≤ s.size) : BadL s a [] := ⟨by simpa using h, by simp⟩
theorem BadL.from_ {s : ByteArray} {a b : Nat} {l : List Nd} (h : BadL s b l) (hab : a ≤ b) : BadL s a l := ⟨by have := h.len; omega, h.kids⟩
theorem BadL.of {s : ByteArray} {a : Nat} {l : List Nd} (h : KidsIn l) (hl : l.length + a ≤ s.size) : BadL s a l := ⟨hl, fun x hx => ⟨h.few x hx, h.kin x hx⟩⟩

def RRes (w : World) (R : Nat) (s : ByteArray) (pat : Bool) (a o ft : Nat) (X : Pr (List Nd × Nat)) (e : Ending) (w' : World) : Prop := match X with
  | .ok r => ∃ v, e = .returned v ∧ OwnN w' w.heap.size v r.1 ∧ RdM w' R s pat r.2 o ft 0 ∧ w.grownBy w' (some R)
  | .bad p er => ∃ v l a' o', e = .returned v ∧ OwnN w' w.heap.size v l ∧ BadL s a l ∧ RdM w' R s pat a' o' p er ∧ er ≠ 0 ∧ w.grownBy w' (some R)
  | .out => False
def rdX (s : ByteArray) (pat : Bool) (f : Nat) (q : RdQ) (a o : Nat) : Pr (List Nd × Nat) := (psFrom s pat mx63 a).bind fun t => rdRun s pat f q t o

theorem rdX_len {s : ByteArray} {pat : Bool} {f : Nat} {q : RdQ} {a o : Nat} {r : List Nd × Nat} (hq : q.lvl) (hl : ∀ lv la, q ≠ .loop lv la) (ha : a ≤ s.size) (h : rdX s pat f q a o = .ok r) : r.1.length + a ≤ r.2 ∧ a ≤ r.2 ∧ r.2 ≤ s.size ∧ KidsIn r.1 := by
  obtain ⟨t, h1, h2⟩ := Pr.bind_ok h
  have := rd_len s pat f q a t o r hq (from_at ha h1) h2
  have e : q.left = [] := by cases q <;> first | rfl | exact absurd rfl (hl _ _)
  rw [e] at this
  have hu := rd_up s pat f q t o r (fun lv la e => absurd e (hl lv la)) h2
  simp only [List.length_nil, Nat.add_zero] at this
  exact ⟨this.1, this.2.1, this.2.2, hu⟩

/-- THE RULES, at a fuel. -/
structure RdC (s : ByteArray) (pat : Bool) (f : Nat) : Prop where
  cond : ∀ (W : World) (R a o ft : Nat), RdM W R s pat a o ft 0 → a ≤ s.size → o ≤ 100 → rdX s pat f .cond a o ≠ .out → Calls Tryd.prog 98 #[.pointer (some ⟨R, 0, none⟩)] W fun e w' => RRes W R s pat a o ft (rdX s pat f .cond a o) e w'
  level : ∀ (lv : Nat), 1 ≤ lv → lv ≤ 9 → ∀ (W : World) (R a o ft : Nat), RdM W R s pat a o ft 0 → a ≤ s.size → o ≤ 100 → rdX s pat f (.level lv) a o ≠ .out → Calls Tryd.prog 126 #[.pointer (some ⟨R, 0, none⟩), .int .i64 ((lv : Int) - 1)] W fun e w' => RRes W R s pat a o ft (rdX s pat f (.level lv) a o) e w'
  un : ∀ (W : World) (R a o ft : Nat), RdM W R s pat a o ft 0 → a ≤ s.size → o ≤ 100 → rdX s pat f .un a o ≠ .out → Calls Tryd.prog 145 #[.pointer (some ⟨R, 0, none⟩)] W fun e w' => RRes W R s pat a o ft (rdX s pat f .un a o) e w'
  atom : ∀ (W : World) (R a o ft : Nat) (t : Tk), psFrom s pat mx63 a = .ok t → RdM W R s pat a o ft 0 → a ≤ s.size → o ≤ 100 → rdX s pat f .atom a o ≠ .out → Calls Tryd.prog 159 #[.pointer (some ⟨R, 0, none⟩)] W fun e w' => RRes W R s pat a o ft (rdX s pat f .atom a o) e w'

/-! ### Joined of lists that were just read -/
theorem lst1 {W : World} {v1 : Value} {l1 : List Nd} (t : TypeId) (h1 : Nodes W W.heap.size v1 l1) : Lst (W.alloc (.cells #[v1] t)) (W.heap.size + 1) (.slice (some ⟨W.heap.size, 0, none⟩) 1 1) [l1] := by
  have hb : Below W.heap.size W (W.alloc (.cells #[v1] t)) := (Below.refl _ _).alloc (Nat.le_refl _) _
  have hk : (W.alloc (.cells #[v1] t)).heap[W.heap.size]? = some (.cells #[v1] t) := by
    show (W.heap.push _)[W.heap.size]? = _
    simp
  refine ⟨some ⟨W.heap.size, 0, none⟩, 1, rfl, by simp, by simp [maxLen], .inr ⟨W.heap.size, 0, rfl, by omega, fun i hi => ?_⟩⟩
  have : i = 0 := by simp at hi; omega
  subst this
  exact ⟨v1, by unfold World.cell?; rw [hk]; rfl, h1.below hb (by omega)⟩
theorem lst2 {W : World} {v1 v2 : Value} {l1 l2 : List Nd} (t : TypeId) (h1 : Nodes W W.heap.size v1 l1) (h2 : Nodes W W.heap.size v2 l2) : Lst (W.alloc (.cells #[v1, v2] t)) (W.heap.size + 1) (.slice (some ⟨W.heap.size, 0, none⟩) 2 2) [l1, l2] := by
  have hb : Below W.heap.size W (W.alloc (.cells #[v1, v2] t)) := (Below.refl _ _).alloc (Nat.le_refl _) _
  have hk : (W.alloc (.cells #[v1, v2] t)).heap[W.heap.size]? = some (.cells #[v1, v2] t) := by
    show (W.heap.push _)[W.heap.size]? = _
    simp
  refine ⟨some ⟨W.heap.size, 0, none⟩, 2, rfl, by simp, by simp [maxLen], .inr ⟨W.heap.size, 0, rfl, by omega, fun i hi => ?_⟩⟩
  have : i = 0 ∨ i = 1 := by simp at hi; omega
  rcases this with rfl | rfl
  · exact ⟨v1, by unfold World.cell?; rw [hk]; rfl, h1.below hb (by omega)⟩
  · exact ⟨v2, by unfold World.cell?; rw [hk]; rfl, h2.below hb (by omega)⟩
theorem lst3 {W : World} {v1 v2 v3 : Value} {l1 l2 l3 : List Nd} (t : TypeId) (h1 : Nodes W W.heap.size v1 l1) (h2 : Nodes W W.heap.size v2 l2) (h3 : Nodes W W.heap.size v3 l3) : Lst (W.alloc (.cells #[v1, v2, v3] t)) (W.heap.size + 1) (.slice (some ⟨W.heap.size, 0, none⟩) 3 3) [l1, l2, l3] := by
  have hb : Below W.heap.size W (W.alloc (.cells #[v1, v2, v3] t)) := (Below.refl _ _).alloc (Nat.le_refl _) _
  have hk : (W.alloc (.cells #[v1, v2, v3] t)).heap[W.heap.size]? = some (.cells #[v1, v2, v3] t) := by
    show (W.heap.push _)[W.heap.size]? = _
    simp
  refine ⟨some ⟨W.heap.size, 0, none⟩, 3, rfl, by simp, by simp [maxLen], .inr ⟨W.heap.size, 0, rfl, by omega, fun i hi => ?_⟩⟩
  have : i = 0 ∨ i = 1 ∨ i = 2 := by simp at hi; omega
  rcases this with rfl | rfl | rfl
  · exact ⟨v1, by unfold World.cell?; rw [hk]; rfl, h1.below hb (by omega)⟩
  · exact ⟨v2, by unfold World.cell?; rw [hk]; rfl, h2.below hb (by omega)⟩
  · exact ⟨v3, by unfold World.cell?; rw [hk]; rfl, h3.below hb (by omega)⟩
theorem in_parts {l : List Nd} (hl : l.length ≤ 4096) (h : ∀ x ∈ l, x.kids.length ≤ 3 ∧ ∀ k ∈ x.kids, 0 ≤ k ∧ k < (l.length : Int)) : l.length ≤ 5000 ∧ ∀ x ∈ l, x.kids.length * 8 ≤ 140737488351232 ∧ ∀ k ∈ x.kids, 0 ≤ k ∧ k ≤ 9000 :=
  ⟨by omega, fun x hx => ⟨by have := (h x hx).1; omega, fun k hk => by have := (h x hx).2 k hk; omega⟩⟩
/-- Joined of one list, in a world in which it lies. -/
theorem joinN1 (op : Int) (W : World) (base : Nat) (v1 : Value) (l1 : List Nd) (h1 : OwnN W base v1 l1) (p1 : l1.length ≤ 5000 ∧ ∀ x ∈ l1, x.kids.length * 8 ≤ 140737488351232 ∧ ∀ k ∈ x.kids, 0 ≤ k ∧ k ≤ 9000) :
    Calls Tryd.prog 76 #[.agg #[.int .i64 op, .int .i64 0, .string ⟨#[]⟩, .slice none 0 0], .slice (some ⟨W.heap.size, 0, none⟩) 1 1] (W.alloc (.cells #[v1] 22)) fun e w' => ∃ v', e = .returned v' ∧ OwnN w' W.heap.size v' (joinL op 0 ⟨#[]⟩ [l1]) ∧ Below W.heap.size W w' := by
  have hb : Below W.heap.size W (W.alloc (.cells #[v1] 22)) := (Below.refl _ _).alloc (Nat.le_refl _) _
  refine (joined_any op 0 ⟨#[]⟩ none 0 0 _ [l1] _ (W.heap.size + 1) (by simp) (lst1 _ (Nodes_of_own h1 (Nat.le_refl _))) (by simp) (by
    intro l hl
    simp only [List.mem_cons, List.not_mem_nil, or_false] at hl
    subst hl; exact p1)).mono ?_
  rintro e w' ⟨v', he, ho, hb'⟩
  exact ⟨v', he, ho.lower (by simp), hb.trans (hb'.mono (by simp))⟩
theorem joinN2 (op : Int) (W : World) (base base2 : Nat) (v1 v2 : Value) (l1 l2 : List Nd) (h1 : OwnN W base v1 l1) (h2 : OwnN W base2 v2 l2) (p1 : l1.length ≤ 5000 ∧ ∀ x ∈ l1, x.kids.length * 8 ≤ 140737488351232 ∧ ∀ k ∈ x.kids, 0 ≤ k ∧ k ≤ 9000) (p2 : l2.length ≤ 5000 ∧ ∀ x ∈ l2, x.kids.length * 8 ≤ 140737488351232 ∧ ∀ k ∈ x.kids, 0 ≤ k ∧ k ≤ 9000) :
    Calls Tryd.prog 76 #[.agg #[.int .i64 op, .int .i64 0, .string ⟨#[]⟩, .slice none 0 0], .slice (some ⟨W.heap.size, 0, none⟩) 2 2] (W.alloc (.cells #[v1, v2] 22)) fun e w' => ∃ v', e = .returned v' ∧ OwnN w' W.heap.size v' (joinL op 0 ⟨#[]⟩ [l1, l2]) ∧ Below W.heap.size W w' := by
  have hb : Below W.heap.size W (W.alloc (.cells #[v1, v2] 22)) := (Below.refl _ _).alloc (Nat.le_refl _) _
  refine (joined_any op 0 ⟨#[]⟩ none 0 0 _ [l1, l2] _ (W.heap.size + 1) (by simp) (lst2 _ (Nodes_of_own h1 (Nat.le_refl _)) (Nodes_of_own h2 (Nat.le_refl _))) (by simp) (by
    intro l hl
    simp only [List.mem_cons, List.not_mem_nil, or_false] at hl
    rcases hl with rfl | rfl
    · exact p1
    · exact p2)).mono ?_
  rintro e w' ⟨v', he, ho, hb'⟩
  exact ⟨v', he, ho.lower (by simp), hb.trans (hb'.mono (by simp))⟩
theorem joinN3 (op : Int) (W : World) (base base2 base3 : Nat) (v1 v2 v3 : Value) (l1 l2 l3 : List Nd) (h1 : OwnN W base v1 l1) (h2 : OwnN W base2 v2 l2) (h3 : OwnN W base3 v3 l3) (p1 : l1.length ≤ 5000 ∧ ∀ x ∈ l1, x.kids.length * 8 ≤ 140737488351232 ∧ ∀ k ∈ x.kids, 0 ≤ k ∧ k ≤ 9000) (p2 : l2.length ≤ 5000 ∧ ∀ x ∈ l2, x.kids.length * 8 ≤ 140737488351232 ∧ ∀ k ∈ x.kids, 0 ≤ k ∧ k ≤ 9000) (p3 : l3.length ≤ 5000 ∧ ∀ x ∈ l3, x.kids.length * 8 ≤ 140737488351232 ∧ ∀ k ∈ x.kids, 0 ≤ k ∧ k ≤ 9000) :
    Calls Tryd.prog 76 #[.agg #[.int .i64 op, .int .i64 0, .string ⟨#[]⟩, .slice none 0 0], .slice (some ⟨W.heap.size, 0, none⟩) 3 3] (W.alloc (.cells #[v1, v2, v3] 22)) fun e w' => ∃ v', e = .returned v' ∧ OwnN w' W.heap.size v' (joinL op 0 ⟨#[]⟩ [l1, l2, l3]) ∧ Below W.heap.size W w' := by
  have hb : Below W.heap.size W (W.alloc (.cells #[v1, v2, v3] 22)) := (Below.refl _ _).alloc (Nat.le_refl _) _
  refine (joined_any op 0 ⟨#[]⟩ none 0 0 _ [l1, l2, l3] _ (W.heap.size + 1) (by simp) (lst3 _ (Nodes_of_own h1 (Nat.le_refl _)) (Nodes_of_own h2 (Nat.le_refl _)) (Nodes_of_own h3 (Nat.le_refl _))) (by simp) (by
    intro l hl
    simp only [List.mem_cons, List.not_mem_nil, or_false] at hl
    rcases hl with rfl | rfl | rfl
    · exact p1
    · exact p2
    · exact p3)).mono ?_
  rintro e w' ⟨v', he, ho, hb'⟩
  exact ⟨v', he, ho.lower (by simp), hb.trans (hb'.mono (by simp))⟩

/-- What stands at a place, by its token. -/
theorem sg_ok {s : ByteArray} {pat : Bool} {m a : Nat} {t : Tk} (h : psFrom s pat m a = .ok t) : sgR s pat a = some (sgW t.what, if t.what = 0 ∨ t.what = 48 ∨ t.what = 97 then 0 else t.to - a) := by
  have := sg_from s pat m a
  rw [h] at this
  exact this
theorem sg_bad {s : ByteArray} {pat : Bool} {m a p : Nat} {er : Int} (h : psFrom s pat m a = .bad p er) : p = a ∧ er = 5 ∧ sgR s pat a = none := by
  have := sg_from s pat m a
  rw [h] at this
  exact this
end Go.Proofs.YtjmccobblpcbhaaDoor
