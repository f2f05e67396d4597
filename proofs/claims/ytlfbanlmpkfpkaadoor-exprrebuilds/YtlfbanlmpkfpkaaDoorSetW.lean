/-
  A set of texts: a map from texts to true, of the call's own.
-/
import Derived.Test.YtlfbanlmpkfpkaaDoorVrPure
import Derived.Test.YtlfbanlmpkfpkaaDoorExAddP
import Derived.Maps.OwnSet
import Derived.StringKeys
set_option linter.unusedSimpArgs false
set_option linter.unusedVariables false
namespace Go.Proofs.YtlfbanlmpkfpkaaDoor
open Go.RowKit Go.Lib Go.Maps

theorem setLaw : Keyed Tryd.prog 9 := string_keyed Tryd.underlying9
theorem zeroBool (w : World) : (zeroValue 4).run Tryd.prog w = .ok (.bool false) w := by kernel_rfl
def klS (s : ByteArray) : Lit := .string (bl s)
theorem keyS {s : ByteArray} (h : s.size ≤ maxLen) : keyOf Tryd.prog 9 (.string s) = some (klS s) := Go.WideMaps.keyOf_string_mk Tryd.underlying9 h
theorem isKeyS (s : ByteArray) : WideAt.IsKeyLit (klS s) := trivial
theorem same_klS (s t : ByteArray) : (klS s).sameKey (klS t) = decide (s = t) := by
  show (bl s == bl t) = decide (s = t)
  by_cases h : s = t
  · subst h; simp
  · have : bl s ≠ bl t := fun e => h (by rw [← ba_bl s, e, ba_bl])
    simp [h, this]

/-- Block B is a map that holds just the texts acc, each with true. -/
def SetM (w : World) (B : Nat) (acc : List ByteArray) : Prop :=
  w.ownsMap Tryd.prog 9 (plainElem (H := Unit) Tryd.prog 4) B acc.length (setOf (.lit (.bool true)) (acc.map klS))

theorem SetM.made (w : World) : SetM (w.alloc (.map #[] 0)) w.heap.size [] := World.ownsMap_made _ _ _ _
theorem SetM.lt {w : World} {B : Nat} {acc : List ByteArray} (h : SetM w B acc) : B < w.heap.size := World.ownsMap.lt h
theorem SetM.kept {w w' : World} {B : Nat} {acc : List ByteArray} {row : Option Nat} (h : SetM w B acc) (hg : w.grownBy w' row) (hne : some B ≠ row) : SetM w' B acc := World.ownsMap.kept h hg hne
theorem SetM.below {w w' : World} {B : Nat} {acc : List ByteArray} (h : SetM w B acc) (hb : Below w.heap.size w w') : SetM w' B acc := h.kept (grown_of_below hb none) (by simp)
theorem SetM.alloc {w : World} {B : Nat} {acc : List ByteArray} (h : SetM w B acc) (o : Obj) : SetM (w.alloc o) B acc := World.ownsMap.alloc h o
theorem SetM.block {w w' : World} {B : Nat} {acc : List ByteArray} (h : SetM w B acc) (hb : w'.heap[B]? = w.heap[B]?) : SetM w' B acc := by
  obtain ⟨es, c, h1, h2⟩ := h
  exact ⟨es, c, hb.trans h1, h2⟩

theorem SetM.put {w : World} {B : Nat} {acc : List ByteArray} (h : SetM w B acc) (hn : acc.length < maxLen) {s : ByteArray} (hs : s.size ≤ maxLen) :
    ∃ w', (Instr.mapUpdate 42 (.map (some B)) (.string s) (.bool true)).run Tryd.prog w = .ok () w' ∧ SetM w' B (acc ++ [s]) ∧ w.grownBy w' (some B) := by
  obtain ⟨w', h1, h2, h3⟩ := World.ownsMap.update h setLaw Tryd.underlying42 hn (keyS hs) (plainElem_bool Tryd.underlying4 true)
  refine ⟨w', h1, ?_, h3⟩
  unfold SetM
  rw [List.length_append, List.map_append, List.map_singleton, setOf_snoc]
  exact h2

theorem at_fold (s : ByteArray) (z : DataW Unit) : ∀ (acc : List ByteArray) (m : DataW Unit), IsMap m → (s ∈ acc ∨ m.atKey (klS s) z = .lit (.bool true)) →
    ((acc.map klS).foldl (fun m x => m.put x (.lit (.bool true))) m).atKey (klS s) z = .lit (.bool true)
  | [], m, _, h => by
    rcases h with h | h
    · cases h
    · exact h
  | a :: r, m, hm, h => by
    rw [List.map_cons, List.foldl_cons]
    refine at_fold s z r _ (hm.put _ _) ?_
    by_cases e : s = a
    · subst e; exact .inr (atKey_put_same hm (isKeyS s) _ _)
    · rcases h with h | h
      · rcases List.mem_cons.1 h with h | h
        · exact absurd h e
        · exact .inl h
      · right
        have hne : klS s ≠ klS a := fun e2 => e (by
          have := congrArg (fun x => match x with | Lit.string b => ba b | _ => ⟨#[]⟩) e2
          simpa [klS, ba_bl] using this)
        rw [atKey_put_other hne]; exact h

theorem plainElem_true {P : Program} {e : TypeId} (he : P.underlying e = some .bool) {v : Value} {ps : List MemPlace} (h : plainElem (H := Unit) P e v = some (.lit (.bool true), ps)) : v = .bool true := by
  unfold plainElem at h
  rw [he] at h
  cases v <;> simp at h
  rw [h.1]

theorem SetM.look {w : World} {B : Nat} {acc : List ByteArray} (h : SetM w B acc) {s : ByteArray} (hs : s.size ≤ maxLen) (hm : s ∈ acc) :
    (Instr.lookup 42 (.map (some B)) (.string s) false).run Tryd.prog w = .ok (.bool true) w := by
  obtain ⟨v, ps, h1, h2⟩ := World.ownsMap.lookup h setLaw Tryd.underlying42 (zeroBool w) (plainElem_bool Tryd.underlying4 false) (keyS hs)
  rw [show (setOf (H := Unit) (.lit (.bool true)) (acc.map klS)).atKey (klS s) (.lit (.bool false)) = .lit (.bool true) from at_fold s _ acc _ isMap_empty (.inl hm)] at h2
  rw [h1, plainElem_true Tryd.underlying4 h2]

theorem nodup_len {α : Type} : ∀ a b : List α, a.Nodup → (∀ x ∈ a, x ∈ b) → a.length ≤ b.length
  | [], _, _, _ => Nat.zero_le _
  | x :: a, b, hn, h => by
    rw [List.nodup_cons] at hn
    obtain ⟨b1, b2, rfl⟩ := List.append_of_mem (h x (List.mem_cons_self ..))
    have := nodup_len a (b1 ++ b2) hn.2 fun y hy => by
      have h1 := h y (List.mem_cons_of_mem _ hy)
      rcases List.mem_append.1 h1 with h1 | h1
      · exact List.mem_append_left _ h1
      · rcases List.mem_cons.1 h1 with h1 | h1
        · subst h1; exact absurd hy hn.1
        · exact List.mem_append_right _ h1
    simp at this ⊢
    omega

theorem add_fold : ∀ (xs L : List ByteArray), L.Nodup → ∃ R : List ByteArray, (xs.map klS).foldl addKey (L.map klS) = R.map klS ∧ R.Nodup ∧ ∀ s, s ∈ R ↔ s ∈ L ∨ s ∈ xs
  | [], L, h => ⟨L, rfl, h, fun s => by simp⟩
  | x :: xs, L, h => by
    have any_iff : (L.map klS).any (fun y => y.sameKey (klS x)) = true ↔ x ∈ L := by
      rw [List.any_map, List.any_eq_true]
      constructor
      · rintro ⟨y, hy, e⟩
        simp only [Function.comp, same_klS, decide_eq_true_eq] at e
        rw [← e]; exact hy
      · intro hx
        exact ⟨x, hx, by simp [same_klS]⟩
    rw [List.map_cons, List.foldl_cons]
    by_cases hx : x ∈ L
    · have e : addKey (L.map klS) (klS x) = L.map klS := by unfold addKey; rw [if_pos (any_iff.2 hx)]
      rw [e]
      obtain ⟨R, h1, h2, h3⟩ := add_fold xs L h
      refine ⟨R, h1, h2, fun s => ?_⟩
      rw [h3 s, List.mem_cons]
      constructor
      · rintro (h | h)
        · exact .inl h
        · exact .inr (.inr h)
      · rintro (h | h | h)
        · exact .inl h
        · subst h; exact .inl hx
        · exact .inr h
    · have e : addKey (L.map klS) (klS x) = (L ++ [x]).map klS := by unfold addKey; rw [if_neg (fun h => hx (any_iff.1 h))]; simp
      rw [e]
      obtain ⟨R, h1, h2, h3⟩ := add_fold xs (L ++ [x]) (by
        rw [List.nodup_append]
        refine ⟨h, by simp, fun a ha b hb => ?_⟩
        simp at hb; subst hb
        intro e; subst e; exact hx ha)
      refine ⟨R, h1, h2, fun s => ?_⟩
      rw [h3 s, List.mem_append, List.mem_cons]
      simp [or_assoc]

theorem VrOf.nodup {ns vs : List ByteArray} (h : VrOf ns vs) : vs.Nodup := by
  refine h.ord.imp ?_
  intro a b hab e
  subst e
  rw [ordI_self] at hab
  exact absurd hab (Int.lt_irrefl 0)

theorem SetM.len {w : World} {B : Nat} {acc ns vs : List ByteArray} (h : SetM w B acc) (hv : VrOf ns vs) (hm : ∀ s, s ∈ acc ↔ s ∈ ns) (ty : TypeId) :
    (Builtin.len_ #[42 ] ty #[.map (some B)]).run Tryd.prog w = .ok (.int .i64 (vs.length : Nat)) w := by
  rw [World.ownsMap.len h Tryd.underlying42 ty]
  have hk : ∀ x ∈ acc.map klS, WideAt.IsKeyLit x := by
    intro x hx
    obtain ⟨y, _, rfl⟩ := List.mem_map.1 hx
    exact isKeyS y
  obtain ⟨R, h1, h2, h3⟩ := add_fold acc [] List.nodup_nil
  have e : Maps.size (setOf (H := Unit) (.lit (.bool true)) (acc.map klS)) = vs.length := by
    rw [size_setOf _ _ hk]
    have h1' : (acc.map klS).foldl addKey [] = R.map klS := h1
    rw [h1', List.length_map]
    have m : ∀ s, s ∈ R ↔ s ∈ vs := fun s => by rw [h3 s, hv.mem s, ← hm s]; simp
    exact Nat.le_antisymm (nodup_len R vs h2 fun s hs => (m s).1 hs) (nodup_len vs R hv.nodup fun s hs => (m s).2 hs)
  rw [e]
end Go.Proofs.YtlfbanlmpkfpkaaDoor
