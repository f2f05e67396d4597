/-
  The program's forest beside the document's.
-/
import Derived.Test.YtfnbkffphpidbaaFoEd
set_option linter.unusedSimpArgs false
set_option linter.unusedVariables false
namespace Go.Proofs.Ytfnbkffphpidbaa
open Go.RowKit Go.Lib

theorem blk_ne {w : World} {b c : Nat} {x y : Array Value} {e f : TypeId} {i j : Nat × Nat} (h1 : w.heap[b]? = some (.cells x e i)) (h2 : w.heap[c]? = some (.cells y f j)) (hne : e ≠ f) : b ≠ c := fun h => by
  subst h
  rw [h1] at h2
  injection h2 with h2
  injection h2 with _ h3
  exact hne h3
/-- A block of another type is kept by what the program's forest turns. -/
theorem fo_blk {w w' : World} {p : Nat} {v : Value} {m : List Mv} (h : FoM w p v m) (hk : KoF p v w w') {b : Nat} {x : Array Value} {e : TypeId} {i : Nat × Nat} (hb : w.heap[b]? = some (.cells x e i)) (h1 : e ≠ 65) (h2 : e ≠ 87) : w'.heap[b]? = w.heap[b]? :=
  hk.same b (lt_of_block hb) (blk_ne hb h.blk h1) (fun ee => by
    obtain ⟨_, _, cap, cur, _, h3, _⟩ := rw_block h.on ee.symm
    exact blk_ne hb h3 h2 rfl)
theorem rf_blk {w w' : World} {p n : Nat} {v : Value} {L : List Jt} (h : RfM w p v n L) (hk : KoF p v w w') {b : Nat} {x : Array Value} {e : TypeId} {i : Nat × Nat} (hb : w.heap[b]? = some (.cells x e i)) (h1 : e ≠ 29) (h2 : e ≠ 103) : w'.heap[b]? = w.heap[b]? :=
  hk.same b (lt_of_block hb) (blk_ne hb h.blk h1) (fun ee => by
    obtain ⟨_, _, cap, cur, _, h3, _⟩ := rw_block h.on ee.symm
    exact blk_ne hb h3 h2 rfl)
theorem RfM.keep {w w' : World} {p q n : Nat} {v v2 : Value} {m : List Mv} {L : List Jt} (h : RfM w q v2 n L) (hf : FoM w p v m) (hk : KoF p v w w') : RfM w' q v2 n L :=
  h.same (fo_blk hf hk h.blk (by decide) (by decide)) (fun b hb => by
    obtain ⟨_, _, cap, cur, _, h3, _⟩ := rw_block h.on hb
    exact fo_blk hf hk h3 (by decide) (by decide))
theorem Fo.keep {w w' : World} {p q n : Nat} {v v2 : Value} {J : List (Nat × Nat)} {V : List Value} {m : List Mv} {L : List Jt} (hf : Fo w p v J V m) (h : RfM w q v2 n L) (hk : KoF q v2 w w') : Fo w' p v J V m :=
  ⟨hf.fo.same (rf_blk h hk hf.fo.blk (by decide) (by decide)) (fun b hb => by
    obtain ⟨_, _, cap, cur, _, h3, _⟩ := rw_block hf.fo.on hb
    exact rf_blk h hk h3 (by decide) (by decide)), hf.inv, hf.ifv⟩
theorem Rsn.keepF {w w' : World} {p : Nat} {v u : Value} {m : List Mv} {k c : Int} (h : Rsn w u k c) (hf : FoM w p v m) (hk : KoF p v w w') : Rsn w' u k c :=
  h.same fun b e h2 h3 => fo_blk hf hk h2 (by rcases h3 with rfl | rfl <;> decide) (by rcases h3 with rfl | rfl <;> decide)
theorem Rsn.keepR {w w' : World} {q n : Nat} {v u : Value} {L : List Jt} {k c : Int} (h : Rsn w u k c) (hf : RfM w q v n L) (hk : KoF q v w w') : Rsn w' u k c :=
  h.same fun b e h2 h3 => rf_blk hf hk h2 (by rcases h3 with rfl | rfl <;> decide) (by rcases h3 with rfl | rfl <;> decide)
theorem Rss.snoc {w : World} {V : List Value} {L : List Jt} {u : Value} {t : Jt} (h : Rss w V L) (hl : V.length = L.length) (hu : Rsn w u t.2.2 (bits .and .i64 t.2.2 7)) : Rss w (V ++ [u]) (L ++ [t]) := fun i hi => by
  rw [List.length_append] at hi
  simp only [List.length_cons, List.length_nil] at hi
  rcases Nat.lt_or_ge i L.length with h1 | h1
  · have e1 : (V ++ [u]).getD i nilV = V.getD i nilV := by
      rw [List.getD_eq_getElem?_getD, List.getElem?_append_left (by omega), List.getD_eq_getElem?_getD]
    have e2 : (L ++ [t]).getD i jt0 = L.getD i jt0 := by
      rw [List.getD_eq_getElem?_getD, List.getElem?_append_left h1, List.getD_eq_getElem?_getD]
    rw [e1, e2]
    exact h i h1
  · obtain rfl : i = L.length := by omega
    have e1 : (V ++ [u]).getD L.length nilV = u := by
      rw [List.getD_eq_getElem?_getD, List.getElem?_append_right (by omega), hl]; simp
    have e2 : (L ++ [t]).getD L.length jt0 = t := by
      rw [List.getD_eq_getElem?_getD, List.getElem?_append_right (by omega)]; simp
    rw [e1, e2]
    exact hu
theorem jJ_snoc (L : List Jt) (t : Jt) : jJ (L ++ [t]) = jJ L ++ [(t.1, t.2.1)] := by simp [jJ]
/-- Both forests, alike. -/
structure Bth (w : World) (p q : Nat) (v v2 : Value) (L : List Jt) (V : List Value) (m : List Mv) : Prop where
  fo : Fo w p v (jJ L) V m
  rf : RfM w q v2 m.length L
  rs : Rss w V L
theorem Bth.below {w w' : World} {p q : Nat} {v v2 : Value} {L : List Jt} {V : List Value} {m : List Mv} (h : Bth w p q v v2 L V m) (hb : Below w.heap.size w w') : Bth w' p q v v2 L V m := ⟨h.fo.below hb, h.rf.below hb, h.rs.below hb⟩
end Go.Proofs.Ytfnbkffphpidbaa
