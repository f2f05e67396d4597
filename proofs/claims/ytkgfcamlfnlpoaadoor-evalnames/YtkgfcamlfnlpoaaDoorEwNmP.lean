/-
  Only the variables' numbers count, plainly.
-/
import Derived.Test.YtkgfcamlfnlpoaaDoorEwEvW
import Derived.Test.YtkgfcamlfnlpoaaDoorVrsW
set_option linter.unusedSimpArgs false
set_option linter.unusedVariables false
namespace Go.Proofs.YtkgfcamlfnlpoaaDoor

theorem vA_env {bs bs' : List Bd} {l : List Nd} (hl : KidsUp l) (h : ∀ x ∈ l, x.op = 2 → getB bs' x.name = getB bs x.name) : ∀ j, j < l.length → vA bs' l j = vA bs l j := by
  intro j hj
  refine vt_map hl hl (fun j => j < l.length) id ?_ j hj
  intro j hj
  refine ⟨hj, hj, .inr ⟨rfl, rfl, fun h2 => h _ (by simp [hj]) h2, ?_, fun k hk => ?_⟩⟩
  · conv => lhs; rw [← List.map_id (l.getD (id j) nd0).kids]
    refine List.map_congr_left fun k hk => ?_
    have := hl j hj k hk
    show k = ((k.toNat : Nat) : Int)
    omega
  · have := hl j hj k hk
    show k.toNat < l.length
    omega
theorem evA_env {bs bs' : List Bd} {l : List Nd} (h : ∀ x ∈ l, x.op = 2 → getB bs' x.name = getB bs x.name) : evA bs' l = evA bs l := by
  unfold evA
  cases hb : begL l with
  | none => rw [snd_none hb]; rfl
  | some fr =>
    have hbo := begOk_of (begL_some hb).2.2.1
    have h0 := (begL_some hb).1
    rw [vA_env hbo.kidsUp h (l.length - 1) (by omega)]

theorem getN_left (l m : List Bd) (nm : ByteArray) : ∀ k, k ≤ l.length → getN (l ++ m) nm k = getN l nm k
  | 0, _ => rfl
  | k + 1, h => by
    unfold getN
    have e : (l ++ m).getD k bd0 = l.getD k bd0 := by simp [List.getElem?_append_left (show k < l.length by omega)]
    rw [e, getN_left l m nm k (by omega)]
theorem getB_snoc (l : List Bd) (x : Bd) (nm : ByteArray) : getB (l ++ [x]) nm = if x.1 = nm then x.2 else getB l nm := by
  unfold getB
  rw [List.length_append, List.length_cons, List.length_nil]
  show (if ((l ++ [x]).getD l.length bd0).1 = nm then _ else _) = _
  have e : (l ++ [x]).getD l.length bd0 = x := by simp
  rw [e, getN_left l [x] nm l.length (Nat.le_refl _)]

/-- Each name with its number, the last ahead, another binding ahead of each. -/
def ownB (bs : List Bd) (mo : ByteArray) (n : Int) : List ByteArray → List Bd
  | [] => []
  | s :: xs => ownB bs mo n xs ++ [(mo, n), (s, getB bs s)]
theorem ownB_len (bs : List Bd) (mo : ByteArray) (n : Int) : ∀ xs, (ownB bs mo n xs).length = 2 * xs.length
  | [] => rfl
  | s :: xs => by rw [ownB, List.length_append, ownB_len bs mo n xs]; simp; omega
theorem ownB_get (bs : List Bd) (mo : ByteArray) (n : Int) : ∀ (xs : List ByteArray) (nm : ByteArray), nm ∈ xs → mo ≠ nm → getB (ownB bs mo n xs) nm = getB bs nm := by
  intro xs
  induction xs with
  | nil => intro nm h; simp at h
  | cons s xs ih =>
    intro nm h hne
    rw [ownB, show ownB bs mo n xs ++ [(mo, n), (s, getB bs s)] = (ownB bs mo n xs ++ [(mo, n)]) ++ [(s, getB bs s)] by simp, getB_snoc, getB_snoc]
    by_cases e : s = nm
    · rw [if_pos e, e]
    · rw [if_neg e, if_neg hne]
      rcases List.mem_cons.1 h with h | h
      · exact absurd h.symm e
      · exact ih nm h hne
theorem nodup_le : ∀ (xs ys : List ByteArray), xs.Pairwise (fun a b => a ≠ b) → (∀ s ∈ xs, s ∈ ys) → xs.length ≤ ys.length := by
  intro xs
  induction xs with
  | nil => intro ys _ _; simp
  | cons x xs ih =>
    intro ys hp hs
    have hx : x ∈ ys := hs x (by simp)
    obtain ⟨h1, h2⟩ := List.pairwise_cons.1 hp
    have := ih (ys.filter fun s => decide (s ≠ x)) h2 (fun s hsx => by
      rw [List.mem_filter]
      exact ⟨hs s (by simp [hsx]), by simp; exact fun e => h1 s hsx e.symm⟩)
    have hlt : (ys.filter fun s => decide (s ≠ x)).length < ys.length := List.length_filter_lt_length_iff_exists.2 ⟨x, hx, by simp⟩
    rw [List.length_cons]
    omega
theorem vr_len {l : List Nd} {xs : List ByteArray} (h : VrOf (vsL l) xs)  : xs.length ≤ l.length := by
  have hne : xs.Pairwise (fun a b => a ≠ b) := h.ord.imp (fun {a b} (hab : ordI a b < 0) => by
    intro e
    subst e
    rw [ordI_self] at hab
    omega)
  have h1 := nodup_le xs (vsL l) hne (fun s hs => (h.mem s).1 hs)
  have h2 : (vsL l).length ≤ l.length := by unfold vsL; rw [List.length_map]; exact List.length_filter_le _ _
  omega
theorem snd_chkW {l : List Nd} {fr : List Nat} (hb : begL l = some fr) : ∀ s ∈ vsL l, (chk s).2 = 0 := by
  obtain ⟨h0, _, hr, _⟩ := begL_some hb
  have hok := begOk_of hr
  intro s hs
  obtain ⟨x, hx, rfl⟩ := List.mem_map.1 hs
  rw [List.mem_filter] at hx
  obtain ⟨j, hj, e⟩ := List.mem_iff_getElem.1 hx.1
  have hf := (hok.at_ j hj).1
  have ej : l.getD j nd0 = x := by simp [hj, e]
  rw [ej] at hf
  exact (form_name hf).1
theorem evA_own {bs : List Bd} {l : List Nd} {xs : List ByteArray} (h : VrOf (vsL l) xs) (mo : ByteArray) (n : Int) (hmo : ∀ s ∈ xs, s ≠ mo) : evA (ownB bs mo n xs) l = evA bs l := by
  refine evA_env fun x hx h2 => ?_
  have hm : x.name ∈ xs := (h.mem _).2 (by unfold vsL; exact List.mem_map.2 ⟨x, by simp [hx, h2], rfl⟩)
  exact ownB_get bs mo n xs x.name hm (fun e => hmo _ hm e.symm)
end Go.Proofs.YtkgfcamlfnlpoaaDoor
