/-
  ApFar, ApRows, ApBindW, RmNil, ApBookW.
-/
import Derived.Test.YtpdohdmpjaklgaaDoorProg
import Derived.Deep.OwnRows
import Derived.Deep.AppendLies
import Derived.WalkKit
import Derived.Below
import Derived.Test.YtpdohdmpjaklgaaDoorMGEvA
set_option linter.unusedSimpArgs false
set_option linter.unusedVariables false
namespace Go.Proofs.YtpdohdmpjaklgaaDoor
open Go.RowKit

section
variable {P : Program} (w : World)

theorem run_append_far (t ty : TypeId) (base : Nat) (e : TypeId) (i : TypeInfo) (z : Value) (size bytes : Nat) (ht : P.underlying t = some (.slice e)) (hi : P.info? e = some i) (hz : i.zero = some z)
    (hsize : i.size = size) (hby : i.bytes = bytes) (hzs : z.cells.size = size) (hsz : 0 < size)
    (v : Value) (n : Nat) (xs : List Value) (hown : w.ownsRow base e size v n xs)
    (ad : Addr) (m c : Nat) (news : List Value) (hl : news.length = m * size) (hnews : ∀ j u, news[j]? = some u → w.cell? (ad.add j) = some u) (h1 : ∀ u ∈ news, u.oneCell' = true)
    (hm : 0 < m) (h63 : n + m ≤ maxLen) (hbytes : (n + m) * bytes ≤ 140737488355328) (hbase : base ≤ w.heap.size) (H : Nat) (hH : w.heap.size = H) :
    ∃ g cap w', (Builtin.append_ #[t, t] ty #[v, .slice (some ad) m c]).run P w = .ok (.slice (some ⟨g, 0, none⟩) (n + m) cap) w' ∧
      w'.ownsRow base e size (.slice (some ⟨g, 0, none⟩) (n + m) cap) (n + m) (xs ++ news) ∧ w.grownBy w' v.ownBlock ∧ ((v.ownBlock = some g) ∨ (g = H ∧ w.grownBy w' none)) ∧ g < w'.heap.size := by
  obtain ⟨g, cap, w', hr, h2, h3, h4, h5⟩ := run_append_lies (P := P) w t ty base e i z size bytes ht hi hz hsize hby hzs hsz v n xs hown ad m c news hl hnews h1 hm h63 hbytes hbase H hH
  refine ⟨g, cap, w', hr, h2, h3, ?_, h5⟩
  have hsmall : n + m ≤ 9223372036854775807 := by simp only [maxLen] at h63; omega
  rcases hown.2 with ⟨rfl, rfl⟩ | ⟨g0, cap0, cur, rfl, hbg, hg, hnc, hcm, hcs, htake⟩
  · rcases h4 with h4 | h4
    · cases h4
    · exact .inr ⟨h4, h3⟩
  · subst hsize
    subst hby
    by_cases hroom : n + m ≤ cap0
    · have hfit : n * i.size + news.length ≤ cur.size := by rw [hl, hcs, ← Nat.add_mul]; exact Nat.mul_le_mul_right _ hroom
      have hr2 := run_append_room (P := P) w t ty e i ht hi g0 n cap0 cur hg ad m c news hl hnews h1 hroom hfit
      rw [hr] at hr2
      simp only [Result.ok.injEq, Value.slice.injEq, Option.some.injEq, Addr.mk.injEq, true_and, and_true] at hr2
      exact .inl (by rw [hr2.1.1]; rfl)
    · have holds : ∀ j u, xs[j]? = some u → w.cell? ((⟨g0, 0, none⟩ : Addr).add j) = some u := hown.cells (g := g0) rfl
      have hr2 := run_append_grow (P := P) w t ty e i z ht hi hz ⟨g0, 0, none⟩ n cap0 xs hown.1 holds ad m c news hl hnews (by omega) (by omega) (growslice_fits (by omega) hbytes)
      rw [hr] at hr2
      simp only [Result.ok.injEq, Value.slice.injEq, Option.some.injEq, Addr.mk.injEq, true_and, and_true] at hr2
      refine .inr ⟨by omega, ?_⟩
      rw [hr2.2]
      exact ⟨rfl, rfl, rfl, by simp, fun k hk _ => Deep.blk_alloc_lt w.drew _ _ hk⟩

theorem wpList_append_far {ops : Array Oper} {rest : List Oper} {o : Oper} {a : Act} {Q : Exit → Act → World → Prop} (hgd : o.guard = none) (s x : Operand) (t : TypeId)
    (ho : o.op = .call { callee := .builtin .append, args := #[s, x], argTypes := #[t, t] })
    (base : Nat) (e : TypeId) (i : TypeInfo) (z : Value) (size bytes : Nat) (ht : P.underlying t = some (.slice e)) (hi : P.info? e = some i) (hz : i.zero = some z)
    (hsize : i.size = size) (hby : i.bytes = bytes) (hzs : z.cells.size = size) (hsz : 0 < size)
    (v : Value) (n : Nat) (xs : List Value) (hs : a.eval s = v) (hown : w.ownsRow base e size v n xs)
    (ad : Addr) (m c : Nat) (news : List Value) (hx : a.eval x = .slice (some ad) m c) (hl : news.length = m * size) (hnews : ∀ j u, news[j]? = some u → w.cell? (ad.add j) = some u) (h1 : ∀ u ∈ news, u.oneCell' = true)
    (hm : 0 < m) (h63 : n + m ≤ maxLen) (hbytes : (n + m) * bytes ≤ 140737488355328) (hbase : base ≤ w.heap.size) (H : Nat) (hH : w.heap.size = H)
    (h : ∀ g cap w', w'.ownsRow base e size (.slice (some ⟨g, 0, none⟩) (n + m) cap) (n + m) (xs ++ news) → w.grownBy w' v.ownBlock → ((v.ownBlock = some g) ∨ (g = H ∧ w.grownBy w' none)) → g < w'.heap.size → wpList P ops Q rest (a.put o.dst (.slice (some ⟨g, 0, none⟩) (n + m) cap)) w') : wpList P ops Q (o :: rest) a w := by
  obtain ⟨g, cap, w', hr, h2, h3, h4, h5⟩ := run_append_far (P := P) w t o.type base e i z size bytes ht hi hz hsize hby hzs hsz v n xs hown ad m c news hl hnews h1 hm h63 hbytes hbase H hH
  refine wpList_plain hgd fun K hK => ?_
  unfold Oper.wp execOp
  simp only [ho, resolve, invoke, builtin, Sem.run_bind, Sem.run_pure, Result.andThen_ok, List.map_toArray, List.map_cons, List.map_nil, hs, hx, hr]
  exact hK _ _ (h g cap w' h2 h3 h4 h5)
end
end Go.Proofs.YtpdohdmpjaklgaaDoor

set_option linter.unusedSimpArgs false
set_option linter.unusedVariables false
namespace Go.Proofs.YtpdohdmpjaklgaaDoor
open Go.RowKit

def offN (len : Nat → Nat) : Nat → Nat
  | 0 => 0
  | k + 1 => offN len k + len k
theorem offN_le (len : Nat → Nat) {k n : Nat} (h : k ≤ n) : offN len k ≤ offN len n := by
  induction n with
  | zero => have : k = 0 := by omega
            subst this; exact Nat.le_refl _
  | succ n ih =>
    by_cases h' : k = n + 1
    · subst h'; exact Nat.le_refl _
    · have := ih (by omega)
      show _ ≤ offN len n + len n
      omega
theorem offN_lt (len : Nat → Nat) {k n j : Nat} (h : k < n) (hj : j ≤ len k) : offN len k + j ≤ offN len n := by
  have := offN_le len (k := k + 1) (n := n) h
  have e : offN len (k + 1) = offN len k + len k := rfl
  omega

section
variable {w w' : World} {base : Nat} {e e' : TypeId} {size size' n n' : Nat} {v v' : Value} {xs xs' : List Value}
theorem rw_block (h : w.ownsRow base e size v n xs) {b : Nat} (hb : v.ownBlock = some b) : base ≤ b ∧ b < w.heap.size ∧ ∃ cap cur, v = .slice (some ⟨b, 0, none⟩) n cap ∧ w.heap[b]? = some (.cells cur e (0, 0)) ∧ cur.toList.take (n * size) = xs := by
  rcases h.2 with ⟨rfl, _⟩ | ⟨g, cap, cur, rfl, h1, h2, _, _, _, h3⟩
  · cases hb
  · cases hb
    refine ⟨h1, ?_, cap, cur, rfl, h2, h3⟩
    rcases Nat.lt_or_ge g w.heap.size with h | h
    · exact h
    · rw [Array.getElem?_eq_none h] at h2; cases h2
theorem rw_same (h : w.ownsRow base e size v n xs) (hs : ∀ b, v.ownBlock = some b → w'.heap[b]? = w.heap[b]?) : w'.ownsRow base e size v n xs := by
  refine ⟨h.1, ?_⟩
  rcases h.2 with h | ⟨g, cap, cur, rfl, h1, h2, h3⟩
  · exact .inl h
  · exact .inr ⟨g, cap, cur, rfl, h1, (hs g rfl).trans h2, h3⟩
theorem rw_ne (h : w.ownsRow base e size v n xs) (h' : w.ownsRow base e' size' v' n' xs') (hne : e ≠ e') {b : Nat} (hb : v.ownBlock = some b) : some b ≠ v'.ownBlock := by
  intro hb'
  obtain ⟨_, _, _, _, _, h1, _⟩ := rw_block h hb
  obtain ⟨_, _, _, _, _, h2, _⟩ := rw_block h' hb'.symm
  rw [h1] at h2
  simp at h2
  exact hne h2.2
theorem rw_form (h : w.ownsRow base e size v n xs) : ∃ ao cap, v = .slice ao n cap := by
  rcases h.2 with ⟨rfl, rfl⟩ | ⟨g, cap, cur, rfl, _⟩
  · exact ⟨none, 0, rfl⟩
  · exact ⟨_, cap, rfl⟩
theorem rw_some (h : w.ownsRow base e size v n xs) (hn : 0 < n) : ∃ g cap, v = .slice (some ⟨g, 0, none⟩) n cap ∧ base ≤ g ∧ g < w.heap.size := by
  rcases h.2 with ⟨rfl, rfl⟩ | ⟨g, cap, cur, rfl, hb, hg, _⟩
  · omega
  · have := rw_block h (b := g) rfl
    exact ⟨g, cap, rfl, hb, this.2.1⟩
theorem rw_put {g cap : Nat} (h : w.ownsRow base e size (.slice (some ⟨g, 0, none⟩) n cap) n xs) (i : Nat) (x : Value) : (w.setCell ⟨g, i, none⟩ x).ownsRow base e size (.slice (some ⟨g, 0, none⟩) n cap) n (xs.set i x) := by
  obtain ⟨h1, h2⟩ := h
  refine ⟨by rw [List.length_set]; exact h1, ?_⟩
  rcases h2 with ⟨h2, _⟩ | ⟨g', cap', cur, h3, hb, hg, hn, hm, hs, ht⟩
  · cases h2
  · cases h3
    refine .inr ⟨g, cap, cur.setIfInBounds i x, rfl, hb, heap_setCell_same w g _ cur _ _ hg, hn, hm, by simpa using hs, ?_⟩
    rw [← ht]
    simp [List.take_set]
/-- What a row reads as, whoever owns it. -/
def Rdr (w : World) (e : TypeId) (v : Value) (xs : List Value) : Prop := ∀ b, v.ownBlock = some b → ∃ cur fr, w.heap[b]? = some (.cells cur e fr) ∧ cur.toList.take xs.length = xs
theorem rdr_own (h : w.ownsRow base e size v n xs) : Rdr w e v xs := fun b hb => by
  obtain ⟨_, _, cap, cur, _, h1, h2⟩ := rw_block h hb
  exact ⟨cur, _, h1, by rw [h.1]; exact h2⟩
theorem Rdr.same (h : Rdr w e v xs) (hs : ∀ b, v.ownBlock = some b → w'.heap[b]? = w.heap[b]?) : Rdr w' e v xs := fun b hb => by
  obtain ⟨cur, fr, h1, h2⟩ := h b hb
  exact ⟨cur, fr, (hs b hb).trans h1, h2⟩
theorem Rdr.lt (h : Rdr w e v xs) {b : Nat} (hb : v.ownBlock = some b) : b < w.heap.size := by
  obtain ⟨cur, fr, h1, _⟩ := h b hb
  rcases Nat.lt_or_ge b w.heap.size with h | h
  · exact h
  · rw [Array.getElem?_eq_none h] at h1; cases h1
theorem Rdr.ne (h : Rdr w e v xs) (h' : w.ownsRow base e' size' v' n' xs') (hne : e ≠ e') {b : Nat} (hb : v.ownBlock = some b) : some b ≠ v'.ownBlock := by
  intro hb'
  obtain ⟨_, _, h1, _⟩ := h b hb
  obtain ⟨_, _, _, _, _, h2, _⟩ := rw_block h' hb'.symm
  rw [h1] at h2
  simp at h2
  exact hne h2.2.1
theorem Rdr.cell (h : Rdr w e v xs) {b : Nat} (hb : v.ownBlock = some b) {i : Nat} {u : Value} (hu : xs[i]? = some u) : w.cell? ⟨b, i, none⟩ = some u := by
  obtain ⟨cur, fr, h1, h2⟩ := h b hb
  have hl : i < xs.length := (List.getElem?_eq_some_iff.1 hu).1
  have : w.cell? ⟨b, i, none⟩ = cur[i]? := by simp [World.cell?, h1]
  rw [this, ← hu, ← Array.getElem?_toList]
  conv => rhs; rw [← h2]
  rw [List.getElem?_take, if_pos hl]
theorem rdr_prefix {b c : Nat} {ys : List Value} {m : Nat} (h : w.ownsRow base e size v n (xs ++ ys)) (hv : v.ownBlock = v'.ownBlock) : Rdr w e v' xs := fun b hb => by
  obtain ⟨_, _, cap, cur, _, h1, h2⟩ := rw_block h (hv.trans hb)
  refine ⟨cur, _, h1, ?_⟩
  have hl := h.1
  rw [List.length_append] at hl
  have := congrArg (List.take xs.length) h2
  rw [List.take_take, Nat.min_eq_left (by omega)] at this
  rw [this]
  simp
end

/-- No two of the rows lie in one block, none in the list's own. -/
structure RwsAp (n B : Nat) (A : Nat → Option Addr) : Prop where
  ap : ∀ k k', k < n → k' < n → k ≠ k' → ∀ a a', A k = some a → A k' = some a' → a.block ≠ a'.block
  out : ∀ k, k < n → ∀ a, A k = some a → a.block ≠ B
theorem own_blk {ao : Option Addr} {n c b : Nat} : (Value.slice ao n c).ownBlock = some b ↔ ∃ a, ao = some a ∧ a.block = b := by
  cases ao <;> simp [Value.ownBlock]

/-- The first m of a row bear their marks. -/
def Mk (size fld : Nat) (xs : List Value) (from_ m : Nat) : Prop := ∀ j, j < m → xs[j * size + fld]? = some (.int .i64 ((1000000 + from_ + j : Nat) : Int))

/-- The rows, the first i of them marked, and the first j of row i. -/
structure P1 (w : World) (base : Nat) (e : TypeId) (size fld n B : Nat) (A : Nat → Option Addr) (C len off : Nat → Nat) (X : Nat → List Value) (i j : Nat) (wr : World) : Prop where
  own : ∀ k, k < n → wr.ownsRow base e size (.slice (A k) (len k) (C k)) (len k) (X k)
  cel : ∀ k, k < n → wr.cell? ⟨B, k, none⟩ = some (.slice (A k) (len k) (C k))
  mks : ∀ k, k < i → Mk size fld (X k) (off k) (len k)
  mi : Mk size fld (X i) (off i) j
  bel : Below base w wr
  hB : B < w.heap.size
  oth : ∀ q, q < w.heap.size → (∀ k, k < n → ∀ a, A k = some a → a.block ≠ q) → wr.heap[q]? = w.heap[q]?
theorem P1.next {w : World} {base : Nat} {e : TypeId} {size fld n B : Nat} {A : Nat → Option Addr} {C len off : Nat → Nat} {X : Nat → List Value} {i : Nat} {wr : World} (h : P1 w base e size fld n B A C len off X i (len i) wr) : P1 w base e size fld n B A C len off X (i + 1) 0 wr := by
  refine ⟨h.own, h.cel, fun k hk => ?_, fun j hj => by omega, h.bel, h.hB, h.oth⟩
  by_cases hki : k = i
  · subst hki; exact h.mi
  · exact h.mks k (by omega)
/-- A cell of row i is written. -/
theorem P1.put {w : World} {base : Nat} {e : TypeId} {size fld n B : Nat} {A : Nat → Option Addr} {C len off : Nat → Nat} {X : Nat → List Value} {i j : Nat} {wr : World} (h : P1 w base e size fld n B A C len off X i j wr) (hap : RwsAp n B A) (hi : i < n) {g : Nat} (hA : A i = some ⟨g, 0, none⟩) (hf : fld < size) (q : Nat) (hq : j * size ≤ q) (x : Value) :
    P1 w base e size fld n B A C len off (fun k => if k = i then (X i).set q x else X k) i j (wr.setCell ⟨g, q, none⟩ x) := by
  have hoi := h.own i hi
  rw [hA] at hoi
  have hb := rw_block hoi (b := g) rfl
  have hlow : ∀ j', j' < j → j' * size + fld < q := by
    intro j' hj'
    have : (j' + 1) * size ≤ j * size := Nat.mul_le_mul_right _ (by omega)
    rw [Nat.succ_mul] at this
    omega
  refine ⟨fun k hk => ?_, fun k hk => ?_, fun k hk => ?_, fun j' hj' => ?_, h.bel.setCell hb.1 _, h.hB, fun p hp hk => ?_⟩
  · by_cases hki : k = i
    · subst hki
      rw [if_pos rfl, hA]
      exact rw_put hoi q x
    · rw [if_neg hki]
      refine rw_same (h.own k hk) fun b hbk => ?_
      obtain ⟨a, ha, rfl⟩ := own_blk.1 hbk
      exact Deep.blk_setCell_other _ _ _ _ (show a.block ≠ g from hap.ap k i hk hi hki a ⟨g, 0, none⟩ ha hA)
  · rw [World.cell?_of_block (w := wr) (Deep.blk_setCell_other _ _ _ _ (fun e => hap.out i hi _ hA e.symm))]
    exact h.cel k hk
  · have hki : k ≠ i := by omega
    simp only [if_neg hki]
    exact h.mks k hk
  · have := hlow j' hj'
    simp only [if_true]
    rw [List.getElem?_set_ne (by omega)]
    exact h.mi j' hj'
  · rw [Deep.blk_setCell_other _ _ _ _ (show p ≠ g from fun e' => hk i hi _ hA e'.symm)]
    exact h.oth p hp hk
theorem P1.mark {w : World} {base : Nat} {e : TypeId} {size fld n B : Nat} {A : Nat → Option Addr} {C len off : Nat → Nat} {X : Nat → List Value} {i j : Nat} {wr : World} (h : P1 w base e size fld n B A C len off X i j wr) (hv : (X i)[j * size + fld]? = some (.int .i64 ((1000000 + off i + j : Nat) : Int))) : P1 w base e size fld n B A C len off X i (j + 1) wr := by
  refine ⟨h.own, h.cel, h.mks, fun j' hj' => ?_, h.bel, h.hB, h.oth⟩
  by_cases hjj : j' = j
  · subst hjj; exact hv
  · exact h.mi j' (by omega)

/-- The rows marked, the first i of them grown. -/
structure P2 (w : World) (base : Nat) (e eL : TypeId) (size fld n B : Nat) (A : Nat → Option Addr) (C len off : Nat → Nat) (X : Nat → List Value) (i : Nat) (vg : Value) (gs : List Value) (wr : World) : Prop where
  own : ∀ k, i ≤ k → k < n → wr.ownsRow base e size (.slice (A k) (len k) (C k)) (len k) (X k)
  rdr : ∀ k, k < n → Rdr wr e (.slice (A k) (len k) (C k)) (X k)
  cel : ∀ k, k < n → wr.cell? ⟨B, k, none⟩ = some (.slice (A k) (len k) (C k))
  gro : wr.ownsRow base eL 1 vg i gs
  gfr : ∀ b, vg.ownBlock = some b → w.heap.size ≤ b
  row : ∀ k, k < i → ∃ h c Y, gs[k]? = some (.slice (some ⟨h, 0, none⟩) (len k + 12) c) ∧ wr.ownsRow base e size (.slice (some ⟨h, 0, none⟩) (len k + 12) c) (len k + 12) Y ∧
    (∀ j, j < 12 → Y[(len k + j) * size + fld]? = some (.int .i64 ((1000000 + off n + 12 * k + j : Nat) : Int))) ∧ ∀ k', i ≤ k' → k' < n → ∀ a, A k' = some a → a.block ≠ h
  bel : Below base w wr
  hB : B < w.heap.size
  oth : ∀ q, q < w.heap.size → (∀ k, k < n → ∀ a, A k = some a → a.block ≠ q) → wr.heap[q]? = w.heap[q]?
theorem P1.done {w : World} {base : Nat} {e eL : TypeId} {size fld n B : Nat} {A : Nat → Option Addr} {C len off : Nat → Nat} {X : Nat → List Value} {j : Nat} {wr : World} (h : P1 w base e size fld n B A C len off X n j wr) : P2 w base e eL size fld n B A C len off X 0 (.slice none 0 0) [] wr :=
  ⟨fun k _ hk => h.own k hk, fun k hk => rdr_own (h.own k hk), h.cel, World.ownsRow_nil _ _ _ _, (fun b hb => by cases hb), (fun k hk => by omega), h.bel, h.hB, h.oth⟩

/-- Row i, grown by j. -/
structure P3 (wr : World) (base : Nat) (e : TypeId) (size fld : Nat) (A : Option Addr) (c m : Nat) (xs : List Value) (from_ j : Nat) (vq : Value) (Z : List Value) (wq : World) : Prop where
  own : wq.ownsRow base e size vq (m + j) (xs ++ Z)
  mks : ∀ t, t < j → Z[t * size + fld]? = some (.int .i64 ((1000000 + from_ + t : Nat) : Int))
  gb : wr.grownBy wq (Value.slice A m c).ownBlock
  blk : vq.ownBlock = (Value.slice A m c).ownBlock ∨ ∃ h, vq.ownBlock = some h ∧ wr.heap.size ≤ h
  old : Rdr wq e (.slice A m c) xs
  alt : ∀ b, (Value.slice A m c).ownBlock = some b → b < wr.heap.size
theorem P3.start {wr : World} {base : Nat} {e : TypeId} {size fld : Nat} {A : Option Addr} {c m : Nat} {xs : List Value} {from_ : Nat} (h : wr.ownsRow base e size (.slice A m c) m xs) : P3 wr base e size fld A c m xs from_ 0 (.slice A m c) [] wr :=
  ⟨by simpa using h, fun t ht => by omega, ⟨rfl, rfl, rfl, Nat.le_refl _, fun _ _ _ => rfl⟩, .inl rfl, rdr_own h, fun b hb => (rw_block h hb).2.1⟩
theorem P3.step {wr : World} {base : Nat} {e : TypeId} {size fld : Nat} {A : Option Addr} {c m : Nat} {xs : List Value} {from_ j : Nat} {vq : Value} {Z : List Value} {wq w6 : World} {o : Obj} {g6 cap6 : Nat} {news : List Value} (h : P3 wr base e size fld A c m xs from_ j vq Z wq) (hlx : xs.length = m * size)
    (hown : w6.ownsRow base e size (.slice (some ⟨g6, 0, none⟩) (m + j + 1) cap6) (m + j + 1) (xs ++ Z ++ news)) (hg : (wq.alloc o).grownBy w6 vq.ownBlock) (hd : vq.ownBlock = some g6 ∨ (g6 = (wq.alloc o).heap.size ∧ (wq.alloc o).grownBy w6 none))
    (hn : news[fld]? = some (.int .i64 ((1000000 + from_ + j : Nat) : Int))) : P3 wr base e size fld A c m xs from_ (j + 1) (.slice (some ⟨g6, 0, none⟩) (m + j + 1) cap6) (Z ++ news) w6 := by
  have hZ : Z.length = j * size := by
    have := h.own.1
    rw [List.length_append, hlx, Nat.add_mul] at this
    omega
  have hsz := h.gb.size
  have hb6 : ∀ k, k < wq.heap.size → some k ≠ vq.ownBlock → w6.heap[k]? = wq.heap[k]? := fun k hk hne => by
    rw [hg.block k (by rw [World.size_alloc]; omega) hne]
    exact Deep.blk_alloc_lt _ _ _ hk
  refine ⟨by rw [← List.append_assoc]; exact hown, fun t ht => ?_, ⟨hg.os.trans h.gb.os, hg.tape.trans h.gb.tape, hg.output.trans h.gb.output, ?_, fun k hk hne => ?_⟩, ?_, ?_, h.alt⟩
  · by_cases htj : t = j
    · subst htj
      rw [List.getElem?_append_right (by omega), hZ]
      rw [Nat.add_sub_cancel_left]
      exact hn
    · have h1 := h.mks t (by omega)
      have : t * size + fld < Z.length := (List.getElem?_eq_some_iff.1 h1).1
      rw [List.getElem?_append_left this]
      exact h1
  · have := hg.size; rw [World.size_alloc] at this; omega
  · rw [hb6 k (by omega) ?_]
    · exact h.gb.block k hk hne
    · rcases h.blk with h1 | ⟨q, h1, h2⟩
      · rw [h1]; exact hne
      · rw [h1]; intro e; cases e; omega
  · rcases hd with hd | ⟨hd, _⟩
    · have e : (Value.slice (some ⟨g6, 0, none⟩) (m + j + 1) cap6).ownBlock = vq.ownBlock := hd.symm
      rw [e]; exact h.blk
    · exact .inr ⟨g6, rfl, by rw [hd, World.size_alloc]; omega⟩
  · rcases hd with hd | ⟨hd, hg0⟩
    · rcases h.blk with h1 | ⟨q, h1, h2⟩
      · refine rdr_prefix (ys := Z ++ news) (b := 0) (c := 0) (m := 0) (by rw [← List.append_assoc]; exact hown) ?_
        exact hd.symm.trans h1
      · refine h.old.same fun b hb => hb6 b (h.old.lt hb) ?_
        intro e
        rw [h1] at e
        cases e
        have := h.alt _ hb
        omega
    · refine h.old.same fun b hb => ?_
      rw [hg0.block b (by rw [World.size_alloc]; have := h.old.lt hb; omega) (by simp)]
      exact Deep.blk_alloc_lt _ _ _ (h.old.lt hb)

/-- Row i is grown by twelve, and put into the list of the grown. -/
theorem P2.step {w : World} {base : Nat} {e eL : TypeId} {size fld n B : Nat} {A : Nat → Option Addr} {C len off : Nat → Nat} {X : Nat → List Value} {i : Nat} {vg : Value} {gs : List Value} {wr wq w7 : World} {h9 c9 g7 cap7 : Nat} {Z : List Value} {o : Obj}
    (h : P2 w base e eL size fld n B A C len off X i vg gs wr) (hap : RwsAp n B A) (hne : e ≠ eL) (hi : i < n) (hbase : base ≤ wr.heap.size)
    (h3 : P3 wr base e size fld (A i) (C i) (len i) (X i) (off n + 12 * i) 12 (.slice (some ⟨h9, 0, none⟩) (len i + 12) c9) Z wq)
    (hown : w7.ownsRow base eL 1 (.slice (some ⟨g7, 0, none⟩) (i + 1) cap7) (i + 1) (gs ++ [.slice (some ⟨h9, 0, none⟩) (len i + 12) c9])) (hg : (wq.alloc o).grownBy w7 vg.ownBlock) (hd : vg.ownBlock = some g7 ∨ (g7 = (wq.alloc o).heap.size ∧ (wq.alloc o).grownBy w7 none)) :
    P2 w base e eL size fld n B A C len off X (i + 1) (.slice (some ⟨g7, 0, none⟩) (i + 1) cap7) (gs ++ [.slice (some ⟨h9, 0, none⟩) (len i + 12) c9]) w7 := by
  have hs1 := h3.gb.size
  have hs2 := hg.size
  rw [World.size_alloc] at hs2
  have hgl : gs.length = i := by have := h.gro.1; omega
  -- the list of the grown, behind the growth of row i
  have hgq : wq.ownsRow base eL 1 vg i gs := by
    refine rw_same h.gro fun b hb => h3.gb.block b (rw_block h.gro hb).2.1 ?_
    intro e'
    exact (h.rdr i hi).ne h.gro hne e'.symm hb.symm
  have st : ∀ b, b < wr.heap.size → some b ≠ (Value.slice (A i) (len i) (C i)).ownBlock → some b ≠ vg.ownBlock → w7.heap[b]? = wr.heap[b]? := fun b hb h1 h2 => by
    rw [hg.block b (by rw [World.size_alloc]; omega) h2, Deep.blk_alloc_lt _ _ _ (by omega)]
    exact h3.gb.block b hb h1
  have st2 : ∀ b, b < wq.heap.size → some b ≠ vg.ownBlock → w7.heap[b]? = wq.heap[b]? := fun b hb h2 => by
    rw [hg.block b (by rw [World.size_alloc]; omega) h2, Deep.blk_alloc_lt _ _ _ hb]
  have apart : ∀ k, k < n → k ≠ i → ∀ b, (Value.slice (A k) (len k) (C k)).ownBlock = some b → some b ≠ (Value.slice (A i) (len i) (C i)).ownBlock := fun k hk hki b hb e' => by
    obtain ⟨a, ha, rfl⟩ := own_blk.1 hb
    obtain ⟨a', ha', hb'⟩ := own_blk.1 e'.symm
    exact hap.ap k i hk hi hki a a' ha ha' hb'.symm
  have hX : (X i).length = len i * size := (h.own i (Nat.le_refl _) hi).1
  refine ⟨fun k hk hkn => ?_, fun k hk => ?_, fun k hk => ?_, hown, fun b hb => ?_, fun k hk => ?_, ?_, h.hB, fun q hq hk => ?_⟩
  · exact rw_same (h.own k (by omega) hkn) fun b hb => st b ((h.rdr k hkn).lt hb) (apart k hkn (by omega) b hb) ((h.rdr k hkn).ne h.gro hne hb)
  · by_cases hki : k = i
    · subst hki
      exact h3.old.same fun b hb => st2 b (h3.old.lt hb) (h3.old.ne hgq hne hb)
    · exact (h.rdr k hk).same fun b hb => st b ((h.rdr k hk).lt hb) (apart k hk hki b hb) ((h.rdr k hk).ne h.gro hne hb)
  · have n1 : some B ≠ (Value.slice (A i) (len i) (C i)).ownBlock := by
      intro e'
      obtain ⟨a, ha, hb⟩ := own_blk.1 e'.symm
      exact hap.out i hi a ha hb
    have n2 : some B ≠ vg.ownBlock := fun e' => by have := h.gfr B e'.symm; have := h.hB; omega
    exact (World.cell?_of_block (w := wr) (a := ⟨B, k, none⟩) (st B (by have := h.hB; have := h.bel.size; omega) n1 n2)).trans (h.cel k hk)
  · cases hb
    rcases hd with hd | ⟨hd, _⟩
    · exact h.gfr _ hd
    · have := h.bel.size
      have e9 : g7 = wq.heap.size + 1 := by rw [hd, World.size_alloc]
      show w.heap.size ≤ g7
      omega
  · by_cases hki : k = i
    · subst hki
      refine ⟨h9, c9, X k ++ Z, by rw [List.getElem?_append_right (by omega), hgl]; simp, ?_, fun j hj => ?_, fun k' hk1 hk2 a ha e' => ?_⟩
      · exact rw_same h3.own fun b hb => st2 b (rw_block h3.own hb).2.1 (rw_ne h3.own hgq hne hb)
      · rw [List.getElem?_append_right (by rw [hX, Nat.add_mul]; omega), hX]
        have e1 : (len k + j) * size + fld - len k * size = j * size + fld := by rw [Nat.add_mul]; omega
        rw [e1, h3.mks j hj]
        congr 3
        omega
      · have hb : (Value.slice (A k') (len k') (C k')).ownBlock = some h9 := own_blk.2 ⟨a, ha, e'⟩
        rcases h3.blk with h1 | ⟨q, h1, h2⟩
        · exact apart k' hk2 (by omega) h9 hb h1
        · cases h1
          have h2 : wr.heap.size ≤ h9 := h2
          have := (h.rdr k' hk2).lt hb
          omega
    · obtain ⟨hh, c, Y, h1, h2, h4, h5⟩ := h.row k (by omega)
      refine ⟨hh, c, Y, by rw [List.getElem?_append_left (by omega)]; exact h1, ?_, h4, fun k' hk1 hk2 a ha => h5 k' (by omega) hk2 a ha⟩
      refine rw_same h2 fun b hb => st b (rw_block h2 hb).2.1 ?_ (rw_ne h2 h.gro hne hb)
      cases hb
      intro e'
      obtain ⟨a, ha, hb⟩ := own_blk.1 e'.symm
      exact h5 i (Nat.le_refl _) hi a ha hb
  · have b1 : Below base w wq := h.bel.grown h3.gb hbase (fun k hk => (rw_block (h.own i (Nat.le_refl _) hi) hk).1)
    exact (b1.alloc (by omega) _).grown hg (by rw [World.size_alloc]; omega) (fun k hk => (rw_block h.gro hk).1)
  · rw [st q (by have := h.bel.size; omega) ?_ (fun e' => by have := h.gfr q e'.symm; omega)]
    · exact h.oth q hq hk
    · intro e'
      obtain ⟨a, ha, hb⟩ := own_blk.1 e'.symm
      exact hk i hi a ha hb
end Go.Proofs.YtpdohdmpjaklgaaDoor

set_option linter.unusedSimpArgs false
set_option linter.unusedVariables false
namespace Go.Proofs.YtpdohdmpjaklgaaDoor
open Go.RowKit Go.Lib

theorem Tryd.infoBinds : (Tryd.prog.info? 22).map (fun i => (i.zero, i.size, i.bytes)) = some (some (.slice none 0 0), 1, 24) := by kernel_rfl
theorem ap_fit {m t : Nat} (h : (m + 12) * 24 ≤ 140737488355328) (ht : t < 12) : m + t + 1 ≤ maxLen ∧ (m + t + 1) * 24 ≤ 140737488355328 := by
  unfold maxLen
  omega
theorem ap_fit2 {k n : Nat} (h : n * 24 ≤ 140737488355328) (hk : k < n) : k + 1 ≤ maxLen ∧ (k + 1) * 24 ≤ 140737488355328 := by
  unfold maxLen
  omega
theorem ap_nx {a c k : Nat} (h : a = 1000000 + (c + 12 * k) + 12) : a = 1000000 + c + 12 * (k + 1) := by omega
theorem ap_nx2 {a c k : Nat} (h : a = 1000000 + c + 12 * k + 12) : a = 1000000 + c + 12 * (k + 1) := by omega
theorem rw_fro {w : World} {base : Nat} {e : TypeId} {size n g cap : Nat} {xs : List Value} (h : w.ownsRow base e size (.slice (some ⟨g, 0, none⟩) n cap) n xs) (i : Nat) : w.frozen? ⟨g, i, none⟩ = false := by
  obtain ⟨_, _, _, cur, _, h1, _⟩ := rw_block h (b := g) rfl
  simp [World.frozen?, h1]
theorem rw_cell {w : World} {base : Nat} {e : TypeId} {size n g cap : Nat} {xs : List Value} (h : w.ownsRow base e size (.slice (some ⟨g, 0, none⟩) n cap) n xs) {i : Nat} (hi : i < n * size) : ∃ u, w.cell? ⟨g, i, none⟩ = some u ∧ xs[i]? = some u := by
  have hl := h.1
  have hx : xs[i]? = some (xs[i]'(by omega)) := List.getElem?_eq_getElem (by omega)
  exact ⟨_, (rdr_own h).cell (b := g) rfl hx, hx⟩

set_option maxRecDepth 100000 in
set_option maxHeartbeats 4000000 in
theorem apartBinds_any (nn B cp : Nat) (A : Nat → Option Addr) (C len off : Nat → Nat) (X0 : Nat → List Value) (base : Nat) (w : World) (hap : RwsAp nn B A) (hoff0 : off 0 = 0) (hoffs : ∀ k, off (k + 1) = off k + len k) (hoffl : ∀ k, k < nn → off k + len k ≤ off nn) (hbase : base ≤ w.heap.size)
    (hfit : 1000000 + off nn + 12 * nn ≤ 4611686018427387904) (hrow : ∀ k, k < nn → (len k + 12) * 24 ≤ 140737488355328) (hnn : nn * 24 ≤ 140737488355328)
    (h0 : P1 w base 38 2 1 nn B A C len off X0 0 0 w) :
    Calls Tryd.prog 41 #[.slice (some ⟨B, 0, none⟩) nn cp] w fun e W' => e = .returned (.bool true) ∧ Below base w W' ∧ (∀ q, q < w.heap.size → (∀ k, k < nn → ∀ a, A k = some a → a.block ≠ q) → W'.heap[q]? = w.heap[q]?) := by
  obtain ⟨i0, hi, hz0, hz1, hz2⟩ := info_parts Tryd.infoBind
  obtain ⟨m0, hm, hx0, hx1, hx2⟩ := info_parts Tryd.infoBinds
  have H0 : Hid (P1 w base 38 2 1 nn B A C len off X0 0 0 w) := h0
  clear h0
  go_enter Tryd.func41, Tryd.ntmps41
  go_wp2_with fail
  go_loopw [3, 5] (fun nv i wr => ∃ (k a : Nat) (X : Nat → List Value), k ≤ nn ∧ i = .int .i64 k ∧ nv = .int .i64 a ∧ a = 1000000 + off k ∧ P1 w base 38 2 1 nn B A C len off X k 0 wr) (fun _ i _ => nn - (RowKit.intOf i).toNat)
  case atStart => exact ⟨0, 1000000, X0, by omega, rfl, rfl, by rw [hoff0], H0.out⟩
  case round =>
    obtain ⟨k, a, X, hk, rfl, rfl, ha, hP⟩ := hrel
    clear H0
    have HP : Hid (P1 w base 38 2 1 nn B A C len off X k 0 wr) := hP
    clear hP
    by_cases hlt : k < nn
    · have hkI : (k : Int) < (nn : Int) := by omega
      have hoff := hoffl k hlt
      go_wp2_with fail
      go_loopw [3, 6] (fun nv j wq => ∃ (t a : Nat) (X : Nat → List Value), t ≤ len k ∧ j = .int .i64 t ∧ nv = .int .i64 a ∧ a = 1000000 + off k + t ∧ P1 w base 38 2 1 nn B A C len off X k t wq) (fun _ j _ => len k - (RowKit.intOf j).toNat)
      case atStart => exact ⟨0, a, X, by omega, rfl, rfl, by omega, HP.out⟩
      case round =>
        obtain ⟨t, a', X', ht, rfl, rfl, ha', hP⟩ := hrel
        clear HP
        have hc := hP.cel k hlt
        by_cases htl : t < len k
        · have htI : (t : Int) < (len k : Int) := by omega
          obtain ⟨g, cap, hv, hg1, hg2⟩ := rw_some (hP.own k hlt) (by omega)
          have hA : A k = some ⟨g, 0, none⟩ := by simp at hv; exact hv.1
          have hoi := hP.own k hlt
          rw [hA] at hc hoi
          have f0 := rw_fro hoi (t * 2)
          have f1 := rw_fro hoi (t * 2 + 1)
          obtain ⟨u0, c0, _⟩ := rw_cell hoi (i := t * 2) (by omega)
          obtain ⟨u1, c1, _⟩ := rw_cell hoi (i := t * 2 + 1) (by omega)
          have HP : Hid (P1 w base 38 2 1 nn B A C len off X' k t wr) := hP
          clear hP hoi hv
          go_wp2_with fail
          refine ⟨⟨t + 1, 1000000 + off k + t + 1, _, by omega, by go_num, by go_num, by omega, ((HP.out.put hap hlt hA (by decide) (t * 2) (by omega) (.string ⟨#[]⟩)).put hap hlt hA (by decide) (t * 2 + 1) (by omega) (.int .i64 (1000000 + (off k : Int) + (t : Int)))).mark ?_⟩, by simp [RowKit.intOf]; omega⟩
          have hl := (HP.out.own k hlt).1
          have hl2 : t * 2 + 1 < (X' k).length := by omega
          simp [hl2]
        · have htk : t = len k := by omega
          subst htk
          have HP : Hid (P1 w base 38 2 1 nn B A C len off X' k (len k) wr) := hP
          have hsucc : a' = 1000000 + off (k + 1) := by
            have e9 : off (k + 1) = off k + len k := hoffs k
            rw [e9, ha', Nat.add_assoc]
          clear hP
          have HS : Hid (a' = 1000000 + off (k + 1)) := hsucc
          clear hsucc ha'
          go_wp2_with fail
          exact ⟨⟨k + 1, _, X', by omega, by go_num, rfl, HS.out, HP.out.next⟩, by simp [RowKit.intOf]; omega⟩
    · have hkn : k = nn := by omega
      subst hkn
      obtain ⟨nn, hnk⟩ : ∃ q, q = k := ⟨_, rfl⟩
      subst hnk
      have HMk : Hid (∀ k, k < nn → Mk 2 1 (X k) (off k) (len k)) := HP.out.mks
      have HAk : Hid (∀ k, k < nn → 0 < len k → ∃ g, A k = some ⟨g, 0, none⟩) := fun k hk hl => by
        obtain ⟨g, cap, hv, _⟩ := rw_some (HP.out.own k hk) hl
        simp at hv
        exact ⟨g, hv.1⟩
      have H2 : Hid (P2 w base 38 22 2 1 nn B A C len off X 0 (.slice none 0 0) [] wr) := HP.out.done
      clear HP
      go_wp2_with fail
      go_loopw [3, 4, 7] (fun nv vg i wr => ∃ (k a : Nat) (gs : List Value), k ≤ nn ∧ i = .int .i64 k ∧ nv = .int .i64 a ∧ a = 1000000 + off nn + 12 * k ∧ P2 w base 38 22 2 1 nn B A C len off X k vg gs wr) (fun _ _ i _ => nn - (RowKit.intOf i).toNat)
      case atStart => exact ⟨0, _, [], by omega, rfl, rfl, by omega, H2.out⟩
      case round =>
        obtain ⟨k, a2, gs, hk, rfl, rfl, ha2, hP⟩ := hrel
        clear H2
        have HA2 : Hid (a2 = 1000000 + off nn + 12 * k) := ha2
        clear ha2
        obtain ⟨ag, cg, rfl⟩ := rw_form hP.gro
        by_cases hlt : k < nn
        · have hkI : (k : Int) < (nn : Int) := by omega
          have hc := hP.cel k hlt
          have hrk := hrow k hlt
          obtain ⟨wo, hwo⟩ : ∃ wo, wo = wr := ⟨_, rfl⟩
          subst hwo
          have HP : Hid (P2 w base 38 22 2 1 nn B A C len off X k (.slice ag k cg) gs wo) := hP
          have H3 : Hid (P3 wo base 38 2 1 (A k) (C k) (len k) (X k) (off nn + 12 * k) 0 (.slice (A k) (len k) (C k)) [] wo) := P3.start (hP.own k (Nat.le_refl _) hlt)
          have hlx : (X k).length = len k * 2 := (hP.own k (Nat.le_refl _) hlt).1
          have hbo : base ≤ wo.heap.size := by have := hP.bel.size; omega
          clear hP
          go_wp2_with fail
          go_loopw [3, 8, 9] (fun nv vq j wq => ∃ (t a : Nat) (Z : List Value), t ≤ 12 ∧ j = .int .i64 t ∧ nv = .int .i64 a ∧ a = 1000000 + (off nn + 12 * k) + t ∧ P3 wo base 38 2 1 (A k) (C k) (len k) (X k) (off nn + 12 * k) t vq Z wq) (fun _ _ j _ => 12 - (RowKit.intOf j).toNat)
          case atStart => exact ⟨0, _, [], by omega, rfl, rfl, by have := HA2.out; omega, H3.out⟩
          case round =>
            obtain ⟨t, a3, Z, ht, rfl, rfl, ha3, hP3⟩ := hrel
            clear H3
            have HA3 : Hid (a3 = 1000000 + (off nn + 12 * k) + t) := ha3
            have ha9 : (a3 : Int) + 1 ≤ 4611686018427387905 := by omega
            clear ha3
            obtain ⟨aq, cq, rfl⟩ := rw_form hP3.own
            have hown3 := hP3.own
            have hbr : base ≤ wr.heap.size := by have := hP3.gb.size; omega
            have HP3 : Hid (P3 wo base 38 2 1 (A k) (C k) (len k) (X k) (off nn + 12 * k) t (.slice aq (len k + t) cq) Z wr) := hP3
            clear hP3
            by_cases htl : t < 12
            · have htI : (t : Int) < 12 := by omega
              have Q : Hid ((len k + t + 1 ≤ maxLen) ∧ ((len k + t + 1) * 24 ≤ 140737488355328)) := ap_fit hrk htl
              have Qb : Hid (∀ o, base ≤ (wr.alloc o).heap.size) := fun o => by rw [World.size_alloc]; exact Nat.le_succ_of_le hbr
              go_wp2_with (at_builtin; refine wpList_append_far _ rfl (.tmp 53) (.tmp 56) 22 rfl base 38 i0 (.agg #[.string ⟨#[]⟩, .int .i64 0]) 2 24 Tryd.underlying22 hi hz0 hz1 hz2 rfl (by decide) _ _ _ rfl (hown3.alloc _) ⟨wr.heap.size, 0, none⟩ 1 1 [.string ⟨#[]⟩, .int .i64 a3] rfl (by simp) (by intro j u hj; rcases j with _ | _ | j <;> simp at hj <;> subst hj <;> simp [Go.WideShapes.add_plain]) (by simp [Value.oneCell']) (by decide) Q.out.1 Q.out.2 (Qb.out _) _ rfl ?_; intro g6 cap6 w6 hown6 hg6 hd6 hlt6)
              have hn : ([.string ⟨#[]⟩, .int .i64 (a3 : Int)] : List Value)[1]? = some (.int .i64 ((1000000 + (off nn + 12 * k) + t : Nat) : Int)) := by rw [← HA3.out]; rfl
              exact ⟨⟨t + 1, a3 + 1, _, Nat.succ_le_of_lt htl, by go_num, by go_num, by rw [HA3.out]; rfl, P3.step HP3.out hlx hown6 hg6 hd6 hn⟩, by simp [RowKit.intOf]; omega⟩
            · have ht12 : t = 12 := by omega
              subst ht12
              obtain ⟨h9, c9, hv9, _, _⟩ := rw_some hown3 (Nat.succ_pos _)
              have hq9 : aq = some ⟨h9, 0, none⟩ := by simp at hv9; exact hv9.1
              subst hq9
              have hgq : wr.ownsRow base 22 1 (.slice ag k cg) k gs := rw_same HP.out.gro fun b hb => HP3.out.gb.block b (rw_block HP.out.gro hb).2.1 (fun e' => (HP.out.rdr k hlt).ne HP.out.gro (by decide) e'.symm hb.symm)
              have Q : Hid ((k + 1 ≤ maxLen) ∧ ((k + 1) * 24 ≤ 140737488355328)) := ap_fit2 hnn hlt
              have Qb : Hid (∀ o, base ≤ (wr.alloc o).heap.size) := fun o => by rw [World.size_alloc]; exact Nat.le_succ_of_le hbr
              have HA4 : Hid (a3 = 1000000 + off nn + 12 * (k + 1)) := ap_nx HA3.out
              clear hv9 hown3
              go_wp2_with (at_builtin; refine wpList_append_far _ rfl (.tmp 60) (.tmp 62) 39 rfl base 22 m0 (.slice none 0 0) 1 24 Tryd.underlying39 hm hx0 hx1 hx2 rfl (by decide) _ _ _ rfl (hgq.alloc _) ⟨wr.heap.size, 0, none⟩ 1 1 [.slice (some ⟨h9, 0, none⟩) (len k + 12) cq] rfl (by simp) (by intro j u hj; rcases j with _ | j <;> simp at hj <;> subst hj <;> simp [Go.WideShapes.add_plain]) (by simp [Value.oneCell']) (by decide) Q.out.1 Q.out.2 (Qb.out _) _ rfl ?_; intro g7 cap7 w7 hown7 hg7 hd7 hlt7)
              exact ⟨⟨k + 1, a3, _, Nat.succ_le_of_lt hlt, by go_num, rfl, HA4.out, P2.step HP.out hap (by decide) hlt hbo HP3.out hown7 hg7 hd7⟩, by simp [RowKit.intOf]; omega⟩
        · have hkn : k = nn := by omega
          subst hkn
          obtain ⟨nn, hnk⟩ : ∃ q, q = k := ⟨_, rfl⟩
          subst hnk
          obtain ⟨wo, hwo⟩ : ∃ wo, wo = wr := ⟨_, rfl⟩
          subst hwo
          have HP : Hid (P2 w base 38 22 2 1 nn B A C len off X nn (.slice ag nn cg) gs wo) := hP
          clear hP
          go_wp2_with fail
          go_loopw [3, 10] (fun nv i wq => ∃ (k a : Nat), k ≤ nn ∧ i = .int .i64 k ∧ nv = .int .i64 a ∧ a = 1000000 + off k ∧ wq = wo) (fun _ i _ => nn - (RowKit.intOf i).toNat)
          case atStart => exact ⟨0, 1000000, by omega, rfl, rfl, by rw [hoff0], rfl⟩
          case round =>
            obtain ⟨k, a4, hk, rfl, rfl, ha4, rfl⟩ := hrel
            have HA4 : Hid (a4 = 1000000 + off k) := ha4
            clear ha4
            by_cases hlt : k < nn
            · have hkI : (k : Int) < (nn : Int) := by omega
              have hoff := hoffl k hlt
              have hc := HP.out.cel k hlt
              go_wp2_with fail
              go_loopw [3, 11] (fun nv j wq => ∃ (t a : Nat), t ≤ len k ∧ j = .int .i64 t ∧ nv = .int .i64 a ∧ a = 1000000 + off k + t ∧ wq = wr) (fun _ j _ => len k - (RowKit.intOf j).toNat)
              case atStart => exact ⟨0, a4, Nat.zero_le _, rfl, rfl, HA4.out, rfl⟩
              case round =>
                obtain ⟨t, a5, ht, rfl, rfl, ha5, rfl⟩ := hrel
                have HA5 : Hid (a5 = 1000000 + off k + t) := ha5
                have ha9 : (a5 : Int) + 1 ≤ 4611686018427387905 := by omega
                clear ha5
                by_cases htl : t < len k
                · have htI : (t : Int) < (len k : Int) := by omega
                  obtain ⟨g, hA⟩ := HAk.out k hlt (by omega)
                  have hcl : wr.cell? ⟨g, t * 2 + 1, none⟩ = some (.int .i64 (a5 : Int)) := by
                    rw [HA5.out]
                    exact (HP.out.rdr k hlt).cell (own_blk.2 ⟨_, hA, rfl⟩) (HMk.out k hlt t htl)
                  rw [hA] at hc
                  go_wp2_with fail
                  exact ⟨⟨t + 1, a5 + 1, Nat.succ_le_of_lt htl, by go_num, by go_num, by rw [HA5.out]; rfl, by trivial⟩, by simp [RowKit.intOf]; omega⟩
                · have htk : t = len k := by omega
                  subst htk
                  have HS : Hid (a5 = 1000000 + off (k + 1)) := by
                    show _ = _
                    rw [hoffs, HA5.out, Nat.add_assoc]
                  go_wp2_with fail
                  exact ⟨⟨k + 1, _, Nat.succ_le_of_lt hlt, by go_num, rfl, HS.out, by trivial⟩, by simp [RowKit.intOf]; omega⟩
            · have hkn : k = nn := by omega
              subst hkn
              obtain ⟨nn, hnk⟩ : ∃ q, q = k := ⟨_, rfl⟩
              subst hnk
              go_wp2_with fail
              go_loopw [3, 12] (fun nv i wq => ∃ (k a : Nat), k ≤ nn ∧ i = .int .i64 k ∧ nv = .int .i64 a ∧ a = 1000000 + off nn + 12 * k ∧ wq = wr) (fun _ i _ => nn - (RowKit.intOf i).toNat)
              case atStart => exact ⟨0, a4, Nat.zero_le _, rfl, rfl, HA4.out, rfl⟩
              case round =>
                obtain ⟨k, a6, hk, rfl, rfl, ha6, rfl⟩ := hrel
                clear HA4
                have HA6 : Hid (a6 = 1000000 + off nn + 12 * k) := ha6
                clear ha6
                by_cases hlt : k < nn
                · have hkI : (k : Int) < (nn : Int) := by omega
                  have hc := HP.out.cel k hlt
                  have hrk := hrow k hlt
                  obtain ⟨G, cG, hvG, _, _⟩ := rw_some HP.out.gro (by omega)
                  have hag : ag = some ⟨G, 0, none⟩ := by simp at hvG; exact hvG.1
                  subst hag
                  obtain ⟨h, c, Y, hg1, hg2, hg4, _⟩ := HP.out.row k hlt
                  have hcG : wr.cell? ⟨G, k, none⟩ = some (.slice (some ⟨h, 0, none⟩) (len k + 12) c) := (rdr_own HP.out.gro).cell (b := G) rfl hg1
                  have HG2 : Hid (wr.ownsRow base 38 2 (.slice (some ⟨h, 0, none⟩) (len k + 12) c) (len k + 12) Y) := hg2
                  have HG4 : Hid (∀ j, j < 12 → Y[(len k + j) * 2 + 1]? = some (.int .i64 ((1000000 + off nn + 12 * k + j : Nat) : Int))) := hg4
                  clear hg1 hg2 hg4 hvG
                  go_wp2_with fail
                  go_loopw [3, 13] (fun nv j wq => ∃ (t a b : Nat), t ≤ 12 ∧ j = .int .i64 b ∧ nv = .int .i64 a ∧ b = len k + t ∧ a = 1000000 + off nn + 12 * k + t ∧ wq = wr) (fun _ j _ => len k + 12 - (RowKit.intOf j).toNat)
                  case atStart => exact ⟨0, a6, len k, Nat.zero_le _, rfl, rfl, rfl, HA6.out, rfl⟩
                  case round =>
                    obtain ⟨t, a7, b7, ht, rfl, rfl, hb7, ha7, rfl⟩ := hrel
                    have HA7 : Hid (a7 = 1000000 + off nn + 12 * k + t) := ha7
                    have HB7 : Hid (b7 = len k + t) := hb7
                    by_cases htl : t < 12
                    · have hbI : (b7 : Int) < (len k : Int) + 12 := by omega
                      have hbN : b7 < len k + 12 := by omega
                      have hb9 : (b7 : Int) + 1 ≤ 4611686018427387905 := by omega
                      have ha9 : (a7 : Int) + 1 ≤ 4611686018427387905 := by omega
                      have hcl : wr.cell? ⟨h, b7 * 2 + 1, none⟩ = some (.int .i64 (a7 : Int)) := by
                        rw [HA7.out, HB7.out]
                        exact (rdr_own HG2.out).cell (b := h) rfl (HG4.out t htl)
                      clear ha7 hb7
                      go_wp2_with fail
                      exact ⟨⟨t + 1, a7 + 1, b7 + 1, Nat.succ_le_of_lt htl, by go_num, by go_num, by rw [HB7.out]; rfl, by rw [HA7.out]; rfl, by trivial⟩, by simp [RowKit.intOf]; omega⟩
                    · have ht12 : t = 12 := by omega
                      subst ht12
                      have hbI : ¬ (b7 : Int) < (len k : Int) + 12 := by omega
                      have HA8 : Hid (a7 = 1000000 + off nn + 12 * (k + 1)) := ap_nx2 HA7.out
                      clear ha7 hb7
                      go_wp2_with fail
                      exact ⟨⟨k + 1, a7, Nat.succ_le_of_lt hlt, by go_num, rfl, HA8.out, by trivial⟩, by simp [RowKit.intOf]; omega⟩
                · have hkn : k = nn := by omega
                  subst hkn
                  go_wp2_with fail
                  go_ret
                  exact ⟨rfl, HP.out.bel, HP.out.oth⟩
end Go.Proofs.YtpdohdmpjaklgaaDoor

set_option linter.unusedSimpArgs false
set_option linter.unusedVariables false
namespace Go.Proofs.YtpdohdmpjaklgaaDoor
open Go.RowKit

set_option maxRecDepth 20000 in
set_option maxHeartbeats 1000000 in
theorem nums_nil (w : World) : Calls Tryd.prog 43 #[.slice none 0 0] w fun e w' => e = .returned (.bool true) ∧ w' = w := by
  go_enter Tryd.func43, Tryd.ntmps43
  go_wp2_with fail
  go_loopw [5] (fun i wr => i = .int .i64 0 ∧ wr = w) (fun _ _ => 0)
  case atStart => exact ⟨rfl, rfl⟩
  case round =>
    obtain ⟨rfl, rfl⟩ := hrel
    go_wp2_with fail
    go_loopw [4, 7] (fun g i wr2 => g = .slice none 0 0 ∧ i = .int .i64 0 ∧ wr2 = wr) (fun _ _ _ => 0)
    case atStart => exact ⟨rfl, rfl, rfl⟩
    case round =>
      obtain ⟨rfl, rfl, rfl⟩ := hrel
      go_wp2_with fail
      go_loopw [10] (fun i wr2 => i = .int .i64 0 ∧ wr2 = wr) (fun _ _ => 0)
      case atStart => exact ⟨rfl, rfl⟩
      case round =>
        obtain ⟨rfl, rfl⟩ := hrel
        go_wp2_with fail
        go_loopw [12] (fun i wr2 => i = .int .i64 0 ∧ wr2 = wr) (fun _ _ => 0)
        case atStart => exact ⟨rfl, rfl⟩
        case round =>
          obtain ⟨rfl, rfl⟩ := hrel
          go_wp2_with fail
          go_ret
          exact ⟨rfl, rfl⟩

set_option maxRecDepth 20000 in
set_option maxHeartbeats 1000000 in
theorem texts_nil (w : World) : Calls Tryd.prog 40 #[.slice none 0 0] w fun e w' => e = .returned (.bool true) ∧ w' = w := by
  go_enter Tryd.func40, Tryd.ntmps40
  go_wp2_with fail
  go_loopw [5] (fun i wr => i = .int .i64 0 ∧ wr = w) (fun _ _ => 0)
  case atStart => exact ⟨rfl, rfl⟩
  case round =>
    obtain ⟨rfl, rfl⟩ := hrel
    go_wp2_with fail
    go_loopw [4, 7] (fun g i wr2 => g = .slice none 0 0 ∧ i = .int .i64 0 ∧ wr2 = wr) (fun _ _ _ => 0)
    case atStart => exact ⟨rfl, rfl, rfl⟩
    case round =>
      obtain ⟨rfl, rfl, rfl⟩ := hrel
      go_wp2_with fail
      go_loopw [10] (fun i wr2 => i = .int .i64 0 ∧ wr2 = wr) (fun _ _ => 0)
      case atStart => exact ⟨rfl, rfl⟩
      case round =>
        obtain ⟨rfl, rfl⟩ := hrel
        go_wp2_with fail
        go_loopw [12] (fun i wr2 => i = .int .i64 0 ∧ wr2 = wr) (fun _ _ => 0)
        case atStart => exact ⟨rfl, rfl⟩
        case round =>
          obtain ⟨rfl, rfl⟩ := hrel
          go_wp2_with fail
          go_ret
          exact ⟨rfl, rfl⟩

set_option maxRecDepth 20000 in
set_option maxHeartbeats 1000000 in
theorem binds_nil (w : World) : Calls Tryd.prog 41 #[.slice none 0 0] w fun e w' => e = .returned (.bool true) ∧ w' = w := by
  go_enter Tryd.func41, Tryd.ntmps41
  go_wp2_with fail
  go_loopw [5] (fun i wr => i = .int .i64 0 ∧ wr = w) (fun _ _ => 0)
  case atStart => exact ⟨rfl, rfl⟩
  case round =>
    obtain ⟨rfl, rfl⟩ := hrel
    go_wp2_with fail
    go_loopw [4, 7] (fun g i wr2 => g = .slice none 0 0 ∧ i = .int .i64 0 ∧ wr2 = wr) (fun _ _ _ => 0)
    case atStart => exact ⟨rfl, rfl, rfl⟩
    case round =>
      obtain ⟨rfl, rfl, rfl⟩ := hrel
      go_wp2_with fail
      go_loopw [10] (fun i wr2 => i = .int .i64 0 ∧ wr2 = wr) (fun _ _ => 0)
      case atStart => exact ⟨rfl, rfl⟩
      case round =>
        obtain ⟨rfl, rfl⟩ := hrel
        go_wp2_with fail
        go_loopw [12] (fun i wr2 => i = .int .i64 0 ∧ wr2 = wr) (fun _ _ => 0)
        case atStart => exact ⟨rfl, rfl⟩
        case round =>
          obtain ⟨rfl, rfl⟩ := hrel
          go_wp2_with fail
          go_ret
          exact ⟨rfl, rfl⟩

set_option maxRecDepth 20000 in
set_option maxHeartbeats 1000000 in
theorem classes_nil (w : World) : Calls Tryd.prog 42 #[.slice none 0 0] w fun e w' => e = .returned (.bool true) ∧ w' = w := by
  go_enter Tryd.func42, Tryd.ntmps42
  go_wp2_with fail
  go_loopw [5] (fun i wr => i = .int .i64 0 ∧ wr = w) (fun _ _ => 0)
  case atStart => exact ⟨rfl, rfl⟩
  case round =>
    obtain ⟨rfl, rfl⟩ := hrel
    go_wp2_with fail
    go_loopw [4, 7] (fun g i wr2 => g = .slice none 0 0 ∧ i = .int .i64 0 ∧ wr2 = wr) (fun _ _ _ => 0)
    case atStart => exact ⟨rfl, rfl, rfl⟩
    case round =>
      obtain ⟨rfl, rfl, rfl⟩ := hrel
      go_wp2_with fail
      go_loopw [10] (fun i wr2 => i = .int .i64 0 ∧ wr2 = wr) (fun _ _ => 0)
      case atStart => exact ⟨rfl, rfl⟩
      case round =>
        obtain ⟨rfl, rfl⟩ := hrel
        go_wp2_with fail
        go_loopw [12] (fun i wr2 => i = .int .i64 0 ∧ wr2 = wr) (fun _ _ => 0)
        case atStart => exact ⟨rfl, rfl⟩
        case round =>
          obtain ⟨rfl, rfl⟩ := hrel
          go_wp2_with fail
          go_ret
          exact ⟨rfl, rfl⟩
set_option maxRecDepth 20000 in
set_option maxHeartbeats 1000000 in
theorem ints_nil (w : World) : Calls Tryd.prog 38 #[.slice none 0 0] w fun e w' => e = .returned (.bool true) ∧ w' = w := by
  go_enter Tryd.func38, Tryd.ntmps38
  go_wp2_with fail
  go_loopw [5] (fun i wr => i = .int .i64 0 ∧ wr = w) (fun _ _ => 0)
  case atStart => exact ⟨rfl, rfl⟩
  case round =>
    obtain ⟨rfl, rfl⟩ := hrel
    go_wp2_with fail
    go_loopw [4, 7] (fun g i wr2 => g = .slice none 0 0 ∧ i = .int .i64 0 ∧ wr2 = wr) (fun _ _ _ => 0)
    case atStart => exact ⟨rfl, rfl, rfl⟩
    case round =>
      obtain ⟨rfl, rfl, rfl⟩ := hrel
      go_wp2_with fail
      go_loopw [10] (fun i wr2 => i = .int .i64 0 ∧ wr2 = wr) (fun _ _ => 0)
      case atStart => exact ⟨rfl, rfl⟩
      case round =>
        obtain ⟨rfl, rfl⟩ := hrel
        go_wp2_with fail
        go_loopw [12] (fun i wr2 => i = .int .i64 0 ∧ wr2 = wr) (fun _ _ => 0)
        case atStart => exact ⟨rfl, rfl⟩
        case round =>
          obtain ⟨rfl, rfl⟩ := hrel
          go_wp2_with fail
          go_ret
          exact ⟨rfl, rfl⟩

set_option maxRecDepth 20000 in
set_option maxHeartbeats 1000000 in
theorem nodes_nil (w : World) : Calls Tryd.prog 39 #[.slice none 0 0] w fun e w' => e = .returned (.bool true) ∧ w' = w := by
  go_enter Tryd.func39, Tryd.ntmps39
  go_wp2_with fail
  go_loopw [5] (fun i wr => i = .int .i64 0 ∧ wr = w) (fun _ _ => 0)
  case atStart => exact ⟨rfl, rfl⟩
  case round =>
    obtain ⟨rfl, rfl⟩ := hrel
    go_wp2_with fail
    go_loopw [4, 7] (fun g i wr2 => g = .slice none 0 0 ∧ i = .int .i64 0 ∧ wr2 = wr) (fun _ _ _ => 0)
    case atStart => exact ⟨rfl, rfl, rfl⟩
    case round =>
      obtain ⟨rfl, rfl, rfl⟩ := hrel
      go_wp2_with fail
      go_loopw [10] (fun i wr2 => i = .int .i64 0 ∧ wr2 = wr) (fun _ _ => 0)
      case atStart => exact ⟨rfl, rfl⟩
      case round =>
        obtain ⟨rfl, rfl⟩ := hrel
        go_wp2_with fail
        go_loopw [12] (fun i wr2 => i = .int .i64 0 ∧ wr2 = wr) (fun _ _ => 0)
        case atStart => exact ⟨rfl, rfl⟩
        case round =>
          obtain ⟨rfl, rfl⟩ := hrel
          go_wp2_with fail
          go_ret
          exact ⟨rfl, rfl⟩

end Go.Proofs.YtpdohdmpjaklgaaDoor

set_option linter.unusedSimpArgs false
set_option linter.unusedVariables false
namespace Go.Proofs.YtpdohdmpjaklgaaDoor
open Go.RowKit

set_option maxRecDepth 100000 in
set_option maxHeartbeats 1000000 in
theorem bookApart_any (Q nn B cp : Nat) (A : Nat → Option Addr) (C len off : Nat → Nat) (X0 : Nat → List Value) (base : Nat) (w : World) (hap : RwsAp nn B A) (hoff0 : off 0 = 0) (hoffs : ∀ k, off (k + 1) = off k + len k) (hoffl : ∀ k, k < nn → off k + len k ≤ off nn) (hbase : base ≤ w.heap.size)
    (hfit : 1000000 + off nn + 12 * nn ≤ 4611686018427387904) (hrow : ∀ k, k < nn → (len k + 12) * 24 ≤ 140737488355328) (hnn : nn * 24 ≤ 140737488355328)
    (h0 : P1 w base 38 2 1 nn B A C len off X0 0 0 w) (fr : Nat × Nat)
    (hQ : w.heap[Q]? = some (.cells #[.slice none 0 0, .slice none 0 0, .slice none 0 0, .slice (some ⟨B, 0, none⟩) nn cp, .slice none 0 0, .slice none 0 0] 46 fr)) (hQA : ∀ k, k < nn → ∀ a, A k = some a → a.block ≠ Q) :
    Calls Tryd.prog 20 #[.pointer (some ⟨Q, 0, none⟩)] w fun e W' => e = .returned (.bool true) ∧ Below base w W' := by
  have hlt : Q < w.heap.size := by
    rcases Nat.lt_or_ge Q w.heap.size with h | h
    · exact h
    · rw [Array.getElem?_eq_none h] at hQ; cases hQ
  have c0 : w.cell? ⟨Q, 0, none⟩ = some (.slice none 0 0) := by simp [World.cell?, hQ]
  have c1 : w.cell? ⟨Q, 1, none⟩ = some (.slice none 0 0) := by simp [World.cell?, hQ]
  have c2 : w.cell? ⟨Q, 2, none⟩ = some (.slice none 0 0) := by simp [World.cell?, hQ]
  have c3 : w.cell? ⟨Q, 3, none⟩ = some (.slice (some ⟨B, 0, none⟩) nn cp) := by simp [World.cell?, hQ]
  have cB : Hid (Calls Tryd.prog 41 #[.slice (some ⟨B, 0, none⟩) nn cp] w fun e W' => e = .returned (.bool true) ∧ Below base w W' ∧ W'.cell? ⟨Q, 4, none⟩ = some (.slice none 0 0) ∧ W'.cell? ⟨Q, 5, none⟩ = some (.slice none 0 0)) := by
    refine (apartBinds_any nn B cp A C len off X0 base w hap hoff0 hoffs hoffl hbase hfit hrow hnn h0).mono ?_
    rintro e W' ⟨rfl, hb, ho⟩
    have hQ' := (ho Q hlt hQA).trans hQ
    exact ⟨rfl, hb, by simp [World.cell?, hQ'], by simp [World.cell?, hQ']⟩
  clear hQ hQA h0 hap hrow
  go_enter Tryd.func20, Tryd.ntmps20
  go_wp2_with (first
    | (go_at_call 38; refine (ints_nil _).mono ?_; rintro e w1 ⟨rfl, rfl⟩)
    | (go_at_call 39; refine (nodes_nil _).mono ?_; rintro e w2 ⟨rfl, rfl⟩)
    | (go_at_call 40; refine (texts_nil _).mono ?_; rintro e w3 ⟨rfl, rfl⟩)
    | (go_at_call 41; refine cB.out.mono ?_; rintro e w4 ⟨rfl, b4, d4, d5⟩)
    | (go_at_call 42; refine (classes_nil _).mono ?_; rintro e w5 ⟨rfl, rfl⟩)
    | (go_at_call 43; refine (nums_nil _).mono ?_; rintro e w6 ⟨rfl, rfl⟩))
  go_ret
  exact ⟨rfl, b4⟩
end Go.Proofs.YtpdohdmpjaklgaaDoor
