/-
  ArithPlays, walked.
-/
import Derived.Test.YteoomihembloaaaDoorArPl
import Derived.Test.YteoomihembloaaaDoorArFrame
import Derived.Deep.AppendLies
import Derived.Deep.OwnRows
import Derived.Laws.AppendOwnNone
set_option linter.unusedSimpArgs false
set_option linter.unusedVariables false
namespace Go.Proofs.YteoomihembloaaaDoor
open Go.RowKit Go.Lib

/-- append of what a slice holds, nil or not. -/
theorem wpList_append_src {P : Program} (w : World) {ops : Array Oper} {rest : List Oper} {o : Oper} {a : Act} {Q : Exit → Act → World → Prop} (hgd : o.guard = none) (s x : Operand) (t : TypeId)
    (ho : o.op = .call { callee := .builtin .append, args := #[s, x], argTypes := #[t, t] })
    (base : Nat) (e : TypeId) (i : TypeInfo) (z : Value) (size bytes : Nat) (ht : P.underlying t = some (.slice e)) (hi : P.info? e = some i) (hz : i.zero = some z)
    (hsize : i.size = size) (hby : i.bytes = bytes) (hzs : z.cells.size = size) (hsz : 0 < size)
    (v : Value) (n : Nat) (xs : List Value) (hs : a.eval s = v) (hown : w.ownsRow base e size v n xs)
    (ao : Option Addr) (m c : Nat) (news : List Value) (hx : a.eval x = .slice ao m c) (hnone : ao = none → m = 0 ∧ c = 0) (hl : news.length = m * size) (hnews : ∀ ad, ao = some ad → ∀ j u, news[j]? = some u → w.cell? (ad.add j) = some u) (h1 : ∀ u ∈ news, u.oneCell' = true)
    (h63 : n + m ≤ maxLen) (hbytes : (n + m) * bytes ≤ 140737488355328) (hbase : base ≤ w.heap.size)
    (h : ∀ v' w', w'.ownsRow base e size v' (n + m) (xs ++ news) → w.grownBy w' v.ownBlock → wpList P ops Q rest (a.put o.dst v') w') : wpList P ops Q (o :: rest) a w := by
  cases ao with
  | none =>
    obtain ⟨rfl, rfl⟩ := hnone rfl
    have hn : news = [] := List.length_eq_zero_iff.1 (by omega)
    subst hn
    exact wpList_append_own_none hgd s x t ho base e i size ht hi v n xs hs hown hx (h v w (by simpa using hown) (World.grownBy.refl _ _))
  | some ad => exact wpList_append_own w hgd s x t ho base e i z size bytes ht hi hz hsize hby hzs hsz v n xs hs hown ad m c news hx hl (hnews ad rfl) h1 h63 hbytes hbase (fun v' w' h2 h3 _ => h v' w' h2 h3)


/-- A list of numbers that was handed in. -/
structure Rg (w : World) (ao : Option Addr) (cap : Nat) (l : List Int) : Prop where
  le : l.length ≤ cap
  nil : ao = none → l.length = 0 ∧ cap = 0
  cells : l = [] ∨ ∃ b o, ao = some ⟨b, o, none⟩ ∧ b < w.heap.size ∧ ∀ j x, l[j]? = some x → w.cell? ⟨b, o + j, none⟩ = some (.int .i64 x)
  num : ∀ x ∈ l, i6 x
theorem Rg.below {w w' : World} {ao : Option Addr} {cap : Nat} {l : List Int} (h : Rg w ao cap l) (hb : Below w.heap.size w w') : Rg w' ao cap l := by
  refine ⟨h.le, h.nil, ?_, h.num⟩
  rcases h.cells with h | ⟨b, o, h1, h2, h3⟩
  · exact .inl h
  · exact .inr ⟨b, o, h1, Nat.lt_of_lt_of_le h2 hb.size, fun j x hx => (hb.cell (p := ⟨b, o + j, none⟩) h2).trans (h3 j x hx)⟩
theorem Rg.ags {w : World} {ao : Option Addr} {cap : Nat} {l : List Int} (h : Rg w ao cap l) : Ags w (.slice ao l.length cap) l := by
  refine ⟨ao, cap, rfl, ?_⟩
  rcases h.cells with h | ⟨b, o, h1, h2, h3⟩
  · exact .inl h
  · exact .inr ⟨b, o, h1, h3⟩
theorem Rg.src {w : World} {ao : Option Addr} {cap : Nat} {l : List Int} (h : Rg w ao cap l) :
    ∀ ad, ao = some ad → ∀ j u, (l.map (Value.int .i64))[j]? = some u → w.cell? (ad.add j) = some u := by
  intro ad had j u hj
  rw [List.getElem?_map, Option.map_eq_some_iff] at hj
  obtain ⟨x, hx, rfl⟩ := hj
  rcases h.cells with h | ⟨b, o, h, hlt, hc⟩
  · subst h; simp at hx
  · rw [had] at h
    cases h
    rw [Go.WideShapes.add_plain]
    exact hc j x hx

theorem Tryd.info2 : (Tryd.prog.info? 2).map (fun i => (i.zero, i.size, i.bytes)) = some (some (.int .i64 0), 1, 8) := by kernel_rfl

theorem news2 (w : World) (a b : Int) : ∀ ad, some (⟨w.heap.size, 0, none⟩ : Addr) = some ad → ∀ j u, ([.int .i64 a, .int .i64 b] : List Value)[j]? = some u → (w.alloc (.cells #[.int .i64 a, .int .i64 b] 2)).cell? (ad.add j) = some u := by
  intro ad had j u hj
  cases had
  have hb : (w.alloc (.cells #[.int .i64 a, .int .i64 b] 2)).heap[w.heap.size]? = some (.cells #[.int .i64 a, .int .i64 b] 2) := by
    show (w.heap.push _)[w.heap.size]? = _
    simp
  rw [Go.WideShapes.add_plain]
  unfold World.cell?
  rw [hb]
  simpa using hj

theorem row_cells {w : World} {base : Nat} {v : Value} {n : Nat} {xs : List Value} (h : w.ownsRow base 2 1 v n xs) (hn : 0 < n) :
    ∃ g cap, v = .slice (some ⟨g, 0, none⟩) n cap ∧ base ≤ g ∧ n ≤ cap ∧ cap ≤ maxLen ∧ ∀ j u, xs[j]? = some u → w.cell? ⟨g, 0 + j, none⟩ = some u := by
  obtain ⟨h1, h2⟩ := h
  rcases h2 with ⟨rfl, h0⟩ | ⟨g, cap, cur, rfl, hb, hg, hn', hm, hs, ht⟩
  · omega
  · refine ⟨g, cap, rfl, hb, hn', hm, fun j u hj => ?_⟩
    have hc : w.cell? ⟨g, 0 + j, none⟩ = cur[j]? := by simp [World.cell?, hg]
    rw [hc, ← Array.getElem?_toList]
    rw [← ht, List.getElem?_take] at hj
    split at hj
    · exact hj
    · cases hj

set_option maxRecDepth 100000 in
set_option maxHeartbeats 4000000 in
theorem plays.walk (w : World) (ao : Option Addr) (cap : Nat) (l : List Int) (op : Int) (hT : Tb4 w) (hR : Rg w ao cap l) (hF : l.length * 8 ≤ 140737488351232) :
    Calls Tryd.prog 3 #[.int .i64 op, .slice ao l.length cap] w fun e w' => e = .returned (.bool true) ∧ Below w.heap.size w w' := by
  have hG := hT.g
  have cw : Hid (∀ W, GrpCells W → Calls Tryd.prog 9 #[] W fun e w' => e = .returned (.bool true) ∧ Below W.heap.size W w') := awake_any
  have HR : Hid (Rg w ao cap l) := hR
  have hle := hR.le
  clear hR hT
  obtain ⟨j0, hj, hy0, hy1, hy2⟩ := info_parts Tryd.info2
  obtain ⟨L, hL⟩ : ∃ L, l.length = L := ⟨_, rfl⟩
  have HL : Hid (l.length = L) := hL
  rw [hL] at hF hle ⊢
  clear hL
  go_enter Tryd.func3, Tryd.ntmps3
  go_wp2_with (first | (go_at_call 9; refine (cw.out _ hG).mono ?_; rintro e w2 ⟨rfl, hb2⟩; have hR2 : Hid (Rg w2 ao cap l) := HR.out.below hb2; have hE : (w2.alloc (.cells #[] 2)).ownsRow w2.heap.size 2 1 (.slice (some ⟨w2.heap.size, 0, none⟩) 0 0) 0 [] := (by simpa using World.ownsRow_lit (base := w2.heap.size) (e := 2) (size := 1) w2 #[] 0 (by simp) (by decide) (by simp))) | (at_builtin; refine wpList_append_src _ rfl (.tmp 13) (.tmp 14) 22 rfl w2.heap.size 2 j0 (.int .i64 0) 1 8 Tryd.underlying22 hj hy0 hy1 hy2 rfl (by decide) _ 0 [] rfl hE ao L cap (l.map (Value.int .i64)) rfl (fun hn => by have := hR2.out.nil hn; rw [HL.out] at this; exact this) (by simp [HL.out]) ((hR2.out.below ((Below.refl _ _).alloc (Nat.le_refl _) _)).src) (by intro u hu; simp at hu; obtain ⟨x, _, rfl⟩ := hu; rfl) (by unfold maxLen; omega) (by omega) (by simp) ?_))
  intro v2 w3 hO2 hg2
  have hb3 : Below w2.heap.size w2 w3 := ((Below.refl _ _).alloc (Nat.le_refl _) _).grown hg2 (by simp) (fun k hk => by simp [Value.ownBlock] at hk; omega)
  have hR3 : Hid (Rg w3 ao cap l) := hR2.out.below hb3
  have hs3 := hb3.size
  clear hE hR2 hg2
  go_wp2_with (at_builtin; refine wpList_append_src _ rfl (.tmp 15) (.tmp 16) 22 rfl w2.heap.size 2 j0 (.int .i64 0) 1 8 Tryd.underlying22 hj hy0 hy1 hy2 rfl (by decide) _ L (l.map (Value.int .i64)) rfl (hO2.alloc _) (some ⟨w3.heap.size, 0, none⟩) 2 2 [.int .i64 71, .int .i64 72] rfl (by simp) (by simp) (news2 w3 71 72) (by simp [Value.oneCell']) (by unfold maxLen; omega) (by omega) (by simp; omega) ?_)
  intro v3 w4 hO3 hg3
  have hb4 : Below w2.heap.size w2 w4 := (hb3.alloc hs3 _).grown hg3 (by simp; omega) (fun k hk => (hO2.lt k hk).1)
  have HB4 : Hid (Below w.heap.size w w4) := hb2.trans (hb4.mono hb2.size)
  have hG4 : GrpCells w4 := hG.below HB4.out
  have hR4 : Hid (Rg w4 ao cap l) := HR.out.below HB4.out
  obtain ⟨g, cap3, rfl, hge, hcap3, hm3, hcell⟩ := row_cells hO3 (by omega)
  have HA4 : Hid (Ags w4 (.slice (some ⟨g, 0, none⟩) L cap3) l) := ⟨_, cap3, by rw [HL.out], .inr ⟨g, 0, rfl, fun i x hx => hcell i (.int .i64 x) (by rw [List.getElem?_append_left (by simp; exact (List.getElem?_eq_some_iff.1 hx).1), List.getElem?_map, hx]; rfl)⟩⟩
  have h71 : w4.cell? ⟨g, L, none⟩ = some (.int .i64 71) := by
    have := hcell L (.int .i64 71) (by rw [List.getElem?_append_right (by simp [HL.out])]; simp [HL.out])
    simpa using this
  have h72 : w4.cell? ⟨g, L + 1, none⟩ = some (.int .i64 72) := by
    have := hcell (L + 1) (.int .i64 72) (by rw [List.getElem?_append_right (by simp [HL.out])]; simp [HL.out])
    simpa using this
  have HC : Hid (∀ j x, l[j]? = some x → w4.cell? ⟨g, j, none⟩ = some (.int .i64 x)) := fun j x hx => by
    have := hcell j (.int .i64 x) (by rw [List.getElem?_append_left (by simp; exact (List.getElem?_eq_some_iff.1 hx).1), List.getElem?_map, hx]; rfl)
    simpa using this
  have ca : Hid (Calls Tryd.prog 10 #[.int .i64 op, .slice (some ⟨g, 0, none⟩) L cap3] w4 fun e w' => e = .returned (.tuple #[.int .i64 (apR op l).1, .int .i64 (apR op l).2]) ∧ ∃ m, w' = w4.drewN m) := apply_any op _ l w4 hG4 HA4.out
  have cr : Hid (∀ m, Calls Tryd.prog 11 #[.int .i64 op, .slice ao L cap] (w4.drewN m) fun e w' => e = .returned (.tuple #[.int .i64 (apR op l).1, .int .i64 (apR op l).2]) ∧ ∃ m, w' = w4.drewN m) := fun m => by
    have h := hR4.out.ags
    rw [HL.out] at h
    refine (refApply_any op _ l (w4.drewN m) h hR4.out.num).mono ?_
    rintro e w' ⟨he, k, rfl⟩
    exact ⟨he, m + k, World.drewN_drewN ..⟩
  generalize apR op l = r at *
  obtain ⟨r1, r2⟩ := r
  simp only at ca cr
  clear hcell hO3 hO2 hg3 hb4 hb3 hR3 hG4 HA4 hge hb2 hG
  unfold maxLen at hm3
  go_wp2_with (first | (go_at_call 10; refine ca.out.mono ?_; rintro e w5 ⟨rfl, m5, rfl⟩) | (go_at_call 11; refine (cr.out m5).mono ?_; rintro e w6 ⟨rfl, m6, rfl⟩))
  clear ca cr cw
  go_loopw [10] (fun i wr => ∃ j m : Nat, j ≤ L ∧ i = .int .i64 (j : Int) ∧ wr = w4.drewN m) (fun i _ => L + 1 - iOf i)
  case atStart => exact ⟨0, _, by omega, rfl, rfl⟩
  case round =>
    obtain ⟨j, m, hjL, rfl, rfl⟩ := hrel
    by_cases hlt : j < L
    · obtain ⟨x, hx⟩ : ∃ x, l[j]? = some x := ⟨_, List.getElem?_eq_getElem (by rw [HL.out]; exact hlt)⟩
      have c1 := HC.out j x hx
      obtain ⟨b, o, rfl, c2⟩ : ∃ b o, ao = some ⟨b, o, none⟩ ∧ w4.cell? ⟨b, o + j, none⟩ = some (.int .i64 x) := by
        rcases hR4.out.cells with h | ⟨b, o, h1, _, h3⟩
        · rw [h] at hx; simp at hx
        · exact ⟨b, o, h1, h3 j x hx⟩
      clear hx
      go_wp2_with fail
      go_quiet (fail)
      go_wp2_with fail
      exact ⟨⟨j + 1, _, by omega, by simp, rfl⟩, by simp only [iOf]; omega⟩
    · obtain rfl : j = L := by omega
      go_wp2_with fail
      go_ret
      have h := HB4.out
      exact ⟨rfl, ⟨h.os, h.tape, h.output, h.size, h.block⟩⟩
end Go.Proofs.YteoomihembloaaaDoor
