/-
  ExCopW, ExSameW, ExBegW.
-/
import Derived.Shelf.Unicode.DecodeSlow
import Derived.Laws.RangeAny
import Derived.Shelf.Strconv.Itoa0
import Derived.Shelf.Unicode.DecodeAny
import Derived.Test.YtfdghbbanokopaaDoorProg
import Derived.WalkKit
import Derived.Deep.DeepFit
import Derived.Lib.OthersKept
import Derived.Deep.AppendLies
import Derived.Deep.OwnRows
import Derived.Laws.AppendOwnNone
import Derived.Deep.QuietTactic
import Derived.BigQuiet
import Derived.Deep.RegionWith
import Derived.Test.YtfdghbbanokopaaDoorD01
import Derived.Test.YtfdghbbanokopaaDoorD02
set_option linter.unusedSimpArgs false
set_option linter.unusedVariables false
namespace Go.Proofs.YtfdghbbanokopaaDoor
open Go.RowKit Go.Lib

/-- append of what a slice holds, nil or not. -/
theorem wpList_append_src {P : Program} (w : World) {ops : Array Oper} {rest : List Oper} {o : Oper} {a : Act} {Q : Exit → Act → World → Prop} (hgd : o.guard = none) (s x : Operand) (t : TypeId)
    (ho : o.op = .call { callee := .builtin .append, args := #[s, x], argTypes := #[t, t] })
    (base : Nat) (e : TypeId) (i : TypeInfo) (z : Value) (size bytes : Nat) (ht : P.underlying t = some (.slice e)) (hi : P.info? e = some i) (hz : i.zero = some z)
    (hsize : i.size = size) (hby : i.bytes = bytes) (hzs : z.cells.size = size) (hsz : 0 < size)
    (v : Value) (n : Nat) (xs : List Value) (hs : a.eval s = v) (hown : w.ownsRow base e size v n xs)
    (ao : Option Addr) (m c : Nat) (news : List Value) (hx : a.eval x = .slice ao m c) (hnone : ao = none → m = 0 ∧ c = 0) (hl : news.length = m * size) (hnews : ∀ ad, ao = some ad → ∀ j u, news[j]? = some u → w.cell? (ad.add j) = some u) (h1 : ∀ u ∈ news, u.oneCell' = true)
    (h63 : n + m ≤ maxLen) (hbytes : (n + m) * bytes ≤ 140737488355328) (hbase : base ≤ w.heap.size)
    (h : ∀ v' w', w'.ownsRow base e size v' (n + m) (xs ++ news) → w.grownBy w' v.ownBlock → wpList P ops Q rest (a.put o.dst v') w') : wpList P ops Q (o :: rest) a w := by
  cases ao with
  | none =>
    obtain ⟨rfl, rfl⟩ := hnone rfl
    have hn : news = [] := List.length_eq_zero_iff.1 (by omega)
    subst hn
    exact wpList_append_own_none hgd s x t ho base e i size ht hi v n xs hs hown hx (h v w (by simpa using hown) (World.grownBy.refl _ _))
  | some ad => exact wpList_append_own w hgd s x t ho base e i z size bytes ht hi hz hsize hby hzs hsz v n xs hs hown ad m c news hx hl (hnews ad rfl) h1 h63 hbytes hbase (fun v' w' h2 h3 _ => h v' w' h2 h3)

theorem ownBlock_ne_of {w : World} {base : Nat} {e e' : TypeId} {s n : Nat} {v : Value} {xs : List Value} {k : Nat} {cur : Array Value} {fr : Nat × Nat} (h : w.ownsRow base e s v n xs) (hk : w.heap[k]? = some (.cells cur e' fr)) (hne : e ≠ e') : v.ownBlock ≠ some k := by
  rcases h.2 with ⟨rfl, _⟩ | ⟨g, cap, cur', rfl, _, hg, _⟩
  · simp [Value.ownBlock]
  · intro hh
    simp [Value.ownBlock] at hh
    subst hh
    rw [hk] at hg
    simp at hg
    exact hne hg.2.1.symm

theorem src_cells {w w' : World} {B : Nat} {ka : Option Addr} {ks : List Int} (h : ks = [] ∨ ∃ b o, ka = some ⟨b, o, none⟩ ∧ b < B ∧ ∀ j, j < ks.length → w.cell? ⟨b, o + j, none⟩ = some (.int .i64 (ks.getD j 0))) (hb : Below B w w') :
    ∀ ad, ka = some ad → ∀ j u, (ks.map (Value.int .i64))[j]? = some u → w'.cell? (ad.add j) = some u := by
  intro ad had j u hj
  rcases h with h | ⟨b, o, h, hlt, hc⟩
  · subst h; simp at hj
  · rw [had] at h
    cases h
    have hjl : j < ks.length := by
      have := List.getElem?_eq_some_iff.1 hj
      simpa using this.1
    rw [Go.WideShapes.add_plain, hb.cell (p := ⟨b, o + j, none⟩) hlt, hc j hjl, ← hj]
    simp [hjl]

set_option maxHeartbeats 1000000 in
theorem copy_any (vs : Value) (ns : List Nd) (w : World) (B : Nat) (hBw : B ≤ w.heap.size) (hN : Nodes w B vs ns) (hlen : ns.length * 56 ≤ 140737488355328) (hks : ∀ x ∈ ns, x.kids.length * 8 ≤ 140737488355328) :
    Calls Tryd.prog 9 #[vs] w fun e w' => ∃ v', e = .returned v' ∧ OwnN w' w.heap.size v' ns ∧ Below w.heap.size w w' := by
  have hN := hN.mono hBw
  obtain ⟨ao, cap0, rfl, hl, hm, hc⟩ := hN
  obtain ⟨i0, hi, hz0, hz1, hz2⟩ := info_parts Tryd.infoNode
  obtain ⟨j0, hj, hy0, hy1, hy2⟩ := info_parts Tryd.info3
  unfold maxLen at hm
  have HC : Hid (ns = [] ∨ ∃ b o, ao = some ⟨b, o, none⟩ ∧ b < w.heap.size ∧ ∀ i, i < ns.length → ∃ kv, NodeAt w w.heap.size b (o + i * 4) (ns.getD i nd0) kv) := hc
  clear hc
  go_enter Tryd.func9, Tryd.ntmps9
  go_wp2
  go_loopw [3, 4] (fun x i wr => ∃ k : Nat, k ≤ ns.length ∧ i = .int .i64 k ∧ OwnN wr w.heap.size x (ns.take k) ∧ Below w.heap.size w wr) (fun _ i _ => ns.length - (RowKit.intOf i).toNat)
  case atStart => exact ⟨0, by omega, rfl, OwnN_nil _ _, Below.refl _ _⟩
  case round =>
    obtain ⟨k, hk, rfl, hown, hB⟩ := hrel
    have hsz := hB.size
    by_cases hlt : k < ns.length
    · obtain ⟨b, o, rfl, hbl, hc⟩ : ∃ b o, ao = some ⟨b, o, none⟩ ∧ b < w.heap.size ∧ ∀ i, i < ns.length → ∃ kv, NodeAt w w.heap.size b (o + i * 4) (ns.getD i nd0) kv := by
        rcases HC.out with h | h
        · subst h; simp at hlt
        · exact h
      obtain ⟨kv, hNA⟩ := hc k hlt
      clear hc HC
      have hNA := hNA.below hB (Nat.le_refl _) hbl
      have hzr := hks (ns.getD k nd0) (by simp [hlt])
      have HS : ns.take (k + 1) = ns.take k ++ [ns.getD k nd0] := by rw [List.take_succ_eq_append_getElem hlt]; simp [hlt]
      have hMl : (ns.take k).length = k := by simp; omega
      generalize ns.take k = M at *
      generalize ns.getD k nd0 = x at *
      have HS' : Hid (ns.take (k + 1) = M ++ [x]) := HS
      clear HS hks
      have HML : Hid (M.length = k) := hMl
      clear hMl
      obtain ⟨op, n, nm, kids⟩ := x
      obtain ⟨c0, c1, c2, c3, hki⟩ := hNA
      simp only at c0 c1 c2 c3 hki hzr
      obtain ⟨ka, kc, rfl, hkl, hkm, hkc⟩ := hki
      have HKC : Hid (kids = [] ∨ ∃ b o, ka = some ⟨b, o, none⟩ ∧ b < w.heap.size ∧ ∀ j, j < kids.length → wr.cell? ⟨b, o + j, none⟩ = some (.int .i64 (kids.getD j 0))) := hkc
      clear hkc
      have hb9 : b < wr.heap.size := by omega
      have hb8 : b ≠ wr.heap.size := by omega
      have hkn := hkm.2
      replace hkm := hkm.1
      unfold maxLen at hkm
      obtain ⟨p, hpM, hP⟩ := hown
      have hpl : p.length = M.length := by rw [← hpM]; simp
      have HPL : Hid (p.length = k) := hpl.trans HML.out
      have HPM : Hid (p.map (·.1) = M) := hpM
      clear hpl hpM
      have HKN : Hid (ka = none → kids.length = 0 ∧ kc = 0) := fun h => by have := hkn h; omega
      clear hkn
      have hE : ((wr.alloc (.cells #[.int .i64 op, .int .i64 n, .string nm, .slice ka kids.length kc] 50)).alloc (.cells #[] 3)).ownsRow w.heap.size 3 1 (.slice (some ⟨wr.heap.size + 1, 0, none⟩) 0 0) 0 [] := by
        have h := World.ownsRow_lit (base := w.heap.size) (e := 3) (size := 1) (wr.alloc (.cells #[.int .i64 op, .int .i64 n, .string nm, .slice ka kids.length kc] 50)) #[] 0 (by simp; omega) (by decide) (by simp)
        simpa using h
      have hBq : Below w.heap.size wr ((wr.alloc (.cells #[.int .i64 op, .int .i64 n, .string nm, .slice ka kids.length kc] 50)).alloc (.cells #[] 3)) := ((Below.refl _ _).alloc hsz _).alloc (by simp; omega) _
      go_wp2_with (at_builtin; refine wpList_append_src _ rfl (.tmp 16) (.tmp 18) 48 rfl w.heap.size 3 j0 (.int .i64 0) 1 8 Tryd.underlying48 hj hy0 hy1 hy2 rfl (by decide) _ 0 [] rfl hE ka kids.length kc (kids.map (Value.int .i64)) rfl HKN.out (by simp) (src_cells HKC.out hBq) (ints_oneCell _ _) (by unfold maxLen; omega) (by omega) (by simp; omega) ?_)
      intro v2 w2 hO2 hg2
      obtain ⟨ao2, cap2, rfl⟩ := OwnI.form (ks := kids) hO2
      have zz := hg2.size
      simp at zz
      have hfar : ∀ o, w2.cell? ⟨wr.heap.size, o, none⟩ = ((wr.alloc (.cells #[.int .i64 op, .int .i64 n, .string nm, .slice ka kids.length kc] 50)).alloc (.cells #[] 3)).cell? ⟨wr.heap.size, o, none⟩ := fun o => hg2.cell_far ⟨wr.heap.size, o, none⟩ (by simp; omega) (by simp [Value.ownBlock])
      have d0 : w2.cell? ⟨wr.heap.size, 0, none⟩ = some (.int .i64 op) := by rw [hfar]; simp
      have d1 : w2.cell? ⟨wr.heap.size, 1, none⟩ = some (.int .i64 n) := by rw [hfar]; simp
      have d2 : w2.cell? ⟨wr.heap.size, 2, none⟩ = some (.string nm) := by rw [hfar]; simp
      have d3 : w2.cell? ⟨wr.heap.size, 3, none⟩ = some (.slice ka kids.length kc) := by rw [hfar]; simp
      have f3 : w2.frozen? ⟨wr.heap.size, 3, none⟩ = false := by rw [hg2.frozen_far ⟨wr.heap.size, 3, none⟩ (by simp; omega) (by simp [Value.ownBlock])]; simp
      have hBw2 : Below wr.heap.size wr w2 := (((Below.refl _ _).alloc (Nat.le_refl _) _).alloc (by simp) _).grown hg2 (by simp; omega) (fun k hk => by simp [Value.ownBlock] at hk; omega)
      have hBw3 : Below wr.heap.size wr (w2.setCell ⟨wr.heap.size, 3, none⟩ (.slice ao2 kids.length cap2)) := hBw2.setCell (Nat.le_refl _) _
      have hP3 := hP.below hBw3
      have hne2 : (Value.slice ao2 kids.length cap2).ownBlock ≠ some wr.heap.size := ownBlock_ne_of hO2 (cur := #[.int .i64 op, .int .i64 n, .string nm, .slice ka kids.length kc]) (e' := 50) (fr := (0, 0)) (by
        rw [hg2.block wr.heap.size (by simp; omega) (by simp [Value.ownBlock])]
        rw [Deep.blk_alloc_lt _ _ _ (by simp), Deep.blk_alloc_new]) (by decide)
      have hO3 : OwnI (w2.setCell ⟨wr.heap.size, 3, none⟩ (.slice ao2 kids.length cap2)) w.heap.size (.slice ao2 kids.length cap2) kids := ownsRow_setCell_other hO2 hne2 _
      clear c0 c1 c2 c3 hO2 hg2 hBw2 hfar hE hBq HKC HKN
      go_wp2_with (at_builtin; refine wpList_append_lies _ rfl (.tmp 21) (.tmp 23) 22 rfl w.heap.size 50 i0 (.agg #[.int .i64 0, .int .i64 0, .string ⟨#[]⟩, .slice none 0 0]) 4 56 Tryd.underlying22 hi hz0 hz1 hz2 rfl (by decide) _ _ _ rfl (hP3.row.alloc _) ⟨w2.heap.size, 0, none⟩ 1 1 [.int .i64 op, .int .i64 n, .string nm, .slice ao2 kids.length cap2] rfl rfl (cell_news4 _ _ _ _ _ _ _ (by simp)) (by simp [Value.oneCell']) (by omega) (by have := HPL.out; unfold maxLen; omega) (by have := HPL.out; omega) (by simp; omega) _ rfl ?_; intro g cap w1 hown1 hg1 hat hl1)
      refine ⟨⟨k + 1, by omega, by go_num, ?_, ?_⟩, by simp [RowKit.intOf]; omega⟩
      · rw [HS'.out]
        have hA := (hP3.below ((Below.refl _ _).alloc (Nat.le_refl _) (.cells #[.int .i64 op, .int .i64 n, .string nm, .slice ao2 kids.length cap2] 50)))
        exact ⟨p ++ [(⟨op, n, nm, kids⟩, .slice ao2 kids.length cap2)], by simp [HPM.out], hA.snoc (x := ⟨op, n, nm, kids⟩) (hO3.below ((Below.refl _ _).alloc (Nat.le_refl _) _)) hown1 hg1⟩
      · exact ((hB.trans (hBw3.mono (by omega))).alloc (by simp; omega) _).grown hg1 (by simp; omega) (fun k hk => (hP3.row.lt k hk).1)
    · have hke : k = ns.length := by omega
      subst hke
      go_wp2
      go_ret
      rw [List.take_length] at hown
      exact ⟨_, rfl, hown, hB⟩
end Go.Proofs.YtfdghbbanokopaaDoor

set_option linter.unusedSimpArgs false
set_option linter.unusedVariables false
namespace Go.Proofs.YtfdghbbanokopaaDoor
open Go.RowKit Go.Lib

theorem Ints.drewN {w : World} {B : Nat} {v : Value} {ks : List Int} (h : Ints w B v ks) (n : Nat) : Ints (w.drewN n) B v ks := h

end Go.Proofs.YtfdghbbanokopaaDoor

set_option linter.unusedSimpArgs false
set_option linter.unusedVariables false
namespace Go.Proofs.YtfdghbbanokopaaDoor
open Go.RowKit Go.Lib

theorem rowIs_below {w w' : World} {b : Nat} {t : TypeId} {n : Nat} {f : Nat → Value} (h : w.rowIs b t n f) (hb : Below w.heap.size w w') : w'.rowIs b t n f := by
  have hlt := h.lt
  unfold World.rowIs at h ⊢
  rw [hb.block b hlt]; exact h

theorem begR_take_succ {l : List Nd} {k : Nat} {fr : List Nat} (hlt : k < l.length) (h : begR [] (l.take k) = some fr) : begR [] (l.take (k + 1)) = stp fr (l.getD k nd0) := by
  rw [List.take_succ_eq_append_getElem hlt, begR_snoc, h]; simp [hlt]

theorem begL_none_of {l : List Nd} {k : Nat} {fr : List Nat} (hlt : k < l.length) (h : begR [] (l.take k) = some fr) (hs : stp fr (l.getD k nd0) = none) : begL l = none := by
  unfold begL
  split
  · rfl
  · rw [begR_take_none (i := k + 1) (by rw [begR_take_succ hlt h, hs])]; rfl

theorem node_kid {wr w2 : World} {a b c d : Value} {t : TypeId} (h : Below (wr.alloc (.cells #[a, b, c, d] t)).heap.size (wr.alloc (.cells #[a, b, c, d] t)) w2) : w2.cell? ⟨wr.heap.size, 3, none⟩ = some d := by
  rw [h.cell (p := ⟨wr.heap.size, 3, none⟩) (by simp)]; simp

def BegPost (w : World) (l : List Nd) (e : Ending) (w' : World) : Prop :=
  Below w.heap.size w w' ∧ ((begL l = none ∧ e = .returned (.slice none 0 0)) ∨ ∃ fr, begL l = some fr ∧ ∃ g, e = .returned (.slice (some ⟨g, 0, none⟩) l.length l.length) ∧ w.heap.size ≤ g ∧ g < w'.heap.size ∧ ∀ j, j < l.length → w'.cell? ⟨g, j, none⟩ = some (.int .i64 (fr.getD j 0 : Nat)))

set_option maxHeartbeats 2000000 in
theorem begins_any (vs : Value) (l : List Nd) (w : World) (B : Nat) (hBw : B ≤ w.heap.size) (hT : SpanCells w) (hN : Nodes w B vs l) :
    Calls Tryd.prog 40 #[vs] w fun e w' => BegPost w l e w' := by
  obtain ⟨ao, cap0, rfl, hl, hm, hc⟩ := hN
  unfold maxLen at hm
  by_cases h0 : l.length = 0
  · have hb : Hid (begL l = none) := by show begL l = none; unfold begL; simp [h0]
    have hz : l = [] := List.length_eq_zero_iff.1 h0
    subst hz
    go_enter Tryd.func40, Tryd.ntmps40
    go_wp2
    go_ret
    exact ⟨Below.refl _ _, .inl ⟨hb.out, rfl⟩⟩
  by_cases h64 : 64 < l.length
  · have hb : Hid (begL l = none) := by show begL l = none; unfold begL; simp [h64]
    have g1 : ((l.length : Int) == 0) = false := by rw [beq_eq_false_iff_ne]; omega
    have g2 : (64 : Int) < (l.length : Int) := by omega
    go_enter Tryd.func40, Tryd.ntmps40
    go_wp2
    go_ret
    exact ⟨Below.refl _ _, .inl ⟨hb.out, rfl⟩⟩
  obtain ⟨b, o, rfl, hbl, hc'⟩ : ∃ b o, ao = some ⟨b, o, none⟩ ∧ b < B ∧ ∀ i, i < l.length → ∃ kv, NodeAt w B b (o + i * 4) (l.getD i nd0) kv := by
    rcases hc with h | h
    · subst h; simp at h0
    · exact h
  have HC : Hid (∀ i, i < l.length → ∃ kv, NodeAt w B b (o + i * 4) (l.getD i nd0) kv) := hc'
  clear hc hc'
  have g1 : ((l.length : Int) == 0) = false := by rw [beq_eq_false_iff_ne]; omega
  have g2 : ¬ (64 : Int) < (l.length : Int) := by omega
  have hmk := run_make_row' (P := Tryd.prog) 48 3 (.int .i64 0) 8 Tryd.underlying48 Tryd.info3 rfl .i64 .i64 l.length (by omega) (by omega)
  have HT : Hid (SpanCells w) := hT
  clear hT
  go_enter Tryd.func40, Tryd.ntmps40
  go_wp2
  go_loopw [21] (fun i wr => ∃ (k : Nat) (fr : List Nat), k ≤ l.length ∧ i = .int .i64 k ∧ Hid (begR [] (l.take k) = some fr) ∧ wr.rowIs w.heap.size 3 l.length (fun j => .int .i64 (fr.getD j 0 : Nat)) ∧ Below w.heap.size w wr) (fun i _ => l.length - (RowKit.intOf i).toNat)
  case atStart => exact ⟨0, [], by omega, rfl, rfl, World.rowIs_made _ _ _ _, (Below.refl _ _).alloc (Nat.le_refl _) _⟩
  case round =>
    obtain ⟨k, fr, hk, rfl, hbr, hrow, hB⟩ := hrel
    have hsz := hB.size
    have hgl := hrow.lt
    clear hmk
    by_cases hlt : k < l.length
    · obtain ⟨kv, hNA⟩ := HC.out k hlt
      have hNA := hNA.below (hB.mono hBw) (Nat.le_refl _) hbl
      have HS : Hid (stp fr (l.getD k nd0) = none → begL l = none) := begL_none_of hlt hbr.out
      have HS2 : Hid (begR [] (l.take (k + 1)) = stp fr (l.getD k nd0)) := begR_take_succ hlt hbr.out
      have hfl : fr.length = k := by have := begR_len hbr.out; simp at this; omega
      have hlow := (begR_some hbr.out low_nil).2.1
      generalize l.getD k nd0 = x at *
      obtain ⟨op, n, nm, kids⟩ := x
      obtain ⟨c0, c1, c2, c3, hki⟩ := hNA
      simp only at c0 c1 c2 c3 hki
      obtain ⟨ka, kc, rfl, hkl, ⟨hkm, _⟩, hkc⟩ := hki
      unfold maxLen at hkm
      have HKC : Hid (kids = [] ∨ ∃ b o, ka = some ⟨b, o, none⟩ ∧ b < B ∧ ∀ j, j < kids.length → wr.cell? ⟨b, o + j, none⟩ = some (.int .i64 (kids.getD j 0))) := hkc
      clear hkc
      have hb9 : b < wr.heap.size := by omega
      have hb8 : b ≠ wr.heap.size := by omega
      have hTr : SpanCells (wr.alloc (.cells #[.int .i64 op, .int .i64 n, .string nm, .slice ka kids.length kc] 50)) := HT.out.below (hB.alloc hsz _)
      have HFL : Hid (fr.length = k) := hfl
      clear hfl
      cases hf : fitB op n nm kids.length
      · have hnone : Hid (begL l = none) := HS.out (by simp [stp, formB, hf])
        go_wp2_with (go_at_call 66; refine (fits_any _ _ _ _ _ hTr).mono ?_; rintro e w2 ⟨rfl, hb2⟩)
        go_ret
        exact ⟨(hB.alloc hsz _).trans (hb2.mono (by simp; omega)), .inl ⟨hnone.out, rfl⟩⟩
      · have HF : Hid (stp fr ⟨op, n, nm, kids⟩ = (chainL fr kids.reverse k).map (fun a => fr ++ [a])) := by show stp fr ⟨op, n, nm, kids⟩ = _; simp [stp, formB, hf, HFL.out]
        go_wp2_with (go_at_call 66; refine (fits_any _ _ _ _ _ hTr).mono ?_; rintro e w2 ⟨rfl, hb2⟩; rw [hf]; have d3 : w2.cell? ⟨wr.heap.size, 3, none⟩ = some (.slice ka kids.length kc) := node_kid hb2)
        have hz2 : wr.heap.size + 1 ≤ w2.heap.size := by have := hb2.size; simpa using this
        have hrow2 := rowIs_below (hrow.alloc _) hb2
        have hBw2 : Below wr.heap.size wr w2 := ((Below.refl _ _).alloc (Nat.le_refl _) _).trans (hb2.mono (by simp))
        have HB2 : Hid (Below w.heap.size w w2) := hB.trans (hBw2.mono hsz)
        have HKC2 : Hid (kids = [] ∨ ∃ b o, ka = some ⟨b, o, none⟩ ∧ ∀ j, j < kids.length → w2.cell? ⟨b, o + j, none⟩ = some (.int .i64 (kids.getD j 0))) := by
          rcases HKC.out with h | ⟨b, o, h1, h2, h3⟩
          · exact .inl h
          · exact .inr ⟨b, o, h1, fun j hj => (hBw2.cell (p := ⟨b, o + j, none⟩) (by show b < wr.heap.size; omega)).trans (h3 j hj)⟩
        have HL : Hid (Low fr) := hlow
        have HR2 : Hid (w2.rowIs w.heap.size 3 l.length fun j => .int .i64 (fr.getD j 0 : Nat)) := hrow2
        clear hb2 hrow hrow2 hB hBw2 HKC hTr hf hlow c0 c1 c2 c3
        go_loop [6, 7] (fun a q => ∃ (c m : Nat) (z : Int), a = .int .i64 c ∧ q = .int .i64 z ∧ Hid (z = (m : Int) - 1) ∧ c ≤ k ∧ m ≤ kids.length ∧ Hid (chainL fr (kids.take m).reverse c = chainL fr kids.reverse k)) (fun _ q => (RowKit.intOf q + 1).toNat)
        case atStart => exact ⟨k, kids.length, _, rfl, rfl, rfl, Nat.le_refl _, Nat.le_refl _, by rw [List.take_length]; rfl⟩
        case round =>
          obtain ⟨c, m, z, rfl, rfl, hz, hck, hmk, hch⟩ := hrel
          cases m with
          | zero =>
            have hz1 : z = -1 := by have := hz.out; omega
            subst hz1
            have hcc : chainL fr kids.reverse k = some c := by rw [← hch.out]; simp [chainL]
            have HCC : Hid (stp fr ⟨op, n, nm, kids⟩ = some (fr ++ [c])) := by show stp fr ⟨op, n, nm, kids⟩ = _; rw [HF.out, hcc]; rfl
            clear hcc
            have f0 := HR2.out.frozen k
            have e0 := HR2.out.cell hlt
            have hgl2 : w.heap.size < w2.heap.size := by omega
            go_wp2
            refine ⟨⟨k + 1, fr ++ [c], by omega, by go_num, ?_, ?_, HB2.out.setCell (Nat.le_refl _) _⟩, by simp [RowKit.intOf]; omega⟩
            · show begR [] (l.take (k + 1)) = some (fr ++ [c])
              rw [HS2.out, HCC.out]
            · exact (HR2.out.set k _).congr (fun j hj => by
                show (if j = k then Value.int .i64 (c : Nat) else .int .i64 (fr.getD j 0 : Nat)) = .int .i64 ((fr ++ [c]).getD j 0 : Nat)
                rw [getD_snoc, HFL.out]
                by_cases hjk : j < k
                · rw [if_neg (by omega), if_pos hjk]
                · by_cases hje : j = k
                  · rw [if_pos hje, if_neg hjk, if_pos hje]
                  · rw [if_neg hje, if_neg hjk, if_neg hje]
                    have : fr.getD j 0 = 0 := by rw [List.getD_eq_getElem?_getD, List.getElem?_eq_none (by rw [HFL.out]; omega)]; rfl
                    rw [this])
          | succ m =>
            have hz1 : z = (m : Int) := by have := hz.out; omega
            subst hz1
            have hmlt : m < kids.length := by omega
            obtain ⟨kb, ko, rfl, hkc⟩ : ∃ b o, ka = some ⟨b, o, none⟩ ∧ ∀ j, j < kids.length → w2.cell? ⟨b, o + j, none⟩ = some (.int .i64 (kids.getD j 0)) := by
              rcases HKC2.out with h | h
              · subst h; simp at hmlt
              · exact h
            have hcm := hkc m hmlt
            clear hkc HKC2
            have hch2 : chainL fr (kids.take (m + 1)).reverse c = if c = 0 ∨ kids.getD m 0 ≠ (c : Int) - 1 then none else chainL fr (kids.take m).reverse (fr.getD (c - 1) 0) := by
              rw [List.take_succ_eq_append_getElem hmlt, List.reverse_append]
              simp [chainL, hmlt]
            generalize kids.getD m 0 = y at *
            have HCH : Hid (chainL fr kids.reverse k = if c = 0 ∨ y ≠ (c : Int) - 1 then none else chainL fr (kids.take m).reverse (fr.getD (c - 1) 0)) := by show chainL fr kids.reverse k = _; rw [← hch.out, hch2]
            clear hch hch2 hz
            by_cases hc0 : c = 0
            · subst hc0
              have hnone : Hid (begL l = none) := HS.out (by rw [HF.out, HCH.out]; simp)
              go_wp2
              go_ret
              exact ⟨HB2.out, .inl ⟨hnone.out, rfl⟩⟩
            · obtain ⟨c, rfl⟩ : ∃ d, c = d + 1 := ⟨c - 1, by omega⟩
              by_cases hy : y = (c : Int)
              · subst hy
                have e0 := HR2.out.cell (i := c) (by omega)
                have hle := HL.out c
                go_wp2
                refine ⟨⟨fr.getD c 0, m, _, rfl, rfl, rfl, by omega, by omega, ?_⟩, by simp [RowKit.intOf]⟩
                show chainL fr (kids.take m).reverse (fr.getD c 0) = chainL fr kids.reverse k
                rw [HCH.out, if_neg (by omega)]; rfl
              · have hnone : Hid (begL l = none) := HS.out (by rw [HF.out, HCH.out, if_pos (.inr (by omega)), Option.map_none])
                have hy2 : (y != (c : Int)) = true := by rw [bne_iff_ne]; exact hy
                go_wp2
                go_ret
                exact ⟨HB2.out, .inl ⟨hnone.out, rfl⟩⟩
    · have hke : k = l.length := by omega
      subst hke
      have hbr' : begR [] l = some fr := by have := hbr.out; rw [List.take_length] at this; exact this
      have HBR : Hid (begR [] l = some fr) := hbr'
      clear hbr hbr'
      have e0 := hrow.cell (i := l.length - 1) (by omega)
      have HR : Hid (wr.rowIs w.heap.size 3 l.length fun j => .int .i64 (fr.getD j 0 : Nat)) := hrow
      clear hrow
      by_cases hz : fr.getD (l.length - 1) 0 = 0
      · have hs : Hid (begL l = some fr) := begL_mk (by omega) (by omega) HBR.out hz
        simp only [hz] at e0
        clear hz
        go_wp2
        go_ret
        exact ⟨hB, .inr ⟨fr, hs.out, w.heap.size, rfl, Nat.le_refl _, hgl, fun j hj => HR.out.cell hj⟩⟩
      · have hs : Hid (begL l = none) := by
          show begL l = none
          unfold begL
          rw [if_neg (by omega), HBR.out, Option.bind_some, if_neg hz]
        generalize fr.getD (l.length - 1) 0 = y at e0 hz
        have hy : ((y : Int) != 0) = true := by rw [bne_iff_ne]; omega
        go_wp2
        go_ret
        exact ⟨hB, .inl ⟨hs.out, rfl⟩⟩

theorem begins_none (vs : Value) (l : List Nd) (w : World) (B : Nat) (hBw : B ≤ w.heap.size) (hT : SpanCells w) (hN : Nodes w B vs l) (h : begL l = none) :
    Calls Tryd.prog 40 #[vs] w fun e w' => e = .returned (.slice none 0 0) ∧ Below w.heap.size w w' := by
  refine (begins_any vs l w B hBw hT hN).mono ?_
  rintro e w' ⟨hb, ⟨_, he⟩ | ⟨fr, hf, _⟩⟩
  · exact ⟨he, hb⟩
  · rw [h] at hf; cases hf
theorem begins_some (vs : Value) (l : List Nd) (fr : List Nat) (w : World) (B : Nat) (hBw : B ≤ w.heap.size) (hT : SpanCells w) (hN : Nodes w B vs l) (h : begL l = some fr) :
    Calls Tryd.prog 40 #[vs] w fun e w' => ∃ g, e = .returned (.slice (some ⟨g, 0, none⟩) l.length l.length) ∧ w.heap.size ≤ g ∧ g < w'.heap.size ∧ (∀ j, j < l.length → w'.cell? ⟨g, j, none⟩ = some (.int .i64 (fr.getD j 0 : Nat))) ∧ Below w.heap.size w w' := by
  refine (begins_any vs l w B hBw hT hN).mono ?_
  rintro e w' ⟨hb, ⟨hf, _⟩ | ⟨fr', hf, g, he, h1, h2, h3⟩⟩
  · rw [h] at hf; cases hf
  · rw [h] at hf; cases hf
    exact ⟨g, he, h1, h2, h3, hb⟩

theorem eql_nil (ao : Option Addr) (n c : Nat) (w : World) : (binOp .eql 48 (.slice ao n c) (.slice none 0 0)).run Tryd.prog w = .ok (.bool ao.isNone) w := by
  cases ao <;> kernel_rfl

set_option maxHeartbeats 400000 in
theorem check_none (vs : Value) (l : List Nd) (w : World) (B : Nat) (hBw : B ≤ w.heap.size) (hT : SpanCells w) (hN : Nodes w B vs l) (h : begL l = none) :
    Calls Tryd.prog 8 #[vs] w fun e w' => e = .returned (.int .i64 1) ∧ Below w.heap.size w w' := by
  have HS : Hid (begL l = none) := h
  clear h
  have hnil := eql_nil
  go_enter Tryd.func8, Tryd.ntmps8
  go_wp2_with (go_at_call 40; refine (begins_none vs l _ B hBw hT hN HS.out).mono ?_; rintro e w2 ⟨rfl, hb2⟩)
  go_ret
  exact ⟨rfl, hb2⟩
set_option maxHeartbeats 400000 in
theorem check_some (vs : Value) (l : List Nd) (fr : List Nat) (w : World) (B : Nat) (hBw : B ≤ w.heap.size) (hT : SpanCells w) (hN : Nodes w B vs l) (h : begL l = some fr) :
    Calls Tryd.prog 8 #[vs] w fun e w' => e = .returned (.int .i64 0) ∧ Below w.heap.size w w' := by
  have HS : Hid (begL l = some fr) := h
  clear h
  have hnil := eql_nil
  go_enter Tryd.func8, Tryd.ntmps8
  go_wp2_with (go_at_call 40; refine (begins_some vs l fr _ B hBw hT hN HS.out).mono ?_; rintro e w2 ⟨g, rfl, hg1, hg2, hg3, hb2⟩)
  go_ret
  exact ⟨rfl, hb2⟩
theorem check_any (vs : Value) (l : List Nd) (w : World) (B : Nat) (hBw : B ≤ w.heap.size) (hT : SpanCells w) (hN : Nodes w B vs l) :
    Calls Tryd.prog 8 #[vs] w fun e w' => e = .returned (.int .i64 (if sndB l = true then 0 else 1)) ∧ Below w.heap.size w w' := by
  cases hs : begL l with
  | none =>
    have hv : (if sndB l = true then (0 : Int) else 1) = 1 := by simp [sndB, hs]
    rw [hv]; exact check_none vs l w B hBw hT hN hs
  | some fr =>
    have hv : (if sndB l = true then (0 : Int) else 1) = 0 := by simp [sndB, hs]
    rw [hv]; exact check_some vs l fr w B hBw hT hN hs
end Go.Proofs.YtfdghbbanokopaaDoor
