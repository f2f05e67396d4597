/-
  What Swap answers, handed that function.
-/
import Derived.Test.YtfhfokceeidhcaaDoorSwAskW
set_option linter.unusedSimpArgs false
set_option linter.unusedVariables false
namespace Go.Proofs.YtfhfokceeidhcaaDoor
open Go.RowKit Go.Lib

def askF (A Sb Nb : Nat) : Value := .func (.func 47) #[] #[.pointer (some ⟨A, 0, none⟩), .pointer (some ⟨Sb, 0, none⟩), .pointer (some ⟨Nb, 0, none⟩)]
theorem eqlF (A Sb Nb : Nat) (w : World) : (binOp .eql 58 (askF A Sb Nb) .nilFunc).run Tryd.prog w = .ok (.bool false) w := by kernel_rfl
theorem eqlN (w : World) : (binOp .eql 58 .nilFunc .nilFunc).run Tryd.prog w = .ok (.bool true) w := by kernel_rfl

def SwapP (w : World) (A : Nat) (l : List Nd) (names : List ByteArray) (stop : Int) (e : Ending) (w' : World) : Prop :=
  ∃ va' k, k ≤ l.length ∧ AskAt w' A va' (vsL (l.take k)) ∧ (Below A w w' ∧ (∀ b, b < w.heap.size → b ≠ A → w'.heap[b]? = w.heap[b]?) ∧ (∀ b, va'.ownBlock = some b → w.heap.size ≤ b)) ∧
   ((k = l.length ∧ (∀ j, j < k → FineAt l names stop j) ∧ ∃ ao cap, e = .returned (.tuple #[.slice ao l.length cap, .int .i64 0]) ∧ Rd w' ao cap (swL l names l.length)) ∨
    (∃ j, k = j + 1 ∧ (l.getD j nd0).op = 2 ∧ (∀ i, i < j → FineAt l names stop i) ∧ ((cntV l j + 1 : Nat) : Int) ≠ stop ∧ nameB (ansS names (cntV l j + 1) (l.getD j nd0).name) = false ∧ e = .returned (.tuple #[.slice none 0 0, .int .i64 7])) ∨
    (∃ j, k = j + 1 ∧ (l.getD j nd0).op = 2 ∧ (∀ i, i < j → FineAt l names stop i) ∧ ((cntV l j + 1 : Nat) : Int) = stop ∧ e = .panicked [{ v := stopV stop, recovered := false }]))

/-- In the loop over the copy. -/
structure SMid (w : World) (A B : Nat) (l : List Nd) (names : List ByteArray) (stop : Int) (vo : Value) (k : Nat) (va : Value) (p : List (Nd × Value)) (wr : World) : Prop where
  ask : AskAt wr A va (vsL (l.take k))
  own : OwnP wr B vo p
  nodes : p.map (·.1) = swL l names k
  fine : ∀ j, j < k → FineAt l names stop j
  below : Below A w wr
  keep : ∀ b, b < w.heap.size → b ≠ A → wr.heap[b]? = w.heap[b]?
  yg : ∀ b, va.ownBlock = some b → w.heap.size ≤ b
  AB : A < B

theorem ownP_frA {w w' : World} {A B : Nat} {va va' vo : Value} {qs : List ByteArray} {p : List (Nd × Value)} (h : OwnP w B vo p) (F : FrA w w' A va va') (ha : AskAt w A va qs) (hAB : A < B) : OwnP w' B vo p := by
  refine ⟨own_same' h.row fun b hb => F.same b (own_block' h.row b hb).2 (by have := (own_block' h.row b hb).1; omega) (fun e => ?_), fun q hq => own_same' (h.kids q hq) fun b hb => F.same b (own_block' (h.kids q hq) b hb).2 (by have := (own_block' (h.kids q hq) b hb).1; omega) (fun e => ?_)⟩
  · rcases ownBlock_ne h.row ha.row (by decide) with h1 | h1
    · rw [h1] at hb; cases hb
    · exact h1 (hb.trans e.symm)
  · rcases ownBlock_ne (h.kids q hq) ha.row (by decide) with h1 | h1
    · rw [h1] at hb; cases hb
    · exact h1 (hb.trans e.symm)

/-- A name is put at its place. -/
theorem ownP_put {w : World} {B g cap k : Nat} {p : List (Nd × Value)} {x : Nd} {kv : Value} {s : ByteArray} (h : OwnP w B (.slice (some ⟨g, 0, none⟩) p.length cap) p) (hk : p[k]? = some (x, kv)) : OwnP (w.setCell ⟨g, k * 4 + 2, none⟩ (.string s)) B (.slice (some ⟨g, 0, none⟩) p.length cap) (p.set k ({ x with name := s }, kv)) := by
  have hlt : k < p.length := by
    by_cases h : k < p.length
    · exact h
    · rw [List.getElem?_eq_none (by omega)] at hk; cases hk
  have hne : ∀ q ∈ p, q.2.ownBlock ≠ some g := fun q hq e => by
    rcases ownBlock_ne (h.kids q hq) h.row (by decide) with h1 | h1
    · rw [h1] at e; cases e
    · exact h1 e
  refine ⟨?_, fun q hq => ?_⟩
  · rw [ndCells_set p k x kv s hk, List.length_set]
    exact own_put h.row (by rw [ndCells_length]; omega)
  · rcases List.mem_or_eq_of_mem_set hq with h1 | h1
    · exact own_set' (h.kids q h1) (hne q h1)
    · subst h1
      have hm : (x, kv) ∈ p := List.mem_of_getElem? hk
      have h2 := own_set' (p := g) (o := k * 4 + 2) (u := .string s) (h.kids (x, kv) hm) (hne (x, kv) hm)
      exact h2

theorem snd_kids1 {l : List Nd} {fr : List Nat} (h : begL l = some fr) : ∀ x ∈ l, x.kids.length * 8 ≤ 140737488351232 ∧ ∀ k ∈ x.kids, -9000 ≤ k ∧ k ≤ 9000 := by
  intro x hx
  obtain ⟨h1, h2⟩ := snd_bounds h
  refine ⟨by have := h2 x hx; omega, fun k hk => ?_⟩
  have := begR_kids (begL_some h).2.2.1 low_nil x hx k hk
  simp at this
  omega

set_option maxRecDepth 20000 in
set_option maxHeartbeats 2000000 in
theorem swap_none (w : World) (ao : Option Addr) (cap : Nat) (l : List Nd) (vf : Value) (T : SpanCells w) (hR : Rd w ao cap l) (h : begL l = none) :
    Calls Tryd.prog 24 #[.slice ao l.length cap, vf] w fun e w' => e = .returned (.tuple #[.slice none 0 0, .int .i64 1]) ∧ Below w.heap.size w w' := by
  have HS : Hid (begL l = none) := h
  clear h
  go_enter Tryd.func24, Tryd.ntmps24
  go_wp2_with fail
  refine (check_none _ l _ _ (Nat.le_refl _) T hR HS.out).mono ?_
  rintro e w2 ⟨rfl, hb2⟩
  go_wp2_with fail
  go_ret2
  exact ⟨rfl, hb2⟩

set_option maxRecDepth 20000 in
set_option maxHeartbeats 2000000 in
theorem swap_nil (w : World) (ao : Option Addr) (cap : Nat) (l : List Nd) (fr : List Nat) (T : SpanCells w) (hR : Rd w ao cap l) (h : begL l = some fr) :
    Calls Tryd.prog 24 #[.slice ao l.length cap, .nilFunc] w fun e w' => e = .returned (.tuple #[.slice none 0 0, .int .i64 2]) ∧ Below w.heap.size w w' := by
  have HS : Hid (begL l = some fr) := h
  clear h
  have h1 := eqlN
  go_enter Tryd.func24, Tryd.ntmps24
  go_wp2_with fail
  refine (check_some _ l fr _ _ (Nat.le_refl _) T hR HS.out).mono ?_
  rintro e w2 ⟨rfl, hb2⟩
  go_wp2_with fail
  go_ret2
  exact ⟨rfl, hb2⟩

set_option maxRecDepth 20000 in
set_option maxHeartbeats 4000000 in
theorem swap_some (w0 w : World) (A Sb Nb : Nat) (va : Value) (names : List ByteArray) (stop : Int) (na : Option Addr) (nc : Nat) (ao : Option Addr) (cap : Nat) (l : List Nd) (fr : List Nat) (T0 : SpanCells w0) (hw0 : Below w0.heap.size w0 w) (hA0 : w0.heap.size ≤ A) (hA : AskAt w A va []) (hyg : ∀ b, va.ownBlock = some b → w.heap.size ≤ b) (hC : Cst w A Sb Nb stop na nc names) (hR : Rd w ao cap l) (h : begL l = some fr) :
    Calls Tryd.prog 24 #[.slice ao l.length cap, askF A Sb Nb] w (SwapP w A l names stop) := by
  have HS : Hid (begL l = some fr) := h
  have h64 := (begL_some h).2.1
  have hl0 := (begL_some h).1
  have HK : Hid (∀ x ∈ l, x.kids.length * 8 ≤ 140737488351232 ∧ ∀ k ∈ x.kids, -9000 ≤ k ∧ k ≤ 9000) := snd_kids1 h
  have HT : Hid (∀ V, Below A w V → SpanCells V) := fun V hV => T0.below (hw0.trans (hV.mono hA0))
  have HC : Hid (Cst w A Sb Nb stop na nc names) := hC
  have HA : Hid (AskAt w A va []) := hA
  have HYG : Hid (∀ b, va.ownBlock = some b → w.heap.size ≤ b) := hyg
  have hAw := lt_of_block hA.blk
  clear h T0 hw0 hA0 hC hA hyg
  have h1 := eqlF A Sb Nb
  unfold askF at h1 ⊢
  go_enter Tryd.func24, Tryd.ntmps24
  go_wp2_with fail
  refine (check_some _ l fr _ _ (Nat.le_refl _) (HT.out _ (Below.refl _ _)) hR HS.out).mono ?_
  rintro e w1 ⟨rfl, hb1⟩
  have hR1 := hR.below hb1 hb1.size
  have hs1 := hb1.size
  have HB1 : Hid (Below w.heap.size w w1) := hb1
  clear hb1 hR
  go_wp2_with fail
  refine (add_p (.slice none 0 0) _ [] l 0 0 w1 w1.heap.size (Nat.le_refl _) ⟨World.ownsRow_nil _ _ _ _, by simp⟩ hR1 (by simp; omega) HK.out (by omega) (by omega)).mono ?_
  rintro e w2 ⟨vo, p0, rfl, hO2, hm2, hj1, hg2, hj2, hb2⟩
  have hb02 : Below w.heap.size w w2 := HB1.out.trans (hb2.mono hs1)
  have HM0 : Hid (SMid w A w1.heap.size l names stop vo 0 va p0 w2) := by
    refine ⟨?_, by simpa using hO2, ?_, fun j hj => by omega, hb02.mono (by omega), fun b hb _ => hb02.block b hb, HYG.out, by omega⟩
    · have := HA.out.below hb02
      simpa [vsL] using this
    · rw [hm2, map_mvN_zero, swL_zero]
  have hp0 : p0.length = l.length := by have := congrArg List.length hm2; simpa using this
  obtain ⟨g, ocap, hvo, hgB⟩ : ∃ g ocap, vo = .slice (some ⟨g, 0, none⟩) l.length ocap ∧ w1.heap.size ≤ g := by
    rcases hO2.row.2 with ⟨rfl, h0⟩ | ⟨g, c, cur, rfl, hb, _⟩
    · simp at h0; subst h0; simp at hp0; omega
    · exact ⟨g, c, by simp [hp0], hb⟩
  subst hvo
  have hwB : w.heap.size ≤ w1.heap.size := hs1
  generalize w1.heap.size = B at *
  clear hj1 hj2 hO2 hm2 hg2 hb2 hb02 HB1 hR1 HK HA hs1 HYG w1
  go_wp2_with fail
  go_loopw [19] (fun i wr => ∃ (k : Nat) (va : Value) (p : List (Nd × Value)), k ≤ l.length ∧ i = .int .i64 k ∧ SMid w A B l names stop (.slice (some ⟨g, 0, none⟩) l.length ocap) k va p wr) (fun i _ => l.length - (RowKit.intOf i).toNat)
  case atStart => exact ⟨0, va, p0, by omega, rfl, HM0.out⟩
  case round =>
    obtain ⟨k, va, p, hk, rfl, hS⟩ := hrel
    clear HM0
    have HSM : Hid (SMid w A B l names stop (.slice (some ⟨g, 0, none⟩) l.length ocap) k va p wr) := hS
    have hpl : p.length = l.length := by have := congrArg List.length hS.nodes; rw [swL_len] at this; simpa using this
    by_cases hlt : k < l.length
    · obtain ⟨x, hx⟩ : ∃ x, l.getD k nd0 = x := ⟨_, rfl⟩
      have hN := Nodes_of_ownP hS.own (Nat.le_refl _)
      obtain ⟨ao', cap', e1, hl', hm', hc'⟩ := hN
      simp only [Value.slice.injEq] at e1
      obtain ⟨ea, el, ec⟩ := e1
      clear el
      subst ea
      subst ec
      have hcap : ocap ≤ maxLen := hm'
      unfold maxLen at hcap
      obtain ⟨hb', hcn⟩ : g < wr.heap.size ∧ ∀ i, i < (p.map (·.1)).length → ∃ kv, NodeAt wr wr.heap.size g (0 + i * 4) ((p.map (·.1)).getD i nd0) kv := by
        rcases hc' with h | ⟨b, o, h1, h2, h3⟩
        · have := congrArg List.length h; simp only [List.length_map, List.length_nil] at this; omega
        · cases h1; exact ⟨h2, h3⟩
      clear hc'
      obtain ⟨kv, hn⟩ := hcn k (by rw [List.length_map]; omega)
      have hxk : (p.map (·.1)).getD k nd0 = x := by rw [hS.nodes, swL_at _ _ _ _ hlt, if_neg (by omega), hx]
      rw [hxk] at hn
      obtain ⟨c0, c1, c2, c3, hI⟩ := hn
      rw [Nat.zero_add] at c0 c1 c2 c3
      obtain ⟨ka, kc, hkv, _⟩ := id hI
      have HPK : Hid (p[k]? = some (x, kv)) := by
        rw [Hid]
        have hpk : k < p.length := by omega
        have h0 := (ndCells_at p k (p[k]).1 (p[k]).2 (by simp [hpk])).2.2.2
        have e3 : (p[k]).1 = x := by rw [← hxk]; simp [hpk]
        have hrow := hS.own.row
        rw [hpl] at hrow
        rcases hrow.2 with ⟨h, _⟩ | ⟨g', cp, cur, h, _, hg', _, _, _, ht⟩
        · cases h
        · cases h
          have hcell : wr.cell? ⟨g, k * 4 + 3, none⟩ = cur[k * 4 + 3]? := by simp [World.cell?, hg']
          rw [hcell, ← Array.getElem?_toList] at c3
          have hlen := ndCells_length p
          have e4 : cur.toList[k * 4 + 3]? = (ndCells p)[k * 4 + 3]? := by
            rw [← ht, List.getElem?_take, if_pos (by omega)]
          rw [e4, h0] at c3
          simp at c3
          rw [List.getElem?_eq_getElem hpk, ← e3, ← c3]
      have cf : wr.frozen? ⟨g, k * 4 + 2, none⟩ = false := by
        have hrow := hS.own.row
        rw [hpl] at hrow
        rcases hrow.2 with ⟨h, _⟩ | ⟨g', cp, cur, h, _, hg', _⟩
        · cases h
        · cases h
          simp [World.frozen?, hg']
      subst hkv
      have hgl := hb'
      have hgne : g ≠ wr.heap.size := by omega
      have hcnt : (vsL (l.take k)).length = cntV l k := rfl
      have hcl := cntV_le l k
      have hAr := lt_of_block hS.ask.blk
      have HX : Hid (l.getD k nd0 = x) := hx
      have HCN : Hid ((vsL (l.take k)).length = cntV l k) := hcnt
      have HPL : Hid (p.length = l.length) := hpl
      clear hS hI hcn hl' hm' hxk hx hcnt hpl h1
      obtain ⟨op, n, nm, kids⟩ := x
      simp only at c0 c1 c2 c3
      by_cases hop : op = 2
      · subst hop
        have hbW : Below wr.heap.size wr (wr.alloc (.cells #[.int .i64 2, .int .i64 n, .string nm, .slice ka kids.length kc] 40)) := (Below.refl _ _).alloc (Nat.le_refl _) _
        have hAW := HSM.out.ask.below hbW
        have hbA : Below A w (wr.alloc (.cells #[.int .i64 2, .int .i64 n, .string nm, .slice ka kids.length kc] 40)) := HSM.out.below.trans (hbW.mono (by omega))
        have CA : Hid (Calls Tryd.prog 47 #[.string nm, .pointer (some ⟨A, 0, none⟩), .pointer (some ⟨Sb, 0, none⟩), .pointer (some ⟨Nb, 0, none⟩)] (wr.alloc (.cells #[.int .i64 2, .int .i64 n, .string nm, .slice ka kids.length kc] 40)) (AskP (wr.alloc (.cells #[.int .i64 2, .int .i64 n, .string nm, .slice ka kids.length kc] 40)) A va (vsL (l.take k)) names stop nm)) :=
          ask_any _ A Sb Nb va _ names stop na nc nm hAW (HC.out.below hbA) (by rw [HCN.out]; omega)
        have HOW : Hid (OwnP (wr.alloc (.cells #[.int .i64 2, .int .i64 n, .string nm, .slice ka kids.length kc] 40)) B (.slice (some ⟨g, 0, none⟩) l.length ocap) p) := HSM.out.own.below hbW
        have HAW : Hid (AskAt (wr.alloc (.cells #[.int .i64 2, .int .i64 n, .string nm, .slice ka kids.length kc] 40)) A va (vsL (l.take k))) := hAW
        have HBA : Hid (Below A w (wr.alloc (.cells #[.int .i64 2, .int .i64 n, .string nm, .slice ka kids.length kc] 40))) := hbA
        have HVS : Hid (vsL (l.take (k + 1)) = vsL (l.take k) ++ [nm]) := by rw [Hid, vsL_succ l k hlt, HX.out, if_pos rfl]
        have HGW : Hid (g < (wr.alloc (.cells #[.int .i64 2, .int .i64 n, .string nm, .slice ka kids.length kc] 40)).heap.size ∧ (wr.alloc (.cells #[.int .i64 2, .int .i64 n, .string nm, .slice ka kids.length kc] 40)).heap[g]? = wr.heap[g]?) := ⟨by rw [World.size_alloc]; omega, Deep.blk_alloc_lt _ _ _ hgl⟩
        have HAB : Hid (A < B) := HSM.out.AB
        have HKW : Hid (∀ b, b < w.heap.size → b ≠ A → b < (wr.alloc (.cells #[.int .i64 2, .int .i64 n, .string nm, .slice ka kids.length kc] 40)).heap.size ∧ (wr.alloc (.cells #[.int .i64 2, .int .i64 n, .string nm, .slice ka kids.length kc] 40)).heap[b]? = w.heap[b]?) := fun b hb1 hb2 => ⟨by rw [World.size_alloc]; have := HSM.out.below.size; omega, (hbW.block b (by have := HSM.out.below.size; omega)).trans (HSM.out.keep b hb1 hb2)⟩
        have HWW : Hid (w.heap.size ≤ (wr.alloc (.cells #[.int .i64 2, .int .i64 n, .string nm, .slice ka kids.length kc] 40)).heap.size) := by rw [Hid, World.size_alloc]; have := HSM.out.below.size; omega
        clear hbW hAW hbA
        go_wp2_with fail
        generalize (wr.alloc (.cells #[.int .i64 2, .int .i64 n, .string nm, .slice ka kids.length kc] 40)) = W1 at *
        refine CA.out.mono ?_
        rintro e w3 ⟨va3, hA3, hF3, ⟨hst, rfl⟩ | ⟨hst, rfl⟩⟩
        · have HB3 : Hid (Below A w w3) := HBA.out.trans (hF3.under HAW.out)
          have HKP : Hid (∀ b, b < w.heap.size → b ≠ A → w3.heap[b]? = w.heap[b]?) := fun b hb1 hb2 => (hF3.same b (HKW.out b hb1 hb2).1 hb2 (fun e => by have := HSM.out.yg b e; omega)).trans (HKW.out b hb1 hb2).2
          have HYG : Hid (∀ b, va3.ownBlock = some b → w.heap.size ≤ b) := fun b hb => by
            rcases hF3.yo b hb with h | h
            · exact HSM.out.yg b h
            · have := HWW.out; omega
          have HA3 : Hid (AskAt w3 A va3 (vsL (l.take k) ++ [nm])) := hA3
          have HST : Hid (((cntV l k + 1 : Nat) : Int) = stop) := hst
          clear hA3 hF3 hst
          go_wp2_with fail
          exact ⟨rfl, va3, k + 1, hlt, by rw [HVS.out]; exact HA3.out, ⟨HB3.out, HKP.out, HYG.out⟩, .inr (.inr ⟨k, rfl, by rw [HX.out], HSM.out.fine, HST.out, rfl⟩)⟩
        · obtain ⟨s, hs⟩ : ∃ s, ansS names ((vsL (l.take k)).length + 1) nm = s := ⟨_, rfl⟩
          rw [hs]
          have HSN : Hid (ansS names (cntV l k + 1) nm = s) := by rw [Hid, ← HCN.out]; exact hs
          have HST : Hid (((cntV l k + 1 : Nat) : Int) ≠ stop) := hst
          have hu3 := hF3.under HAW.out
          have HB3 : Hid (Below A w w3) := HBA.out.trans hu3
          have HKP : Hid (∀ b, b < w.heap.size → b ≠ A → w3.heap[b]? = w.heap[b]?) := fun b hb1 hb2 => (hF3.same b (HKW.out b hb1 hb2).1 hb2 (fun e => by have := HSM.out.yg b e; omega)).trans (HKW.out b hb1 hb2).2
          have HYG : Hid (∀ b, va3.ownBlock = some b → w.heap.size ≤ b) := fun b hb => by
            rcases hF3.yo b hb with h | h
            · exact HSM.out.yg b h
            · have := HWW.out; omega
          have HO3 : Hid (OwnP w3 B (.slice (some ⟨g, 0, none⟩) l.length ocap) p) := ownP_frA HOW.out hF3 HAW.out HAB.out
          have HA3 : Hid (AskAt w3 A va3 (vsL (l.take k) ++ [nm])) := hA3
          have hgg : w3.heap[g]? = wr.heap[g]? := by
            rw [hF3.same g HGW.out.1 (by have := HAB.out; omega) (fun e => ?_)]
            · exact HGW.out.2
            · rcases ownBlock_ne HAW.out.row HOW.out.row (by decide) with h1 | h1
              · rw [h1] at e; cases e
              · exact h1 e
          have hg3 : g < w3.heap.size := Nat.lt_of_lt_of_le HGW.out.1 hF3.size
          have d2 : w3.cell? ⟨g, k * 4 + 2, none⟩ = some (.string nm) := (World.cell?_of_block (a := ⟨g, k * 4 + 2, none⟩) hgg).trans c2
          have d2f : w3.frozen? ⟨g, k * 4 + 2, none⟩ = false := (World.frozen?_of_block (a := ⟨g, k * 4 + 2, none⟩) hgg).trans cf
          clear hs hst hA3 hF3 hu3 hgg
          go_wp2_with fail
          refine (name_spans s _ (HT.out _ HB3.out)).mono ?_
          rintro e w4 ⟨rfl, hb4⟩
          have e2 : w4.cell? ⟨g, k * 4 + 2, none⟩ = some (.string nm) := (hb4.cell (p := ⟨g, k * 4 + 2, none⟩) hg3).trans d2
          have e2f : w4.frozen? ⟨g, k * 4 + 2, none⟩ = false := (hb4.frozen (p := ⟨g, k * 4 + 2, none⟩) hg3).trans d2f
          have HB4 : Hid (Below A w w4) := HB3.out.trans (hb4.mono (by have := HAB.out; omega))
          have HO4 : Hid (OwnP w4 B (.slice (some ⟨g, 0, none⟩) l.length ocap) p) := HO3.out.below hb4
          have HA4 : Hid (AskAt w4 A va3 (vsL (l.take k) ++ [nm])) := HA3.out.below hb4
          have HK4 : Hid (∀ b, b < w.heap.size → b ≠ A → w4.heap[b]? = w.heap[b]?) := fun b hb1 hb2 => (hb4.block b (by have := HB3.out.size; omega)).trans (HKP.out b hb1 hb2)
          clear hb4 d2 d2f
          cases hnb : nameB s with
          | false =>
            have HNB : Hid (nameB s = false) := hnb
            clear hnb
            go_wp2_with fail
            go_ret2
            exact ⟨va3, k + 1, hlt, by rw [HVS.out]; exact HA4.out, ⟨HB4.out, HK4.out, HYG.out⟩, .inr (.inl ⟨k, rfl, by rw [HX.out], HSM.out.fine, HST.out, by rw [HX.out]; show nameB (ansS names (cntV l k + 1) nm) = false; rw [HSN.out]; exact HNB.out, rfl⟩)⟩
          | true =>
            have HNB : Hid (nameB s = true) := hnb
            clear hnb
            have HNX : Hid (SMid w A B l names stop (.slice (some ⟨g, 0, none⟩) l.length ocap) (k + 1) va3 (p.set k (⟨2, n, s, kids⟩, .slice ka kids.length kc)) (w4.setCell ⟨g, k * 4 + 2, none⟩ (.string s))) := by
              have hAB := HAB.out
              refine ⟨⟨?_, ?_⟩, ?_, ?_, fun j hj => ?_, HB4.out.setCell (by show A ≤ g; omega) _, fun b hb1 hb2 => (Deep.blk_setCell_other _ _ _ _ (by show b ≠ g; omega)).trans (HK4.out b hb1 hb2), HYG.out, HAB.out⟩
              · rw [Deep.blk_setCell_other _ _ _ _ (by show A ≠ g; omega)]; exact HA4.out.blk
              · rw [HVS.out]
                refine own_set' HA4.out.row (fun e => ?_)
                rcases ownBlock_ne HA4.out.row HO4.out.row (by decide) with h1 | h1
                · rw [h1] at e; cases e
                · exact h1 e
              · have h1 := ownP_put (s := s) (k := k) (by rw [HPL.out]; exact HO4.out) HPK.out
                rw [HPL.out] at h1
                exact h1
              · rw [List.map_set, HSM.out.nodes, swL_succ l names k hlt, HX.out]
                congr 1
                unfold swN
                rw [if_pos rfl]
                simp only
                rw [HSN.out]
              · by_cases e : j = k
                · subst e
                  intro _
                  rw [HX.out]
                  exact ⟨HST.out, by show nameB (ansS names (cntV l j + 1) nm) = true; rw [HSN.out]; exact HNB.out⟩
                · exact HSM.out.fine j (by omega)
            go_wp2_with fail
            first | exact ⟨⟨k + 1, va3, _, by omega, by go_num, HNX.out⟩, by simp [RowKit.intOf]; omega⟩ | exact ⟨⟨k + 1, by omega, by go_num, va3, _, HNX.out⟩, by simp [RowKit.intOf]; omega⟩
      · have hop' : (op == 2) = false := by simp [hop]
        have HNX : Hid (SMid w A B l names stop (.slice (some ⟨g, 0, none⟩) l.length ocap) (k + 1) va p (wr.alloc (.cells #[.int .i64 op, .int .i64 n, .string nm, .slice ka kids.length kc] 40))) := by
          have hb : Below wr.heap.size wr (wr.alloc (.cells #[.int .i64 op, .int .i64 n, .string nm, .slice ka kids.length kc] 40)) := (Below.refl _ _).alloc (Nat.le_refl _) _
          refine ⟨?_, HSM.out.own.below hb, ?_, fun j hj => ?_, HSM.out.below.trans (hb.mono (by have := HSM.out.below.size; omega)), fun b hb1 hb2 => (hb.block b (by have := HSM.out.below.size; omega)).trans (HSM.out.keep b hb1 hb2), HSM.out.yg, HSM.out.AB⟩
          · have := HSM.out.ask.below hb
            rw [vsL_succ l k hlt, HX.out, if_neg hop, List.append_nil]; exact this
          · rw [HSM.out.nodes, swL_not l names k hlt (by rw [HX.out]; exact hop)]
          · by_cases e : j = k
            · subst e
              intro h2; rw [HX.out] at h2; exact absurd h2 hop
            · exact HSM.out.fine j (by omega)
        go_wp2_with fail
        first | exact ⟨⟨k + 1, va, p, by omega, by go_num, HNX.out⟩, by simp [RowKit.intOf]; omega⟩ | exact ⟨⟨k + 1, by omega, by go_num, va, p, HNX.out⟩, by simp [RowKit.intOf]; omega⟩
    · have hke : k = l.length := by omega
      subst hke
      clear hS
      go_wp2_with fail
      go_ret2
      refine ⟨va, l.length, Nat.le_refl _, HSM.out.ask, ⟨HSM.out.below, HSM.out.keep, HSM.out.yg⟩, .inl ⟨rfl, HSM.out.fine, some ⟨g, 0, none⟩, ocap, rfl, ?_⟩⟩
      have hN := Nodes_of_ownP HSM.out.own (Nat.le_refl _)
      rw [HSM.out.nodes] at hN
      unfold Rd
      rw [swL_len]; exact hN
end Go.Proofs.YtfhfokceeidhcaaDoor
