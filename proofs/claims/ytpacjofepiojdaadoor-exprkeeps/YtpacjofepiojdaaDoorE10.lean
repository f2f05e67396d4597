/-
  SwK, OrdPure, BytePure, NmPure.
-/
import Derived.Shelf.Unicode.DecodeSlow
import Derived.Laws.RangeAny
import Derived.Shelf.Small.Bits
import Derived.Shelf.Strconv.Itoa0
import Derived.Shelf.LaysM
import Derived.Shelf.Strconv.Clone
import Derived.Shelf.Unicode.DecodeAny
import Derived.Shelf.Slices.CompactS
import Derived.Ground.SlsfProg
import Derived.Shelf.SlSortCmp.Insertion
import Derived.Shelf.SlSortCmp.SiftDown1
import Derived.Shelf.SlSortCmp.HeapSort1
import Derived.Shelf.SlSortCmp.Insertion1
import Derived.Shelf.SlSortCmp.Median1
import Derived.Shelf.SlSortCmp.Pivot1
import Derived.Shelf.SlSortCmp.ReverseRange1
import Derived.Shelf.SlSortCmp.PartialInsertion1
import Derived.Shelf.SlSortCmp.PartitionEqual1
import Derived.Shelf.SlSortCmp.Partition1
import Derived.Shelf.SlSortCmp.Pdq1
import Derived.Shelf.SlSortCmp.Whole1
import Derived.Test.YtpacjofepiojdaaDoorProg
import Derived.WalkKit
import Derived.Deep.DeepFit
import Derived.Lib.OthersKept
import Derived.Lib.RuneCountTail
import Derived.Deep.AppendLies
import Derived.Deep.OwnRows
import Derived.Laws.AppendOwnNone
import Derived.Deep.QuietTactic
import Derived.BigQuiet
import Derived.Deep.RegionWith
import Derived.Laws.DeepStrings4
import Derived.Below
import Derived.Lib.MapLaws
import Derived.Sort.Walk0
import Derived.Test.YtpacjofepiojdaaDoorE01
import Derived.Test.YtpacjofepiojdaaDoorE02
import Derived.Test.YtpacjofepiojdaaDoorE03
import Derived.Test.YtpacjofepiojdaaDoorE04
import Derived.Test.YtpacjofepiojdaaDoorE05
import Derived.Test.YtpacjofepiojdaaDoorE06
import Derived.Test.YtpacjofepiojdaaDoorE07
import Derived.Test.YtpacjofepiojdaaDoorE08
import Derived.Test.YtpacjofepiojdaaDoorE09
set_option linter.unusedSimpArgs false
set_option linter.unusedVariables false
namespace Go.Proofs.YtpacjofepiojdaaDoor
open Go.RowKit Go.Lib Go.Sort

theorem getD_app2 (a r : List Nd) (i : Nat) : (a ++ r).getD (a.length + i) nd0 = r.getD i nd0 := by simp [List.getElem?_append_right]
/-- A node with another name, if it is a variable. -/
def swF (φ : ByteArray → ByteArray) (x : Nd) : Nd := if x.op = 2 then { x with name := φ x.name } else x
theorem swF_kids (φ : ByteArray → ByteArray) (x : Nd) : (swF φ x).kids = x.kids := by unfold swF; split <;> rfl
def swP (φ : ByteArray → ByteArray) (l : List Nd) (k : Nat) : List Nd := (l.take k).map (swF φ) ++ l.drop k
theorem swP_len (φ : ByteArray → ByteArray) (l : List Nd) (k : Nat) : (swP φ l k).length = l.length := by
  unfold swP; rw [List.length_append, List.length_map, ← List.length_append, List.take_append_drop]
theorem swP_zero (φ : ByteArray → ByteArray) (l : List Nd) : swP φ l 0 = l := by simp [swP]
theorem swP_all (φ : ByteArray → ByteArray) (l : List Nd) : swP φ l l.length = l.map (swF φ) := by simp [swP]
theorem swP_at (φ : ByteArray → ByteArray) (l : List Nd) (k : Nat) (h : k < l.length) : (swP φ l k).getD k nd0 = l.getD k nd0 := by
  unfold swP
  have hz : ((l.take k).map (swF φ)).length = k := by simp; omega
  have h2 := getD_app2 ((l.take k).map (swF φ)) (l.drop k) 0
  rw [hz, Nat.add_zero] at h2
  rw [h2]
  simp
theorem swP_succ (φ : ByteArray → ByteArray) (l : List Nd) (k : Nat) (h : k < l.length) : swP φ l (k + 1) = (swP φ l k).set k (swF φ (l.getD k nd0)) := by
  unfold swP
  have hz : ((l.take k).map (swF φ)).length = k := by simp; omega
  have hx : l.getD k nd0 = l[k] := by simp [h]
  rw [List.take_succ_eq_append_getElem h, List.drop_eq_getElem_cons h, hx, List.map_append, List.append_assoc]
  have : ∀ (a : List Nd) (y z : Nd) (r : List Nd), a.length = k → (a ++ y :: r).set k z = a ++ (z :: r) := fun a y z r ha => by
    rw [List.set_append_right _ _ (by omega), ha, Nat.sub_self]; rfl
  rw [this _ _ _ _ hz]
  rfl
theorem swP_not (φ : ByteArray → ByteArray) (l : List Nd) (k : Nat) (h : k < l.length) (hn : (l.getD k nd0).op ≠ 2) : swP φ l (k + 1) = swP φ l k := by
  rw [swP_succ φ l k h]
  have e : swF φ (l.getD k nd0) = l.getD k nd0 := by unfold swF; rw [if_neg hn]
  rw [e]
  have hz : k < (swP φ l k).length := by rw [swP_len]; exact h
  have h2 := swP_at φ l k h
  have : (swP φ l k)[k] = l.getD k nd0 := by rw [← h2]; simp [hz]
  rw [← this]
  exact List.set_getElem_self hz
/-- A name is put at its place. -/
theorem ownP_put {w : World} {B g cap k : Nat} {p : List (Nd × Value)} {x : Nd} {kv : Value} {s : ByteArray} (h : OwnP w B (.slice (some ⟨g, 0, none⟩) p.length cap) p) (hk : p[k]? = some (x, kv)) : OwnP (w.setCell ⟨g, k * 4 + 2, none⟩ (.string s)) B (.slice (some ⟨g, 0, none⟩) p.length cap) (p.set k ({ x with name := s }, kv)) := by
  have hlt : k < p.length := by
    by_cases h : k < p.length
    · exact h
    · rw [List.getElem?_eq_none (by omega)] at hk; cases hk
  have hne : ∀ q ∈ p, q.2.ownBlock ≠ some g := fun q hq e => by
    rcases ownBlock_ne (h.kids q hq) h.row (by decide) with h1 | h1
    · rw [h1] at e; cases e
    · exact h1 e
  refine ⟨?_, fun q hq => ?_⟩
  · rw [ndCells_set p k x kv s hk, List.length_set]
    exact own_put h.row (by rw [ndCells_length]; omega)
  · rcases List.mem_or_eq_of_mem_set hq with h1 | h1
    · exact own_set' (h.kids q h1) (hne q h1)
    · subst h1
      have hm : (x, kv) ∈ p := List.mem_of_getElem? hk
      have h2 := own_set' (p := g) (o := k * 4 + 2) (u := .string s) (h.kids (x, kv) hm) (hne (x, kv) hm)
      exact h2

theorem snd_kids1 {l : List Nd} {fr : List Nat} (h : begL l = some fr) : ∀ x ∈ l, x.kids.length * 8 ≤ 140737488351232 ∧ ∀ k ∈ x.kids, -9000 ≤ k ∧ k ≤ 9000 := by
  intro x hx
  obtain ⟨h1, h2⟩ := snd_bounds h
  refine ⟨by have := h2 x hx; omega, fun k hk => ?_⟩
  have := begR_kids (begL_some h).2.2.1 low_nil x hx k hk
  simp at this
  omega

theorem eqlK (F : Nat) (w : World) : (binOp .eql 44 (.func (.func F) #[] #[]) .nilFunc).run Tryd.prog w = .ok (.bool false) w := by kernel_rfl
structure BxK (p : Prop) : Prop where
  out : p
structure SMq (w : World) (B : Nat) (φ : ByteArray → ByteArray) (l : List Nd) (vo : Value) (k : Nat) (p : List (Nd × Value)) (wr : World) : Prop where
  own : OwnP wr B vo p
  nodes : p.map (·.1) = swP φ l k
  below : Below w.heap.size w wr
  ap : KdAp p
theorem ownP_dn {w : World} {base base' : Nat} {v : Value} {q : List (Nd × Value)} (h : OwnP w base v q) (hb : base' ≤ base) : OwnP w base' v q := ⟨ownsRow_mono h.row hb, fun y hy => ownsRow_mono (h.kids y hy) hb⟩
/-- Kids' rows alone count. -/
theorem kdAp_set {p : List (Nd × Value)} {k : Nat} {x y : Nd} {kv : Value} (h : KdAp p) (hk : p[k]? = some (x, kv)) : KdAp (p.set k (y, kv)) := by
  have hlt : k < p.length := (List.getElem?_eq_some_iff.1 hk).1
  have e : (p.set k (y, kv)).map (·.2) = p.map (·.2) := by
    rw [List.map_set]
    have h1 : (p.map (·.2))[k]'(by simpa using hlt) = kv := by
      rw [List.getElem_map]
      rw [List.getElem?_eq_getElem hlt] at hk
      rw [Option.some.inj hk]
    rw [← h1]
    exact List.set_getElem_self _
  have key : ∀ q : List (Nd × Value), KdAp q ↔ (q.map (·.2)).Pairwise fun a b => ∀ g, a.ownBlock = some g → b.ownBlock ≠ some g := fun q => by
    unfold KdAp
    rw [List.pairwise_map]
  rw [key, e, ← key]
  exact h

set_option maxRecDepth 20000 in
set_option maxHeartbeats 8000000 in
theorem swapK_ok (w : World) (φ : ByteArray → ByteArray) (ao : Option Addr) (cap : Nat) (l : List Nd) (fr : List Nat) (T : SpanCells w) (hR : Rd w ao cap l) (h : begL l = some fr) (hφ : ∀ x ∈ l, x.op = 2 → nameB (φ x.name) = true)
    (hC : ∀ x ∈ l, x.op = 2 → ∀ W, Calls Tryd.prog 26 #[.string x.name] W fun e w' => e = .returned (.string (φ x.name)) ∧ Below W.heap.size W w') :
    Calls Tryd.prog 25 #[.slice ao l.length cap, .func (.func 26) #[] #[] ] w fun e w' => ∃ ao' cap', e = .returned (.tuple #[.slice ao' l.length cap', .int .i64 0]) ∧ OwnQ w' w.heap.size (.slice ao' l.length cap') (l.map (swF φ)) ∧ Below w.heap.size w w' := by
  have HS : BxK (begL l = some fr) := ⟨h⟩
  have h64 := (begL_some h).2.1
  have hl0 := (begL_some h).1
  have HK : BxK (∀ x ∈ l, x.kids.length * 8 ≤ 140737488351232 ∧ ∀ k ∈ x.kids, -9000 ≤ k ∧ k ≤ 9000) := ⟨snd_kids1 h⟩
  have HT : BxK (∀ V, Below w.heap.size w V → SpanCells V) := ⟨fun V hV => T.below hV⟩
  have HCC : BxK (∀ k, k < l.length → (l.getD k nd0).op = 2 → nameB (φ (l.getD k nd0).name) = true ∧ ∀ W, Calls Tryd.prog 26 #[.string (l.getD k nd0).name] W fun e w' => e = .returned (.string (φ (l.getD k nd0).name)) ∧ Below W.heap.size W w') := ⟨fun k hk h2 => ⟨hφ _ (by simp [hk]) h2, hC _ (by simp [hk]) h2⟩⟩
  clear h T hφ hC
  have h1 := eqlK 26
  go_enter Tryd.func25, Tryd.ntmps25
  go_wp2_with fail
  refine (check_some _ l fr _ _ (Nat.le_refl _) (HT.out _ (Below.refl _ _)) hR HS.out).mono ?_
  rintro e w1 ⟨rfl, hb1⟩
  have hR1 := hR.below hb1 hb1.size
  have hs1 := hb1.size
  have HB1 : BxK (Below w.heap.size w w1) := ⟨hb1⟩
  clear hb1 hR
  go_wp2_with fail
  refine (add_q (.slice none 0 0) _ [] l 0 0 w1 w1.heap.size (Nat.le_refl _) ⟨World.ownsRow_nil _ _ _ _, by simp⟩ hR1 (by simp; omega) HK.out (by omega) (by omega)).mono ?_
  rintro e w2 ⟨⟨vo, p0, rfl, hO2, hm2, hj1, hg2, hj2, hb2⟩⟩
  have hb02 : Below w.heap.size w w2 := HB1.out.trans (hb2.mono hs1)
  have HM0 : BxK (SMq w w1.heap.size φ l vo 0 p0 w2) := ⟨⟨by simpa using hO2, by rw [hm2, map_mvN_zero, swP_zero], hb02, hj1.2⟩⟩
  have hp0 : p0.length = l.length := by have := congrArg List.length hm2; simpa using this
  obtain ⟨g, ocap, hvo, hgB⟩ : ∃ g ocap, vo = .slice (some ⟨g, 0, none⟩) l.length ocap ∧ w1.heap.size ≤ g := by
    rcases hO2.row.2 with ⟨rfl, h0⟩ | ⟨g, c, cur, rfl, hb, _⟩
    · simp at h0; subst h0; simp at hp0; omega
    · exact ⟨g, c, by simp [hp0], hb⟩
  subst hvo
  have hwB : w.heap.size ≤ w1.heap.size := hs1
  generalize w1.heap.size = B at *
  clear hj1 hj2 hO2 hm2 hg2 hb2 hb02 HB1 hR1 HK hs1 w1
  go_wp2_with fail
  go_loopw [19] (fun i wr => ∃ (k : Nat) (p : List (Nd × Value)), k ≤ l.length ∧ i = .int .i64 k ∧ SMq w B φ l (.slice (some ⟨g, 0, none⟩) l.length ocap) k p wr) (fun i _ => l.length - (RowKit.intOf i).toNat)
  case atStart => exact ⟨0, p0, by omega, rfl, HM0.out⟩
  case round =>
    obtain ⟨k, p, hk, rfl, hS⟩ := hrel
    clear HM0
    have HSM : BxK (SMq w B φ l (.slice (some ⟨g, 0, none⟩) l.length ocap) k p wr) := ⟨hS⟩
    have hpl : p.length = l.length := by have := congrArg List.length hS.nodes; rw [swP_len] at this; simpa using this
    by_cases hlt : k < l.length
    · have hCk := HCC.out k hlt
      obtain ⟨x, hx⟩ : ∃ x, l.getD k nd0 = x := ⟨_, rfl⟩
      have hN := Nodes_of_ownP hS.own (Nat.le_refl _)
      obtain ⟨ao', cap', e1, hl', hm', hc'⟩ := hN
      simp only [Value.slice.injEq] at e1
      obtain ⟨ea, el, ec⟩ := e1
      clear el
      subst ea
      subst ec
      have hcap : ocap ≤ maxLen := hm'
      unfold maxLen at hcap
      obtain ⟨hb', hcn⟩ : g < wr.heap.size ∧ ∀ i, i < (p.map (·.1)).length → ∃ kv, NodeAt wr wr.heap.size g (0 + i * 4) ((p.map (·.1)).getD i nd0) kv := by
        rcases hc' with h | ⟨b, o, h1, h2, h3⟩
        · have := congrArg List.length h; simp only [List.length_map, List.length_nil] at this; omega
        · cases h1; exact ⟨h2, h3⟩
      clear hc'
      obtain ⟨kv, hn⟩ := hcn k (by rw [List.length_map]; omega)
      have hxk : (p.map (·.1)).getD k nd0 = x := by rw [hS.nodes, swP_at _ _ _ hlt, hx]
      rw [hxk] at hn
      obtain ⟨c0, c1, c2, c3, hI⟩ := hn
      rw [Nat.zero_add] at c0 c1 c2 c3
      obtain ⟨ka, kc, hkv, _⟩ := id hI
      have HPK : BxK (p[k]? = some (x, kv)) := ⟨by
        have hpk : k < p.length := by omega
        have h0 := (ndCells_at p k (p[k]).1 (p[k]).2 (by simp [hpk])).2.2.2
        have e3 : (p[k]).1 = x := by rw [← hxk]; simp [hpk]
        have hrow := hS.own.row
        rw [hpl] at hrow
        rcases hrow.2 with ⟨h, _⟩ | ⟨g', cp, cur, h, _, hg', _, _, _, ht⟩
        · cases h
        · cases h
          have hcell : wr.cell? ⟨g, k * 4 + 3, none⟩ = cur[k * 4 + 3]? := by simp [World.cell?, hg']
          rw [hcell, ← Array.getElem?_toList] at c3
          have hlen := ndCells_length p
          have e4 : cur.toList[k * 4 + 3]? = (ndCells p)[k * 4 + 3]? := by
            rw [← ht, List.getElem?_take, if_pos (by omega)]
          rw [e4, h0] at c3
          simp at c3
          rw [List.getElem?_eq_getElem hpk, ← e3, ← c3]⟩
      have cf : wr.frozen? ⟨g, k * 4 + 2, none⟩ = false := by
        have hrow := hS.own.row
        rw [hpl] at hrow
        rcases hrow.2 with ⟨h, _⟩ | ⟨g', cp, cur, h, _, hg', _⟩
        · cases h
        · cases h
          simp [World.frozen?, hg']
      subst hkv
      have hgl := hb'
      have hgne : g ≠ wr.heap.size := by omega
      have HX : BxK (l.getD k nd0 = x) := ⟨hx⟩
      have HPL : BxK (p.length = l.length) := ⟨hpl⟩
      rw [hx] at hCk
      have HCK : BxK _ := ⟨hCk⟩
      clear hS hI hcn hl' hm' hxk hx hpl h1 hCk
      obtain ⟨op, n, nm, kids⟩ := x
      simp only at c0 c1 c2 c3
      by_cases hop : op = 2
      · subst hop
        have hbW : Below wr.heap.size wr (wr.alloc (.cells #[.int .i64 2, .int .i64 n, .string nm, .slice ka kids.length kc] 63)) := (Below.refl _ _).alloc (Nat.le_refl _) _
        have hbA : Below w.heap.size w (wr.alloc (.cells #[.int .i64 2, .int .i64 n, .string nm, .slice ka kids.length kc] 63)) := HSM.out.below.trans (hbW.mono HSM.out.below.size)
        have HOW : BxK (OwnP (wr.alloc (.cells #[.int .i64 2, .int .i64 n, .string nm, .slice ka kids.length kc] 63)) B (.slice (some ⟨g, 0, none⟩) l.length ocap) p) := ⟨HSM.out.own.below hbW⟩
        have HBA : BxK (Below w.heap.size w (wr.alloc (.cells #[.int .i64 2, .int .i64 n, .string nm, .slice ka kids.length kc] 63))) := ⟨hbA⟩
        have HGW : BxK (g < (wr.alloc (.cells #[.int .i64 2, .int .i64 n, .string nm, .slice ka kids.length kc] 63)).heap.size ∧ (wr.alloc (.cells #[.int .i64 2, .int .i64 n, .string nm, .slice ka kids.length kc] 63)).heap[g]? = wr.heap[g]?) := ⟨⟨by rw [World.size_alloc]; omega, Deep.blk_alloc_lt _ _ _ hgl⟩⟩
        have CA : BxK (∀ W, Calls Tryd.prog 26 #[.string nm] W fun e w' => e = .returned (.string (φ nm)) ∧ Below W.heap.size W w') := ⟨(HCK.out rfl).2⟩
        have HNM : BxK (nameB (φ nm) = true) := ⟨(HCK.out rfl).1⟩
        clear hbW hbA HCK
        go_wp2_with fail
        generalize (wr.alloc (.cells #[.int .i64 2, .int .i64 n, .string nm, .slice ka kids.length kc] 63)) = W1 at *
        refine (CA.out W1).mono ?_
        rintro e w3 ⟨rfl, hb3⟩
        have HB3 : BxK (Below w.heap.size w w3) := ⟨HBA.out.trans (hb3.mono HBA.out.size)⟩
        have HO3 : BxK (OwnP w3 B (.slice (some ⟨g, 0, none⟩) l.length ocap) p) := ⟨HOW.out.below hb3⟩
        have hgg : w3.heap[g]? = wr.heap[g]? := (hb3.block g HGW.out.1).trans HGW.out.2
        have hg3 : g < w3.heap.size := Nat.lt_of_lt_of_le HGW.out.1 hb3.size
        have d2 : w3.cell? ⟨g, k * 4 + 2, none⟩ = some (.string nm) := (World.cell?_of_block (a := ⟨g, k * 4 + 2, none⟩) hgg).trans c2
        have d2f : w3.frozen? ⟨g, k * 4 + 2, none⟩ = false := (World.frozen?_of_block (a := ⟨g, k * 4 + 2, none⟩) hgg).trans cf
        obtain ⟨s, hs⟩ : ∃ s, φ nm = s := ⟨_, rfl⟩
        have HSN : BxK (φ nm = s) := ⟨hs⟩
        have CN : BxK (Calls Tryd.prog 54 #[.string s] w3 fun e w' => e = .returned (.bool true) ∧ Below w3.heap.size w3 w') := ⟨by
          have := name_spans s w3 (HT.out _ HB3.out)
          rw [← hs, HNM.out, hs] at this
          exact this⟩
        rw [hs]
        clear hs hb3 hgg
        go_wp2_with fail
        refine CN.out.mono ?_
        rintro e w4 ⟨rfl, hb4⟩
        have e2 : w4.cell? ⟨g, k * 4 + 2, none⟩ = some (.string nm) := (hb4.cell (p := ⟨g, k * 4 + 2, none⟩) hg3).trans d2
        have e2f : w4.frozen? ⟨g, k * 4 + 2, none⟩ = false := (hb4.frozen (p := ⟨g, k * 4 + 2, none⟩) hg3).trans d2f
        have HNX : BxK (SMq w B φ l (.slice (some ⟨g, 0, none⟩) l.length ocap) (k + 1) (p.set k (⟨2, n, s, kids⟩, .slice ka kids.length kc)) (w4.setCell ⟨g, k * 4 + 2, none⟩ (.string s))) := ⟨by
          have hO4 := HO3.out.below hb4
          have hB4 := HB3.out.trans (hb4.mono HB3.out.size)
          refine ⟨?_, ?_, hB4.setCell (by show w.heap.size ≤ g; omega) _, kdAp_set HSM.out.ap HPK.out⟩
          · have h1 := ownP_put (s := s) (k := k) (by rw [HPL.out]; exact hO4) HPK.out
            rw [HPL.out] at h1
            exact h1
          · rw [List.map_set, HSM.out.nodes, swP_succ φ l k hlt, HX.out]
            congr 1
            unfold swF
            rw [if_pos rfl]
            simp only
            rw [HSN.out]⟩
        clear hb4 d2 d2f
        go_wp2_with fail
        first | exact ⟨⟨k + 1, _, by omega, by go_num, HNX.out⟩, by simp [RowKit.intOf]; omega⟩ | exact ⟨⟨k + 1, by omega, by go_num, _, HNX.out⟩, by simp [RowKit.intOf]; omega⟩
      · have hop' : (op == 2) = false := by simp [hop]
        have HNX : BxK (SMq w B φ l (.slice (some ⟨g, 0, none⟩) l.length ocap) (k + 1) p (wr.alloc (.cells #[.int .i64 op, .int .i64 n, .string nm, .slice ka kids.length kc] 63))) := ⟨by
          have hb : Below wr.heap.size wr (wr.alloc (.cells #[.int .i64 op, .int .i64 n, .string nm, .slice ka kids.length kc] 63)) := (Below.refl _ _).alloc (Nat.le_refl _) _
          exact ⟨HSM.out.own.below hb, by rw [HSM.out.nodes, swP_not φ l k hlt (by rw [HX.out]; exact hop)], HSM.out.below.trans (hb.mono HSM.out.below.size), HSM.out.ap⟩⟩
        clear HCK
        go_wp2_with fail
        first | exact ⟨⟨k + 1, p, by omega, by go_num, HNX.out⟩, by simp [RowKit.intOf]; omega⟩ | exact ⟨⟨k + 1, by omega, by go_num, p, HNX.out⟩, by simp [RowKit.intOf]; omega⟩
    · have hke : k = l.length := by omega
      subst hke
      clear hS
      go_wp2_with fail
      go_ret2
      exact ⟨some ⟨g, 0, none⟩, ocap, rfl, ⟨p, by rw [HSM.out.nodes, swP_all], ownP_dn HSM.out.own hwB, HSM.out.ap⟩, HSM.out.below⟩
end Go.Proofs.YtpacjofepiojdaaDoor

set_option linter.unusedSimpArgs false
set_option linter.unusedVariables false
namespace Go.Proofs.YtpacjofepiojdaaDoor
open Go.Lib

/-! ### an order -/
theorem cmp3_self (a : Int) : cmp3 a a = 0 := by simp [cmp3]
theorem cmp3_neg (a b : Int) : cmp3 a b = -cmp3 b a := by unfold cmp3; repeat' split <;> omega
theorem cmp3_zero (a b : Int) : cmp3 a b = 0 ↔ a = b := by unfold cmp3; constructor <;> intro h <;> (repeat' split at *) <;> omega
theorem cmpL_self : ∀ l : List Int, cmpL l l = 0
  | [] => rfl
  | a :: l => by rw [cmpL, if_pos (cmp3_self a), cmpL_self l]
theorem cmpL_neg : ∀ l m : List Int, cmpL l m = -cmpL m l
  | [], [] => rfl
  | [], _ :: _ => rfl
  | _ :: _, [] => rfl
  | a :: l, b :: m => by
    rw [cmpL, cmpL, cmp3_neg a b]
    by_cases h : cmp3 b a = 0
    · rw [if_pos (by omega), if_pos h, cmpL_neg l m]
    · rw [if_neg (by omega), if_neg h]
theorem cmpL_trans : ∀ l m k : List Int, cmpL l m ≤ 0 → cmpL m k ≤ 0 → cmpL l k ≤ 0
  | [], [], [], _, _ => by simp [cmpL]
  | [], _, _ :: _, _, _ => by simp [cmpL]
  | [], _ :: _, [], _, h => by simp [cmpL]
  | _ :: _, [], _, h, _ => by simp [cmpL] at h
  | _ :: _, _ :: _, [], _, h => by simp [cmpL] at h
  | a :: l, b :: m, c :: k, h1, h2 => by
    rw [cmpL] at h1 h2 ⊢
    unfold cmp3 at *
    by_cases e1 : a < b
    · by_cases e2 : b < c
      · have : a < c := by omega
        simp [this]
      · by_cases e3 : c < b
        · simp [e2, e3] at h2
        · have : a < c := by omega
          simp [this]
    · by_cases e1' : b < a
      · simp [e1, e1'] at h1
      · have eab : a = b := by omega
        subst eab
        by_cases e2 : a < c
        · simp [e2]
        · by_cases e3 : c < a
          · simp [e2, e3] at h2
          · simp [e2, e3] at h1 h2 ⊢
            exact cmpL_trans l m k h1 h2
theorem cmpL_zero : ∀ l m : List Int, cmpL l m = 0 → l = m
  | [], [], _ => rfl
  | [], _ :: _, h => by simp [cmpL] at h
  | _ :: _, [], h => by simp [cmpL] at h
  | a :: l, b :: m, h => by
    rw [cmpL] at h
    split at h
    · rename_i e; rw [(cmp3_zero a b).1 e, cmpL_zero l m h]
    · rename_i e; exact absurd h e

/-! ### texts that are joined -/
theorem bad_false_iff (s : ByteArray) (pos : Nat) : bad s pos = false ↔ ¬ Utf8.decode s pos = (65533, 1) := by
  constructor
  · intro h e; simp [bad, e] at h
  · intro h
    cases hb : bad s pos
    · rfl
    · exact absurd (bad_eq hb) h
/-- Every place that is come to is good. -/
def Good (a : ByteArray) (pos : Nat) : Prop := ∃ f, a.size ≤ pos + f ∧ (chkF a f pos).2 = 0
theorem good_start (a : ByteArray) (h : (chk a).2 = 0) : Good a 0 := ⟨a.size, by omega, h⟩
theorem good_step (a : ByteArray) (pos : Nat) (hp : pos < a.size) (h : Good a pos) : bad a pos = false ∧ Good a (pos + (Utf8.decode a pos).2) := by
  obtain ⟨f, hf, hc⟩ := h
  obtain ⟨f, rfl⟩ : ∃ g, f = g + 1 := ⟨f - 1, by omega⟩
  have hv := width_pos a pos hp
  cases hb : bad a pos
  · rw [chkF_good a f pos hp hb] at hc
    exact ⟨rfl, f, by omega, hc⟩
  · rw [chkF_bad a f pos hp hb] at hc
    simp at hc
theorem ord_self (a : ByteArray) : ordI a a = 0 := cmpL_self _
end Go.Proofs.YtpacjofepiojdaaDoor

set_option linter.unusedSimpArgs false
set_option linter.unusedVariables false
namespace Go.Proofs.YtpacjofepiojdaaDoor
open Go.Lib

/-! ### a text without bad bytes -/
theorem bytes_good (s : ByteArray) : ∀ (f pos : Nat), s.size ≤ pos + f → pos ≤ s.size → Good s pos → s.data.toList.drop pos = (runesFrom s f pos).flatMap encodeRune
  | 0, pos, h1, h2, _ => by
    have : pos = s.size := by omega
    subst this
    rw [size_eq, List.drop_of_length_le (Nat.le_refl _)]; rfl
  | f + 1, pos, h1, h2, hg => by
    by_cases hp : pos < s.size
    · obtain ⟨hb, hg'⟩ := good_step s pos hp hg
      have hv := width_pos s pos hp
      have hv2 := dec_le s pos hp
      have hne : s.data.toList.drop pos ≠ [] := by
        intro e
        have := congrArg List.length e
        rw [List.length_drop, ← size_eq] at this
        simp at this; omega
      have he := encode_decode (s.data.toList.drop pos) hne (by
        rw [decodeL_drop]
        intro e
        exact (bad_false_iff s pos).1 hb (Prod.ext e.1 e.2))
      rw [decodeL_drop] at he
      rw [runesFrom_cons s f pos hp, List.flatMap_cons, he, ← bytes_good s f _ (by omega) hv2 hg', ← List.drop_drop, List.take_append_drop]
    · have : pos = s.size := by omega
      subst this
      rw [runesFrom_end s _ _ hp, size_eq, List.drop_of_length_le (Nat.le_refl _)]; rfl
theorem bytes_of_good (s : ByteArray) (h : (chk s).2 = 0) : s.data.toList = (rl s).flatMap encodeRune := by
  have := bytes_good s s.size 0 (by omega) (by omega) (good_start s h)
  simpa [rl] using this
theorem eq_good (a b : ByteArray) (ha : (chk a).2 = 0) (hb : (chk b).2 = 0) : (a.toList == b.toList) = decide (ordI a b = 0) := by
  rw [Bool.eq_iff_iff, beq_iff_eq, decide_eq_true_eq, toList_data, toList_data]
  constructor
  · intro h
    have : a = b := by
      apply ByteArray.ext; exact Array.ext' h
    rw [this]; exact ord_self b
  · intro h
    rw [bytes_of_good a ha, bytes_of_good b hb, cmpL_zero _ _ h]
end Go.Proofs.YtpacjofepiojdaaDoor

set_option linter.unusedSimpArgs false
set_option linter.unusedVariables false
namespace Go.Proofs.YtpacjofepiojdaaDoor
open Go.Lib

/-! ### names -/
theorem nmF_chk (s : ByteArray) : ∀ (f pos n : Nat), nmF s f pos n = true → (chkF s f pos).2 = 0
  | 0, pos, n, h => rfl
  | f + 1, pos, n, h => by
    by_cases hp : pos < s.size
    · rw [nmF_step s f pos n hp] at h
      unfold nmS at h
      split at h
      · simp at h
      · rename_i hk
        have ho : onB (Utf8.decode s pos).1 = true := by
          cases hq : onB (Utf8.decode s pos).1 with
          | true => rfl
          | false => simp [hq] at hk
        rw [chkF_good s f pos hp (good_of_on s pos ho)]
        exact nmF_chk s f _ _ h
    · rw [chkF_end s _ pos hp]
theorem name_chk (s : ByteArray) (h : nameB s = true) : (chk s).2 = 0 := nmF_chk s _ _ _ h
theorem empty_chk (s : ByteArray) (h : s.toList.isEmpty = true) : (chk s).2 = 0 := by
  rw [toList_data] at h
  have hz : s.size = 0 := by
    have : s.data.toList = [] := by simpa using h
    show s.data.size = 0
    rw [← Array.length_toList, this]; rfl
  unfold chk
  rw [chkF_end s _ 0 (by omega)]

theorem nmF_size (s : ByteArray) : ∀ (f pos n : Nat), s.size ≤ pos + f → nmF s f pos n = true → s.size ≤ pos + 4 * (16 - n)
  | 0, pos, n, hf, h => by omega
  | f + 1, pos, n, hf, h => by
    by_cases hp : pos < s.size
    · have hw := width_pos s pos hp
      have hw4 : (Utf8.decode s pos).2 ≤ 4 := by
        rw [decode_at s pos]; exact (decodeN_width _ _ _ _ _).2
      have hn : n < 16 := by
        by_cases hn : 16 ≤ n
        · exfalso
          rw [nmF_step s f pos n hp] at h
          unfold nmS at h
          split at h
          · simp at h
          · rw [nmF_long s f _ (n + 1) (by omega)] at h; simp at h
        · omega
      rw [nmF_step s f pos n hp] at h
      unfold nmS at h
      split at h
      · simp at h
      · have := nmF_size s f _ _ (by omega) h
        omega
    · omega
theorem name_size (s : ByteArray) (h : nameB s = true) : s.size ≤ 64 := by
  have := nmF_size s s.size 0 0 (by omega) h
  omega

theorem form_name {x : Nd} (h : formB x = true) : (chk x.name).2 = 0 ∧ x.name.size ≤ 64 := by
  unfold formB fitB at h
  simp only [Bool.and_eq_true] at h
  obtain ⟨_, h⟩ := h
  split at h
  · exact ⟨name_chk _ h, name_size _ h⟩
  · refine ⟨empty_chk _ h, ?_⟩
    rw [toList_data] at h
    have : x.name.data.toList = [] := by simpa using h
    show x.name.data.size ≤ 64
    rw [← Array.length_toList, this]; simp
theorem form_len {x y : Nd} (hx : formB x = true) (hy : formB y = true) (h : x.op = y.op) : x.kids.length = y.kids.length := by
  unfold formB fitB at hx hy
  simp only [Bool.and_eq_true, decide_eq_true_eq] at hx hy
  rw [h] at hx
  omega
theorem name_eq {a b : ByteArray} (ha : (chk a).2 = 0) (hb : (chk b).2 = 0) (h : ordI a b = 0) : a = b := by
  have := eq_good a b ha hb
  rw [h] at this
  simp only [decide_true, beq_iff_eq, toList_data] at this
  exact ByteArray.ext (Array.ext' this)

end Go.Proofs.YtpacjofepiojdaaDoor
