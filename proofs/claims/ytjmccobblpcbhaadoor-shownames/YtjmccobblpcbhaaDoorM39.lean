/-
  SnC, RsW, RlW, RsdW.
-/
import Derived.Test.YtjmccobblpcbhaaDoorChecked
import GoSem.PinnedTables
import GoSem.Claim
import GoSem.ClaimJoined
import GoSem.ClaimMapViews
import Derived.JoinedTies
import Derived.KernelRfl
import Derived.Shelf.Unicode.DecodeSlow
import Derived.Laws.RangeAny
import Derived.Shelf.Strings.Builder1
import Derived.Shelf.Small.Utf8
import Derived.Shelf.Small.Bits
import Derived.Shelf.Strings.BuilderF
import Derived.Shelf.Strings.BuilderK
import Derived.Shelf.Strings.BuilderRune
import Derived.Shelf.Utf8.AppendRune
import Derived.Shelf.Strconv.Itoa0
import Derived.Shelf.Strconv.Itoa1
import Derived.Shelf.LaysM
import Derived.Shelf.Strconv.Itoa2
import Derived.Shelf.Strconv.Itoa3
import Derived.Shelf.Strconv.Itoa4
import Derived.Shelf.Strings.Prefix
import Derived.Shelf.Unicode.DecodeAny
import Derived.Test.YtjmccobblpcbhaaDoorProg
import Derived.WalkKit
import Derived.Deep.DeepFit
import Derived.Lib.OthersKept
import Derived.Lib.RuneCountTail
import Derived.Lib.LaidU8
import Derived.MakeChecks
import Derived.ProofKit
import Derived.OpenShut
import Derived.Deep.DeepHandedRow
import Derived.Lib.MapLaws
import Derived.Sort.Walk0
import Derived.Laws.DeepStrings4
import Derived.Lib.ItoaNum
import Derived.Deep.AppendLies
import Derived.Deep.OwnRows
import Derived.Laws.AppendOwnNone
import Derived.Deep.QuietTactic
import Derived.BigQuiet
import Derived.Deep.RegionWith
import Derived.BigCall
import Derived.Lib.LaidTab
import Derived.Maps.OwnSet
import Derived.StringKeys
import Derived.Deep.Slices
import Derived.Lib.QuietBelow
import Derived.StillTail
import Derived.Laws.OwnMore
import Derived.Below
import Derived.Lib.Small
import Derived.Lib.Strings
import Derived.Deep.RegionHeld3
import Derived.Laws.ResultCell
import Derived.Deep.Heap
import Derived.Laws.Rows
import Derived.Deep.RegionLaw
import Derived.Recover
import Derived.Defers
import Derived.Laws.IdiomStrings
import Derived.Test.YtjmccobblpcbhaaDoorRows
import Derived.Test.YtjmccobblpcbhaaDoorM01
import Derived.Test.YtjmccobblpcbhaaDoorM02
import Derived.Test.YtjmccobblpcbhaaDoorM03
import Derived.Test.YtjmccobblpcbhaaDoorM04
import Derived.Test.YtjmccobblpcbhaaDoorM05
import Derived.Test.YtjmccobblpcbhaaDoorM06
import Derived.Test.YtjmccobblpcbhaaDoorM07
import Derived.Test.YtjmccobblpcbhaaDoorM08
import Derived.Test.YtjmccobblpcbhaaDoorM09
import Derived.Test.YtjmccobblpcbhaaDoorM10
import Derived.Test.YtjmccobblpcbhaaDoorM11
import Derived.Test.YtjmccobblpcbhaaDoorM12
import Derived.Test.YtjmccobblpcbhaaDoorM13
import Derived.Test.YtjmccobblpcbhaaDoorM14
import Derived.Test.YtjmccobblpcbhaaDoorM15
import Derived.Test.YtjmccobblpcbhaaDoorM16
import Derived.Test.YtjmccobblpcbhaaDoorM17
import Derived.Test.YtjmccobblpcbhaaDoorM18
import Derived.Test.YtjmccobblpcbhaaDoorM19
import Derived.Test.YtjmccobblpcbhaaDoorM20
import Derived.Test.YtjmccobblpcbhaaDoorM21
import Derived.Test.YtjmccobblpcbhaaDoorM22
import Derived.Test.YtjmccobblpcbhaaDoorM23
import Derived.Test.YtjmccobblpcbhaaDoorM24
import Derived.Test.YtjmccobblpcbhaaDoorM25
import Derived.Test.YtjmccobblpcbhaaDoorM26
import Derived.Test.YtjmccobblpcbhaaDoorM27
import Derived.Test.YtjmccobblpcbhaaDoorM28
import Derived.Test.YtjmccobblpcbhaaDoorM29
import Derived.Test.YtjmccobblpcbhaaDoorM30
import Derived.Test.YtjmccobblpcbhaaDoorM31
import Derived.Test.YtjmccobblpcbhaaDoorM32
import Derived.Test.YtjmccobblpcbhaaDoorM33
import Derived.Test.YtjmccobblpcbhaaDoorM34
import Derived.Test.YtjmccobblpcbhaaDoorM35
import Derived.Test.YtjmccobblpcbhaaDoorM36
import Derived.Test.YtjmccobblpcbhaaDoorM37
import Derived.Test.YtjmccobblpcbhaaDoorM38
set_option linter.unusedSimpArgs false
set_option linter.unusedVariables false
namespace Go.Proofs.YtjmccobblpcbhaaDoor
open Go.RowKit Go.Lib Go.Sort

theorem eqlG (F : Nat) (w : World) : (binOp .eql 63 (.func (.func F) #[] #[]) .nilFunc).run Tryd.prog w = .ok (.bool false) w := by kernel_rfl
structure BxS (p : Prop) : Prop where
  out : p
structure SMf (w : World) (B : Nat) (φ : ByteArray → ByteArray) (l : List Nd) (vo : Value) (k : Nat) (p : List (Nd × Value)) (wr : World) : Prop where
  own : OwnP wr B vo p
  nodes : p.map (·.1) = swP φ l k
  below : Below w.heap.size w wr

set_option maxRecDepth 20000 in
set_option maxHeartbeats 8000000 in
theorem swapF1_ok (w : World) (φ : ByteArray → ByteArray) (ao : Option Addr) (cap : Nat) (l : List Nd) (fr : List Nat) (T : SpanCells w) (hR : Rd w ao cap l) (h : begL l = some fr) (hφ : ∀ x ∈ l, x.op = 2 → nameB (φ x.name) = true)
    (hC : ∀ x ∈ l, x.op = 2 → ∀ W, Calls Tryd.prog 36 #[.string x.name] W fun e w' => e = .returned (.string (φ x.name)) ∧ Below W.heap.size W w') :
    Calls Tryd.prog 35 #[.slice ao l.length cap, .func (.func 36) #[] #[] ] w fun e w' => ∃ ao' cap', e = .returned (.tuple #[.slice ao' l.length cap', .int .i64 0]) ∧ Rd w' ao' cap' (l.map (swF φ)) ∧ Below w.heap.size w w' := by
  have HS : BxS (begL l = some fr) := ⟨h⟩
  have h64 := (begL_some h).2.1
  have hl0 := (begL_some h).1
  have HK : BxS (∀ x ∈ l, x.kids.length * 8 ≤ 140737488351232 ∧ ∀ k ∈ x.kids, -9000 ≤ k ∧ k ≤ 9000) := ⟨snd_kids1 h⟩
  have HT : BxS (∀ V, Below w.heap.size w V → SpanCells V) := ⟨fun V hV => T.below hV⟩
  have HCC : BxS (∀ k, k < l.length → (l.getD k nd0).op = 2 → nameB (φ (l.getD k nd0).name) = true ∧ ∀ W, Calls Tryd.prog 36 #[.string (l.getD k nd0).name] W fun e w' => e = .returned (.string (φ (l.getD k nd0).name)) ∧ Below W.heap.size W w') := ⟨fun k hk h2 => ⟨hφ _ (by simp [hk]) h2, hC _ (by simp [hk]) h2⟩⟩
  clear h T hφ hC
  have h1 := eqlG 36
  go_enter Tryd.func35, Tryd.ntmps35
  go_wp2_with fail
  refine (check_some _ l fr _ _ (Nat.le_refl _) (HT.out _ (Below.refl _ _)) hR HS.out).mono ?_
  rintro e w1 ⟨rfl, hb1⟩
  have hR1 := hR.below hb1 hb1.size
  have hs1 := hb1.size
  have HB1 : BxS (Below w.heap.size w w1) := ⟨hb1⟩
  clear hb1 hR
  go_wp2_with fail
  refine (add_p (.slice none 0 0) _ [] l 0 0 w1 w1.heap.size (Nat.le_refl _) ⟨World.ownsRow_nil _ _ _ _, by simp⟩ hR1 (by simp; omega) HK.out (by omega) (by omega)).mono ?_
  rintro e w2 ⟨vo, p0, rfl, hO2, hm2, hj1, hg2, hj2, hb2⟩
  have hb02 : Below w.heap.size w w2 := HB1.out.trans (hb2.mono hs1)
  have HM0 : BxS (SMf w w1.heap.size φ l vo 0 p0 w2) := ⟨⟨by simpa using hO2, by rw [hm2, map_mvN_zero, swP_zero], hb02⟩⟩
  have hp0 : p0.length = l.length := by have := congrArg List.length hm2; simpa using this
  obtain ⟨g, ocap, hvo, hgB⟩ : ∃ g ocap, vo = .slice (some ⟨g, 0, none⟩) l.length ocap ∧ w1.heap.size ≤ g := by
    rcases hO2.row.2 with ⟨rfl, h0⟩ | ⟨g, c, cur, rfl, hb, _⟩
    · simp at h0; subst h0; simp at hp0; omega
    · exact ⟨g, c, by simp [hp0], hb⟩
  subst hvo
  have hwB : w.heap.size ≤ w1.heap.size := hs1
  generalize w1.heap.size = B at *
  clear hj1 hj2 hO2 hm2 hg2 hb2 hb02 HB1 hR1 HK hs1 w1
  go_wp2_with fail
  go_loopw [19] (fun i wr => ∃ (k : Nat) (p : List (Nd × Value)), k ≤ l.length ∧ i = .int .i64 k ∧ SMf w B φ l (.slice (some ⟨g, 0, none⟩) l.length ocap) k p wr) (fun i _ => l.length - (RowKit.intOf i).toNat)
  case atStart => exact ⟨0, p0, by omega, rfl, HM0.out⟩
  case round =>
    obtain ⟨k, p, hk, rfl, hS⟩ := hrel
    clear HM0
    have HSM : BxS (SMf w B φ l (.slice (some ⟨g, 0, none⟩) l.length ocap) k p wr) := ⟨hS⟩
    have hpl : p.length = l.length := by have := congrArg List.length hS.nodes; rw [swP_len] at this; simpa using this
    by_cases hlt : k < l.length
    · have hCk := HCC.out k hlt
      obtain ⟨x, hx⟩ : ∃ x, l.getD k nd0 = x := ⟨_, rfl⟩
      have hN := Nodes_of_ownP hS.own (Nat.le_refl _)
      obtain ⟨ao', cap', e1, hl', hm', hc'⟩ := hN
      simp only [Value.slice.injEq] at e1
      obtain ⟨ea, el, ec⟩ := e1
      clear el
      subst ea
      subst ec
      have hcap : ocap ≤ maxLen := hm'
      unfold maxLen at hcap
      obtain ⟨hb', hcn⟩ : g < wr.heap.size ∧ ∀ i, i < (p.map (·.1)).length → ∃ kv, NodeAt wr wr.heap.size g (0 + i * 4) ((p.map (·.1)).getD i nd0) kv := by
        rcases hc' with h | ⟨b, o, h1, h2, h3⟩
        · have := congrArg List.length h; simp only [List.length_map, List.length_nil] at this; omega
        · cases h1; exact ⟨h2, h3⟩
      clear hc'
      obtain ⟨kv, hn⟩ := hcn k (by rw [List.length_map]; omega)
      have hxk : (p.map (·.1)).getD k nd0 = x := by rw [hS.nodes, swP_at _ _ _ hlt, hx]
      rw [hxk] at hn
      obtain ⟨c0, c1, c2, c3, hI⟩ := hn
      rw [Nat.zero_add] at c0 c1 c2 c3
      obtain ⟨ka, kc, hkv, _⟩ := id hI
      have HPK : BxS (p[k]? = some (x, kv)) := ⟨by
        have hpk : k < p.length := by omega
        have h0 := (ndCells_at p k (p[k]).1 (p[k]).2 (by simp [hpk])).2.2.2
        have e3 : (p[k]).1 = x := by rw [← hxk]; simp [hpk]
        have hrow := hS.own.row
        rw [hpl] at hrow
        rcases hrow.2 with ⟨h, _⟩ | ⟨g', cp, cur, h, _, hg', _, _, _, ht⟩
        · cases h
        · cases h
          have hcell : wr.cell? ⟨g, k * 4 + 3, none⟩ = cur[k * 4 + 3]? := by simp [World.cell?, hg']
          rw [hcell, ← Array.getElem?_toList] at c3
          have hlen := ndCells_length p
          have e4 : cur.toList[k * 4 + 3]? = (ndCells p)[k * 4 + 3]? := by
            rw [← ht, List.getElem?_take, if_pos (by omega)]
          rw [e4, h0] at c3
          simp at c3
          rw [List.getElem?_eq_getElem hpk, ← e3, ← c3]⟩
      have cf : wr.frozen? ⟨g, k * 4 + 2, none⟩ = false := by
        have hrow := hS.own.row
        rw [hpl] at hrow
        rcases hrow.2 with ⟨h, _⟩ | ⟨g', cp, cur, h, _, hg', _⟩
        · cases h
        · cases h
          simp [World.frozen?, hg']
      subst hkv
      have hgl := hb'
      have hgne : g ≠ wr.heap.size := by omega
      have HX : BxS (l.getD k nd0 = x) := ⟨hx⟩
      have HPL : BxS (p.length = l.length) := ⟨hpl⟩
      rw [hx] at hCk
      have HCK : BxS _ := ⟨hCk⟩
      clear hS hI hcn hl' hm' hxk hx hpl h1 hCk
      obtain ⟨op, n, nm, kids⟩ := x
      simp only at c0 c1 c2 c3
      by_cases hop : op = 2
      · subst hop
        have hbW : Below wr.heap.size wr (wr.alloc (.cells #[.int .i64 2, .int .i64 n, .string nm, .slice ka kids.length kc] 60)) := (Below.refl _ _).alloc (Nat.le_refl _) _
        have hbA : Below w.heap.size w (wr.alloc (.cells #[.int .i64 2, .int .i64 n, .string nm, .slice ka kids.length kc] 60)) := HSM.out.below.trans (hbW.mono HSM.out.below.size)
        have HOW : BxS (OwnP (wr.alloc (.cells #[.int .i64 2, .int .i64 n, .string nm, .slice ka kids.length kc] 60)) B (.slice (some ⟨g, 0, none⟩) l.length ocap) p) := ⟨HSM.out.own.below hbW⟩
        have HBA : BxS (Below w.heap.size w (wr.alloc (.cells #[.int .i64 2, .int .i64 n, .string nm, .slice ka kids.length kc] 60))) := ⟨hbA⟩
        have HGW : BxS (g < (wr.alloc (.cells #[.int .i64 2, .int .i64 n, .string nm, .slice ka kids.length kc] 60)).heap.size ∧ (wr.alloc (.cells #[.int .i64 2, .int .i64 n, .string nm, .slice ka kids.length kc] 60)).heap[g]? = wr.heap[g]?) := ⟨⟨by rw [World.size_alloc]; omega, Deep.blk_alloc_lt _ _ _ hgl⟩⟩
        have CA : BxS (∀ W, Calls Tryd.prog 36 #[.string nm] W fun e w' => e = .returned (.string (φ nm)) ∧ Below W.heap.size W w') := ⟨(HCK.out rfl).2⟩
        have HNM : BxS (nameB (φ nm) = true) := ⟨(HCK.out rfl).1⟩
        clear hbW hbA HCK
        go_wp2_with fail
        generalize (wr.alloc (.cells #[.int .i64 2, .int .i64 n, .string nm, .slice ka kids.length kc] 60)) = W1 at *
        refine (CA.out W1).mono ?_
        rintro e w3 ⟨rfl, hb3⟩
        have HB3 : BxS (Below w.heap.size w w3) := ⟨HBA.out.trans (hb3.mono HBA.out.size)⟩
        have HO3 : BxS (OwnP w3 B (.slice (some ⟨g, 0, none⟩) l.length ocap) p) := ⟨HOW.out.below hb3⟩
        have hgg : w3.heap[g]? = wr.heap[g]? := (hb3.block g HGW.out.1).trans HGW.out.2
        have hg3 : g < w3.heap.size := Nat.lt_of_lt_of_le HGW.out.1 hb3.size
        have d2 : w3.cell? ⟨g, k * 4 + 2, none⟩ = some (.string nm) := (World.cell?_of_block (a := ⟨g, k * 4 + 2, none⟩) hgg).trans c2
        have d2f : w3.frozen? ⟨g, k * 4 + 2, none⟩ = false := (World.frozen?_of_block (a := ⟨g, k * 4 + 2, none⟩) hgg).trans cf
        obtain ⟨s, hs⟩ : ∃ s, φ nm = s := ⟨_, rfl⟩
        have HSN : BxS (φ nm = s) := ⟨hs⟩
        have CN : BxS (Calls Tryd.prog 70 #[.string s] w3 fun e w' => e = .returned (.bool true) ∧ Below w3.heap.size w3 w') := ⟨by
          have := name_spans s w3 (HT.out _ HB3.out)
          rw [← hs, HNM.out, hs] at this
          exact this⟩
        rw [hs]
        clear hs hb3 hgg
        go_wp2_with fail
        refine CN.out.mono ?_
        rintro e w4 ⟨rfl, hb4⟩
        have e2 : w4.cell? ⟨g, k * 4 + 2, none⟩ = some (.string nm) := (hb4.cell (p := ⟨g, k * 4 + 2, none⟩) hg3).trans d2
        have e2f : w4.frozen? ⟨g, k * 4 + 2, none⟩ = false := (hb4.frozen (p := ⟨g, k * 4 + 2, none⟩) hg3).trans d2f
        have HNX : BxS (SMf w B φ l (.slice (some ⟨g, 0, none⟩) l.length ocap) (k + 1) (p.set k (⟨2, n, s, kids⟩, .slice ka kids.length kc)) (w4.setCell ⟨g, k * 4 + 2, none⟩ (.string s))) := ⟨by
          have hO4 := HO3.out.below hb4
          have hB4 := HB3.out.trans (hb4.mono HB3.out.size)
          refine ⟨?_, ?_, hB4.setCell (by show w.heap.size ≤ g; omega) _⟩
          · have h1 := ownP_put (s := s) (k := k) (by rw [HPL.out]; exact hO4) HPK.out
            rw [HPL.out] at h1
            exact h1
          · rw [List.map_set, HSM.out.nodes, swP_succ φ l k hlt, HX.out]
            congr 1
            unfold swF
            rw [if_pos rfl]
            simp only
            rw [HSN.out]⟩
        clear hb4 d2 d2f
        go_wp2_with fail
        first | exact ⟨⟨k + 1, _, by omega, by go_num, HNX.out⟩, by simp [RowKit.intOf]; omega⟩ | exact ⟨⟨k + 1, by omega, by go_num, _, HNX.out⟩, by simp [RowKit.intOf]; omega⟩
      · have hop' : (op == 2) = false := by simp [hop]
        have HNX : BxS (SMf w B φ l (.slice (some ⟨g, 0, none⟩) l.length ocap) (k + 1) p (wr.alloc (.cells #[.int .i64 op, .int .i64 n, .string nm, .slice ka kids.length kc] 60))) := ⟨by
          have hb : Below wr.heap.size wr (wr.alloc (.cells #[.int .i64 op, .int .i64 n, .string nm, .slice ka kids.length kc] 60)) := (Below.refl _ _).alloc (Nat.le_refl _) _
          exact ⟨HSM.out.own.below hb, by rw [HSM.out.nodes, swP_not φ l k hlt (by rw [HX.out]; exact hop)], HSM.out.below.trans (hb.mono HSM.out.below.size)⟩⟩
        clear HCK
        go_wp2_with fail
        first | exact ⟨⟨k + 1, p, by omega, by go_num, HNX.out⟩, by simp [RowKit.intOf]; omega⟩ | exact ⟨⟨k + 1, by omega, by go_num, p, HNX.out⟩, by simp [RowKit.intOf]; omega⟩
    · have hke : k = l.length := by omega
      subst hke
      clear hS
      go_wp2_with fail
      go_ret2
      refine ⟨some ⟨g, 0, none⟩, ocap, rfl, ?_, HSM.out.below⟩
      have hN := Nodes_of_ownP HSM.out.own (Nat.le_refl _)
      rw [HSM.out.nodes, swP_all] at hN
      unfold Rd
      rw [List.length_map]; exact hN
set_option maxRecDepth 20000 in
set_option maxHeartbeats 8000000 in
theorem swapF2_ok (w : World) (φ : ByteArray → ByteArray) (ao : Option Addr) (cap : Nat) (l : List Nd) (fr : List Nat) (T : SpanCells w) (hR : Rd w ao cap l) (h : begL l = some fr) (hφ : ∀ x ∈ l, x.op = 2 → nameB (φ x.name) = true)
    (hC : ∀ x ∈ l, x.op = 2 → ∀ W, Calls Tryd.prog 37 #[.string x.name] W fun e w' => e = .returned (.string (φ x.name)) ∧ Below W.heap.size W w') :
    Calls Tryd.prog 35 #[.slice ao l.length cap, .func (.func 37) #[] #[] ] w fun e w' => ∃ ao' cap', e = .returned (.tuple #[.slice ao' l.length cap', .int .i64 0]) ∧ Rd w' ao' cap' (l.map (swF φ)) ∧ Below w.heap.size w w' := by
  have HS : BxS (begL l = some fr) := ⟨h⟩
  have h64 := (begL_some h).2.1
  have hl0 := (begL_some h).1
  have HK : BxS (∀ x ∈ l, x.kids.length * 8 ≤ 140737488351232 ∧ ∀ k ∈ x.kids, -9000 ≤ k ∧ k ≤ 9000) := ⟨snd_kids1 h⟩
  have HT : BxS (∀ V, Below w.heap.size w V → SpanCells V) := ⟨fun V hV => T.below hV⟩
  have HCC : BxS (∀ k, k < l.length → (l.getD k nd0).op = 2 → nameB (φ (l.getD k nd0).name) = true ∧ ∀ W, Calls Tryd.prog 37 #[.string (l.getD k nd0).name] W fun e w' => e = .returned (.string (φ (l.getD k nd0).name)) ∧ Below W.heap.size W w') := ⟨fun k hk h2 => ⟨hφ _ (by simp [hk]) h2, hC _ (by simp [hk]) h2⟩⟩
  clear h T hφ hC
  have h1 := eqlG 37
  go_enter Tryd.func35, Tryd.ntmps35
  go_wp2_with fail
  refine (check_some _ l fr _ _ (Nat.le_refl _) (HT.out _ (Below.refl _ _)) hR HS.out).mono ?_
  rintro e w1 ⟨rfl, hb1⟩
  have hR1 := hR.below hb1 hb1.size
  have hs1 := hb1.size
  have HB1 : BxS (Below w.heap.size w w1) := ⟨hb1⟩
  clear hb1 hR
  go_wp2_with fail
  refine (add_p (.slice none 0 0) _ [] l 0 0 w1 w1.heap.size (Nat.le_refl _) ⟨World.ownsRow_nil _ _ _ _, by simp⟩ hR1 (by simp; omega) HK.out (by omega) (by omega)).mono ?_
  rintro e w2 ⟨vo, p0, rfl, hO2, hm2, hj1, hg2, hj2, hb2⟩
  have hb02 : Below w.heap.size w w2 := HB1.out.trans (hb2.mono hs1)
  have HM0 : BxS (SMf w w1.heap.size φ l vo 0 p0 w2) := ⟨⟨by simpa using hO2, by rw [hm2, map_mvN_zero, swP_zero], hb02⟩⟩
  have hp0 : p0.length = l.length := by have := congrArg List.length hm2; simpa using this
  obtain ⟨g, ocap, hvo, hgB⟩ : ∃ g ocap, vo = .slice (some ⟨g, 0, none⟩) l.length ocap ∧ w1.heap.size ≤ g := by
    rcases hO2.row.2 with ⟨rfl, h0⟩ | ⟨g, c, cur, rfl, hb, _⟩
    · simp at h0; subst h0; simp at hp0; omega
    · exact ⟨g, c, by simp [hp0], hb⟩
  subst hvo
  have hwB : w.heap.size ≤ w1.heap.size := hs1
  generalize w1.heap.size = B at *
  clear hj1 hj2 hO2 hm2 hg2 hb2 hb02 HB1 hR1 HK hs1 w1
  go_wp2_with fail
  go_loopw [19] (fun i wr => ∃ (k : Nat) (p : List (Nd × Value)), k ≤ l.length ∧ i = .int .i64 k ∧ SMf w B φ l (.slice (some ⟨g, 0, none⟩) l.length ocap) k p wr) (fun i _ => l.length - (RowKit.intOf i).toNat)
  case atStart => exact ⟨0, p0, by omega, rfl, HM0.out⟩
  case round =>
    obtain ⟨k, p, hk, rfl, hS⟩ := hrel
    clear HM0
    have HSM : BxS (SMf w B φ l (.slice (some ⟨g, 0, none⟩) l.length ocap) k p wr) := ⟨hS⟩
    have hpl : p.length = l.length := by have := congrArg List.length hS.nodes; rw [swP_len] at this; simpa using this
    by_cases hlt : k < l.length
    · have hCk := HCC.out k hlt
      obtain ⟨x, hx⟩ : ∃ x, l.getD k nd0 = x := ⟨_, rfl⟩
      have hN := Nodes_of_ownP hS.own (Nat.le_refl _)
      obtain ⟨ao', cap', e1, hl', hm', hc'⟩ := hN
      simp only [Value.slice.injEq] at e1
      obtain ⟨ea, el, ec⟩ := e1
      clear el
      subst ea
      subst ec
      have hcap : ocap ≤ maxLen := hm'
      unfold maxLen at hcap
      obtain ⟨hb', hcn⟩ : g < wr.heap.size ∧ ∀ i, i < (p.map (·.1)).length → ∃ kv, NodeAt wr wr.heap.size g (0 + i * 4) ((p.map (·.1)).getD i nd0) kv := by
        rcases hc' with h | ⟨b, o, h1, h2, h3⟩
        · have := congrArg List.length h; simp only [List.length_map, List.length_nil] at this; omega
        · cases h1; exact ⟨h2, h3⟩
      clear hc'
      obtain ⟨kv, hn⟩ := hcn k (by rw [List.length_map]; omega)
      have hxk : (p.map (·.1)).getD k nd0 = x := by rw [hS.nodes, swP_at _ _ _ hlt, hx]
      rw [hxk] at hn
      obtain ⟨c0, c1, c2, c3, hI⟩ := hn
      rw [Nat.zero_add] at c0 c1 c2 c3
      obtain ⟨ka, kc, hkv, _⟩ := id hI
      have HPK : BxS (p[k]? = some (x, kv)) := ⟨by
        have hpk : k < p.length := by omega
        have h0 := (ndCells_at p k (p[k]).1 (p[k]).2 (by simp [hpk])).2.2.2
        have e3 : (p[k]).1 = x := by rw [← hxk]; simp [hpk]
        have hrow := hS.own.row
        rw [hpl] at hrow
        rcases hrow.2 with ⟨h, _⟩ | ⟨g', cp, cur, h, _, hg', _, _, _, ht⟩
        · cases h
        · cases h
          have hcell : wr.cell? ⟨g, k * 4 + 3, none⟩ = cur[k * 4 + 3]? := by simp [World.cell?, hg']
          rw [hcell, ← Array.getElem?_toList] at c3
          have hlen := ndCells_length p
          have e4 : cur.toList[k * 4 + 3]? = (ndCells p)[k * 4 + 3]? := by
            rw [← ht, List.getElem?_take, if_pos (by omega)]
          rw [e4, h0] at c3
          simp at c3
          rw [List.getElem?_eq_getElem hpk, ← e3, ← c3]⟩
      have cf : wr.frozen? ⟨g, k * 4 + 2, none⟩ = false := by
        have hrow := hS.own.row
        rw [hpl] at hrow
        rcases hrow.2 with ⟨h, _⟩ | ⟨g', cp, cur, h, _, hg', _⟩
        · cases h
        · cases h
          simp [World.frozen?, hg']
      subst hkv
      have hgl := hb'
      have hgne : g ≠ wr.heap.size := by omega
      have HX : BxS (l.getD k nd0 = x) := ⟨hx⟩
      have HPL : BxS (p.length = l.length) := ⟨hpl⟩
      rw [hx] at hCk
      have HCK : BxS _ := ⟨hCk⟩
      clear hS hI hcn hl' hm' hxk hx hpl h1 hCk
      obtain ⟨op, n, nm, kids⟩ := x
      simp only at c0 c1 c2 c3
      by_cases hop : op = 2
      · subst hop
        have hbW : Below wr.heap.size wr (wr.alloc (.cells #[.int .i64 2, .int .i64 n, .string nm, .slice ka kids.length kc] 60)) := (Below.refl _ _).alloc (Nat.le_refl _) _
        have hbA : Below w.heap.size w (wr.alloc (.cells #[.int .i64 2, .int .i64 n, .string nm, .slice ka kids.length kc] 60)) := HSM.out.below.trans (hbW.mono HSM.out.below.size)
        have HOW : BxS (OwnP (wr.alloc (.cells #[.int .i64 2, .int .i64 n, .string nm, .slice ka kids.length kc] 60)) B (.slice (some ⟨g, 0, none⟩) l.length ocap) p) := ⟨HSM.out.own.below hbW⟩
        have HBA : BxS (Below w.heap.size w (wr.alloc (.cells #[.int .i64 2, .int .i64 n, .string nm, .slice ka kids.length kc] 60))) := ⟨hbA⟩
        have HGW : BxS (g < (wr.alloc (.cells #[.int .i64 2, .int .i64 n, .string nm, .slice ka kids.length kc] 60)).heap.size ∧ (wr.alloc (.cells #[.int .i64 2, .int .i64 n, .string nm, .slice ka kids.length kc] 60)).heap[g]? = wr.heap[g]?) := ⟨⟨by rw [World.size_alloc]; omega, Deep.blk_alloc_lt _ _ _ hgl⟩⟩
        have CA : BxS (∀ W, Calls Tryd.prog 37 #[.string nm] W fun e w' => e = .returned (.string (φ nm)) ∧ Below W.heap.size W w') := ⟨(HCK.out rfl).2⟩
        have HNM : BxS (nameB (φ nm) = true) := ⟨(HCK.out rfl).1⟩
        clear hbW hbA HCK
        go_wp2_with fail
        generalize (wr.alloc (.cells #[.int .i64 2, .int .i64 n, .string nm, .slice ka kids.length kc] 60)) = W1 at *
        refine (CA.out W1).mono ?_
        rintro e w3 ⟨rfl, hb3⟩
        have HB3 : BxS (Below w.heap.size w w3) := ⟨HBA.out.trans (hb3.mono HBA.out.size)⟩
        have HO3 : BxS (OwnP w3 B (.slice (some ⟨g, 0, none⟩) l.length ocap) p) := ⟨HOW.out.below hb3⟩
        have hgg : w3.heap[g]? = wr.heap[g]? := (hb3.block g HGW.out.1).trans HGW.out.2
        have hg3 : g < w3.heap.size := Nat.lt_of_lt_of_le HGW.out.1 hb3.size
        have d2 : w3.cell? ⟨g, k * 4 + 2, none⟩ = some (.string nm) := (World.cell?_of_block (a := ⟨g, k * 4 + 2, none⟩) hgg).trans c2
        have d2f : w3.frozen? ⟨g, k * 4 + 2, none⟩ = false := (World.frozen?_of_block (a := ⟨g, k * 4 + 2, none⟩) hgg).trans cf
        obtain ⟨s, hs⟩ : ∃ s, φ nm = s := ⟨_, rfl⟩
        have HSN : BxS (φ nm = s) := ⟨hs⟩
        have CN : BxS (Calls Tryd.prog 70 #[.string s] w3 fun e w' => e = .returned (.bool true) ∧ Below w3.heap.size w3 w') := ⟨by
          have := name_spans s w3 (HT.out _ HB3.out)
          rw [← hs, HNM.out, hs] at this
          exact this⟩
        rw [hs]
        clear hs hb3 hgg
        go_wp2_with fail
        refine CN.out.mono ?_
        rintro e w4 ⟨rfl, hb4⟩
        have e2 : w4.cell? ⟨g, k * 4 + 2, none⟩ = some (.string nm) := (hb4.cell (p := ⟨g, k * 4 + 2, none⟩) hg3).trans d2
        have e2f : w4.frozen? ⟨g, k * 4 + 2, none⟩ = false := (hb4.frozen (p := ⟨g, k * 4 + 2, none⟩) hg3).trans d2f
        have HNX : BxS (SMf w B φ l (.slice (some ⟨g, 0, none⟩) l.length ocap) (k + 1) (p.set k (⟨2, n, s, kids⟩, .slice ka kids.length kc)) (w4.setCell ⟨g, k * 4 + 2, none⟩ (.string s))) := ⟨by
          have hO4 := HO3.out.below hb4
          have hB4 := HB3.out.trans (hb4.mono HB3.out.size)
          refine ⟨?_, ?_, hB4.setCell (by show w.heap.size ≤ g; omega) _⟩
          · have h1 := ownP_put (s := s) (k := k) (by rw [HPL.out]; exact hO4) HPK.out
            rw [HPL.out] at h1
            exact h1
          · rw [List.map_set, HSM.out.nodes, swP_succ φ l k hlt, HX.out]
            congr 1
            unfold swF
            rw [if_pos rfl]
            simp only
            rw [HSN.out]⟩
        clear hb4 d2 d2f
        go_wp2_with fail
        first | exact ⟨⟨k + 1, _, by omega, by go_num, HNX.out⟩, by simp [RowKit.intOf]; omega⟩ | exact ⟨⟨k + 1, by omega, by go_num, _, HNX.out⟩, by simp [RowKit.intOf]; omega⟩
      · have hop' : (op == 2) = false := by simp [hop]
        have HNX : BxS (SMf w B φ l (.slice (some ⟨g, 0, none⟩) l.length ocap) (k + 1) p (wr.alloc (.cells #[.int .i64 op, .int .i64 n, .string nm, .slice ka kids.length kc] 60))) := ⟨by
          have hb : Below wr.heap.size wr (wr.alloc (.cells #[.int .i64 op, .int .i64 n, .string nm, .slice ka kids.length kc] 60)) := (Below.refl _ _).alloc (Nat.le_refl _) _
          exact ⟨HSM.out.own.below hb, by rw [HSM.out.nodes, swP_not φ l k hlt (by rw [HX.out]; exact hop)], HSM.out.below.trans (hb.mono HSM.out.below.size)⟩⟩
        clear HCK
        go_wp2_with fail
        first | exact ⟨⟨k + 1, p, by omega, by go_num, HNX.out⟩, by simp [RowKit.intOf]; omega⟩ | exact ⟨⟨k + 1, by omega, by go_num, p, HNX.out⟩, by simp [RowKit.intOf]; omega⟩
    · have hke : k = l.length := by omega
      subst hke
      clear hS
      go_wp2_with fail
      go_ret2
      refine ⟨some ⟨g, 0, none⟩, ocap, rfl, ?_, HSM.out.below⟩
      have hN := Nodes_of_ownP HSM.out.own (Nat.le_refl _)
      rw [HSM.out.nodes, swP_all] at hN
      unfold Rd
      rw [List.length_map]; exact hN
end Go.Proofs.YtjmccobblpcbhaaDoor

set_option linter.unusedSimpArgs false
set_option linter.unusedVariables false
namespace Go.Proofs.YtjmccobblpcbhaaDoor
open Go.RowKit Go.Lib Go.Sort

/-- While the parts are gathered. -/
structure RsMid (w : World) (cs : Array Value) (v : Value) (k : Nat) (ts : List ByteArray) (wr : World) : Prop where
  row : wr.ownsRow (w.heap.size + 1) 9 1 v k (ts.map Value.string)
  blk : wr.heap[w.heap.size]? = some (.cells cs 60 (0, 0))
  below : Below w.heap.size w wr
theorem RsMid.up {w : World} {cs : Array Value} {v : Value} {k : Nat} {ts : List ByteArray} {wr w2 : World} (h : RsMid w cs v k ts wr) (hb : Below wr.heap.size wr w2) : RsMid w cs v k ts w2 :=
  ⟨ownsRow_below h.row hb, (hb.block _ (lt_of_block h.blk)).trans h.blk, h.below.trans (hb.mono h.below.size)⟩
theorem RsMid.app {w : World} {cs : Array Value} {v : Value} {k : Nat} {ts : List ByteArray} {w2 w6 : World} {o : Obj} {g cap : Nat} {s : ByteArray} (h : RsMid w cs v k ts w2)
    (hown : w6.ownsRow (w.heap.size + 1) 9 1 (.slice (some ⟨g, 0, none⟩) (k + 1) cap) (k + 1) (ts.map Value.string ++ [.string s])) (hg : (w2.alloc o).grownBy w6 v.ownBlock) : RsMid w cs (.slice (some ⟨g, 0, none⟩) (k + 1) cap) (k + 1) (ts ++ [s]) w6 := by
  have hs := lt_of_block h.blk
  have hz : (w2.alloc o).heap.size = w2.heap.size + 1 := by simp
  have hne : some w.heap.size ≠ v.ownBlock := fun e => by have := (own_block' h.row _ e.symm).1; omega
  refine ⟨by rw [List.map_append]; exact hown, ?_, (h.below.alloc (by omega) _).grown hg (by omega) (fun j hj => by have := (own_block' h.row j hj).1; omega)⟩
  exact ((hg.block _ (by omega) hne).trans (alloc_old w2 o _ (by omega))).trans h.blk

end Go.Proofs.YtjmccobblpcbhaaDoor

set_option linter.unusedSimpArgs false
set_option linter.unusedVariables false
namespace Go.Proofs.YtjmccobblpcbhaaDoor
open Go.RowKit Go.Lib

structure RlMid (w : World) (cs : Array Value) (wr : World) : Prop where
  blk : wr.heap[w.heap.size]? = some (.cells cs 60 (0, 0))
  below : Below w.heap.size w wr
theorem RlMid.up {w : World} {cs : Array Value} {wr w2 : World} (h : RlMid w cs wr) (hb : Below wr.heap.size wr w2) : RlMid w cs w2 :=
  ⟨(hb.block _ (lt_of_block h.blk)).trans h.blk, h.below.trans (hb.mono h.below.size)⟩
end Go.Proofs.YtjmccobblpcbhaaDoor

set_option linter.unusedSimpArgs false
set_option linter.unusedVariables false

namespace Go.Proofs.YtjmccobblpcbhaaDoor
open Go.RowKit Go.Lib

/-- Between two nodes of the copy. -/
structure RdMid (w : World) (l : List Nd) (v : Value) (k : Nat) (wr : World) : Prop where
  p : ∃ p, p.map (·.1) = (l.take k).map fillN ++ l.drop k ∧ OwnP wr w.heap.size v p
  below : Below w.heap.size w wr
theorem RdMid.at_ {w : World} {l : List Nd} {v : Value} {k : Nat} {wr : World} (h : RdMid w l v k wr) (hk : k < l.length) : ∃ g cap, v = .slice (some ⟨g, 0, none⟩) l.length cap ∧ w.heap.size ≤ g ∧ g < wr.heap.size ∧ l.length ≤ cap ∧ cap ≤ maxLen ∧ wr.cell? ⟨g, k * 4, none⟩ = some (.int .i64 (l.getD k nd0).op) ∧ wr.frozen? ⟨g, k * 4, none⟩ = false := by
  obtain ⟨⟨p, hp, hc⟩, hb⟩ := h
  have hpl : p.length = l.length := by have := congrArg List.length hp; simp at this; omega
  rcases hc.row.2 with ⟨rfl, h0⟩ | ⟨g, cap, cur, rfl, hg0, hg, h1, h2, h3, h4⟩
  · omega
  · refine ⟨g, cap, by rw [hpl], hg0, lt_of_block hg, by omega, h2, ?_, frozen_of_heap hg _⟩
    have hp2 : p[k]? = some (p[k].1, p[k].2) := by simp [hpl, hk]
    have := (ndCells_at p k _ _ hp2).1
    have hx : ((l.take k).map fillN ++ l.drop k)[k]? = some l[k] := by
      rw [List.getElem?_append_right (by simp; omega)]
      have : k - ((l.take k).map fillN).length = 0 := by simp; omega
      rw [this]; simp [hk]
    have hkp : k < p.length := by omega
    have e : p[k].1 = l.getD k nd0 := by
      have h5 : (p.map (·.1))[k]? = some l[k] := by rw [hp]; exact hx
      simp [hkp] at h5
      simp [hk, h5]
    rw [cell_of_heap hg, ← Array.getElem?_toList, ← e, ← this, ← h4, List.getElem?_take, if_pos (by omega)]
theorem RdMid.skip {w : World} {l : List Nd} {v : Value} {k : Nat} {wr : World} (h : RdMid w l v k wr) (hk : k < l.length) (hop : (l.getD k nd0).op ≠ 18) : RdMid w l v (k + 1) wr := by
  obtain ⟨⟨p, hp, hc⟩, hb⟩ := h
  exact ⟨⟨p, by rw [fill_step hk hop]; exact hp, hc⟩, hb⟩
theorem RdMid.fill {w : World} {l : List Nd} {g cap k : Nat} {wr : World} (h : RdMid w l (.slice (some ⟨g, 0, none⟩) l.length cap) k wr) (hk : k < l.length) (hop : (l.getD k nd0).op = 18) : RdMid w l (.slice (some ⟨g, 0, none⟩) l.length cap) (k + 1) (wr.setCell ⟨g, k * 4, none⟩ (.int .i64 2)) := by
  obtain ⟨g', cap', e1, hg0, _⟩ := h.at_ hk
  cases e1
  obtain ⟨⟨p, hp, hc⟩, hb⟩ := h
  have hpl : p.length = l.length := by have := congrArg List.length hp; simp at this; omega
  have e : l.getD k nd0 = l[k] := by simp [hk]
  have hx : ((l.take k).map fillN ++ l.drop k)[k]? = some l[k] := by
    rw [List.getElem?_append_right (by simp; omega)]
    have : k - ((l.take k).map fillN).length = 0 := by simp; omega
    rw [this]; simp [hk]
  have hpk : p[k]? = some (l[k], (p.getD k (nd0, .slice none 0 0)).2) := by
    have hkp : k < p.length := by omega
    have : (p.map (·.1))[k]? = some l[k] := by rw [hp]; exact hx
    simp [hkp] at this
    simp [hkp, ← this]
  have hfl : fillN l[k] = { l[k] with op := 2 } := by rw [e] at hop; simp [fillN, hop]
  have hrow : wr.ownsRow w.heap.size 60 4 (.slice (some ⟨g, 0, none⟩) l.length cap) l.length (ndCells p) := by have := hc.row; rwa [hpl] at this
  refine ⟨⟨p.set k ({ l[k] with op := 2 }, (p.getD k (nd0, .slice none 0 0)).2), ?_, ?_, ?_⟩, hb.setCell (p := ⟨g, k * 4, none⟩) hg0 _⟩
  · rw [List.map_set, hp, ← hfl]
    rw [List.take_succ_eq_append_getElem hk, List.map_append, List.set_append_right _ _ (by simp; omega)]
    have : k - ((l.take k).map fillN).length = 0 := by simp; omega
    rw [this, List.drop_eq_getElem_cons hk, List.set_cons_zero, List.append_assoc]
    rfl
  · rw [ndCells_op p k _ _ 2 hpk, List.length_set, hpl]
    exact own_put hrow (by rw [ndCells_length]; omega)
  · intro q hq
    have hin : ∀ q ∈ p, OwnI (wr.setCell ⟨g, k * 4, none⟩ (.int .i64 2)) w.heap.size q.2 q.1.kids := fun q hq => row_set (hc.kids q hq) (fun j hj e => by
      subst e
      rcases ownBlock_ne (hc.kids q hq) hc.row (by decide) with h | h
      · rw [h] at hj; cases hj
      · exact h hj) _ _
    rcases List.mem_or_eq_of_mem_set hq with hq | rfl
    · exact hin q hq
    · exact hin (l[k], _) (List.mem_of_getElem? hpk)

end Go.Proofs.YtjmccobblpcbhaaDoor
