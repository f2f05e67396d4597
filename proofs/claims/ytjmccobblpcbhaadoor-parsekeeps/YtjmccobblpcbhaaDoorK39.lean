/-
  PaKp.
-/
import Derived.Test.YtjmccobblpcbhaaDoorChecked
import GoSem.PinnedTables
import GoSem.Claim
import GoSem.ClaimJoined
import GoSem.ClaimMapViews
import Derived.JoinedTies
import Derived.KernelRfl
import Derived.Shelf.Unicode.DecodeSlow
import Derived.Laws.RangeAny
import Derived.Shelf.Strings.Builder1
import Derived.Shelf.Small.Utf8
import Derived.Shelf.Small.Bits
import Derived.Shelf.Strings.BuilderF
import Derived.Shelf.Strings.BuilderK
import Derived.Shelf.Strings.BuilderRune
import Derived.Shelf.Utf8.AppendRune
import Derived.Shelf.Strconv.Itoa0
import Derived.Shelf.Strconv.Itoa1
import Derived.Shelf.LaysM
import Derived.Shelf.Strconv.Itoa2
import Derived.Shelf.Strconv.Itoa3
import Derived.Shelf.Strconv.Itoa4
import Derived.Shelf.Strings.Prefix
import Derived.Shelf.Unicode.DecodeAny
import Derived.Test.YtjmccobblpcbhaaDoorProg
import Derived.WalkKit
import Derived.Deep.DeepFit
import Derived.Lib.OthersKept
import Derived.Lib.RuneCountTail
import Derived.Lib.LaidU8
import Derived.MakeChecks
import Derived.ProofKit
import Derived.OpenShut
import Derived.Deep.DeepHandedRow
import Derived.Lib.Small
import Derived.Lib.Strings
import Derived.Lib.MapLaws
import Derived.Deep.AppendLies
import Derived.Deep.OwnRows
import Derived.Laws.AppendOwnNone
import Derived.Deep.QuietTactic
import Derived.BigQuiet
import Derived.Deep.RegionWith
import Derived.Laws.DeepStrings4
import Derived.Deep.RegionHeld3
import Derived.Laws.ResultCell
import Derived.Lib.QuietBelow
import Derived.Deep.Heap
import Derived.Laws.Rows
import Derived.Below
import Derived.StillTail
import Derived.Sort.Walk0
import Derived.Deep.RegionLaw
import Derived.Laws.OwnMore
import Derived.Lib.ItoaNum
import Derived.Maps.OwnSet
import Derived.StringKeys
import Derived.Test.YtjmccobblpcbhaaDoorRows
import Derived.Test.YtjmccobblpcbhaaDoorK01
import Derived.Test.YtjmccobblpcbhaaDoorK02
import Derived.Test.YtjmccobblpcbhaaDoorK03
import Derived.Test.YtjmccobblpcbhaaDoorK04
import Derived.Test.YtjmccobblpcbhaaDoorK05
import Derived.Test.YtjmccobblpcbhaaDoorK06
import Derived.Test.YtjmccobblpcbhaaDoorK07
import Derived.Test.YtjmccobblpcbhaaDoorK08
import Derived.Test.YtjmccobblpcbhaaDoorK09
import Derived.Test.YtjmccobblpcbhaaDoorK10
import Derived.Test.YtjmccobblpcbhaaDoorK11
import Derived.Test.YtjmccobblpcbhaaDoorK12
import Derived.Test.YtjmccobblpcbhaaDoorK13
import Derived.Test.YtjmccobblpcbhaaDoorK14
import Derived.Test.YtjmccobblpcbhaaDoorK15
import Derived.Test.YtjmccobblpcbhaaDoorK16
import Derived.Test.YtjmccobblpcbhaaDoorK17
import Derived.Test.YtjmccobblpcbhaaDoorK18
import Derived.Test.YtjmccobblpcbhaaDoorK19
import Derived.Test.YtjmccobblpcbhaaDoorK20
import Derived.Test.YtjmccobblpcbhaaDoorK21
import Derived.Test.YtjmccobblpcbhaaDoorK22
import Derived.Test.YtjmccobblpcbhaaDoorK23
import Derived.Test.YtjmccobblpcbhaaDoorK24
import Derived.Test.YtjmccobblpcbhaaDoorK25
import Derived.Test.YtjmccobblpcbhaaDoorK26
import Derived.Test.YtjmccobblpcbhaaDoorK27
import Derived.Test.YtjmccobblpcbhaaDoorK28
import Derived.Test.YtjmccobblpcbhaaDoorK29
import Derived.Test.YtjmccobblpcbhaaDoorK30
import Derived.Test.YtjmccobblpcbhaaDoorK31
import Derived.Test.YtjmccobblpcbhaaDoorK32
import Derived.Test.YtjmccobblpcbhaaDoorK33
import Derived.Test.YtjmccobblpcbhaaDoorK34
import Derived.Test.YtjmccobblpcbhaaDoorK35
import Derived.Test.YtjmccobblpcbhaaDoorK36
import Derived.Test.YtjmccobblpcbhaaDoorK37
import Derived.Test.YtjmccobblpcbhaaDoorK38
set_option linter.unusedSimpArgs false
set_option linter.unusedVariables false
namespace Go.Proofs.YtjmccobblpcbhaaDoor
open Go.RowKit Go.Lib Go.Sort

theorem read_few {s : ByteArray} {pat : Bool} {most : Nat} {a : List Nd} (h : psRead s pat most = .ok a) : a.length ≤ most ∧ ∀ x ∈ a, x.kids.length ≤ 3 := by
  rw [read_eq] at h
  unfold rdWhole at h
  split at h
  · cases h
  · split at h
    · obtain ⟨r, h1, h⟩ := Pr.bind_ok h
      unfold rdX at h1
      obtain ⟨t, ht, h1⟩ := Pr.bind_ok h1
      obtain ⟨t2, _, h⟩ := Pr.bind_ok h
      have hk := rd_up s pat _ .cond t 0 r (fun _ _ e => by cases e) h1
      split at h
      · cases h
      · split at h
        · cases h
        · rename_i hm
          split at h
          · cases h
          · cases h
            exact ⟨by omega, hk.few⟩
    · cases h
theorem pl3_few {s : ByteArray} {pat : Bool} {most : Nat} {l : List Nd} {p : Nat} {er : Int} (hm : most ≤ 64) (h : pl3 (psRead s pat most) = (l, p, er)) : l.length ≤ 64 ∧ ∀ x ∈ l, x.kids.length ≤ 3 := by
  cases hx : psRead s pat most with
  | ok a =>
    rw [hx] at h
    obtain ⟨h1, h2⟩ := read_few hx
    have : a = l := congrArg Prod.fst h
    subst this
    exact ⟨by omega, h2⟩
  | bad a b => rw [hx] at h; have : [] = l := congrArg Prod.fst h; subst this; simp
  | out => rw [hx] at h; have : [] = l := congrArg Prod.fst h; subst this; simp
/-- What is read, with its memory. -/
def TriO (l : List Nd) (p : Nat) (er : Int) (W : World) (e : Ending) (w' : World) : Prop :=
  ∃ ao cap q, e = .returned (.tuple #[.slice ao l.length cap, .int .i64 (p : Int), .int .i64 er]) ∧ (q.map (·.1) = l ∧ OwnP w' W.heap.size (.slice ao l.length cap) q ∧ KdAp q) ∧ Below W.heap.size W w'
theorem ReadO.tri {W : World} {x : Pr (List Nd)} {e : Ending} {w' : World} (h : ReadO W x e w') {l : List Nd} {p : Nat} {er : Int} (hx : pl3 x = (l, p, er)) : TriO l p er W e w' := by
  obtain ⟨h1, h2⟩ := h
  cases x with
  | ok a =>
    obtain ⟨ao, cap, he, q, g1, g2, g3⟩ := h1
    cases hx
    exact ⟨ao, cap, q, he, ⟨g1, g2, g3⟩, h2⟩
  | bad a b =>
    cases hx
    exact ⟨none, 0, [], h1, ⟨rfl, ⟨World.ownsRow_nil _ _ _ _, by simp⟩, List.Pairwise.nil⟩, h2⟩
  | out => cases h1
structure SldK (p : Prop) : Prop where
  out : p

set_option maxRecDepth 20000 in
set_option maxHeartbeats 16000000 in
theorem parseKeeps_walk (s t : ByteArray) (w : World) (hT : Tabs w) (hs : s.size ≤ maxLen) (ht : t.size ≤ maxLen) :
    Calls Tryd.prog 5 #[.string s, .string t] w fun e w' => e = .returned (.bool true) ∧ Below w.heap.size w w' := by
  obtain ⟨⟨l1, p1, e1⟩, hX1⟩ : ∃ x, pl3 (psRead s false 64) = x := ⟨_, rfl⟩
  obtain ⟨⟨l2, p2, e2⟩, hX2⟩ : ∃ x, pl3 (psRead s true 16) = x := ⟨_, rfl⟩
  obtain ⟨⟨l3, p3, e3⟩, hX3⟩ : ∃ x, pl3 (psRead t false 64) = x := ⟨_, rfl⟩
  obtain ⟨⟨l4, p4, e4⟩, hX4⟩ : ∃ x, pl3 (psRead t true 16) = x := ⟨_, rfl⟩
  obtain ⟨hn1, hk1⟩ := pl3_few (by omega) hX1
  obtain ⟨hn2, hk2⟩ := pl3_few (by omega) hX2
  have HK : SldK ((∀ x ∈ l1, x.kids.length ≤ 3) ∧ ∀ x ∈ l2, x.kids.length ≤ 3) := ⟨hk1, hk2⟩
  have HT : SldK (∀ W, Below w.heap.size w W → Tabs W) := ⟨fun W hW => hT.below hW⟩
  have CA : SldK (Calls Tryd.prog 22 #[] w fun e w' => e = .returned (.bool true) ∧ Below w.heap.size w w') := ⟨pawake_any w hT⟩
  have C1 : SldK (∀ W, Below w.heap.size w W → Calls Tryd.prog 26 #[.string s] W fun e w' => TriO l1 p1 e1 W e w') := ⟨fun W hW => (parse_own W s hs (HT.out W hW)).mono fun _ _ h => h.tri hX1⟩
  have C2 : SldK (∀ W, Below w.heap.size w W → Calls Tryd.prog 25 #[.string s] W fun e w' => TriO l2 p2 e2 W e w') := ⟨fun W hW => (pattern_own W s hs (HT.out W hW)).mono fun _ _ h => h.tri hX2⟩
  have C3 : SldK (∀ W, Below w.heap.size w W → Calls Tryd.prog 26 #[.string t] W fun e w' => TriO l3 p3 e3 W e w') := ⟨fun W hW => (parse_own W t ht (HT.out W hW)).mono fun _ _ h => h.tri hX3⟩
  have C4 : SldK (∀ W, Below w.heap.size w W → Calls Tryd.prog 25 #[.string t] W fun e w' => TriO l4 p4 e4 W e w') := ⟨fun W hW => (pattern_own W t ht (HT.out W hW)).mono fun _ _ h => h.tri hX4⟩
  have C5 : SldK (∀ W, Below w.heap.size w W → Calls Tryd.prog 29 #[.string s] W fun e w' => ∃ ao cap, e = .returned (.tuple #[.slice ao l1.length cap, .int .i64 (p1 : Int), .int .i64 e1]) ∧ Rd w' ao cap l1 ∧ Below W.heap.size W w') := ⟨fun W hW => (docParseT W s hs).mono fun _ _ h => by unfold Tri at h; rw [hX1] at h; exact h⟩
  clear hT hX1 hX2 hX3 hX4 hk1 hk2
  go_enter Tryd.func5, Tryd.ntmps5
  go_wp2_with fail
  refine CA.out.mono ?_
  rintro e w1 ⟨rfl, hq⟩
  have B1 : SldK (Below w.heap.size w w1) := ⟨hq⟩
  clear hq
  go_wp2_with fail
  refine (C1.out w1 B1.out).mono ?_
  rintro e w2 ⟨ao1, cp1, q1, rfl, hq1, hb⟩
  have B2 : SldK (Below w.heap.size w w2) := ⟨B1.out.trans (hb.mono B1.out.size)⟩
  have A2 : SldK (Anss w2 w1.heap.size w2.heap.size ([] ++ [(.slice ao1 l1.length cp1, q1)])) := ⟨(Anss.nil w2 _).snoc hq1.2.1 hq1.2.2 hb.size⟩
  have M1 : SldK (q1.map (·.1) = l1) := ⟨hq1.1⟩
  clear hb hq1
  go_wp2_with fail
  refine (C2.out w2 B2.out).mono ?_
  rintro e w3 ⟨ao2, cp2, q2, rfl, hq2, hb⟩
  have B3 : SldK (Below w.heap.size w w3) := ⟨B2.out.trans (hb.mono B2.out.size)⟩
  have A3 : SldK (Anss w3 w1.heap.size w3.heap.size ([] ++ [(.slice ao1 l1.length cp1, q1)] ++ [(.slice ao2 l2.length cp2, q2)])) := ⟨(A2.out.below hb).snoc hq2.2.1 hq2.2.2 hb.size⟩
  have M2 : SldK (q2.map (·.1) = l2) := ⟨hq2.1⟩
  clear hb hq2 A2
  go_wp2_with fail
  refine (C3.out w3 B3.out).mono ?_
  rintro e w4 ⟨aoA, cpA, qA, rfl, hqA, hb⟩
  have B4 : SldK (Below w.heap.size w w4) := ⟨B3.out.trans (hb.mono B3.out.size)⟩
  have A4 : SldK (Anss w4 w1.heap.size w4.heap.size ([] ++ [(.slice ao1 l1.length cp1, q1)] ++ [(.slice ao2 l2.length cp2, q2)])) := ⟨(A3.out.below hb).wide hb.size⟩
  clear hb hqA A3
  go_wp2_with fail
  refine (C4.out w4 B4.out).mono ?_
  rintro e w5 ⟨aoB, cpB, qB, rfl, hqB, hb⟩
  have B5 : SldK (Below w.heap.size w w5) := ⟨B4.out.trans (hb.mono B4.out.size)⟩
  have A5 : SldK (Anss w5 w1.heap.size w5.heap.size ([] ++ [(.slice ao1 l1.length cp1, q1)] ++ [(.slice ao2 l2.length cp2, q2)])) := ⟨(A4.out.below hb).wide hb.size⟩
  clear hb hqB A4
  go_wp2_with fail
  refine (C1.out w5 B5.out).mono ?_
  rintro e w6 ⟨ao3, cp3, q3, rfl, hq3, hb⟩
  have B6 : SldK (Below w.heap.size w w6) := ⟨B5.out.trans (hb.mono B5.out.size)⟩
  have A6 : SldK (Anss w6 w1.heap.size w6.heap.size ([] ++ [(.slice ao1 l1.length cp1, q1)] ++ [(.slice ao2 l2.length cp2, q2)] ++ [(.slice ao3 l1.length cp3, q3)])) := ⟨(A5.out.below hb).snoc hq3.2.1 hq3.2.2 hb.size⟩
  have M3 : SldK (q3.map (·.1) = l1) := ⟨hq3.1⟩
  clear hb hq3 A5
  go_wp2_with fail
  refine (C2.out w6 B6.out).mono ?_
  rintro e w7 ⟨ao4, cp4, q4, rfl, hq4, hb⟩
  have B7 : SldK (Below w.heap.size w w7) := ⟨B6.out.trans (hb.mono B6.out.size)⟩
  have A7 : SldK (Anss w7 w1.heap.size w7.heap.size ([] ++ [(.slice ao1 l1.length cp1, q1)] ++ [(.slice ao2 l2.length cp2, q2)] ++ [(.slice ao3 l1.length cp3, q3)] ++ [(.slice ao4 l2.length cp4, q4)])) := ⟨(A6.out.below hb).snoc hq4.2.1 hq4.2.2 hb.size⟩
  have M4 : SldK (q4.map (·.1) = l2) := ⟨hq4.1⟩
  have Z17 : SldK (w1.heap.size ≤ w7.heap.size) := ⟨A7.out.le⟩
  clear hb hq4 A6 C2 C3 C4
  have hl1 : q1.length = l1.length := by have := congrArg List.length M1.out; simpa using this
  have hl2 : q2.length = l2.length := by have := congrArg List.length M2.out; simpa using this
  have hl3 : q3.length = l1.length := by have := congrArg List.length M3.out; simpa using this
  have hl4 : q4.length = l2.length := by have := congrArg List.length M4.out; simpa using this
  have HL : SldK (q1.length = l1.length ∧ q2.length = l2.length ∧ q3.length = l1.length ∧ q4.length = l2.length) := ⟨hl1, hl2, hl3, hl4⟩
  clear hl1 hl2 hl3 hl4
  have RD : SldK (∀ W, Below w7.heap.size w7 W → (Rd W ao1 cp1 l1 ∧ Rd W ao3 cp3 l1) ∧ Rd W ao2 cp2 l2 ∧ Rd W ao4 cp4 l2) := ⟨fun W hW => by
    have hA := A7.out.below hW
    exact ⟨⟨Nodes_of_own ⟨q1, M1.out, hA.ownP (a := (.slice ao1 l1.length cp1, q1)) (by simp)⟩ (Nat.le_refl _), Nodes_of_own ⟨q3, M3.out, hA.ownP (a := (.slice ao3 l1.length cp3, q3)) (by simp)⟩ (Nat.le_refl _)⟩, Nodes_of_own ⟨q2, M2.out, hA.ownP (a := (.slice ao2 l2.length cp2, q2)) (by simp)⟩ (Nat.le_refl _), Nodes_of_own ⟨q4, M4.out, hA.ownP (a := (.slice ao4 l2.length cp4, q4)) (by simp)⟩ (Nat.le_refl _)⟩⟩
  go_wp2_with fail
  refine (sameR (RD.out w7 (Below.refl _ _)).1.1 (RD.out w7 (Below.refl _ _)).1.2 true (by simp)).mono ?_
  rintro e w8 ⟨rfl, hb⟩
  have D8 : SldK (Below w7.heap.size w7 w8) := ⟨hb⟩
  clear hb
  go_wp2_with fail
  refine (sameR (RD.out w8 D8.out).2.1 (RD.out w8 D8.out).2.2 true (by simp)).mono ?_
  rintro e w9 ⟨rfl, hb⟩
  have D9 : SldK (Below w7.heap.size w7 w9) := ⟨D8.out.trans (hb.mono D8.out.size)⟩
  clear hb D8
  obtain ⟨w10, hw10⟩ : ∃ w10, w9.alloc (.cells #[.slice none 0 0, .slice none 0 0, .slice none 0 0, .slice none 0 0, .slice none 0 0, .slice none 0 0] 52) = w10 := ⟨_, rfl⟩
  have hz9 : w1.heap.size ≤ w9.heap.size := Nat.le_trans Z17.out D9.out.size
  have BK : SldK (BkH w10 w1.heap.size w9.heap.size (.slice none 0 0) (.slice none 0 0) [] [] ∧ w1.heap.size ≤ w9.heap.size) := ⟨⟨by rw [← hw10, Deep.blk_alloc_new], World.ownsRow_nil _ _ _ _, World.ownsRow_nil _ _ _ _⟩, hz9⟩
  have D10 : SldK (Below w7.heap.size w7 w10) := ⟨by rw [← hw10]; exact D9.out.alloc D9.out.size _⟩
  have HW10 : SldK (w9.alloc (.cells #[.slice none 0 0, .slice none 0 0, .slice none 0 0, .slice none 0 0, .slice none 0 0, .slice none 0 0] 52) = w10) := ⟨hw10⟩
  clear hw10 hz9
  go_wp2_with fail
  rw [HW10.out]
  clear HW10
  have A10 : SldK (Anss w10 w1.heap.size w7.heap.size ([] ++ [(.slice ao1 l1.length cp1, q1)] ++ [(.slice ao2 l2.length cp2, q2)] ++ [(.slice ao3 l1.length cp3, q3)] ++ [(.slice ao4 l2.length cp4, q4)])) := ⟨A7.out.below D10.out⟩
  have P1 : SldK (OwnP w10 w1.heap.size (.slice ao1 q1.length cp1) q1 ∧ OwnP w10 w1.heap.size (.slice ao2 q2.length cp2) q2 ∧ OwnP w10 w1.heap.size (.slice ao3 q3.length cp3) q3 ∧ OwnP w10 w1.heap.size (.slice ao4 q4.length cp4) q4) := ⟨by
    rw [HL.out.1, HL.out.2.1, HL.out.2.2.1, HL.out.2.2.2]
    exact ⟨A10.out.ownP (a := (.slice ao1 l1.length cp1, q1)) (by simp), A10.out.ownP (a := (.slice ao2 l2.length cp2, q2)) (by simp), A10.out.ownP (a := (.slice ao3 l1.length cp3, q3)) (by simp), A10.out.ownP (a := (.slice ao4 l2.length cp4, q4)) (by simp)⟩⟩
  have HN : SldK (q1.length ≤ 64 ∧ q2.length ≤ 64 ∧ q3.length ≤ 64 ∧ q4.length ≤ 64) := ⟨by have := HL.out; omega⟩
  have CB1 := bookExpr_any w10 w1.heap.size w9.heap.size _ _ _ _ ao1 cp1 q1 BK.out.1 BK.out.2 P1.out.1 (by simp) (by simp) (by have := HN.out; omega)
  rw [HL.out.1] at CB1
  refine CB1.mono ?_
  rintro e w11 ⟨rfl, hn1', hi1, hbk, hbl, hkk⟩
  have K1 : SldK (BkH w11 w1.heap.size w9.heap.size hn1' hi1 ([] ++ [.slice ao1 l1.length cp1]) ([] ++ q1.map (·.2)) ∧ Below w1.heap.size w10 w11 ∧ BkK w10 w11) := ⟨hbk, hbl, hkk⟩
  clear CB1 hbk hbl hkk
  go_wp2_with fail
  have CB2 := bookExpr_any w11 w1.heap.size w9.heap.size _ _ _ _ ao2 cp2 q2 K1.out.1 BK.out.2 (K1.out.2.2.ownP P1.out.2.1) (by simp) (by have := HN.out; simp; omega) (by have := HN.out; omega)
  rw [HL.out.2.1] at CB2
  refine CB2.mono ?_
  rintro e w12 ⟨rfl, hn2', hi2, hbk, hbl, hkk⟩
  have K2 : SldK (BkH w12 w1.heap.size w9.heap.size hn2' hi2 ([] ++ [.slice ao1 l1.length cp1] ++ [.slice ao2 l2.length cp2]) ([] ++ q1.map (·.2) ++ q2.map (·.2)) ∧ Below w1.heap.size w10 w12 ∧ BkK w10 w12) := ⟨hbk, K1.out.2.1.trans hbl, K1.out.2.2.trans hkk⟩
  clear CB2 hbk hbl hkk K1
  go_wp2_with fail
  have CB3 := bookExpr_any w12 w1.heap.size w9.heap.size _ _ _ _ ao3 cp3 q3 K2.out.1 BK.out.2 (K2.out.2.2.ownP P1.out.2.2.1) (by simp) (by have := HN.out; simp; omega) (by have := HN.out; omega)
  rw [HL.out.2.2.1] at CB3
  refine CB3.mono ?_
  rintro e w13 ⟨rfl, hn3', hi3, hbk, hbl, hkk⟩
  have K3 : SldK (BkH w13 w1.heap.size w9.heap.size hn3' hi3 ([] ++ [.slice ao1 l1.length cp1] ++ [.slice ao2 l2.length cp2] ++ [.slice ao3 l1.length cp3]) ([] ++ q1.map (·.2) ++ q2.map (·.2) ++ q3.map (·.2)) ∧ Below w1.heap.size w10 w13 ∧ BkK w10 w13) := ⟨hbk, K2.out.2.1.trans hbl, K2.out.2.2.trans hkk⟩
  clear CB3 hbk hbl hkk K2
  go_wp2_with fail
  have CB4 := bookExpr_any w13 w1.heap.size w9.heap.size _ _ _ _ ao4 cp4 q4 K3.out.1 BK.out.2 (K3.out.2.2.ownP P1.out.2.2.2) (by simp) (by have := HN.out; simp; omega) (by have := HN.out; omega)
  rw [HL.out.2.2.2] at CB4
  refine CB4.mono ?_
  rintro e w14 ⟨rfl, hn4', hi4, hbk, hbl, hkk⟩
  have K4 : SldK (BkH w14 w1.heap.size w9.heap.size hn4' hi4 ([] ++ [.slice ao1 l1.length cp1] ++ [.slice ao2 l2.length cp2] ++ [.slice ao3 l1.length cp3] ++ [.slice ao4 l2.length cp4]) ([] ++ q1.map (·.2) ++ q2.map (·.2) ++ q3.map (·.2) ++ q4.map (·.2)) ∧ Below w1.heap.size w10 w14 ∧ BkK w10 w14) := ⟨hbk, K3.out.2.1.trans hbl, K3.out.2.2.trans hkk⟩
  clear CB4 hbk hbl hkk K3
  have CAP : SldK (Calls Tryd.prog 28 #[.pointer (some ⟨w9.heap.size, 0, none⟩)] w14 fun e W' => e = .returned (.bool true) ∧ Below w1.heap.size w14 W') := ⟨by
    have hkr : ∀ q : List (Nd × Value), (q.map (·.1) = l1 ∨ q.map (·.1) = l2) → ∀ r ∈ kR q, r.2.1 ≤ 100000 := fun q hq r hr => by
      obtain ⟨y, hy, rfl⟩ := List.mem_map.1 hr
      have hm := List.mem_map_of_mem (f := (·.1)) hy
      show y.1.kids.length ≤ 100000
      rcases hq with hq | hq
      · rw [hq] at hm; have := HK.out.1 _ hm; omega
      · rw [hq] at hm; have := HK.out.2 _ hm; omega
    have hN := HN.out
    refine (bookIN_any w14 w1.heap.size w9.heap.size hn4' hi4 [(.slice ao1 l1.length cp1, q1.length, ndCells q1), (.slice ao2 l2.length cp2, q2.length, ndCells q2), (.slice ao3 l1.length cp3, q3.length, ndCells q3), (.slice ao4 l2.length cp4, q4.length, ndCells q4)] (kR q1 ++ kR q2 ++ kR q3 ++ kR q4)
      (Nat.le_trans (Nat.le_trans Z17.out D10.out.size) K4.out.2.1.size) ?_ ?_ ?_ ?_ (by simp) ?_ ?_).mono fun e w' h => ⟨h.1, h.2.1⟩
    · have := K4.out.1
      simp only [List.map_append, List.map_cons, List.map_nil, kR_v]
      exact this
    · have := K4.out.2.2.rwl A10.out.rows (by decide) (by decide) (by decide)
      simpa using this
    · have := K4.out.2.2.rwl A10.out.kids (by decide) (by decide) (by decide)
      simpa using this
    · intro r hr
      simp only [List.mem_cons, List.not_mem_nil, or_false] at hr
      rcases hr with rfl | rfl | rfl | rfl
      · show q1.length ≤ 100000; omega
      · show q2.length ≤ 100000; omega
      · show q3.length ≤ 100000; omega
      · show q4.length ≤ 100000; omega
    · intro r hr
      simp only [List.mem_append] at hr
      rcases hr with ((hr | hr) | hr) | hr
      · exact hkr q1 (.inl M1.out) r hr
      · exact hkr q2 (.inr M2.out) r hr
      · exact hkr q3 (.inl M3.out) r hr
      · exact hkr q4 (.inr M4.out) r hr
    · simp [kR]; omega⟩
  have B14 : SldK (Below w.heap.size w w14) := ⟨B7.out.trans ((D10.out.mono B7.out.size).trans (K4.out.2.1.mono B1.out.size))⟩
  clear K4 BK P1 A10 A7 RD HK HN
  go_wp2_with fail
  refine CAP.out.mono ?_
  rintro e w15 ⟨rfl, hb⟩
  have B15 : SldK (Below w.heap.size w w15) := ⟨B14.out.trans (hb.mono B1.out.size)⟩
  clear hb CAP
  go_wp2_with fail
  refine (C1.out w15 B15.out).mono ?_
  rintro e w16 ⟨ao5, cp5, q5, rfl, hq5, hb⟩
  have D16 : SldK (Below w15.heap.size w15 w16) := ⟨hb⟩
  have B16 : SldK (Below w.heap.size w w16) := ⟨B15.out.trans (hb.mono B15.out.size)⟩
  have R5 : SldK (OwnN w16 w15.heap.size (.slice ao5 l1.length cp5) l1) := ⟨⟨q5, hq5.1, hq5.2.1⟩⟩
  clear hb hq5
  go_wp2_with fail
  refine (C5.out w16 B16.out).mono ?_
  rintro e w17 ⟨ao6, cp6, rfl, hr6, hb⟩
  have B17 : SldK (Below w.heap.size w w17) := ⟨B16.out.trans (hb.mono B16.out.size)⟩
  have CS : SldK (Calls Tryd.prog 14 #[.slice ao5 l1.length cp5, .slice ao6 l1.length cp6] w17 fun e w' => e = .returned (.bool true) ∧ Below w17.heap.size w17 w') := ⟨sameR (Nodes_of_own (R5.out.below hb) (Nat.le_refl _)) hr6 true (by simp)⟩
  clear hb hr6
  go_wp2_with fail
  refine CS.out.mono ?_
  rintro e w18 ⟨rfl, hb⟩
  have B18 : SldK (Below w.heap.size w w18) := ⟨B17.out.trans (hb.mono B17.out.size)⟩
  clear hb
  go_wp2_with fail
  go_ret
  exact ⟨rfl, B18.out⟩
end Go.Proofs.YtjmccobblpcbhaaDoor
