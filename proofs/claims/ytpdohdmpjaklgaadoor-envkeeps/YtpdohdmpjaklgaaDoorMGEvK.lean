/-
  EvKpW, EnvKeepsK, EnvKeeps.
-/
import Derived.Test.YtpdohdmpjaklgaaDoorMGEvB
import Derived.Test.YtpdohdmpjaklgaaDoorMGAp
import Derived.Test.YtpdohdmpjaklgaaDoorMEvFrm
import Derived.Test.YtpdohdmpjaklgaaDoorMEvOpen
import Derived.Test.YtpdohdmpjaklgaaDoorCards
import Derived.Test.YtpdohdmpjaklgaaDoorTie
import Derived.SizedLaws
import Derived.WideKeyArgs
set_option linter.unusedSimpArgs false
set_option linter.unusedVariables false
namespace Go.Proofs.YtpdohdmpjaklgaaDoor
open Go.RowKit Go.Lib Go.Sort

theorem row_prefix {w : World} {base : Nat} {e : TypeId} {size n m g cap : Nat} {xs ys : List Value} (h : w.ownsRow base e size (.slice (some ⟨g, 0, none⟩) (n + m) cap) (n + m) (xs ++ ys)) (hx : xs.length = n * size) : w.ownsRow base e size (.slice (some ⟨g, 0, none⟩) n cap) n xs := by
  refine ⟨hx, ?_⟩
  rcases h.2 with ⟨h2, _⟩ | ⟨g', cap', cur, h3, hb, hg, hn, hm, hs, ht⟩
  · cases h2
  · cases h3
    refine .inr ⟨g, cap, cur, rfl, hb, hg, by omega, hm, hs, ?_⟩
    have := congrArg (List.take (n * size)) ht
    rw [List.take_take, Nat.min_eq_left (Nat.mul_le_mul_right _ (by omega))] at this
    rw [this, ← hx]
    simp
theorem row_cap {w : World} {base : Nat} {e : TypeId} {size n g cap : Nat} {xs : List Value} (h : w.ownsRow base e size (.slice (some ⟨g, 0, none⟩) n cap) n xs) : n ≤ cap ∧ cap ≤ 9223372036854775807 := by
  rcases h.2 with ⟨h2, _⟩ | ⟨g', cap', cur, h3, hb, hg, hn, hm, hs, ht⟩
  · cases h2
  · cases h3; exact ⟨hn, hm⟩
def sel5 {α : Type} (a b c d e : α) : Nat → α
  | 0 => a
  | 1 => b
  | 2 => c
  | 3 => d
  | _ => e
theorem sel5_all {α : Type} (P : Nat → α → Prop) (a b c d e : α) (h0 : P 0 a) (h1 : P 1 b) (h2 : P 2 c) (h3 : P 3 d) (h4 : P 4 e) : ∀ k, k < 5 → P k (sel5 a b c d e k) := by
  intro k hk
  rcases k with _ | _ | _ | _ | _ | k
  · exact h0
  · exact h1
  · exact h2
  · exact h3
  · exact h4
  · omega
/-- Where a row lies. -/
def Lies (ao : Option Addr) (lo hi : Nat) : Prop := ∀ a, ao = some a → lo ≤ a.block ∧ a.block < hi
theorem lies_own {w : World} {base : Nat} {ao : Option Addr} {n c : Nat} {l : List Bd} (h : OwnB w base (.slice ao n c) l) : Lies ao base w.heap.size := fun a ha => by
  subst ha
  have := rw_block h (b := a.block) rfl
  exact ⟨this.1, this.2.1⟩
theorem Lies.mono {ao : Option Addr} {lo hi hi' : Nat} (h : Lies ao lo hi) (hh : hi ≤ hi') : Lies ao lo hi' := fun a ha => by have := h a ha; omega
section
variable {α : Type} (a b c d e : α)
theorem sel5_0 : sel5 a b c d e 0 = a := rfl
theorem sel5_1 : sel5 a b c d e 1 = b := rfl
theorem sel5_2 : sel5 a b c d e 2 = c := rfl
theorem sel5_3 : sel5 a b c d e 3 = d := rfl
theorem sel5_4 : sel5 a b c d e 4 = e := rfl
end
theorem ap5 {B : Nat} {a0 a1 a2 a3 a4 : Option Addr} {p q r s t u : Nat} (h4 : Lies a4 p q) (h0 : Lies a0 q r) (h1 : Lies a1 r s) (h2 : Lies a2 s t) (h3 : Lies a3 t u) (hB : u ≤ B) (z1 : p ≤ q) (z2 : q ≤ r) (z3 : r ≤ s) (z4 : s ≤ t) (z5 : t ≤ u) : RwsAp 5 B (sel5 a0 a1 a2 a3 a4) := by
  have c5 : ∀ k, k < 5 → k = 0 ∨ k = 1 ∨ k = 2 ∨ k = 3 ∨ k = 4 := fun k hk => by omega
  refine ⟨fun k k' hk hk' hkk a a' ha ha' => ?_, fun k hk a ha => ?_⟩
  · rcases c5 k hk with rfl | rfl | rfl | rfl | rfl <;> rcases c5 k' hk' with rfl | rfl | rfl | rfl | rfl <;> simp only [sel5_0, sel5_1, sel5_2, sel5_3, sel5_4] at ha ha' <;>
      first
      | exact absurd rfl hkk
      | (first | have i1 := h0 a ha | have i1 := h1 a ha | have i1 := h2 a ha | have i1 := h3 a ha | have i1 := h4 a ha) <;> (first | have i2 := h0 a' ha' | have i2 := h1 a' ha' | have i2 := h2 a' ha' | have i2 := h3 a' ha' | have i2 := h4 a' ha') <;> omega
  · rcases c5 k hk with rfl | rfl | rfl | rfl | rfl <;> simp only [sel5_0, sel5_1, sel5_2, sel5_3, sel5_4] at ha <;>
      (first | have i1 := h0 a ha | have i1 := h1 a ha | have i1 := h2 a ha | have i1 := h3 a ha | have i1 := h4 a ha) <;> omega
theorem evF_len (s : ByteArray) : ∀ (f a : Nat) (l : List Bd), (evF s f a l).1.length ≤ l.length + f
  | 0, _, _ => by simp [evF]
  | f + 1, a, l => by
    unfold evF
    split
    · split
      · simp <;> omega
      · split
        · simp
        · split
          · simp
          · have := evF_len s f (skE s ((bindP s a).2.1 + 1)) (l ++ [(bindP s a).1])
            rw [List.length_append] at this
            simp only [List.length_cons, List.length_nil] at this
            omega
    · simp
theorem evR_len (s : ByteArray) : (evR s).1.length ≤ 64 := by
  unfold evR
  split
  · simp
  · split
    · split
      · simp
      · have := evF_len s 64 (skE s 0) []
        simpa using this
    · simp
theorem setR_len (l : List Bd) (nm : ByteArray) (n : Int) : (setR l nm n).1.length ≤ l.length + 1 := by
  unfold setR
  split
  · show (setB l nm n).length ≤ _
    rw [setB_len]
    split <;> omega
  · simp

set_option maxHeartbeats 1000000 in
/-- The five lists of the law are apart. -/
theorem book5 (w13 : World) (base : Nat) (a0 a1 a2 a3 a4 : Option Addr) (c0 c1 c2 c3 c4 : Nat) (l0 l1 l2 l3 l4 : List Bd) (p q r s t u : Nat)
    (h0 : OwnB w13 base (.slice a0 l0.length c0) l0) (h1 : OwnB w13 base (.slice a1 l1.length c1) l1) (h2 : OwnB w13 base (.slice a2 l2.length c2) l2) (h3 : OwnB w13 base (.slice a3 l3.length c3) l3) (h4 : OwnB w13 base (.slice a4 l4.length c4) l4)
    (i4 : Lies a4 p q) (i0 : Lies a0 q r) (i1 : Lies a1 r s) (i2 : Lies a2 s t) (i3 : Lies a3 t u) (hu : u ≤ w13.heap.size) (z1 : p ≤ q) (z2 : q ≤ r) (z3 : r ≤ s) (z4 : s ≤ t) (z5 : t ≤ u) (hbase : base ≤ w13.heap.size)
    (m0 : (l0.length + 12) * 24 ≤ 140737488355328) (m1 : (l1.length + 12) * 24 ≤ 140737488355328) (m2 : (l2.length + 12) * 24 ≤ 140737488355328) (m3 : (l3.length + 12) * 24 ≤ 140737488355328) (m4 : (l4.length + 12) * 24 ≤ 140737488355328) :
    Calls Tryd.prog 20 #[.pointer (some ⟨w13.heap.size + 1, 0, none⟩)]
      ((w13.alloc (.cells #[.slice a0 l0.length c0, .slice a1 l1.length c1, .slice a2 l2.length c2, .slice a3 l3.length c3, .slice a4 l4.length c4] 22)).alloc (.cells #[.slice none 0 0, .slice none 0 0, .slice none 0 0, .slice (some ⟨w13.heap.size, 0, none⟩) 5 5, .slice none 0 0, .slice none 0 0] 46))
      fun e W' => e = .returned (.bool true) ∧ Below base w13 W' := by
  obtain ⟨W1, hW1⟩ : ∃ W1, W1 = w13.alloc (.cells #[.slice a0 l0.length c0, .slice a1 l1.length c1, .slice a2 l2.length c2, .slice a3 l3.length c3, .slice a4 l4.length c4] 22) := ⟨_, rfl⟩
  rw [← hW1]
  have hs1 : W1.heap.size = w13.heap.size + 1 := by rw [hW1, World.size_alloc]
  have bB : W1.heap[w13.heap.size]? = some (.cells #[.slice a0 l0.length c0, .slice a1 l1.length c1, .slice a2 l2.length c2, .slice a3 l3.length c3, .slice a4 l4.length c4] 22 (0, 0)) := by rw [hW1]; exact Deep.blk_alloc_new _ _
  obtain ⟨W, hW⟩ : ∃ W, W = W1.alloc (.cells #[.slice none 0 0, .slice none 0 0, .slice none 0 0, .slice (some ⟨w13.heap.size, 0, none⟩) 5 5, .slice none 0 0, .slice none 0 0] 46) := ⟨_, rfl⟩
  rw [← hW]
  have hs2 : W.heap.size = w13.heap.size + 2 := by rw [hW, World.size_alloc, hs1]
  have hQ : W.heap[w13.heap.size + 1]? = some (.cells #[.slice none 0 0, .slice none 0 0, .slice none 0 0, .slice (some ⟨w13.heap.size, 0, none⟩) 5 5, .slice none 0 0, .slice none 0 0] 46 (0, 0)) := by
    rw [hW, ← hs1]; exact Deep.blk_alloc_new _ _
  have bB2 : W.heap[w13.heap.size]? = some (.cells #[.slice a0 l0.length c0, .slice a1 l1.length c1, .slice a2 l2.length c2, .slice a3 l3.length c3, .slice a4 l4.length c4] 22 (0, 0)) := by
    rw [hW, Deep.blk_alloc_lt _ _ _ (by omega)]; exact bB
  have b14 : Below w13.heap.size w13 W := by
    rw [hW, hW1]
    exact ((Below.refl _ _).alloc (Nat.le_refl _) _).alloc (by rw [World.size_alloc]; omega) _
  have hap : RwsAp 5 w13.heap.size (sel5 a0 a1 a2 a3 a4) := ap5 i4 i0 i1 i2 i3 hu z1 z2 z3 z4 z5
  have c5 : ∀ k, k < 5 → k = 0 ∨ k = 1 ∨ k = 2 ∨ k = 3 ∨ k = 4 := fun k hk => by omega
  have hP : P1 W base 38 2 1 5 w13.heap.size (sel5 a0 a1 a2 a3 a4) (sel5 c0 c1 c2 c3 c4) (sel5 l0.length l1.length l2.length l3.length l4.length) (offN (sel5 l0.length l1.length l2.length l3.length l4.length)) (sel5 (bdCells l0) (bdCells l1) (bdCells l2) (bdCells l3) (bdCells l4)) 0 0 W := by
    refine ⟨fun k hk => ?_, fun k hk => ?_, fun k hk => by omega, fun j hj => by omega, Below.refl _ _, by omega, fun q _ _ => rfl⟩
    · rcases c5 k hk with rfl | rfl | rfl | rfl | rfl
      · exact own_below h0 b14
      · exact own_below h1 b14
      · exact own_below h2 b14
      · exact own_below h3 b14
      · exact own_below h4 b14
    · rcases c5 k hk with rfl | rfl | rfl | rfl | rfl <;> simp [World.cell?, bB2, sel5_0, sel5_1, sel5_2, sel5_3, sel5_4]
  have hof : offN (sel5 l0.length l1.length l2.length l3.length l4.length) 5 = l0.length + l1.length + l2.length + l3.length + l4.length := by
    simp [offN, sel5_0, sel5_1, sel5_2, sel5_3, sel5_4]
  refine (bookApart_any (w13.heap.size + 1) 5 w13.heap.size 5 _ _ _ _ _ base W hap rfl (fun _ => rfl) (fun k hk => offN_lt _ hk (Nat.le_refl _)) (by omega) (by rw [hof]; omega) (fun k hk => ?_) (by decide) hP (0, 0) hQ (fun k hk a ha e' => ?_)).mono ?_
  · rcases c5 k hk with rfl | rfl | rfl | rfl | rfl
    · exact m0
    · exact m1
    · exact m2
    · exact m3
    · exact m4
  · have hb := rw_block (hP.own k hk) (b := a.block) (by rw [ha]; rfl)
    have := hap.out k hk a ha
    obtain ⟨_, _, cap, cur, _, hh, _⟩ := hb
    rw [e', hQ] at hh
    simp at hh
  · rintro e W' ⟨rfl, hb⟩
    exact ⟨rfl, (b14.mono hbase).trans hb⟩
theorem setS (ao : Option Addr) (cap : Nat) (l A : List Bd) (nm : ByteArray) (n er : Int) (hS : setR l nm n = (A, er)) (hr : l.length * 24 ≤ 140737488355328) (w : World) (hT : SpanCells w) (hI : Bds w ao cap l) :
    Calls Tryd.prog 12 #[.slice ao l.length cap, .string nm, .int .i64 n] w fun e W' => (∃ ao' cap', e = .returned (.tuple #[.slice ao' A.length cap', .int .i64 er]) ∧ OwnB W' w.heap.size (.slice ao' A.length cap') A) ∧ Below w.heap.size w W' := by
  refine (set_any ao cap l nm n hr w hT hI).mono ?_
  rintro e W' ⟨⟨v, rfl, ho⟩, hb⟩
  rw [hS] at ho ⊢
  obtain ⟨a, c, rfl⟩ := ho.form
  exact ⟨⟨a, c, rfl, ho⟩, hb⟩
theorem readS (s : ByteArray) (L : List Bd) (p : Nat) (er : Int) (hX : evR s = (L, p, er)) (w : World) (hT : Tabs w) (hsz : s.size ≤ maxLen) :
    Calls Tryd.prog 17 #[.string s] w fun e W' => (∃ ao cap, e = .returned (.tuple #[.slice ao L.length cap, .int .i64 (p : Int), .int .i64 er]) ∧ OwnB W' w.heap.size (.slice ao L.length cap) L) ∧ Below w.heap.size w W' := by
  refine (readE_any s w hT hsz).mono ?_
  rintro e W' ⟨⟨v, rfl, ho⟩, hb⟩
  rw [hX] at ho ⊢
  obtain ⟨a, c, rfl⟩ := ho.form
  exact ⟨⟨a, c, rfl, ho⟩, hb⟩
theorem OwnB.bds {w : World} {base n cap : Nat} {ao : Option Addr} {l : List Bd} (h : OwnB w base (.slice ao n cap) l) : Bds w ao cap l := by
  obtain ⟨a, c, e, hR, _⟩ := h.read
  cases e
  exact hR
theorem sameT (ao bo : Option Addr) (ca cb : Nat) (l : List Bd) (w0 : World) (hA : Bds w0 ao ca l) (hB : Bds w0 bo cb l) (w : World) (hb : Below w0.heap.size w0 w) :
    Calls Tryd.prog 16 #[.slice ao l.length ca, .slice bo l.length cb] w fun e W' => e = .returned (.bool true) ∧ Below w0.heap.size w0 W' := by
  have := same_any ao bo ca cb l l w (hA.below hb) (hB.below hb)
  rw [decide_eq_true rfl] at this
  refine this.mono ?_
  rintro e W' ⟨rfl, b⟩
  exact ⟨rfl, hb.trans (b.mono hb.size)⟩

set_option maxRecDepth 100000 in
set_option maxHeartbeats 2000000 in
theorem envKeeps.walk (w : World) (ao : Option Addr) (ca : Nat) (l : List Bd) (nm s : ByteArray) (n : Int) (hT : Tabs w) (hP : Pows w) (hI : Bds w ao ca l) (hok : BdOk l) (hr : l.length * 24 ≤ 140737488351232) (hs : s.size ≤ maxLen) :
    Calls Tryd.prog 7 #[.slice ao l.length ca, .string nm, .string s, .int .i64 n] w fun e W' => e = .returned (.bool true) ∧ Below w.heap.size w W' := by
  obtain ⟨⟨hl1, hl2, hl3⟩, _⟩ := id hI
  unfold maxLen at hl2
  have hr2 : l.length * 24 ≤ 140737488355328 := by omega
  have HI : Hid (Bds w ao ca l) := hI
  have HT : Hid (Tabs w) := hT
  have HP : Hid (Pows w) := hP
  have HK : Hid (BdOk l) := hok
  obtain ⟨i0, hi, hz0, hz1, hz2⟩ := info_parts Tryd.infoBind
  clear hI hT hP hok hl3
  have Q : Hid ((l.length + 2 ≤ maxLen) ∧ ((l.length + 2) * 24 ≤ 140737488355328)) := by
    show _ ∧ _
    unfold maxLen; omega
  go_enter Tryd.func7, Tryd.ntmps7
  go_wp2_with fail
  refine (awake_any _).mono ?_
  rintro e w1 ⟨rfl, b1⟩
  go_wp2_with (first
    | (at_builtin; refine wpList_append_lies _ rfl (.tmp 29) (.tmp 32) 22 rfl w1.heap.size 38 i0 (.agg #[.string ⟨#[]⟩, .int .i64 0]) 2 24 Tryd.underlying22 hi hz0 hz1 hz2 rfl (by decide) _ _ _ rfl (O2.out.alloc _) ⟨w2.heap.size, 0, none⟩ 2 2 [.string ⟨#[35]⟩, .int .i64 71, .string ⟨#[35]⟩, .int .i64 72] rfl (by simp) (by intro j u hj; rcases j with _ | _ | _ | _ | j <;> simp at hj <;> subst hj <;> simp [Go.WideShapes.add_plain]) (by simp [Value.oneCell']) (by decide) Q.out.1 Q.out.2 (by rw [World.size_alloc]; omega) _ rfl ?_; intro g3 cap3 w3 hown3 hg3 hd3 hlt3; obtain ⟨hc3, hc3'⟩ := row_cap hown3)
    | (go_at_call 10; refine (copied_any ao ca l hr2 _ (HI.out.below b1)).mono ?_; rintro e w2 ⟨⟨v2, rfl, o2⟩, b2⟩; obtain ⟨a2, c2, rfl⟩ := o2.form; have hb2 := b2.size; have O2 : Hid (w2.ownsRow w1.heap.size 38 2 (.slice a2 l.length c2) l.length (bdCells l)) := o2; clear o2))
  have hb1 := b1.size
  have hz3 : w1.heap.size ≤ w3.heap.size := by have := hg3.size; rw [World.size_alloc] at this; omega
  have G2 : Below w.heap.size w w2 := b1.trans (b2.mono b1.size)
  have G3 : Hid (Below w.heap.size w w3) := (G2.alloc (by omega) _).grown hg3 (by rw [World.size_alloc]; omega) (fun k hk => by have := (rw_block O2.out hk).1; omega)
  have OI : Hid (OwnB w3 w1.heap.size (.slice (some ⟨g3, 0, none⟩) l.length cap3) l) := row_prefix hown3 (bdCells_length l)
  have RI : Hid (Bds w3 (some ⟨g3, 0, none⟩) cap3 l) := OI.out.bds
  have OF : Hid (w3.ownsRow w1.heap.size 38 2 (.slice (some ⟨g3, 0, none⟩) (l.length + 2) cap3) (l.length + 2) (bdCells l ++ [.string ⟨#[35]⟩, .int .i64 71, .string ⟨#[35]⟩, .int .i64 72])) := hown3
  obtain ⟨A, er, hS⟩ : ∃ A er, setR l nm n = (A, er) := ⟨_, _, rfl⟩
  obtain ⟨T, te, hX⟩ : ∃ T te, txR l = (T, te) := ⟨_, _, rfl⟩
  obtain ⟨L, p, re, hE⟩ : ∃ L p re, evR s = (L, p, re) := ⟨_, _, _, rfl⟩
  have HS : Hid (setR l nm n = (A, er)) := hS
  have HX : Hid (txR l = (T, te)) := hX
  have HE : Hid (evR s = (L, p, re)) := hE
  clear hS hX hE hown3 hg3 hd3 G2 b1 b2 O2
  refine (setS _ cap3 l A nm n er HS.out hr2 _ (HT.out.below G3.out).spans RI.out).mono ?_
  rintro e w4 ⟨⟨aa, cA, rfl, oa⟩, K4⟩
  have OA : Hid (OwnB w4 w3.heap.size (.slice aa A.length cA) A) := oa
  clear oa
  go_wp2_with fail
  refine (get_any _ cap3 l nm hr2 _ (RI.out.below K4)).mono ?_
  rintro e w5 ⟨rfl, b5⟩
  have K5 := K4.trans (b5.mono K4.size)
  go_wp2_with fail
  have G5 := G3.out.trans (K5.mono G3.out.size)
  refine (txtR _ cap3 l T te HX.out _ (HT.out.below G5).spans (HP.out.below G5) (RI.out.below K5) HK.out).mono ?_
  rintro e w6 ⟨rfl, b6⟩
  have K6 := K5.trans (b6.mono K5.size)
  have G6 := G3.out.trans (K6.mono G3.out.size)
  go_wp2_with fail
  refine (setS _ cap3 l A nm n er HS.out hr2 _ (HT.out.below G6).spans (RI.out.below K6)).mono ?_
  rintro e w7 ⟨⟨ab, cB, rfl, ob⟩, b7⟩
  have OB : Hid (OwnB w7 w6.heap.size (.slice ab A.length cB) A) := ob
  clear ob
  have K7 := K6.trans (b7.mono K6.size)
  have G7 := G3.out.trans (K7.mono G3.out.size)
  go_wp2_with fail
  refine (txtR _ cap3 l T te HX.out _ (HT.out.below G7).spans (HP.out.below G7) (RI.out.below K7) HK.out).mono ?_
  rintro e w8 ⟨rfl, b8⟩
  have K8 := K7.trans (b8.mono K7.size)
  have G8 := G3.out.trans (K8.mono G3.out.size)
  go_wp2_with fail
  refine (readS s L p re HE.out _ (HT.out.below G8) hs).mono ?_
  rintro e w9 ⟨⟨ac, cC, rfl, oc⟩, b9⟩
  have OC : Hid (OwnB w9 w8.heap.size (.slice ac L.length cC) L) := oc
  clear oc
  have K9 := K8.trans (b9.mono K8.size)
  have G9 := G3.out.trans (K9.mono G3.out.size)
  go_wp2_with fail
  refine (readS s L p re HE.out _ (HT.out.below G9) hs).mono ?_
  rintro e w10 ⟨⟨ad, cD, rfl, od⟩, b10⟩
  have OD : Hid (OwnB w10 w9.heap.size (.slice ad L.length cD) L) := od
  clear od
  have K10 : Hid (Below w3.heap.size w3 w10) := K9.trans (b10.mono K9.size)
  have G10 : Hid (Below w.heap.size w w10) := G3.out.trans (K10.out.mono G3.out.size)
  -- all in w10
  have z4 := K4.size
  have z5 := b5.size
  have z6 := b6.size
  have z7 := b7.size
  have z8 := b8.size
  have z9 := b9.size
  have z10 := b10.size
  have b9' : Below w9.heap.size w9 w10 := b10
  have b8' : Below w8.heap.size w8 w10 := b9.trans (b10.mono z9)
  have b7' : Below w7.heap.size w7 w10 := b8.trans (b8'.mono z8)
  have b6' : Below w6.heap.size w6 w10 := b7.trans (b7'.mono z7)
  have b4' : Below w4.heap.size w4 w10 := (b5.trans (b6.mono z5)).trans (b6'.mono (by omega))
  have MA : Hid (OwnB w10 w3.heap.size (.slice aa A.length cA) A) := OA.out.below b4'
  have MB : Hid (OwnB w10 w6.heap.size (.slice ab A.length cB) A) := OB.out.below b7'
  have MC : Hid (OwnB w10 w8.heap.size (.slice ac L.length cC) L) := OC.out.below b9'
  have MI : Hid (OwnB w10 w1.heap.size (.slice (some ⟨g3, 0, none⟩) l.length cap3) l) := OI.out.below K10.out
  have LA : Hid (Lies aa w3.heap.size w4.heap.size) := lies_own OA.out
  have LB : Hid (Lies ab w6.heap.size w7.heap.size) := lies_own OB.out
  have LC : Hid (Lies ac w8.heap.size w9.heap.size) := lies_own OC.out
  have LD : Hid (Lies ad w9.heap.size w10.heap.size) := lies_own OD.out
  have LI : Hid (Lies (some ⟨g3, 0, none⟩) w1.heap.size w3.heap.size) := lies_own OI.out
  have S1 : Hid (∀ W, Below w10.heap.size w10 W → Calls Tryd.prog 16 #[.slice aa A.length cA, .slice ab A.length cB] W fun e W' => e = .returned (.bool true) ∧ Below w10.heap.size w10 W') := sameT aa ab cA cB A w10 MA.out.bds MB.out.bds
  have S2 : Hid (∀ W, Below w10.heap.size w10 W → Calls Tryd.prog 16 #[.slice ac L.length cC, .slice ad L.length cD] W fun e W' => e = .returned (.bool true) ∧ Below w10.heap.size w10 W') := sameT ac ad cC cD L w10 MC.out.bds OD.out.bds
  have S3 : Hid (∀ W, Below w10.heap.size w10 W → Calls Tryd.prog 16 #[.slice (some ⟨g3, 0, none⟩) l.length cap3, .slice ao l.length ca] W fun e W' => e = .returned (.bool true) ∧ Below w10.heap.size w10 W') := sameT _ ao cap3 ca l w10 MI.out.bds (HI.out.below G10.out)
  have D1 : Hid (∀ W, Below w10.heap.size w10 W → W.cell? ⟨g3, l.length * 2 + 1, none⟩ = some (.int .i64 71) ∧ W.cell? ⟨g3, (l.length + 1) * 2 + 1, none⟩ = some (.int .i64 72)) := by
    intro W hW
    have O9 := own_below (own_below OF.out K10.out) hW
    have hcl := bdCells_length l
    refine ⟨(rdr_own O9).cell (b := g3) rfl ?_, (rdr_own O9).cell (b := g3) rfl ?_⟩
    · rw [List.getElem?_append_right (by omega), hcl]; simp
    · rw [List.getElem?_append_right (by omega), hcl]
      have e9 : (l.length + 1) * 2 + 1 - l.length * 2 = 3 := by omega
      rw [e9]; rfl
  clear K4 K5 K6 K7 K8 K9 b4' b5 b6 b6' b7 b7' b8 b8' b9 b9' b10 G5 G6 G7 G8 G9 RI
  have hee : (er != er) = false := by simp
  go_wp2_with fail
  refine (S1.out _ (Below.refl _ _)).mono ?_
  rintro e w11 ⟨rfl, b11⟩
  go_wp2_with fail
  refine (S2.out _ b11).mono ?_
  rintro e w12 ⟨rfl, b12⟩
  go_wp2_with fail
  refine (S3.out _ b12).mono ?_
  rintro e w13 ⟨rfl, b13⟩
  obtain ⟨d71, d72⟩ := D1.out _ b13
  go_wp2_with fail
  have z13 := b13.size
  have Z : Hid (A.length ≤ l.length + 1 ∧ L.length ≤ 64) := by
    refine ⟨?_, ?_⟩
    · have := setR_len l nm n
      rw [HS.out] at this; exact this
    · have := evR_len s
      rw [HE.out] at this; exact this
  obtain ⟨zA, zL⟩ := Z.out
  refine (book5 w13 w.heap.size aa ab ac ad (some ⟨g3, 0, none⟩) cA cB cC cD cap3 A A L L l w1.heap.size w3.heap.size w6.heap.size w8.heap.size w9.heap.size w10.heap.size
    ((MA.out.below b13).mono (by omega)) ((MB.out.below b13).mono (by omega)) ((MC.out.below b13).mono (by omega)) ((OD.out.below b13).mono (by omega)) ((MI.out.below b13).mono (by omega))
    LI.out (LA.out.mono (by omega)) (LB.out.mono (by omega)) LC.out LD.out z13 (by omega) (by omega) (by omega) (by omega) (by omega) (by omega) (by omega) (by omega) (by omega) (by omega) (by omega)).mono ?_
  rintro e w15 ⟨rfl, b15⟩
  go_wp2_with fail
  go_ret
  exact ⟨rfl, (G10.out.trans (b13.mono G10.out.size)).trans b15⟩
end Go.Proofs.YtpdohdmpjaklgaaDoor

set_option linter.unusedVariables false
namespace Go.Proofs.YtpdohdmpjaklgaaDoor.envKeeps
open Go.ChangeShapes Go.WideShapes Go.ChangeAt Go.RowKit Go.WideMaps Go.WideElems
open Go.ChangeMaps (open_string shut_string)

set_option maxRecDepth 100000 in
set_option maxHeartbeats 1000000 in
theorem contract (H : Type) (enc : TypeId × Value → H) (W : World) (base : Nat) (args : Array Value) (ds gs : List (DataW H)) (before : List MemPlace)
    (hval : ∀ (j : Nat) t v, Tryd.f7.params[j]? = some t → args[j]? = some v → Value.okWide Tryd.prog W .any base t v)
    (hW : DataW.Whole enc Tryd.prog Tryd.f7.params.toList Rows.envKeepsSpec.vars false W args.toList ds gs before)
    (hsz : (DataW.weightsEach Tryd.prog (Tryd.f7.params.toList ++ (OpenSpec.ofChange Rows.envKeepsSpec).bare.plain.varTypes Tryd.prog) (ds ++ gs)).all (· ≤ reachBytes) = true)
    (hL : laidMetH Tryd.prog Rows.envKeepsRow.laid W) :
    Calls Tryd.prog 7 args W fun e W' => ∃ v, e = .returned v ∧ Rows.envKeepsSpec.post enc Tryd.prog Tryd.f7 false true false false W args v W' := by
  have hW' := hW
  have hlt : ∀ x ∈ before, x.block < W.heap.size := fun x hx => by simpa using hW'.lt x hx
  obtain ⟨p, q, hA0, hV, rfl, hfz, hnd⟩ := hW
  have hA : DataW.TrodAll enc Tryd.prog W 0 (fun _ => true) true Tryd.f7.params.toList args.toList ds p := hA0
  rw [Tryd.params7 ] at hA hval
  obtain ⟨v0, vs0, d0, ds0, p0, q0, hargs0, rfl, rfl, h0, r0⟩ := trodAll_cons hA
  obtain ⟨v1, vs1, d1, ds1, p1, q1, rfl, rfl, rfl, h1, r1⟩ := trodAll_cons r0
  obtain ⟨v2, vs2, d2, ds2, p2, q2, rfl, rfl, rfl, h2, r2⟩ := trodAll_cons r1
  obtain ⟨v3, vs3, d3, ds3, p3, q3, rfl, rfl, rfl, h3, r3⟩ := trodAll_cons r2
  obtain ⟨rfl, rfl, rfl⟩ := trodAll_nil r3
  obtain rfl : args = #[v0, v1, v2, v3] := by cases args; simp_all
  obtain ⟨rfl, rfl⟩ := trodVars_none hV
  clear hA0
  simp only [List.append_nil] at hW' hsz
  have h0k := h0
  have ok0 : Value.okWide Tryd.prog W .any base 22 v0 := hval 0 22 v0 (by rfl) (by rfl)
  obtain ⟨a0, n0, c0, rfl⟩ := okWide_slice Tryd.underlying22 ok0
  obtain ⟨fu0, hf0⟩ := h0
  obtain ⟨ao0, cap0, l0, he0, R0, K0, hF0⟩ := open_binds (v := .slice a0 n0 c0) hf0
  cases he0
  have F0 := hF0 fun n hn => of_decide_eq_true (List.all_eq_true.1 hsz n (DataW.weights_mem_each (j := 0) (t := 22) (by kernel_rfl) rfl n hn))
  obtain ⟨x1, rfl, rfl, rfl, hs1⟩ := open_string Tryd.underlying9 (hval 1 9 v1 rfl rfl) h1
  have hr1 : x1.size ≤ 140737488351232 := by
    have := sized_string (j := 1) (t := 9) hsz (by kernel_rfl) rfl
    rw [Lib.size_eq]; exact this
  obtain ⟨x2, rfl, rfl, rfl, hs2⟩ := open_string Tryd.underlying9 (hval 2 9 v2 rfl rfl) h2
  have hr2 : x2.size ≤ 140737488351232 := by
    have := sized_string (j := 2) (t := 9) hsz (by kernel_rfl) rfl
    rw [Lib.size_eq]; exact this
  obtain ⟨x3, rfl, rfl, rfl, wx3⟩ := open_int Tryd.underlying2 (hval 3 2 v3 rfl rfl) h3
  refine (Go.Proofs.YtpdohdmpjaklgaaDoor.envKeeps.walk W a0 c0 l0 x1 x2 x3 (tabE6_of_laid hL).1 (tabE6_of_laid hL).2 R0 K0 (by have := R0.1.1; omega) (by unfold maxLen; omega)).mono fun e W' ⟨he, hg⟩ => ?_
  subst he
  exact ⟨_, rfl, post_below (pv := []) hW' (fun _ _ _ => trodAll_cons_mk (shut_bool Tryd.underlying4 _) trodAll_mk0) (fun sp hsp => trodAll_cons_mk (Trod_stays Tryd.laidOut (by kernel_rfl) (of_decide_eq_true (by kernel_rfl)) h0k (fun x hx => hg.same (hlt x (by simp [hx]))) (fun x hx => hsp x (by simp [hx]))) (trodAll_cons_mk (shut_string Tryd.underlying9 hs1) (trodAll_cons_mk (shut_string Tryd.underlying9 hs2) (trodAll_cons_mk (shut_int Tryd.underlying2 wx3) trodAll_mk0)))) (fun _ _ => rfl) (by simp) (hg.frame _)⟩

end Go.Proofs.YtpdohdmpjaklgaaDoor.envKeeps

set_option linter.unusedVariables false
namespace Go.Proofs.YtpdohdmpjaklgaaDoor.envKeeps
open Go.ChangeShapes Go.WideShapes Go.ChangeAt Go.RowKit Go.WideMaps Go.WideElems
open Go.ChangeMaps (open_string shut_string)

theorem laid_met (os : Os) : laidMet Tryd.prog Rows.envKeepsRow.laid ((laidWorldE Tryd.prog os).forCall (fun _ _ => 0) ⟨#[], #[.slice none 0 0, .string ⟨#[]⟩, .string ⟨#[]⟩, .int .i64 0], []⟩).memory :=
  laidMet_of_run' 8 (by kernel_rfl) (by kernel_rfl)
theorem reads (os : Os) {H : Type} (enc : TypeId × Value → H) : ∃ places, DataW.whole enc Tryd.prog ((laidWorldE Tryd.prog os).forCall (fun _ _ => 0) ⟨#[], #[.slice none 0 0, .string ⟨#[]⟩, .string ⟨#[]⟩, .int .i64 0], []⟩).memory Tryd.f7.params.toList Rows.envKeepsSpec.vars false #[Value.slice none 0 0, Value.string ⟨#[]⟩, Value.string ⟨#[]⟩, Value.int .i64 0].toList 8 = some ([.nil, .lit (.string []), .lit (.string []), .lit (.int .i64 0)], [], places) :=
  ⟨[], by kernel_rfl⟩

set_option maxRecDepth 100000 in
theorem lifted (os : Os) (started : os.Started) (H : Type) (enc : TypeId × Value → H) (F : Stop.Interp) :
    ReturnsInHanded {} Tryd.checked os 7 .any ((OpenSpec.ofChange Rows.envKeepsSpec).preRow enc Tryd.prog Tryd.f7 Rows.envKeepsRow.domain false Rows.envKeepsRow.laid) (((OpenSpec.ofChange Rows.envKeepsSpec).at F).post enc Tryd.prog Tryd.f7 false true false false) := by
  obtain ⟨places, hx⟩ := reads os enc
  refine returnsInHanded_of_row (C := Tryd.checked) (s := OpenSpec.ofChange Rows.envKeepsSpec) own started (by kernel_rfl) Tryd.func7
    (witness_row_at (enc := enc) (C := Tryd.checked) false (laidWorldE Tryd.prog os) #[.slice none 0 0, .string ⟨#[]⟩, .string ⟨#[]⟩, .int .i64 0] rfl (by kernel_rfl) (by kernel_rfl) (by kernel_rfl)
      (OpenSpec.preRow_of_cond 8 hx (by kernel_rfl) (fun k hk => by cases hk) (by kernel_rfl) (laid_met os))) ?_
  intro W base args ds gs before hval hW _ hcond hsz hL _ _
  exact contract H enc W base args ds gs before hval hW hsz hL

theorem said : Rows.EnvKeepsSaid :=
  OpenClaim.holds_of_cond 7 Tryd.f7 rfl rfl rfl rfl rfl rfl rfl ⟨rfl, rfl, rfl, rfl, rfl⟩ rfl rfl rfl rfl rfl (by kernel_rfl) Tryd.func7 (by kernel_rfl)
    (of_decide_eq_true (by kernel_rfl)) (by unfold Func.isWrapper; first | (rw [if_pos (by decide +kernel)]; kernel_rfl) | (rw [if_neg (by decide +kernel)]; exact ⟨rfl, rfl⟩))
    (fun os started H enc _ F => by rw [OpenClaim.pre_eq_preRow]; exact lifted os started H enc F)

theorem plain (f : FuncId) (fn : Func) (hf : Tryd.pinned.checked.prog.funcNamed "sorrel/sorrellaw07.EnvKeeps" = some f) (hfn : Tryd.pinned.checked.prog.funcs[f]? = some fn) :
    false = Tryd.pinned.checked.prog.looks [] ∧ ∀ (j : Nat) t, fn.params[j]? = some t → Tryd.pinned.checked.prog.wantsStandIn t = false := by
  obtain rfl : f = 7 := Option.some.inj ((show Tryd.prog.funcNamed "sorrel/sorrellaw07.EnvKeeps" = some 7 by kernel_rfl).symm.trans hf) |>.symm
  obtain rfl : fn = Tryd.f7 := (Option.some.inj (Tryd.func7.symm.trans hfn)).symm
  refine ⟨by kernel_rfl, fun j t ht => ?_⟩
  rw [Tryd.params7 ] at ht
  have hm := Array.mem_of_getElem? ht
  simp only [List.mem_toArray, List.mem_cons, List.not_mem_nil, or_false] at hm
  rcases hm with rfl | rfl | rfl | rfl
  · exact (show Tryd.prog.wantsStandIn 22 = false by kernel_rfl)
  · exact (show Tryd.prog.wantsStandIn 9 = false by kernel_rfl)
  · exact (show Tryd.prog.wantsStandIn 9 = false by kernel_rfl)
  · exact (show Tryd.prog.wantsStandIn 2 = false by kernel_rfl)

/-- THE CARD. -/
theorem card : Rows.EnvKeepsCardSaid :=
  Claim7.holds_tied_plain_at .later [] _ _ _ _ said (fun _ h => by cases h) (by kernel_rfl) (fun _ h => by cases h) envKeeps_row_tie rfl ⟨rfl, rfl⟩ (by kernel_rfl) rfl plain (by kernel_rfl)
end Go.Proofs.YtpdohdmpjaklgaaDoor.envKeeps
namespace Go.Proofs.YtpdohdmpjaklgaaDoor
/-- EnvKeeps: the card. -/
theorem envKeeps_holds : Rows.EnvKeepsCardSaid := envKeeps.card
end Go.Proofs.YtpdohdmpjaklgaaDoor
