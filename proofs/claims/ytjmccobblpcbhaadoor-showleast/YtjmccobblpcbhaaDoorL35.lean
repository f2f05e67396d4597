/-
  SlC.
-/
import Derived.Test.YtjmccobblpcbhaaDoorChecked
import GoSem.PinnedTables
import GoSem.Claim
import GoSem.ClaimJoined
import GoSem.ClaimMapViews
import Derived.JoinedTies
import Derived.KernelRfl
import Derived.Shelf.Unicode.DecodeSlow
import Derived.Laws.RangeAny
import Derived.Shelf.Strings.Builder1
import Derived.Shelf.Small.Utf8
import Derived.Shelf.Small.Bits
import Derived.Shelf.Strings.BuilderF
import Derived.Shelf.Strings.BuilderK
import Derived.Shelf.Strings.BuilderRune
import Derived.Shelf.Utf8.AppendRune
import Derived.Shelf.Strconv.Itoa0
import Derived.Shelf.Strconv.Itoa1
import Derived.Shelf.LaysM
import Derived.Shelf.Strconv.Itoa2
import Derived.Shelf.Strconv.Itoa3
import Derived.Shelf.Strconv.Itoa4
import Derived.Shelf.Strings.Prefix
import Derived.Shelf.Unicode.DecodeAny
import Derived.Test.YtjmccobblpcbhaaDoorProg
import Derived.WalkKit
import Derived.Deep.DeepFit
import Derived.Lib.OthersKept
import Derived.Lib.RuneCountTail
import Derived.Lib.LaidU8
import Derived.MakeChecks
import Derived.ProofKit
import Derived.OpenShut
import Derived.Deep.DeepHandedRow
import Derived.Lib.MapLaws
import Derived.Sort.Walk0
import Derived.Laws.DeepStrings4
import Derived.Lib.ItoaNum
import Derived.Deep.AppendLies
import Derived.Deep.OwnRows
import Derived.Laws.AppendOwnNone
import Derived.Deep.QuietTactic
import Derived.BigQuiet
import Derived.Deep.RegionWith
import Derived.BigCall
import Derived.Lib.LaidTab
import Derived.Maps.OwnSet
import Derived.StringKeys
import Derived.Deep.Slices
import Derived.Lib.QuietBelow
import Derived.StillTail
import Derived.Laws.OwnMore
import Derived.Below
import Derived.Lib.Small
import Derived.Lib.Strings
import Derived.Deep.RegionHeld3
import Derived.Laws.ResultCell
import Derived.Deep.Heap
import Derived.Laws.Rows
import Derived.Deep.RegionLaw
import Derived.Test.YtjmccobblpcbhaaDoorRows
import Derived.Test.YtjmccobblpcbhaaDoorL01
import Derived.Test.YtjmccobblpcbhaaDoorL02
import Derived.Test.YtjmccobblpcbhaaDoorL03
import Derived.Test.YtjmccobblpcbhaaDoorL04
import Derived.Test.YtjmccobblpcbhaaDoorL05
import Derived.Test.YtjmccobblpcbhaaDoorL06
import Derived.Test.YtjmccobblpcbhaaDoorL07
import Derived.Test.YtjmccobblpcbhaaDoorL08
import Derived.Test.YtjmccobblpcbhaaDoorL09
import Derived.Test.YtjmccobblpcbhaaDoorL10
import Derived.Test.YtjmccobblpcbhaaDoorL11
import Derived.Test.YtjmccobblpcbhaaDoorL12
import Derived.Test.YtjmccobblpcbhaaDoorL13
import Derived.Test.YtjmccobblpcbhaaDoorL14
import Derived.Test.YtjmccobblpcbhaaDoorL15
import Derived.Test.YtjmccobblpcbhaaDoorL16
import Derived.Test.YtjmccobblpcbhaaDoorL17
import Derived.Test.YtjmccobblpcbhaaDoorL18
import Derived.Test.YtjmccobblpcbhaaDoorL19
import Derived.Test.YtjmccobblpcbhaaDoorL20
import Derived.Test.YtjmccobblpcbhaaDoorL21
import Derived.Test.YtjmccobblpcbhaaDoorL22
import Derived.Test.YtjmccobblpcbhaaDoorL23
import Derived.Test.YtjmccobblpcbhaaDoorL24
import Derived.Test.YtjmccobblpcbhaaDoorL25
import Derived.Test.YtjmccobblpcbhaaDoorL26
import Derived.Test.YtjmccobblpcbhaaDoorL27
import Derived.Test.YtjmccobblpcbhaaDoorL28
import Derived.Test.YtjmccobblpcbhaaDoorL29
import Derived.Test.YtjmccobblpcbhaaDoorL30
import Derived.Test.YtjmccobblpcbhaaDoorL31
import Derived.Test.YtjmccobblpcbhaaDoorL32
import Derived.Test.YtjmccobblpcbhaaDoorL33
import Derived.Test.YtjmccobblpcbhaaDoorL34
set_option linter.unusedSimpArgs false
set_option linter.unusedVariables false
namespace Go.Proofs.YtjmccobblpcbhaaDoor
open Go.RowKit Go.Lib

/-! ### tokens -/
section
variable {S : ByteArray} {pat : Bool}
theorem TkU.stq {p n m : Nat} (h : TkU S pat true p n m) : Stq S p := by
  cases h with
  | fin => exact .inl rfl
  | cl hp hc _ => exact .inr ⟨hp, .inl hc⟩
  | @b1 _ _ _ c hb _ _ =>
    have e : txt [32, c, 32] = txt [32] ++ txt [c, 32] := by rw [← txt_append]; rfl
    rw [e] at hb
    obtain ⟨a, b⟩ := hb.app.1.byte
    exact .inr ⟨a, .inr b⟩
  | @b2 _ _ _ c hb _ _ =>
    have e : txt [32, c, c, 32] = txt [32] ++ txt [c, c, 32] := by rw [← txt_append]; rfl
    rw [e] at hb
    obtain ⟨a, b⟩ := hb.app.1.byte
    exact .inr ⟨a, .inr b⟩
theorem sk_low {p : Nat} {c : UInt8} (hp : p < S.size) (hc : S.get! p = c) (hk : c.toNat < 128 ∧ kd (c.toNat : Int) ≠ 3) : skp S p = p :=
  skp_off hp (by rw [dlow S p (by rw [hc]; exact hk.1), hc]; exact hk.2)
theorem sk_nm {p : Nat} {nm : ByteArray} (hn : nameB nm = true) (hb : Bt S p nm) (hs : Stq S (p + nm.size)) : skp S p = p := by
  obtain ⟨h1, _, h3⟩ := name_lo hn hb hs.spt
  exact skp_off h1 (by rw [h3]; decide)
theorem TkU.skF {p n m : Nat} (h : TkU S pat false p n m) : skp S p = p := by
  cases h with
  | nm hn hb next => exact sk_nm hn hb next.stq
  | nu hu hb next =>
    obtain ⟨h1, h2, _⟩ := num_at hu hb next.stq
    exact skp_off h1 (by rw [h2]; decide)
  | op hp hc _ => exact sk_low hp hc (by decide +kernel)
  | mi hp hc _ => exact sk_low hp hc (by decide +kernel)
  | ti hp hc _ => exact sk_low hp hc (by decide +kernel)
  | ho hp hc _ _ _ _ => exact sk_low hp hc (by decide +kernel)
theorem sk_bl {p : Nat} (hp : p < S.size) (hc : S.get! p = 32) : skp S p = skp S (p + 1) := by
  have h := skp_on hp (by rw [dlow S p (by rw [hc]; decide), hc]; exact em_on.2.2.2.2.2)
  rw [dlow S p (by rw [hc]; decide)] at h
  exact h
/-- What stands at an operand's place. -/
inductive AtF (S : ByteArray) (pat : Bool) (m0 p n m : Nat) (t : Tk) : Prop
  | nm (nm : ByteArray) (e : t = ⟨97, p, p + nm.size, 0, 0⟩) (next : TkU S pat true (p + nm.size) n m)
  | nu (u : Nat) (e : t = ⟨48, p, p + (decDigits u).length, u, if m0 < u then 10 else 0⟩) (next : TkU S pat true (p + (decDigits u).length) n m) (hn : (numI S (p : Int)).2.2 = 0)
  | op (n0 : Nat) (e : t = ⟨40, p, p + 1, 0, 0⟩) (hn : n = n0 + 1) (next : TkU S pat false (p + 1) n0 m)
  | mi (m1 : Nat) (e : t = ⟨45, p, p + 1, 0, 0⟩) (hn : m = m1 + 1) (next : TkU S pat false (p + 1) n m1)
  | ti (e : t = ⟨126, p, p + 1, 0, 0⟩) (next : TkU S pat false (p + 1) n m)
  | ho (nm : ByteArray) (e : t = ⟨64, p, p + 1, 0, 0⟩) (hn : nameB nm = true) (hb : Bt S (p + 1) nm) (next : TkU S pat true (p + 1 + nm.size) n m)
theorem TkU.atF {p n m m0 : Nat} {t : Tk} (h : TkU S pat false p n m) (ht : psFrom S pat m0 p = .ok t) : AtF S pat m0 p n m t := by
  cases h with
  | @nm _ _ _ nm hn hb next =>
    rw [name_tok hb next.stq hn] at ht
    injection ht with ht
    exact .nm nm ht.symm next
  | @nu _ _ _ u hu hb next =>
    have h1 := num_tokX (k := 0) hu (by rw [dgT_zero]; exact hb) (by rw [dgT_zero]; exact next.stq.spt) pat m0
    rw [dgT_zero] at h1
    rw [h1] at ht
    injection ht with ht
    obtain ⟨_, _, h3⟩ := num_at hu hb next.stq
    exact .nu u ht.symm next (by rw [h3])
  | @op _ n0 _ hp hc next =>
    rw [one_tok hp hc (by unfold sg1; simp) (fun e => absurd e (by decide))] at ht
    injection ht with ht
    exact .op n0 ht.symm rfl next
  | @mi _ _ m1 hp hc next =>
    rw [one_tok hp hc (by unfold sg1; simp) (fun e => absurd e (by decide))] at ht
    injection ht with ht
    exact .mi m1 ht.symm rfl next
  | ti hp hc next =>
    rw [one_tok hp hc (by unfold sg1; simp) (fun e => absurd e (by decide))] at ht
    injection ht with ht
    exact .ti ht.symm next
  | @ho _ _ _ nm hp hc hpt hn hb next =>
    subst hpt
    rw [at_tok hp hc] at ht
    injection ht with ht
    exact .ho nm ht.symm hn hb next
/-- What stands at an operator's place. -/
inductive AtT (S : ByteArray) (pat : Bool) (p n m : Nat) (t : Tk) : Prop
  | fin (e : skp S p = S.size) (hw : t.what = 0) (hf : t.from_ = skp S p) (hn : n = 0) (hm : m = 0)
  | cl (e : skp S p = p) (ht : t = ⟨41, p, p + 1, 0, 0⟩) (hl : p < S.size) (next : TkU S pat true (p + 1) n m)
  | sg (hw : (∃ c : UInt8, bn1 c ∧ t.what = (c.toNat : Int)) ∨ t.what = 8810 ∨ t.what = 8801 ∨ t.what = 8811) (he : t.err = 0) (hf : t.from_ = skp S p) (hl : skp S p < S.size) (p' : Nat) (hto : skp S t.to = p') (next : TkU S pat false p' n m)
theorem TkU.atT {p n m : Nat} {t : Tk} (h : TkU S pat true p n m) (ht : psFrom S pat mx63 (skp S p) = .ok t) : AtT S pat p n m t := by
  cases h with
  | fin =>
    rw [skp_all] at ht
    unfold psFrom at ht
    rw [if_neg (Nat.lt_irrefl _)] at ht
    injection ht with ht
    subst ht
    exact .fin (skp_all S) rfl (by rw [skp_all]; rfl) rfl rfl
  | cl hp hc next =>
    have e : skp S p = p := sk_low hp hc (by decide +kernel)
    rw [e, one_tok hp hc (by unfold sg1; simp) (fun x => absurd x (by decide))] at ht
    injection ht with ht
    exact .cl e ht.symm hp next
  | @b1 _ _ _ c hb hc next =>
    have e : txt [32, c, 32] = txt [32] ++ (txt [c] ++ txt [32]) := by rw [← txt_append, ← txt_append]; rfl
    rw [e] at hb
    obtain ⟨g1, g2⟩ := hb.app
    rw [tx1] at g2
    obtain ⟨g2, g3⟩ := g2.app
    rw [tx1] at g3
    obtain ⟨a1, a2⟩ := g1.byte
    obtain ⟨b1, b2⟩ := g2.byte
    obtain ⟨c1, c2⟩ := g3.byte
    have hsg : sg1 c := by unfold bn1 at hc; unfold sg1; rcases hc with rfl | rfl | rfl | rfl | rfl | rfl | rfl | rfl | rfl | rfl | rfl <;> simp
    have e1 : skp S (p + 1) = p + 1 := sk_low b1 b2 (by have := sg1_kd c (sg1_mem hsg); exact ⟨this.1, by rw [this.2.1]; decide⟩)
    have e0 : skp S p = p + 1 := (sk_bl a1 a2).trans e1
    rw [e0, one_tok b1 b2 hsg (fun _ x => by rw [c2] at x; exact absurd x.2 (by decide))] at ht
    injection ht with ht
    subst ht
    refine .sg (.inl ⟨c, hc, rfl⟩) rfl e0.symm (by rw [e0]; exact b1) (p + 3) ?_ next
    exact (sk_bl c1 c2).trans next.skF
  | @b2 _ _ _ c hb hc next =>
    have e : txt [32, c, c, 32] = txt [32] ++ (txt [c] ++ (txt [c] ++ txt [32])) := by rw [← txt_append, ← txt_append, ← txt_append]; rfl
    rw [e] at hb
    obtain ⟨g1, g2⟩ := hb.app
    rw [tx1] at g2
    obtain ⟨g2, g3⟩ := g2.app
    rw [tx1] at g3
    obtain ⟨g3, g4⟩ := g3.app
    rw [tx1] at g4
    obtain ⟨a1, a2⟩ := g1.byte
    obtain ⟨b1, b2⟩ := g2.byte
    obtain ⟨c1, c2⟩ := g3.byte
    obtain ⟨d1, d2⟩ := g4.byte
    have hcm : c ∈ ([40, 41, 42, 43, 45, 47, 37, 38, 124, 94, 126, 60, 63, 58, 61, 62, 64] : List UInt8) := by rcases hc with rfl | rfl | rfl <;> simp
    have e1 : skp S (p + 1) = p + 1 := sk_low b1 b2 (by have := sg1_kd c hcm; exact ⟨this.1, by rw [this.2.1]; decide⟩)
    have e0 : skp S p = p + 1 := (sk_bl a1 a2).trans e1
    rw [e0, two_tok c1 b2 c2 hc] at ht
    injection ht with ht
    subst ht
    refine .sg (.inr ?_) rfl e0.symm (by rw [e0]; exact b1) (p + 4) ?_ next
    · rcases hc with rfl | rfl | rfl
      · exact .inl rfl
      · exact .inr (.inl rfl)
      · exact .inr (.inr rfl)
    · exact (sk_bl d1 d2).trans next.skF
end

/-! ### the measure -/
def gBk (op : Int) (j : Nat) (y : Nd) : Nat := if brkB op j y = true then 1 else 0
def hM (x : Nd) : Nat := if x.op = 3 ∨ (x.op = 1 ∧ x.n < 0) then 1 else 0
def nB (l : List Nd) : Nat := wA gBk (fun _ => 0) l
def mB (l : List Nd) : Nat := wA (fun _ _ _ => 0) hM l
def la0 (l : List Nd) : Nd := l.getD (l.length - 1) nd0
theorem gBk_sh (op : Int) (j d : Nat) (x : Nd) : gBk op j (shN d x) = gBk op j x := rfl
theorem hM_sh (d : Nat) (x : Nd) : hM (shN d x) = hM x := rfl
theorem gBk_le (op : Int) (j : Nat) (x : Nd) : gBk op j x ≤ 1 := by unfold gBk; split <;> omega
theorem nB_one (x : Nd) (hx : x.kids = []) : KidsLo [x] ∧ nB [x] = 0 ∧ mB [x] = hM x ∧ la0 [x] = x := ⟨kidsLo_one x hx, wt_one gBk (fun _ => 0) x hx, wt_one (fun _ _ _ => 0) hM x hx, rfl⟩
theorem la0_snoc (a : List Nd) (x : Nd) : la0 (a ++ [x]) = x := by
  unfold la0
  have := getD_app2 a [x] 0
  simp at this ⊢
theorem hM_op (op : Int) (k : List Int) : hM ⟨op, 0, ⟨#[]⟩, k⟩ = if op = 3 then 1 else 0 := by unfold hM; simp
theorem nB_jn1 {op : Int} {a : List Nd} (ha : KidsLo a) (h0 : a ≠ []) : KidsLo (jn1 op a) ∧ nB (jn1 op a) = nB a + gBk op 0 (la0 a) ∧ mB (jn1 op a) = mB a + (if op = 3 then 1 else 0) ∧ (la0 (jn1 op a)).op = op := by
  obtain ⟨h1, h2⟩ := wA_jn1 gBk (fun _ => 0) (op := op) ha h0
  obtain ⟨_, h3⟩ := wA_jn1 (fun _ _ _ => 0) hM (op := op) ha h0
  refine ⟨h1, by unfold nB; rw [h2]; unfold la0; omega, ?_, by unfold jn1; rw [la0_snoc]⟩
  unfold mB
  rw [h3, hM_op]
  omega
theorem nB_jn2 {op : Int} {a b : List Nd} (ha : KidsLo a) (hb : KidsLo b) (h0 : a ≠ []) (h1 : b ≠ []) (ho : op ≠ 3) : KidsLo (jn2 op a b) ∧ nB (jn2 op a b) = nB a + gBk op 0 (la0 a) + (nB b + gBk op 1 (la0 b)) ∧ mB (jn2 op a b) = mB a + mB b ∧ (la0 (jn2 op a b)).op = op := by
  obtain ⟨h1', h2⟩ := wA_jn2 gBk (fun _ => 0) gBk_sh (fun _ _ => rfl) (op := op) ha hb h0 h1
  obtain ⟨_, h3⟩ := wA_jn2 (fun _ _ _ => 0) hM (fun _ _ _ _ => rfl) hM_sh (op := op) ha hb h0 h1
  refine ⟨h1', by unfold nB; rw [h2]; unfold la0; omega, ?_, by unfold jn2; rw [la0_snoc]⟩
  unfold mB
  rw [h3, hM_op, if_neg ho]
  omega
theorem nB_jn3 {op : Int} {a b c : List Nd} (ha : KidsLo a) (hb : KidsLo b) (hc : KidsLo c) (h0 : a ≠ []) (h1 : b ≠ []) (h2 : c ≠ []) (ho : op ≠ 3) : KidsLo (jn3 op a b c) ∧ nB (jn3 op a b c) = nB a + gBk op 0 (la0 a) + (nB b + gBk op 1 (la0 b)) + (nB c + gBk op 2 (la0 c)) ∧ mB (jn3 op a b c) = mB a + mB b + mB c ∧ (la0 (jn3 op a b c)).op = op := by
  obtain ⟨h1', h2'⟩ := wA_jn3 gBk (fun _ => 0) gBk_sh (fun _ _ => rfl) (op := op) ha hb hc h0 h1 h2
  obtain ⟨_, h3⟩ := wA_jn3 (fun _ _ _ => 0) hM (fun _ _ _ _ => rfl) hM_sh (op := op) ha hb hc h0 h1 h2
  refine ⟨h1', by unfold nB; rw [h2']; unfold la0; omega, ?_, by unfold jn3; rw [la0_snoc]⟩
  unfold mB
  rw [h3, hM_op, if_neg ho]
  omega
/-- What a rule's answer lacks where brackets are asked for. -/
def lkR (k : Int) (y : Nd) : Nat := if rkT y.op < k then 1 else 0
def lkU (S : ByteArray) (p : Nat) (y : Nd) : Nat := if (numI S (p : Int)).2.2 = 11 then gBk 3 0 y else lkR 10 y
def lkQ (S : ByteArray) (p : Nat) (y : Nd) : RdQ → Nat
  | .cond => 0
  | .level lv => lkR ((lv : Int) + 1) y
  | .loop lv _ => lkR ((lv : Int) + 1) y
  | .un => lkU S p y
  | .atom => lkU S p y
theorem rk1 : rkT 1 = 11 := rfl
theorem rk3 : rkT 3 = 10 := rfl
theorem rk4 : rkT 4 = 10 := rfl
theorem rk17 : rkT 17 = 1 := rfl
theorem gk_of {op : Int} {j : Nat} {y : Nd} {P : Prop} [Decidable P] (h : brkB op j y = decide P) : gBk op j y = if P then 1 else 0 := by
  unfold gBk; rw [h]; simp only [decide_eq_true_eq]
theorem bkA {op : Int} {y : Nd} (h1 : op ≠ 17) (h2 : ¬ (op = 15 ∨ op = 16)) (h3 : ¬ (op = 3 ∧ y.op = 1)) : gBk op 0 y = if rkT y.op < rkT op then 1 else 0 :=
  gk_of (by unfold brkB; rw [if_neg h1, if_neg h2, if_neg h3, if_pos rfl])
theorem bkB {op : Int} {y : Nd} (h1 : op ≠ 17) (h2 : ¬ (op = 15 ∨ op = 16)) (h3 : ¬ (op = 3 ∧ y.op = 1)) : gBk op 1 y = if rkT y.op ≤ rkT op then 1 else 0 :=
  gk_of (by unfold brkB; rw [if_neg h1, if_neg h2, if_neg h3, if_neg (by decide)])
theorem bkC {op : Int} {j : Nat} {y : Nd} (h2 : op = 15 ∨ op = 16) : gBk op j y = if rkT y.op ≤ rkT op then 1 else 0 :=
  gk_of (by unfold brkB; rw [if_neg (show op ≠ 17 by rcases h2 with rfl | rfl <;> decide), if_pos h2])
theorem gLit (n : Int) (nm : ByteArray) (k : List Int) : gBk 3 0 ⟨1, n, nm, k⟩ = if 0 ≤ n then 1 else 0 :=
  gk_of (by unfold brkB; rw [if_neg (show ¬ ((3 : Int) = 17) by decide), if_neg (show ¬ ((3 : Int) = 15 ∨ (3 : Int) = 16) by decide), if_pos ⟨rfl, rfl⟩])
theorem g3_ge (y : Nd) : lkR 10 y ≤ gBk 3 0 y := by
  by_cases h1 : y.op = 1
  · unfold lkR; rw [h1, rk1]; simp
  · rw [bkA (by decide) (by decide) (by simp [h1]), rk3]; exact Nat.le_refl _
theorem lkU_ge (S : ByteArray) (p : Nat) (y : Nd) : lkR 10 y ≤ lkU S p y := by
  unfold lkU; split
  · exact g3_ge y
  · exact Nat.le_refl _
theorem lkU_le (S : ByteArray) (p : Nat) (y : Nd) : lkU S p y ≤ 1 := by
  unfold lkU lkR; split
  · exact gBk_le _ _ _
  · split <;> omega
theorem lkR_mono {k k' : Int} (h : k ≤ k') (y : Nd) : lkR k y ≤ lkR k' y := by
  unfold lkR; split <;> split <;> omega
theorem lkU_zero {S : ByteArray} {p : Nat} {y : Nd} (h : 10 ≤ rkT y.op) (h1 : y.op ≠ 1) : lkU S p y = 0 := by
  unfold lkU
  rw [bkA (by decide) (by decide) (by simp [h1]), rk3]
  unfold lkR
  have hn : ¬ rkT y.op < 10 := by omega
  simp [hn]
theorem g4 (y : Nd) : gBk 4 0 y = lkR 10 y := by rw [bkA (by decide) (by decide) (by simp), rk4]; rfl
theorem g17 (y : Nd) : gBk 17 0 y ≤ lkR 2 y ∧ gBk 17 1 y = 0 ∧ gBk 17 2 y = 0 := by
  refine ⟨?_, ?_, ?_⟩
  · have e : gBk 17 0 y = if rkT y.op = rkT 17 then 1 else 0 := gk_of (by unfold brkB; rw [if_pos rfl]; simp)
    rw [e, rk17]
    unfold lkR
    split <;> split <;> omega
  · have e : gBk 17 1 y = if False then 1 else 0 := gk_of (by unfold brkB; rw [if_pos rfl]; simp)
    rw [e]; simp
  · have e : gBk 17 2 y = if False then 1 else 0 := gk_of (by unfold brkB; rw [if_pos rfl]; simp)
    rw [e]; simp
/-- An operator between two operands. -/
theorem op_of {c : Int} {lv : Nat} (hl : 1 ≤ lv) (h : (psOp c).2 = lv) : (psOp c).1 ≠ 3 ∧ rkT (psOp c).1 = (lv : Int) + 1 ∧ ∀ y, (gBk (psOp c).1 1 y = lkR ((lv : Int) + 2) y) ∧
    (gBk (psOp c).1 0 y = if (psOp c).1 = 15 ∨ (psOp c).1 = 16 then lkR ((lv : Int) + 2) y else lkR ((lv : Int) + 1) y) ∧ (((psOp c).1 = 15 ∨ (psOp c).1 = 16) ↔ (lv = 4 ∨ lv = 5)) := by
  have key : ∀ (op : Int) (lv : Nat), op ≠ 3 → op ≠ 17 → rkT op = (lv : Int) + 1 → ((op = 15 ∨ op = 16) ↔ (lv = 4 ∨ lv = 5)) → op ≠ 3 ∧ rkT op = (lv : Int) + 1 ∧ ∀ y, (gBk op 1 y = lkR ((lv : Int) + 2) y) ∧
      (gBk op 0 y = if op = 15 ∨ op = 16 then lkR ((lv : Int) + 2) y else lkR ((lv : Int) + 1) y) ∧ ((op = 15 ∨ op = 16) ↔ (lv = 4 ∨ lv = 5)) := by
    intro op lv h3 h17 hr hi
    have big : ∀ a : Int, (if a ≤ (lv : Int) + 1 then 1 else 0 : Nat) = (if a < (lv : Int) + 2 then 1 else 0) := fun a => by split <;> split <;> omega
    refine ⟨h3, hr, fun y => ⟨?_, ?_, hi⟩⟩
    · by_cases hc : op = 15 ∨ op = 16
      · rw [bkC hc, hr, big]; rfl
      · rw [bkB h17 hc (fun x => h3 x.1), hr, big]; rfl
    · by_cases hc : op = 15 ∨ op = 16
      · rw [if_pos hc, bkC hc, hr, big]; rfl
      · rw [if_neg hc, bkA h17 hc (fun x => h3 x.1), hr]; rfl
  unfold psOp at h ⊢
  by_cases c1 : c = 124
  · rw [if_pos c1] at h ⊢; subst h; exact key _ _ (by decide) (by decide) (by decide) (by decide)
  rw [if_neg c1] at h ⊢
  by_cases c2 : c = 94
  · rw [if_pos c2] at h ⊢; subst h; exact key _ _ (by decide) (by decide) (by decide) (by decide)
  rw [if_neg c2] at h ⊢
  by_cases c3 : c = 38
  · rw [if_pos c3] at h ⊢; subst h; exact key _ _ (by decide) (by decide) (by decide) (by decide)
  rw [if_neg c3] at h ⊢
  by_cases c4 : c = 8801
  · rw [if_pos c4] at h ⊢; subst h; exact key _ _ (by decide) (by decide) (by decide) (by decide)
  rw [if_neg c4] at h ⊢
  by_cases c5 : c = 60
  · rw [if_pos c5] at h ⊢; subst h; exact key _ _ (by decide) (by decide) (by decide) (by decide)
  rw [if_neg c5] at h ⊢
  by_cases c6 : c = 8810
  · rw [if_pos c6] at h ⊢; subst h; exact key _ _ (by decide) (by decide) (by decide) (by decide)
  rw [if_neg c6] at h ⊢
  by_cases c7 : c = 8811
  · rw [if_pos c7] at h ⊢; subst h; exact key _ _ (by decide) (by decide) (by decide) (by decide)
  rw [if_neg c7] at h ⊢
  by_cases c8 : c = 43
  · rw [if_pos c8] at h ⊢; subst h; exact key _ _ (by decide) (by decide) (by decide) (by decide)
  rw [if_neg c8] at h ⊢
  by_cases c9 : c = 45
  · rw [if_pos c9] at h ⊢; subst h; exact key _ _ (by decide) (by decide) (by decide) (by decide)
  rw [if_neg c9] at h ⊢
  by_cases ca : c = 42
  · rw [if_pos ca] at h ⊢; subst h; exact key _ _ (by decide) (by decide) (by decide) (by decide)
  rw [if_neg ca] at h ⊢
  by_cases cb : c = 47
  · rw [if_pos cb] at h ⊢; subst h; exact key _ _ (by decide) (by decide) (by decide) (by decide)
  rw [if_neg cb] at h ⊢
  by_cases cc : c = 37
  · rw [if_pos cc] at h ⊢; subst h; exact key _ _ (by decide) (by decide) (by decide) (by decide)
  rw [if_neg cc] at h
  simp only at h
  omega

/-! ### reading -/
/-- What a rule leaves. -/
def Rest (S : ByteArray) (pat : Bool) (l : List Nd) (e n m N M : Nat) (lack : Nat) : Prop :=
  ∃ p' n' m' z, TkU S pat true p' n' m' ∧ e = skp S p' ∧ KidsLo l ∧ l ≠ [] ∧ nB l + lack + n' ≤ N + n + z ∧ mB l + z + m' = M + m
structure LsR (S : ByteArray) (pat : Bool) (f : Nat) : Prop where
  a : ∀ q p n m t o l e, (∀ lv la, q ≠ .loop lv la) → (∀ lv, q = .level lv → 1 ≤ lv ∧ lv ≤ 9) → TkU S pat false p n m → psFrom S pat mx63 p = .ok t → rdRun S pat f q t o = .ok (l, e) → Rest S pat l e n m 0 0 (lkQ S p (la0 l) q)
  b : ∀ (lv : Nat) (la : List Nd) p n m t o l e K, 1 ≤ lv → KidsLo la → la ≠ [] → nB la + lkR ((lv : Int) + 1) (la0 la) ≤ K → (lv = 4 ∨ lv = 5 → nB la + lkR ((lv : Int) + 2) (la0 la) ≤ K) → TkU S pat true p n m → psFrom S pat mx63 (skp S p) = .ok t → rdRun S pat f (.loop lv la) t o = .ok (l, e) →
    Rest S pat l e n m K (mB la) (lkR ((lv : Int) + 1) (la0 l))
theorem Rest.weak {S : ByteArray} {pat : Bool} {l : List Nd} {e n m N M a b : Nat} (h : Rest S pat l e n m N M a) (hb : b ≤ a) : Rest S pat l e n m N M b := by
  obtain ⟨p', n', m', z, h1, h2, h3, h4, h5, h6⟩ := h
  exact ⟨p', n', m', z, h1, h2, h3, h4, by omega, h6⟩
theorem rdLit_ok {s : ByteArray} {v : Int} {t : Tk} {l : List Nd} {e : Nat} (h : rdLit s v t = .ok (l, e)) : t.what = 48 ∧ t.err = 0 ∧ l = [⟨1, v, ⟨#[]⟩, []⟩] ∧ e = skp s t.to := by
  unfold rdLit at h
  split at h
  · split at h
    · cases h; exact ⟨by assumption, by assumption, rfl, rfl⟩
    · cases h
  · cases h
theorem rdNamed_ok {s : ByteArray} {v : Int} {t : Tk} {l : List Nd} {e : Nat} (h : rdNamed s v t = .ok (l, e)) : t.what = 97 ∧ t.err = 0 ∧ (∃ nm, l = [⟨v, 0, nm, []⟩]) ∧ e = skp s t.to := by
  unfold rdNamed at h
  split at h
  · split at h
    · cases h; exact ⟨by assumption, by assumption, ⟨_, rfl⟩, rfl⟩
    · cases h
  · cases h
theorem lsR_all (S : ByteArray) (pat : Bool) : ∀ f, LsR S pat f
  | 0 => ⟨fun q p n m t o l e _ _ _ _ h => (by cases q <;> cases h), fun lv la p n m t o l e K _ _ _ _ _ _ _ h => by cases h⟩
  | f + 1 => by
    have ih := lsR_all S pat f
    refine ⟨?_, ?_⟩
    · intro q p n m t o l e hq hlv hU ht h
      cases q with
      | loop lv la => exact absurd rfl (hq lv la)
      | level lv =>
        obtain ⟨hl1, hl9⟩ := hlv lv rfl
        unfold rdRun at h
        split at h
        · rename_i h8
          refine (ih.a .un p n m t o l e (fun _ _ x => by cases x) (fun _ x => by cases x) hU ht h).weak ?_
          show lkR _ _ ≤ lkU _ _ _
          obtain rfl : lv = 9 := by omega
          exact lkU_ge _ _ _
        · obtain ⟨⟨a, ea⟩, h1, h⟩ := Pr.bind_ok h
          obtain ⟨t1, h2, h⟩ := Pr.bind_ok h
          obtain ⟨p1, n1, m1, z1, u1, e1, k1, k2, k3, k4⟩ := ih.a (.level (lv + 1)) p n m t o a ea (fun _ _ x => by cases x) (fun x y => by cases y; omega) hU ht h1
          subst e1
          have k3' : nB a + lkR (((lv + 1 : Nat) : Int) + 1) (la0 a) + n1 ≤ 0 + n + z1 := k3
          have hmo : lkR ((lv : Int) + 1) (la0 a) ≤ lkR (((lv + 1 : Nat) : Int) + 1) (la0 a) := lkR_mono (by omega) _
          have hmo2 : lkR ((lv : Int) + 2) (la0 a) ≤ lkR (((lv + 1 : Nat) : Int) + 1) (la0 a) := lkR_mono (by omega) _
          obtain ⟨p2, n2, m2, z2, u2, e2, j1, j2, j3, j4⟩ := ih.b lv a p1 n1 m1 t1 o l e (n + z1 - n1) hl1 k1 k2 (by omega) (fun _ => by omega) u1 h2 h
          exact ⟨p2, n2, m2, z1 + z2, u2, e2, j1, j2, by show _ + lkR _ _ + _ ≤ _; omega, by omega⟩
      | cond =>
        unfold rdRun at h
        obtain ⟨⟨c, ec⟩, h1, h⟩ := Pr.bind_ok h
        obtain ⟨t1, h2, h⟩ := Pr.bind_ok h
        obtain ⟨p1, n1, m1, z1, u1, e1, k1, k2, k3, k4⟩ := ih.a (.level 1) p n m t o c ec (fun _ _ x => by cases x) (fun x y => by cases y; omega) hU ht h1
        subst e1
        have k3' : nB c + lkR 2 (la0 c) + n1 ≤ 0 + n + z1 := k3
        split at h
        · rename_i h63
          obtain ⟨t2, h3, h⟩ := Pr.bind_ok h
          obtain ⟨⟨a, ea⟩, h4, h⟩ := Pr.bind_ok h
          obtain ⟨t3, h5, h⟩ := Pr.bind_ok h
          cases u1.atT h2 with
          | fin _ hw _ _ _ => rw [hw] at h63; exact absurd h63 (by decide)
          | cl _ hw _ _ => rw [hw] at h63; simp at h63
          | sg hw _ _ _ pA hto nextA =>
            rw [hto] at h3
            obtain ⟨p2, n2, m2, z2, u2, e2, a1, a2, a3, a4⟩ := ih.a .cond pA n1 m1 t2 o a ea (fun _ _ x => by cases x) (fun _ x => by cases x) nextA h3 h4
            subst e2
            split at h
            · rename_i h58
              split at h
              · obtain ⟨t4, h6, h⟩ := Pr.bind_ok h
                obtain ⟨⟨b, eb⟩, h7, h⟩ := Pr.bind_ok h
                cases u2.atT h5 with
                | fin _ hw _ _ _ => rw [hw] at h58; exact absurd h58 (by decide)
                | cl _ hw _ _ => rw [hw] at h58; simp at h58
                | sg hw _ _ _ pB hto2 nextB =>
                  rw [hto2] at h6
                  obtain ⟨p3, n3, m3, z3, u3, e3, b1, b2, b3, b4⟩ := ih.a .cond pB n2 m2 t4 o b eb (fun _ _ x => by cases x) (fun _ x => by cases x) nextB h6 h7
                  subst e3
                  try dsimp only at h
                  cases h
                  obtain ⟨j1, j2, j3, j4⟩ := nB_jn3 (op := 17) k1 a1 b1 k2 a2 b2 (by decide)
                  obtain ⟨g1, _, _⟩ := g17 (la0 c)
                  obtain ⟨_, g2, _⟩ := g17 (la0 a)
                  obtain ⟨_, _, g3⟩ := g17 (la0 b)
                  have a3' : nB a + 0 + n2 ≤ 0 + n1 + z2 := a3
                  have b3' : nB b + 0 + n3 ≤ 0 + n2 + z3 := b3
                  exact ⟨p3, n3, m3, z1 + z2 + z3, u3, rfl, j1, by unfold jn3; simp, by show _ + 0 + _ ≤ _; omega, by omega⟩
              · cases h
            · cases h
        · cases h
          exact ⟨p1, n1, m1, z1, u1, rfl, k1, k2, by show _ + 0 + _ ≤ _; omega, k4⟩
      | un =>
        unfold rdRun at h
        split at h
        · rename_i h45
          cases hU.atF ht with
          | nm _ e _ => rw [e] at h45; simp at h45
          | nu _ e _ _ => rw [e] at h45; simp at h45
          | op _ e _ _ => rw [e] at h45; simp at h45
          | ti e _ => rw [e] at h45; simp at h45
          | ho _ e _ _ _ => rw [e] at h45; simp at h45
          | mi m1 e hm next =>
            subst e
            simp only at h
            rw [next.skF] at h
            split at h
            · rename_i hno
              obtain ⟨t1, h1, h⟩ := Pr.bind_ok h
              obtain ⟨⟨x, ex⟩, h2, h⟩ := Pr.bind_ok h
              try dsimp only at h
              cases h
              obtain ⟨p1, n1, m2, z1, u1, e1, k1, k2, k3, k4⟩ := ih.a .un (p + 1) n m1 t1 o x _ (fun _ _ x => by cases x) (fun _ x => by cases x) next h1 h2
              have k3' : nB x + lkU S (p + 1) (la0 x) + n1 ≤ 0 + n + z1 := k3
              have hlk : lkU S (p + 1) (la0 x) = gBk 3 0 (la0 x) := by unfold lkU; rw [if_pos hno]
              obtain ⟨j1, j2, j3, j4⟩ := nB_jn1 (op := 3) k1 k2
              have hz : lkU S p (la0 (jn1 3 x)) = 0 := lkU_zero (by rw [j4, rk3]; decide) (by rw [j4]; decide)
              rw [if_pos rfl] at j3
              exact ⟨p1, n1, m2, z1, u1, e1, j1, by unfold jn1; simp, by show _ + lkU _ _ _ + _ ≤ _; rw [hz]; omega, by omega⟩
            · obtain ⟨t1, h1, h⟩ := Pr.bind_ok h
              obtain ⟨g1, g2, g3, g4⟩ := rdLit_ok h
              cases next.atF h1 with
              | nm _ e _ => rw [e] at g1; simp at g1
              | op _ e _ _ => rw [e] at g1; simp at g1
              | ti e _ => rw [e] at g1; simp at g1
              | ho _ e _ _ _ => rw [e] at g1; simp at g1
              | mi _ e _ _ => rw [e] at g1; simp at g1
              | nu u e next2 _ =>
                subst e
                subst g3
                obtain ⟨j1, j2, j3, j4⟩ := nB_one ⟨1, -((u : Nat) : Int), ⟨#[]⟩, []⟩ rfl
                have hu1 : lkU S p (la0 [⟨1, -((u : Nat) : Int), ⟨#[]⟩, []⟩]) ≤ if u = 0 then 1 else 0 := by
                  rw [j4]
                  unfold lkU
                  rw [gLit]
                  have : lkR 10 ⟨1, -((u : Nat) : Int), ⟨#[]⟩, []⟩ = 0 := rfl
                  repeat' split
                  all_goals omega
                have hm1 : hM ⟨1, -((u : Nat) : Int), ⟨#[]⟩, []⟩ = if u = 0 then 0 else 1 := by
                  unfold hM; simp
                  by_cases h0 : u = 0
                  · subst h0; simp
                  · rw [if_pos (by omega), if_neg h0]
                refine ⟨_, n, m1, if u = 0 then 1 else 0, next2, g4, j1, by simp, ?_, ?_⟩
                · show nB [⟨1, -((u : Nat) : Int), ⟨#[]⟩, []⟩] + lkU S p (la0 [⟨1, -((u : Nat) : Int), ⟨#[]⟩, []⟩]) + _ ≤ _
                  rw [j2]; omega
                · rw [j3, hm1]; split <;> omega
        · split at h
          · rename_i h126
            cases hU.atF ht with
            | nm _ e _ => rw [e] at h126; simp at h126
            | nu _ e _ _ => rw [e] at h126; simp at h126
            | op _ e _ _ => rw [e] at h126; simp at h126
            | mi _ e _ _ => rw [e] at h126; simp at h126
            | ho _ e _ _ _ => rw [e] at h126; simp at h126
            | ti e next =>
              subst e
              simp only at h
              rw [next.skF] at h
              obtain ⟨t1, h1, h⟩ := Pr.bind_ok h
              obtain ⟨⟨x, ex⟩, h2, h⟩ := Pr.bind_ok h
              try dsimp only at h
              cases h
              obtain ⟨p1, n1, m2, z1, u1, e1, k1, k2, k3, k4⟩ := ih.a .un (p + 1) n m t1 o x _ (fun _ _ x => by cases x) (fun _ x => by cases x) next h1 h2
              have k3' : nB x + lkU S (p + 1) (la0 x) + n1 ≤ 0 + n + z1 := k3
              have hge := lkU_ge S (p + 1) (la0 x)
              obtain ⟨j1, j2, j3, j4⟩ := nB_jn1 (op := 4) k1 k2
              have hz : lkU S p (la0 (jn1 4 x)) = 0 := lkU_zero (by rw [j4, rk4]; decide) (by rw [j4]; decide)
              rw [if_neg (by decide)] at j3
              rw [g4] at j2
              exact ⟨p1, n1, m2, z1, u1, e1, j1, by unfold jn1; simp, by show _ + lkU _ _ _ + _ ≤ _; rw [hz]; omega, by omega⟩
          · exact ih.a .atom p n m t o l e (fun _ _ x => by cases x) (fun _ x => by cases x) hU ht h
      | atom =>
        unfold rdRun at h
        cases hU.atF ht with
        | nm nm e next =>
          subst e
          rw [if_neg (by simp), if_pos rfl] at h
          obtain ⟨_, _, ⟨x, g3⟩, g4⟩ := rdNamed_ok h
          subst g3
          obtain ⟨j1, j2, j3, j4⟩ := nB_one ⟨2, 0, x, []⟩ rfl
          have hz : lkU S p (la0 [⟨2, 0, x, []⟩]) = 0 := lkU_zero (by rw [j4]; show (10 : Int) ≤ rkT 2; decide) (by rw [j4]; show (2 : Int) ≠ 1; decide)
          exact ⟨_, n, m, 0, next, g4, j1, by simp, by show _ + lkU _ _ _ + _ ≤ _; rw [hz, j2]; omega, by rw [j3]; simp [hM]⟩
        | nu u e next hno =>
          subst e
          rw [if_pos rfl] at h
          obtain ⟨_, _, g3, g4⟩ := rdLit_ok h
          subst g3
          obtain ⟨j1, j2, j3, j4⟩ := nB_one ⟨1, ((u : Nat) : Int), ⟨#[]⟩, []⟩ rfl
          have hz : lkU S p (la0 [⟨1, ((u : Nat) : Int), ⟨#[]⟩, []⟩]) = 0 := by
            rw [j4]; unfold lkU lkR; rw [hno]; simp [rk1]
          exact ⟨_, n, m, 0, next, g4, j1, by simp, by show _ + lkU _ _ _ + _ ≤ _; rw [hz, j2]; omega, by rw [j3]; simp [hM]⟩
        | mi _ e _ _ => subst e; rw [if_neg (by simp), if_neg (by simp), if_neg (by simp), if_neg (by simp)] at h; cases h
        | ti e _ => subst e; rw [if_neg (by simp), if_neg (by simp), if_neg (by simp), if_neg (by simp)] at h; cases h
        | ho nm e hn hb next =>
          subst e
          rw [if_neg (by simp), if_neg (by simp), if_pos rfl] at h
          obtain ⟨t1, h1, h⟩ := Pr.bind_ok h
          simp only at h1
          rw [sk_nm hn hb next.stq, name_tok hb next.stq hn] at h1
          injection h1 with h1
          subst h1
          obtain ⟨_, _, ⟨x, g3⟩, g4⟩ := rdNamed_ok h
          subst g3
          obtain ⟨j1, j2, j3, j4⟩ := nB_one ⟨18, 0, x, []⟩ rfl
          have hz : lkU S p (la0 [⟨18, 0, x, []⟩]) = 0 := lkU_zero (by rw [j4]; show (10 : Int) ≤ rkT 18; decide) (by rw [j4]; show (18 : Int) ≠ 1; decide)
          exact ⟨_, n, m, 0, next, g4, j1, by simp, by show _ + lkU _ _ _ + _ ≤ _; rw [hz, j2]; omega, by rw [j3]; simp [hM]⟩
        | op n0 e hn next =>
          subst e
          rw [if_neg (by simp), if_neg (by simp), if_neg (by simp), if_pos rfl] at h
          split at h
          · cases h
          · simp only at h
            rw [next.skF] at h
            obtain ⟨t1, h1, h⟩ := Pr.bind_ok h
            obtain ⟨⟨x, ex⟩, h2, h⟩ := Pr.bind_ok h
            obtain ⟨t2, h3, h⟩ := Pr.bind_ok h
            obtain ⟨p1, n1, m1, z1, u1, e1, k1, k2, k3, k4⟩ := ih.a .cond (p + 1) n0 m t1 (o + 1) x ex (fun _ _ x => by cases x) (fun _ x => by cases x) next h1 h2
            subst e1
            have k3' : nB x + 0 + n1 ≤ 0 + n0 + z1 := k3
            split at h
            · rename_i h41
              cases u1.atT h3 with
              | fin _ hw _ _ _ => rw [hw] at h41; exact absurd h41 (by decide)
              | sg hw _ _ _ _ _ _ =>
                rcases hw with ⟨c, hc, e⟩ | e | e | e
                · rw [e] at h41
                  unfold bn1 at hc
                  rcases hc with rfl | rfl | rfl | rfl | rfl | rfl | rfl | rfl | rfl | rfl | rfl <;> exact absurd h41 (by decide)
                · rw [e] at h41; exact absurd h41 (by decide)
                · rw [e] at h41; exact absurd h41 (by decide)
                · rw [e] at h41; exact absurd h41 (by decide)
              | cl e e2 hl next2 =>
                subst e2
                rw [if_pos rfl] at h
                try dsimp only at h
                cases h
                have := lkU_le S p (la0 l)
                exact ⟨p1 + 1, n1, m1, z1, next2, rfl, k1, k2, by show _ + lkU _ _ _ + _ ≤ _; omega, k4⟩
            · cases h
    · intro lv la p n m t o l e K hl1 hk h0 hK hK2 hU ht h
      unfold rdRun at h
      split at h
      · rename_i hop
        obtain ⟨t1, h1, h⟩ := Pr.bind_ok h
        obtain ⟨⟨b, eb⟩, h2, h⟩ := Pr.bind_ok h
        have h8 : lv ≤ 8 := by rw [← hop]; exact psOp_le _
        have hbad : ∀ c : Int, (psOp c).2 = lv → c ≠ 0 ∧ c ≠ 41 := fun c hc => by
          refine ⟨fun e => ?_, fun e => ?_⟩
          · rw [e] at hc
            have h9 : (psOp 0).2 = 0 := rfl
            omega
          · rw [e] at hc
            have h9 : (psOp 41).2 = 0 := rfl
            omega
        cases hU.atT ht with
        | fin _ hw _ _ _ => exact absurd hw (hbad _ hop).1
        | cl _ hw _ _ => exact absurd (by rw [hw]) (hbad _ hop).2
        | sg _ _ _ _ pB hto next =>
          rw [hto] at h1
          obtain ⟨p1, n1, m1, z1, u1, e1, k1, k2, k3, k4⟩ := ih.a (.level (lv + 1)) pB n m t1 o b eb (fun _ _ x => by cases x) (fun x y => by cases y; omega) next h1 h2
          subst e1
          obtain ⟨o3, orw, og⟩ := op_of hl1 hop
          obtain ⟨j1, j2, j3, j4⟩ := nB_jn2 (op := (psOp t.what).1) hk k1 h0 k2 o3
          obtain ⟨_, q0, qi⟩ := og (la0 la)
          obtain ⟨q1, _, _⟩ := og (la0 b)
          have k3' : nB b + lkR ((lv : Int) + 2) (la0 b) + n1 ≤ 0 + n + z1 := by
            have e : (((lv + 1 : Nat) : Int) + 1) = (lv : Int) + 2 := by omega
            rw [← e]; exact k3
          have hrl : lkR ((lv : Int) + 1) (la0 (jn2 (psOp t.what).1 la b)) = 0 := by
            unfold lkR; rw [j4, orw, if_neg (by omega)]
          have hne : jn2 (psOp t.what).1 la b ≠ [] := by unfold jn2; simp
          split at h
          · rename_i hcmp
            try dsimp only at h
            cases h
            rw [if_pos hcmp] at q0
            have := hK2 (qi.1 hcmp)
            exact ⟨p1, n1, m1, z1, u1, rfl, j1, hne, by rw [hrl, j2, q0, q1]; omega, by omega⟩
          · rename_i hcmp
            rw [if_neg hcmp] at q0
            obtain ⟨t2, h3, h⟩ := Pr.bind_ok h
            obtain ⟨p2, n2, m2, z2, u2, e2, i1, i2, i3, i4⟩ := ih.b lv (jn2 (psOp t.what).1 la b) p1 n1 m1 t2 o l e (K + n + z1 - n1) hl1 j1 hne (by rw [hrl, j2, q0, q1]; omega) (fun x => absurd (qi.2 x) hcmp) u1 h3 h
            exact ⟨p2, n2, m2, z1 + z2, u2, e2, i1, i2, by omega, by omega⟩
      · cases h
        have hf : t.from_ = skp S p := by
          cases hU.atT ht with
          | fin _ _ hf _ _ => exact hf
          | cl e ht _ _ => rw [ht, e]
          | sg _ _ hf _ _ _ _ => exact hf
        exact ⟨p, n, m, 0, hU, hf, hk, h0, by omega, by omega⟩
/-- What is read as l has no fewer brackets than are written of l, where no minus is read as a nought's. -/
theorem least_read {S : ByteArray} {pat : Bool} {most N M : Nat} {l : List Nd} (hU : TkU S pat false 0 N M) (h : psRead S pat most = .ok l) : ∃ z, nB l ≤ N + z ∧ mB l + z = M := by
  rw [read_eq] at h
  unfold rdWhole at h
  split at h
  · cases h
  · split at h
    · obtain ⟨⟨r, e⟩, h1, h⟩ := Pr.bind_ok h
      unfold rdX at h1
      obtain ⟨t, ht, h1⟩ := Pr.bind_ok h1
      obtain ⟨t2, h2, h⟩ := Pr.bind_ok h
      rw [hU.skF] at ht
      obtain ⟨p', n', m', z, u, e1, k1, k2, k3, k4⟩ := (lsR_all S pat _).a .cond 0 N M t 0 r e (fun _ _ x => by cases x) (fun _ x => by cases x) hU ht h1
      subst e1
      have k3' : nB r + 0 + n' ≤ 0 + N + z := k3
      split at h
      · cases h
      · rename_i hlt
        split at h
        · cases h
        · split at h
          · cases h
          · try dsimp only at h
            cases h
            cases u.atT h2 with
            | fin _ _ _ hn hm => exact ⟨z, by omega, by omega⟩
            | cl e _ hl _ => exact absurd (by rw [e]; exact hl) hlt
            | sg _ _ _ hl _ _ _ => exact absurd hl hlt
    · cases h
end Go.Proofs.YtjmccobblpcbhaaDoor
