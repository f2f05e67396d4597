/-
  SlD, NestW, WrE, RsW, RlW, RsdW, PwW, SbW, SpW.
-/
import Derived.Test.YtjmccobblpcbhaaDoorChecked
import GoSem.PinnedTables
import GoSem.Claim
import GoSem.ClaimJoined
import GoSem.ClaimMapViews
import Derived.JoinedTies
import Derived.KernelRfl
import Derived.Shelf.Unicode.DecodeSlow
import Derived.Laws.RangeAny
import Derived.Shelf.Strings.Builder1
import Derived.Shelf.Small.Utf8
import Derived.Shelf.Small.Bits
import Derived.Shelf.Strings.BuilderF
import Derived.Shelf.Strings.BuilderK
import Derived.Shelf.Strings.BuilderRune
import Derived.Shelf.Utf8.AppendRune
import Derived.Shelf.Strconv.Itoa0
import Derived.Shelf.Strconv.Itoa1
import Derived.Shelf.LaysM
import Derived.Shelf.Strconv.Itoa2
import Derived.Shelf.Strconv.Itoa3
import Derived.Shelf.Strconv.Itoa4
import Derived.Shelf.Strings.Prefix
import Derived.Shelf.Unicode.DecodeAny
import Derived.Test.YtjmccobblpcbhaaDoorProg
import Derived.WalkKit
import Derived.Deep.DeepFit
import Derived.Lib.OthersKept
import Derived.Lib.RuneCountTail
import Derived.Lib.LaidU8
import Derived.MakeChecks
import Derived.ProofKit
import Derived.OpenShut
import Derived.Deep.DeepHandedRow
import Derived.Lib.MapLaws
import Derived.Sort.Walk0
import Derived.Laws.DeepStrings4
import Derived.Lib.ItoaNum
import Derived.Deep.AppendLies
import Derived.Deep.OwnRows
import Derived.Laws.AppendOwnNone
import Derived.Deep.QuietTactic
import Derived.BigQuiet
import Derived.Deep.RegionWith
import Derived.BigCall
import Derived.Lib.LaidTab
import Derived.Maps.OwnSet
import Derived.StringKeys
import Derived.Deep.Slices
import Derived.Lib.QuietBelow
import Derived.StillTail
import Derived.Laws.OwnMore
import Derived.SizedLaws
import Derived.Below
import Derived.Lib.Small
import Derived.Lib.Strings
import Derived.Deep.RegionHeld3
import Derived.Laws.ResultCell
import Derived.Deep.Heap
import Derived.Laws.Rows
import Derived.Deep.RegionLaw
import Derived.Laws.IdiomStrings
import Derived.Laws.Cover4
import Derived.Test.YtjmccobblpcbhaaDoorRows
import Derived.Test.YtjmccobblpcbhaaDoorL01
import Derived.Test.YtjmccobblpcbhaaDoorL02
import Derived.Test.YtjmccobblpcbhaaDoorL03
import Derived.Test.YtjmccobblpcbhaaDoorL04
import Derived.Test.YtjmccobblpcbhaaDoorL05
import Derived.Test.YtjmccobblpcbhaaDoorL06
import Derived.Test.YtjmccobblpcbhaaDoorL07
import Derived.Test.YtjmccobblpcbhaaDoorL08
import Derived.Test.YtjmccobblpcbhaaDoorL09
import Derived.Test.YtjmccobblpcbhaaDoorL10
import Derived.Test.YtjmccobblpcbhaaDoorL11
import Derived.Test.YtjmccobblpcbhaaDoorL12
import Derived.Test.YtjmccobblpcbhaaDoorL13
import Derived.Test.YtjmccobblpcbhaaDoorL14
import Derived.Test.YtjmccobblpcbhaaDoorL15
import Derived.Test.YtjmccobblpcbhaaDoorL16
import Derived.Test.YtjmccobblpcbhaaDoorL17
import Derived.Test.YtjmccobblpcbhaaDoorL18
import Derived.Test.YtjmccobblpcbhaaDoorL19
import Derived.Test.YtjmccobblpcbhaaDoorL20
import Derived.Test.YtjmccobblpcbhaaDoorL21
import Derived.Test.YtjmccobblpcbhaaDoorL22
import Derived.Test.YtjmccobblpcbhaaDoorL23
import Derived.Test.YtjmccobblpcbhaaDoorL24
import Derived.Test.YtjmccobblpcbhaaDoorL25
import Derived.Test.YtjmccobblpcbhaaDoorL26
import Derived.Test.YtjmccobblpcbhaaDoorL27
import Derived.Test.YtjmccobblpcbhaaDoorL28
import Derived.Test.YtjmccobblpcbhaaDoorL29
import Derived.Test.YtjmccobblpcbhaaDoorL30
import Derived.Test.YtjmccobblpcbhaaDoorL31
import Derived.Test.YtjmccobblpcbhaaDoorL32
import Derived.Test.YtjmccobblpcbhaaDoorL33
import Derived.Test.YtjmccobblpcbhaaDoorL34
import Derived.Test.YtjmccobblpcbhaaDoorL35
set_option linter.unusedSimpArgs false
set_option linter.unusedVariables false
namespace Go.Proofs.YtjmccobblpcbhaaDoor
open Go.RowKit Go.Lib

/-- A piece of the text is such operands and operators, with n brackets and m minus signs. -/
def TgD (S : ByteArray) (pat : Bool) (n m : Nat) (U : ByteArray) : Prop := ∀ d n' m' k, Bt S d U → TkD S pat true (d + U.size) n' m' k → TkD S pat false d (n + n') (m + m') k
section
variable {S : ByteArray} {pat : Bool}
theorem TkD.cast {S : ByteArray} {pat u : Bool} {p n m k n2 m2 : Nat} (h : TkD S pat u p n m k) (h1 : n = n2) (h2 : m = m2) : TkD S pat u p n2 m2 k := by subst h1 h2; exact h
theorem tgd_brack {T : ByteArray} {n m : Nat} (h : TgD S pat n m T) : TgD S pat (n + 1) m (txt [40] ++ T ++ txt [41]) := fun d n' m' k hb hn => by
  obtain ⟨h1, h2⟩ := hb.app
  obtain ⟨h3, h4⟩ := h1.app
  rw [tx1] at h4
  rw [apz, tx1, ← Nat.add_assoc] at h2
  obtain ⟨a1, a2⟩ := h3.byte
  obtain ⟨b1, b2⟩ := h2.byte
  rw [apz, apz, tx1, tx1, show d + (1 + T.size + 1) = d + 1 + T.size + 1 by omega] at hn
  exact (TkD.op a1 a2 (h _ _ _ _ h4 (.cl b1 b2 hn))).cast (by omega) rfl
theorem tgd_tk {op : Int} {place n m : Nat} {y : Nd} {T : ByteArray} (h : TgD S pat n m T) : TgD S pat (n + gBk op place y) m (tkT op place (y, T)) := by
  unfold tkT gBk
  simp only
  split
  · exact tgd_brack h
  · exact h
theorem tgd_lit {n : Int} (hn : num64 n) : TgD S pat 0 (if n < 0 then 1 else 0) (txt (itoa n)) := by
  unfold num64 at hn
  by_cases h0 : n < 0
  · have e : txt (itoa n) = txt [45] ++ txt (decDigits n.natAbs) := by rw [← txt_append]; unfold itoa; rw [if_pos h0]; rfl
    rw [e, if_pos h0]
    intro d n' m' k hb hx
    obtain ⟨h1, h2⟩ := hb.app
    rw [tx1] at h2
    obtain ⟨a1, a2⟩ := h1.byte
    rw [apz, tx1, txt_size, show d + (1 + (decDigits n.natAbs).length) = d + 1 + (decDigits n.natAbs).length by omega] at hx
    exact (TkD.mi a1 a2 (.nu (by omega) h2 hx)).cast (by omega) (by omega)
  · have e : txt (itoa n) = txt (decDigits n.toNat) := by unfold itoa; rw [if_neg h0]
    rw [e, if_neg h0]
    intro d n' m' k hb hx
    rw [txt_size] at hx
    exact (TkD.nu (by omega) hb hx).cast (by omega) (by omega)
theorem tgd_var {nm : ByteArray} (hn : nameB nm = true) : TgD S pat 0 0 nm := fun d n' m' k hb hx => (TkD.nm hn hb hx).cast (by omega) (by omega)
theorem tgd_hole {nm : ByteArray} (hn : nameB nm = true) (hp : pat = true) : TgD S pat 0 0 (txt [64] ++ nm) := fun d n' m' k hb hx => by
  obtain ⟨h1, h2⟩ := hb.app
  rw [tx1] at h2
  obtain ⟨a1, a2⟩ := h1.byte
  rw [apz, tx1, show d + (1 + nm.size) = d + 1 + nm.size by omega] at hx
  exact (TkD.ho a1 a2 hp hn h2 hx).cast (by omega) (by omega)
theorem tgd_un {op : Int} (ho : op = 3 ∨ op = 4) {U : ByteArray} {n m : Nat} (h : TgD S pat n m U) : TgD S pat n (m + if op = 3 then 1 else 0) (sgT op ++ U) := by
  rcases ho with rfl | rfl
  · rw [show sgT 3 = txt [45] from rfl]
    intro d n' m' k hb hx
    obtain ⟨h1, h2⟩ := hb.app
    rw [tx1] at h2
    obtain ⟨a1, a2⟩ := h1.byte
    rw [apz, tx1, show d + (1 + U.size) = d + 1 + U.size by omega] at hx
    exact (TkD.mi a1 a2 (h _ _ _ _ h2 hx)).cast rfl (by rw [if_pos rfl]; omega)
  · rw [show sgT 4 = txt [126] from rfl]
    intro d n' m' k hb hx
    obtain ⟨h1, h2⟩ := hb.app
    rw [tx1] at h2
    obtain ⟨a1, a2⟩ := h1.byte
    rw [apz, tx1, show d + (1 + U.size) = d + 1 + U.size by omega] at hx
    exact (TkD.ti a1 a2 (h _ _ _ _ h2 hx)).cast rfl (by rw [if_neg (by decide)]; omega)
/-- A blank, a sign, a blank. -/
theorem tgd_sgn {op : Int} (ho : 5 ≤ op ∧ op ≤ 17) {q n m k : Nat} (h : Bt S q (txt [32] ++ sgT op ++ txt [32])) (hn : TkD S pat false (q + (sgT op).size + 2) n m k) : TkD S pat true q n m k := by
  have one : ∀ c : UInt8, sgT op = txt [c] → bn1 c → TkD S pat true q n m k := fun c e hs => by
    rw [e] at h hn
    rw [tx1] at hn
    have e2 : txt [32] ++ txt [c] ++ txt [32] = txt [32, c, 32] := by rw [← txt_append, ← txt_append]; rfl
    rw [e2] at h
    exact .b1 h hs hn
  have two : ∀ c : UInt8, sgT op = txt [c, c] → (c = 60 ∨ c = 61 ∨ c = 62) → TkD S pat true q n m k := fun c e hs => by
    rw [e] at h hn
    have ez2 : (txt [c, c]).size = 2 := by rw [txt_size]; rfl
    rw [ez2] at hn
    have e2 : txt [32] ++ txt [c, c] ++ txt [32] = txt [32, c, c, 32] := by rw [← txt_append, ← txt_append]; rfl
    rw [e2] at h
    exact .b2 h hs hn
  have hc : op = 5 ∨ op = 6 ∨ op = 7 ∨ op = 8 ∨ op = 9 ∨ op = 10 ∨ op = 11 ∨ op = 12 ∨ op = 13 ∨ op = 14 ∨ op = 15 ∨ op = 16 ∨ op = 17 := by omega
  rcases hc with rfl | rfl | rfl | rfl | rfl | rfl | rfl | rfl | rfl | rfl | rfl | rfl | rfl
  · exact one 43 rfl (by unfold bn1; simp)
  · exact one 45 rfl (by unfold bn1; simp)
  · exact one 42 rfl (by unfold bn1; simp)
  · exact one 47 rfl (by unfold bn1; simp)
  · exact one 37 rfl (by unfold bn1; simp)
  · exact one 38 rfl (by unfold bn1; simp)
  · exact one 124 rfl (by unfold bn1; simp)
  · exact one 94 rfl (by unfold bn1; simp)
  · exact two 60 rfl (by simp)
  · exact two 62 rfl (by simp)
  · exact two 61 rfl (by simp)
  · exact one 60 rfl (by unfold bn1; simp)
  · exact one 63 rfl (by unfold bn1; simp)
theorem tgd_bin {op : Int} (ho : 5 ≤ op ∧ op ≤ 17) {A B : ByteArray} {n m n2 m2 : Nat} (ha : TgD S pat n m A) (hb : TgD S pat n2 m2 B) : TgD S pat (n + n2) (m + m2) (A ++ txt [32] ++ sgT op ++ txt [32] ++ B) := by
  have hT : A ++ txt [32] ++ sgT op ++ txt [32] ++ B = A ++ (txt [32] ++ sgT op ++ txt [32]) ++ B := by simp only [ByteArray.append_assoc]
  rw [hT]
  intro d n' m' k h hx
  obtain ⟨h1, h2⟩ := h.app
  obtain ⟨h3, h4⟩ := h1.app
  rw [apz, apz, apz, tx1, show d + (A.size + (1 + (sgT op).size + 1)) = d + A.size + (sgT op).size + 2 by omega] at h2
  have e : d + (A ++ (txt [32] ++ sgT op ++ txt [32]) ++ B).size = d + A.size + (sgT op).size + 2 + B.size := by rw [apz, apz, apz, apz, tx1]; omega
  rw [e] at hx
  exact (ha _ _ _ _ h3 (tgd_sgn ho h4 (hb _ _ _ _ h2 hx))).cast (by omega) (by omega)
theorem tgd_ite {A B C : ByteArray} {n m n2 m2 n3 m3 : Nat} (ha : TgD S pat n m A) (hb : TgD S pat n2 m2 B) (hc : TgD S pat n3 m3 C) : TgD S pat (n + n2 + n3) (m + m2 + m3) (A ++ txt [32] ++ sgT 17 ++ txt [32] ++ B ++ (txt [32, 58, 32] ++ C)) := by
  have hab := tgd_bin (op := 17) (by decide) ha hb
  rw [← ByteArray.append_assoc]
  generalize A ++ txt [32] ++ sgT 17 ++ txt [32] ++ B = U at *
  intro d n' m' k h hx
  obtain ⟨h1, h2⟩ := h.app
  obtain ⟨h3, h4⟩ := h1.app
  have ez : (txt [32, 58, 32]).size = 3 := by rw [txt_size]; rfl
  rw [apz, ez, show d + (U.size + 3) = d + U.size + 3 by omega] at h2
  have e : d + (U ++ txt [32, 58, 32] ++ C).size = d + U.size + 3 + C.size := by rw [apz, apz, ez]; omega
  rw [e] at hx
  exact (hab _ _ _ _ h3 (.b1 h4 (by unfold bn1; simp) (hc _ _ _ _ h2 hx))).cast (by omega) (by omega)
theorem tgd_all {l : List Nd} {fr : List Nat} (hbg : begL (l.map fillN) = some fr) (hn : ∀ x ∈ l, num64 x.n) (hp : pat = true ∨ ∀ x ∈ l, x.op ≠ 18) : ∀ i, i < l.length → TgD S pat (wt gBk (fun _ => 0) l i) (wt (fun _ _ _ => 0) hM l i) (tx betT l i) := by
  intro i
  induction i using Nat.strongRecOn with
  | ind i IH =>
    intro hi
    have hat := ndAt_of hbg hi
    have htx := tx_eq betT l i hi hat.kids
    have w1 := wt_eq gBk (fun _ => 0) l i hi hat.kids
    have w2 := wt_eq (fun _ _ _ => 0) hM l i hi hat.kids
    have hmem : l.getD i nd0 ∈ l := by simp [hi]
    have hn64 := hn _ hmem
    have hp18 : pat = true ∨ (l.getD i nd0).op ≠ 18 := hp.imp id fun h => h _ hmem
    have ih : ∀ k : Int, 0 ≤ k → k < (i : Int) → TgD S pat (wt gBk (fun _ => 0) l k.toNat) (wt (fun _ _ _ => 0) hM l k.toNat) (tx betT l k.toNat) := fun k h0 h1 => IH k.toNat (by omega) (by omega)
    obtain ⟨hf, hks, _, _⟩ := hat
    rw [w1, w2]
    clear w1 w2
    generalize l.getD i nd0 = x at *
    rcases nd_cases hf with ⟨h1, h2, h4⟩ | ⟨h1, h2, h4, h5⟩ | ⟨hn0, hnm, hrest⟩
    · obtain ⟨op, n, nm, ks'⟩ := x
      simp only at h1 h2 h4 hn64
      subst h1 h2 h4
      simp only at htx
      rw [htx, if_pos (show ([] : List Int).length = 0 from rfl)]
      have e1 : leafT ⟨1, n, ⟨#[]⟩, []⟩ = txt (itoa n) := by unfold leafT; simp
      have e2 : hM ⟨1, n, ⟨#[]⟩, []⟩ = if n < 0 then 1 else 0 := by unfold hM; simp
      rw [e1, e2]
      exact tgd_lit hn64
    · obtain ⟨op, n, nm, ks'⟩ := x
      simp only at h1 h2 h4 h5 hp18
      subst h2 h4
      simp only at htx
      rw [htx, if_pos (show ([] : List Int).length = 0 from rfl)]
      rcases h1 with rfl | rfl
      · have e1 : leafT ⟨2, 0, nm, []⟩ = nm := by unfold leafT; simp
        rw [e1]
        exact tgd_var h5
      · have e1 : leafT ⟨18, 0, nm, []⟩ = txt [64] ++ nm := by unfold leafT; simp
        rw [e1]
        exact tgd_hole h5 (hp18.resolve_right fun h => h rfl)
    · obtain ⟨op, n, nm, ks'⟩ := x
      simp only at hn0 hnm hrest
      subst hn0 hnm
      simp only at htx hks
      show TgD S pat (0 + ks gBk (fun _ => 0) l op 0 ks') (hM ⟨op, 0, ⟨#[]⟩, ks'⟩ + ks (fun _ _ _ => 0) hM l op 0 ks') (tx betT l i)
      rcases hrest with ⟨ho, a, rfl⟩ | ⟨ho, a, b, rfl⟩ | ⟨ho, a, b, c, rfl⟩
      · obtain ⟨a0, a1⟩ := hks a (by simp)
        rw [htx, if_neg (by simp)]
        have eT : betT ⟨op, 0, ⟨#[]⟩, [a]⟩ (kdP betT l [a]) = sgT op ++ tkT op 0 (l.getD a.toNat nd0, tx betT l a.toNat) := rfl
        rw [eT, hM_op]
        have := tgd_un ho (tgd_tk (op := op) (place := 0) (y := l.getD a.toNat nd0) (ih a a0 a1))
        simp only [ks, Nat.add_zero, Nat.zero_add]
        rw [Nat.add_comm (if op = 3 then 1 else 0)]
        exact this
      · obtain ⟨a0, a1⟩ := hks a (by simp)
        obtain ⟨b0, b1⟩ := hks b (by simp)
        rw [htx, if_neg (by simp)]
        have eT : betT ⟨op, 0, ⟨#[]⟩, [a, b]⟩ (kdP betT l [a, b]) = tkT op 0 (l.getD a.toNat nd0, tx betT l a.toNat) ++ txt [32] ++ sgT op ++ txt [32] ++ tkT op 1 (l.getD b.toNat nd0, tx betT l b.toNat) := rfl
        rw [eT, hM_op]
        have := tgd_bin (op := op) ⟨ho.1, by omega⟩ (tgd_tk (op := op) (place := 0) (y := l.getD a.toNat nd0) (ih a a0 a1)) (tgd_tk (op := op) (place := 1) (y := l.getD b.toNat nd0) (ih b b0 b1))
        rw [if_neg (by omega)]
        simp only [ks, Nat.add_zero, Nat.zero_add]
        exact this
      · subst ho
        obtain ⟨a0, a1⟩ := hks a (by simp)
        obtain ⟨b0, b1⟩ := hks b (by simp)
        obtain ⟨c0, c1⟩ := hks c (by simp)
        rw [htx, if_neg (by simp)]
        have eT : betT ⟨17, 0, ⟨#[]⟩, [a, b, c]⟩ (kdP betT l [a, b, c]) = tkT 17 0 (l.getD a.toNat nd0, tx betT l a.toNat) ++ txt [32] ++ sgT 17 ++ txt [32] ++ tkT 17 1 (l.getD b.toNat nd0, tx betT l b.toNat) ++ (txt [32, 58, 32] ++ tkT 17 2 (l.getD c.toNat nd0, tx betT l c.toNat)) := rfl
        rw [eT, hM_op]
        have := tgd_ite (tgd_tk (op := 17) (place := 0) (y := l.getD a.toNat nd0) (ih a a0 a1)) (tgd_tk (op := 17) (place := 1) (y := l.getD b.toNat nd0) (ih b b0 b1)) (tgd_tk (op := 17) (place := 2) (y := l.getD c.toNat nd0) (ih c c0 c1))
        rw [if_neg (by decide)]
        simp only [ks, Nat.add_zero, Nat.zero_add, Nat.reduceAdd]
        rw [← Nat.add_assoc (wt gBk (fun _ => 0) l a.toNat + gBk 17 0 (l.getD a.toNat nd0)), ← Nat.add_assoc (wt (fun _ _ _ => 0) hM l a.toNat)]
        exact this
end
/-- What is written of an expression or a pattern. -/
theorem tkd_all {l : List Nd} (hs : okSh l = true) (hn : ∀ x ∈ l, num64 x.n) (pat : Bool) (hp : pat = true ∨ ∀ x ∈ l, x.op ≠ 18) : TkD (shF betT l) pat false 0 (nB l) (mB l) 0 := by
  unfold okSh at hs
  simp only [Bool.and_eq_true] at hs
  obtain ⟨_, hsn⟩ := hs
  obtain ⟨fr, hbg⟩ : ∃ fr, begL (l.map fillN) = some fr := by
    unfold sndB at hsn
    exact Option.isSome_iff_exists.1 hsn
  obtain ⟨hl0, _⟩ := begL_some hbg
  simp only [List.length_map] at hl0
  have hg := tgd_all (S := shF betT l) hbg hn hp (l.length - 1) (by omega)
  rw [← shF_tx betT l] at hg
  exact (hg 0 0 0 0 (Bt.self _) (by rw [Nat.zero_add]; exact .fin)).cast (Nat.add_zero _) (Nat.add_zero _)
/-- Without a pair of brackets it is not read as the same. -/
theorem least_cut {l : List Nd} (hs : okSh l = true) (hn : ∀ x ∈ l, num64 x.n) (pat : Bool) (hp : pat = true ∨ ∀ x ∈ l, x.op ≠ 18) {i j most : Nat} (hij : i < j) (hjs : j < (shF betT l).size) (hi : (shF betT l).get! i = 40) (hj : (shF betT l).get! j = 41) :
    psRead (cutB (shF betT l) i j) pat most ≠ .ok l := fun h => by
  obtain ⟨n0, e, hU⟩ := ((tkd_all hs hn pat hp).u.cut hij hjs hi hj).1 (Nat.zero_le _)
  have e0 : ps i j 0 = 0 := by unfold ps; rw [if_pos (Nat.zero_le _)]
  rw [e0] at hU
  obtain ⟨z, h1, h2⟩ := least_read hU h
  omega
/-- A bracket that is opened is closed. -/
theorem least_close {l : List Nd} (hs : okSh l = true) (hn : ∀ x ∈ l, num64 x.n) : opn (shF betT l) (shF betT l).size = 0 ∧ ∀ k, k ≤ (shF betT l).size → 0 ≤ opn (shF betT l) k := by
  have hb := (tkd_all hs hn true (.inl rfl)).bal
  have e0 : opn (shF betT l) 0 = 0 := rfl
  refine ⟨by have := hb.end_; rw [e0] at this; simpa using this, fun k hk => ?_⟩
  have := hb.low k (Nat.zero_le _) hk
  rw [e0] at this
  simpa using this
end Go.Proofs.YtjmccobblpcbhaaDoor

set_option linter.unusedSimpArgs false
set_option linter.unusedVariables false
namespace Go.Proofs.YtjmccobblpcbhaaDoor
open Go.RowKit Go.Lib Go.Sort

theorem opn_abs (s : ByteArray) : ∀ p : Nat, -(p : Int) ≤ opn s p ∧ opn s p ≤ p := by
  intro p
  induction p with
  | zero => exact ⟨by simp [opn], by simp [opn]⟩
  | succ p ih =>
    have : -1 ≤ brk1 (s.get! p) ∧ brk1 (s.get! p) ≤ 1 := by unfold brk1; split <;> (try split) <;> omega
    simp only [opn]
    omega
end Go.Proofs.YtjmccobblpcbhaaDoor

set_option linter.unusedSimpArgs false
set_option linter.unusedVariables false
namespace Go.Proofs.YtjmccobblpcbhaaDoor
open Go.Lib

/-- Are there names of holes? Just if there are holes. -/
theorem hls_zero (l : List Nd) : (hlsL l).length = 0 ↔ ∀ x ∈ l, x.op ≠ 18 := by
  constructor
  · intro h x hx h18
    have mono : ∀ (m : List Nd) (acc : List ByteArray), acc.length ≤ (m.foldl addNm acc).length := by
      intro m
      induction m with
      | nil => intro acc; exact Nat.le_refl _
      | cons y m ih =>
        intro acc
        have h1 := ih (addNm acc y)
        have h2 : acc.length ≤ (addNm acc y).length := by
          unfold addNm
          split
          · split <;> simp
          · omega
        simp only [List.foldl_cons]
        omega
    obtain ⟨a, b, rfl⟩ := List.append_of_mem hx
    unfold hlsL at h
    rw [List.foldl_append, List.foldl_cons] at h
    have h1 := mono b (addNm (a.foldl addNm []) x)
    have h2 : ∀ acc : List ByteArray, 0 < (addNm acc x).length := by
      intro acc
      unfold addNm
      rw [if_pos h18]
      split
      · rename_i hany
        cases acc with
        | nil => simp at hany
        | cons z r => simp
      · simp
    have := h2 (a.foldl addNm [])
    omega
  · intro h
    rw [noH_hls h]; rfl
end Go.Proofs.YtjmccobblpcbhaaDoor

set_option linter.unusedSimpArgs false
set_option linter.unusedVariables false
namespace Go.Proofs.YtjmccobblpcbhaaDoor
open Go.RowKit Go.Lib Go.Sort

/-- While the parts are gathered. -/
structure RsMid (w : World) (cs : Array Value) (v : Value) (k : Nat) (ts : List ByteArray) (wr : World) : Prop where
  row : wr.ownsRow (w.heap.size + 1) 9 1 v k (ts.map Value.string)
  blk : wr.heap[w.heap.size]? = some (.cells cs 60 (0, 0))
  below : Below w.heap.size w wr
theorem RsMid.up {w : World} {cs : Array Value} {v : Value} {k : Nat} {ts : List ByteArray} {wr w2 : World} (h : RsMid w cs v k ts wr) (hb : Below wr.heap.size wr w2) : RsMid w cs v k ts w2 :=
  ⟨ownsRow_below h.row hb, (hb.block _ (lt_of_block h.blk)).trans h.blk, h.below.trans (hb.mono h.below.size)⟩
theorem RsMid.app {w : World} {cs : Array Value} {v : Value} {k : Nat} {ts : List ByteArray} {w2 w6 : World} {o : Obj} {g cap : Nat} {s : ByteArray} (h : RsMid w cs v k ts w2)
    (hown : w6.ownsRow (w.heap.size + 1) 9 1 (.slice (some ⟨g, 0, none⟩) (k + 1) cap) (k + 1) (ts.map Value.string ++ [.string s])) (hg : (w2.alloc o).grownBy w6 v.ownBlock) : RsMid w cs (.slice (some ⟨g, 0, none⟩) (k + 1) cap) (k + 1) (ts ++ [s]) w6 := by
  have hs := lt_of_block h.blk
  have hz : (w2.alloc o).heap.size = w2.heap.size + 1 := by simp
  have hne : some w.heap.size ≠ v.ownBlock := fun e => by have := (own_block' h.row _ e.symm).1; omega
  refine ⟨by rw [List.map_append]; exact hown, ?_, (h.below.alloc (by omega) _).grown hg (by omega) (fun j hj => by have := (own_block' h.row j hj).1; omega)⟩
  exact ((hg.block _ (by omega) hne).trans (alloc_old w2 o _ (by omega))).trans h.blk

end Go.Proofs.YtjmccobblpcbhaaDoor

set_option linter.unusedSimpArgs false
set_option linter.unusedVariables false
namespace Go.Proofs.YtjmccobblpcbhaaDoor
open Go.RowKit Go.Lib

structure RlMid (w : World) (cs : Array Value) (wr : World) : Prop where
  blk : wr.heap[w.heap.size]? = some (.cells cs 60 (0, 0))
  below : Below w.heap.size w wr
theorem RlMid.up {w : World} {cs : Array Value} {wr w2 : World} (h : RlMid w cs wr) (hb : Below wr.heap.size wr w2) : RlMid w cs w2 :=
  ⟨(hb.block _ (lt_of_block h.blk)).trans h.blk, h.below.trans (hb.mono h.below.size)⟩
end Go.Proofs.YtjmccobblpcbhaaDoor

set_option linter.unusedSimpArgs false
set_option linter.unusedVariables false

namespace Go.Proofs.YtjmccobblpcbhaaDoor
open Go.RowKit Go.Lib

/-- Between two nodes of the copy. -/
structure RdMid (w : World) (l : List Nd) (v : Value) (k : Nat) (wr : World) : Prop where
  p : ∃ p, p.map (·.1) = (l.take k).map fillN ++ l.drop k ∧ OwnP wr w.heap.size v p
  below : Below w.heap.size w wr
theorem RdMid.at_ {w : World} {l : List Nd} {v : Value} {k : Nat} {wr : World} (h : RdMid w l v k wr) (hk : k < l.length) : ∃ g cap, v = .slice (some ⟨g, 0, none⟩) l.length cap ∧ w.heap.size ≤ g ∧ g < wr.heap.size ∧ l.length ≤ cap ∧ cap ≤ maxLen ∧ wr.cell? ⟨g, k * 4, none⟩ = some (.int .i64 (l.getD k nd0).op) ∧ wr.frozen? ⟨g, k * 4, none⟩ = false := by
  obtain ⟨⟨p, hp, hc⟩, hb⟩ := h
  have hpl : p.length = l.length := by have := congrArg List.length hp; simp at this; omega
  rcases hc.row.2 with ⟨rfl, h0⟩ | ⟨g, cap, cur, rfl, hg0, hg, h1, h2, h3, h4⟩
  · omega
  · refine ⟨g, cap, by rw [hpl], hg0, lt_of_block hg, by omega, h2, ?_, frozen_of_heap hg _⟩
    have hp2 : p[k]? = some (p[k].1, p[k].2) := by simp [hpl, hk]
    have := (ndCells_at p k _ _ hp2).1
    have hx : ((l.take k).map fillN ++ l.drop k)[k]? = some l[k] := by
      rw [List.getElem?_append_right (by simp; omega)]
      have : k - ((l.take k).map fillN).length = 0 := by simp; omega
      rw [this]; simp [hk]
    have hkp : k < p.length := by omega
    have e : p[k].1 = l.getD k nd0 := by
      have h5 : (p.map (·.1))[k]? = some l[k] := by rw [hp]; exact hx
      simp [hkp] at h5
      simp [hk, h5]
    rw [cell_of_heap hg, ← Array.getElem?_toList, ← e, ← this, ← h4, List.getElem?_take, if_pos (by omega)]
theorem RdMid.skip {w : World} {l : List Nd} {v : Value} {k : Nat} {wr : World} (h : RdMid w l v k wr) (hk : k < l.length) (hop : (l.getD k nd0).op ≠ 18) : RdMid w l v (k + 1) wr := by
  obtain ⟨⟨p, hp, hc⟩, hb⟩ := h
  exact ⟨⟨p, by rw [fill_step hk hop]; exact hp, hc⟩, hb⟩
theorem RdMid.fill {w : World} {l : List Nd} {g cap k : Nat} {wr : World} (h : RdMid w l (.slice (some ⟨g, 0, none⟩) l.length cap) k wr) (hk : k < l.length) (hop : (l.getD k nd0).op = 18) : RdMid w l (.slice (some ⟨g, 0, none⟩) l.length cap) (k + 1) (wr.setCell ⟨g, k * 4, none⟩ (.int .i64 2)) := by
  obtain ⟨g', cap', e1, hg0, _⟩ := h.at_ hk
  cases e1
  obtain ⟨⟨p, hp, hc⟩, hb⟩ := h
  have hpl : p.length = l.length := by have := congrArg List.length hp; simp at this; omega
  have e : l.getD k nd0 = l[k] := by simp [hk]
  have hx : ((l.take k).map fillN ++ l.drop k)[k]? = some l[k] := by
    rw [List.getElem?_append_right (by simp; omega)]
    have : k - ((l.take k).map fillN).length = 0 := by simp; omega
    rw [this]; simp [hk]
  have hpk : p[k]? = some (l[k], (p.getD k (nd0, .slice none 0 0)).2) := by
    have hkp : k < p.length := by omega
    have : (p.map (·.1))[k]? = some l[k] := by rw [hp]; exact hx
    simp [hkp] at this
    simp [hkp, ← this]
  have hfl : fillN l[k] = { l[k] with op := 2 } := by rw [e] at hop; simp [fillN, hop]
  have hrow : wr.ownsRow w.heap.size 60 4 (.slice (some ⟨g, 0, none⟩) l.length cap) l.length (ndCells p) := by have := hc.row; rwa [hpl] at this
  refine ⟨⟨p.set k ({ l[k] with op := 2 }, (p.getD k (nd0, .slice none 0 0)).2), ?_, ?_, ?_⟩, hb.setCell (p := ⟨g, k * 4, none⟩) hg0 _⟩
  · rw [List.map_set, hp, ← hfl]
    rw [List.take_succ_eq_append_getElem hk, List.map_append, List.set_append_right _ _ (by simp; omega)]
    have : k - ((l.take k).map fillN).length = 0 := by simp; omega
    rw [this, List.drop_eq_getElem_cons hk, List.set_cons_zero, List.append_assoc]
    rfl
  · rw [ndCells_op p k _ _ 2 hpk, List.length_set, hpl]
    exact own_put hrow (by rw [ndCells_length]; omega)
  · intro q hq
    have hin : ∀ q ∈ p, OwnI (wr.setCell ⟨g, k * 4, none⟩ (.int .i64 2)) w.heap.size q.2 q.1.kids := fun q hq => row_set (hc.kids q hq) (fun j hj e => by
      subst e
      rcases ownBlock_ne (hc.kids q hq) hc.row (by decide) with h | h
      · rw [h] at hj; cases hj
      · exact h hj) _ _
    rcases List.mem_or_eq_of_mem_set hq with hq | rfl
    · exact hin q hq
    · exact hin (l[k], _) (List.mem_of_getElem? hpk)

set_option maxRecDepth 20000 in
set_option maxHeartbeats 4000000 in
theorem refSound_any {w : World} {ao : Option Addr} {cap : Nat} {l : List Nd} (hN : Rd w ao cap l) (hF : Fit l) :
    Calls Tryd.prog 52 #[.slice ao l.length cap] w fun e w' => e = .returned (.bool (okSh l)) ∧ Below w.heap.size w w' := by
  obtain ⟨hb1, hb2⟩ := hN.bound
  unfold maxLen at hb2
  have cC := copy_any _ l w _ (Nat.le_refl _) hN hF.len hF.kids
  have HN : Hid (Rd w ao cap l) := hN
  have HF : Hid (Fit l) := hF
  obtain ⟨R, hR⟩ : ∃ R, okSh l = R := ⟨_, rfl⟩
  have HR : Hid (R = (sndB (l.map fillN) && (decide ((hlsL l).length = 0) || (decide ((hlsL l).length ≤ 6) && decide (l.length ≤ 16))))) := by show R = _; rw [← hR]; exact ok_ref l
  rw [hR]
  have hhl := hlsL_len l
  clear hN hF hR
  go_enter Tryd.func52, Tryd.ntmps52
  go_wp2_with (go_at_call 10; refine cC.mono ?_; rintro e w1 ⟨v, rfl, ⟨p, hp, hO⟩, hb1'⟩)
  have cH := refHoles_any (HN.out.below hb1' hb1'.size) HF.out.len
  have B1 : Hid (Below w.heap.size w w1) := hb1'
  clear cC hb1'
  go_wp2_with (go_at_call 34; refine cH.mono ?_; rintro e w2 ⟨ha, hc, rfl, hb2'⟩)
  have HM0 : Hid (RdMid w l v 0 w2) := ⟨⟨p, by simpa using hp, hO.below hb2'⟩, B1.out.trans (hb2'.mono B1.out.size)⟩
  obtain ⟨va, vc, hv⟩ := row_form' hO.row
  have hpl : p.length = l.length := by rw [← hp]; simp
  rw [hpl] at hv
  subst hv
  have hvc : l.length ≤ vc ∧ vc ≤ maxLen := by
    rcases hO.row.2 with ⟨e, h0⟩ | ⟨g, c, cur, e, _, _, hn, hm, _⟩
    · simp only [Value.slice.injEq] at e; exact ⟨by omega, by rw [e.2.2]; exact Nat.zero_le _⟩
    · simp only [Value.slice.injEq] at e; exact ⟨by omega, by rw [e.2.2]; exact hm⟩
  obtain ⟨hv1, hv2⟩ := hvc
  unfold maxLen at hv2
  clear cH hb2' hp hO hpl
  go_loopw [5] (fun q wr => ∃ k : Nat, k ≤ l.length ∧ q = .int .i64 k ∧ RdMid w l (.slice va l.length vc) k wr) (fun q _ => l.length - (RowKit.intOf q).toNat)
  case atStart => exact ⟨0, by omega, rfl, HM0.out⟩
  case round =>
    obtain ⟨k, hk, rfl, hM⟩ := hrel
    by_cases hlt : k < l.length
    · obtain ⟨g, cp, e, hg0, hgl, hg1, hg2, hcl, hfz⟩ := hM.at_ hlt
      cases e
      by_cases hop : (l.getD k nd0).op = 18
      · have HFI : Hid (RdMid w l (.slice (some ⟨g, 0, none⟩) l.length vc) (k + 1) (wr.setCell ⟨g, k * 4, none⟩ (.int .i64 2))) := hM.fill hlt hop
        rw [hop] at hcl
        clear hM hop
        go_wp2_with fail
        exact ⟨⟨k + 1, by omega, by go_num, HFI.out⟩, by simp [RowKit.intOf]; omega⟩
      · have HFI : Hid (RdMid w l (.slice (some ⟨g, 0, none⟩) l.length vc) (k + 1) wr) := hM.skip hlt hop
        have g18 : ((l.getD k nd0).op == 18) = false := by rw [beq_eq_false_iff_ne]; exact hop
        generalize (l.getD k nd0).op = oo at *
        clear hM hop
        go_wp2_with fail
        exact ⟨⟨k + 1, by omega, by go_num, HFI.out⟩, by simp [RowKit.intOf]; omega⟩
    · have hke : k = l.length := by omega
      subst hke
      obtain ⟨⟨p, hp, hO⟩, hbw⟩ := hM
      rw [List.take_length, List.drop_length, List.append_nil] at hp
      have hNd := Nodes_of_ownP hO (Nat.le_refl _)
      rw [hp] at hNd
      have cK := refCheck_any (.slice va l.length vc) (l.map fillN) wr wr.heap.size (Nat.le_refl _) hNd (fun x hx => by
        obtain ⟨y, hy, rfl⟩ := List.mem_map.1 hx
        rw [fillN_name]; exact HF.out.name y hy)
      have HBW : Hid (Below w.heap.size w wr) := hbw
      unfold chkE at cK
      clear hp hO hNd hbw
      generalize (hlsL l).length = nh at *
      generalize sndB (l.map fillN) = sb at *
      cases sb
      · rw [if_neg (by decide)] at cK
        have HR2 : Hid (R = false) := by show R = _; rw [HR.out]; rfl
        clear HR
        go_wp2_with (go_at_call 11; refine cK.mono ?_; rintro e w6 ⟨rfl, hb6⟩)
        go_ret
        exact ⟨by rw [HR2.out] <;> rfl, HBW.out.trans (hb6.mono HBW.out.size)⟩
      · rw [if_pos rfl] at cK
        by_cases h0 : nh = 0
        · have HR2 : Hid (R = true) := by show R = _; rw [HR.out]; simp [h0]
          have g0 : ((nh : Int) == 0) = true := by rw [beq_iff_eq]; omega
          clear HR h0
          go_wp2_with (go_at_call 11; refine cK.mono ?_; rintro e w6 ⟨rfl, hb6⟩)
          go_ret
          exact ⟨by rw [HR2.out] <;> rfl, HBW.out.trans (hb6.mono HBW.out.size)⟩
        · have g0 : ((nh : Int) == 0) = false := by rw [beq_eq_false_iff_ne]; omega
          by_cases h6 : nh ≤ 6
          · have g6 : (nh : Int) ≤ 6 := by omega
            by_cases h16 : l.length ≤ 16
            · have g16 : (l.length : Int) ≤ 16 := by omega
              have HR2 : Hid (R = true) := by show R = _; rw [HR.out]; simp [h0, h6, h16]
              clear HR h0 h6 h16
              go_wp2_with (go_at_call 11; refine cK.mono ?_; rintro e w6 ⟨rfl, hb6⟩)
              go_ret
              exact ⟨by rw [HR2.out] <;> rfl, HBW.out.trans (hb6.mono HBW.out.size)⟩
            · have g16 : ¬ (l.length : Int) ≤ 16 := by omega
              have HR2 : Hid (R = decide ((l.length : Int) ≤ 16)) := by show R = _; rw [HR.out, decide_eq_false g16]; simp [h0, h6, h16]
              clear HR h0 h6 h16
              go_wp2_with (go_at_call 11; refine cK.mono ?_; rintro e w6 ⟨rfl, hb6⟩)
              go_ret
              exact ⟨by rw [HR2.out] <;> rfl, HBW.out.trans (hb6.mono HBW.out.size)⟩
          · have g6 : ¬ (nh : Int) ≤ 6 := by omega
            have HR2 : Hid (R = false) := by show R = _; rw [HR.out]; simp [h0, h6]
            clear HR h0 h6
            go_wp2_with (go_at_call 11; refine cK.mono ?_; rintro e w6 ⟨rfl, hb6⟩)
            go_ret
            exact ⟨by rw [HR2.out] <;> rfl, HBW.out.trans (hb6.mono HBW.out.size)⟩
end Go.Proofs.YtjmccobblpcbhaaDoor

set_option linter.unusedSimpArgs false
set_option linter.unusedVariables false
namespace Go.Proofs.YtjmccobblpcbhaaDoor
open Go.RowKit Go.Lib

structure SldW (p : Prop) : Prop where
  out : p
theorem FitX.fit5W {l : List Nd} (h : FitX l) : Fit5 l := ⟨h.name, fun x hx => bounds_i64 (h.num x hx)⟩
theorem show_sz {l : List Nd} (hok : okSh l = true) (hn : ∀ x ∈ l, num64 x.n) : (shF betT l).size ≤ 6500 ∧ l.length ≤ 64 ∧ ((hlsL l).length ≠ 0 → l.length ≤ 16) := by
  have hok' := hok
  unfold okSh at hok'
  simp only [Bool.and_eq_true] at hok'
  obtain ⟨⟨_, h2⟩, h3⟩ := hok'
  obtain ⟨fr, hbg⟩ : ∃ fr, begL (l.map fillN) = some fr := by
    unfold sndB at h3
    exact Option.isSome_iff_exists.1 h3
  refine ⟨?_, by have := (snd_bounds hbg).1; simpa using this, fun h => ?_⟩
  · rw [shF_tx]; exact tx_size bet_ok hbg hn _
  · simp only [Bool.or_eq_true, decide_eq_true_eq] at h2
    rcases h2 with h2 | h2
    · exact absurd h2 h
    · exact h2


end Go.Proofs.YtjmccobblpcbhaaDoor

set_option linter.unusedSimpArgs false
set_option linter.unusedVariables false
namespace Go.Proofs.YtjmccobblpcbhaaDoor
open Go.RowKit Go.Lib

set_option maxHeartbeats 1000000 in
theorem ref5Sound_any {w : World} {ao : Option Addr} {cap : Nat} {l : List Nd} (hN : Rd w ao cap l) (hF : Fit l) :
    Calls Tryd.prog 32 #[.slice ao l.length cap] w fun e w' => e = .returned (.bool (okSh l)) ∧ Below w.heap.size w w' := by
  have c : SldW (Calls Tryd.prog 52 #[.slice ao l.length cap] w fun e w' => e = .returned (.bool (okSh l)) ∧ Below w.heap.size w w') := ⟨refSound_any hN hF⟩
  generalize okSh l = E at *
  clear hN hF
  go_enter Tryd.func32, Tryd.ntmps32
  go_wp2_with fail
  refine c.out.mono ?_
  rintro e w1 ⟨rfl, hb1⟩
  go_wp2_with fail
  go_ret
  exact ⟨rfl, hb1⟩

end Go.Proofs.YtjmccobblpcbhaaDoor

set_option linter.unusedSimpArgs false
set_option linter.unusedVariables false
namespace Go.Proofs.YtjmccobblpcbhaaDoor
open Go.RowKit Go.Lib

structure Box' (p : Prop) : Prop where
  out : p
end Go.Proofs.YtjmccobblpcbhaaDoor
