/-
  SnA, SnB, SwapW.
-/
import Derived.Test.YtjmccobblpcbhaaDoorChecked
import GoSem.PinnedTables
import GoSem.Claim
import GoSem.ClaimJoined
import GoSem.ClaimMapViews
import Derived.JoinedTies
import Derived.KernelRfl
import Derived.Shelf.Unicode.DecodeSlow
import Derived.Laws.RangeAny
import Derived.Shelf.Strings.Builder1
import Derived.Shelf.Small.Utf8
import Derived.Shelf.Small.Bits
import Derived.Shelf.Strings.BuilderF
import Derived.Shelf.Strings.BuilderK
import Derived.Shelf.Strings.BuilderRune
import Derived.Shelf.Utf8.AppendRune
import Derived.Shelf.Strconv.Itoa0
import Derived.Shelf.Strconv.Itoa1
import Derived.Shelf.LaysM
import Derived.Shelf.Strconv.Itoa2
import Derived.Shelf.Strconv.Itoa3
import Derived.Shelf.Strconv.Itoa4
import Derived.Shelf.Strings.Prefix
import Derived.Shelf.Unicode.DecodeAny
import Derived.Test.YtjmccobblpcbhaaDoorProg
import Derived.WalkKit
import Derived.Deep.DeepFit
import Derived.Lib.OthersKept
import Derived.Lib.RuneCountTail
import Derived.Lib.LaidU8
import Derived.MakeChecks
import Derived.ProofKit
import Derived.OpenShut
import Derived.Deep.DeepHandedRow
import Derived.Lib.MapLaws
import Derived.Sort.Walk0
import Derived.Laws.DeepStrings4
import Derived.Lib.ItoaNum
import Derived.Deep.AppendLies
import Derived.Deep.OwnRows
import Derived.Laws.AppendOwnNone
import Derived.Deep.QuietTactic
import Derived.BigQuiet
import Derived.Deep.RegionWith
import Derived.BigCall
import Derived.Lib.LaidTab
import Derived.Maps.OwnSet
import Derived.StringKeys
import Derived.Deep.Slices
import Derived.Lib.QuietBelow
import Derived.StillTail
import Derived.Laws.OwnMore
import Derived.Below
import Derived.Lib.Small
import Derived.Lib.Strings
import Derived.Deep.RegionHeld3
import Derived.Laws.ResultCell
import Derived.Deep.Heap
import Derived.Laws.Rows
import Derived.Deep.RegionLaw
import Derived.Recover
import Derived.Defers
import Derived.Test.YtjmccobblpcbhaaDoorRows
import Derived.Test.YtjmccobblpcbhaaDoorM01
import Derived.Test.YtjmccobblpcbhaaDoorM02
import Derived.Test.YtjmccobblpcbhaaDoorM03
import Derived.Test.YtjmccobblpcbhaaDoorM04
import Derived.Test.YtjmccobblpcbhaaDoorM05
import Derived.Test.YtjmccobblpcbhaaDoorM06
import Derived.Test.YtjmccobblpcbhaaDoorM07
import Derived.Test.YtjmccobblpcbhaaDoorM08
import Derived.Test.YtjmccobblpcbhaaDoorM09
import Derived.Test.YtjmccobblpcbhaaDoorM10
import Derived.Test.YtjmccobblpcbhaaDoorM11
import Derived.Test.YtjmccobblpcbhaaDoorM12
import Derived.Test.YtjmccobblpcbhaaDoorM13
import Derived.Test.YtjmccobblpcbhaaDoorM14
import Derived.Test.YtjmccobblpcbhaaDoorM15
import Derived.Test.YtjmccobblpcbhaaDoorM16
import Derived.Test.YtjmccobblpcbhaaDoorM17
import Derived.Test.YtjmccobblpcbhaaDoorM18
import Derived.Test.YtjmccobblpcbhaaDoorM19
import Derived.Test.YtjmccobblpcbhaaDoorM20
import Derived.Test.YtjmccobblpcbhaaDoorM21
import Derived.Test.YtjmccobblpcbhaaDoorM22
import Derived.Test.YtjmccobblpcbhaaDoorM23
import Derived.Test.YtjmccobblpcbhaaDoorM24
import Derived.Test.YtjmccobblpcbhaaDoorM25
import Derived.Test.YtjmccobblpcbhaaDoorM26
import Derived.Test.YtjmccobblpcbhaaDoorM27
import Derived.Test.YtjmccobblpcbhaaDoorM28
import Derived.Test.YtjmccobblpcbhaaDoorM29
import Derived.Test.YtjmccobblpcbhaaDoorM30
import Derived.Test.YtjmccobblpcbhaaDoorM31
import Derived.Test.YtjmccobblpcbhaaDoorM32
import Derived.Test.YtjmccobblpcbhaaDoorM33
import Derived.Test.YtjmccobblpcbhaaDoorM34
import Derived.Test.YtjmccobblpcbhaaDoorM35
import Derived.Test.YtjmccobblpcbhaaDoorM36
import Derived.Test.YtjmccobblpcbhaaDoorM37
set_option linter.unusedSimpArgs false
set_option linter.unusedVariables false
namespace Go.Proofs.YtjmccobblpcbhaaDoor
open Go.RowKit Go.Lib

/-- A node with another name, if it is a variable. -/
def swF (φ : ByteArray → ByteArray) (x : Nd) : Nd := if x.op = 2 then { x with name := φ x.name } else x
theorem swF_op (φ : ByteArray → ByteArray) (x : Nd) : (swF φ x).op = x.op := by unfold swF; split <;> rfl
theorem swF_kids (φ : ByteArray → ByteArray) (x : Nd) : (swF φ x).kids = x.kids := by unfold swF; split <;> rfl
theorem swF_n (φ : ByteArray → ByteArray) (x : Nd) : (swF φ x).n = x.n := by unfold swF; split <;> rfl
def swP (φ : ByteArray → ByteArray) (l : List Nd) (k : Nat) : List Nd := (l.take k).map (swF φ) ++ l.drop k
theorem swP_len (φ : ByteArray → ByteArray) (l : List Nd) (k : Nat) : (swP φ l k).length = l.length := by
  unfold swP; rw [List.length_append, List.length_map, ← List.length_append, List.take_append_drop]
theorem swP_zero (φ : ByteArray → ByteArray) (l : List Nd) : swP φ l 0 = l := by simp [swP]
theorem swP_all (φ : ByteArray → ByteArray) (l : List Nd) : swP φ l l.length = l.map (swF φ) := by simp [swP]
theorem swP_at (φ : ByteArray → ByteArray) (l : List Nd) (k : Nat) (h : k < l.length) : (swP φ l k).getD k nd0 = l.getD k nd0 := by
  unfold swP
  have hz : ((l.take k).map (swF φ)).length = k := by simp; omega
  have h2 := getD_app2 ((l.take k).map (swF φ)) (l.drop k) 0
  rw [hz, Nat.add_zero] at h2
  rw [h2]
  simp
theorem swP_succ (φ : ByteArray → ByteArray) (l : List Nd) (k : Nat) (h : k < l.length) : swP φ l (k + 1) = (swP φ l k).set k (swF φ (l.getD k nd0)) := by
  unfold swP
  have hz : ((l.take k).map (swF φ)).length = k := by simp; omega
  have hx : l.getD k nd0 = l[k] := by simp [h]
  rw [List.take_succ_eq_append_getElem h, List.drop_eq_getElem_cons h, hx, List.map_append, List.append_assoc]
  have : ∀ (a : List Nd) (y z : Nd) (r : List Nd), a.length = k → (a ++ y :: r).set k z = a ++ (z :: r) := fun a y z r ha => by
    rw [List.set_append_right _ _ (by omega), ha, Nat.sub_self]; rfl
  rw [this _ _ _ _ hz]
  rfl
theorem swP_not (φ : ByteArray → ByteArray) (l : List Nd) (k : Nat) (h : k < l.length) (hn : (l.getD k nd0).op ≠ 2) : swP φ l (k + 1) = swP φ l k := by
  rw [swP_succ φ l k h]
  have e : swF φ (l.getD k nd0) = l.getD k nd0 := by unfold swF; rw [if_neg hn]
  rw [e]
  have hz : k < (swP φ l k).length := by rw [swP_len]; exact h
  have h2 := swP_at φ l k h
  have : (swP φ l k)[k] = l.getD k nd0 := by rw [← h2]; simp [hz]
  rw [← this]
  exact List.set_getElem_self hz
theorem swF_form (φ : ByteArray → ByteArray) (x : Nd) (h : formB x = true) (hn : x.op = 2 → nameB (φ x.name) = true) : formB (swF φ x) = true := by
  unfold swF
  by_cases h2 : x.op = 2
  · rw [if_pos h2]
    obtain ⟨op, n, nm, ks⟩ := x
    simp only at h2
    subst h2
    have hn' := hn rfl
    unfold formB fitB at h ⊢
    simp only [Bool.and_eq_true, if_true] at h ⊢
    exact ⟨h.1, hn'⟩
  · rw [if_neg h2]; exact h
/-- Sound it stays. -/
theorem swF_beg {φ : ByteArray → ByteArray} {l : List Nd} {fr : List Nat} (h : begL l = some fr) (hn : ∀ x ∈ l, x.op = 2 → nameB (φ x.name) = true) : begL (l.map (swF φ)) = some fr := by
  have key : ∀ (l : List Nd) (fr0 : List Nat) (r : List Nat), begR fr0 l = some r → (∀ x ∈ l, x.op = 2 → nameB (φ x.name) = true) → begR fr0 (l.map (swF φ)) = some r := by
    intro l
    induction l with
    | nil => intro fr0 r h _; exact h
    | cons x l ih =>
      intro fr0 r h hx
      rw [List.map_cons]
      unfold begR at h ⊢
      cases hs : stp fr0 x with
      | none => rw [hs] at h; cases h
      | some f1 =>
        rw [hs] at h
        have e : stp fr0 (swF φ x) = some f1 := by
          unfold stp at hs ⊢
          split at hs
          · rename_i hf
            rw [if_pos (swF_form φ x hf (hx x (by simp))), swF_kids]
            exact hs
          · cases hs
        rw [e]
        exact ih f1 r h (fun y hy => hx y (by simp [hy]))
  unfold begL at h ⊢
  rw [List.length_map]
  split at h
  · cases h
  · rename_i hl
    rw [if_neg hl]
    cases hr : begR [] l with
    | none => rw [hr] at h; cases h
    | some r =>
      rw [hr] at h
      rw [key l [] r hr hn]
      exact h
theorem swF_back {φ ψ : ByteArray → ByteArray} {l : List Nd} (h : ∀ x ∈ l, x.op = 2 → ψ (φ x.name) = x.name) : (l.map (swF φ)).map (swF ψ) = l := by
  rw [List.map_map]
  conv => rhs; rw [← List.map_id l]
  apply List.map_congr_left
  intro x hx
  show swF ψ (swF φ x) = x
  by_cases h2 : x.op = 2
  · unfold swF
    rw [if_pos h2]
    simp only [if_pos h2, h x hx h2]
  · unfold swF
    rw [if_neg h2, if_neg h2]
/-- Of a sound expression: no holes, no other operators. -/
theorem snd_ops {l : List Nd} {fr : List Nat} (h : begL l = some fr) : ∀ x ∈ l, x.op ≠ 18 := fun x hx h18 => by
  obtain ⟨i, hi, rfl⟩ := List.mem_iff_getElem.1 hx
  have key : ∀ (l : List Nd) (fr0 : List Nat) (r : List Nat), begR fr0 l = some r → ∀ x ∈ l, formB x = true := by
    intro l
    induction l with
    | nil => intro _ _ _ x hx; cases hx
    | cons y l ih =>
      intro fr0 r h x hx
      unfold begR at h
      cases hs : stp fr0 y with
      | none => rw [hs] at h; cases h
      | some f1 =>
        rw [hs] at h
        rcases List.mem_cons.1 hx with rfl | hx
        · unfold stp at hs
          split at hs
          · assumption
          · cases hs
        · exact ih f1 r h x hx
  have hb : ∃ r, begR [] l = some r := by
    unfold begL at h
    split at h
    · cases h
    · cases hr : begR [] l with
      | none => rw [hr] at h; cases h
      | some r => exact ⟨r, rfl⟩
  obtain ⟨r, hr⟩ := hb
  have hf := key l [] r hr _ (List.getElem_mem hi)
  unfold formB fitB at hf
  rw [h18] at hf
  simp [aritI] at hf
theorem fill_id {l : List Nd} (h : ∀ x ∈ l, x.op ≠ 18) : l.map fillN = l := by
  conv => rhs; rw [← List.map_id l]
  apply List.map_congr_left
  intro x hx
  show fillN x = x
  unfold fillN
  rw [if_neg (h x hx)]
theorem okSh_of {l : List Nd} {fr : List Nat} (h : begL l = some fr) : okSh l = true := by
  have h18 := snd_ops h
  have h0 : (hlsL l).length = 0 := (hls_zero l).2 h18
  unfold okSh
  rw [h0, fill_id h18]
  unfold sndB
  rw [h]
  simp

/-! ### how long the text is -/
def hV (x : Nd) : Nat := if x.op = 2 then 1 else 0
theorem hV_sh (d : Nat) (x : Nd) : hV (shN d x) = hV x := rfl
theorem brk_sw (φ : ByteArray → ByteArray) (op : Int) (j : Nat) (y : Nd) : brkB op j (swF φ y) = brkB op j y := by unfold brkB; rw [swF_op, swF_n]
theorem getD_sw (φ : ByteArray → ByteArray) (l : List Nd) (i : Nat) (hi : i < l.length) : (l.map (swF φ)).getD i nd0 = swF φ (l.getD i nd0) := by simp [hi]
theorem tk_sz (φ : ByteArray → ByteArray) (op : Int) (j : Nat) (y : Nd) (A B : ByteArray) (n : Nat) (h : B.size = A.size + n) : (tkT op j (swF φ y, B)).size = (tkT op j (y, A)).size + n := by
  unfold tkT
  simp only [brk_sw]
  split
  · rw [apz, apz, apz, apz]; omega
  · exact h
theorem tx_sw {φ : ByteArray → ByteArray} (hφ : ∀ a, (φ a).size = a.size + 1) {l : List Nd} {fr : List Nat} (hbg : begL l = some fr) (hbg2 : begL (l.map (swF φ)) = some fr) : ∀ i, i < l.length → (tx betT (l.map (swF φ)) i).size = (tx betT l i).size + wt (fun _ _ _ => 0) hV l i := by
  have h18 := snd_ops hbg
  have h182 := snd_ops hbg2
  intro i
  induction i using Nat.strongRecOn with
  | ind i IH =>
    intro hi
    have hat := ndAt_of (by rw [fill_id h18]; exact hbg) hi
    have htx := tx_eq betT l i hi hat.kids
    have w2 := wt_eq (fun _ _ _ => 0) hV l i hi hat.kids
    have hi2 : i < (l.map (swF φ)).length := by simp; exact hi
    have htx2 := tx_eq betT (l.map (swF φ)) i hi2 (by rw [getD_sw φ l i hi, swF_kids]; exact hat.kids)
    rw [getD_sw φ l i hi, swF_kids] at htx2
    have hmem : l.getD i nd0 ∈ l := by simp [hi]
    have h18x := h18 _ hmem
    have ih : ∀ k : Int, 0 ≤ k → k < (i : Int) → (tx betT (l.map (swF φ)) k.toNat).size = (tx betT l k.toNat).size + wt (fun _ _ _ => 0) hV l k.toNat := fun k h0 h1 => IH k.toNat (by omega) (by omega)
    have gk : ∀ k : Int, 0 ≤ k → k < (i : Int) → (l.map (swF φ)).getD k.toNat nd0 = swF φ (l.getD k.toNat nd0) := fun k h0 h1 => getD_sw φ l _ (by omega)
    obtain ⟨hf, hks, _, _⟩ := hat
    rw [w2, htx, htx2]
    clear w2 htx htx2
    generalize l.getD i nd0 = x at *
    rcases nd_cases hf with ⟨h1, h2, h4⟩ | ⟨h1, h2, h4, h5⟩ | ⟨hn0, hnm, hrest⟩
    · obtain ⟨op, n, nm, ks'⟩ := x
      simp only at h1 h2 h4
      subst h1 h2 h4
      rfl
    · obtain ⟨op, n, nm, ks'⟩ := x
      simp only at h1 h2 h4 h5 h18x
      subst h2 h4
      obtain rfl : op = 2 := h1.resolve_right h18x
      show (leafT ⟨2, 0, φ nm, []⟩).size = (leafT ⟨2, 0, nm, []⟩).size + (1 + 0)
      have e1 : ∀ a, leafT ⟨2, 0, a, []⟩ = a := fun a => by unfold leafT; simp
      rw [e1, e1, hφ]
    · obtain ⟨op, n, nm, ks'⟩ := x
      simp only at hn0 hnm hrest
      subst hn0 hnm
      simp only at hks
      have hop2 : op ≠ 2 := by
        rcases hrest with ⟨ho, _⟩ | ⟨ho, _⟩ | ⟨ho, _⟩
        · omega
        · omega
        · omega
      have esw : swF φ ⟨op, 0, ⟨#[]⟩, ks'⟩ = ⟨op, 0, ⟨#[]⟩, ks'⟩ := by unfold swF; rw [if_neg hop2]
      have ehv : hV ⟨op, 0, ⟨#[]⟩, ks'⟩ = 0 := by unfold hV; rw [if_neg hop2]
      rw [esw, ehv]
      rcases hrest with ⟨ho, a, rfl⟩ | ⟨ho, a, b, rfl⟩ | ⟨ho, a, b, c, rfl⟩
      · obtain ⟨a0, a1⟩ := hks a (by simp)
        rw [if_neg (by simp), if_neg (by simp)]
        show (sgT op ++ tkT op 0 ((l.map (swF φ)).getD a.toNat nd0, tx betT (l.map (swF φ)) a.toNat)).size = (sgT op ++ tkT op 0 (l.getD a.toNat nd0, tx betT l a.toNat)).size + (0 + (wt (fun _ _ _ => 0) hV l a.toNat + 0 + 0))
        rw [apz, apz, gk a a0 a1, tk_sz φ op 0 _ _ _ _ (ih a a0 a1)]
        omega
      · obtain ⟨a0, a1⟩ := hks a (by simp)
        obtain ⟨b0, b1⟩ := hks b (by simp)
        rw [if_neg (by simp), if_neg (by simp)]
        show (tkT op 0 ((l.map (swF φ)).getD a.toNat nd0, tx betT (l.map (swF φ)) a.toNat) ++ txt [32] ++ sgT op ++ txt [32] ++ tkT op 1 ((l.map (swF φ)).getD b.toNat nd0, tx betT (l.map (swF φ)) b.toNat)).size = (tkT op 0 (l.getD a.toNat nd0, tx betT l a.toNat) ++ txt [32] ++ sgT op ++ txt [32] ++ tkT op 1 (l.getD b.toNat nd0, tx betT l b.toNat)).size + (0 + (wt (fun _ _ _ => 0) hV l a.toNat + 0 + (wt (fun _ _ _ => 0) hV l b.toNat + 0 + 0)))
        simp only [apz]
        rw [gk a a0 a1, gk b b0 b1, tk_sz φ op 0 _ _ _ _ (ih a a0 a1), tk_sz φ op 1 _ _ _ _ (ih b b0 b1)]
        omega
      · subst ho
        obtain ⟨a0, a1⟩ := hks a (by simp)
        obtain ⟨b0, b1⟩ := hks b (by simp)
        obtain ⟨c0, c1⟩ := hks c (by simp)
        rw [if_neg (by simp), if_neg (by simp)]
        show (tkT 17 0 ((l.map (swF φ)).getD a.toNat nd0, tx betT (l.map (swF φ)) a.toNat) ++ txt [32] ++ sgT 17 ++ txt [32] ++ tkT 17 1 ((l.map (swF φ)).getD b.toNat nd0, tx betT (l.map (swF φ)) b.toNat) ++ (txt [32, 58, 32] ++ tkT 17 2 ((l.map (swF φ)).getD c.toNat nd0, tx betT (l.map (swF φ)) c.toNat))).size = (tkT 17 0 (l.getD a.toNat nd0, tx betT l a.toNat) ++ txt [32] ++ sgT 17 ++ txt [32] ++ tkT 17 1 (l.getD b.toNat nd0, tx betT l b.toNat) ++ (txt [32, 58, 32] ++ tkT 17 2 (l.getD c.toNat nd0, tx betT l c.toNat))).size + (0 + (wt (fun _ _ _ => 0) hV l a.toNat + 0 + (wt (fun _ _ _ => 0) hV l b.toNat + 0 + (wt (fun _ _ _ => 0) hV l c.toNat + 0 + 0))))
        simp only [apz]
        rw [gk a a0 a1, gk b b0 b1, gk c c0 c1, tk_sz φ 17 0 _ _ _ _ (ih a a0 a1), tk_sz φ 17 1 _ _ _ _ (ih b b0 b1), tk_sz φ 17 2 _ _ _ _ (ih c c0 c1)]
        omega
/-- What is read: each node counts once. -/
def vsum (l : List Nd) : Nat := (l.map hV).sum
theorem vsum_app (a b : List Nd) : vsum (a ++ b) = vsum a + vsum b := by unfold vsum; simp
theorem vsum_sh (d : Nat) (b : List Nd) : vsum (b.map (shN d)) = vsum b := by
  unfold vsum; rw [List.map_map]; rfl
def Vw (l : List Nd) : Prop := KidsLo l ∧ l ≠ [] ∧ wA (fun _ _ _ => 0) hV l = vsum l
theorem vw_one (x : Nd) (hx : x.kids = []) : Vw [x] := ⟨kidsLo_one x hx, by simp, by show wt _ _ _ 0 = _; rw [wt_one _ hV x hx]; simp [vsum]⟩
theorem vw_jn1 {op : Int} {a : List Nd} (h : Vw a) : Vw (jn1 op a) := by
  obtain ⟨h1, h2, h3⟩ := h
  obtain ⟨k1, k2⟩ := wA_jn1 (fun _ _ _ => 0) hV (op := op) h1 h2
  refine ⟨k1, by unfold jn1; simp, ?_⟩
  rw [k2, h3]
  unfold jn1
  rw [vsum_app]
  simp [vsum]; omega
theorem vw_jn2 {op : Int} {a b : List Nd} (h : Vw a) (g : Vw b) : Vw (jn2 op a b) := by
  obtain ⟨h1, h2, h3⟩ := h
  obtain ⟨g1, g2, g3⟩ := g
  obtain ⟨k1, k2⟩ := wA_jn2 (fun _ _ _ => 0) hV (fun _ _ _ _ => rfl) hV_sh (op := op) h1 g1 h2 g2
  refine ⟨k1, by unfold jn2; simp, ?_⟩
  rw [k2, h3, g3]
  unfold jn2
  rw [vsum_app, vsum_app, vsum_sh]
  have : vsum [⟨op, 0, ⟨#[]⟩, [((a.length - 1 : Nat) : Int), ((a.length + b.length - 1 : Nat) : Int)]⟩] = hV ⟨op, 0, ⟨#[]⟩, [((a.length - 1 : Nat) : Int), ((a.length + b.length - 1 : Nat) : Int)]⟩ := by unfold vsum; simp
  omega
theorem vw_jn3 {op : Int} {a b c : List Nd} (h : Vw a) (g : Vw b) (f : Vw c) : Vw (jn3 op a b c) := by
  obtain ⟨h1, h2, h3⟩ := h
  obtain ⟨g1, g2, g3⟩ := g
  obtain ⟨f1, f2, f3⟩ := f
  obtain ⟨k1, k2⟩ := wA_jn3 (fun _ _ _ => 0) hV (fun _ _ _ _ => rfl) hV_sh (op := op) h1 g1 f1 h2 g2 f2
  refine ⟨k1, by unfold jn3; simp, ?_⟩
  rw [k2, h3, g3, f3]
  unfold jn3
  rw [vsum_app, vsum_app, vsum_app, vsum_sh, vsum_sh]
  have : vsum [⟨op, 0, ⟨#[]⟩, [((a.length - 1 : Nat) : Int), ((a.length + b.length - 1 : Nat) : Int), ((a.length + b.length + c.length - 1 : Nat) : Int)]⟩] = hV ⟨op, 0, ⟨#[]⟩, [((a.length - 1 : Nat) : Int), ((a.length + b.length - 1 : Nat) : Int), ((a.length + b.length + c.length - 1 : Nat) : Int)]⟩ := by unfold vsum; simp
  omega
theorem vw_run (s : ByteArray) (pat : Bool) : ∀ (f : Nat) (q : RdQ) (t : Tk) (o : Nat) (l : List Nd) (e : Nat), (∀ lv la, q = .loop lv la → Vw la) → rdRun s pat f q t o = .ok (l, e) → Vw l
  | 0, q, t, o, l, e, _, h => (by cases q <;> cases h)
  | f + 1, q, t, o, l, e, hq, h => by
    have ih := vw_run s pat f
    cases q with
    | cond =>
      unfold rdRun at h
      obtain ⟨⟨c, ec⟩, h1, h⟩ := Pr.bind_ok h
      obtain ⟨t1, h2, h⟩ := Pr.bind_ok h
      have vc := ih _ _ _ _ _ (fun _ _ x => by cases x) h1
      split at h
      · obtain ⟨t2, h3, h⟩ := Pr.bind_ok h
        obtain ⟨⟨a, ea⟩, h4, h⟩ := Pr.bind_ok h
        obtain ⟨t3, h5, h⟩ := Pr.bind_ok h
        have va := ih _ _ _ _ _ (fun _ _ x => by cases x) h4
        split at h
        · split at h
          · obtain ⟨t4, h6, h⟩ := Pr.bind_ok h
            obtain ⟨⟨b, eb⟩, h7, h⟩ := Pr.bind_ok h
            have vb := ih _ _ _ _ _ (fun _ _ x => by cases x) h7
            try dsimp only at h
            cases h
            exact vw_jn3 vc va vb
          · cases h
        · cases h
      · cases h; exact vc
    | level lv =>
      unfold rdRun at h
      split at h
      · exact ih _ _ _ _ _ (fun _ _ x => by cases x) h
      · obtain ⟨⟨a, ea⟩, h1, h⟩ := Pr.bind_ok h
        obtain ⟨t1, h2, h⟩ := Pr.bind_ok h
        have va := ih _ _ _ _ _ (fun _ _ x => by cases x) h1
        exact ih _ _ _ _ _ (fun lv' la' x => by cases x; exact va) h
    | loop lv la =>
      have vl := hq lv la rfl
      unfold rdRun at h
      split at h
      · obtain ⟨t1, h1, h⟩ := Pr.bind_ok h
        obtain ⟨⟨b, eb⟩, h2, h⟩ := Pr.bind_ok h
        have vb := ih _ _ _ _ _ (fun _ _ x => by cases x) h2
        split at h
        · try dsimp only at h
          cases h
          exact vw_jn2 vl vb
        · obtain ⟨t2, h3, h⟩ := Pr.bind_ok h
          exact ih _ _ _ _ _ (fun lv' la' x => by cases x; exact vw_jn2 vl vb) h
      · cases h; exact vl
    | un =>
      unfold rdRun at h
      split at h
      · split at h
        · obtain ⟨t1, h1, h⟩ := Pr.bind_ok h
          obtain ⟨⟨x, ex⟩, h2, h⟩ := Pr.bind_ok h
          have vx := ih _ _ _ _ _ (fun _ _ x => by cases x) h2
          try dsimp only at h
          cases h
          exact vw_jn1 vx
        · obtain ⟨t1, h1, h⟩ := Pr.bind_ok h
          obtain ⟨_, _, g3, _⟩ := rdLit_ok h
          subst g3
          exact vw_one _ rfl
      · split at h
        · obtain ⟨t1, h1, h⟩ := Pr.bind_ok h
          obtain ⟨⟨x, ex⟩, h2, h⟩ := Pr.bind_ok h
          have vx := ih _ _ _ _ _ (fun _ _ x => by cases x) h2
          try dsimp only at h
          cases h
          exact vw_jn1 vx
        · exact ih _ _ _ _ _ (fun _ _ x => by cases x) h
    | atom =>
      unfold rdRun at h
      split at h
      · obtain ⟨_, _, g3, _⟩ := rdLit_ok h
        subst g3
        exact vw_one _ rfl
      · split at h
        · obtain ⟨_, _, ⟨nm, g3⟩, _⟩ := rdNamed_ok h
          subst g3
          exact vw_one _ rfl
        · split at h
          · obtain ⟨t1, h1, h⟩ := Pr.bind_ok h
            obtain ⟨_, _, ⟨nm, g3⟩, _⟩ := rdNamed_ok h
            subst g3
            exact vw_one _ rfl
          · split at h
            · split at h
              · cases h
              · obtain ⟨t1, h1, h⟩ := Pr.bind_ok h
                obtain ⟨⟨x, ex⟩, h2, h⟩ := Pr.bind_ok h
                obtain ⟨t2, h3, h⟩ := Pr.bind_ok h
                have vx := ih _ _ _ _ _ (fun _ _ x => by cases x) h2
                split at h
                · split at h
                  · try dsimp only at h
                    cases h
                    exact vx
                  · cases h
                · cases h
            · cases h
theorem vw_read {S : ByteArray} {pat : Bool} {most : Nat} {l : List Nd} (h : psRead S pat most = .ok l) : Vw l := by
  rw [read_eq] at h
  unfold rdWhole at h
  split at h
  · cases h
  · split at h
    · obtain ⟨⟨r, e⟩, h1, h⟩ := Pr.bind_ok h
      unfold rdX at h1
      obtain ⟨t, ht, h1⟩ := Pr.bind_ok h1
      obtain ⟨t2, h2, h⟩ := Pr.bind_ok h
      have := vw_run S pat _ .cond t 0 r e (fun _ _ x => by cases x) h1
      split at h
      · cases h
      · split at h
        · cases h
        · split at h
          · cases h
          · try dsimp only at h
            cases h
            exact this
    · cases h
end Go.Proofs.YtjmccobblpcbhaaDoor

set_option linter.unusedSimpArgs false
set_option linter.unusedVariables false
namespace Go.Proofs.YtjmccobblpcbhaaDoor
open Go.RowKit Go.Lib

def xN (a : ByteArray) : ByteArray := txt [120] ++ a
def dN (a : ByteArray) : ByteArray := a.extract 1 a.size
theorem xN_size (a : ByteArray) : (xN a).size = a.size + 1 := by unfold xN; rw [apz, txt_size]; simp; omega
theorem dN_xN (a : ByteArray) : dN (xN a) = a := by
  have h : Bt (xN a) 0 (txt [120] ++ a) := Bt.self _
  have h2 := h.app.2.ext
  rw [tx1, Nat.zero_add] at h2
  unfold dN
  rw [xN_size, Nat.add_comm a.size 1]
  exact h2
theorem xN_F (s : ByteArray) : ∀ (f q n : Nat), nmF s f q n = true → s.size ≤ q + f → q ≤ s.size → n + (runesFrom s f q).length ≤ 15 → (0 < n ∨ q < s.size) → ∀ g, (xN s).size ≤ q + 1 + g → nmF (xN s) g (q + 1) (n + 1) = true
  | 0, q, n, h, hf, hq, hc, hn, g, hg => by
    rw [nmF_end _ _ _ _ (by rw [xN_size]; omega)]
    simp [runesFrom] at hc
    simp; omega
  | f + 1, q, n, h, hf, hq, hc, hn, g, hg => by
    by_cases hl : q < s.size
    · rw [nmF_step s f q n hl] at h
      rw [runesFrom_cons s f q hl] at hc
      have hw := width_pos s q hl
      have hw2 := dec_le s q hl
      have hd : Utf8.decode (xN s) (q + 1) = Utf8.decode s q := by
        have hb : Bt (xN s) 0 (txt [120] ++ s) := Bt.self _
        have hb2 := hb.app.2
        rw [tx1, Nat.zero_add] at hb2
        have := hb2.decX (.inl (by rw [xN_size]; omega)) hl
        rw [Nat.add_comm] at this
        exact this
      obtain ⟨g', rfl⟩ : ∃ g', g = g' + 1 := ⟨g - 1, by rw [xN_size] at hg; omega⟩
      rw [nmF_step _ g' _ _ (by rw [xN_size]; omega), hd]
      unfold nmS at h ⊢
      split at h
      · cases h
      · rename_i hk
        simp only [Bool.or_eq_true, not_or, Bool.not_eq_true] at hk
        rw [if_neg (by simp; simpa using hk.2)]
        simp only [List.length_cons] at hc
        have := xN_F s f _ _ h (by omega) (by omega) (by omega) (.inl (by omega)) g' (by omega)
        rw [show q + 1 + (Utf8.decode s q).2 = q + (Utf8.decode s q).2 + 1 by omega]
        exact this
    · rw [nmF_end s _ q n hl] at h
      rw [nmF_end _ _ _ _ (by rw [xN_size]; omega)]
      rw [runesFrom_end s _ q hl] at hc
      simp at hc ⊢; omega
theorem xN_name {s : ByteArray} (h : nameB s = true) (hc : (rl s).length ≤ 15) : nameB (xN s) = true := by
  have h0 := (nm_first s h).1
  unfold nameB
  have hz := xN_size s
  rw [hz]
  have hb : Bt (xN s) 0 (txt [120] ++ s) := Bt.self _
  obtain ⟨a1, a2⟩ := hb.app.1.byte
  rw [nmF_step _ s.size 0 0 a1, dlow _ _ (by rw [a2]; decide), a2]
  unfold nmS
  have e1 : kd (((120 : UInt8).toNat : Nat) : Int) = 1 := by decide +kernel
  have e2 : onB (((120 : UInt8).toNat : Nat) : Int) = true := by unfold onB; rw [e1]; decide
  rw [if_neg (by simp only [e1, e2]; decide)]
  exact xN_F s s.size 0 0 h (by omega) (by omega) (by unfold rl at hc; omega) (.inr h0) s.size (by omega)
end Go.Proofs.YtjmccobblpcbhaaDoor

set_option linter.unusedSimpArgs false
set_option linter.unusedVariables false
namespace Go.Proofs.YtjmccobblpcbhaaDoor
open Go.RowKit Go.Lib

/-- A name is put at its place. -/
theorem ownP_put {w : World} {B g cap k : Nat} {p : List (Nd × Value)} {x : Nd} {kv : Value} {s : ByteArray} (h : OwnP w B (.slice (some ⟨g, 0, none⟩) p.length cap) p) (hk : p[k]? = some (x, kv)) : OwnP (w.setCell ⟨g, k * 4 + 2, none⟩ (.string s)) B (.slice (some ⟨g, 0, none⟩) p.length cap) (p.set k ({ x with name := s }, kv)) := by
  have hlt : k < p.length := by
    by_cases h : k < p.length
    · exact h
    · rw [List.getElem?_eq_none (by omega)] at hk; cases hk
  have hne : ∀ q ∈ p, q.2.ownBlock ≠ some g := fun q hq e => by
    rcases ownBlock_ne (h.kids q hq) h.row (by decide) with h1 | h1
    · rw [h1] at e; cases e
    · exact h1 e
  refine ⟨?_, fun q hq => ?_⟩
  · rw [ndCells_set p k x kv s hk, List.length_set]
    exact own_put h.row (by rw [ndCells_length]; omega)
  · rcases List.mem_or_eq_of_mem_set hq with h1 | h1
    · exact own_set' (h.kids q h1) (hne q h1)
    · subst h1
      have hm : (x, kv) ∈ p := List.mem_of_getElem? hk
      have h2 := own_set' (p := g) (o := k * 4 + 2) (u := .string s) (h.kids (x, kv) hm) (hne (x, kv) hm)
      exact h2

theorem snd_kids1 {l : List Nd} {fr : List Nat} (h : begL l = some fr) : ∀ x ∈ l, x.kids.length * 8 ≤ 140737488351232 ∧ ∀ k ∈ x.kids, -9000 ≤ k ∧ k ≤ 9000 := by
  intro x hx
  obtain ⟨h1, h2⟩ := snd_bounds h
  refine ⟨by have := h2 x hx; omega, fun k hk => ?_⟩
  have := begR_kids (begL_some h).2.2.1 low_nil x hx k hk
  simp at this
  omega

end Go.Proofs.YtjmccobblpcbhaaDoor
