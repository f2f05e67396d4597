/-
  ExPartW.
-/
import Derived.Shelf.Unicode.DecodeSlow
import Derived.Laws.RangeAny
import Derived.Shelf.Unicode.DecodeAny
import Derived.Test.YtlllkjbbldhddaaDoorProg
import Derived.WalkKit
import Derived.Deep.DeepFit
import Derived.Lib.OthersKept
import Derived.Deep.AppendLies
import Derived.Deep.OwnRows
import Derived.Laws.AppendOwnNone
import Derived.Test.YtlllkjbbldhddaaDoorF01
import Derived.Test.YtlllkjbbldhddaaDoorF02
import Derived.Test.YtlllkjbbldhddaaDoorF03
import Derived.Test.YtlllkjbbldhddaaDoorF04
set_option linter.unusedSimpArgs false
set_option linter.unusedVariables false
namespace Go.Proofs.YtlllkjbbldhddaaDoor
open Go.RowKit Go.Lib

set_option maxHeartbeats 400000 in
theorem exOutside_any (ao : Option Addr) (n cap : Nat) (at_ : Int) (w : World) :
    Calls Tryd.prog 47 #[.slice ao n cap, .int .i64 at_] w fun e w' => e = .returned (.bool (decide (at_ < 0) || decide ((n : Int) ≤ at_))) ∧ w' = w := by
  by_cases h1 : at_ < 0
  · go_enter Tryd.func47, Tryd.ntmps47
    go_wp2
    go_ret
    exact ⟨ret_bool (by simp [h1]), rfl⟩
  · go_enter Tryd.func47, Tryd.ntmps47
    go_wp2
    go_ret
    exact ⟨ret_bool (by simp; omega), rfl⟩

/-- Of a sound list: how long, how many kids, which. -/
theorem snd_bounds {l : List Nd} {fr : List Nat} (h : begL l = some fr) : l.length ≤ 64 ∧ ∀ x ∈ l, x.kids.length ≤ 3 := by
  obtain ⟨_, h2, h3, _⟩ := begL_some h
  exact ⟨h2, fun x hx => formB_kids ((begR_some h3 low_nil).2.2.2 x hx)⟩

theorem chainL_kids {fr : List Nat} : ∀ (ks : List Int) (c a : Nat), chainL fr ks c = some a → Low fr → ∀ k ∈ ks, 0 ≤ k ∧ k < c := by
  intro ks
  induction ks with
  | nil => intro c a _ _ k hk; simp at hk
  | cons k0 ks ih =>
    intro c a h hl k hk
    simp only [chainL] at h
    split at h
    · cases h
    · rename_i hn
      have hlo := hl (c - 1)
      rcases List.mem_cons.1 hk with rfl | hk
      · omega
      · have := ih _ _ h hl k hk
        omega

theorem begR_kids {l : List Nd} : ∀ {fr fr' : List Nat}, begR fr l = some fr' → Low fr → ∀ x ∈ l, ∀ k ∈ x.kids, 0 ≤ k ∧ k < (fr.length + l.length : Nat) := by
  induction l with
  | nil => intro fr fr' _ _ x hx; simp at hx
  | cons y l ih =>
    intro fr fr' h hl x hx k hk
    simp only [begR] at h
    cases hs : stp fr y with
    | none => rw [hs] at h; cases h
    | some f2 =>
      rw [hs] at h
      simp only [Option.bind_some] at h
      obtain ⟨hf, a, hc, rfl⟩ := stp_some hs
      rcases List.mem_cons.1 hx with rfl | hx
      · have := chainL_kids _ _ _ hc hl k (by simpa using hk)
        simp; omega
      · have := ih h (hl.snoc (chainL_le hl _ _ _ hc)) x hx k hk
        simp at this ⊢; omega

theorem snd_kids {l : List Nd} {fr : List Nat} (h : begL l = some fr) : ∀ x ∈ l, x.kids.length * 8 ≤ 140737488351232 ∧ ∀ k ∈ x.kids, -9000 ≤ k ∧ k ≤ 9000 := by
  intro x hx
  obtain ⟨h1, h2⟩ := snd_bounds h
  refine ⟨by have := h2 x hx; omega, fun k hk => ?_⟩
  have := begR_kids (begL_some h).2.2.1 low_nil x hx k hk
  simp at this
  omega

theorem OwnN_mono {w : World} {base base' : Nat} {v : Value} {l : List Nd} (h : OwnN w base v l) (hb : base' ≤ base) : OwnN w base' v l :=
  let ⟨p, h1, h2⟩ := h; ⟨p, h1, ownsRow_mono h2.row hb, fun q hq => ownsRow_mono (h2.kids q hq) hb⟩
theorem OwnN.form {w : World} {base : Nat} {v : Value} {l : List Nd} (h : OwnN w base v l) : ∃ ao n cap, v = .slice ao n cap := by
  obtain ⟨ao, cap, h, _⟩ := Nodes_of_own h (Nat.le_refl _)
  exact ⟨ao, _, cap, h⟩
theorem OwnN.len {w : World} {base : Nat} {ao : Option Addr} {n cap : Nat} {l : List Nd} (h : OwnN w base (.slice ao n cap) l) : n = l.length := by
  obtain ⟨ao', cap', h, _⟩ := Nodes_of_own h (Nat.le_refl _)
  cases h; rfl

def partL (l : List Nd) (a b : Nat) : List Nd := ((l.drop a).take (b + 1 - a)).map (mvN 0 (-(a : Int)))
def putL (l : List Nd) (a b : Nat) (m : List Nd) : List Nd := (l.take a).map (mvN 0 0) ++ m.map (mvN 0 a) ++ (l.drop (b + 1)).map (mvN b ((m.length : Int) - ((b : Int) + 1 - a)))

theorem getD_sub (l : List Nd) (a m i : Nat) (h : i < m) : ((l.drop a).take m).getD i nd0 = l.getD (a + i) nd0 := by
  simp only [List.getD_eq_getElem?_getD, List.getElem?_take, if_pos h, List.getElem?_drop]

/-- A cut of a list that is read. -/
theorem Nodes.cut {w : World} {B b o cap : Nat} {l : List Nd} (hc : ∀ i, i < l.length → ∃ kv, NodeAt w B b (o + i * 4) (l.getD i nd0) kv) (hb : b < B) (a m cap' : Nat) (ham : a + m ≤ l.length) (hm : m ≤ cap') (hcap : cap' ≤ maxLen)
    (ao : Option Addr) (hao : m ≠ 0 → ao = some ⟨b, o + a * 4, none⟩) : Nodes w B (.slice ao m cap') ((l.drop a).take m) := by
  have hl : ((l.drop a).take m).length = m := by simp; omega
  refine ⟨ao, cap', by rw [hl], by omega, hcap, ?_⟩
  by_cases h0 : m = 0
  · left; exact List.length_eq_zero_iff.1 (by omega)
  · right
    refine ⟨b, o + a * 4, hao h0, hb, fun i hi => ?_⟩
    rw [hl] at hi
    obtain ⟨kv, hk⟩ := hc (a + i) (by omega)
    rw [getD_sub l a m i hi]
    have e : o + a * 4 + i * 4 = o + (a + i) * 4 := by omega
    rw [e]; exact ⟨kv, hk⟩

set_option maxHeartbeats 2000000 in
theorem put_large (vs vp : Value) (l m : List Nd) (fr fm : List Nat) (i a : Nat) (w : World) (B : Nat) (hBw : B ≤ w.heap.size) (hT : SpanCells w) (hN : Nodes w B vs l) (hM : Nodes w B vp m) (h : begL l = some fr) (h2 : begL m = some fm) (hi : i < l.length) (ha : fr.getD i 0 = a) (hsz : 64 + (i + 1) < l.length + m.length + a) :
    Calls Tryd.prog 16 #[vs, .int .i64 i, vp] w fun e w' => e = .returned (.tuple #[.slice none 0 0, .int .i64 10]) ∧ Below w.heap.size w w' := by
  have hai : a ≤ i := by rw [← ha]; exact (begR_some (begL_some h).2.2.1 low_nil).2.1 i
  have h64 := (snd_bounds h).1
  have m64 := (snd_bounds h2).1
  have HK := snd_kids h
  have HKM : Hid (∀ x ∈ m, x.kids.length * 8 ≤ 140737488351232 ∧ ∀ k ∈ x.kids, -9000 ≤ k ∧ k ≤ 9000) := snd_kids h2
  have HS : Hid (begL l = some fr) := h
  have HS2 : Hid (begL m = some fm) := h2
  have HA : Hid (fr.getD i 0 = a) := ha
  clear h h2 ha
  obtain ⟨ao, cap, rfl, hl, hm, hc⟩ := id hN
  obtain ⟨am, capm, rfl, hlm, hmm, _⟩ := id hM
  unfold maxLen at hmm
  obtain ⟨b, o, rfl, hbl, hc'⟩ : ∃ b o, ao = some ⟨b, o, none⟩ ∧ b < B ∧ ∀ i, i < l.length → ∃ kv, NodeAt w B b (o + i * 4) (l.getD i nd0) kv := by
    rcases hc with h | h
    · subst h; simp at hi
    · exact h
  clear hc
  have hm' := hm
  unfold maxLen at hm
  have hnil := eql_nil
  have co : Hid (∀ W, Calls Tryd.prog 47 #[.slice (some ⟨b, o, none⟩) l.length cap, .int .i64 i] W fun e w' => e = .returned (.bool false) ∧ w' = W) := fun W => by
    have := exOutside_any (some ⟨b, o, none⟩) l.length cap i W
    have e : (decide ((i : Int) < 0) || decide ((l.length : Int) ≤ i)) = false := by simp; omega
    rw [e] at this; exact this
  have HC1 : Hid (Nodes w B (.slice (some ⟨b, o, none⟩) a cap) (l.take a)) := by
    have := Nodes.cut (cap := cap) hc' hbl 0 a cap (by omega) (by omega) (by omega) (some ⟨b, o, none⟩) (fun _ => by simp)
    rw [List.drop_zero] at this; exact this
  have HC2 : Hid (∀ ao' cap', l.length - (i + 1) ≤ cap' → cap' ≤ maxLen → (l.length - (i + 1) ≠ 0 → ao' = some ⟨b, o + (i + 1) * 4, none⟩) → Nodes w B (.slice ao' (l.length - (i + 1)) cap') (l.drop (i + 1))) := fun ao' cap' h1 h2 hao => by
    have := Nodes.cut (cap := cap) hc' hbl (i + 1) (l.length - (i + 1)) cap' (by omega) h1 h2 ao' hao
    rw [List.take_of_length_le (by simp)] at this; exact this
  clear hc'
  have HK1 : Hid (∀ x ∈ l.take a, x.kids.length * 8 ≤ 140737488351232 ∧ ∀ k ∈ x.kids, -9000 ≤ k ∧ k ≤ 9000) := fun x hx => HK x (List.mem_of_mem_take hx)
  have HK2 : Hid (∀ x ∈ l.drop (i + 1), x.kids.length * 8 ≤ 140737488351232 ∧ ∀ k ∈ x.kids, -9000 ≤ k ∧ k ≤ 9000) := fun x hx => HK x (List.mem_of_mem_drop hx)
  clear HK
  go_enter Tryd.func16, Tryd.ntmps16
  go_wp2_with (first | (go_at_call 44; refine (begins_some _ l fr _ B hBw hT hN HS.out).mono ?_; rintro e w2 ⟨g, rfl, hg1, hg2, hg3, hb2⟩; have hgi := hg3 i hi; rw [HA.out] at hgi; have HG3 : Hid (∀ j, j < l.length → w2.cell? ⟨g, j, none⟩ = some (.int .i64 (fr.getD j 0 : Nat))) := hg3; clear hg3) | (go_at_call 10; refine (check_some _ m fm _ B (by have := hb2.size; omega) (hT.below hb2) (hM.below (hb2.mono hBw) (Nat.le_refl _)) HS2.out).mono ?_; rintro e w3 ⟨rfl, hb3⟩; have hgi3 : w3.cell? ⟨g, i, none⟩ = some (.int .i64 a) := (hb3.cell (p := ⟨g, i, none⟩) hg2).trans hgi) | (go_at_call 47; refine (co.out _).mono ?_; rintro e w4 ⟨rfl, rfl⟩))
  go_ret2
  exact ⟨rfl, hb2.trans (hb3.mono hb2.size)⟩
end Go.Proofs.YtlllkjbbldhddaaDoor
