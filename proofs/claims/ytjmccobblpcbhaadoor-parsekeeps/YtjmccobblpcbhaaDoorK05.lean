/-
  RdRel, ExMem.
-/
import Derived.Shelf.Unicode.DecodeSlow
import Derived.Laws.RangeAny
import Derived.Shelf.Strings.Builder1
import Derived.Shelf.Small.Utf8
import Derived.Shelf.Small.Bits
import Derived.Shelf.Strings.BuilderF
import Derived.Shelf.Strings.BuilderK
import Derived.Shelf.Strings.BuilderRune
import Derived.Shelf.Utf8.AppendRune
import Derived.Shelf.Strconv.Itoa0
import Derived.Shelf.Strconv.Itoa1
import Derived.Shelf.LaysM
import Derived.Shelf.Strconv.Itoa2
import Derived.Shelf.Strconv.Itoa3
import Derived.Shelf.Strconv.Itoa4
import Derived.Shelf.Strings.Prefix
import Derived.Shelf.Unicode.DecodeAny
import Derived.Test.YtjmccobblpcbhaaDoorProg
import Derived.WalkKit
import Derived.Deep.DeepFit
import Derived.Lib.OthersKept
import Derived.Lib.RuneCountTail
import Derived.Lib.Small
import Derived.Lib.Strings
import Derived.Lib.MapLaws
import Derived.Deep.AppendLies
import Derived.Deep.OwnRows
import Derived.Laws.AppendOwnNone
import Derived.Test.YtjmccobblpcbhaaDoorK01
import Derived.Test.YtjmccobblpcbhaaDoorK02
import Derived.Test.YtjmccobblpcbhaaDoorK03
import Derived.Test.YtjmccobblpcbhaaDoorK04
set_option linter.unusedSimpArgs false
set_option linter.unusedVariables false
namespace Go.Proofs.YtjmccobblpcbhaaDoor
open Go.Lib

theorem jn1_ne (op : Int) (a : List Nd) : jn1 op a ≠ [] := by simp [jn1]
theorem jn2_ne (op : Int) (a b : List Nd) : jn2 op a b ≠ [] := by simp [jn2]
theorem jn3_ne (op : Int) (a b c : List Nd) : jn3 op a b c ≠ [] := by simp [jn3]
def RdQ.ok (q : RdQ) : Prop := ∀ lv la, q = .loop lv la → la ≠ []
theorem rdLit_ne {s : ByteArray} {v : Int} {t : Tk} {r : List Nd × Nat} (h : rdLit s v t = .ok r) : r.1 ≠ [] := by
  unfold rdLit at h
  split at h
  · split at h
    · cases h; simp
    · cases h
  · cases h
theorem rdNamed_ne {s : ByteArray} {v : Int} {t : Tk} {r : List Nd × Nat} (h : rdNamed s v t = .ok r) : r.1 ≠ [] := by
  unfold rdNamed at h
  split at h
  · split at h
    · cases h; simp
    · cases h
  · cases h
theorem rd_ne (s : ByteArray) (pat : Bool) : ∀ (f : Nat) (q : RdQ) (t : Tk) (o : Nat) (r : List Nd × Nat), q.ok → rdRun s pat f q t o = .ok r → r.1 ≠ [] := by
  intro f
  induction f with
  | zero => intro q t o r _ h; cases h
  | succ f ih =>
    intro q t o r hq h
    cases q with
    | cond =>
      obtain ⟨c, h1, h⟩ := Pr.bind_ok h
      obtain ⟨t1, _, h⟩ := Pr.bind_ok h
      split at h
      · obtain ⟨t2, _, h⟩ := Pr.bind_ok h
        obtain ⟨a, _, h⟩ := Pr.bind_ok h
        obtain ⟨t3, _, h⟩ := Pr.bind_ok h
        split at h
        · split at h
          · obtain ⟨t4, _, h⟩ := Pr.bind_ok h
            obtain ⟨b, _, h⟩ := Pr.bind_ok h
            cases h; exact jn3_ne _ _ _ _
          · cases h
        · cases h
      · cases h; exact ih (.level 1) _ _ _ (fun _ _ e => by cases e) h1
    | level lv =>
      simp only [rdRun] at h
      split at h
      · exact ih .un _ _ _ (fun _ _ e => by cases e) h
      · obtain ⟨a, h1, h⟩ := Pr.bind_ok h
        obtain ⟨t1, _, h⟩ := Pr.bind_ok h
        exact ih (.loop lv a.1) _ _ _ (fun _ _ e => by cases e; exact ih (.level (lv + 1)) _ _ _ (fun _ _ e => by cases e) h1) h
    | loop lv la =>
      simp only [rdRun] at h
      split at h
      · obtain ⟨t1, _, h⟩ := Pr.bind_ok h
        obtain ⟨b, _, h⟩ := Pr.bind_ok h
        split at h
        · cases h; exact jn2_ne _ _ _
        · obtain ⟨t2, _, h⟩ := Pr.bind_ok h
          exact ih (.loop lv _) _ _ _ (fun _ _ e => by cases e; exact jn2_ne _ _ _) h
      · cases h; exact hq lv la rfl
    | un =>
      simp only [rdRun] at h
      split at h
      · split at h
        · obtain ⟨t1, _, h⟩ := Pr.bind_ok h
          obtain ⟨x, _, h⟩ := Pr.bind_ok h
          cases h; exact jn1_ne _ _
        · obtain ⟨t1, _, h⟩ := Pr.bind_ok h
          exact rdLit_ne h
      · split at h
        · obtain ⟨t1, _, h⟩ := Pr.bind_ok h
          obtain ⟨x, _, h⟩ := Pr.bind_ok h
          cases h; exact jn1_ne _ _
        · exact ih .atom _ _ _ (fun _ _ e => by cases e) h
    | atom =>
      simp only [rdRun] at h
      split at h
      · exact rdLit_ne h
      · split at h
        · exact rdNamed_ne h
        · split at h
          · obtain ⟨t1, _, h⟩ := Pr.bind_ok h
            exact rdNamed_ne h
          · split at h
            · split at h
              · cases h
              · obtain ⟨t1, _, h⟩ := Pr.bind_ok h
                obtain ⟨e, h1, h⟩ := Pr.bind_ok h
                obtain ⟨t2, _, h⟩ := Pr.bind_ok h
                split at h
                · split at h
                  · cases h; have k := ih .cond _ _ e (fun _ _ e => by cases e) h1; exact k
                  · cases h
                · cases h
            · cases h

theorem fin1 {t : Tk} {o : Nat} (op : Int) (pre a : List Nd) (ha : a ≠ []) : psJoin op [pre.length + a.length - 1] ⟨t, pre ++ a.map (shN pre.length), o⟩ = (pre.length + (jn1 op a).length - 1, ⟨t, pre ++ (jn1 op a).map (shN pre.length), o⟩) := by
  have := List.length_pos_iff.2 ha
  have e : ((pre.length + a.length - 1 : Nat) : Int) = ((a.length - 1 : Nat) : Int) + (pre.length : Int) := by omega
  unfold psJoin psAdd jn1
  simp [shN, e]
  try omega
theorem fin2 {t : Tk} {o : Nat} (op : Int) (pre a b : List Nd) (ha : a ≠ []) (hb : b ≠ []) : psJoin op [pre.length + a.length - 1, (pre ++ a.map (shN pre.length)).length + b.length - 1] ⟨t, pre ++ a.map (shN pre.length) ++ b.map (shN (pre ++ a.map (shN pre.length)).length), o⟩ = (pre.length + (jn2 op a b).length - 1, ⟨t, pre ++ (jn2 op a b).map (shN pre.length), o⟩) := by
  have := List.length_pos_iff.2 ha
  have := List.length_pos_iff.2 hb
  have e : ((pre.length + a.length - 1 : Nat) : Int) = ((a.length - 1 : Nat) : Int) + (pre.length : Int) := by omega
  have e2 : ((pre.length + a.length + b.length - 1 : Nat) : Int) = ((a.length + b.length - 1 : Nat) : Int) + (pre.length : Int) := by omega
  have e3 : a.length + pre.length = pre.length + a.length := by omega
  unfold psJoin psAdd jn2
  simp only [List.map_append, map_shN, List.length_append, List.length_map, e3]
  simp [shN, e, e2]
  try omega
theorem fin3 {t : Tk} {o : Nat} (op : Int) (pre a b c : List Nd) (ha : a ≠ []) (hb : b ≠ []) (hc : c ≠ []) : psJoin op [pre.length + a.length - 1, (pre ++ a.map (shN pre.length)).length + b.length - 1, (pre ++ a.map (shN pre.length) ++ b.map (shN (pre ++ a.map (shN pre.length)).length)).length + c.length - 1] ⟨t, pre ++ a.map (shN pre.length) ++ b.map (shN (pre ++ a.map (shN pre.length)).length) ++ c.map (shN (pre ++ a.map (shN pre.length) ++ b.map (shN (pre ++ a.map (shN pre.length)).length)).length), o⟩ = (pre.length + (jn3 op a b c).length - 1, ⟨t, pre ++ (jn3 op a b c).map (shN pre.length), o⟩) := by
  have := List.length_pos_iff.2 ha
  have := List.length_pos_iff.2 hb
  have := List.length_pos_iff.2 hc
  have e : ((pre.length + a.length - 1 : Nat) : Int) = ((a.length - 1 : Nat) : Int) + (pre.length : Int) := by omega
  have e2 : ((pre.length + a.length + b.length - 1 : Nat) : Int) = ((a.length + b.length - 1 : Nat) : Int) + (pre.length : Int) := by omega
  have e4 : ((pre.length + a.length + b.length + c.length - 1 : Nat) : Int) = ((a.length + b.length + c.length - 1 : Nat) : Int) + (pre.length : Int) := by omega
  have e3 : a.length + pre.length = pre.length + a.length := by omega
  have e5 : a.length + b.length + pre.length = pre.length + a.length + b.length := by omega
  unfold psJoin psAdd jn3
  simp only [List.map_append, map_shN, List.length_append, List.length_map, e3, e5]
  simp [shN, e, e2, e4]
  try omega

/-- What the parser makes of what the reader finds. -/
def lz (s : ByteArray) (pat : Bool) (pre : List Nd) (o : Nat) (x : Pr (List Nd × Nat)) : Pr (Nat × Ps) := x.bind fun r => (psFrom s pat mx63 r.2).bind fun t' => .ok (pre.length + r.1.length - 1, ⟨t', pre ++ r.1.map (shN pre.length), o⟩)
theorem lit_lz (s : ByteArray) (pat : Bool) (pre : List Nd) (o : Nat) (v : Int) (t : Tk) : psLit s pat v ⟨t, pre, o⟩ = lz s pat pre o (rdLit s v t) := by
  unfold psLit psEx rdLit lz
  by_cases hw : t.what = 48
  · by_cases he : t.err = 0
    · simp only [hw, he, if_true, psNx_eq]
      simp only [Pr.bind]
      cases psFrom s pat mx63 (skp s t.to) with
      | out => rfl
      | bad p e => rfl
      | ok t1 => simp [Pr.bind, psAdd, shN]
    · simp [hw, he, Pr.bind]
  · simp [hw, Pr.bind]
theorem named_lz (s : ByteArray) (pat : Bool) (pre : List Nd) (o : Nat) (v : Int) (t : Tk) : psNamed s pat v ⟨t, pre, o⟩ = lz s pat pre o (rdNamed s v t) := by
  unfold psNamed psEx rdNamed lz
  by_cases hw : t.what = 97
  · by_cases he : t.err = 0
    · simp only [hw, he, if_true, psNx_eq]
      simp only [Pr.bind]
      cases psFrom s pat mx63 (skp s t.to) with
      | out => rfl
      | bad p e => rfl
      | ok t1 => simp [Pr.bind, psAdd, shN]
    · simp [hw, he, Pr.bind]
  · simp [hw, Pr.bind]
theorem psFrom_in (s : ByteArray) (pat : Bool) (most p : Nat) : psFrom s pat most p ≠ .out := by
  unfold psFrom
  split
  · unfold psAt
    repeat' split
    all_goals (intro h; cases h)
  · intro h; cases h

theorem noq {q : RdQ} (h : ∀ lv la, q ≠ .loop lv la) : q.ok := fun lv la e => absurd e (h lv la)
set_option maxHeartbeats 1000000 in
theorem ps_rd (s : ByteArray) (pat : Bool) : ∀ (f : Nat) (q : RdQ) (t : Tk) (o : Nat) (pre : List Nd), psFrom s pat mx63 t.from_ = .ok t → q.ok → psRun s pat f (q.rl pre.length) ⟨t, pre ++ q.left.map (shN pre.length), o⟩ = lz s pat pre o (rdRun s pat f q t o) := by
  intro f
  induction f with
  | zero => intro q t o pre _ _; rfl
  | succ f ih =>
    intro q t o pre hT hq
    have ihn : ∀ (q : RdQ) (t : Tk) (o : Nat) (pre : List Nd), q.left = [] → q.ok → psFrom s pat mx63 t.from_ = .ok t → psRun s pat f (q.rl pre.length) ⟨t, pre, o⟩ = lz s pat pre o (rdRun s pat f q t o) := fun q t o pre h1 h2 h3 => by
      have := ih q t o pre h3 h2
      rw [h1] at this
      simpa using this
    cases q with
    | cond =>
      have i1 := ihn (.level 1) t o pre rfl (noq fun _ _ e => by cases e) hT
      simp only [RdQ.rl] at i1
      simp only [RdQ.rl, RdQ.left, List.map_nil, List.append_nil, psRun, rdRun]
      rw [i1]
      unfold lz
      cases hc : rdRun s pat f (.level 1) t o with
      | out => rfl
      | bad p e => rfl
      | ok c =>
        have nc := rd_ne s pat f _ _ _ _ (noq fun _ _ e => by cases e) hc
        simp only [Pr.bind]
        cases h1 : psFrom s pat mx63 c.2 with
        | out => rfl
        | bad p e => rfl
        | ok t1 =>
          simp only [Pr.bind]
          by_cases hw : t1.what = 63
          · simp only [hw, if_true, psNx_eq]
            cases h2 : psFrom s pat mx63 (skp s t1.to) with
            | out => rfl
            | bad p e => rfl
            | ok t2 =>
              have i2 := ihn .cond t2 o (pre ++ c.1.map (shN pre.length)) rfl (noq fun _ _ e => by cases e) (psFrom_here h2)
              simp only [RdQ.rl] at i2
              simp only [Pr.bind]
              rw [i2]
              unfold lz
              cases ha : rdRun s pat f .cond t2 o with
              | out => rfl
              | bad p e => rfl
              | ok a =>
                have na := rd_ne s pat f _ _ _ _ (noq fun _ _ e => by cases e) ha
                simp only [Pr.bind]
                cases h3 : psFrom s pat mx63 a.2 with
                | out => rfl
                | bad p e => rfl
                | ok t3 =>
                  simp only [Pr.bind, psEx]
                  by_cases hw3 : t3.what = 58
                  · by_cases he3 : t3.err = 0
                    · simp only [hw3, he3, if_true, psNx_eq]
                      cases h4 : psFrom s pat mx63 (skp s t3.to) with
                      | out => rfl
                      | bad p e => rfl
                      | ok t4 =>
                        have i3 := ihn .cond t4 o (pre ++ c.1.map (shN pre.length) ++ a.1.map (shN (pre ++ c.1.map (shN pre.length)).length)) rfl (noq fun _ _ e => by cases e) (psFrom_here h4)
                        simp only [RdQ.rl] at i3
                        simp only [Pr.bind]
                        rw [i3]
                        unfold lz
                        cases hb : rdRun s pat f .cond t4 o with
                        | out => rfl
                        | bad p e => rfl
                        | ok b =>
                          have nb := rd_ne s pat f _ _ _ _ (noq fun _ _ e => by cases e) hb
                          simp only [Pr.bind]
                          cases h5 : psFrom s pat mx63 b.2 with
                          | out => rfl
                          | bad p e => rfl
                          | ok t5 =>
                            simp only [Pr.bind]
                            rw [fin3 17 pre c.1 a.1 b.1 nc na nb]
                    · simp [hw3, he3, Pr.bind]
                  · simp [hw3, Pr.bind]
          · simp only [hw, if_false, h1]
    | level lv =>
      simp only [RdQ.rl, RdQ.left, List.map_nil, List.append_nil, psRun, rdRun]
      by_cases h8 : 8 < lv
      · simp only [h8, if_true]
        exact ihn .un t o pre rfl (noq fun _ _ e => by cases e) hT
      · simp only [h8, if_false]
        have i1 := ihn (.level (lv + 1)) t o pre rfl (noq fun _ _ e => by cases e) hT
        simp only [RdQ.rl] at i1
        rw [i1]
        unfold lz
        cases hc : rdRun s pat f (.level (lv + 1)) t o with
        | out => rfl
        | bad p e => rfl
        | ok a =>
          have na := rd_ne s pat f _ _ _ _ (noq fun _ _ e => by cases e) hc
          simp only [Pr.bind]
          cases h1 : psFrom s pat mx63 a.2 with
          | out => rfl
          | bad p e => rfl
          | ok t1 =>
            have i2 := ih (.loop lv a.1) t1 o pre (psFrom_here h1) (fun _ _ e => by cases e; exact na)
            simp only [RdQ.rl, RdQ.left] at i2
            simp only [Pr.bind]
            rw [i2]
            rfl
    | loop lv la =>
      have nla := hq lv la rfl
      simp only [RdQ.rl, RdQ.left, psRun, rdRun]
      by_cases hop : (psOp t.what).2 = lv
      · simp only [hop, if_true, psNx_eq]
        unfold lz
        cases h1 : psFrom s pat mx63 (skp s t.to) with
        | out => rfl
        | bad p e => rfl
        | ok t1 =>
          have i2 := ihn (.level (lv + 1)) t1 o (pre ++ la.map (shN pre.length)) rfl (noq fun _ _ e => by cases e) (psFrom_here h1)
          simp only [RdQ.rl] at i2
          simp only [Pr.bind]
          rw [i2]
          unfold lz
          cases hb : rdRun s pat f (.level (lv + 1)) t1 o with
          | out => rfl
          | bad p e => rfl
          | ok b =>
            have nb := rd_ne s pat f _ _ _ _ (noq fun _ _ e => by cases e) hb
            simp only [Pr.bind]
            by_cases hc : (psOp t.what).1 = 15 ∨ (psOp t.what).1 = 16
            · simp only [hc, if_true]
              cases h2 : psFrom s pat mx63 b.2 with
              | out => rfl
              | bad p e => rfl
              | ok t2 =>
                simp only [Pr.bind]
                rw [fin2 _ pre la b.1 nla nb]
            · simp only [hc, if_false]
              cases h2 : psFrom s pat mx63 b.2 with
              | out => rfl
              | bad p e => rfl
              | ok t2 =>
                simp only [Pr.bind]
                rw [fin2 _ pre la b.1 nla nb]
                have i3 := ih (.loop lv (jn2 (psOp t.what).1 la b.1)) t2 o pre (psFrom_here h2) (fun _ _ e => by cases e; exact jn2_ne _ _ _)
                simp only [RdQ.rl, RdQ.left] at i3
                exact i3
      · simp only [hop, if_false]
        unfold lz
        simp only [Pr.bind, hT]
    | un =>
      simp only [RdQ.rl, RdQ.left, List.map_nil, List.append_nil, psRun, rdRun]
      by_cases h45 : t.what = 45
      · simp only [h45, if_true]
        by_cases h11 : (numI s t.to).2.2 = 11
        · simp only [h11, if_true, psNx_eq]
          unfold lz
          cases h1 : psFrom s pat mx63 (skp s t.to) with
          | out => rfl
          | bad p e => rfl
          | ok t1 =>
            have i2 := ihn .un t1 o pre rfl (noq fun _ _ e => by cases e) (psFrom_here h1)
            simp only [RdQ.rl] at i2
            simp only [Pr.bind]
            rw [i2]
            unfold lz
            cases hb : rdRun s pat f .un t1 o with
            | out => rfl
            | bad p e => rfl
            | ok b =>
              have nb := rd_ne s pat f _ _ _ _ (noq fun _ _ e => by cases e) hb
              simp only [Pr.bind]
              cases h2 : psFrom s pat mx63 b.2 with
              | out => rfl
              | bad p e => rfl
              | ok t2 =>
                simp only [Pr.bind]
                rw [fin1 _ pre b.1 nb]
        · simp only [h11, if_false, psNx_eq]
          cases h1 : psFrom s pat (mx63 + 1) (skp s t.to) with
          | out => rfl
          | bad p e => rfl
          | ok t1 =>
            simp only [Pr.bind]
            exact lit_lz s pat pre o _ t1
      · simp only [h45, if_false]
        by_cases h126 : t.what = 126
        · simp only [h126, if_true, psNx_eq]
          unfold lz
          cases h1 : psFrom s pat mx63 (skp s t.to) with
          | out => rfl
          | bad p e => rfl
          | ok t1 =>
            have i2 := ihn .un t1 o pre rfl (noq fun _ _ e => by cases e) (psFrom_here h1)
            simp only [RdQ.rl] at i2
            simp only [Pr.bind]
            rw [i2]
            unfold lz
            cases hb : rdRun s pat f .un t1 o with
            | out => rfl
            | bad p e => rfl
            | ok b =>
              have nb := rd_ne s pat f _ _ _ _ (noq fun _ _ e => by cases e) hb
              simp only [Pr.bind]
              cases h2 : psFrom s pat mx63 b.2 with
              | out => rfl
              | bad p e => rfl
              | ok t2 =>
                simp only [Pr.bind]
                rw [fin1 _ pre b.1 nb]
        · simp only [h126, if_false]
          exact ihn .atom t o pre rfl (noq fun _ _ e => by cases e) hT
    | atom =>
      simp only [RdQ.rl, RdQ.left, List.map_nil, List.append_nil, psRun, rdRun]
      by_cases h48 : t.what = 48
      · simp only [h48, if_true]
        exact lit_lz s pat pre o _ t
      · simp only [h48, if_false]
        by_cases h97 : t.what = 97
        · simp only [h97, if_true]
          exact named_lz s pat pre o _ t
        · simp only [h97, if_false]
          by_cases h64 : t.what = 64
          · simp only [h64, if_true, psNx_eq]
            cases h1 : psFrom s pat mx63 (skp s t.to) with
            | out => rfl
            | bad p e => rfl
            | ok t1 =>
              simp only [Pr.bind]
              exact named_lz s pat pre o _ t1
          · simp only [h64, if_false]
            by_cases h40 : t.what = 40
            · simp only [h40, if_true]
              by_cases ho : o = 100
              · simp [ho, lz, Pr.bind]
              · simp only [ho, if_false, psNx_eq]
                unfold lz
                cases h1 : psFrom s pat mx63 (skp s t.to) with
                | out => rfl
                | bad p e => rfl
                | ok t1 =>
                  have i2 := ihn .cond t1 (o + 1) pre rfl (noq fun _ _ e => by cases e) (psFrom_here h1)
                  simp only [RdQ.rl] at i2
                  simp only [Pr.bind]
                  rw [i2]
                  unfold lz
                  cases hb : rdRun s pat f .cond t1 (o + 1) with
                  | out => rfl
                  | bad p e => rfl
                  | ok b =>
                    simp only [Pr.bind]
                    cases h2 : psFrom s pat mx63 b.2 with
                    | out => rfl
                    | bad p e => rfl
                    | ok t2 =>
                      simp only [Pr.bind, psEx]
                      by_cases hw : t2.what = 41
                      · by_cases he : t2.err = 0
                        · simp only [hw, he, if_true, psNx_eq]
                          cases h3 : psFrom s pat mx63 (skp s t2.to) with
                          | out => rfl
                          | bad p e => rfl
                          | ok t3 => simp [Pr.bind]
                        · simp [hw, he, Pr.bind]
                      · simp [hw, Pr.bind]
            · simp [h40, lz, Pr.bind]
end Go.Proofs.YtjmccobblpcbhaaDoor

set_option linter.unusedSimpArgs false
set_option linter.unusedVariables false
namespace Go.Proofs.YtjmccobblpcbhaaDoor
open Go.RowKit Go.Lib

/-- The slice v reads as the numbers ks, in blocks below B. -/
def Ints (w : World) (B : Nat) (v : Value) (ks : List Int) : Prop :=
  ∃ ao cap, v = .slice ao ks.length cap ∧ ks.length ≤ cap ∧ (cap ≤ maxLen ∧ (ao = none → cap = 0)) ∧ (ks = [] ∨ ∃ b o, ao = some ⟨b, o, none⟩ ∧ b < B ∧ ∀ j, j < ks.length → w.cell? ⟨b, o + j, none⟩ = some (.int .i64 (ks.getD j 0)))

/-- The four cells of a node at b, o. -/
structure NodeAt (w : World) (B b o : Nat) (x : Nd) (kv : Value) : Prop where
  c0 : w.cell? ⟨b, o, none⟩ = some (.int .i64 x.op)
  c1 : w.cell? ⟨b, o + 1, none⟩ = some (.int .i64 x.n)
  c2 : w.cell? ⟨b, o + 2, none⟩ = some (.string x.name)
  c3 : w.cell? ⟨b, o + 3, none⟩ = some kv
  kids : Ints w B kv x.kids

/-- The slice v reads as the nodes l, in blocks below B. -/
def Nodes (w : World) (B : Nat) (v : Value) (l : List Nd) : Prop :=
  ∃ ao cap, v = .slice ao l.length cap ∧ l.length ≤ cap ∧ cap ≤ maxLen ∧ (l = [] ∨ ∃ b o, ao = some ⟨b, o, none⟩ ∧ b < B ∧ ∀ i, i < l.length → ∃ kv, NodeAt w B b (o + i * 4) (l.getD i nd0) kv)

theorem Ints.below {w w' : World} {B B' : Nat} {v : Value} {ks : List Int} (h : Ints w B v ks) (hb : Below B w w') (hB : B ≤ B') : Ints w' B' v ks := by
  obtain ⟨ao, cap, rfl, h1, h2, h3⟩ := h
  refine ⟨ao, cap, rfl, h1, h2, ?_⟩
  rcases h3 with h3 | ⟨b, o, rfl, hlt, hc⟩
  · exact .inl h3
  · exact .inr ⟨b, o, rfl, by omega, fun j hj => (hb.cell (p := ⟨b, o + j, none⟩) hlt).trans (hc j hj)⟩

theorem NodeAt.below {w w' : World} {B B' b o : Nat} {x : Nd} {kv : Value} (h : NodeAt w B b o x kv) (hb : Below B w w') (hB : B ≤ B') (hlt : b < B) : NodeAt w' B' b o x kv :=
  ⟨(hb.cell (p := ⟨b, o, none⟩) hlt).trans h.c0, (hb.cell (p := ⟨b, o + 1, none⟩) hlt).trans h.c1, (hb.cell (p := ⟨b, o + 2, none⟩) hlt).trans h.c2, (hb.cell (p := ⟨b, o + 3, none⟩) hlt).trans h.c3, h.kids.below hb hB⟩

theorem Nodes.below {w w' : World} {B B' : Nat} {v : Value} {l : List Nd} (h : Nodes w B v l) (hb : Below B w w') (hB : B ≤ B') : Nodes w' B' v l := by
  obtain ⟨ao, cap, rfl, h1, h2, h3⟩ := h
  refine ⟨ao, cap, rfl, h1, h2, ?_⟩
  rcases h3 with h3 | ⟨b, o, rfl, hlt, hc⟩
  · exact .inl h3
  · exact .inr ⟨b, o, rfl, by omega, fun i hi => let ⟨kv, hk⟩ := hc i hi; ⟨kv, hk.below hb hB hlt⟩⟩

theorem Ints.mono {w : World} {B B' : Nat} {v : Value} {ks : List Int} (h : Ints w B v ks) (hB : B ≤ B') : Ints w B' v ks := h.below (Below.refl _ _) hB
theorem Nodes.mono {w : World} {B B' : Nat} {v : Value} {l : List Nd} (h : Nodes w B v l) (hB : B ≤ B') : Nodes w B' v l := h.below (Below.refl _ _) hB

/-- Numbers of the call's own. -/
def OwnI (w : World) (base : Nat) (v : Value) (ks : List Int) : Prop := w.ownsRow base 3 1 v ks.length (ks.map (Value.int .i64))

def ndCells : List (Nd × Value) → List Value
  | [] => []
  | (x, kv) :: r => .int .i64 x.op :: .int .i64 x.n :: .string x.name :: kv :: ndCells r

theorem ndCells_append (l m : List (Nd × Value)) : ndCells (l ++ m) = ndCells l ++ ndCells m := by
  induction l with
  | nil => rfl
  | cons a r ih => obtain ⟨x, kv⟩ := a; simp [ndCells, ih]
theorem ndCells_at (l : List (Nd × Value)) (i : Nat) (x : Nd) (kv : Value) (h : l[i]? = some (x, kv)) :
    (ndCells l)[i * 4]? = some (.int .i64 x.op) ∧ (ndCells l)[i * 4 + 1]? = some (.int .i64 x.n) ∧ (ndCells l)[i * 4 + 2]? = some (.string x.name) ∧ (ndCells l)[i * 4 + 3]? = some kv := by
  induction l generalizing i with
  | nil => simp at h
  | cons a r ih =>
    obtain ⟨y, kw⟩ := a
    cases i with
    | zero => simp at h; obtain ⟨rfl, rfl⟩ := h; simp [ndCells]
    | succ i =>
      have := ih i (by simpa using h)
      have e : (i + 1) * 4 = i * 4 + 4 := by omega
      rw [e]
      simpa [ndCells] using this

/-- Nodes of the call's own; 'p' tells the kids' slices. -/
structure OwnP (w : World) (base : Nat) (v : Value) (p : List (Nd × Value)) : Prop where
  row : w.ownsRow base 60 4 v p.length (ndCells p)
  kids : ∀ q ∈ p, OwnI w base q.2 q.1.kids

def OwnN (w : World) (base : Nat) (v : Value) (l : List Nd) : Prop := ∃ p : List (Nd × Value), p.map (·.1) = l ∧ OwnP w base v p

theorem OwnN_nil (w : World) (base : Nat) : OwnN w base (.slice none 0 0) [] := ⟨[], rfl, World.ownsRow_nil _ _ _ _, by simp⟩
theorem OwnI_nil (w : World) (base : Nat) : OwnI w base (.slice none 0 0) [] := World.ownsRow_nil _ _ _ _

theorem ownsRow_mono {w : World} {base base' : Nat} {e : TypeId} {size : Nat} {v : Value} {n : Nat} {xs : List Value} (h : w.ownsRow base e size v n xs) (hb : base' ≤ base) : w.ownsRow base' e size v n xs := by
  obtain ⟨h1, h2⟩ := h
  refine ⟨h1, ?_⟩
  rcases h2 with h2 | ⟨g, cap, cur, hv, hg, r⟩
  · exact .inl h2
  · exact .inr ⟨g, cap, cur, hv, by omega, r⟩

/-- A row is another's block only if the elements' types are one. -/
theorem ownBlock_ne {w : World} {base base' : Nat} {e e' : TypeId} {s s' n n' : Nat} {v v' : Value} {xs xs' : List Value} (h : w.ownsRow base e s v n xs) (h' : w.ownsRow base' e' s' v' n' xs') (hne : e ≠ e') : v.ownBlock = none ∨ v.ownBlock ≠ v'.ownBlock := by
  rcases h.2 with ⟨rfl, _⟩ | ⟨g, cap, cur, rfl, _, hg, _⟩
  · exact .inl rfl
  · right
    rcases h'.2 with ⟨rfl, _⟩ | ⟨g', cap', cur', rfl, _, hg', _⟩
    · simp [Value.ownBlock]
    · intro hh
      simp [Value.ownBlock] at hh
      subst hh
      rw [hg] at hg'
      simp at hg'
      exact hne hg'.2

theorem OwnI.below {w w' : World} {base : Nat} {v : Value} {ks : List Int} (h : OwnI w base v ks) (hb : Below w.heap.size w w') : OwnI w' base v ks :=
  World.ownsRow.kept (row := none) h ⟨hb.os, hb.tape, hb.output, hb.size, fun k hk _ => hb.block k hk⟩ (by
    cases hv : v.ownBlock
    · exact .inl rfl
    · exact .inr (by simp))
theorem ownsRow_below {w w' : World} {base : Nat} {e : TypeId} {size : Nat} {v : Value} {n : Nat} {xs : List Value} (h : w.ownsRow base e size v n xs) (hb : Below w.heap.size w w') : w'.ownsRow base e size v n xs :=
  World.ownsRow.kept (row := none) h ⟨hb.os, hb.tape, hb.output, hb.size, fun k hk _ => hb.block k hk⟩ (by
    cases hv : v.ownBlock
    · exact .inl rfl
    · exact .inr (by simp))
theorem OwnP.below {w w' : World} {base : Nat} {v : Value} {p : List (Nd × Value)} (h : OwnP w base v p) (hb : Below w.heap.size w w') : OwnP w' base v p :=
  ⟨ownsRow_below h.row hb, fun q hq => (h.kids q hq).below hb⟩
theorem OwnN.below {w w' : World} {base : Nat} {v : Value} {l : List Nd} (h : OwnN w base v l) (hb : Below w.heap.size w w') : OwnN w' base v l := let ⟨p, h1, h2⟩ := h; ⟨p, h1, h2.below hb⟩

/-- Behind an append of one node (its kids owned) onto owned nodes. -/
theorem OwnP.snoc {w w1 : World} {base : Nat} {v v' : Value} {p : List (Nd × Value)} {x : Nd} {kv : Value} (h : OwnP w base v p) (hk : OwnI w base kv x.kids)
    (hown : w1.ownsRow base 60 4 v' (p.length + 1) (ndCells p ++ [.int .i64 x.op, .int .i64 x.n, .string x.name, kv])) (hg : w.grownBy w1 v.ownBlock) : OwnP w1 base v' (p ++ [(x, kv)]) := by
  refine ⟨?_, fun q hq => ?_⟩
  · rw [ndCells_append]; simpa [ndCells] using hown
  · rcases List.mem_append.1 hq with hq | hq
    · exact World.ownsRow.kept (h.kids q hq) hg (ownBlock_ne (h.kids q hq) h.row (by decide))
    · simp at hq; subst hq
      exact World.ownsRow.kept hk hg (ownBlock_ne hk h.row (by decide))

theorem Ints_of_own {w : World} {base B : Nat} {v : Value} {ks : List Int} (h : OwnI w base v ks) (hB : w.heap.size ≤ B) : Ints w B v ks := by
  obtain ⟨h1, h2⟩ := h
  rcases h2 with ⟨rfl, h0⟩ | ⟨g, cap, cur, rfl, hb, hg, hn, hm, hs, ht⟩
  · have : ks = [] := List.length_eq_zero_iff.1 h0
    subst this
    exact ⟨none, 0, rfl, by simp, by simp, .inl rfl⟩
  · refine ⟨_, cap, rfl, hn, ⟨hm, by simp⟩, .inr ⟨g, 0, rfl, ?_, fun j hj => ?_⟩⟩
    · have := lt_of_block hg; omega
    · have hc : w.cell? ⟨g, 0 + j, none⟩ = cur[j]? := by simp [World.cell?, hg]
      rw [hc]
      have : cur.toList[j]? = (cur.toList.take (ks.length * 1))[j]? := by rw [List.getElem?_take, if_pos (by omega)]
      rw [← Array.getElem?_toList, this, ht]
      simp [hj]

theorem Nodes_of_ownP {w : World} {base B : Nat} {v : Value} {p : List (Nd × Value)} (h : OwnP w base v p) (hB : w.heap.size ≤ B) : Nodes w B v (p.map (·.1)) := by
  obtain ⟨h1, h2⟩ := h.row
  rcases h2 with ⟨rfl, h0⟩ | ⟨g, cap, cur, rfl, hb, hg, hn, hm, hs, ht⟩
  · have : p = [] := List.length_eq_zero_iff.1 h0
    subst this
    exact ⟨none, 0, rfl, by simp, by simp, .inl rfl⟩
  · refine ⟨_, cap, by simp, by simpa using hn, hm, .inr ⟨g, 0, rfl, ?_, fun i hi => ?_⟩⟩
    · have := lt_of_block hg; omega
    · simp at hi
      have hp : p[i]? = some (p[i].1, p[i].2) := by simp [hi]
      have hx : (p.map (·.1)).getD i nd0 = p[i].1 := by simp [hi]
      obtain ⟨a0, a1, a2, a3⟩ := ndCells_at p i _ _ hp
      have hc : ∀ j, j < p.length * 4 → w.cell? ⟨g, j, none⟩ = (ndCells p)[j]? := by
        intro j hj
        have : w.cell? ⟨g, j, none⟩ = cur[j]? := by simp [World.cell?, hg]
        rw [this, ← Array.getElem?_toList, ← ht, List.getElem?_take, if_pos (by omega)]
      rw [hx]
      refine ⟨p[i].2, ?_, ?_, ?_, ?_, ?_⟩
      · rw [Nat.zero_add, hc _ (by omega), a0]
      · rw [Nat.zero_add, hc _ (by omega), a1]
      · rw [Nat.zero_add, hc _ (by omega), a2]
      · rw [Nat.zero_add, hc _ (by omega), a3]
      · exact Ints_of_own (h.kids p[i] (by simp)) hB

theorem Nodes_of_own {w : World} {base B : Nat} {v : Value} {l : List Nd} (h : OwnN w base v l) (hB : w.heap.size ≤ B) : Nodes w B v l := by
  obtain ⟨p, rfl, h⟩ := h
  exact Nodes_of_ownP h hB

theorem Tryd.info3 : (Tryd.prog.info? 3).map (fun i => (i.zero, i.size, i.bytes)) = some (some (.int .i64 0), 1, 8) := by kernel_rfl
theorem Tryd.infoNode : (Tryd.prog.info? 60).map (fun i => (i.zero, i.size, i.bytes)) = some (some (.agg #[.int .i64 0, .int .i64 0, .string ⟨#[]⟩, .slice none 0 0]), 4, 56) := by kernel_rfl
end Go.Proofs.YtjmccobblpcbhaaDoor
