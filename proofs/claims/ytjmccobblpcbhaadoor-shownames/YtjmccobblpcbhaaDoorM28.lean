/-
  RdRel, RdUp, RdLen.
-/
import Derived.Shelf.Unicode.DecodeSlow
import Derived.Laws.RangeAny
import Derived.Shelf.Strings.Builder1
import Derived.Shelf.Small.Utf8
import Derived.Shelf.Small.Bits
import Derived.Shelf.Strings.BuilderF
import Derived.Shelf.Strings.BuilderK
import Derived.Shelf.Strings.BuilderRune
import Derived.Shelf.Utf8.AppendRune
import Derived.Shelf.Strconv.Itoa0
import Derived.Shelf.Strconv.Itoa1
import Derived.Shelf.LaysM
import Derived.Shelf.Strconv.Itoa2
import Derived.Shelf.Strconv.Itoa3
import Derived.Shelf.Strconv.Itoa4
import Derived.Shelf.Strings.Prefix
import Derived.Shelf.Unicode.DecodeAny
import Derived.Test.YtjmccobblpcbhaaDoorProg
import Derived.WalkKit
import Derived.Deep.DeepFit
import Derived.Lib.OthersKept
import Derived.Lib.RuneCountTail
import Derived.Laws.DeepStrings4
import Derived.Deep.AppendLies
import Derived.Deep.OwnRows
import Derived.Laws.AppendOwnNone
import Derived.Deep.QuietTactic
import Derived.BigQuiet
import Derived.Deep.RegionWith
import Derived.Lib.Small
import Derived.Lib.Strings
import Derived.Lib.MapLaws
import Derived.Test.YtjmccobblpcbhaaDoorM01
import Derived.Test.YtjmccobblpcbhaaDoorM02
import Derived.Test.YtjmccobblpcbhaaDoorM03
import Derived.Test.YtjmccobblpcbhaaDoorM04
import Derived.Test.YtjmccobblpcbhaaDoorM05
import Derived.Test.YtjmccobblpcbhaaDoorM06
import Derived.Test.YtjmccobblpcbhaaDoorM07
import Derived.Test.YtjmccobblpcbhaaDoorM08
import Derived.Test.YtjmccobblpcbhaaDoorM09
import Derived.Test.YtjmccobblpcbhaaDoorM16
import Derived.Test.YtjmccobblpcbhaaDoorM17
import Derived.Test.YtjmccobblpcbhaaDoorM18
set_option linter.unusedSimpArgs false
set_option linter.unusedVariables false
namespace Go.Proofs.YtjmccobblpcbhaaDoor
open Go.Lib

theorem jn1_ne (op : Int) (a : List Nd) : jn1 op a ≠ [] := by simp [jn1]
theorem jn2_ne (op : Int) (a b : List Nd) : jn2 op a b ≠ [] := by simp [jn2]
theorem jn3_ne (op : Int) (a b c : List Nd) : jn3 op a b c ≠ [] := by simp [jn3]
def RdQ.ok (q : RdQ) : Prop := ∀ lv la, q = .loop lv la → la ≠ []
theorem rdLit_ne {s : ByteArray} {v : Int} {t : Tk} {r : List Nd × Nat} (h : rdLit s v t = .ok r) : r.1 ≠ [] := by
  unfold rdLit at h
  split at h
  · split at h
    · cases h; simp
    · cases h
  · cases h
theorem rdNamed_ne {s : ByteArray} {v : Int} {t : Tk} {r : List Nd × Nat} (h : rdNamed s v t = .ok r) : r.1 ≠ [] := by
  unfold rdNamed at h
  split at h
  · split at h
    · cases h; simp
    · cases h
  · cases h
theorem rd_ne (s : ByteArray) (pat : Bool) : ∀ (f : Nat) (q : RdQ) (t : Tk) (o : Nat) (r : List Nd × Nat), q.ok → rdRun s pat f q t o = .ok r → r.1 ≠ [] := by
  intro f
  induction f with
  | zero => intro q t o r _ h; cases h
  | succ f ih =>
    intro q t o r hq h
    cases q with
    | cond =>
      obtain ⟨c, h1, h⟩ := Pr.bind_ok h
      obtain ⟨t1, _, h⟩ := Pr.bind_ok h
      split at h
      · obtain ⟨t2, _, h⟩ := Pr.bind_ok h
        obtain ⟨a, _, h⟩ := Pr.bind_ok h
        obtain ⟨t3, _, h⟩ := Pr.bind_ok h
        split at h
        · split at h
          · obtain ⟨t4, _, h⟩ := Pr.bind_ok h
            obtain ⟨b, _, h⟩ := Pr.bind_ok h
            cases h; exact jn3_ne _ _ _ _
          · cases h
        · cases h
      · cases h; exact ih (.level 1) _ _ _ (fun _ _ e => by cases e) h1
    | level lv =>
      simp only [rdRun] at h
      split at h
      · exact ih .un _ _ _ (fun _ _ e => by cases e) h
      · obtain ⟨a, h1, h⟩ := Pr.bind_ok h
        obtain ⟨t1, _, h⟩ := Pr.bind_ok h
        exact ih (.loop lv a.1) _ _ _ (fun _ _ e => by cases e; exact ih (.level (lv + 1)) _ _ _ (fun _ _ e => by cases e) h1) h
    | loop lv la =>
      simp only [rdRun] at h
      split at h
      · obtain ⟨t1, _, h⟩ := Pr.bind_ok h
        obtain ⟨b, _, h⟩ := Pr.bind_ok h
        split at h
        · cases h; exact jn2_ne _ _ _
        · obtain ⟨t2, _, h⟩ := Pr.bind_ok h
          exact ih (.loop lv _) _ _ _ (fun _ _ e => by cases e; exact jn2_ne _ _ _) h
      · cases h; exact hq lv la rfl
    | un =>
      simp only [rdRun] at h
      split at h
      · split at h
        · obtain ⟨t1, _, h⟩ := Pr.bind_ok h
          obtain ⟨x, _, h⟩ := Pr.bind_ok h
          cases h; exact jn1_ne _ _
        · obtain ⟨t1, _, h⟩ := Pr.bind_ok h
          exact rdLit_ne h
      · split at h
        · obtain ⟨t1, _, h⟩ := Pr.bind_ok h
          obtain ⟨x, _, h⟩ := Pr.bind_ok h
          cases h; exact jn1_ne _ _
        · exact ih .atom _ _ _ (fun _ _ e => by cases e) h
    | atom =>
      simp only [rdRun] at h
      split at h
      · exact rdLit_ne h
      · split at h
        · exact rdNamed_ne h
        · split at h
          · obtain ⟨t1, _, h⟩ := Pr.bind_ok h
            exact rdNamed_ne h
          · split at h
            · split at h
              · cases h
              · obtain ⟨t1, _, h⟩ := Pr.bind_ok h
                obtain ⟨e, h1, h⟩ := Pr.bind_ok h
                obtain ⟨t2, _, h⟩ := Pr.bind_ok h
                split at h
                · split at h
                  · cases h; have k := ih .cond _ _ e (fun _ _ e => by cases e) h1; exact k
                  · cases h
                · cases h
            · cases h

theorem fin1 {t : Tk} {o : Nat} (op : Int) (pre a : List Nd) (ha : a ≠ []) : psJoin op [pre.length + a.length - 1] ⟨t, pre ++ a.map (shN pre.length), o⟩ = (pre.length + (jn1 op a).length - 1, ⟨t, pre ++ (jn1 op a).map (shN pre.length), o⟩) := by
  have := List.length_pos_iff.2 ha
  have e : ((pre.length + a.length - 1 : Nat) : Int) = ((a.length - 1 : Nat) : Int) + (pre.length : Int) := by omega
  unfold psJoin psAdd jn1
  simp [shN, e]
  try omega
theorem fin2 {t : Tk} {o : Nat} (op : Int) (pre a b : List Nd) (ha : a ≠ []) (hb : b ≠ []) : psJoin op [pre.length + a.length - 1, (pre ++ a.map (shN pre.length)).length + b.length - 1] ⟨t, pre ++ a.map (shN pre.length) ++ b.map (shN (pre ++ a.map (shN pre.length)).length), o⟩ = (pre.length + (jn2 op a b).length - 1, ⟨t, pre ++ (jn2 op a b).map (shN pre.length), o⟩) := by
  have := List.length_pos_iff.2 ha
  have := List.length_pos_iff.2 hb
  have e : ((pre.length + a.length - 1 : Nat) : Int) = ((a.length - 1 : Nat) : Int) + (pre.length : Int) := by omega
  have e2 : ((pre.length + a.length + b.length - 1 : Nat) : Int) = ((a.length + b.length - 1 : Nat) : Int) + (pre.length : Int) := by omega
  have e3 : a.length + pre.length = pre.length + a.length := by omega
  unfold psJoin psAdd jn2
  simp only [List.map_append, map_shN, List.length_append, List.length_map, e3]
  simp [shN, e, e2]
  try omega
theorem fin3 {t : Tk} {o : Nat} (op : Int) (pre a b c : List Nd) (ha : a ≠ []) (hb : b ≠ []) (hc : c ≠ []) : psJoin op [pre.length + a.length - 1, (pre ++ a.map (shN pre.length)).length + b.length - 1, (pre ++ a.map (shN pre.length) ++ b.map (shN (pre ++ a.map (shN pre.length)).length)).length + c.length - 1] ⟨t, pre ++ a.map (shN pre.length) ++ b.map (shN (pre ++ a.map (shN pre.length)).length) ++ c.map (shN (pre ++ a.map (shN pre.length) ++ b.map (shN (pre ++ a.map (shN pre.length)).length)).length), o⟩ = (pre.length + (jn3 op a b c).length - 1, ⟨t, pre ++ (jn3 op a b c).map (shN pre.length), o⟩) := by
  have := List.length_pos_iff.2 ha
  have := List.length_pos_iff.2 hb
  have := List.length_pos_iff.2 hc
  have e : ((pre.length + a.length - 1 : Nat) : Int) = ((a.length - 1 : Nat) : Int) + (pre.length : Int) := by omega
  have e2 : ((pre.length + a.length + b.length - 1 : Nat) : Int) = ((a.length + b.length - 1 : Nat) : Int) + (pre.length : Int) := by omega
  have e4 : ((pre.length + a.length + b.length + c.length - 1 : Nat) : Int) = ((a.length + b.length + c.length - 1 : Nat) : Int) + (pre.length : Int) := by omega
  have e3 : a.length + pre.length = pre.length + a.length := by omega
  have e5 : a.length + b.length + pre.length = pre.length + a.length + b.length := by omega
  unfold psJoin psAdd jn3
  simp only [List.map_append, map_shN, List.length_append, List.length_map, e3, e5]
  simp [shN, e, e2, e4]
  try omega

/-- What the parser makes of what the reader finds. -/
def lz (s : ByteArray) (pat : Bool) (pre : List Nd) (o : Nat) (x : Pr (List Nd × Nat)) : Pr (Nat × Ps) := x.bind fun r => (psFrom s pat mx63 r.2).bind fun t' => .ok (pre.length + r.1.length - 1, ⟨t', pre ++ r.1.map (shN pre.length), o⟩)
theorem lit_lz (s : ByteArray) (pat : Bool) (pre : List Nd) (o : Nat) (v : Int) (t : Tk) : psLit s pat v ⟨t, pre, o⟩ = lz s pat pre o (rdLit s v t) := by
  unfold psLit psEx rdLit lz
  by_cases hw : t.what = 48
  · by_cases he : t.err = 0
    · simp only [hw, he, if_true, psNx_eq]
      simp only [Pr.bind]
      cases psFrom s pat mx63 (skp s t.to) with
      | out => rfl
      | bad p e => rfl
      | ok t1 => simp [Pr.bind, psAdd, shN]
    · simp [hw, he, Pr.bind]
  · simp [hw, Pr.bind]
theorem named_lz (s : ByteArray) (pat : Bool) (pre : List Nd) (o : Nat) (v : Int) (t : Tk) : psNamed s pat v ⟨t, pre, o⟩ = lz s pat pre o (rdNamed s v t) := by
  unfold psNamed psEx rdNamed lz
  by_cases hw : t.what = 97
  · by_cases he : t.err = 0
    · simp only [hw, he, if_true, psNx_eq]
      simp only [Pr.bind]
      cases psFrom s pat mx63 (skp s t.to) with
      | out => rfl
      | bad p e => rfl
      | ok t1 => simp [Pr.bind, psAdd, shN]
    · simp [hw, he, Pr.bind]
  · simp [hw, Pr.bind]
theorem noq {q : RdQ} (h : ∀ lv la, q ≠ .loop lv la) : q.ok := fun lv la e => absurd e (h lv la)
set_option maxHeartbeats 1000000 in
theorem ps_rd (s : ByteArray) (pat : Bool) : ∀ (f : Nat) (q : RdQ) (t : Tk) (o : Nat) (pre : List Nd), psFrom s pat mx63 t.from_ = .ok t → q.ok → psRun s pat f (q.rl pre.length) ⟨t, pre ++ q.left.map (shN pre.length), o⟩ = lz s pat pre o (rdRun s pat f q t o) := by
  intro f
  induction f with
  | zero => intro q t o pre _ _; rfl
  | succ f ih =>
    intro q t o pre hT hq
    have ihn : ∀ (q : RdQ) (t : Tk) (o : Nat) (pre : List Nd), q.left = [] → q.ok → psFrom s pat mx63 t.from_ = .ok t → psRun s pat f (q.rl pre.length) ⟨t, pre, o⟩ = lz s pat pre o (rdRun s pat f q t o) := fun q t o pre h1 h2 h3 => by
      have := ih q t o pre h3 h2
      rw [h1] at this
      simpa using this
    cases q with
    | cond =>
      have i1 := ihn (.level 1) t o pre rfl (noq fun _ _ e => by cases e) hT
      simp only [RdQ.rl] at i1
      simp only [RdQ.rl, RdQ.left, List.map_nil, List.append_nil, psRun, rdRun]
      rw [i1]
      unfold lz
      cases hc : rdRun s pat f (.level 1) t o with
      | out => rfl
      | bad p e => rfl
      | ok c =>
        have nc := rd_ne s pat f _ _ _ _ (noq fun _ _ e => by cases e) hc
        simp only [Pr.bind]
        cases h1 : psFrom s pat mx63 c.2 with
        | out => rfl
        | bad p e => rfl
        | ok t1 =>
          simp only [Pr.bind]
          by_cases hw : t1.what = 63
          · simp only [hw, if_true, psNx_eq]
            cases h2 : psFrom s pat mx63 (skp s t1.to) with
            | out => rfl
            | bad p e => rfl
            | ok t2 =>
              have i2 := ihn .cond t2 o (pre ++ c.1.map (shN pre.length)) rfl (noq fun _ _ e => by cases e) (psFrom_here h2)
              simp only [RdQ.rl] at i2
              simp only [Pr.bind]
              rw [i2]
              unfold lz
              cases ha : rdRun s pat f .cond t2 o with
              | out => rfl
              | bad p e => rfl
              | ok a =>
                have na := rd_ne s pat f _ _ _ _ (noq fun _ _ e => by cases e) ha
                simp only [Pr.bind]
                cases h3 : psFrom s pat mx63 a.2 with
                | out => rfl
                | bad p e => rfl
                | ok t3 =>
                  simp only [Pr.bind, psEx]
                  by_cases hw3 : t3.what = 58
                  · by_cases he3 : t3.err = 0
                    · simp only [hw3, he3, if_true, psNx_eq]
                      cases h4 : psFrom s pat mx63 (skp s t3.to) with
                      | out => rfl
                      | bad p e => rfl
                      | ok t4 =>
                        have i3 := ihn .cond t4 o (pre ++ c.1.map (shN pre.length) ++ a.1.map (shN (pre ++ c.1.map (shN pre.length)).length)) rfl (noq fun _ _ e => by cases e) (psFrom_here h4)
                        simp only [RdQ.rl] at i3
                        simp only [Pr.bind]
                        rw [i3]
                        unfold lz
                        cases hb : rdRun s pat f .cond t4 o with
                        | out => rfl
                        | bad p e => rfl
                        | ok b =>
                          have nb := rd_ne s pat f _ _ _ _ (noq fun _ _ e => by cases e) hb
                          simp only [Pr.bind]
                          cases h5 : psFrom s pat mx63 b.2 with
                          | out => rfl
                          | bad p e => rfl
                          | ok t5 =>
                            simp only [Pr.bind]
                            rw [fin3 17 pre c.1 a.1 b.1 nc na nb]
                    · simp [hw3, he3, Pr.bind]
                  · simp [hw3, Pr.bind]
          · simp only [hw, if_false, h1]
    | level lv =>
      simp only [RdQ.rl, RdQ.left, List.map_nil, List.append_nil, psRun, rdRun]
      by_cases h8 : 8 < lv
      · simp only [h8, if_true]
        exact ihn .un t o pre rfl (noq fun _ _ e => by cases e) hT
      · simp only [h8, if_false]
        have i1 := ihn (.level (lv + 1)) t o pre rfl (noq fun _ _ e => by cases e) hT
        simp only [RdQ.rl] at i1
        rw [i1]
        unfold lz
        cases hc : rdRun s pat f (.level (lv + 1)) t o with
        | out => rfl
        | bad p e => rfl
        | ok a =>
          have na := rd_ne s pat f _ _ _ _ (noq fun _ _ e => by cases e) hc
          simp only [Pr.bind]
          cases h1 : psFrom s pat mx63 a.2 with
          | out => rfl
          | bad p e => rfl
          | ok t1 =>
            have i2 := ih (.loop lv a.1) t1 o pre (psFrom_here h1) (fun _ _ e => by cases e; exact na)
            simp only [RdQ.rl, RdQ.left] at i2
            simp only [Pr.bind]
            rw [i2]
            rfl
    | loop lv la =>
      have nla := hq lv la rfl
      simp only [RdQ.rl, RdQ.left, psRun, rdRun]
      by_cases hop : (psOp t.what).2 = lv
      · simp only [hop, if_true, psNx_eq]
        unfold lz
        cases h1 : psFrom s pat mx63 (skp s t.to) with
        | out => rfl
        | bad p e => rfl
        | ok t1 =>
          have i2 := ihn (.level (lv + 1)) t1 o (pre ++ la.map (shN pre.length)) rfl (noq fun _ _ e => by cases e) (psFrom_here h1)
          simp only [RdQ.rl] at i2
          simp only [Pr.bind]
          rw [i2]
          unfold lz
          cases hb : rdRun s pat f (.level (lv + 1)) t1 o with
          | out => rfl
          | bad p e => rfl
          | ok b =>
            have nb := rd_ne s pat f _ _ _ _ (noq fun _ _ e => by cases e) hb
            simp only [Pr.bind]
            by_cases hc : (psOp t.what).1 = 15 ∨ (psOp t.what).1 = 16
            · simp only [hc, if_true]
              cases h2 : psFrom s pat mx63 b.2 with
              | out => rfl
              | bad p e => rfl
              | ok t2 =>
                simp only [Pr.bind]
                rw [fin2 _ pre la b.1 nla nb]
            · simp only [hc, if_false]
              cases h2 : psFrom s pat mx63 b.2 with
              | out => rfl
              | bad p e => rfl
              | ok t2 =>
                simp only [Pr.bind]
                rw [fin2 _ pre la b.1 nla nb]
                have i3 := ih (.loop lv (jn2 (psOp t.what).1 la b.1)) t2 o pre (psFrom_here h2) (fun _ _ e => by cases e; exact jn2_ne _ _ _)
                simp only [RdQ.rl, RdQ.left] at i3
                exact i3
      · simp only [hop, if_false]
        unfold lz
        simp only [Pr.bind, hT]
    | un =>
      simp only [RdQ.rl, RdQ.left, List.map_nil, List.append_nil, psRun, rdRun]
      by_cases h45 : t.what = 45
      · simp only [h45, if_true]
        by_cases h11 : (numI s t.to).2.2 = 11
        · simp only [h11, if_true, psNx_eq]
          unfold lz
          cases h1 : psFrom s pat mx63 (skp s t.to) with
          | out => rfl
          | bad p e => rfl
          | ok t1 =>
            have i2 := ihn .un t1 o pre rfl (noq fun _ _ e => by cases e) (psFrom_here h1)
            simp only [RdQ.rl] at i2
            simp only [Pr.bind]
            rw [i2]
            unfold lz
            cases hb : rdRun s pat f .un t1 o with
            | out => rfl
            | bad p e => rfl
            | ok b =>
              have nb := rd_ne s pat f _ _ _ _ (noq fun _ _ e => by cases e) hb
              simp only [Pr.bind]
              cases h2 : psFrom s pat mx63 b.2 with
              | out => rfl
              | bad p e => rfl
              | ok t2 =>
                simp only [Pr.bind]
                rw [fin1 _ pre b.1 nb]
        · simp only [h11, if_false, psNx_eq]
          cases h1 : psFrom s pat (mx63 + 1) (skp s t.to) with
          | out => rfl
          | bad p e => rfl
          | ok t1 =>
            simp only [Pr.bind]
            exact lit_lz s pat pre o _ t1
      · simp only [h45, if_false]
        by_cases h126 : t.what = 126
        · simp only [h126, if_true, psNx_eq]
          unfold lz
          cases h1 : psFrom s pat mx63 (skp s t.to) with
          | out => rfl
          | bad p e => rfl
          | ok t1 =>
            have i2 := ihn .un t1 o pre rfl (noq fun _ _ e => by cases e) (psFrom_here h1)
            simp only [RdQ.rl] at i2
            simp only [Pr.bind]
            rw [i2]
            unfold lz
            cases hb : rdRun s pat f .un t1 o with
            | out => rfl
            | bad p e => rfl
            | ok b =>
              have nb := rd_ne s pat f _ _ _ _ (noq fun _ _ e => by cases e) hb
              simp only [Pr.bind]
              cases h2 : psFrom s pat mx63 b.2 with
              | out => rfl
              | bad p e => rfl
              | ok t2 =>
                simp only [Pr.bind]
                rw [fin1 _ pre b.1 nb]
        · simp only [h126, if_false]
          exact ihn .atom t o pre rfl (noq fun _ _ e => by cases e) hT
    | atom =>
      simp only [RdQ.rl, RdQ.left, List.map_nil, List.append_nil, psRun, rdRun]
      by_cases h48 : t.what = 48
      · simp only [h48, if_true]
        exact lit_lz s pat pre o _ t
      · simp only [h48, if_false]
        by_cases h97 : t.what = 97
        · simp only [h97, if_true]
          exact named_lz s pat pre o _ t
        · simp only [h97, if_false]
          by_cases h64 : t.what = 64
          · simp only [h64, if_true, psNx_eq]
            cases h1 : psFrom s pat mx63 (skp s t.to) with
            | out => rfl
            | bad p e => rfl
            | ok t1 =>
              simp only [Pr.bind]
              exact named_lz s pat pre o _ t1
          · simp only [h64, if_false]
            by_cases h40 : t.what = 40
            · simp only [h40, if_true]
              by_cases ho : o = 100
              · simp [ho, lz, Pr.bind]
              · simp only [ho, if_false, psNx_eq]
                unfold lz
                cases h1 : psFrom s pat mx63 (skp s t.to) with
                | out => rfl
                | bad p e => rfl
                | ok t1 =>
                  have i2 := ihn .cond t1 (o + 1) pre rfl (noq fun _ _ e => by cases e) (psFrom_here h1)
                  simp only [RdQ.rl] at i2
                  simp only [Pr.bind]
                  rw [i2]
                  unfold lz
                  cases hb : rdRun s pat f .cond t1 (o + 1) with
                  | out => rfl
                  | bad p e => rfl
                  | ok b =>
                    simp only [Pr.bind]
                    cases h2 : psFrom s pat mx63 b.2 with
                    | out => rfl
                    | bad p e => rfl
                    | ok t2 =>
                      simp only [Pr.bind, psEx]
                      by_cases hw : t2.what = 41
                      · by_cases he : t2.err = 0
                        · simp only [hw, he, if_true, psNx_eq]
                          cases h3 : psFrom s pat mx63 (skp s t2.to) with
                          | out => rfl
                          | bad p e => rfl
                          | ok t3 => simp [Pr.bind]
                        · simp [hw, he, Pr.bind]
                      · simp [hw, Pr.bind]
            · simp [h40, lz, Pr.bind]
end Go.Proofs.YtjmccobblpcbhaaDoor

set_option linter.unusedSimpArgs false
set_option linter.unusedVariables false
namespace Go.Proofs.YtjmccobblpcbhaaDoor
open Go.Lib

structure KidsIn (l : List Nd) : Prop where
  ne : l ≠ []
  few : ∀ x ∈ l, x.kids.length ≤ 3
  kin : ∀ x ∈ l, ∀ k ∈ x.kids, 0 ≤ k ∧ k < l.length
theorem KidsIn.up {l : List Nd} (h : KidsIn l) : KidsUp l := fun x hx k hk => (h.kin x hx k hk).1
def RdQ.up (q : RdQ) : Prop := ∀ lv la, q = .loop lv la → KidsIn la
end Go.Proofs.YtjmccobblpcbhaaDoor

set_option linter.unusedSimpArgs false
set_option linter.unusedVariables false
namespace Go.Proofs.YtjmccobblpcbhaaDoor
open Go.Lib

/-- A token that stands at a. -/
structure TkA (s : ByteArray) (a : Nat) (t : Tk) : Prop where
  at_ : t.from_ = a
  in_ : a ≤ s.size
  good : t.err = 0 → a ≤ t.to ∧ t.to ≤ s.size ∧ (t.what ≠ 0 → a < t.to)
  sign : t.what ≠ 48 → t.what ≠ 97 → t.err = 0
  name : t.what = 97 → a < t.to ∧ t.to ≤ s.size

theorem from_at {s : ByteArray} {pat : Bool} {m a : Nat} {t : Tk} (ha : a ≤ s.size) (h : psFrom s pat m a = .ok t) : TkA s a t := by
  unfold psFrom at h
  split at h
  · rename_i hq
    unfold psAt at h
    split at h
    · rename_i k1
      obtain ⟨e1, e2, e3⟩ := span_in' s a hq k1
      rw [e1] at h
      simp only [Int.toNat_natCast] at h
      cases h
      exact ⟨rfl, ha, fun _ => ⟨by simp only; omega, e3, fun _ => e2⟩, fun _ h => absurd rfl h, fun _ => ⟨e2, e3⟩⟩
    · split at h
      · rename_i k2
        cases h
        refine ⟨rfl, ha, fun h0 => ?_, fun h => absurd rfl h, fun h => by cases h⟩
        simp only at h0 ⊢
        split at h0
        · cases h0
        · have := num_in s a hq k2 h0
          omega
      · split at h
        · rename_i k4
          have := sign_in s pat a hq k4.1
          have k5 := k4.2
          cases h
          refine ⟨rfl, ha, fun _ => ⟨by simp only; omega, by simp only; omega, fun _ => by simp only; omega⟩, fun _ _ => rfl, fun _ => ⟨by simp only; omega, by simp only; omega⟩⟩
        · cases h
  · cases h
    have : a = s.size := by omega
    subst this
    exact ⟨rfl, ha, fun _ => ⟨Nat.le_refl _, Nat.le_refl _, fun h => absurd rfl h⟩, fun _ _ => rfl, fun h => by cases h⟩
theorem skp_in {s : ByteArray} {p : Nat} (h : p ≤ s.size) : p ≤ skp s p ∧ skp s p ≤ s.size := psSkip_le s s.size p h

theorem rdLit_len {s : ByteArray} {a : Nat} {v : Int} {t : Tk} {r : List Nd × Nat} (ht : TkA s a t) (h : rdLit s v t = .ok r) : r.1.length = 1 ∧ a < r.2 ∧ r.2 ≤ s.size := by
  unfold rdLit at h
  split at h
  · split at h
    · rename_i h1 h2
      cases h
      obtain ⟨g1, g2, g3⟩ := ht.good h2
      have g4 := g3 (by rw [h1]; decide)
      have := skp_in g2
      exact ⟨rfl, by simp only; omega, this.2⟩
    · cases h
  · cases h
theorem rdNamed_len {s : ByteArray} {a : Nat} {v : Int} {t : Tk} {r : List Nd × Nat} (ht : TkA s a t) (h : rdNamed s v t = .ok r) : r.1.length = 1 ∧ a < r.2 ∧ r.2 ≤ s.size := by
  unfold rdNamed at h
  split at h
  · split at h
    · rename_i h1 h2
      cases h
      obtain ⟨g1, g2, g3⟩ := ht.good h2
      have g4 := g3 (by rw [h1]; decide)
      have := skp_in g2
      exact ⟨rfl, by simp only; omega, this.2⟩
    · cases h
  · cases h
theorem jn1_len (op : Int) (a : List Nd) : (jn1 op a).length = a.length + 1 := by simp [jn1]
theorem jn2_len (op : Int) (a b : List Nd) : (jn2 op a b).length = a.length + b.length + 1 := by simp [jn2]; omega
theorem jn3_len (op : Int) (a b c : List Nd) : (jn3 op a b c).length = a.length + b.length + c.length + 1 := by simp [jn3]; omega
theorem op_sgn {c : Int} {lv : Nat} (h : (psOp c).2 = lv) (hl : 1 ≤ lv) : c ≠ 0 ∧ c ≠ 48 ∧ c ≠ 97 := by
  refine ⟨?_, ?_, ?_⟩ <;> (rintro rfl; simp [psOp] at h; omega)

def RdQ.lvl (q : RdQ) : Prop := (∀ lv, q = .level lv → 1 ≤ lv) ∧ ∀ lv la, q = .loop lv la → 1 ≤ lv

theorem rd_len (s : ByteArray) (pat : Bool) : ∀ (f : Nat) (q : RdQ) (a : Nat) (t : Tk) (o : Nat) (r : List Nd × Nat), q.lvl → TkA s a t → rdRun s pat f q t o = .ok r → r.1.length + a ≤ r.2 + q.left.length ∧ a ≤ r.2 ∧ r.2 ≤ s.size := by
  intro f
  induction f with
  | zero => intro q a t o r _ _ h; cases h
  | succ f ih =>
    have hc : RdQ.cond.lvl := ⟨(fun _ e => by cases e), (fun _ _ e => by cases e)⟩
    have hu : RdQ.un.lvl := ⟨(fun _ e => by cases e), (fun _ _ e => by cases e)⟩
    have hat : RdQ.atom.lvl := ⟨(fun _ e => by cases e), (fun _ _ e => by cases e)⟩
    have hlv : ∀ lv, 1 ≤ lv → (RdQ.level lv).lvl := fun lv h => ⟨(fun _ e => by cases e; exact h), (fun _ _ e => by cases e)⟩
    have hlo : ∀ lv la, 1 ≤ lv → (RdQ.loop lv la).lvl := fun lv la h => ⟨(fun _ e => by cases e), (fun _ _ e => by cases e; exact h)⟩
    intro q a t o r hq ht h
    cases q with
    | cond =>
      simp only [rdRun] at h
      obtain ⟨c, h1, h⟩ := Pr.bind_ok h
      obtain ⟨i1, i2, i3⟩ := ih _ a t o c (hlv 1 (by omega)) ht h1
      simp only [RdQ.left, List.length_nil, Nat.add_zero] at i1 ⊢
      obtain ⟨t1, h2, h⟩ := Pr.bind_ok h
      have ht1 := from_at i3 h2
      split at h
      · rename_i hw
        obtain ⟨g1, g2, g3⟩ := ht1.good (ht1.sign (by rw [hw]; decide) (by rw [hw]; decide))
        have g4 := g3 (by rw [hw]; decide)
        have s1 := skp_in g2
        obtain ⟨t2, h3, h⟩ := Pr.bind_ok h
        have ht2 := from_at s1.2 h3
        obtain ⟨b, h4, h⟩ := Pr.bind_ok h
        obtain ⟨j1, j2, j3⟩ := ih _ _ t2 o b hc ht2 h4
        simp only [RdQ.left, List.length_nil, Nat.add_zero] at j1
        obtain ⟨t3, h5, h⟩ := Pr.bind_ok h
        have ht3 := from_at j3 h5
        split at h
        · rename_i hw3
          split at h
          · obtain ⟨k1, k2, k3⟩ := ht3.good (ht3.sign (by rw [hw3]; decide) (by rw [hw3]; decide))
            have k4 := k3 (by rw [hw3]; decide)
            have s2 := skp_in k2
            obtain ⟨t4, h6, h⟩ := Pr.bind_ok h
            have ht4 := from_at s2.2 h6
            obtain ⟨d, h7, h⟩ := Pr.bind_ok h
            obtain ⟨l1, l2, l3⟩ := ih _ _ t4 o d hc ht4 h7
            simp only [RdQ.left, List.length_nil, Nat.add_zero] at l1
            cases h
            simp only [jn3_len]
            omega
          · cases h
        · cases h
      · cases h; exact ⟨i1, i2, i3⟩
    | level lv =>
      simp only [rdRun] at h
      have hl1 := hq.1 lv rfl
      simp only [RdQ.left, List.length_nil, Nat.add_zero]
      split at h
      · have := ih _ a t o r hu ht h
        simpa [RdQ.left] using this
      · obtain ⟨c, h1, h⟩ := Pr.bind_ok h
        obtain ⟨i1, i2, i3⟩ := ih _ a t o c (hlv (lv + 1) (by omega)) ht h1
        simp only [RdQ.left, List.length_nil, Nat.add_zero] at i1
        obtain ⟨t1, h2, h⟩ := Pr.bind_ok h
        have ht1 := from_at i3 h2
        obtain ⟨j1, j2, j3⟩ := ih _ _ t1 o r (hlo lv c.1 hl1) ht1 h
        simp only [RdQ.left] at j1
        omega
    | loop lv la =>
      simp only [rdRun] at h
      have hl1 := hq.2 lv la rfl
      simp only [RdQ.left]
      split at h
      · rename_i hw
        obtain ⟨w0, w1, w2⟩ := op_sgn hw hl1
        obtain ⟨g1, g2, g3⟩ := ht.good (ht.sign w1 w2)
        have g4 := g3 w0
        have s1 := skp_in g2
        obtain ⟨t1, h2, h⟩ := Pr.bind_ok h
        have ht1 := from_at s1.2 h2
        obtain ⟨b, h3, h⟩ := Pr.bind_ok h
        obtain ⟨i1, i2, i3⟩ := ih _ _ t1 o b (hlv (lv + 1) (by omega)) ht1 h3
        simp only [RdQ.left, List.length_nil, Nat.add_zero] at i1
        split at h
        · cases h
          simp only [jn2_len]
          omega
        · obtain ⟨t2, h4, h⟩ := Pr.bind_ok h
          have ht2 := from_at i3 h4
          obtain ⟨j1, j2, j3⟩ := ih _ _ t2 o r (hlo lv _ hl1) ht2 h
          simp only [RdQ.left, jn2_len] at j1
          omega
      · cases h
        rw [ht.at_]
        have := ht.in_
        simp only
        omega
    | un =>
      simp only [rdRun] at h
      simp only [RdQ.left, List.length_nil, Nat.add_zero]
      split at h
      · rename_i hw
        obtain ⟨g1, g2, g3⟩ := ht.good (ht.sign (by rw [hw]; decide) (by rw [hw]; decide))
        have g4 := g3 (by rw [hw]; decide)
        have s1 := skp_in g2
        split at h
        · obtain ⟨t1, h2, h⟩ := Pr.bind_ok h
          have ht1 := from_at s1.2 h2
          obtain ⟨b, h3, h⟩ := Pr.bind_ok h
          obtain ⟨i1, i2, i3⟩ := ih _ _ t1 o b hu ht1 h3
          simp only [RdQ.left, List.length_nil, Nat.add_zero] at i1
          cases h
          simp only [jn1_len]
          omega
        · obtain ⟨t1, h2, h⟩ := Pr.bind_ok h
          have ht1 := from_at s1.2 h2
          have := rdLit_len ht1 h
          omega
      · split at h
        · rename_i hw
          obtain ⟨g1, g2, g3⟩ := ht.good (ht.sign (by rw [hw]; decide) (by rw [hw]; decide))
          have g4 := g3 (by rw [hw]; decide)
          have s1 := skp_in g2
          obtain ⟨t1, h2, h⟩ := Pr.bind_ok h
          have ht1 := from_at s1.2 h2
          obtain ⟨b, h3, h⟩ := Pr.bind_ok h
          obtain ⟨i1, i2, i3⟩ := ih _ _ t1 o b hu ht1 h3
          simp only [RdQ.left, List.length_nil, Nat.add_zero] at i1
          cases h
          simp only [jn1_len]
          omega
        · have := ih _ a t o r hat ht h
          simpa [RdQ.left] using this
    | atom =>
      simp only [rdRun] at h
      simp only [RdQ.left, List.length_nil, Nat.add_zero]
      split at h
      · have := rdLit_len ht h; omega
      · split at h
        · have := rdNamed_len ht h; omega
        · split at h
          · rename_i hw
            obtain ⟨g1, g2, g3⟩ := ht.good (ht.sign (by rw [hw]; decide) (by rw [hw]; decide))
            have g4 := g3 (by rw [hw]; decide)
            have s1 := skp_in g2
            obtain ⟨t1, h2, h⟩ := Pr.bind_ok h
            have ht1 := from_at s1.2 h2
            have := rdNamed_len ht1 h
            omega
          · split at h
            · rename_i hw
              obtain ⟨g1, g2, g3⟩ := ht.good (ht.sign (by rw [hw]; decide) (by rw [hw]; decide))
              have g4 := g3 (by rw [hw]; decide)
              have s1 := skp_in g2
              split at h
              · cases h
              · obtain ⟨t1, h2, h⟩ := Pr.bind_ok h
                have ht1 := from_at s1.2 h2
                obtain ⟨e, h3, h⟩ := Pr.bind_ok h
                obtain ⟨i1, i2, i3⟩ := ih _ _ t1 (o + 1) e hc ht1 h3
                simp only [RdQ.left, List.length_nil, Nat.add_zero] at i1
                obtain ⟨t2, h4, h⟩ := Pr.bind_ok h
                have ht2 := from_at i3 h4
                split at h
                · rename_i hw2
                  split at h
                  · rename_i he
                    obtain ⟨k1, k2, k3⟩ := ht2.good he
                    have s2 := skp_in k2
                    cases h
                    simp only
                    omega
                  · cases h
                · cases h
            · cases h
end Go.Proofs.YtjmccobblpcbhaaDoor
