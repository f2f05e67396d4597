/-
  SmA.
-/
import Derived.Test.YtjmccobblpcbhaaDoorChecked
import GoSem.PinnedTables
import GoSem.Claim
import GoSem.ClaimJoined
import GoSem.ClaimMapViews
import Derived.JoinedTies
import Derived.KernelRfl
import Derived.Shelf.Unicode.DecodeSlow
import Derived.Laws.RangeAny
import Derived.Shelf.Strings.Builder1
import Derived.Shelf.Small.Utf8
import Derived.Shelf.Small.Bits
import Derived.Shelf.Strings.BuilderF
import Derived.Shelf.Strings.BuilderK
import Derived.Shelf.Strings.BuilderRune
import Derived.Shelf.Utf8.AppendRune
import Derived.Shelf.Strconv.Itoa0
import Derived.Shelf.Strconv.Itoa1
import Derived.Shelf.LaysM
import Derived.Shelf.Strconv.Itoa2
import Derived.Shelf.Strconv.Itoa3
import Derived.Shelf.Strconv.Itoa4
import Derived.Shelf.Strings.Prefix
import Derived.Shelf.Unicode.DecodeAny
import Derived.Test.YtjmccobblpcbhaaDoorProg
import Derived.WalkKit
import Derived.Deep.DeepFit
import Derived.Lib.OthersKept
import Derived.Lib.RuneCountTail
import Derived.Lib.LaidU8
import Derived.MakeChecks
import Derived.ProofKit
import Derived.OpenShut
import Derived.Deep.DeepHandedRow
import Derived.Lib.Small
import Derived.Lib.Strings
import Derived.Lib.MapLaws
import Derived.Deep.AppendLies
import Derived.Deep.OwnRows
import Derived.Laws.AppendOwnNone
import Derived.Deep.QuietTactic
import Derived.BigQuiet
import Derived.Deep.RegionWith
import Derived.Laws.DeepStrings4
import Derived.Deep.RegionHeld3
import Derived.Laws.ResultCell
import Derived.Lib.QuietBelow
import Derived.Deep.Heap
import Derived.Laws.Rows
import Derived.Below
import Derived.StillTail
import Derived.Deep.RegionLaw
import Derived.Laws.OwnMore
import Derived.Sort.Walk0
import Derived.Lib.ItoaNum
import Derived.Maps.OwnSet
import Derived.StringKeys
import Derived.BigCall
import Derived.Lib.LaidTab
import Derived.Deep.Slices
import Derived.Test.YtjmccobblpcbhaaDoorRows
import Derived.Test.YtjmccobblpcbhaaDoorP01
import Derived.Test.YtjmccobblpcbhaaDoorP02
import Derived.Test.YtjmccobblpcbhaaDoorP03
import Derived.Test.YtjmccobblpcbhaaDoorP04
import Derived.Test.YtjmccobblpcbhaaDoorP05
import Derived.Test.YtjmccobblpcbhaaDoorP06
import Derived.Test.YtjmccobblpcbhaaDoorP07
import Derived.Test.YtjmccobblpcbhaaDoorP08
import Derived.Test.YtjmccobblpcbhaaDoorP09
import Derived.Test.YtjmccobblpcbhaaDoorP10
import Derived.Test.YtjmccobblpcbhaaDoorP11
import Derived.Test.YtjmccobblpcbhaaDoorP12
import Derived.Test.YtjmccobblpcbhaaDoorP13
import Derived.Test.YtjmccobblpcbhaaDoorP14
import Derived.Test.YtjmccobblpcbhaaDoorP15
import Derived.Test.YtjmccobblpcbhaaDoorP16
import Derived.Test.YtjmccobblpcbhaaDoorP17
import Derived.Test.YtjmccobblpcbhaaDoorP18
import Derived.Test.YtjmccobblpcbhaaDoorP19
import Derived.Test.YtjmccobblpcbhaaDoorP20
import Derived.Test.YtjmccobblpcbhaaDoorP21
import Derived.Test.YtjmccobblpcbhaaDoorP22
import Derived.Test.YtjmccobblpcbhaaDoorP23
import Derived.Test.YtjmccobblpcbhaaDoorP24
import Derived.Test.YtjmccobblpcbhaaDoorP25
import Derived.Test.YtjmccobblpcbhaaDoorP26
import Derived.Test.YtjmccobblpcbhaaDoorP27
import Derived.Test.YtjmccobblpcbhaaDoorP28
import Derived.Test.YtjmccobblpcbhaaDoorP29
set_option linter.unusedSimpArgs false
set_option linter.unusedVariables false
namespace Go.Proofs.YtjmccobblpcbhaaDoor
open Go.Lib

/-- Places of two texts that answer to each other: the end, a blank, a token. -/
inductive Sm (s x : ByteArray) (pat : Bool) : Nat → Nat → Prop
  | fin : Sm s x pat s.size x.size
  | blk {p q q' : Nat} (hp : p < s.size) (kp : kd (Utf8.decode s p).1 = 3) (wp : (Utf8.decode s p).2 = 1) (hq : q < x.size) (lo : (x.get! q).toNat / 64 ≠ 2) (kq : kd (Utf8.decode x q).1 = 3) (sq : skp x q = skp x q') (hc : CkA x q' → CkA x q) (next : Sm s x pat (p + 1) q') : Sm s x pat p q
  | tk {p q a b : Nat} {w : Int} {n : Nat} {E : Nat → Int} (hp : p < s.size) (kp : kd (Utf8.decode s p).1 ≠ 3) (hq : q < x.size) (lo : (x.get! q).toNat / 64 ≠ 2) (kq : kd (Utf8.decode x q).1 ≠ 3) (nm : (numI s p).2.2 = 11 ↔ (numI x q).2.2 = 11)
      (t1 : ∀ m, mx63 ≤ m → psFrom s pat m p = .ok ⟨w, p, a, n, E m⟩) (t2 : ∀ m, mx63 ≤ m → psFrom x pat m q = .ok ⟨w, q, b, n, E m⟩) (ex : w = 97 → x.extract q b = s.extract p a) (hc : CkA x b → CkA x q) (next : Sm s x pat a b) : Sm s x pat p q

/-- Tokens of two texts that answer to each other. -/
structure TkM (s x : ByteArray) (pat : Bool) (t t' : Tk) : Prop where
  what : t'.what = t.what
  n : t'.n = t.n
  err : t'.err = t.err
  at_ : Sm s x pat t.from_ t'.from_
  to : Sm s x pat t.to t'.to
  ex : t.what = 97 → x.extract t'.from_ t'.to = s.extract t.from_ t.to

section
variable {s x : ByteArray} {pat : Bool}
theorem psSkip_more (s : ByteArray) : ∀ (f g p : Nat), s.size ≤ p + f → s.size ≤ p + g → psSkip s f p = psSkip s g p
  | 0, 0, p, _, _ => rfl
  | 0, g + 1, p, h, _ => by simp only [psSkip]; rw [if_neg (by omega)]
  | f + 1, 0, p, _, h => by simp only [psSkip]; rw [if_neg (by omega)]
  | f + 1, g + 1, p, h1, h2 => by
    simp only [psSkip]
    by_cases hp : p < s.size
    · rw [if_pos hp, if_pos hp]
      split
      · have := width_pos s p hp
        exact psSkip_more s f g _ (by omega) (by omega)
      · rfl
    · rw [if_neg hp, if_neg hp]
theorem skp_on {S : ByteArray} {p : Nat} (hp : p < S.size) (h : kd (Utf8.decode S p).1 = 3) : skp S p = skp S (p + (Utf8.decode S p).2) := by
  unfold skp
  obtain ⟨f, hf⟩ : ∃ f, S.size = f + 1 := ⟨S.size - 1, by omega⟩
  have hw := width_pos S p hp
  rw [hf]
  conv => lhs; rw [psSkip]
  rw [if_pos (by omega), if_pos h]
  exact psSkip_more S _ _ _ (by omega) (by omega)
theorem Sm.sk {p q : Nat} (h : Sm s x pat p q) : Sm s x pat (skp s p) (skp x q) := by
  induction h with
  | fin => rw [skp_all, skp_all]; exact .fin
  | blk hp kp wp hq lo kq sq hc next ih =>
    rw [skp_on hp kp, wp, sq]; exact ih
  | tk hp kp hq lo kq nm t1 t2 ex hc next ih =>
    rw [skp_off hp kp, skp_off hq kq]
    exact .tk hp kp hq lo kq nm t1 t2 ex hc next
theorem Sm.tok {p q m : Nat} (h : Sm s x pat p q) (hm : mx63 ≤ m) {t : Tk} (ht : psFrom s pat m p = .ok t) : ∃ t', psFrom x pat m q = .ok t' ∧ TkM s x pat t t' := by
  cases h with
  | fin =>
    unfold psFrom at ht ⊢
    rw [if_neg (Nat.lt_irrefl _)] at ht ⊢
    cases ht
    exact ⟨_, rfl, rfl, rfl, rfl, .fin, .fin, fun e => absurd e (show ¬ (0 : Int) = 97 by decide)⟩
  | blk hp kp wp hq lo kq sq hc next =>
    unfold psFrom psAt at ht
    rw [if_pos hp, if_neg (by rw [kp]; decide), if_neg (by rw [kp]; decide), if_neg (fun c => by rw [kp] at c; exact absurd c.1 (by decide))] at ht
    cases ht
  | tk hp kp hq lo kq nm t1 t2 ex hc next =>
    rw [t1 m hm] at ht
    cases ht
    exact ⟨_, t2 m hm, rfl, rfl, rfl, .tk hp kp hq lo kq nm t1 t2 ex hc next, next, ex⟩
theorem num_end (S : ByteArray) : (numI S (S.size : Int)).2.2 = 11 := by
  unfold numI numP
  rw [if_neg (by omega), Int.toNat_natCast]
  have : digZ (rn S S.size) = 0 := by
    unfold rn
    rw [if_neg (Nat.lt_irrefl _)]
    decide +kernel
  rw [this, if_pos rfl]
theorem kd3_dig {r : Int} (h : kd r = 3) : digZ r = 0 := by
  by_cases hz : digZ r = 0
  · exact hz
  · have := (kd_two _).2 hz
    rw [h] at this; cases this
theorem Sm.num {p q : Nat} (h : Sm s x pat p q) : (numI s (p : Int)).2.2 = 11 ↔ (numI x (q : Int)).2.2 = 11 := by
  cases h with
  | fin => rw [num_end, num_end]
  | blk hp kp wp hq lo kq sq hc next => rw [num_no hp (kd3_dig kp), num_no hq (kd3_dig kq)]
  | tk hp kp hq lo kq nm t1 t2 ex hc next => exact nm
theorem Sm.ck {p q : Nat} (h : Sm s x pat p q) : CkA x q := by
  induction h with
  | fin => exact CkA.end_ x
  | blk hp kp wp hq lo kq sq hc next ih => exact hc ih
  | tk hp kp hq lo kq nm t1 t2 ex hc next ih => exact hc ih
theorem mx_le1 : mx63 ≤ mx63 := Nat.le_refl _
theorem mx_le2 : mx63 ≤ mx63 + 1 := Nat.le_succ _
theorem TkM.nx {t t' t1 : Tk} {m : Nat} (h : TkM s x pat t t') (hm : mx63 ≤ m) (hf : psFrom s pat m (skp s t.to) = .ok t1) : ∃ t1', psFrom x pat m (skp x t'.to) = .ok t1' ∧ TkM s x pat t1 t1' := h.to.sk.tok hm hf
theorem TkM.lit {t t' : Tk} (h : TkM s x pat t t') {v : Int} {r : List Nd × Nat} (hk : rdLit s v t = .ok r) : ∃ q, rdLit x v t' = .ok (r.1, q) ∧ Sm s x pat r.2 q := by
  unfold rdLit at hk ⊢
  rw [h.what, h.err]
  split at hk
  · rename_i h1
    rw [if_pos h1]
    split at hk
    · rename_i h2
      rw [if_pos h2]
      cases hk
      exact ⟨_, rfl, h.to.sk⟩
    · cases hk
  · cases hk
theorem TkM.named {t t' : Tk} (h : TkM s x pat t t') {v : Int} {r : List Nd × Nat} (hk : rdNamed s v t = .ok r) : ∃ q, rdNamed x v t' = .ok (r.1, q) ∧ Sm s x pat r.2 q := by
  unfold rdNamed at hk ⊢
  rw [h.what, h.err]
  split at hk
  · rename_i h1
    rw [if_pos h1]
    split at hk
    · rename_i h2
      rw [if_pos h2, h.ex h1]
      cases hk
      exact ⟨_, rfl, h.to.sk⟩
    · cases hk
  · cases hk
set_option maxHeartbeats 400000 in
theorem sim_run : ∀ (f : Nat) (q : RdQ) (t t' : Tk) (o : Nat) (r : List Nd × Nat), TkM s x pat t t' → rdRun s pat f q t o = .ok r → ∃ e, rdRun x pat f q t' o = .ok (r.1, e) ∧ Sm s x pat r.2 e := by
  intro f
  induction f with
  | zero => intro q t t' o r _ h; cases h
  | succ f ih =>
    intro q t t' o r hr hk
    cases q with
    | cond =>
      simp only [rdRun] at hk ⊢
      obtain ⟨c, h1, hk⟩ := Pr.bind_ok hk
      obtain ⟨e1, g1, m1⟩ := ih _ t t' o c hr h1
      obtain ⟨t1, h2, hk⟩ := Pr.bind_ok hk
      obtain ⟨t1', g2, r1⟩ := m1.tok mx_le1 h2
      rw [g1]; simp only [Pr.bind]; rw [g2]; simp only [Pr.bind]
      rw [r1.what]
      split at hk
      · rename_i hw
        rw [if_pos hw]
        obtain ⟨t2, h3, hk⟩ := Pr.bind_ok hk
        obtain ⟨t2', g3, r2⟩ := r1.nx mx_le1 h3
        obtain ⟨b, h4, hk⟩ := Pr.bind_ok hk
        obtain ⟨e4, g4, m4⟩ := ih _ t2 t2' o b r2 h4
        obtain ⟨t3, h5, hk⟩ := Pr.bind_ok hk
        obtain ⟨t3', g5, r3⟩ := m4.tok mx_le1 h5
        rw [g3]; simp only [Pr.bind]; rw [g4]; simp only [Pr.bind]; rw [g5]; simp only [Pr.bind]
        rw [r3.what, r3.err]
        split at hk
        · rename_i hw3
          rw [if_pos hw3]
          split at hk
          · rename_i he3
            rw [if_pos he3]
            obtain ⟨t4, h6, hk⟩ := Pr.bind_ok hk
            obtain ⟨t4', g6, r4⟩ := r3.nx mx_le1 h6
            obtain ⟨y, h7, hk⟩ := Pr.bind_ok hk
            obtain ⟨e7, g7, m7⟩ := ih _ t4 t4' o y r4 h7
            rw [g6]; simp only [Pr.bind]; rw [g7]; simp only [Pr.bind]
            cases hk
            exact ⟨_, rfl, m7⟩
          · cases hk
        · cases hk
      · rename_i hw
        rw [if_neg hw]
        cases hk
        exact ⟨_, rfl, m1⟩
    | level lv =>
      simp only [rdRun] at hk ⊢
      split at hk
      · rename_i h8
        rw [if_pos h8]
        exact ih _ t t' o r hr hk
      · rename_i h8
        rw [if_neg h8]
        obtain ⟨c, h1, hk⟩ := Pr.bind_ok hk
        obtain ⟨e1, g1, m1⟩ := ih _ t t' o c hr h1
        obtain ⟨t1, h2, hk⟩ := Pr.bind_ok hk
        obtain ⟨t1', g2, r1⟩ := m1.tok mx_le1 h2
        rw [g1]; simp only [Pr.bind]; rw [g2]; simp only [Pr.bind]
        exact ih _ t1 t1' o r r1 hk
    | loop lv la =>
      simp only [rdRun] at hk ⊢
      rw [hr.what]
      split at hk
      · rename_i hw
        rw [if_pos hw]
        obtain ⟨t1, h2, hk⟩ := Pr.bind_ok hk
        obtain ⟨t1', g2, r1⟩ := hr.nx mx_le1 h2
        obtain ⟨b, h3, hk⟩ := Pr.bind_ok hk
        obtain ⟨e3, g3, m3⟩ := ih _ t1 t1' o b r1 h3
        rw [g2]; simp only [Pr.bind]; rw [g3]; simp only [Pr.bind]
        split at hk
        · rename_i h15
          rw [if_pos h15]
          cases hk
          exact ⟨_, rfl, m3⟩
        · rename_i h15
          rw [if_neg h15]
          obtain ⟨t2, h4, hk⟩ := Pr.bind_ok hk
          obtain ⟨t2', g4, r2⟩ := m3.tok mx_le1 h4
          rw [g4]; simp only [Pr.bind]
          exact ih _ t2 t2' o r r2 hk
      · rename_i hw
        rw [if_neg hw]
        cases hk
        exact ⟨_, rfl, hr.at_⟩
    | un =>
      simp only [rdRun] at hk ⊢
      rw [hr.what]
      split at hk
      · rename_i hw
        rw [if_pos hw]
        split at hk
        · rename_i h11
          rw [if_pos (hr.to.num.1 h11)]
          obtain ⟨t1, h2, hk⟩ := Pr.bind_ok hk
          obtain ⟨t1', g2, r1⟩ := hr.nx mx_le1 h2
          obtain ⟨b, h3, hk⟩ := Pr.bind_ok hk
          obtain ⟨e3, g3, m3⟩ := ih _ t1 t1' o b r1 h3
          rw [g2]; simp only [Pr.bind]; rw [g3]; simp only [Pr.bind]
          cases hk
          exact ⟨_, rfl, m3⟩
        · rename_i h11
          rw [if_neg (fun c => h11 (hr.to.num.2 c))]
          obtain ⟨t1, h2, hk⟩ := Pr.bind_ok hk
          obtain ⟨t1', g2, r1⟩ := hr.nx mx_le2 h2
          rw [g2]; simp only [Pr.bind]
          rw [r1.n]
          exact r1.lit hk
      · rename_i hw
        rw [if_neg hw]
        split at hk
        · rename_i hw
          rw [if_pos hw]
          obtain ⟨t1, h2, hk⟩ := Pr.bind_ok hk
          obtain ⟨t1', g2, r1⟩ := hr.nx mx_le1 h2
          obtain ⟨b, h3, hk⟩ := Pr.bind_ok hk
          obtain ⟨e3, g3, m3⟩ := ih _ t1 t1' o b r1 h3
          rw [g2]; simp only [Pr.bind]; rw [g3]; simp only [Pr.bind]
          cases hk
          exact ⟨_, rfl, m3⟩
        · rename_i hw
          rw [if_neg hw]
          exact ih _ t t' o r hr hk
    | atom =>
      simp only [rdRun] at hk ⊢
      rw [hr.what, hr.n]
      split at hk
      · rename_i hw
        rw [if_pos hw]
        exact hr.lit hk
      · rename_i hw
        rw [if_neg hw]
        split at hk
        · rename_i hw
          rw [if_pos hw]
          exact hr.named hk
        · rename_i hw
          rw [if_neg hw]
          split at hk
          · rename_i hw
            rw [if_pos hw]
            obtain ⟨t1, h2, hk⟩ := Pr.bind_ok hk
            obtain ⟨t1', g2, r1⟩ := hr.nx mx_le1 h2
            rw [g2]; simp only [Pr.bind]
            exact r1.named hk
          · rename_i hw
            rw [if_neg hw]
            split at hk
            · rename_i hw
              rw [if_pos hw]
              split at hk
              · cases hk
              · rename_i ho
                rw [if_neg ho]
                obtain ⟨t1, h2, hk⟩ := Pr.bind_ok hk
                obtain ⟨t1', g2, r1⟩ := hr.nx mx_le1 h2
                obtain ⟨b, h3, hk⟩ := Pr.bind_ok hk
                obtain ⟨e3, g3, m3⟩ := ih _ t1 t1' _ b r1 h3
                obtain ⟨t2, h4, hk⟩ := Pr.bind_ok hk
                obtain ⟨t2', g4, r2⟩ := m3.tok mx_le1 h4
                rw [g2]; simp only [Pr.bind]; rw [g3]; simp only [Pr.bind]; rw [g4]; simp only [Pr.bind]
                rw [r2.what, r2.err]
                split at hk
                · rename_i hw
                  rw [if_pos hw]
                  split at hk
                  · rename_i hw
                    rw [if_pos hw]
                    cases hk
                    exact ⟨_, rfl, r2.to.sk⟩
                  · cases hk
                · cases hk
            · cases hk
end

theorem Sm.at_end {s x : ByteArray} {pat : Bool} {p q : Nat} (h : Sm s x pat p q) (hp : ¬ p < s.size) : p = s.size ∧ q = x.size := by
  cases h with
  | fin => exact ⟨rfl, rfl⟩
  | blk hp' => exact absurd hp' hp
  | tk hp' => exact absurd hp' hp
/-- A text whose tokens are those of a text that is read well is read as the same. -/
theorem sim_read {s x : ByteArray} {pat : Bool} (h : Sm s x pat 0 0) (hz : x.size ≤ 4096) {most : Nat} {l : List Nd} (hs : psRead s pat most = .ok l) : psRead x pat most = .ok l := by
  have hnz := psRead_in x pat most
  rw [read_eq] at hs hnz ⊢
  unfold rdWhole rdX at hs hnz ⊢
  split at hs
  · cases hs
  · split at hs
    · obtain ⟨c, hx, hs⟩ := Pr.bind_ok hs
      obtain ⟨t, ht, h1⟩ := Pr.bind_ok hx
      obtain ⟨t', g1, r1⟩ := h.sk.tok mx_le1 ht
      obtain ⟨e, g2, m2⟩ := sim_run _ _ _ _ _ _ r1 h1
      obtain ⟨t2, h2, hs⟩ := Pr.bind_ok hs
      obtain ⟨t2', g3, r3⟩ := m2.tok mx_le1 h2
      rw [if_neg (by omega), if_pos (show (chk x).2 = 0 from h.ck x.size), g1] at hnz ⊢
      simp only [Pr.bind] at hnz ⊢
      have hfu : rdRun x pat (psFuel x) .cond t' 0 = .ok (c.1, e) := by
        cases hq : rdRun x pat (psFuel x) .cond t' 0 with
        | out => rw [hq] at hnz; exact absurd rfl hnz
        | bad p er =>
          have := rd_moreB hq (Nat.le_max_left (psFuel x) (psFuel s))
          rw [rd_more g2 (Nat.le_max_right (psFuel x) (psFuel s))] at this
          cases this
        | ok r =>
          have := rd_more hq (Nat.le_max_left (psFuel x) (psFuel s))
          rw [rd_more g2 (Nat.le_max_right (psFuel x) (psFuel s))] at this
          cases this; rfl
      rw [hfu]
      simp only [Pr.bind]
      rw [g3]
      simp only [Pr.bind]
      split at hs
      · cases hs
      · rename_i hlt
        rw [if_neg (by rw [(m2.at_end hlt).2]; exact Nat.lt_irrefl _)]
        split at hs
        · cases hs
        · rename_i h3
          rw [if_neg h3]
          split at hs
          · cases hs
          · rename_i h4
            rw [if_neg h4]
            cases hs; rfl
    · cases hs
end Go.Proofs.YtjmccobblpcbhaaDoor
