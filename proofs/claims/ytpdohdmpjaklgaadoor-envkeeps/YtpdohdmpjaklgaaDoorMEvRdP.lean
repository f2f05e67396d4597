/-
  What Read of an environment answers, plainly.
-/
import Derived.Test.YtpdohdmpjaklgaaDoorMEvPure
import Derived.Test.YtpdohdmpjaklgaaDoorMGEvA
import Derived.Test.YtpdohdmpjaklgaaDoorMArRdW
import Derived.Test.YtpdohdmpjaklgaaDoorMArRfR
import Derived.Test.YtpdohdmpjaklgaaDoorMSpanPure
import Derived.Test.YtpdohdmpjaklgaaDoorMPsTok
set_option linter.unusedSimpArgs false
set_option linter.unusedVariables false
namespace Go.Proofs.YtpdohdmpjaklgaaDoor
open Go.RowKit Go.Lib

def skE (s : ByteArray) (a : Nat) : Nat := psSkip s s.size a
theorem skE_in {s : ByteArray} {a : Nat} (h : a ≤ s.size) : a ≤ skE s a ∧ skE s a ≤ s.size := psSkip_le s s.size a h
theorem skip_on (s : ByteArray) (f p : Nat) (hp : p < s.size) (h : kd (Utf8.decode s p).1 = 3) : psSkip s (f + 1) p = psSkip s f (p + (Utf8.decode s p).2) := by simp [psSkip, hp, h]
theorem skip_off (s : ByteArray) (f p : Nat) (hp : p < s.size) (h : ¬ kd (Utf8.decode s p).1 = 3) : psSkip s f p = p := by cases f <;> simp [psSkip, hp, h]
theorem skip_end (s : ByteArray) (f p : Nat) (hp : ¬ p < s.size) : psSkip s f p = p := by cases f <;> simp [psSkip, hp]
def byB (s : ByteArray) (p : Nat) (c : UInt8) : Bool := decide (p < s.size) && s.get! p == c
/-- How many bytes a minus has. -/
def mwd (s : ByteArray) (c : Nat) : Nat := if rn s c = 45 then 1 else if rn s c = 8722 then 3 else 0
/-- The end of the digits of script z. -/
def dgE (s : ByteArray) (z : Int) : Nat → Nat → Nat
  | 0, p => p
  | f + 1, p => if p < s.size then (if digZ (Utf8.decode s p).1 = z then dgE s z f (p + (Utf8.decode s p).2) else p) else p
theorem dgE_on (s : ByteArray) (z : Int) (f p : Nat) (hp : p < s.size) (h : digZ (Utf8.decode s p).1 = z) : dgE s z (f + 1) p = dgE s z f (p + (Utf8.decode s p).2) := by simp [dgE, hp, h]
theorem dgE_off (s : ByteArray) (z : Int) (f p : Nat) (h : ¬ digZ (Utf8.decode s p).1 = z) : dgE s z f p = p := by cases f <;> simp [dgE, h]
theorem dgE_end (s : ByteArray) (z : Int) (f p : Nat) (hp : ¬ p < s.size) : dgE s z f p = p := by cases f <;> simp [dgE, hp]
theorem dgE_in (s : ByteArray) (z : Int) : ∀ (f p : Nat), p ≤ s.size → p ≤ dgE s z f p ∧ dgE s z f p ≤ s.size
  | 0, p, h => by simp [dgE, h]
  | f + 1, p, h => by
    by_cases hp : p < s.size
    · by_cases hz : digZ (Utf8.decode s p).1 = z
      · rw [dgE_on s z f p hp hz]
        have := dgE_in s z f (p + (Utf8.decode s p).2) (dec_le s p hp)
        omega
      · rw [dgE_off s z _ p hz]; omega
    · rw [dgE_end s z _ p hp]; omega
/-- The digits from d on. -/
def dgA (s : ByteArray) (d : Nat) : Nat := dgE s (digZ (rn s d)) s.size d
def numE (s : ByteArray) (c : Nat) : Int × Nat × Int :=
  if digZ (rn s (c + mwd s c)) = 0 then (0, c, 6)
  else if (rdA (s.extract c (dgA s (c + mwd s c)))).2 = 0 then ((rdA (s.extract c (dgA s (c + mwd s c)))).1, skE s (dgA s (c + mwd s c)), 0)
  else (0, c + mwd s c, 10)
/-- A binding at a; the place behind it and its blanks, or that of the fault. -/
def bindP (s : ByteArray) (a : Nat) : Bd × Nat × Int :=
  if kd (rn s a) = 1 then
    if nameB (s.extract a (spF s s.size a)) = false then (bd0, a, 7)
    else if byB s (skE s (spF s s.size a)) 61 = false then (bd0, skE s (spF s s.size a), 6)
    else ((s.extract a (spF s s.size a), (numE s (skE s (skE s (spF s s.size a) + 1))).1), (numE s (skE s (skE s (spF s s.size a) + 1))).2)
  else (bd0, a, 6)
def evF (s : ByteArray) : Nat → Nat → List Bd → List Bd × Nat × Int
  | 0, _, _ => ([], 0, 0)
  | f + 1, a, l =>
    if (bindP s a).2.2 = 0 then
      if (bindP s a).2.1 = s.size then (l ++ [(bindP s a).1], 0, 0)
      else if byB s (bindP s a).2.1 44 = false then ([], (bindP s a).2.1, 6)
      else if (l ++ [(bindP s a).1]).length = 64 then ([], (bindP s a).2.1, 10)
      else evF s f (skE s ((bindP s a).2.1 + 1)) (l ++ [(bindP s a).1])
    else ([], (bindP s a).2.1, (bindP s a).2.2)
/-- What Read answers. -/
def evR (s : ByteArray) : List Bd × Nat × Int :=
  if 4096 < s.size then ([], 0, 3) else if (chk s).2 = 0 then (if skE s 0 = s.size then ([], 0, 0) else evF s 64 (skE s 0) []) else ([], (chk s).1, (chk s).2)

/-! ### Pieces of a text -/
theorem rn_tail (s : ByteArray) (a q : Nat) (ha : a ≤ s.size) : rn (s.extract a s.size) q = rn s (a + q) := by
  unfold rn bad
  rw [dec_tail, tail_size]
  by_cases h : a + q < s.size
  · rw [if_pos (by omega), if_pos h]
  · rw [if_neg (by omega), if_neg h]
theorem dec_mid (s : ByteArray) (a e q : Nat) (he : e ≤ s.size) (hq : a + q < e) (hb : bad s (a + q) = false) (hfit : a + q + (Utf8.decode s (a + q)).2 ≤ e) : Utf8.decode (s.extract a e) q = Utf8.decode s (a + q) := by
  rw [mid_eq s a e he, dec_tail]
  exact dec_head s e (a + q) he hq hb hfit
theorem dig_good (s : ByteArray) (p : Nat) (h : digZ (Utf8.decode s p).1 ≠ 0) : bad s p = false := by
  cases hb : bad s p
  · rfl
  · rw [bad_eq hb] at h
    exact absurd (by decide) h
theorem vaF_fuel (s : ByteArray) : ∀ (f g p n : Nat), s.size ≤ p + f → s.size ≤ p + g → vaF s f p n = vaF s g p n
  | 0, g, p, n, h1, h2 => by rw [vaF_end s 0 p n (by omega), vaF_end s g p n (by omega)]
  | f + 1, 0, p, n, h1, h2 => by rw [vaF_end s _ p n (by omega), vaF_end s 0 p n (by omega)]
  | f + 1, g + 1, p, n, h1, h2 => by
    by_cases hp : p < s.size
    · have hw := width_pos s p hp
      rw [vaF_on s f p n hp, vaF_on s g p n hp]
      exact vaF_fuel s f g _ _ (by omega) (by omega)
    · rw [vaF_end s _ p n hp, vaF_end s _ p n hp]
theorem dg_run (s : ByteArray) (z : Int) (hz0 : z ≠ 0) (d g : Nat) (hg : g ≤ s.size) : ∀ (f q n : Nat), d + q ≤ s.size → s.size ≤ d + q + f → dgE s z f (d + q) = g → n ≤ 18446744073709551615 →
    oneF (s.extract d g) z f q = true ∧ nuF s z f (d + q) n = if vaF (s.extract d g) f q n ≤ 18446744073709551615 then (vaF (s.extract d g) f q n, g, 0) else (0, 0, 10)
  | 0, q, n, h1, h2, h3, hn => by
    simp only [dgE] at h3
    have hsz := mid_size s d g hg
    rw [oneF_end _ z 0 q (by omega), vaF_end _ 0 q n (by omega), if_pos hn]
    simp [nuF, h3]
  | f + 1, q, n, h1, h2, h3, hn => by
    have hsz := mid_size s d g hg
    by_cases hp : d + q < s.size
    · by_cases hz : digZ (Utf8.decode s (d + q)).1 = z
      · have hw := width_pos s (d + q) hp
        have hw2 := dec_le s (d + q) hp
        rw [dgE_on s z f _ hp hz] at h3
        have hin := dgE_in s z f (d + q + (Utf8.decode s (d + q)).2) hw2
        rw [h3] at hin
        have hd := dec_mid s d g q hg (by omega) (dig_good s _ (by rw [hz]; exact hz0)) hin.1
        have hqt : q < (s.extract d g).size := by omega
        rw [Nat.add_assoc] at h3
        have ih := fun n' hn' => dg_run s z hz0 d g hg f (q + (Utf8.decode s (d + q)).2) n' (by omega) (by omega) h3 hn'
        rw [oneF_on _ z f q hqt (by rw [hd]; exact hz), vaF_on _ f q n hqt, hd]
        have hge := vaF_ge (s.extract d g) f (q + (Utf8.decode s (d + q)).2) (n * 10 + (digV (Utf8.decode s (d + q)).1).toNat)
        by_cases hl : 18446744073709551615 < n * 10 + (digV (Utf8.decode s (d + q)).1).toNat
        · refine ⟨(ih 0 (by omega)).1, ?_⟩
          rw [nuF_large s z f _ n hp hz hl, if_neg (by omega)]
        · have ih' := ih _ (by omega : n * 10 + (digV (Utf8.decode s (d + q)).1).toNat ≤ 18446744073709551615)
          refine ⟨ih'.1, ?_⟩
          rw [nuF_on s z f _ n hp hz hl, Nat.add_assoc]
          exact ih'.2
      · rw [dgE_off s z _ _ hz] at h3
        rw [oneF_end _ z _ q (by omega), vaF_end _ _ q n (by omega), if_pos hn, nuF_off s z _ _ n hz, h3]
        exact ⟨rfl, rfl⟩
    · rw [dgE_end s z _ _ hp] at h3
      rw [oneF_end _ z _ q (by omega), vaF_end _ _ q n (by omega), if_pos hn, nuF_end s z _ _ n hp, h3]
      exact ⟨rfl, rfl⟩
theorem mwd_in (s : ByteArray) (c : Nat) (hc : c ≤ s.size) : c + mwd s c ≤ s.size ∧ (rn s c = 45 → Utf8.decode s c = (45, 1) ∧ bad s c = false ∧ c < s.size) ∧ (rn s c = 8722 → Utf8.decode s c = (8722, 3) ∧ bad s c = false ∧ c < s.size) := by
  have hrt := rn_tail s c 0 hc
  rw [Nat.add_zero] at hrt
  have hdt := dec_tail s c 0
  rw [Nat.add_zero] at hdt
  have hts := tail_size s c
  have key : ∀ v : Int, v ≠ -1 → rn s c = v → c < s.size ∧ bad s c = false ∧ ((Utf8.decode s c).1 : Int) = v := by
    intro v hv h
    unfold rn at h
    by_cases hp : c < s.size
    · rw [if_pos hp] at h
      cases hb : bad s c
      · rw [hb] at h; exact ⟨hp, rfl, by simpa using h⟩
      · rw [hb] at h; exact absurd h (fun e => hv (by simpa using e.symm))
    · rw [if_neg hp] at h; exact absurd h.symm hv
  have h45 : rn s c = 45 → Utf8.decode s c = (45, 1) ∧ bad s c = false ∧ c < s.size := by
    intro h
    obtain ⟨k1, k2, k3⟩ := key 45 (by decide) h
    have hw := wd_45 (s.extract c s.size) (hrt.trans h)
    refine ⟨?_, k2, k1⟩
    have : wdE (s.extract c s.size) 0 = (Utf8.decode s c).2 := by
      unfold wdE wd bad
      rw [hdt, if_pos (by rw [hts]; omega)]
      unfold bad at k2
      rw [k2]; rfl
    rw [this] at hw
    exact Prod.ext (by simp only; omega) hw.1
  have h87 : rn s c = 8722 → Utf8.decode s c = (8722, 3) ∧ bad s c = false ∧ c < s.size := by
    intro h
    obtain ⟨k1, k2, k3⟩ := key 8722 (by decide) h
    have hw := wd_8722 (s.extract c s.size) (hrt.trans h)
    refine ⟨?_, k2, k1⟩
    have : wdE (s.extract c s.size) 0 = (Utf8.decode s c).2 := by
      unfold wdE wd bad
      rw [hdt, if_pos (by rw [hts]; omega)]
      unfold bad at k2
      rw [k2]; rfl
    rw [this] at hw
    exact Prod.ext (by simp only; omega) hw.1
  refine ⟨?_, h45, h87⟩
  unfold mwd
  split
  · rename_i h
    obtain ⟨e, _, hp⟩ := h45 h
    have := dec_le s c hp
    rw [e] at this; exact this
  · split
    · rename_i _ h
      obtain ⟨e, _, hp⟩ := h87 h
      have := dec_le s c hp
      rw [e] at this; exact this
    · omega
theorem ext_ext (s : ByteArray) (a e k : Nat) (he : e ≤ s.size) : (s.extract a e).extract k (s.extract a e).size = s.extract (a + k) e := by
  rw [mid_eq s a e he, tail_tail, ← mid_eq s (a + k) e he]
theorem rn_mid (s : ByteArray) (a e : Nat) (he : e ≤ s.size) (hq : a < e) (hb : bad s a = false) (hfit : a + (Utf8.decode s a).2 ≤ e) : rn (s.extract a e) 0 = (Utf8.decode s a).1 := by
  have hd := dec_mid s a e 0 he hq hb hfit
  rw [Nat.add_zero] at hd
  unfold rn bad
  rw [hd, if_pos (by rw [mid_size s a e he]; omega)]
  unfold bad at hb
  rw [hb]; rfl
/-- What stands behind a minus, or without one: digits of one script. -/
theorem num_rel (s : ByteArray) (c : Nat) (hs : s.size ≤ 4096) (hc : c ≤ s.size) (hz : digZ (rn s (c + mwd s c)) ≠ 0) :
    (∃ v : Nat, numP s (c + mwd s c) = (v, dgA s (c + mwd s c), 0)) ∨ (numP s (c + mwd s c) = (0, 0, 10) ∧ (rdA (s.extract c (dgA s (c + mwd s c)))).2 ≠ 0) := by
  obtain ⟨hd, h45, h87⟩ := mwd_in s c hc
  obtain ⟨d, hdd⟩ : ∃ d, c + mwd s c = d := ⟨_, rfl⟩
  rw [hdd] at hz hd ⊢
  have hdl : d < s.size := by
    rcases Nat.lt_or_ge d s.size with h | h
    · exact h
    · exact absurd (by unfold rn; rw [if_neg (by omega)]; decide) hz
  obtain ⟨z, hzz⟩ : ∃ z, digZ (rn s d) = z := ⟨_, rfl⟩
  have hzd : digZ (Utf8.decode s d).1 = z := by rw [← digZ_rn s d hdl]; exact hzz
  have hz0 : z ≠ 0 := by rw [← hzz]; exact hz
  unfold numP dgA
  rw [if_neg hz, hzz]
  obtain ⟨g, hg⟩ : ∃ g, dgE s z s.size d = g := ⟨_, rfl⟩
  rw [hg]
  have hgi := dgE_in s z s.size d hd
  rw [hg] at hgi
  have hwd := width_pos s d hdl
  have hdg : d + (Utf8.decode s d).2 ≤ g := by
    obtain ⟨k, hk⟩ : ∃ k, s.size = k + 1 := ⟨s.size - 1, by omega⟩
    rw [hk, dgE_on s z k d hdl hzd] at hg
    have := dgE_in s z k _ (dec_le s d hdl)
    omega
  have hrun := dg_run s z hz0 d g hgi.2 s.size 0 0 (by omega) (by omega) (by rw [Nat.add_zero]; exact hg) (by omega)
  rw [Nat.add_zero] at hrun
  have hsz := mid_size s d g hgi.2
  rw [vaF_fuel _ s.size (s.extract d g).size 0 0 (by omega) (by omega)] at hrun
  rw [oneF_fuel _ z s.size (s.extract d g).size 0 (by omega) (by omega)] at hrun
  have hbd := dig_good s d (by rw [hzd]; exact hz0)
  have hone : one (s.extract d g) = true := by
    unfold one sc0
    have hd0 := dec_mid s d g 0 hgi.2 (by omega) hbd hdg
    rw [Nat.add_zero] at hd0
    rw [hd0, hzd, hrun.1]
    simp; omega
  rw [hrun.2]
  by_cases hv : vaF (s.extract d g) (s.extract d g).size 0 0 ≤ 18446744073709551615
  · left; exact ⟨_, by rw [if_pos hv]⟩
  · right
    rw [if_neg hv]
    refine ⟨rfl, ?_⟩
    have hcut : (cutR (s.extract c g)).1 = s.extract d g := by
      unfold cutR
      unfold mwd at hdd
      by_cases h1 : rn s c = 45
      · obtain ⟨e, hb, hp⟩ := h45 h1
        rw [if_pos h1] at hdd
        rw [rn_mid s c g hgi.2 (by omega) hb (by rw [e]; simp only; omega), e, if_pos (by decide)]
        simp only
        rw [ext_ext s c g 1 hgi.2, hdd]
      · by_cases h2 : rn s c = 8722
        · obtain ⟨e, hb, hp⟩ := h87 h2
          rw [if_neg h1, if_pos h2] at hdd
          rw [rn_mid s c g hgi.2 (by omega) hb (by rw [e]; simp only; omega), e, if_neg (by decide), if_pos (by decide)]
          simp only
          rw [ext_ext s c g 3 hgi.2, hdd]
        · rw [if_neg h1, if_neg h2, Nat.add_zero] at hdd
          subst hdd
          have hr : rn s c = (Utf8.decode s c).1 := by unfold rn; rw [if_pos hdl, hbd]; rfl
          rw [rn_mid s c g hgi.2 (by omega) hbd hdg, ← hr, if_neg h1, if_neg h2]
    unfold rdA
    rw [if_neg (by rw [mid_size s c g hgi.2]; omega), hcut, hone, if_pos rfl, if_pos]
    · decide
    · unfold vaA most
      split <;> omega
end Go.Proofs.YtpdohdmpjaklgaaDoor
