/-
  PaFm, PmP, PaHl, PaNu.
-/
import Derived.Shelf.Unicode.DecodeSlow
import Derived.Laws.RangeAny
import Derived.Shelf.Strconv.Itoa0
import Derived.Shelf.Unicode.DecodeAny
import Derived.Test.YtfdghbbanokopaaDoorProg
import Derived.WalkKit
import Derived.Deep.DeepFit
import Derived.Lib.OthersKept
import Derived.Lib.RuneCountTail
import Derived.Deep.AppendLies
import Derived.Deep.OwnRows
import Derived.Laws.AppendOwnNone
import Derived.Deep.QuietTactic
import Derived.BigQuiet
import Derived.Deep.RegionWith
import Derived.Laws.DeepStrings4
import Derived.RowKit
import Derived.Laws.Entries
import Derived.Lib.MapLaws
import Derived.Sort.Walk0
import Derived.Lib.ItoaNum
import Derived.Maps.OwnSet
import Derived.StringKeys
import Derived.Deep.Slices
import Derived.Below
import Derived.Laws.ResultCell
import Derived.Deep.RegionHeld3
import Derived.Test.YtfdghbbanokopaaDoorD01
import Derived.Test.YtfdghbbanokopaaDoorD02
import Derived.Test.YtfdghbbanokopaaDoorD03
import Derived.Test.YtfdghbbanokopaaDoorD04
import Derived.Test.YtfdghbbanokopaaDoorD05
import Derived.Test.YtfdghbbanokopaaDoorD06
import Derived.Test.YtfdghbbanokopaaDoorD08
import Derived.Test.YtfdghbbanokopaaDoorD09
import Derived.Test.YtfdghbbanokopaaDoorD10
import Derived.Test.YtfdghbbanokopaaDoorD11
import Derived.Test.YtfdghbbanokopaaDoorD12
import Derived.Test.YtfdghbbanokopaaDoorD13
import Derived.Test.YtfdghbbanokopaaDoorD14
set_option linter.unusedSimpArgs false
set_option linter.unusedVariables false
namespace Go.Proofs.YtfdghbbanokopaaDoor
open Go.RowKit Go.Lib Go.Maps Go.Deep

/-- An answer with a list of nodes of its own. -/
def AnQ (w : World) (X : List Nd) (c : Int) (e : Ending) (w' : World) : Prop := ∃ v, e = .returned (.tuple #[v, .int .i64 c]) ∧ OwnQ w' w.heap.size v X ∧ Below w.heap.size w w'
theorem anQ_nil {w w' : World} {c : Int} {e : Ending} (he : e = .returned (.tuple #[.slice none 0 0, .int .i64 c])) (hb : Below w.heap.size w w') : AnQ w [] c e w' := ⟨_, he, OwnQ_nil _ _, hb⟩

set_option maxRecDepth 20000 in
set_option maxHeartbeats 2000000 in
theorem fill_bad1 {w : World} {ao pa : Option Addr} {cap pc : Nat} {l : List Nd} {ps : List (List Nd)} (hT : SpanCells w) (hN : Rd w ao cap l) (hnm : ∀ x ∈ l, x.name.size ≤ maxLen) (hp : patB l = false) :
    Calls Tryd.prog 28 #[.slice ao l.length cap, .slice pa ps.length pc] w fun e w' => AnQ w [] 1 e w' := by
  have cR := read_bad hT hN hnm hp
  clear hN hT hnm hp
  go_enter Tryd.func28, Tryd.ntmps28
  go_wp2_with (go_at_call 55; refine cR.mono ?_; rintro e w1 ⟨rfl, hb⟩; have HB : Hid (_) := hb; clear hb)
  go_ret2
  exact anQ_nil rfl (HB.out.alloc HB.out.size _)

set_option maxRecDepth 20000 in
set_option maxHeartbeats 2000000 in
theorem fill_bad2 {w : World} {ao pa : Option Addr} {cap pc : Nat} {l : List Nd} {ps : List (List Nd)} (hT : SpanCells w) (hN : Rd w ao cap l) (hnm : ∀ x ∈ l, x.name.size ≤ maxLen) (hp : patB l = true)
    (hL : Lst w w.heap.size (.slice pa ps.length pc) ps) (hs : ps.any (fun l => !sndB l) = true) :
    Calls Tryd.prog 28 #[.slice ao l.length cap, .slice pa ps.length pc] w fun e w' => AnQ w [] 1 e w' := by
  have cR := read_ok hT hN hnm hp
  have CC : Hid (∀ W, Below w.heap.size w W → Calls Tryd.prog 56 #[.slice pa ps.length pc, .func (.func 57) #[] #[] ] W fun e w' => e = .returned (.bool true) ∧ Below W.heap.size W w') := fun W hb => by
    have := contains_any (hT.below hb) (hL.below hb hb.size)
    rw [hs] at this
    exact this
  clear hN hT hnm hp hL hs
  go_enter Tryd.func28, Tryd.ntmps28
  go_wp2_with (go_at_call 55; refine cR.mono ?_; rintro e w1 ⟨va, vc, na, nc, M, rfl, hO, hb⟩; have HB1 : Hid (_) := hb; clear hO hb)
  have hs1 := HB1.out.size
  refine (CC.out _ (HB1.out.alloc hs1 _)).mono ?_
  rintro e w2 ⟨rfl, hb2⟩
  have HB2 : Hid (Below w.heap.size w w2) := (HB1.out.alloc hs1 _).trans (hb2.mono (by simp; omega))
  clear hb2
  go_wp2_with fail
  go_ret2
  exact anQ_nil rfl HB2.out

set_option maxRecDepth 20000 in
set_option maxHeartbeats 2000000 in
theorem fill_arg {w : World} {ao pa : Option Addr} {cap pc : Nat} {l : List Nd} {ps : List (List Nd)} (hT : SpanCells w) (hN : Rd w ao cap l) (hnm : ∀ x ∈ l, x.name.size ≤ maxLen) (hp : patB l = true)
    (hL : Lst w w.heap.size (.slice pa ps.length pc) ps) (hs : ps.any (fun l => !sndB l) = false) (hlen : ps.length ≠ (hlsL l).length) :
    Calls Tryd.prog 28 #[.slice ao l.length cap, .slice pa ps.length pc] w fun e w' => AnQ w [] 2 e w' := by
  have cR := read_ok hT hN hnm hp
  have CC : Hid (∀ W, Below w.heap.size w W → Calls Tryd.prog 56 #[.slice pa ps.length pc, .func (.func 57) #[] #[] ] W fun e w' => e = .returned (.bool false) ∧ Below W.heap.size W w') := fun W hb => by
    have := contains_any (hT.below hb) (hL.below hb hb.size)
    rw [hs] at this
    exact this
  clear hN hT hnm hp hL hs
  generalize (hlsL l).length = m at *
  have hne : ((ps.length : Int) != (m : Int)) = true := by simp; omega
  have hne2 : ¬ ((ps.length : Int) = (m : Int)) := by omega
  go_enter Tryd.func28, Tryd.ntmps28
  go_wp2_with (go_at_call 55; refine cR.mono ?_; rintro e w1 ⟨va, vc, na, nc, M, rfl, hO, hb⟩; have HB1 : Hid (_) := hb; clear hO hb)
  have hs1 := HB1.out.size
  refine (CC.out _ (HB1.out.alloc hs1 _)).mono ?_
  rintro e w2 ⟨rfl, hb2⟩
  have e2 : w2.heap[w1.heap.size]? = some (.cells #[.slice va l.length vc, .slice na m nc, .map (some M)] 90) := (hb2.block w1.heap.size (by simp)).trans (MapKept.heap_alloc w1 _).1
  have c1 : w2.cell? ⟨w1.heap.size, 1, none⟩ = some (.slice na m nc) := by rw [cell_of_heap e2]; rfl
  have HB2 : Hid (Below w.heap.size w w2) := (HB1.out.alloc hs1 _).trans (hb2.mono (by simp; omega))
  clear hb2 e2
  go_wp2_with fail
  go_ret2
  exact anQ_nil rfl HB2.out

/-- What Fill answers beside the list. -/
def flC (l : List Nd) (ps : List (List Nd)) : Int :=
  if patB l = false ∨ ps.any (fun l => !sndB l) = true then 1 else if ps.length ≠ (hlsL l).length then 2 else if 64 < (flH ps (hlsL l) l).length then 10 else 0
structure FlOk (l : List Nd) (ps : List (List Nd)) : Prop where
  pat : patB l = true
  snd : ∀ r ∈ ps, sndB r = true
  len : ps.length = (hlsL l).length
theorem FlOk.pts {l : List Nd} {ps : List (List Nd)} (h : FlOk l ps) : PtsOk ps (hlsL l) l := fun x hx ho => h.snd _ (getD_mem (by rw [h.len]; exact hole_lt hx ho))
theorem flC_ok {l : List Nd} {ps : List (List Nd)} (h : FlOk l ps) : flC l ps = if 64 < (flH ps (hlsL l) l).length then 10 else 0 := by
  unfold flC
  rw [if_neg (by
    rintro (h1 | h1)
    · rw [h.pat] at h1; cases h1
    · obtain ⟨r, hr, h2⟩ := List.any_eq_true.1 h1
      rw [h.snd r hr] at h2; cases h2), if_neg (fun h1 => h1 h.len)]
theorem flC_zero {l : List Nd} {ps : List (List Nd)} (h : flC l ps = 0) : FlOk l ps ∧ (flH ps (hlsL l) l).length ≤ 64 := by
  unfold flC at h
  split at h
  · cases h
  · rename_i h1
    split at h
    · cases h
    · rename_i h2
      split at h
      · cases h
      · rename_i h3
        have h4 : patB l = true := by
          cases hp : patB l with
          | true => rfl
          | false => exact absurd (.inl hp) h1
        have h5 : ps.any (fun l => !sndB l) = false := by
          cases hp : ps.any (fun l => !sndB l) with
          | false => rfl
          | true => exact absurd (.inr hp) h1
        exact ⟨⟨h4, any_snd h5, by omega⟩, by omega⟩
/-- There is what a small filled pattern tells. -/
theorem fl_ex {l : List Nd} {ps : List (List Nd)} (h : FlOk l ps) (hl : (flH ps (hlsL l) l).length ≤ 64) : ∃ x, sndB x = true ∧ hds x = flH ps (hlsL l) l := by
  have key : ∀ m k, k + m = l.length → ∃ x, FlI l ps (hlsL l) k x := by
    intro m
    induction m with
    | zero =>
      intro k hk
      have : k = l.length := by omega
      subst this
      exact ⟨_, FlI.start ps (hlsL l) (patB_snd h.pat)⟩
    | succ m ih =>
      intro k hk
      obtain ⟨x, hx⟩ := ih (k + 1) (by omega)
      have hkl : k < l.length := by omega
      by_cases ho : (l.getD k nd0).op = 18
      · by_cases hz : x.length + (ps.getD (numL (hlsL l) (l.getD k nd0).name) []).length ≤ 65
        · exact ⟨_, hx.put hkl ho (h.pts _ (getD_mem hkl) ho) hz⟩
        · have := hx.large hkl ho h.pts (by omega); omega
      · exact ⟨x, hx.skip hkl ho⟩
  obtain ⟨x, hx⟩ := key l.length 0 (by omega)
  exact ⟨x, hx.snd, hx.done⟩
/-- Fill, with one answer. -/
theorem fillX (l : List Nd) (ps : List (List Nd)) : ∃ X, (flC l ps = 0 → sndB X = true ∧ hds X = flH ps (hlsL l) l) ∧ (flC l ps ≠ 0 → X = []) ∧ ∀ (W : World) (ao pa : Option Addr) (cap pc : Nat), SpanCells W → Rd W ao cap l → (∀ x ∈ l, x.name.size ≤ maxLen) → Lst W W.heap.size (.slice pa ps.length pc) ps →
    Calls Tryd.prog 28 #[.slice ao l.length cap, .slice pa ps.length pc] W fun e w' => AnQ W X (flC l ps) e w' := by
  cases hp : patB l with
  | false =>
    have hc : flC l ps = 1 := by unfold flC; rw [if_pos (.inl hp)]
    rw [hc]
    exact ⟨[], by simp, by simp, fun W ao pa cap pc hT hN hnm hL => fill_bad1 hT hN hnm hp⟩
  | true =>
    cases hs : ps.any (fun l => !sndB l) with
    | true =>
      have hc : flC l ps = 1 := by unfold flC; rw [if_pos (.inr hs)]
      rw [hc]
      exact ⟨[], by simp, by simp, fun W ao pa cap pc hT hN hnm hL => fill_bad2 hT hN hnm hp hL hs⟩
    | false =>
      by_cases hl : ps.length = (hlsL l).length
      · have hok : FlOk l ps := ⟨hp, any_snd hs, hl⟩
        obtain ⟨n, hn⟩ : ∃ n, l.length = n + 1 := ⟨l.length - 1, by have := (patB_len hp).1; omega⟩
        have cw : ∀ (W : World) (ao pa : Option Addr) (cap pc : Nat), SpanCells W → Rd W ao cap l → (∀ x ∈ l, x.name.size ≤ maxLen) → Lst W W.heap.size (.slice pa ps.length pc) ps → Calls Tryd.prog 28 #[.slice ao l.length cap, .slice pa ps.length pc] W fun e w' => FillP W l ps e w' := fun W ao pa cap pc hT hN hnm hL => by
          rw [hn]; exact fill_walk hn hT hN hnm hL hp hs hl
        by_cases hz : 64 < (flH ps (hlsL l) l).length
        · have hc : flC l ps = 10 := by rw [flC_ok hok, if_pos hz]
          rw [hc]
          refine ⟨[], by simp, by simp, fun W ao pa cap pc hT hN hnm hL => (cw W ao pa cap pc hT hN hnm hL).mono ?_⟩
          rintro e w' ⟨hb, ⟨h1, _⟩ | ⟨_, he⟩⟩
          · omega
          · exact anQ_nil he hb
        · have hc : flC l ps = 0 := by rw [flC_ok hok, if_neg hz]
          rw [hc]
          obtain ⟨X, hX, hXe⟩ := fl_ex hok (by omega)
          refine ⟨X, fun _ => ⟨hX, hXe⟩, by simp, fun W ao pa cap pc hT hN hnm hL => (cw W ao pa cap pc hT hN hnm hL).mono ?_⟩
          rintro e w' ⟨hb, ⟨_, v, x, he, ho, hx, hxe⟩ | ⟨h1, _⟩⟩
          · have : x = X := snd_det hx hX (hxe.trans hXe.symm)
            subst this
            exact ⟨v, he, ho, hb⟩
          · omega
      · have hc : flC l ps = 2 := by
          unfold flC
          rw [if_neg (by rw [hp, hs]; simp), if_pos hl]
        rw [hc]
        exact ⟨[], by simp, by simp, fun W ao pa cap pc hT hN hnm hL => fill_arg hT hN hnm hp hL hs hl⟩
end Go.Proofs.YtfdghbbanokopaaDoor

set_option linter.unusedSimpArgs false
set_option linter.unusedVariables false
namespace Go.Proofs.YtfdghbbanokopaaDoor

/-- A head put onto the numbers of those ahead of it. -/
def evHd (bs : List Bd) (st : List Int) (h : Hd) : Option (List Int) :=
  if h.1 = 1 then some (st ++ [h.2.1]) else if h.1 = 2 then some (st ++ [getB bs h.2.2])
  else (apO h.1 (st.drop (st.length - (aritI h.1).toNat))).map fun v => st.take (st.length - (aritI h.1).toNat) ++ [v]
def evH (bs : List Bd) : Option (List Int) → List Hd → Option (List Int)
  | o, [] => o
  | o, h :: hs => evH bs (o.bind fun st => evHd bs st h) hs
theorem evH_none (bs : List Bd) : ∀ hs : List Hd, evH bs none hs = none
  | [] => rfl
  | h :: hs => by show evH bs none hs = none; exact evH_none bs hs
theorem evH_app (bs : List Bd) : ∀ (a b : List Hd) (o : Option (List Int)), evH bs o (a ++ b) = evH bs (evH bs o a) b
  | [], b, o => rfl
  | h :: a, b, o => by show evH bs _ (a ++ b) = _; rw [evH_app bs a b]; rfl
theorem evH_one (bs : List Bd) (h : Hd) (st : List Int) : evH bs (some st) [h] = evHd bs st h := rfl
theorem evN_hd {x : Nd} (h : formB x = true) (bs : List Bd) (st : List Int) : evN bs st x = evHd bs st (hd x) := by
  have ha := form_ar h
  unfold evN evHd hd
  simp only
  have e : (aritI x.op).toNat = x.kids.length := by omega
  rw [e]
/-- On top of other numbers. -/
theorem evHd_top {bs : List Bd} {st : List Int} {h : Hd} (s0 : List Int) (hk : (aritI h.1).toNat ≤ st.length) : evHd bs (s0 ++ st) h = (evHd bs st h).map (s0 ++ ·) := by
  unfold evHd
  split
  · simp
  · split
    · simp
    · have e : (s0 ++ st).length - (aritI h.1).toNat = s0.length + (st.length - (aritI h.1).toNat) := by simp; omega
      rw [e, List.drop_append, List.take_append]
      have e1 : s0.length + (st.length - (aritI h.1).toNat) - s0.length = st.length - (aritI h.1).toNat := by omega
      rw [e1, List.drop_eq_nil_of_le (by omega), List.take_of_length_le (by omega), List.nil_append]
      cases apO h.1 (st.drop (st.length - (aritI h.1).toNat)) <;> simp
theorem evH_top {bs : List Bd} {l : List Nd} {fr : List Nat} (h : BegOk l fr) (s0 : List Int) : ∀ i, i ≤ l.length → evH bs (some s0) ((hds l).take i) = (evS bs l i).map (s0 ++ ·)
  | 0, _ => by simp [evH, evS]
  | i + 1, hi => by
    rw [hds_take_succ (by omega), evH_app, evH_top h s0 i (by omega)]
    show _ = ((evS bs l i).bind fun st => evN bs st (l.getD i nd0)).map _
    cases hs : evS bs l i with
    | none => simp [evH_none]
    | some st =>
      have hf := (h.at_ i (by omega)).1
      have hk := evS_kids h i (by omega) st hs
      have ha := form_ar hf
      simp only [Option.map_some, Option.bind_some]
      rw [evH_one, evHd_top s0 (by show (aritI (l.getD i nd0).op).toNat ≤ _; omega), ← evN_hd hf]
/-- What a sound list comes to, by its heads. -/
theorem evS_evA {bs : List Bd} {l : List Nd} (h : sndB l = true) : (evA bs l).2 = (if evS bs l l.length = none then 12 else 0) ∧ (∀ v, evS bs l l.length = some [v] → evA bs l = (v, 0)) ∧ (evS bs l l.length = none → evA bs l = (0, 12)) ∧ (evS bs l l.length = none ∨ ∃ v, evS bs l l.length = some [v]) := by
  obtain ⟨fr, hfr⟩ := Option.isSome_iff_exists.1 h
  obtain ⟨h1, h2⟩ := snd_end (bs := bs) hfr
  have hb := begOk_of (begL_some hfr).2.2.1
  have h0 := (begL_some hfr).1
  cases hv : vA bs l (l.length - 1) with
  | none =>
    have hn : evS bs l l.length = none := by
      cases hs : evS bs l l.length with
      | none => rfl
      | some st => exact absurd hv (evS_all hb l.length st (Nat.le_refl _) hs (l.length - 1) (by omega))
    have e0 : evA bs l = (0, 12) := by unfold evA; rw [if_pos h, hv]
    rw [hn]
    exact ⟨by rw [e0]; rfl, by simp, fun _ => e0, .inl rfl⟩
  | some v =>
    have hs := h2 (h1.2 (by rw [hv]; simp))
    have e0 : evA bs l = (v, 0) := by unfold evA; rw [if_pos h, hv]
    rw [hv] at hs
    simp only [Option.getD_some] at hs
    rw [hs]
    exact ⟨by rw [e0]; rfl, fun w hw => by simp at hw; subst hw; exact e0, by simp, .inr ⟨v, rfl⟩⟩
/-- A part on top of other numbers. -/
theorem evH_part {bs : List Bd} {r : List Nd} (h : sndB r = true) (st : List Int) : evH bs (some st) (hds r) = if (evA bs r).2 = 0 then some (st ++ [(evA bs r).1]) else none := by
  obtain ⟨fr, hfr⟩ := Option.isSome_iff_exists.1 h
  have h1 := evH_top (bs := bs) (begOk_of (begL_some hfr).2.2.1) st r.length (Nat.le_refl _)
  rw [List.take_of_length_le (by rw [hds_len]; exact Nat.le_refl _)] at h1
  rw [h1]
  obtain ⟨h2, h3, h4, h5 | ⟨v, h5⟩⟩ := evS_evA (bs := bs) h
  · rw [h5, h4 h5]; rfl
  · rw [h5, h3 v h5]; rfl
theorem evA_hds {bs : List Bd} {l : List Nd} (h : sndB l = true) : (∀ v, evH bs (some []) (hds l) = some [v] → evA bs l = (v, 0)) ∧ (evH bs (some []) (hds l) = none → evA bs l = (0, 12)) := by
  have h1 := evH_part (bs := bs) h []
  obtain ⟨h2, h3, h4, h5 | ⟨v, h5⟩⟩ := evS_evA (bs := bs) h
  · rw [h1, h4 h5]
    exact ⟨fun v hv => by simp at hv, fun _ => rfl⟩
  · rw [h1, h3 v h5]
    exact ⟨fun w hw => by simp at hw; subst hw; rfl, fun hw => by simp at hw⟩
/-- Where a part traps, the filled pattern does. -/
theorem fl_trap {bs : List Bd} {l X : List Nd} {ps : List (List Nd)} (hok : FlOk l ps) (hX : sndB X = true) (he : hds X = flH ps (hlsL l) l) {k : Nat} (hk : k < ps.length) (ht : (evA bs (ps.getD k [])).2 ≠ 0) : evA bs X = (0, 12) := by
  refine (evA_hds hX).2 ?_
  obtain ⟨x, hx, ho, hn⟩ := hls_hit (l := l) (n := k) (by rw [← hok.len]; exact hk)
  obtain ⟨a, b, hab⟩ := List.append_of_mem hx
  have e1 : flH ps (hlsL l) l = flH ps (hlsL l) a ++ (hds (ps.getD k []) ++ flH ps (hlsL l) b) := by
    have h2 : flH ps (hlsL l) l = flH ps (hlsL l) (a ++ x :: b) := by rw [← hab]
    have h3 : flH ps (hlsL l) (x :: b) = flN ps (hlsL l) x ++ flH ps (hlsL l) b := by simp [flH]
    have h4 : flN ps (hlsL l) x = hds (ps.getD k []) := by unfold flN; rw [if_pos ho, hn]
    rw [h2, flH_app, h3, h4]
  rw [he, e1, evH_app, evH_app]
  cases evH bs (some []) (flH ps (hlsL l) a) with
  | none => rw [evH_none, evH_none]
  | some st =>
    rw [evH_part (hok.snd _ (getD_mem hk)) st, if_neg ht, evH_none]
/-- With variables that have the parts' numbers it comes to the same. -/
theorem fl_means {bs own : List Bd} {l X : List Nd} {ps : List (List Nd)} (hok : FlOk l ps) (hX : sndB X = true) (he : hds X = flH ps (hlsL l) l)
    (hv : ∀ k, k < ps.length → evA bs (ps.getD k []) = (getB own ((hlsL l).getD k ⟨#[]⟩), 0)) (hn : ∀ x ∈ l, x.op = 2 → getB own x.name = getB bs x.name) : evA own (l.map fillN) = evA bs X := by
  have hq := patB_snd hok.pat
  have hnum : ∀ x ∈ l, x.op = 18 → (hlsL l).getD (numL (hlsL l) x.name) ⟨#[]⟩ = x.name := fun x hx ho => by
    have key : ∀ ks : List ByteArray, x.name ∈ ks → ks.getD (numL ks x.name) ⟨#[]⟩ = x.name := by
      intro ks
      induction ks with
      | nil => intro h; simp at h
      | cons y ks ih =>
        intro h
        unfold numL
        split
        · rename_i hy; simp [hy]
        · rename_i hy
          rcases List.mem_cons.1 h with e | h
          · exact absurd e.symm hy
          · simpa using ih h
    exact key _ (mem_hls hx ho)
  have key : ∀ i, i ≤ l.length → evH bs (some []) (flH ps (hlsL l) (l.take i)) = evH own (some []) ((hds (l.map fillN)).take i) := by
    intro i
    induction i with
    | zero => intro _; simp [flH, evH]
    | succ i ih =>
      intro hi
      have hil : i < l.length := by omega
      have hxm : l.getD i nd0 ∈ l := getD_mem hil
      rw [flH_take hil, hds_take_succ (by simpa using hil), evH_app, evH_app, ih (by omega), fillN_at hil]
      cases evH own (some []) ((hds (l.map fillN)).take i) with
      | none => rw [evH_none, evH_none]
      | some st =>
        by_cases ho : (l.getD i nd0).op = 18
        · have e1 : flN ps (hlsL l) (l.getD i nd0) = hds (ps.getD (numL (hlsL l) (l.getD i nd0).name) []) := by unfold flN; rw [if_pos ho]
          have hkl : numL (hlsL l) (l.getD i nd0).name < ps.length := by rw [hok.len]; exact hole_lt hxm ho
          rw [e1, evH_part (hok.snd _ (getD_mem hkl)) st, hv _ hkl, if_pos rfl, hnum _ hxm ho, evH_one]
          have e2 : hd (fillN (l.getD i nd0)) = (2, (l.getD i nd0).n, (l.getD i nd0).name) := by unfold fillN hd; rw [if_pos ho]
          rw [e2]; rfl
        · have e1 : flN ps (hlsL l) (l.getD i nd0) = [hd (l.getD i nd0)] := by unfold flN; rw [if_neg ho]
          rw [e1, hd_fill ho, evH_one, evH_one]
          unfold evHd hd
          simp only
          by_cases o1 : (l.getD i nd0).op = 1
          · rw [if_pos o1, if_pos o1]
          rw [if_neg o1, if_neg o1]
          by_cases o2 : (l.getD i nd0).op = 2
          · rw [if_pos o2, if_pos o2, hn _ hxm o2]
          · rw [if_neg o2, if_neg o2]
  have h1 := key l.length (Nat.le_refl _)
  rw [List.take_of_length_le (Nat.le_refl _), List.take_of_length_le (by rw [hds_len]; simp), ← he] at h1
  have h2 := evH_part (bs := own) hq []
  have h3 := evA_hds (bs := bs) hX
  rw [h1, h2] at h3
  obtain ⟨g2, g3, g4, g5 | ⟨v, g5⟩⟩ := evS_evA (bs := own) hq
  · rw [g4 g5] at h3 ⊢
    exact (h3.2 rfl).symm
  · rw [g3 v g5] at h3 ⊢
    exact (h3.1 v rfl).symm
end Go.Proofs.YtfdghbbanokopaaDoor

set_option linter.unusedSimpArgs false
set_option linter.unusedVariables false
namespace Go.Proofs.YtfdghbbanokopaaDoor
open Go.RowKit Go.Lib

theorem Tryd.infoStrO : (Tryd.prog.info? 9).map (fun i => (i.zero, i.size, i.bytes)) = some (some (.string ⟨#[]⟩), 1, 16) := by kernel_rfl
theorem ho_ext {a b : ByteArray} (h : a.data.toList = b.data.toList) : a = b := by
  apply ByteArray.ext
  exact Array.ext' h

structure HoMid (w : World) (v : Value) (hs : List ByteArray) (wr : World) : Prop where
  row : wr.ownsRow w.heap.size 9 1 v hs.length (hs.map Value.string)
  below : Below w.heap.size w wr
/-- Is it known already? -/
def knwO (x : Nd) (hs : List ByteArray) : Bool := decide (x.op ≠ 18) || hs.any (fun y => decide (y = x.name))
theorem addNm_knwO (hs : List ByteArray) (x : Nd) : addNm hs x = if knwO x hs = true then hs else hs ++ [x.name] := by
  unfold addNm knwO
  by_cases h : x.op = 18
  · have e : decide (x.op ≠ 18) = false := by simp [h]
    rw [if_pos h, e, Bool.false_or]
  · have e : decide (x.op ≠ 18) = true := by simp [h]
    rw [if_neg h, e, Bool.true_or, if_pos rfl]
theorem beq_toLisO (a b : ByteArray) : (a.toList == b.toList) = decide (a = b) := by
  rw [toList_data, toList_data]
  by_cases h : a = b
  · subst h; simp
  · have : a.data.toList ≠ b.data.toList := fun e => h (ho_ext e)
    rw [beq_eq_false_iff_ne.2 this]
    simp [h]
theorem any_takO (hs : List ByteArray) (nm : ByteArray) (k : Nat) (hk : k < hs.length) : (hs.take (k + 1)).any (fun y => decide (y = nm)) = ((hs.take k).any (fun y => decide (y = nm)) || decide (hs.getD k ⟨#[]⟩ = nm)) := by
  rw [List.take_succ_eq_append_getElem hk, List.any_append]
  simp [hk]

set_option maxRecDepth 20000 in
set_option maxHeartbeats 4000000 in
theorem refHolesO_any {w : World} {ao : Option Addr} {cap : Nat} {l : List Nd} (hN : Rd w ao cap l) (hlen : l.length * 56 ≤ 140737488355328) :
    Calls Tryd.prog 30 #[.slice ao l.length cap] w fun e w' => ∃ va vc, e = .returned (.slice va (hlsL l).length vc) ∧ HoMid w (.slice va (hlsL l).length vc) (hlsL l) w' := by
  obtain ⟨hb1, hb2⟩ := hN.bound
  unfold maxLen at hb2
  obtain ⟨i0, hi, hz0, hz1, hz2⟩ := info_parts Tryd.infoStrO
  have HN : Hid (Rd w ao cap l) := hN
  have HE : Hid (hlsL (l.take l.length) = hlsL l) := by show _ = _; rw [List.take_length]
  clear hN
  go_enter Tryd.func30, Tryd.ntmps30
  go_wp2_with fail
  go_loopw [3, 4] (fun v i wr => ∃ k : Nat, k ≤ l.length ∧ i = .int .i64 k ∧ HoMid w v (hlsL (l.take k)) wr) (fun _ i _ => l.length - (RowKit.intOf i).toNat)
  case atStart => exact ⟨0, by omega, rfl, by simpa [hlsL] using World.ownsRow_nil _ _ _ _, Below.refl _ _⟩
  case round =>
    obtain ⟨k, hk, rfl, hM⟩ := hrel
    obtain ⟨wa, hwa⟩ : ∃ wa, wa = wr := ⟨_, rfl⟩
    subst hwa
    have hbw := hM.below
    have hsw := hbw.size
    obtain ⟨va, vc, hv⟩ := row_form' hM.row
    subst hv
    by_cases hlt : k < l.length
    · obtain ⟨b, o, kv, rfl, hbk, hna⟩ := Rd.cell (HN.out.below hbw hsw) hlt
      have HX : Hid (hlsL (l.take (k + 1)) = if knwO (l.getD k nd0) (hlsL (l.take k)) = true then hlsL (l.take k) else hlsL (l.take k) ++ [(l.getD k nd0).name]) := by
        show _ = _
        rw [List.take_succ_eq_append_getElem hlt, hlsL_snoc, addNm_knwO]
        simp [hlt]
      have hhl := hlsL_len (l.take k)
      have hhl2 : (hlsL (l.take k)).length ≤ k := by simp at hhl; omega
      clear hhl
      generalize hlsL (l.take k) = hs at *
      obtain ⟨c0, c1, c2, c3, hki⟩ := hna
      generalize hx : l.getD k nd0 = x at *
      obtain ⟨op, n, nm, kids⟩ := x
      simp only at c0 c2 HX
      have HM : Hid (HoMid w (.slice va hs.length vc) hs wa) := hM
      obtain ⟨kw, hkw⟩ : ∃ kw, decide (op ≠ 18) = kw := ⟨_, rfl⟩
      have hkw' : (op != 18) = kw := by rw [← hkw]; by_cases e : op = 18 <;> simp [e]
      have HKW : Hid (decide (op ≠ 18) = kw) := hkw
      clear hM hx hki c1 c3 hkw
      have cell : Hid (∀ j, j < hs.length → ∃ g c, va = some ⟨g, 0, none⟩ ∧ vc = c ∧ g < wa.heap.size ∧ hs.length ≤ c ∧ c ≤ maxLen ∧ wa.cell? ⟨g, j, none⟩ = some (.string (hs.getD j ⟨#[]⟩))) := fun j hj => by
        obtain ⟨g, c, e, h1, h2, h3, h4⟩ := row_cell HM.out.row hj (d := .string ⟨#[]⟩)
        cases e
        refine ⟨g, vc, rfl, rfl, h1, h2, h3, ?_⟩
        rw [h4]; simp [hj]
      go_wp2_with fail
      go_loopw [5, 6] (fun v i wq => ∃ (j : Nat) (q : Bool), j ≤ hs.length ∧ i = .int .i64 j ∧ v = .bool q ∧ Hid (q = (kw || (hs.take j).any (fun y => decide (y = nm)))) ∧ Below wa.heap.size wa wq) (fun _ i _ => hs.length - (RowKit.intOf i).toNat)
      case atStart => exact ⟨0, kw, by omega, rfl, by first | rfl | (rw [hkw'] <;> rfl) | simp [hkw'], by show kw = _; simp, Below.refl _ _⟩
      case round =>
        obtain ⟨j, q, hj, rfl, rfl, hq, hbq⟩ := hrel
        by_cases hjl : j < hs.length
        · obtain ⟨g, c, rfl, rfl, hgl, hg1, hg2, hcj⟩ := cell.out j hjl
          unfold maxLen at hg2
          have e1 := (hbq.cell (p := ⟨g, j, none⟩) hgl).trans hcj
          have e2 := (hbq.cell (p := ⟨b, o + k * 4 + 2, none⟩) hbk).trans c2
          have HQ : Hid (_) := hq
          have HA := any_takO hs nm j hjl
          have HAH : Hid (_) := HA
          have HBQ : Hid (Below wa.heap.size wa wr) := hbq
          generalize hs.getD j ⟨#[]⟩ = y at *
          clear hcj hq HA hbq
          cases q with
          | true =>
            go_wp2_with fail
            go_quiet (fail)
            go_wp2_with fail
            refine ⟨⟨j + 1, true, by omega, by go_num, rfl, ?_, below_drewN' HBQ.out _⟩, by simp [RowKit.intOf]; omega⟩
            show true = _
            rw [HAH.out, ← Bool.or_assoc, ← HQ.out]; rfl
          | false =>
            obtain ⟨ee, hee⟩ : ∃ e, decide (y = nm) = e := ⟨_, rfl⟩
            go_wp2_with fail
            go_quiet (fail)
            go_wp2_with fail
            refine ⟨⟨j + 1, decide (y = nm), by omega, by go_num, ?_, ?_, below_drewN' HBQ.out _⟩, by simp [RowKit.intOf]; omega⟩
            · rw [← beq_toLisO] <;> rfl
            · show decide (y = nm) = _
              rw [HAH.out, ← Bool.or_assoc, ← HQ.out]; rfl
        · have hje : j = hs.length := by omega
          subst hje
          rw [List.take_length] at hq
          have HQ : Hid (q = knwO ⟨op, n, nm, kids⟩ hs) := by show q = _; rw [hq.out, ← HKW.out]; rfl
          have e2 := (hbq.cell (p := ⟨b, o + k * 4 + 2, none⟩) hbk).trans c2
          have HBQ : Hid (Below wa.heap.size wa wr) := hbq
          have HM2 : Hid (HoMid w (.slice va hs.length vc) hs wr) := ⟨ownsRow_below HM.out.row hbq, HM.out.below.trans (hbq.mono HM.out.below.size)⟩
          have hs2 := HM2.out.below.size
          clear hq hbq
          cases q with
          | true =>
            have HE2 : Hid (hlsL (l.take (k + 1)) = hs) := by show _ = _; rw [HX.out, ← HQ.out]; rfl
            go_wp2_with fail
            exact ⟨⟨k + 1, by omega, by go_num, by rw [HE2.out]; exact HM2.out⟩, by simp [RowKit.intOf]; omega⟩
          | false =>
            have HE2 : Hid (hlsL (l.take (k + 1)) = hs ++ [nm]) := by show _ = _; rw [HX.out, ← HQ.out]; rfl
            go_wp2_with (at_builtin; refine wpList_append_lies _ rfl (.tmp 40) (.tmp 46) 33 rfl w.heap.size 9 i0 (.string ⟨#[]⟩) 1 16 Tryd.underlying33 hi hz0 hz1 hz2 rfl (by decide) _ _ _ rfl (HM2.out.row.alloc _) ⟨wr.heap.size, 0, none⟩ 1 1 [.string nm] rfl rfl (cell_news_one _ _ _) (by simp [Value.oneCell']) (by omega) (by unfold maxLen; omega) (by omega) (by simp; omega) _ rfl ?_; intro g6 cap6 w6 hown6 hg6 hat6 hl6)
            refine ⟨⟨k + 1, by omega, by go_num, ?_⟩, by simp [RowKit.intOf]; omega⟩
            rw [HE2.out]
            refine ⟨?_, (HM2.out.below.alloc (by omega) _).grown hg6 (by simp; omega) (fun j hj => (own_block' HM2.out.row j hj).1)⟩
            have e3 : (hs ++ [nm]).length = hs.length + 1 := by simp
            rw [e3, List.map_append]; exact hown6
    · have hke : k = l.length := by omega
      subst hke
      rw [HE.out] at hM ⊢
      have HMe : Hid (HoMid w (.slice va (hlsL l).length vc) (hlsL l) wa) := hM
      clear hM
      go_wp2_with fail
      go_ret
      exact ⟨va, vc, rfl, HMe.out⟩
end Go.Proofs.YtfdghbbanokopaaDoor

set_option linter.unusedSimpArgs false
set_option linter.unusedVariables false
namespace Go.Proofs.YtfdghbbanokopaaDoor
open Go.RowKit Go.Lib

theorem snd_forms {l : List Nd} (h : sndB l = true) : ∀ x ∈ l, formB x = true := by
  obtain ⟨f, hf⟩ := Option.isSome_iff_exists.1 h
  have hok := begOk_of (begL_some hf).2.2.1
  intro x hx
  obtain ⟨k, hk, rfl⟩ := List.getElem_of_mem hx
  have e : l.getD k nd0 = l[k] := by simp [hk]
  rw [← e]
  exact (hok.at_ k hk).1
theorem snd_nms {l : List Nd} (h : sndB l = true) : ∀ x ∈ l, x.name.size ≤ maxLen := fun x hx => by
  have := (form_name (snd_forms h x hx)).2
  unfold maxLen; omega
theorem fit_snd {l : List Nd} (h : sndB l = true) : Fit l := by
  obtain ⟨f, hf⟩ := Option.isSome_iff_exists.1 h
  exact fit_of_snd hf (snd_nms h)

end Go.Proofs.YtfdghbbanokopaaDoor
