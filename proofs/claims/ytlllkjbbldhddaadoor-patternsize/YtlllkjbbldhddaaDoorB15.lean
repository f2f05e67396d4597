/-
  PaFm, BkX, BkR, QTail, ExCurW, ExOrdP, ExOrdW, PaFi.
-/
import Derived.Shelf.Unicode.DecodeSlow
import Derived.Laws.RangeAny
import Derived.Shelf.Unicode.DecodeAny
import Derived.Test.YtlllkjbbldhddaaDoorProg
import Derived.WalkKit
import Derived.Deep.DeepFit
import Derived.Lib.OthersKept
import Derived.Lib.RuneCountTail
import Derived.Deep.AppendLies
import Derived.Deep.OwnRows
import Derived.Laws.AppendOwnNone
import Derived.Deep.QuietTactic
import Derived.BigQuiet
import Derived.Deep.RegionWith
import Derived.Laws.DeepStrings4
import Derived.Lib.MapLaws
import Derived.Sort.Walk0
import Derived.Lib.ItoaNum
import Derived.Maps.OwnSet
import Derived.StringKeys
import Derived.Deep.Slices
import Derived.Below
import Derived.Laws.ResultCell
import Derived.Deep.RegionHeld3
import Derived.Deep.RegionLaw
import Derived.Lib.QuietBelow
import Derived.StillTail
import Derived.Deep.DeepCutAuto
import Derived.Laws.IdiomStrings
import Derived.WalkSmall
import Derived.Test.YtlllkjbbldhddaaDoorB01
import Derived.Test.YtlllkjbbldhddaaDoorB02
import Derived.Test.YtlllkjbbldhddaaDoorB03
import Derived.Test.YtlllkjbbldhddaaDoorB04
import Derived.Test.YtlllkjbbldhddaaDoorB05
import Derived.Test.YtlllkjbbldhddaaDoorB06
import Derived.Test.YtlllkjbbldhddaaDoorB07
import Derived.Test.YtlllkjbbldhddaaDoorB08
import Derived.Test.YtlllkjbbldhddaaDoorB09
import Derived.Test.YtlllkjbbldhddaaDoorB10
import Derived.Test.YtlllkjbbldhddaaDoorB11
import Derived.Test.YtlllkjbbldhddaaDoorB12
import Derived.Test.YtlllkjbbldhddaaDoorB13
import Derived.Test.YtlllkjbbldhddaaDoorB14
set_option linter.unusedSimpArgs false
set_option linter.unusedVariables false
namespace Go.Proofs.YtlllkjbbldhddaaDoor
open Go.RowKit Go.Lib Go.Maps Go.Deep

/-- An answer with a list of nodes of its own. -/
def AnQ (w : World) (X : List Nd) (c : Int) (e : Ending) (w' : World) : Prop := ∃ v, e = .returned (.tuple #[v, .int .i64 c]) ∧ OwnQ w' w.heap.size v X ∧ Below w.heap.size w w'
theorem anQ_nil {w w' : World} {c : Int} {e : Ending} (he : e = .returned (.tuple #[.slice none 0 0, .int .i64 c])) (hb : Below w.heap.size w w') : AnQ w [] c e w' := ⟨_, he, OwnQ_nil _ _, hb⟩

set_option maxRecDepth 20000 in
set_option maxHeartbeats 2000000 in
theorem fill_bad1 {w : World} {ao pa : Option Addr} {cap pc : Nat} {l : List Nd} {ps : List (List Nd)} (hT : SpanCells w) (hN : Rd w ao cap l) (hnm : ∀ x ∈ l, x.name.size ≤ maxLen) (hp : patB l = false) :
    Calls Tryd.prog 37 #[.slice ao l.length cap, .slice pa ps.length pc] w fun e w' => AnQ w [] 1 e w' := by
  have cR := read_bad hT hN hnm hp
  clear hN hT hnm hp
  go_enter Tryd.func37, Tryd.ntmps37
  go_wp2_with (go_at_call 66; refine cR.mono ?_; rintro e w1 ⟨rfl, hb⟩; have HB : Hid (_) := hb; clear hb)
  go_ret2
  exact anQ_nil rfl (HB.out.alloc HB.out.size _)

set_option maxRecDepth 20000 in
set_option maxHeartbeats 2000000 in
theorem fill_bad2 {w : World} {ao pa : Option Addr} {cap pc : Nat} {l : List Nd} {ps : List (List Nd)} (hT : SpanCells w) (hN : Rd w ao cap l) (hnm : ∀ x ∈ l, x.name.size ≤ maxLen) (hp : patB l = true)
    (hL : Lst w w.heap.size (.slice pa ps.length pc) ps) (hs : ps.any (fun l => !sndB l) = true) :
    Calls Tryd.prog 37 #[.slice ao l.length cap, .slice pa ps.length pc] w fun e w' => AnQ w [] 1 e w' := by
  have cR := read_ok hT hN hnm hp
  have CC : Hid (∀ W, Below w.heap.size w W → Calls Tryd.prog 68 #[.slice pa ps.length pc, .func (.func 69) #[] #[] ] W fun e w' => e = .returned (.bool true) ∧ Below W.heap.size W w') := fun W hb => by
    have := contains_any (hT.below hb) (hL.below hb hb.size)
    rw [hs] at this
    exact this
  clear hN hT hnm hp hL hs
  go_enter Tryd.func37, Tryd.ntmps37
  go_wp2_with (go_at_call 66; refine cR.mono ?_; rintro e w1 ⟨va, vc, na, nc, M, rfl, hO, hb⟩; have HB1 : Hid (_) := hb; clear hO hb)
  have hs1 := HB1.out.size
  refine (CC.out _ (HB1.out.alloc hs1 _)).mono ?_
  rintro e w2 ⟨rfl, hb2⟩
  have HB2 : Hid (Below w.heap.size w w2) := (HB1.out.alloc hs1 _).trans (hb2.mono (by simp; omega))
  clear hb2
  go_wp2_with fail
  go_ret2
  exact anQ_nil rfl HB2.out

set_option maxRecDepth 20000 in
set_option maxHeartbeats 2000000 in
theorem fill_arg {w : World} {ao pa : Option Addr} {cap pc : Nat} {l : List Nd} {ps : List (List Nd)} (hT : SpanCells w) (hN : Rd w ao cap l) (hnm : ∀ x ∈ l, x.name.size ≤ maxLen) (hp : patB l = true)
    (hL : Lst w w.heap.size (.slice pa ps.length pc) ps) (hs : ps.any (fun l => !sndB l) = false) (hlen : ps.length ≠ (hlsL l).length) :
    Calls Tryd.prog 37 #[.slice ao l.length cap, .slice pa ps.length pc] w fun e w' => AnQ w [] 2 e w' := by
  have cR := read_ok hT hN hnm hp
  have CC : Hid (∀ W, Below w.heap.size w W → Calls Tryd.prog 68 #[.slice pa ps.length pc, .func (.func 69) #[] #[] ] W fun e w' => e = .returned (.bool false) ∧ Below W.heap.size W w') := fun W hb => by
    have := contains_any (hT.below hb) (hL.below hb hb.size)
    rw [hs] at this
    exact this
  clear hN hT hnm hp hL hs
  generalize (hlsL l).length = m at *
  have hne : ((ps.length : Int) != (m : Int)) = true := by simp; omega
  have hne2 : ¬ ((ps.length : Int) = (m : Int)) := by omega
  go_enter Tryd.func37, Tryd.ntmps37
  go_wp2_with (go_at_call 66; refine cR.mono ?_; rintro e w1 ⟨va, vc, na, nc, M, rfl, hO, hb⟩; have HB1 : Hid (_) := hb; clear hO hb)
  have hs1 := HB1.out.size
  refine (CC.out _ (HB1.out.alloc hs1 _)).mono ?_
  rintro e w2 ⟨rfl, hb2⟩
  have e2 : w2.heap[w1.heap.size]? = some (.cells #[.slice va l.length vc, .slice na m nc, .map (some M)] 93) := (hb2.block w1.heap.size (by simp)).trans (MapKept.heap_alloc w1 _).1
  have c1 : w2.cell? ⟨w1.heap.size, 1, none⟩ = some (.slice na m nc) := by rw [cell_of_heap e2]; rfl
  have HB2 : Hid (Below w.heap.size w w2) := (HB1.out.alloc hs1 _).trans (hb2.mono (by simp; omega))
  clear hb2 e2
  go_wp2_with fail
  go_ret2
  exact anQ_nil rfl HB2.out

/-- What Fill answers beside the list. -/
def flC (l : List Nd) (ps : List (List Nd)) : Int :=
  if patB l = false ∨ ps.any (fun l => !sndB l) = true then 1 else if ps.length ≠ (hlsL l).length then 2 else if 64 < (flH ps (hlsL l) l).length then 10 else 0
structure FlOk (l : List Nd) (ps : List (List Nd)) : Prop where
  pat : patB l = true
  snd : ∀ r ∈ ps, sndB r = true
  len : ps.length = (hlsL l).length
theorem FlOk.pts {l : List Nd} {ps : List (List Nd)} (h : FlOk l ps) : PtsOk ps (hlsL l) l := fun x hx ho => h.snd _ (getD_mem (by rw [h.len]; exact hole_lt hx ho))
theorem flC_ok {l : List Nd} {ps : List (List Nd)} (h : FlOk l ps) : flC l ps = if 64 < (flH ps (hlsL l) l).length then 10 else 0 := by
  unfold flC
  rw [if_neg (by
    rintro (h1 | h1)
    · rw [h.pat] at h1; cases h1
    · obtain ⟨r, hr, h2⟩ := List.any_eq_true.1 h1
      rw [h.snd r hr] at h2; cases h2), if_neg (fun h1 => h1 h.len)]
/-- There is what a small filled pattern tells. -/
theorem fl_ex {l : List Nd} {ps : List (List Nd)} (h : FlOk l ps) (hl : (flH ps (hlsL l) l).length ≤ 64) : ∃ x, sndB x = true ∧ hds x = flH ps (hlsL l) l := by
  have key : ∀ m k, k + m = l.length → ∃ x, FlI l ps (hlsL l) k x := by
    intro m
    induction m with
    | zero =>
      intro k hk
      have : k = l.length := by omega
      subst this
      exact ⟨_, FlI.start ps (hlsL l) (patB_snd h.pat)⟩
    | succ m ih =>
      intro k hk
      obtain ⟨x, hx⟩ := ih (k + 1) (by omega)
      have hkl : k < l.length := by omega
      by_cases ho : (l.getD k nd0).op = 18
      · by_cases hz : x.length + (ps.getD (numL (hlsL l) (l.getD k nd0).name) []).length ≤ 65
        · exact ⟨_, hx.put hkl ho (h.pts _ (getD_mem hkl) ho) hz⟩
        · have := hx.large hkl ho h.pts (by omega); omega
      · exact ⟨x, hx.skip hkl ho⟩
  obtain ⟨x, hx⟩ := key l.length 0 (by omega)
  exact ⟨x, hx.snd, hx.done⟩
/-- Fill, with one answer. -/
theorem fillX (l : List Nd) (ps : List (List Nd)) : ∃ X, (flC l ps = 0 → sndB X = true ∧ hds X = flH ps (hlsL l) l) ∧ (flC l ps ≠ 0 → X = []) ∧ ∀ (W : World) (ao pa : Option Addr) (cap pc : Nat), SpanCells W → Rd W ao cap l → (∀ x ∈ l, x.name.size ≤ maxLen) → Lst W W.heap.size (.slice pa ps.length pc) ps →
    Calls Tryd.prog 37 #[.slice ao l.length cap, .slice pa ps.length pc] W fun e w' => AnQ W X (flC l ps) e w' := by
  cases hp : patB l with
  | false =>
    have hc : flC l ps = 1 := by unfold flC; rw [if_pos (.inl hp)]
    rw [hc]
    exact ⟨[], by simp, by simp, fun W ao pa cap pc hT hN hnm hL => fill_bad1 hT hN hnm hp⟩
  | true =>
    cases hs : ps.any (fun l => !sndB l) with
    | true =>
      have hc : flC l ps = 1 := by unfold flC; rw [if_pos (.inr hs)]
      rw [hc]
      exact ⟨[], by simp, by simp, fun W ao pa cap pc hT hN hnm hL => fill_bad2 hT hN hnm hp hL hs⟩
    | false =>
      by_cases hl : ps.length = (hlsL l).length
      · have hok : FlOk l ps := ⟨hp, any_snd hs, hl⟩
        obtain ⟨n, hn⟩ : ∃ n, l.length = n + 1 := ⟨l.length - 1, by have := (patB_len hp).1; omega⟩
        have cw : ∀ (W : World) (ao pa : Option Addr) (cap pc : Nat), SpanCells W → Rd W ao cap l → (∀ x ∈ l, x.name.size ≤ maxLen) → Lst W W.heap.size (.slice pa ps.length pc) ps → Calls Tryd.prog 37 #[.slice ao l.length cap, .slice pa ps.length pc] W fun e w' => FillP W l ps e w' := fun W ao pa cap pc hT hN hnm hL => by
          rw [hn]; exact fill_walk hn hT hN hnm hL hp hs hl
        by_cases hz : 64 < (flH ps (hlsL l) l).length
        · have hc : flC l ps = 10 := by rw [flC_ok hok, if_pos hz]
          rw [hc]
          refine ⟨[], by simp, by simp, fun W ao pa cap pc hT hN hnm hL => (cw W ao pa cap pc hT hN hnm hL).mono ?_⟩
          rintro e w' ⟨hb, ⟨h1, _⟩ | ⟨_, he⟩⟩
          · omega
          · exact anQ_nil he hb
        · have hc : flC l ps = 0 := by rw [flC_ok hok, if_neg hz]
          rw [hc]
          obtain ⟨X, hX, hXe⟩ := fl_ex hok (by omega)
          refine ⟨X, fun _ => ⟨hX, hXe⟩, by simp, fun W ao pa cap pc hT hN hnm hL => (cw W ao pa cap pc hT hN hnm hL).mono ?_⟩
          rintro e w' ⟨hb, ⟨_, v, x, he, ho, hx, hxe⟩ | ⟨h1, _⟩⟩
          · have : x = X := snd_det hx hX (hxe.trans hXe.symm)
            subst this
            exact ⟨v, he, ho, hb⟩
          · omega
      · have hc : flC l ps = 2 := by
          unfold flC
          rw [if_neg (by rw [hp, hs]; simp), if_pos hl]
        rw [hc]
        exact ⟨[], by simp, by simp, fun W ao pa cap pc hT hN hnm hL => fill_arg hT hN hnm hp hL hs hl⟩
end Go.Proofs.YtlllkjbbldhddaaDoor

set_option linter.unusedSimpArgs false
set_option linter.unusedVariables false
namespace Go.Proofs.YtlllkjbbldhddaaDoor
open Go.RowKit Go.Lib

/-- A row: its value, how many it holds, its cells. -/
abbrev Rw := Value × Nat × List Value
def vA : Value → Option Addr
  | .slice a _ _ => a
  | _ => none
def vC : Value → Nat
  | .slice _ _ c => c
  | _ => 0
def rw0 : Rw := (.slice none 0 0, 0, [])
structure RwL (w : World) (base : Nat) (e : TypeId) (size : Nat) (R : List Rw) : Prop where
  own : ∀ r ∈ R, w.ownsRow base e size r.1 r.2.1 r.2.2
  ap : R.Pairwise fun r s => ∀ b, r.1.ownBlock = some b → s.1.ownBlock ≠ some b
theorem rw_eta {w : World} {base : Nat} {e : TypeId} {size n : Nat} {v : Value} {xs : List Value} (h : w.ownsRow base e size v n xs) : v = .slice (vA v) n (vC v) := by
  obtain ⟨ao, cap, rfl⟩ := rw_form h
  rfl
theorem vA_blk {v : Value} {n c : Nat} (hv : v = .slice (vA v) n c) {a : Addr} (h : vA v = some a) : v.ownBlock = some a.block := by
  rw [hv, h]; rfl
theorem gd_rw {R : List Rw} {k : Nat} (hk : k < R.length) : R.getD k rw0 = R[k] := by simp [hk]
theorem RwL.rows {w : World} {base : Nat} {e eL : TypeId} {size : Nat} {R : List Rw} (h : RwL w base e size R) {B : Nat} {cs : Array Value} {fr : Nat × Nat} (hB : w.heap[B]? = some (.cells cs eL fr)) (hne : e ≠ eL) : RwsAp R.length B (fun k => vA (R.getD k rw0).1) := by
  refine ⟨fun k k' hk hk' hkk a a' ha ha' he => ?_, fun k hk a ha he => ?_⟩
  · simp only [gd_rw hk] at ha
    simp only [gd_rw hk'] at ha'
    have o1 := vA_blk (rw_eta (h.own _ (List.getElem_mem hk))) ha
    have o2 := vA_blk (rw_eta (h.own _ (List.getElem_mem hk'))) ha'
    have hp := List.pairwise_iff_getElem.1 h.ap
    rcases Nat.lt_or_gt_of_ne hkk with hl | hl
    · exact hp k k' hk hk' hl _ o1 (by rw [he]; exact o2)
    · exact hp k' k hk' hk hl _ o2 (by rw [← he]; exact o1)
  · simp only [gd_rw hk] at ha
    have o1 := vA_blk (rw_eta (h.own _ (List.getElem_mem hk))) ha
    obtain ⟨_, _, cap, cur, _, hc, _⟩ := rw_block (h.own _ (List.getElem_mem hk)) o1
    rw [he, hB] at hc
    injection hc with hc
    injection hc with _ hc _
    exact hne hc.symm
/-- A row is not in a block of another type. -/
theorem own_typ {w : World} {base : Nat} {e T : TypeId} {s n : Nat} {v : Value} {xs : List Value} {c : Array Value} {fr : Nat × Nat} {M : Nat} (h : w.ownsRow base e s v n xs) (hb : w.heap[M]? = some (.cells c T fr)) (hne : e ≠ T) : v.ownBlock ≠ some M := fun hv => by
  obtain ⟨_, _, cap, cur, _, hc, _⟩ := rw_block h hv
  rw [hb] at hc
  injection hc with hc
  injection hc with _ hc _
  exact hne hc.symm
theorem RwL.keep {w w' : World} {base : Nat} {e : TypeId} {size : Nat} {R : List Rw} (h : RwL w base e size R) (hk : ∀ r ∈ R, ∀ b, r.1.ownBlock = some b → w'.heap[b]? = w.heap[b]?) : RwL w' base e size R :=
  ⟨fun r hr => rw_same (h.own r hr) (hk r hr), h.ap⟩

end Go.Proofs.YtlllkjbbldhddaaDoor

namespace Go.Proofs.YtlllkjbbldhddaaDoor
open Go.RowKit Go.Lib

/-- What Book.Expr keeps: all but its own memory. -/
def BkK (w w' : World) : Prop := ∀ (b : Nat) (o : Obj), w.heap[b]? = some o → (∀ cs e fr, o = .cells cs e fr → e ≠ 52 ∧ e ≠ 22 ∧ e ≠ 61) → w'.heap[b]? = some o
theorem BkK.refl (w : World) : BkK w w := fun _ _ h _ => h
theorem BkK.trans {a b c : World} (h : BkK a b) (k : BkK b c) : BkK a c := fun n o h1 h2 => k n o (h n o h1 h2) h2
theorem BkK.alloc (w : World) (o : Obj) : BkK w (w.alloc o) := fun b o' h _ => (Deep.blk_alloc_lt _ _ _ (lt_of_block h)).trans h
theorem BkK.row {w w' : World} (h : BkK w w') {base : Nat} {e : TypeId} {s n : Nat} {v : Value} {xs : List Value} (ho : w.ownsRow base e s v n xs) (h1 : e ≠ 52) (h2 : e ≠ 22) (h3 : e ≠ 61) : w'.ownsRow base e s v n xs :=
  rw_same ho fun b hb => by
    obtain ⟨_, _, cap, cur, _, hc, _⟩ := rw_block ho hb
    rw [hc]
    exact h b _ hc fun cs e' fr he => by cases he; exact ⟨h1, h2, h3⟩
end Go.Proofs.YtlllkjbbldhddaaDoor

set_option linter.unusedSimpArgs false
set_option linter.unusedVariables false
namespace Go.Proofs.YtlllkjbbldhddaaDoor
open Go.RowKit Go.Lib

theorem own_low {w : World} {base base' : Nat} {e : TypeId} {s n : Nat} {v : Value} {xs : List Value} (h : w.ownsRow base e s v n xs) (hb : base' ≤ base) : w.ownsRow base' e s v n xs :=
  ⟨h.1, h.2.imp id fun ⟨g, cap, cur, h1, h2, h3⟩ => ⟨g, cap, cur, h1, by omega, h3⟩⟩
/-- The rows of kids. -/
def kR (q : List (Nd × Value)) : List Rw := q.map fun y => (y.2, y.1.kids.length, y.1.kids.map (Value.int .i64))
/-- Rows one after the other. -/
def LiesR (R : List Rw) (lo hi : Nat) : Prop := ∀ r ∈ R, ∀ b, r.1.ownBlock = some b → lo ≤ b ∧ b < hi
theorem RwL.app {w : World} {base : Nat} {e : TypeId} {s : Nat} {R S : List Rw} (h : RwL w base e s R) (k : RwL w base e s S) (hd : ∀ r ∈ R, ∀ t ∈ S, ∀ b, r.1.ownBlock = some b → t.1.ownBlock ≠ some b) : RwL w base e s (R ++ S) :=
  ⟨fun r hr => (List.mem_append.1 hr).elim (h.own r) (k.own r), List.pairwise_append.2 ⟨h.ap, k.ap, hd⟩⟩
theorem lies_apart {R S : List Rw} {a b c d : Nat} (h : LiesR R a b) (k : LiesR S c d) (hbc : b ≤ c ∨ d ≤ a) : ∀ r ∈ R, ∀ t ∈ S, ∀ g, r.1.ownBlock = some g → t.1.ownBlock ≠ some g := fun r hr t ht g h1 h2 => by
  have := h r hr g h1; have := k t ht g h2; omega
theorem RwL.one {w : World} {base : Nat} {e : TypeId} {s : Nat} {r : Rw} (h : w.ownsRow base e s r.1 r.2.1 r.2.2) : RwL w base e s [r] := ⟨fun x hx => by simp at hx; subst hx; exact h, List.pairwise_singleton _ _⟩
theorem RwL.lies {w : World} {base : Nat} {e : TypeId} {s : Nat} {R : List Rw} (h : RwL w base e s R) : LiesR R base w.heap.size := fun r hr b hb => by
  obtain ⟨h1, h2, _⟩ := rw_block (h.own r hr) hb
  exact ⟨h1, h2⟩
theorem RwL.low {w : World} {base base' : Nat} {e : TypeId} {s : Nat} {R : List Rw} (h : RwL w base e s R) (hb : base' ≤ base) : RwL w base' e s R := ⟨fun r hr => own_low (h.own r hr) hb, h.ap⟩
theorem RwL.bel {w w' : World} {base : Nat} {e : TypeId} {s : Nat} {R : List Rw} (h : RwL w base e s R) (hb : Below w.heap.size w w') : RwL w' base e s R := h.keep fun r hr b hv => hb.block b (rw_block (h.own r hr) hv).2.1
theorem LiesR.app {R S : List Rw} {a b : Nat} (h : LiesR R a b) (k : LiesR S a b) : LiesR (R ++ S) a b := fun r hr => (List.mem_append.1 hr).elim (h r) (k r)
theorem LiesR.wide {R : List Rw} {a b a' b' : Nat} (h : LiesR R a b) (h1 : a' ≤ a) (h2 : b ≤ b') : LiesR R a' b' := fun r hr g hg => by have := h r hr g hg; omega
theorem kR_own {w : World} {base : Nat} {v : Value} {q : List (Nd × Value)} (h : OwnP w base v q) (ha : KdAp q) : RwL w base 3 1 (kR q) :=
  ⟨fun r hr => by
    obtain ⟨y, hy, rfl⟩ := List.mem_map.1 hr
    exact h.kids y hy, List.pairwise_map.2 ha⟩
theorem row_below {w w' : World} {base : Nat} {e : TypeId} {s n : Nat} {v : Value} {xs : List Value} (h : w.ownsRow base e s v n xs) (hb : Below w.heap.size w w') : w'.ownsRow base e s v n xs := rw_same h (fun b hv => hb.block b (rw_block h hv).2.1)
/-- Answers: expressions that were made one after the other, from lo to hi. -/
structure Anss (W : World) (lo hi : Nat) (A : List (Value × List (Nd × Value))) : Prop where
  kids : RwL W lo 3 1 (A.flatMap fun a => kR a.2)
  rows : RwL W lo 63 4 (A.map fun a => (a.1, a.2.length, ndCells a.2))
  lk : LiesR (A.flatMap fun a => kR a.2) lo hi
  lr : LiesR (A.map fun a => (a.1, a.2.length, ndCells a.2)) lo hi
  le : lo ≤ hi
theorem Anss.nil (W : World) (z : Nat) : Anss W z z [] := ⟨⟨by simp, List.Pairwise.nil⟩, ⟨by simp, List.Pairwise.nil⟩, (by intro r hr; simp at hr), (by intro r hr; simp at hr), Nat.le_refl _⟩
theorem Anss.below {W W' : World} {lo hi : Nat} {A : List (Value × List (Nd × Value))} (h : Anss W lo hi A) (hb : Below W.heap.size W W') : Anss W' lo hi A :=
  ⟨h.kids.bel hb, h.rows.bel hb, h.lk, h.lr, h.le⟩
theorem Anss.wide {W : World} {lo hi hi' : Nat} {A : List (Value × List (Nd × Value))} (h : Anss W lo hi A) (hb : hi ≤ hi') : Anss W lo hi' A :=
  ⟨h.kids, h.rows, h.lk.wide (Nat.le_refl _) hb, h.lr.wide (Nat.le_refl _) hb, Nat.le_trans h.le hb⟩
theorem Anss.snoc {W : World} {lo hi : Nat} {A : List (Value × List (Nd × Value))} {v : Value} {q : List (Nd × Value)} (h : Anss W lo hi A) (ho : OwnP W hi v q) (ha : KdAp q) (hw : hi ≤ W.heap.size) : Anss W lo W.heap.size (A ++ [(v, q)]) := by
  have k1 := kR_own ho ha
  have r1 : RwL W hi 63 4 [((v, q.length, ndCells q) : Rw)] := RwL.one ho.row
  have e1 : ((A ++ [(v, q)]).flatMap fun a => kR a.2) = (A.flatMap fun a => kR a.2) ++ kR q := by simp
  have e2 : ((A ++ [(v, q)]).map fun a => ((a.1, a.2.length, ndCells a.2) : Rw)) = (A.map fun a => (a.1, a.2.length, ndCells a.2)) ++ [(v, q.length, ndCells q)] := by simp
  refine ⟨?_, ?_, ?_, ?_, Nat.le_trans h.le hw⟩
  · rw [e1]; exact h.kids.app (k1.low h.le) (lies_apart h.lk k1.lies (.inl (Nat.le_refl _)))
  · rw [e2]; exact h.rows.app (r1.low h.le) (lies_apart h.lr r1.lies (.inl (Nat.le_refl _)))
  · rw [e1]; exact (h.lk.wide (Nat.le_refl _) hw).app (k1.lies.wide h.le (Nat.le_refl _))
  · rw [e2]; exact (h.lr.wide (Nat.le_refl _) hw).app (r1.lies.wide h.le (Nat.le_refl _))
end Go.Proofs.YtlllkjbbldhddaaDoor

namespace Go.Proofs.YtlllkjbbldhddaaDoor
open Go Go.Sort Go.RowKit

section
variable {P : Program} {ops : Array Oper} {md : Region.Mode} {C : World → Prop}

/-- f operations of the first n are still to come, each quiet in the class; behind them L. -/
def QHead (P : Program) (md : Region.Mode) (ops : Array Oper) (C : World → Prop) (n : Nat) (L : Array Bool → Act → Prop) : Nat → Array Bool → Act → Prop
  | 0, ls, a => L ls a
  | f + 1, ls, a => Region.ready md ops ls ≠ [] ∧ ∀ i ∈ Region.ready md ops ls, i < n ∧ qOp P ops C i (QHead P md ops C n L f (ls.setIfInBounds i true)) a

theorem QHead.any {n g : Nat} {L : Array Bool → Act → Prop} {Q : Exit → Act → World → Prop} (hL : ∀ ls a w, C w → L ls a → wpAny P md ops Q g ls a w) : ∀ (f : Nat) (ls : Array Bool) (a : Act) (w : World), C w → QHead P md ops C n L f ls a → wpAny P md ops Q (f + g) ls a w := by
  intro f
  induction f with
  | zero => intro ls a w hw h; rw [Nat.zero_add]; exact hL _ _ _ hw h
  | succ f ih =>
    intro ls a w hw h
    have e : f + 1 + g = (f + g) + 1 := by omega
    rw [e]
    exact ⟨fun h0 => absurd h0 h.1, fun i hi => wpOp_of_qOp hw (fun a' w' hw' h' => ih _ a' w' hw' h') (h.2 i hi).2⟩

/-- One that is ready, and apart from all that don't wait for it, may come first. -/
theorem QHead.first {n i : Nat} {oi : Oper} {v : Value} {L : Array Bool → Act → Prop} (hi : ops[i]? = some oi) (hsel : ∀ (j : Nat) (o : Oper) cs b, ops[j]? = some o → o.op ≠ .select cs b)
    (hs : Region.sinkB md ops n = true) (hc : Region.chainB md ops n = true) (hn : n < ops.size) (hin : i < n) (hdone : ∀ ls a, L ls a → ∀ j ∈ Region.ready md ops ls, n ≤ j) :
    ∀ (f : Nat) (ls : Array Bool) (a : Act), HeadInv md ops n ls →
      (∀ j oj, ops[j]? = some oj → j ≠ i → ls.getD j true = false → (∀ e ∈ oj.after, Region.binds md e = true → e.on ≠ i) → oi.apart ops oj = true) →
      i ∈ Region.ready md ops ls → YieldsIn P ops C oi v a → QHead P md ops C n L f (ls.setIfInBounds i true) (a.put oi.dst v) → QHead P md ops C n L (f + 1) ls a := by
  intro f
  induction f with
  | zero =>
    intro ls a inv _ hr hy H
    have hun := (mem_ready.1 hr).1
    constructor
    · intro h; rw [h] at hr; cases hr
    · intro j hj
      have hjn : j < n := Nat.lt_of_not_le fun h => tail_waits hs hc hn inv _ i rfl hin hun j h hj
      refine ⟨hjn, ?_⟩
      by_cases hji : j = i
      · subst hji; exact hy.qOp hi H
      · have := hdone _ _ H j (ready_mono hj hji); omega
  | succ f ih =>
    intro ls a inv hfree hr hy H
    have hun := (mem_ready.1 hr).1
    constructor
    · intro h; rw [h] at hr; cases hr
    · intro j hj
      have hjn : j < n := Nat.lt_of_not_le fun h => tail_waits hs hc hn inv _ i rfl hin hun j h hj
      refine ⟨hjn, ?_⟩
      by_cases hji : j = i
      · subst hji; exact hy.qOp hi H
      · obtain ⟨hjun, oj, hoj, hall⟩ := mem_ready.1 hj
        have hnot : ∀ e ∈ oj.after, Region.binds md e = true → e.on ≠ i := fun e he hb heq => by
          have h1 := hall e he hb
          rw [heq, getD_both hun] at h1
          cases h1
        have h2 := qOp_put hoj (hfree j oj hoj hji hjun hnot) (fun cs b => hsel i oi cs b hi) (fun cs b => hsel j oj cs b hoj) hy (H.2 j (ready_mono hj hji)).2
        have hfree' : ∀ k ok, ops[k]? = some ok → k ≠ i → (ls.setIfInBounds j true).getD k true = false → (∀ e ∈ ok.after, Region.binds md e = true → e.on ≠ i) → oi.apart ops ok = true := fun k ok hk hki hu hno => by
          refine hfree k ok hk hki ?_ hno
          by_cases hjk : j = k
          · subst hjk; exact hjun
          · rw [getD_set_ne true hjk] at hu; exact hu
        refine qOp_mono (fun a' h3 => ih (ls.setIfInBounds j true) a' (inv.set hj hjn) hfree' (ready_mono hr (Ne.symm hji)) h3.1 ?_) h2
        rw [Array.setIfInBounds_comm _ _ hji]
        exact h3.2

end

end Go.Proofs.YtlllkjbbldhddaaDoor

set_option linter.unusedSimpArgs false
set_option linter.unusedVariables false
namespace Go.Proofs.YtlllkjbbldhddaaDoor
open Go.RowKit Go.Lib

/-- The first that is not 0. -/
def orL : List Int → Int
  | [] => 0
  | x :: l => if x = 0 then orL l else x

/-- The cell of a place's beginning. -/
def FrAt (w : World) (g : Nat) (n : Nat) (fr : List Nat) : Prop := ∀ j, j < n → w.cell? ⟨g, j, none⟩ = some (.int .i64 (fr.getD j 0 : Nat))

end Go.Proofs.YtlllkjbbldhddaaDoor

set_option linter.unusedSimpArgs false
set_option linter.unusedVariables false
namespace Go.Proofs.YtlllkjbbldhddaaDoor
open Go.RowKit Go.Lib

def heads (x y : Nd) : Int := orL [cmp3 x.op y.op, cmp3 x.n y.n, ordI x.name y.name]
end Go.Proofs.YtlllkjbbldhddaaDoor

set_option linter.unusedSimpArgs false
set_option linter.unusedVariables false
namespace Go.Proofs.YtlllkjbbldhddaaDoor
open Go.RowKit Go.Lib Go.Sort

/-- A sound list and its beginnings in memory. -/
structure CurOk (W : World) (b o cap g : Nat) (l : List Nd) (fr : List Nat) : Prop where
  nodes : ∀ q, q < l.length → ∃ kv, NodeAt W W.heap.size b (o + q * 4) (l.getD q nd0) kv
  lt : b < W.heap.size
  cells : FrAt W g l.length fr
  glt : g < W.heap.size
  ok : BegOk l fr
  len : l.length ≤ 64

theorem CurOk.below {W W' : World} {b o cap g : Nat} {l : List Nd} {fr : List Nat} (h : CurOk W b o cap g l fr) (hb : Below W.heap.size W W') : CurOk W' b o cap g l fr :=
  ⟨fun q hq => let ⟨kv, hk⟩ := h.nodes q hq; ⟨kv, hk.below hb hb.size h.lt⟩, Nat.lt_of_lt_of_le h.lt hb.size, fun j hj => (hb.cell (p := ⟨g, j, none⟩) h.glt).trans (h.cells j hj), Nat.lt_of_lt_of_le h.glt hb.size, h.ok, h.len⟩

end Go.Proofs.YtlllkjbbldhddaaDoor

set_option linter.unusedSimpArgs false
set_option linter.unusedVariables false
namespace Go.Proofs.YtlllkjbbldhddaaDoor
open Go.RowKit Go.Lib Go.Maps Go.Deep

abbrev Pz := Value × List (Nd × Value)
def rwA (A : List Pz) : List Rw := A.map fun a => (a.1, a.2.length, ndCells a.2)
def kdA (A : List Pz) : List Rw := A.flatMap fun a => kR a.2
theorem rwl_perm {w : World} {base : Nat} {e : TypeId} {s : Nat} {R R' : List Rw} (h : RwL w base e s R) (hp : R.Perm R') : RwL w base e s R' :=
  ⟨fun r hr => h.own r (hp.mem_iff.2 hr), (List.Perm.pairwise_iff (fun {x y} hxy b h1 h2 => hxy b h2 h1) hp).1 h.ap⟩
theorem rwl_sub {w : World} {base : Nat} {e : TypeId} {s : Nat} {R R' : List Rw} (h : RwL w base e s R) (hp : R'.Sublist R) : RwL w base e s R' :=
  ⟨fun r hr => h.own r (hp.subset hr), h.ap.sublist hp⟩
theorem set_perm {α : Type} : ∀ (A : List α) (n : Nat) (a : α), n < A.length → (A.set n a).Perm (a :: A.eraseIdx n)
  | x :: A, 0, a, _ => List.Perm.refl _
  | x :: A, n + 1, a, h => by
    simp only [List.set_cons_succ, List.eraseIdx_cons_succ]
    exact (List.Perm.cons x (set_perm A n a (by simpa using h))).trans (List.Perm.swap a x _)
theorem sub_flat {α β : Type} (f : α → List β) {l m : List α} (h : l.Sublist m) : (l.flatMap f).Sublist (m.flatMap f) := by
  induction h with
  | slnil => exact List.Sublist.refl _
  | cons a _ ih => simp only [List.flatMap_cons]; exact ih.trans (List.sublist_append_right _ _)
  | cons_cons a _ ih => simp only [List.flatMap_cons]; exact (List.Sublist.refl _).append ih
/-- The parts in memory: the row v, its slices, their nodes and the nodes' kids; no two of them are one. -/
structure PtM (w : World) (base : Nat) (v : Value) (A : List Pz) : Prop where
  row : w.ownsRow base 22 1 v A.length (A.map (·.1))
  rows : RwL w base 63 4 (rwA A)
  kids : RwL w base 3 1 (kdA A)
  nils : ∀ a ∈ A, a.2 = [] → a.1 = .slice none 0 0
theorem PtM.below {w w' : World} {base : Nat} {v : Value} {A : List Pz} (h : PtM w base v A) (hb : Below w.heap.size w w') : PtM w' base v A :=
  ⟨row_below h.row hb, h.rows.bel hb, h.kids.bel hb, h.nils⟩
theorem PtM.mono {w : World} {base base' : Nat} {v : Value} {A : List Pz} (h : PtM w base v A) (hb : base' ≤ base) : PtM w base' v A :=
  ⟨own_low h.row hb, h.rows.low hb, h.kids.low hb, h.nils⟩
theorem PtM.made {w : World} {base : Nat} {v : Value} (n : Nat) (h : w.ownsRow base 22 1 v n (List.replicate n (.slice none 0 0))) : PtM w base v (List.replicate n (.slice none 0 0, [])) := by
  have e1 : kdA (List.replicate n ((.slice none 0 0, []) : Pz)) = [] := by
    unfold kdA kR
    induction n with
    | zero => rfl
    | succ n ih => simp [List.replicate_succ]
  refine ⟨by simpa using h, ⟨fun r hr => ?_, ?_⟩, by rw [e1]; exact ⟨by simp, List.Pairwise.nil⟩, fun a ha _ => by rw [(List.mem_replicate.1 ha).2]⟩
  · unfold rwA at hr
    obtain ⟨a, ha, rfl⟩ := List.mem_map.1 hr
    rw [(List.mem_replicate.1 ha).2]
    exact World.ownsRow_nil _ _ _ _
  · unfold rwA
    rw [List.map_replicate]
    exact List.pairwise_replicate.2 (.inr fun b h1 => by simp [Value.ownBlock] at h1)
/-- One more part, of new memory, is put. -/
theorem PtM.set {w w' : World} {base n : Nat} {P cap N : Nat} {A : List Pz} {pv : Value} {q : List (Nd × Value)} (h : PtM w base (.slice (some ⟨P, 0, none⟩) N cap) A) (hb : Below w.heap.size w w') (hbase : base ≤ w.heap.size) (ho : OwnP w' w.heap.size pv q) (hk : KdAp q) (hq : q ≠ []) (hn : n < A.length) :
    PtM (w'.setCell ⟨P, n, none⟩ pv) base (.slice (some ⟨P, 0, none⟩) N cap) (A.set n (pv, q)) := by
  have h' := h.below hb
  have hPb : ∃ cs, w'.heap[P]? = some (.cells cs 22) := by
    obtain ⟨_, _, cap', cur, _, hc, _⟩ := rw_block h'.row (b := P) rfl
    exact ⟨cur, hc⟩
  obtain ⟨cs, hP⟩ := hPb
  have hN : N = A.length := by
    obtain ⟨ao, cap', he⟩ := rw_form h.row
    cases he; rfl
  have stay : ∀ {e : TypeId} {s : Nat} {R : List Rw}, RwL w' base e s R → e ≠ 22 → RwL (w'.setCell ⟨P, n, none⟩ pv) base e s R := fun {e s R} hr hne => hr.keep fun r hrr b hv => Deep.blk_setCell_other _ _ _ _ (by
    show b ≠ P
    rintro rfl
    exact own_typ (hr.own r hrr) hP hne hv)
  have k1 := (kR_own ho hk)
  have r1 : RwL w' w.heap.size 63 4 [((pv, q.length, ndCells q) : Rw)] := RwL.one ho.row
  refine ⟨?_, stay ?_ (by decide), stay ?_ (by decide), fun a ha ha0 => ?_⟩
  · subst hN
    rw [List.map_set, List.length_set]
    exact own_put h'.row (by simpa using hn)
  · have hp := (set_perm A n (pv, q) hn).map fun a : Pz => ((a.1, a.2.length, ndCells a.2) : Rw)
    refine rwl_perm (R := rwA ((pv, q) :: A.eraseIdx n)) ?_ hp.symm
    have hs : RwL w' base 63 4 (rwA (A.eraseIdx n)) := rwl_sub h'.rows ((List.eraseIdx_sublist A n).map _)
    have hl : LiesR (rwA (A.eraseIdx n)) base w.heap.size := (rwl_sub h.rows ((List.eraseIdx_sublist A n).map _)).lies
    exact (r1.low hbase).app hs (lies_apart r1.lies hl (.inr (Nat.le_refl _)))
  · have hp := (set_perm A n (pv, q) hn).flatMap_right (f := fun a : Pz => kR a.2)
    refine rwl_perm (R := kdA ((pv, q) :: A.eraseIdx n)) ?_ hp.symm
    have hs : RwL w' base 3 1 (kdA (A.eraseIdx n)) := rwl_sub h'.kids (sub_flat _ (List.eraseIdx_sublist A n))
    have hl : LiesR (kdA (A.eraseIdx n)) base w.heap.size := (rwl_sub h.kids (sub_flat _ (List.eraseIdx_sublist A n))).lies
    have e1 : kdA ((pv, q) :: A.eraseIdx n) = kR q ++ kdA (A.eraseIdx n) := by simp [kdA]
    rw [e1]
    exact (k1.low hbase).app hs (lies_apart k1.lies hl (.inr (Nat.le_refl _)))
  · rcases List.mem_or_eq_of_mem_set ha with ha | rfl
    · exact h.nils a ha ha0
    · exact absurd ha0 hq
end Go.Proofs.YtlllkjbbldhddaaDoor
