/-
  MaK, ShPure, StrMem.
-/
import Derived.Shelf.Unicode.DecodeSlow
import Derived.Laws.RangeAny
import Derived.Shelf.Strconv.Itoa0
import Derived.Shelf.Unicode.DecodeAny
import Derived.Test.YtjkcbigmebbkkaaDoorProg
import Derived.WalkKit
import Derived.Deep.DeepFit
import Derived.Lib.OthersKept
import Derived.Lib.RuneCountTail
import Derived.Deep.AppendLies
import Derived.Deep.OwnRows
import Derived.Laws.AppendOwnNone
import Derived.Deep.QuietTactic
import Derived.BigQuiet
import Derived.Deep.RegionWith
import Derived.Laws.DeepStrings4
import Derived.Laws.CopyOwn
import Derived.Laws.MakeOwn
import Derived.Deep.RegionLaw
import Derived.Below
import Derived.Deep.RegionHeld3
import Derived.Lib.QuietBelow
import Derived.StillTail
import Derived.Lib.MapLaws
import Derived.Sort.Walk0
import Derived.Lib.ItoaNum
import Derived.Test.YtjkcbigmebbkkaaDoorY01
import Derived.Test.YtjkcbigmebbkkaaDoorY02
import Derived.Test.YtjkcbigmebbkkaaDoorY03
import Derived.Test.YtjkcbigmebbkkaaDoorY04
import Derived.Test.YtjkcbigmebbkkaaDoorY05
import Derived.Test.YtjkcbigmebbkkaaDoorY06
import Derived.Test.YtjkcbigmebbkkaaDoorY07
import Derived.Test.YtjkcbigmebbkkaaDoorY08
import Derived.Test.YtjkcbigmebbkkaaDoorY09
import Derived.Test.YtjkcbigmebbkkaaDoorY10
import Derived.Test.YtjkcbigmebbkkaaDoorY11
import Derived.Test.YtjkcbigmebbkkaaDoorY12
set_option linter.unusedSimpArgs false
set_option linter.unusedVariables false
namespace Go.Proofs.YtjkcbigmebbkkaaDoor
open Go.RowKit Go.Lib Go.Sort

theorem command_any {w : World} {base R : Nat} {g : Rg} {sv lv hv : Value} {q : List Lk} (hT : SpanCells w) (h : RdG w base R g sv lv hv q) (c : Cm) (hr : hasG g c.r = true) (hS : g.slots.length ≤ 1000) (hq : q.length ≤ 1000) :
    Calls Tryd.prog 86 #[.pointer (some ⟨R, 0, none⟩), cmV c] w fun e w' => CmdP w base R (cmdG g c) e w' := by
  by_cases h1 : c.kind = 1
  · exact command_class hT h c h1 hr hS hq
  by_cases h2 : c.kind = 2
  · exact command_same h c h2 hr
  by_cases h3 : c.kind = 3
  · exact command_take h c h3 hr
  · exact command_none h c h1 h2 h3
/-- How long what is read may be. -/
structure RgB (g : Rg) (k : Nat) : Prop where
  slots : g.slots.length ≤ 1 + 3 * k
  looks : g.looks.length ≤ k
theorem RgB.step {g g' : Rg} {k : Nat} {c : Cm} (h : RgB g k) (hs : rgS g c = some g') : RgB g' (k + 1) := by
  obtain ⟨h1, h2⟩ := h
  unfold rgS at hs
  split at hs
  · unfold cmdG at hs
    split at hs
    · split at hs
      · cases hs
        have hk : (arK c.op).toNat ≤ 3 := by unfold arK; have := aritI_le c.op; omega
        exact ⟨by simp [lookG, upL_len]; omega, by simp [lookG]; omega⟩
      · cases hs
    · split at hs
      · split at hs
        · cases hs
          exact ⟨by simp [joinG, chg_len]; omega, by simp [joinG]; omega⟩
        · cases hs
      · split at hs
        · split at hs
          · cases hs
            exact ⟨by simp [takeG]; omega, by simp [takeG]; omega⟩
          · cases hs
        · cases hs
  · cases hs
/-- What read says. -/
def RgP (w : World) (o : Option Rg) (e : Ending) (w' : World) : Prop :=
  Below w.heap.size w w' ∧ ((o = none ∧ e = .returned (.tuple #[.agg #[.slice none 0 0, .slice none 0 0, .slice none 0 0], .int .i64 1])) ∨ (∃ g sv lv hv q R, o = some g ∧ e = .returned (.tuple #[.agg #[sv, lv, hv], .int .i64 0]) ∧ RdG w' w.heap.size R g sv lv hv q))

theorem set3M {w : World} {b : Nat} {cs : Array Value} {T : TypeId} {x y z : Value} (h : w.heap[b]? = some (.cells cs T (0, 0))) (hc : cs.size = 3) : (((w.setCell ⟨b, 0, none⟩ x).setCell ⟨b, 1, none⟩ y).setCell ⟨b, 2, none⟩ z).heap[b]? = some (.cells #[x, y, z] T (0, 0)) := by
  have h1 := heap_setCell_same w b 0 _ T x h
  have h2 := heap_setCell_same _ b 1 _ T y h1
  have h3 := heap_setCell_same _ b 2 _ T z h2
  obtain ⟨l⟩ := cs
  match l, hc with
  | [a, b, c], _ => simpa using h3
/-- Between two commands. -/
def RdI (w : World) (l : List Cm) (h : Nat) (R : Nat) (k : Nat) (wr : World) : Prop :=
  ∃ g sv lv hv q, rgL (rg0 h) (l.take k) = some g ∧ RgB g k ∧ RdG wr (w.heap.size + 1) R g sv lv hv q ∧ Below (w.heap.size + 1) (w.alloc (.cells #[.slice none 0 0, .slice none 0 0, .slice none 0 0] 105)) wr
set_option maxRecDepth 20000 in
set_option maxHeartbeats 4000000 in
theorem mread_bad {w : World} {ao : Option Addr} {cap : Nat} {l : List Cm} (hl : l.length ≤ cap ∧ cap ≤ maxLen) (h : Int) (hb : ¬ (0 ≤ h ∧ h ≤ 6 ∧ l.length ≤ 64)) :
    Calls Tryd.prog 63 #[.slice ao l.length cap, .int .i64 h] w fun e w' => RgP w (rgA l h) e w' := by
  have HO : Hid (rgA l h = none) := by show _ = _; unfold rgA; rw [if_neg hb]
  generalize rgA l h = o at *
  obtain ⟨h1, h2⟩ := hl
  unfold maxLen at h2
  have hr0 : (w.alloc (.cells #[.slice none 0 0, .slice none 0 0, .slice none 0 0] 105)).heap[w.heap.size]? = some (.cells #[.slice none 0 0, .slice none 0 0, .slice none 0 0] 105 (0, 0)) := (MapKept.heap_alloc w _).1
  have HB0 : Hid (Below w.heap.size w (w.alloc (.cells #[.slice none 0 0, .slice none 0 0, .slice none 0 0] 105))) := (Below.refl _ _).alloc (Nat.le_refl _) _
  have HR0 : Hid (_) := hr0
  clear hr0
  have key : ∀ (h : Int), ¬ (0 ≤ h ∧ h ≤ 6 ∧ l.length ≤ 64) → Calls Tryd.prog 63 #[.slice ao l.length cap, .int .i64 h] w fun e w' => RgP w o e w' := by
    intro h hb
    go_enter Tryd.func63, Tryd.ntmps63
    go_wp2_with fail
    all_goals (first | (exfalso; omega) | skip)
    all_goals
      refine bodyPost_ret (v := .tuple #[.agg #[.slice none 0 0, .slice none 0 0, .slice none 0 0], .int .i64 1]) ?_ rfl ⟨HB0.out, .inl ⟨HO.out, rfl⟩⟩
      rw [results_cell_tmp rfl]
      have hr1 := HR0.out
      clear HR0 HB0
      generalize w.alloc (.cells #[.slice none 0 0, .slice none 0 0, .slice none 0 0] 105) = W at hr1 ⊢
      simp [go_sem, World.cell?, hr1]
  exact key h hb

theorem RdG.mono {w : World} {base base' R : Nat} {g : Rg} {sv lv hv : Value} {q : List Lk} (h : RdG w base R g sv lv hv q) (hb : base' ≤ base) : RdG w base' R g sv lv hv q :=
  ⟨h.blk, by have := h.leR; omega, h.lk, ownsRow_mono h.row hb, ⟨fun r hr => ownsRow_mono (h.rows.own r hr) hb, h.rows.ap⟩⟩
theorem RdG.setOther {w : World} {base R p o : Nat} {u : Value} {g : Rg} {sv lv hv : Value} {q : List Lk} (h : RdG w base R g sv lv hv q) (hp : p < base) : RdG (w.setCell ⟨p, o, none⟩ u) base R g sv lv hv q := by
  have hR := h.leR
  refine ⟨?_, h.leR, h.lk, own_set' h.row (fun e => by have := (own_lt h.row e).1; omega), h.rows.kept (grown_set _ _ _ _) fun r hr b hb e => ?_⟩
  · rw [Deep.blk_setCell_other _ _ _ _ (by show R ≠ p; omega)]; exact h.blk
  · have := (own_lt (h.rows.own r hr) hb).1
    injection e with e; omega
theorem own_rep {w : World} {base g n : Nat} {z : Int} (hg : w.heap[g]? = some (.cells (List.replicate n (.int .i64 z)).toArray 3 (0, 0))) (hb : base ≤ g) (hn : n ≤ 1000) : OwnI w base (.slice (some ⟨g, 0, none⟩) n n) (List.replicate n z) := by
  unfold OwnI
  rw [List.length_replicate]
  refine ⟨by simp, .inr ⟨g, n, (List.replicate n (.int .i64 z)).toArray, rfl, hb, hg, Nat.le_refl _, by unfold maxLen; omega, by simp, ?_⟩⟩
  simp
theorem rd_start {w0 wh : World} {base g sb n : Nat} (hb : base ≤ w0.heap.size) (hg : wh.heap[g]? = some (.cells (List.replicate n (.int .i64 (-1))).toArray 3 (0, 0))) (hbg : base ≤ g) (hn : n ≤ 6) (hs : wh.heap[sb]? = some (.cells #[.int .i64 0] 3 (0, 0))) (hbs : base ≤ sb) (hne : sb ≠ g) (hw : base ≤ wh.heap.size) :
    RdG (wh.alloc (.cells #[.slice (some ⟨sb, 0, none⟩) 1 1, .slice none 0 0, .slice (some ⟨g, 0, none⟩) n n] 105)) base wh.heap.size (rg0 n) (.slice (some ⟨sb, 0, none⟩) 1 1) (.slice none 0 0) (.slice (some ⟨g, 0, none⟩) n n) [] := by
  have hbA : Below wh.heap.size wh (wh.alloc (.cells #[.slice (some ⟨sb, 0, none⟩) 1 1, .slice none 0 0, .slice (some ⟨g, 0, none⟩) n n] 105)) := (Below.refl _ _).alloc (Nat.le_refl _) _
  have hg' := (hbA.block g (lt_of_block hg)).trans hg
  have hs' := (hbA.block sb (lt_of_block hs)).trans hs
  have o1 : OwnI (wh.alloc (.cells #[.slice (some ⟨sb, 0, none⟩) 1 1, .slice none 0 0, .slice (some ⟨g, 0, none⟩) n n] 105)) base (.slice (some ⟨sb, 0, none⟩) 1 1) [0] := own_rep (n := 1) (z := 0) hs' hbs (by omega)
  have o2 := own_rep hg' hbg (by omega)
  refine ⟨(MapKept.heap_alloc wh _).1, hw, rfl, World.ownsRow_nil _ _ _ _, ⟨fun r hr => ?_, ?_⟩⟩
  · simp only [lkRows, List.map_nil, List.mem_cons, List.not_mem_nil, or_false] at hr
    rcases hr with rfl | rfl
    · exact o1
    · exact o2
  · simp only [lkRows, List.map_nil, rg0]
    refine List.pairwise_cons.2 ⟨fun s hs b hb => ?_, List.pairwise_singleton _ _⟩
    simp only [List.mem_singleton] at hs
    subst hs
    simp [Value.ownBlock] at hb ⊢
    omega

set_option maxRecDepth 20000 in
set_option maxHeartbeats 4000000 in
theorem mread_ok {w : World} {ao : Option Addr} {cap : Nat} {l : List Cm} (hT : SpanCells w) (hC : Cms w ao cap l) (n : Nat) (hn : n ≤ 6) (hl : l.length ≤ 64) :
    Calls Tryd.prog 63 #[.slice ao l.length cap, .int .i64 (n : Int)] w fun e w' => RgP w (rgA l (n : Int)) e w' := by
  have HON : Hid (rgL (rg0 n) l = none → rgA l (n : Int) = none) := fun h => by
    unfold rgA
    rw [if_pos ⟨by omega, by omega, hl⟩, Int.toNat_natCast, h]
  have HOS : Hid (∀ g, rgL (rg0 n) l = some g → rgA l (n : Int) = if (-1 : Int) ∈ g.holes then none else some g) := fun g h => by
    unfold rgA
    rw [if_pos ⟨by omega, by omega, hl⟩, Int.toNat_natCast, h]
    simp
  generalize rgA l (n : Int) = o at *
  have hr0 : (w.alloc (.cells #[.slice none 0 0, .slice none 0 0, .slice none 0 0] 105)).heap[w.heap.size]? = some (.cells #[.slice none 0 0, .slice none 0 0, .slice none 0 0] 105 (0, 0)) := (MapKept.heap_alloc w _).1
  have hb0 : Below w.heap.size w (w.alloc (.cells #[.slice none 0 0, .slice none 0 0, .slice none 0 0] 105)) := (Below.refl _ _).alloc (Nat.le_refl _) _
  have hs0 : (w.alloc (.cells #[.slice none 0 0, .slice none 0 0, .slice none 0 0] 105)).heap.size = w.heap.size + 1 := by simp
  obtain ⟨w0, hw0⟩ : ∃ w0, w.alloc (.cells #[.slice none 0 0, .slice none 0 0, .slice none 0 0] 105) = w0 := ⟨_, rfl⟩
  have HW0 : Hid (_) := hw0
  rw [hw0] at hr0 hb0 hs0
  have hb1 : Below w0.heap.size w0 (w0.alloc (.cells #[.int .i64 0] 3)) := (Below.refl _ _).alloc (Nat.le_refl _) _
  have hb2 : Below w0.heap.size w0 ((w0.alloc (.cells #[.int .i64 0] 3)).alloc (.cells #[.int .i64 (-1)] 3)) := hb1.alloc hb1.size _
  have hk1 : ((w0.alloc (.cells #[.int .i64 0] 3)).alloc (.cells #[.int .i64 (-1)] 3)).heap[w0.heap.size]? = some (.cells #[.int .i64 0] 3 (0, 0)) := by
    rw [alloc_old _ _ _ (by simp)]; exact (MapKept.heap_alloc w0 _).1
  have hk2 : ((w0.alloc (.cells #[.int .i64 0] 3)).alloc (.cells #[.int .i64 (-1)] 3)).heap[w0.heap.size + 1]? = some (.cells #[.int .i64 (-1)] 3 (0, 0)) := by
    have := (MapKept.heap_alloc (w0.alloc (.cells #[.int .i64 0] 3)) (.cells #[.int .i64 (-1)] 3)).1
    simpa using this
  have hs2 : ((w0.alloc (.cells #[.int .i64 0] 3)).alloc (.cells #[.int .i64 (-1)] 3)).heap.size = w0.heap.size + 2 := by simp
  obtain ⟨w2, hw2⟩ : ∃ w2, (w0.alloc (.cells #[.int .i64 0] 3)).alloc (.cells #[.int .i64 (-1)] 3) = w2 := ⟨_, rfl⟩
  rw [hw2] at hb2 hk1 hk2 hs2
  have cR := repeat_int (w := w2) (b := w0.heap.size + 1) (o := 0) (z := .int .i64 (-1)) (by rw [cell_of_heap hk2]; rfl) rfl n hn
  have HST : Hid (∀ (wh : World) (g : Nat), Below w2.heap.size w2 wh → w2.heap.size ≤ g → wh.heap[g]? = some (.cells (List.replicate n (.int .i64 (-1))).toArray 3 (0, 0)) → RdI w l n wh.heap.size 0 (wh.alloc (.cells #[.slice (some ⟨w0.heap.size, 0, none⟩) 1 1, .slice none 0 0, .slice (some ⟨g, 0, none⟩) n n] 105))) := by
    intro wh g hb hg hblk
    have hsz := hb.size
    refine ⟨rg0 n, _, _, _, [], rfl, ⟨by simp [rg0], by simp [rg0]⟩, rd_start (w0 := w0) (base := w.heap.size + 1) (by omega) hblk (by omega) hn ((hb.block _ (by omega)).trans hk1) (by omega) (by omega) (by omega), ?_⟩
    rw [hw0]
    exact ((hb2.mono (by omega)).trans (hb.mono (by omega))).alloc (by omega) _
  have HR0 : Hid (_) := hr0
  have HB0 : Hid (Below w.heap.size w w0) := hb0
  have HS0 : Hid (w0.heap.size = w.heap.size + 1) := hs0
  have HS2 : Hid (w2.heap.size = w0.heap.size + 2) := hs2
  have HT : Hid (SpanCells w) := hT
  have HC : Hid (Cms w ao cap l) := hC
  obtain ⟨hl1, hl2, _⟩ := hC
  unfold maxLen at hl2
  have g0 : ¬ ((n : Int) < 0) := by omega
  have g6 : ¬ ((6 : Int) < (n : Int)) := by omega
  have g64 : ¬ ((64 : Int) < (l.length : Int)) := by omega
  clear hr0 hb0 hs0 hb1 hb2 hk1 hk2 hs2 hT
  go_enter Tryd.func63, Tryd.ntmps63
  go_wp2_with (first | (rw [hw0]) | (rw [hw2]) | fail)
  refine cR.mono ?_
  rintro e wh ⟨g, rfl, hg, hblk, hbh⟩
  have HS := HST.out wh g hbh hg hblk
  obtain ⟨R, hR⟩ : ∃ R, wh.heap.size = R := ⟨_, rfl⟩
  rw [hR] at HS
  have HSS : Hid (_) := HS
  clear hbh hblk hg HS HST cR
  go_wp2_with fail
  clear hw0 hw2
  go_loopw [28] (fun i wr => ∃ k : Nat, k ≤ l.length ∧ i = .int .i64 k ∧ RdI w l n R k wr) (fun i _ => l.length - (RowKit.intOf i).toNat)
  case atStart => exact ⟨0, by omega, rfl, HSS.out⟩
  case round =>
    obtain ⟨k, hk, rfl, gk, sv, lv, hv, q, hrg, hBk, hG, hbw⟩ := hrel
    rw [HW0.out] at hbw
    have hsz := hbw.size
    have hs00 := HS0.out
    have hbW : Below w.heap.size w wr := HB0.out.trans (hbw.mono (by omega))
    have hZ : wr.heap[w.heap.size]? = some (.cells #[.slice none 0 0, .slice none 0 0, .slice none 0 0] 105 (0, 0)) := (hbw.block _ (by omega)).trans HR0.out
    have hql : q.length = gk.looks.length := by have := congrArg List.length hG.lk; simpa using this
    by_cases hlt : k < l.length
    · obtain ⟨cm, hcm⟩ : ∃ cm, l.getD k cm0 = cm := ⟨_, rfl⟩
      have hnext : rgL (rg0 n) (l.take (k + 1)) = rgS gk cm := by rw [rgL_take hlt, hrg, hcm]; rfl
      have HNO : Hid (rgS gk cm = none → o = none) := fun h => HON.out (rgL_stop (k := k + 1) (by rw [hnext]; exact h))
      have HNX : Hid (rgL (rg0 n) (l.take (k + 1)) = rgS gk cm) := hnext
      have HBS : Hid (∀ g', rgS gk cm = some g' → RgB g' (k + 1)) := fun g' h => hBk.step h
      obtain ⟨_, _, hC3⟩ := HC.out
      rcases hC3 with rfl | ⟨b, oo, rfl, hb, hc⟩
      · simp at hlt
      have hcA := (hc k hlt).below hbW hb
      rw [hcm] at hcA
      clear hc hcm hnext
      obtain ⟨kind, r, to, op, n', name⟩ := cm
      obtain ⟨x0, x1, x2, x3, x4, x5⟩ := hcA
      simp only at x0 x1 x2 x3 x4 x5
      obtain ⟨wb, hwb, hbb, hcb, hsb⟩ := cm_box wr kind r to op n' name
      obtain ⟨a0, a1, a2, a3, a4, a5⟩ := hcb wb (Below.refl _ _)
      simp only [Nat.zero_add] at a0 a1 a2 a3 a4 a5
      have hGb := hG.below hbb
      have cH := hasG_any hGb r
      have hZb := (hbb.block _ (lt_of_block hZ)).trans hZ
      have hbWb : Below w.heap.size w wb := hbW.trans (hbb.mono (by omega))
      have hs1 := hBk.slots
      have hs2 := hBk.looks
      have hk64 : k ≤ 64 := by omega
      have cC := fun hr => command_any (HT.out.below hbWb) hGb ⟨kind, r, to, op, n', name⟩ hr (by omega) (by omega)
      have HSB : Hid (w.heap.size + 1 ≤ wr.heap.size) := by show _ ≤ _; omega
      have HRS : Hid (rgS gk ⟨kind, r, to, op, n', name⟩ = if hasG gk r = true then cmdG gk ⟨kind, r, to, op, n', name⟩ else none) := rfl
      have HBB : Hid (Below (w.heap.size + 1) w0 wb) := hbw.trans (hbb.mono (by omega))
      have HBD : Hid (Below w.heap.size w wb) := hbWb
      have HZB : Hid (_) := hZb
      unfold cmV at cC
      simp only at cC
      clear hG hbW hZ hbb hcb hGb hbw hbWb hZb hs1 hs2 hBk hql hsz hsb hs00
      generalize hasG gk r = hh at *
      cases hh with
      | false =>
        have HO : Hid (o = none) := HNO.out (by rw [HRS.out]; rfl)
        clear cC HNO HNX HBS HRS
        go_wp2_with (rw [hwb])
        refine cH.mono ?_
        rintro e w3 ⟨rfl, rfl⟩
        clear cH hwb
        have hz3 := set3M (x := .slice none 0 0) (y := .slice none 0 0) (z := .slice none 0 0) HZB.out rfl
        have HBE : Hid (Below w.heap.size w (((w3.setCell ⟨w.heap.size, 0, none⟩ (.slice none 0 0)).setCell ⟨w.heap.size, 1, none⟩ (.slice none 0 0)).setCell ⟨w.heap.size, 2, none⟩ (.slice none 0 0))) := ((HBD.out.setCell (p := ⟨w.heap.size, 0, none⟩) (Nat.le_refl _) _).setCell (p := ⟨w.heap.size, 1, none⟩) (Nat.le_refl _) _).setCell (p := ⟨w.heap.size, 2, none⟩) (Nat.le_refl _) _
        have HZ3 : Hid (_) := hz3
        have z0 : w3.cell? ⟨w.heap.size, 0, none⟩ = some (.slice none 0 0) := by rw [cell_of_heap HZB.out]; rfl
        have z1 : w3.cell? ⟨w.heap.size, 1, none⟩ = some (.slice none 0 0) := by rw [cell_of_heap HZB.out]; rfl
        have z2 : w3.cell? ⟨w.heap.size, 2, none⟩ = some (.slice none 0 0) := by rw [cell_of_heap HZB.out]; rfl
        have y0 := frozen_of_heap HZB.out 0
        have y1 := frozen_of_heap HZB.out 1
        have y2 := frozen_of_heap HZB.out 2
        clear hz3
        skip
        go_wp2_with fail
        refine bodyPost_ret (v := .tuple #[.agg #[.slice none 0 0, .slice none 0 0, .slice none 0 0], .int .i64 1]) ?_ rfl ⟨HBE.out, .inl ⟨HO.out, rfl⟩⟩
        rw [results_cell_tmp rfl]
        have hr1 := HZ3.out
        clear HZ3 HBE z0 z1 z2 y0 y1 y2
        generalize ((w3.setCell ⟨w.heap.size, 0, none⟩ (.slice none 0 0)).setCell ⟨w.heap.size, 1, none⟩ (.slice none 0 0)).setCell ⟨w.heap.size, 2, none⟩ (.slice none 0 0) = W3 at hr1 ⊢
        simp [go_sem, World.cell?, hr1]
      | true =>
        have cC' := cC rfl
        rw [if_pos rfl] at HRS
        clear cC
        go_wp2_with (rw [hwb])
        refine cH.mono ?_
        rintro e w3 ⟨rfl, rfl⟩
        clear cH hwb
        go_wp2_with fail
        refine cC'.mono ?_
        rintro e w5 ⟨rfl, hb5, hR5⟩
        have hZ5 := (hb5.block _ (Nat.lt_succ_self _)).trans HZB.out
        have hB5 : Below (w.heap.size + 1) w0 w5 := HBB.out.trans hb5
        have hD5 : Below w.heap.size w w5 := HBD.out.trans (hb5.mono (by omega))
        have HZ5 : Hid (_) := hZ5
        have HB5 : Hid (_) := hB5
        have HD5 : Hid (_) := hD5
        have HR5 : Hid (_) := hR5
        clear hZ5 hB5 hD5 hR5 hb5 cC' x0 x1 x2 x3 x4 x5 a0 a1 a2 a3 a4 a5
        rw [← HRS.out] at HR5
        rw [← HRS.out]
        cases hcg : rgS gk ⟨kind, r, to, op, n', name⟩ with
        | none =>
          have HO : Hid (o = none) := HNO.out hcg
          clear HNO HNX HBS HRS hcg HR5
          simp only [Option.isSome_none]
          have hz3 := set3M (x := .slice none 0 0) (y := .slice none 0 0) (z := .slice none 0 0) HZ5.out rfl
          have HBE : Hid (Below w.heap.size w (((w5.setCell ⟨w.heap.size, 0, none⟩ (.slice none 0 0)).setCell ⟨w.heap.size, 1, none⟩ (.slice none 0 0)).setCell ⟨w.heap.size, 2, none⟩ (.slice none 0 0))) := ((HD5.out.setCell (p := ⟨w.heap.size, 0, none⟩) (Nat.le_refl _) _).setCell (p := ⟨w.heap.size, 1, none⟩) (Nat.le_refl _) _).setCell (p := ⟨w.heap.size, 2, none⟩) (Nat.le_refl _) _
          have HZ3 : Hid (_) := hz3
          have z0 : w5.cell? ⟨w.heap.size, 0, none⟩ = some (.slice none 0 0) := by rw [cell_of_heap HZ5.out]; rfl
          have z1 : w5.cell? ⟨w.heap.size, 1, none⟩ = some (.slice none 0 0) := by rw [cell_of_heap HZ5.out]; rfl
          have z2 : w5.cell? ⟨w.heap.size, 2, none⟩ = some (.slice none 0 0) := by rw [cell_of_heap HZ5.out]; rfl
          have y0 := frozen_of_heap HZ5.out 0
          have y1 := frozen_of_heap HZ5.out 1
          have y2 := frozen_of_heap HZ5.out 2
          clear hz3
          skip
          go_wp2_with fail
          refine bodyPost_ret (v := .tuple #[.agg #[.slice none 0 0, .slice none 0 0, .slice none 0 0], .int .i64 1]) ?_ rfl ⟨HBE.out, .inl ⟨HO.out, rfl⟩⟩
          rw [results_cell_tmp rfl]
          have hr1 := HZ3.out
          clear HZ3 HBE z0 z1 z2 y0 y1 y2
          generalize ((w5.setCell ⟨w.heap.size, 0, none⟩ (.slice none 0 0)).setCell ⟨w.heap.size, 1, none⟩ (.slice none 0 0)).setCell ⟨w.heap.size, 2, none⟩ (.slice none 0 0) = W3 at hr1 ⊢
          simp [go_sem, World.cell?, hr1]
        | some g' =>
          rw [hcg] at HNX HBS HR5
          obtain ⟨sv', lv', hv', q', hG'⟩ := HR5.out g' rfl
          have HE : Hid (RdI w l n R (k + 1) w5) := ⟨g', sv', lv', hv', q', HNX.out, HBS.out g' rfl, hG', by rw [HW0.out]; exact HB5.out⟩
          clear HNO HNX HBS HRS hcg HR5 hG'
          simp only [Option.isSome_some]
          go_wp2_with fail
          exact ⟨⟨k + 1, by omega, by go_num, HE.out⟩, by simp [RowKit.intOf]; omega⟩
    · have hke : k = l.length := by omega
      subst hke
      rw [List.take_length] at hrg
      have hO := HOS.out gk hrg
      obtain ⟨sa, sc, hsv, _, _, _⟩ := ownI_form hG.slots
      obtain ⟨ha, hca, hhv, _, _, _⟩ := ownI_form hG.holes
      obtain ⟨la, lc, hlv⟩ := row_form' hG.row
      subst hsv hhv hlv
      have HOO : Hid (_) := hO
      obtain ⟨c0, c1, c2, _⟩ := hG.cells
      have cK := contains_int (Ints_of_own hG.holes (Nat.le_refl _)) (-1)
      have HG : Hid (_) := hG
      have HD : Hid (_) := hbW
      have HZ : Hid (_) := hZ
      clear hO hrg hBk hG hbw hbW hZ hql hsz HON HOS hs00
      by_cases hm : (-1 : Int) ∈ gk.holes
      · have HO : Hid (o = none) := by show o = none; rw [HOO.out, if_pos hm]
        rw [decide_eq_true hm] at cK
        clear HOO hm
        go_wp2_with fail
        refine cK.mono ?_
        rintro e w3 ⟨rfl, rfl⟩
        clear cK
        have hz3 := set3M (x := .slice none 0 0) (y := .slice none 0 0) (z := .slice none 0 0) HZ.out rfl
        have HBE : Hid (Below w.heap.size w (((w3.setCell ⟨w.heap.size, 0, none⟩ (.slice none 0 0)).setCell ⟨w.heap.size, 1, none⟩ (.slice none 0 0)).setCell ⟨w.heap.size, 2, none⟩ (.slice none 0 0))) := ((HD.out.setCell (p := ⟨w.heap.size, 0, none⟩) (Nat.le_refl _) _).setCell (p := ⟨w.heap.size, 1, none⟩) (Nat.le_refl _) _).setCell (p := ⟨w.heap.size, 2, none⟩) (Nat.le_refl _) _
        have HZ3 : Hid (_) := hz3
        have z0 : w3.cell? ⟨w.heap.size, 0, none⟩ = some (.slice none 0 0) := by rw [cell_of_heap HZ.out]; rfl
        have z1 : w3.cell? ⟨w.heap.size, 1, none⟩ = some (.slice none 0 0) := by rw [cell_of_heap HZ.out]; rfl
        have z2 : w3.cell? ⟨w.heap.size, 2, none⟩ = some (.slice none 0 0) := by rw [cell_of_heap HZ.out]; rfl
        have y0 := frozen_of_heap HZ.out 0
        have y1 := frozen_of_heap HZ.out 1
        have y2 := frozen_of_heap HZ.out 2
        clear hz3
        skip
        go_wp2_with fail
        refine bodyPost_ret (v := .tuple #[.agg #[.slice none 0 0, .slice none 0 0, .slice none 0 0], .int .i64 1]) ?_ rfl ⟨HBE.out, .inl ⟨HO.out, rfl⟩⟩
        rw [results_cell_tmp rfl]
        have hr1 := HZ3.out
        clear HZ3 HBE z0 z1 z2 y0 y1 y2
        generalize ((w3.setCell ⟨w.heap.size, 0, none⟩ (.slice none 0 0)).setCell ⟨w.heap.size, 1, none⟩ (.slice none 0 0)).setCell ⟨w.heap.size, 2, none⟩ (.slice none 0 0) = W3 at hr1 ⊢
        simp [go_sem, World.cell?, hr1]
      · have HO : Hid (o = some gk) := by show o = some gk; rw [HOO.out, if_neg hm]
        rw [decide_eq_false hm] at cK
        clear HOO hm
        go_wp2_with fail
        refine cK.mono ?_
        rintro e w3 ⟨rfl, rfl⟩
        clear cK
        have hz3 := set3M (x := (.slice sa gk.slots.length sc)) (y := (.slice la q.length lc)) (z := (.slice ha gk.holes.length hca)) HZ.out rfl
        have hlt : w.heap.size < w.heap.size + 1 := Nat.lt_succ_self _
        have HGE : Hid (RdG (((w3.setCell ⟨w.heap.size, 0, none⟩ (.slice sa gk.slots.length sc)).setCell ⟨w.heap.size, 1, none⟩ (.slice la q.length lc)).setCell ⟨w.heap.size, 2, none⟩ (.slice ha gk.holes.length hca)) w.heap.size R gk (.slice sa gk.slots.length sc) (.slice la q.length lc) (.slice ha gk.holes.length hca) q) := (((HG.out.setOther hlt).setOther hlt).setOther hlt).mono (Nat.le_succ _)
        have HBE : Hid (Below w.heap.size w (((w3.setCell ⟨w.heap.size, 0, none⟩ (.slice sa gk.slots.length sc)).setCell ⟨w.heap.size, 1, none⟩ (.slice la q.length lc)).setCell ⟨w.heap.size, 2, none⟩ (.slice ha gk.holes.length hca))) := ((HD.out.setCell (p := ⟨w.heap.size, 0, none⟩) (Nat.le_refl _) _).setCell (p := ⟨w.heap.size, 1, none⟩) (Nat.le_refl _) _).setCell (p := ⟨w.heap.size, 2, none⟩) (Nat.le_refl _) _
        have HZ3 : Hid (_) := hz3
        have z0 : w3.cell? ⟨w.heap.size, 0, none⟩ = some (.slice none 0 0) := by rw [cell_of_heap HZ.out]; rfl
        have z1 : w3.cell? ⟨w.heap.size, 1, none⟩ = some (.slice none 0 0) := by rw [cell_of_heap HZ.out]; rfl
        have z2 : w3.cell? ⟨w.heap.size, 2, none⟩ = some (.slice none 0 0) := by rw [cell_of_heap HZ.out]; rfl
        have y0 := frozen_of_heap HZ.out 0
        have y1 := frozen_of_heap HZ.out 1
        have y2 := frozen_of_heap HZ.out 2
        clear hz3
        go_wp2_with fail
        refine bodyPost_ret (v := .tuple #[.agg #[.slice sa gk.slots.length sc, .slice la q.length lc, .slice ha gk.holes.length hca], .int .i64 0]) ?_ rfl ⟨HBE.out, .inr ⟨gk, (.slice sa gk.slots.length sc), (.slice la q.length lc), (.slice ha gk.holes.length hca), q, R, HO.out, rfl, HGE.out⟩⟩
        rw [results_cell_tmp rfl]
        have hr1 := HZ3.out
        clear HZ3 HBE z0 z1 z2 y0 y1 y2 HGE
        generalize ((w3.setCell ⟨w.heap.size, 0, none⟩ (.slice sa gk.slots.length sc)).setCell ⟨w.heap.size, 1, none⟩ (.slice la q.length lc)).setCell ⟨w.heap.size, 2, none⟩ (.slice ha gk.holes.length hca) = W3 at hr1 ⊢
        simp [go_sem, World.cell?, hr1]
end Go.Proofs.YtjkcbigmebbkkaaDoor

set_option linter.unusedSimpArgs false
set_option linter.unusedVariables false
namespace Go.Proofs.YtjkcbigmebbkkaaDoor
open Go.Lib

/-! ### soundness -/
def fillN (x : Nd) : Nd := if x.op = 18 then { x with op := 2 } else x
theorem fillN_kids (x : Nd) : (fillN x).kids = x.kids := by unfold fillN; split <;> rfl
def addNm (acc : List ByteArray) (x : Nd) : List ByteArray := if x.op = 18 then (if acc.any (fun y => decide (y = x.name)) = true then acc else acc ++ [x.name]) else acc
def hlsL (l : List Nd) : List ByteArray := l.foldl addNm []
theorem hlsL_snoc (l : List Nd) (x : Nd) : hlsL (l ++ [x]) = addNm (hlsL l) x := by simp [hlsL]
theorem addNm_len (acc : List ByteArray) (x : Nd) : (addNm acc x).length ≤ acc.length + 1 := by
  unfold addNm; split
  · split <;> simp
  · omega
theorem foldl_addNm_len : ∀ (l : List Nd) (acc : List ByteArray), (l.foldl addNm acc).length ≤ acc.length + l.length
  | [], acc => by simp
  | x :: l, acc => by
    have := foldl_addNm_len l (addNm acc x)
    have := addNm_len acc x
    simp; omega
theorem hlsL_len (l : List Nd) : (hlsL l).length ≤ l.length := by have := foldl_addNm_len l []; simpa [hlsL] using this
/-! ### texts -/
/-! ### the whole -/
def pt0 : Nd × ByteArray := (nd0, ⟨#[]⟩)
/-! ### sizes -/
/-- How much of the list a node's text may take. -/
def wgt (fr : List Nat) (k : Nat) : Nat := k + 1 - fr.getD k 0
def TlOk (fr : List Nat) (told : List (Nd × ByteArray)) : Prop := ∀ i, i < told.length → (told.getD i pt0).2.size ≤ 100 * wgt fr i
theorem TlOk.snoc {fr : List Nat} {told : List (Nd × ByteArray)} {x : Nd} {s : ByteArray} (hT : TlOk fr told) (hs : s.size ≤ 100 * wgt fr told.length) : TlOk fr (told ++ [(x, s)]) := by
  intro i hi
  simp only [List.length_append, List.length_cons, List.length_nil] at hi
  by_cases h : i < told.length
  · have := hT i h
    simpa [List.getElem?_append_left h] using this
  · have : i = told.length := by omega
    subst this
    simpa using hs
end Go.Proofs.YtjkcbigmebbkkaaDoor

set_option linter.unusedSimpArgs false
set_option linter.unusedVariables false
namespace Go.Proofs.YtjkcbigmebbkkaaDoor
open Go.RowKit Go.Lib

/-- The slice reads as the texts qs. -/
def Strs (w : World) (ao : Option Addr) (cap : Nat) (qs : List ByteArray) : Prop :=
  qs.length ≤ cap ∧ cap ≤ maxLen ∧ (qs = [] ∨ ∃ b o, ao = some ⟨b, o, none⟩ ∧ b < w.heap.size ∧ ∀ j, j < qs.length → w.cell? ⟨b, o + j, none⟩ = some (.string (qs.getD j ⟨#[]⟩)))
theorem Strs.below {w w' : World} {ao : Option Addr} {cap : Nat} {qs : List ByteArray} (h : Strs w ao cap qs) (hb : Below w.heap.size w w') : Strs w' ao cap qs := by
  obtain ⟨h1, h2, h3⟩ := h
  refine ⟨h1, h2, ?_⟩
  rcases h3 with h3 | ⟨b, o, e, hlt, hc⟩
  · exact .inl h3
  · exact .inr ⟨b, o, e, Nat.lt_of_lt_of_le hlt hb.size, fun j hj => (hb.cell (p := ⟨b, o + j, none⟩) hlt).trans (hc j hj)⟩
theorem Strs_of_own {w : World} {base : Nat} {v : Value} {qs : List ByteArray} (h : w.ownsRow base 9 1 v qs.length (qs.map Value.string)) : ∃ ao cap, v = .slice ao qs.length cap ∧ Strs w ao cap qs := by
  obtain ⟨h1, h2⟩ := h
  rcases h2 with ⟨rfl, h0⟩ | ⟨g, cap, cur, rfl, hb, hg, hn, hm, hs, ht⟩
  · have : qs = [] := List.length_eq_zero_iff.1 h0
    subst this
    exact ⟨none, 0, rfl, by simp, by simp, .inl rfl⟩
  · refine ⟨_, cap, rfl, hn, hm, .inr ⟨g, 0, rfl, lt_of_block hg, fun j hj => ?_⟩⟩
    have hc : w.cell? ⟨g, 0 + j, none⟩ = cur[j]? := by simp [World.cell?, hg]
    rw [hc, ← Array.getElem?_toList]
    have e : cur.toList[j]? = (cur.toList.take (qs.length * 1))[j]? := by rw [List.getElem?_take, if_pos (by omega)]
    rw [e, ht]
    simp [hj]

theorem Strs.same {w w' : World} {ao : Option Addr} {cap : Nat} {qs : List ByteArray} (h : Strs w ao cap qs) (hs : w.heap.size ≤ w'.heap.size) (hb : ∀ b : Nat, b < w.heap.size → w'.heap[b]? = w.heap[b]?) : Strs w' ao cap qs := by
  obtain ⟨h1, h2, h3⟩ := h
  refine ⟨h1, h2, ?_⟩
  rcases h3 with h3 | ⟨b, o, e, hlt, hc⟩
  · exact .inl h3
  · exact .inr ⟨b, o, e, by omega, fun j hj => (World.cell?_of_block (a := ⟨b, o + j, none⟩) (hb b hlt)).trans (hc j hj)⟩

theorem Strs.cell {w : World} {ao : Option Addr} {cap : Nat} {qs : List ByteArray} (h : Strs w ao cap qs) {j : Nat} (hj : j < qs.length) : ∃ b o, ao = some ⟨b, o, none⟩ ∧ b < w.heap.size ∧ w.cell? ⟨b, o + j, none⟩ = some (.string (qs.getD j ⟨#[]⟩)) := by
  rcases h.2.2 with h | ⟨b, o, e, hlt, hc⟩
  · subst h; simp at hj
  · exact ⟨b, o, e, hlt, hc j hj⟩
theorem Rd.cell {w : World} {ao : Option Addr} {cap : Nat} {l : List Nd} (h : Rd w ao cap l) {k : Nat} (hk : k < l.length) : ∃ b o kv, ao = some ⟨b, o, none⟩ ∧ b < w.heap.size ∧ NodeAt w w.heap.size b (o + k * 4) (l.getD k nd0) kv := by
  obtain ⟨ao', cap', e1, _, _, hc⟩ := h
  cases e1
  rcases hc with h | ⟨b, o, e, hlt, hc⟩
  · subst h; simp at hk
  · obtain ⟨kv, hn⟩ := hc k hk
    exact ⟨b, o, kv, e, hlt, hn⟩

end Go.Proofs.YtjkcbigmebbkkaaDoor
