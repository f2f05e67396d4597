/-
  PkRdW, PkPaW.
-/
import Derived.Shelf.Unicode.DecodeSlow
import Derived.Laws.RangeAny
import Derived.Shelf.Strings.Builder1
import Derived.Shelf.Small.Utf8
import Derived.Shelf.Small.Bits
import Derived.Shelf.Strings.BuilderF
import Derived.Shelf.Strings.BuilderK
import Derived.Shelf.Strings.BuilderRune
import Derived.Shelf.Utf8.AppendRune
import Derived.Shelf.Strconv.Itoa0
import Derived.Shelf.Strconv.Itoa1
import Derived.Shelf.LaysM
import Derived.Shelf.Strconv.Itoa2
import Derived.Shelf.Strconv.Itoa3
import Derived.Shelf.Strconv.Itoa4
import Derived.Shelf.Strings.Prefix
import Derived.Shelf.Unicode.DecodeAny
import Derived.Test.YtjmccobblpcbhaaDoorProg
import Derived.WalkKit
import Derived.Deep.DeepFit
import Derived.Lib.OthersKept
import Derived.Lib.RuneCountTail
import Derived.Lib.MapLaws
import Derived.Sort.Walk0
import Derived.Laws.DeepStrings4
import Derived.Lib.ItoaNum
import Derived.Deep.AppendLies
import Derived.Deep.OwnRows
import Derived.Laws.AppendOwnNone
import Derived.Deep.QuietTactic
import Derived.BigQuiet
import Derived.Deep.RegionWith
import Derived.Maps.OwnSet
import Derived.StringKeys
import Derived.Lib.QuietBelow
import Derived.StillTail
import Derived.Below
import Derived.Lib.Small
import Derived.Lib.Strings
import Derived.Deep.RegionHeld3
import Derived.Laws.ResultCell
import Derived.Deep.Heap
import Derived.Laws.Rows
import Derived.Deep.RegionLaw
import Derived.Laws.OwnMore
import Derived.Test.YtjmccobblpcbhaaDoorM01
import Derived.Test.YtjmccobblpcbhaaDoorM02
import Derived.Test.YtjmccobblpcbhaaDoorM03
import Derived.Test.YtjmccobblpcbhaaDoorM04
import Derived.Test.YtjmccobblpcbhaaDoorM05
import Derived.Test.YtjmccobblpcbhaaDoorM06
import Derived.Test.YtjmccobblpcbhaaDoorM07
import Derived.Test.YtjmccobblpcbhaaDoorM08
import Derived.Test.YtjmccobblpcbhaaDoorM09
import Derived.Test.YtjmccobblpcbhaaDoorM11
import Derived.Test.YtjmccobblpcbhaaDoorM12
import Derived.Test.YtjmccobblpcbhaaDoorM13
import Derived.Test.YtjmccobblpcbhaaDoorM15
import Derived.Test.YtjmccobblpcbhaaDoorM16
import Derived.Test.YtjmccobblpcbhaaDoorM17
import Derived.Test.YtjmccobblpcbhaaDoorM18
import Derived.Test.YtjmccobblpcbhaaDoorM19
import Derived.Test.YtjmccobblpcbhaaDoorM20
import Derived.Test.YtjmccobblpcbhaaDoorM21
import Derived.Test.YtjmccobblpcbhaaDoorM22
import Derived.Test.YtjmccobblpcbhaaDoorM23
import Derived.Test.YtjmccobblpcbhaaDoorM24
import Derived.Test.YtjmccobblpcbhaaDoorM25
import Derived.Test.YtjmccobblpcbhaaDoorM26
set_option linter.unusedSimpArgs false
set_option linter.unusedVariables false
namespace Go.Proofs.YtjmccobblpcbhaaDoor
open Go.RowKit Go.Lib Go.Sort

def st00 : Ps := ⟨⟨0, 0, 0, 0, 0⟩, [], 0⟩
/-- What read comes to. -/
def psRead (s : ByteArray) (pat : Bool) (most : Nat) : Pr (List Nd) :=
  (psOpen s).bind fun _ => (psNx s pat mx63 st00).bind fun st1 => (psRun s pat (psFuel s) .cond st1).bind fun r => (psEx s pat 0 r.2).bind fun st3 =>
    if most < st3.nodes.length then .bad s.size 10 else if 6 < (hlsL st3.nodes).length then .bad s.size 10 else .ok st3.nodes
def ReadP (w : World) (x : Pr (List Nd)) (e : Ending) (w' : World) : Prop :=
  (match x with
   | .ok l => ∃ ao cap, e = .returned (.tuple #[.slice ao l.length cap, .int .i64 0, .int .i64 0]) ∧ Rd w' ao cap l
   | .bad p er => e = .returned (.tuple #[.slice none 0 0, .int .i64 (p : Int), .int .i64 er])
   | .out => False) ∧ Below w.heap.size w w'
/-- The same, the answer's memory told. -/
def ReadO (w : World) (x : Pr (List Nd)) (e : Ending) (w' : World) : Prop :=
  (match x with
   | .ok l => ∃ ao cap, e = .returned (.tuple #[.slice ao l.length cap, .int .i64 0, .int .i64 0]) ∧ OwnA w' w.heap.size (.slice ao l.length cap) l
   | .bad p er => e = .returned (.tuple #[.slice none 0 0, .int .i64 (p : Int), .int .i64 er])
   | .out => False) ∧ Below w.heap.size w w'
theorem ReadO.p {w : World} {x : Pr (List Nd)} {e : Ending} {w' : World} (h : ReadO w x e w') : ReadP w x e w' := by
  obtain ⟨h1, h2⟩ := h
  cases x with
  | ok l =>
    obtain ⟨ao, cap, he, hr⟩ := h1
    obtain ⟨ao', cap', hv, hrd⟩ := Rd_of_own hr.n
    cases hv
    exact ⟨⟨ao, cap, he, hrd⟩, h2⟩
  | bad p er => exact ⟨h1, h2⟩
  | out => exact ⟨h1, h2⟩

/-- The results, where nothing is stored yet, at N. -/
def Res0 (w : World) (N : Nat) : Prop := w.heap[N]? = some (.cells #[.slice none 0 0] 22 (0, 0)) ∧ w.heap[N + 1]? = some (.cells #[.int .i64 0] 3 (0, 0)) ∧ w.heap[N + 1 + 1]? = some (.cells #[.int .i64 0] 24 (0, 0))
def wR0 (w : World) : World := ((w.alloc (.cells #[.slice none 0 0] 22)).alloc (.cells #[.int .i64 0] 3)).alloc (.cells #[.int .i64 0] 24)
theorem wR0_size (w : World) : (wR0 w).heap.size = w.heap.size + 3 := by simp [wR0]
theorem wR0_below (w : World) : Below w.heap.size w (wR0 w) := (((Below.refl _ _).alloc (Nat.le_refl _) _).alloc (by simp) _).alloc (by simp <;> omega) _
theorem wR0_res (w : World) : Res0 (wR0 w) w.heap.size := by
  unfold wR0
  refine ⟨?_, ?_, ?_⟩
  · exact (Deep.blk_alloc_lt _ _ _ (by simp <;> omega)).trans ((Deep.blk_alloc_lt _ _ _ (by simp)).trans (Deep.blk_alloc_new _ _))
  · have := Deep.blk_alloc_new (w.alloc (.cells #[.slice none 0 0] 22)) (.cells #[.int .i64 0] 3)
    simp only [World.size_alloc] at this
    exact (Deep.blk_alloc_lt _ _ _ (by simp)).trans this
  · have := Deep.blk_alloc_new ((w.alloc (.cells #[.slice none 0 0] 22)).alloc (.cells #[.int .i64 0] 3)) (.cells #[.int .i64 0] 24)
    simp only [World.size_alloc] at this; exact this
theorem Res0.below {w w' : World} {N L : Nat} (h : Res0 w N) (hb : Below L w w') (hL : N + 3 ≤ L) : Res0 w' N := ⟨(hb.block _ (by omega)).trans h.1, (hb.block _ (by omega)).trans h.2.1, (hb.block _ (by omega)).trans h.2.2⟩
theorem re_pan {w : World} {N : Nat} (h : Res0 w N) (p : Nat) (er : Int) :
    CallsD Tryd.prog 89 #[.pointer (some ⟨N, 0, none⟩), .pointer (some ⟨N + 1, 0, none⟩), .pointer (some ⟨N + 1 + 1, 0, none⟩)] (.panicking [{ v := fltV p er, recovered := false }]) w fun e u' w' => e = .returned (.tuple #[]) ∧ u' = (.panicking [{ v := fltV p er, recovered := true }]) ∧ w'.cell? ⟨N, 0, none⟩ = some (.slice none 0 0) ∧ w'.cell? ⟨N + 1, 0, none⟩ = some (.int .i64 p) ∧ w'.cell? ⟨N + 1 + 1, 0, none⟩ = some (.int .i64 er) ∧ Below N w w' :=
  re_panicking N (N + 1) (N + 1 + 1) _ _ _ _ _ _ p er [] w N h.1 h.2.1 h.2.2 (by omega) (by omega) (by omega) (by omega) (by omega) (by omega)

theorem own_setK {w : World} {base k o : Nat} {u v : Value} {l : List Nd} (hk : k < base) (h : OwnA w base v l) : OwnA (w.setCell ⟨k, o, none⟩ u) base v l := by
  have key : ∀ {e : TypeId} {s n : Nat} {v : Value} {xs : List Value}, w.ownsRow base e s v n xs → (w.setCell ⟨k, o, none⟩ u).ownsRow base e s v n xs := fun {e s n v xs} hr =>
    World.ownsRow.kept (row := some k) hr ⟨rfl, rfl, rfl, by simp [World.setCell], fun j _ hj => Below.heap_setCell _ _ _ _ (fun e => hj (by simp [e]))⟩ (by
      cases hv : v.ownBlock with
      | none => exact .inl rfl
      | some j => exact .inr (fun e => by have h1 := (own_block' hr j hv).1; have : j = k := by simpa using e
                                          omega))
  obtain ⟨p, h1, h2, h3⟩ := h
  exact ⟨p, h1, ⟨key h2.row, fun q hq => key (h2.kids q hq)⟩, h3⟩
/-- The results set. -/
def setR (w : World) (N : Nat) (v : Value) : World := ((w.setCell ⟨N, 0, none⟩ v).setCell ⟨N + 1, 0, none⟩ (.int .i64 0)).setCell ⟨N + 1 + 1, 0, none⟩ (.int .i64 0)
theorem setR_blk {w : World} {N : Nat} (h : Res0 w N) (v : Value) : (setR w N v).cell? ⟨N, 0, none⟩ = some v ∧ (setR w N v).cell? ⟨N + 1, 0, none⟩ = some (.int .i64 0) ∧ (setR w N v).cell? ⟨N + 1 + 1, 0, none⟩ = some (.int .i64 0) := by
  obtain ⟨hn, ha, he⟩ := h
  have N0 := heap_setCell_same w N 0 _ _ v hn
  have A0 : (w.setCell ⟨N, 0, none⟩ v).heap[N + 1]? = _ := (Deep.blk_setCell_other _ _ _ _ (by show N + 1 ≠ N; omega)).trans ha
  have E0 : (w.setCell ⟨N, 0, none⟩ v).heap[N + 1 + 1]? = _ := (Deep.blk_setCell_other _ _ _ _ (by show N + 1 + 1 ≠ N; omega)).trans he
  have A1 := heap_setCell_same _ (N + 1) 0 _ _ (.int .i64 0) A0
  have N1 : ((w.setCell ⟨N, 0, none⟩ v).setCell ⟨N + 1, 0, none⟩ (.int .i64 0)).heap[N]? = _ := (Deep.blk_setCell_other _ _ _ _ (by show N ≠ N + 1; omega)).trans N0
  have E1 : ((w.setCell ⟨N, 0, none⟩ v).setCell ⟨N + 1, 0, none⟩ (.int .i64 0)).heap[N + 1 + 1]? = _ := (Deep.blk_setCell_other _ _ _ _ (by show N + 1 + 1 ≠ N + 1; omega)).trans E0
  have E2 := heap_setCell_same _ (N + 1 + 1) 0 _ _ (.int .i64 0) E1
  have N2 : (setR w N v).heap[N]? = _ := (Deep.blk_setCell_other _ _ _ _ (by show N ≠ N + 1 + 1; omega)).trans N1
  have A2 : (setR w N v).heap[N + 1]? = _ := (Deep.blk_setCell_other _ _ _ _ (by show N + 1 ≠ N + 1 + 1; omega)).trans A1
  refine ⟨?_, ?_, ?_⟩
  · simp [World.cell?, N2]
  · simp [World.cell?, A2]
  · unfold setR; simp [World.cell?, E2]
theorem setR_below {w : World} {N : Nat} (v : Value) : Below N w (setR w N v) := (((Below.refl _ _).setCell (p := ⟨N, 0, none⟩) (Nat.le_refl _) _).setCell (p := ⟨N + 1, 0, none⟩) (by show N ≤ N + 1; omega) _).setCell (p := ⟨N + 1 + 1, 0, none⟩) (by show N ≤ N + 1 + 1; omega) _

set_option maxRecDepth 20000 in
set_option maxHeartbeats 4000000 in
theorem read_own (w : World) (s : ByteArray) (pat : Bool) (most : Nat) (hz : s.size ≤ maxLen) (hm : most ≤ 64) (hT : Tabs w) :
    Calls Tryd.prog 60 #[.string s, .bool pat, .int .i64 (most : Int)] w fun e w' => ReadO w (psRead s pat most) e w' := by
  have hpn : ∀ (x : Value) (w : World), (Instr.panic (.iface 112 x)).run Tryd.prog w = .halt (.panic (.iface 112 x)) w := fun _ _ => rfl
  have hmf : ∀ (fn : Fn) (first cap : Array Value) (w : World), (Instr.makeFunc fn first cap).run Tryd.prog w = .ok (.func fn first cap) w := fun _ _ _ _ => rfl
  obtain ⟨XR, hXR⟩ : ∃ X, psRead s pat most = X := ⟨_, rfl⟩
  rw [hXR]
  have HXR : Hid (psRead s pat most = XR) := hXR
  clear hXR
  obtain ⟨W0, hW0⟩ : ∃ W0, wR0 w = W0 := ⟨_, rfl⟩
  have HW0 : Hid (((w.alloc (.cells #[.slice none 0 0] 22)).alloc (.cells #[.int .i64 0] 3)).alloc (.cells #[.int .i64 0] 24) = W0) := hW0
  have b0 : Below w.heap.size w W0 := by rw [← hW0]; exact wR0_below w
  have z0 : W0.heap.size = w.heap.size + 3 := by rw [← hW0]; exact wR0_size w
  have r0 : Res0 W0 w.heap.size := by rw [← hW0]; exact wR0_res w
  have t0 := hT.below b0
  have C0 := open_any W0 s pat hz t0
  clear hW0
  cases h0 : psOpen s with
  | out => exfalso; unfold psOpen at h0; split at h0 <;> (try split at h0) <;> cases h0
  | bad p er =>
    have HRES : Hid (XR = .bad p er) := by show XR = _; rw [← HXR.out]; unfold psRead; rw [h0]; rfl
    rw [h0] at C0
    have D0 : Hid (Calls Tryd.prog 90 #[.string s, .bool pat] W0 fun e w' => e = .panicked [{ v := fltV p er, recovered := false }] ∧ Below W0.heap.size W0 w') := C0
    clear C0 h0
    go_enter_defers Tryd.func60, Tryd.ntmps60
    go_wp2_with fail
    rw [HW0.out]
    refine D0.out.mono ?_
    rintro e w1 ⟨rfl, hb1⟩
    have r1 := r0.below hb1 (by omega)
    refine leaves_cons (f := 89) (args := #[.pointer (some ⟨w.heap.size, 0, none⟩), .pointer (some ⟨w.heap.size + 1, 0, none⟩), .pointer (some ⟨w.heap.size + 1 + 1, 0, none⟩)]) (by simp) (by simp [go_sem]) ?_
    refine (re_pan r1 p er).mono ?_
    rintro e u' w'' ⟨rfl, rfl, k1, k2, k3, hbz⟩
    have HBZ : Hid (Below w.heap.size w w'') := (b0.trans (hb1.mono b0.size)).trans hbz
    clear hbz
    simp [Leaves, settle, results, Tryd.results60, go_sem, k1, k2, k3]
    rw [HRES.out]
    exact ⟨rfl, HBZ.out⟩
  | ok u =>
    rw [h0] at C0
    have D0 : Hid (Calls Tryd.prog 90 #[.string s, .bool pat] W0 fun e w' => e = .returned (.agg #[.string s, .bool pat, .int .i32 0, .int .i64 0, .int .i64 0, .int .u64 0, .int .i64 0]) ∧ Below W0.heap.size W0 w') := C0
    go_enter_defers Tryd.func60, Tryd.ntmps60
    go_wp2_with fail
    rw [HW0.out]
    refine D0.out.mono ?_
    rintro e w1 ⟨rfl, hb1⟩
    have r1 := r0.below hb1 (by omega)
    have hs : s.size ≤ 4096 := by
      unfold psOpen at h0
      split at h0
      · cases h0
      · omega
    obtain ⟨W1, hW1⟩ : ∃ W1, w1.alloc (.cells #[.string s, .bool pat, .int .i32 0, .int .i64 0, .int .i64 0, .int .u64 0, .int .i64 0, .slice none 0 0, .int .i64 0] 121) = W1 := ⟨_, rfl⟩
    have bW1 : Below w1.heap.size w1 W1 := by rw [← hW1]; exact (Below.refl _ _).alloc (Nat.le_refl _) _
    have m1 : PsM W1 w1.heap.size s pat st00 (.slice none 0 0) := ⟨by rw [← hW1]; exact Deep.blk_alloc_new _ _, OwnA_nil _ _⟩
    have hE : PEnv W0 w1.heap.size W1 := ⟨t0, hb1.size, hb1.trans (bW1.mono hb1.size)⟩
    have rW1 := r1.below bW1 (by have := hb1.size; omega)
    have bb1 : Below w.heap.size w W1 := (b0.trans (hb1.mono b0.size)).trans (bW1.mono (by have := hb1.size; omega))
    have zB : w.heap.size + 3 ≤ w1.heap.size := by have := hb1.size; omega
    have HW1 : Hid (w1.alloc (.cells #[.string s, .bool pat, .int .i32 0, .int .i64 0, .int .i64 0, .int .u64 0, .int .i64 0, .slice none 0 0, .int .i64 0] 121) = W1) := hW1
    have H0 : Hid (psOpen s = .ok u) := h0
    clear hW1 C0 D0 HW0 h0 r0 hb1 r1 bW1
    have C1 := next_any W0 W1 w1.heap.size s pat st00 _ hE m1 hs (Nat.zero_le _)
    cases h1 : psNx s pat mx63 st00 with
    | out => exact absurd h1 (psNx_in _ _ _ _)
    | bad p er =>
      have HRES : Hid (XR = .bad p er) := by show XR = _; rw [← HXR.out]; unfold psRead; rw [H0.out]; show (psNx s pat mx63 st00).bind _ = _; rw [h1]; rfl
      rw [h1] at C1
      have D1 : Hid (Calls Tryd.prog 91 #[.pointer (some ⟨w1.heap.size, 0, none⟩)] W1 fun e w' => e = .panicked [{ v := fltV p er, recovered := false }] ∧ W1.grownBy w' (some w1.heap.size)) := C1
      have hBW := m1.lt
      clear C1 h1 m1 hE H0
      go_wp2_with fail
      rw [HW1.out]
      refine D1.out.mono ?_
      rintro e w2 ⟨rfl, hg2⟩
      have hb2 := below_of_gr hg2 (Nat.le_of_lt hBW)
      have r2 := rW1.below hb2 zB
      refine leaves_cons (f := 89) (args := #[.pointer (some ⟨w.heap.size, 0, none⟩), .pointer (some ⟨w.heap.size + 1, 0, none⟩), .pointer (some ⟨w.heap.size + 1 + 1, 0, none⟩)]) (by simp) (by simp [go_sem]) ?_
      refine (re_pan r2 p er).mono ?_
      rintro e u' w'' ⟨rfl, rfl, k1, k2, k3, hbz⟩
      have HBZ : Hid (Below w.heap.size w w'') := (bb1.trans (hb2.mono (by omega))).trans hbz
      clear hbz
      simp [Leaves, settle, results, Tryd.results60, go_sem, k1, k2, k3]
      rw [HRES.out]
      exact ⟨rfl, HBZ.out⟩
    | ok st1 =>
      have HO1 : StN s st1 := by
        have hk := psNx_keeps h1
        refine ⟨⟨?_, ?_⟩, psNx_nm h1, by rw [hk.2]; exact Nat.zero_le _⟩
        · obtain ⟨t, ht1, ht2⟩ := Pr.bind_ok h1
          cases ht2
          exact psNext_at (Nat.zero_le _) ht1
        · rw [hk.1]; exact Nat.zero_le _
      have hsz1 : SzOk s st1 := SzOk.nx (st := st00) (fun x hx => by cases hx) h1
      rw [h1] at C1
      have D1 : Hid (Calls Tryd.prog 91 #[.pointer (some ⟨w1.heap.size, 0, none⟩)] W1 fun e w' => (e = .returned (.tuple #[]) ∧ PsM w' w1.heap.size s pat st1 (.slice none 0 0)) ∧ W1.grownBy w' (some w1.heap.size)) := C1
      have hBW := m1.lt
      have H1 : Hid (psNx s pat mx63 st00 = .ok st1) := h1
      clear C1 h1 m1
      go_wp2_with fail
      rw [HW1.out]
      refine D1.out.mono ?_
      rintro e w2 ⟨⟨rfl, m2⟩, hg2⟩
      have hb2 := below_of_gr hg2 (Nat.le_of_lt hBW)
      have r2 := rW1.below hb2 zB
      have R1 : RB W0 w2 w1.heap.size s pat st1 (.slice none 0 0) := ⟨hE.next hb2, m2, HO1⟩
      obtain ⟨hno, C2⟩ := cond_any W0 w2 w1.heap.size s pat st1 _ hs R1
      have bb2 : Below w.heap.size w w2 := bb1.trans (hb2.mono (by omega))
      clear hg2 hb2 hE rW1 bb1 m2 D1
      cases h2 : psRun s pat (psFuel s) .cond st1 with
      | out => exact absurd h2 hno
      | bad p er =>
        have HRES : Hid (XR = .bad p er) := by show XR = _; rw [← HXR.out]; unfold psRead; rw [H0.out]; show (psNx s pat mx63 st00).bind _ = _; rw [H1.out]; show (psRun s pat (psFuel s) .cond st1).bind _ = _; rw [h2]; rfl
        rw [h2] at C2
        have D2 : Hid (Calls Tryd.prog 92 #[.pointer (some ⟨w1.heap.size, 0, none⟩)] w2 fun e w' => AdBad w2 w1.heap.size p er e w') := C2
        clear C2 h2 H0 H1 hno R1
        go_wp2_with fail
        refine D2.out.mono ?_
        rintro e w3 ⟨rfl, hb3⟩
        have r3 := r2.below hb3 zB
        refine leaves_cons (f := 89) (args := #[.pointer (some ⟨w.heap.size, 0, none⟩), .pointer (some ⟨w.heap.size + 1, 0, none⟩), .pointer (some ⟨w.heap.size + 1 + 1, 0, none⟩)]) (by simp) (by simp [go_sem]) ?_
        refine (re_pan r3 p er).mono ?_
        rintro e u' w'' ⟨rfl, rfl, k1, k2, k3, hbz⟩
        have HBZ : Hid (Below w.heap.size w w'') := (bb2.trans (hb3.mono (by omega))).trans hbz
        clear hbz
        simp [Leaves, settle, results, Tryd.results60, go_sem, k1, k2, k3]
        rw [HRES.out]
        exact ⟨rfl, HBZ.out⟩
      | ok r =>
        have HO2 : StN s r.2 := run_n (q := .cond) HO1 trivial trivial h2
        have hsz2 : SzOk s r.2 := psRun_sz s pat _ .cond st1 r hsz1 h2
        rw [h2] at C2
        have D2 : Hid (Calls Tryd.prog 92 #[.pointer (some ⟨w1.heap.size, 0, none⟩)] w2 fun e w' => AdOk w2 w1.heap.size s pat r e w') := C2
        have H2 : Hid (psRun s pat (psFuel s) .cond st1 = .ok r) := h2
        clear C2 h2 hno
        go_wp2_with fail
        refine D2.out.mono ?_
        rintro e w3 ⟨⟨rfl, v3, m3⟩, hb3⟩
        have r3 := r2.below hb3 zB
        have R3 := R1.next hb3 m3 HO2
        have bb3 : Below w.heap.size w w3 := bb2.trans (hb3.mono (by omega))
        have C3 := expect_any W0 w3 w1.heap.size s pat r.2 v3 0 R3.env m3 hs R3.to
        have hB3 := m3.lt
        clear hb3 r2 bb2 R1 m3 D2 R3
        cases h3 : psEx s pat 0 r.2 with
        | out => exact absurd h3 (psEx_in _ _ _ _)
        | bad p er =>
          have HRES : Hid (XR = .bad p er) := by show XR = _; rw [← HXR.out]; unfold psRead; rw [H0.out]; show (psNx s pat mx63 st00).bind _ = _; rw [H1.out]; show (psRun s pat (psFuel s) .cond st1).bind _ = _; rw [H2.out]; show (psEx s pat 0 r.2).bind _ = _; rw [h3]; rfl
          rw [h3] at C3
          have D3 : Hid (Calls Tryd.prog 93 #[.pointer (some ⟨w1.heap.size, 0, none⟩), .int .i32 0] w3 fun e w' => e = .panicked [{ v := fltV p er, recovered := false }] ∧ w3.grownBy w' (some w1.heap.size)) := C3
          clear C3 h3 H0 H1 H2
          go_wp2_with fail
          refine D3.out.mono ?_
          rintro e w4 ⟨rfl, hg4⟩
          have hb4 := below_of_gr hg4 (Nat.le_of_lt hB3)
          have r4 := r3.below hb4 zB
          refine leaves_cons (f := 89) (args := #[.pointer (some ⟨w.heap.size, 0, none⟩), .pointer (some ⟨w.heap.size + 1, 0, none⟩), .pointer (some ⟨w.heap.size + 1 + 1, 0, none⟩)]) (by simp) (by simp [go_sem]) ?_
          refine (re_pan r4 p er).mono ?_
          rintro e u' w'' ⟨rfl, rfl, k1, k2, k3, hbz⟩
          have HBZ : Hid (Below w.heap.size w w'') := (bb3.trans (hb4.mono (by omega))).trans hbz
          clear hbz
          simp [Leaves, settle, results, Tryd.results60, go_sem, k1, k2, k3]
          rw [HRES.out]
          exact ⟨rfl, HBZ.out⟩
        | ok st3 =>
          have hsz3 : SzOk s st3 := hsz2.ex h3
          have HRES : Hid (XR = if most < st3.nodes.length then .bad s.size 10 else if 6 < (hlsL st3.nodes).length then .bad s.size 10 else .ok st3.nodes) := by show XR = _; rw [← HXR.out]; unfold psRead; rw [H0.out]; show (psNx s pat mx63 st00).bind _ = _; rw [H1.out]; show (psRun s pat (psFuel s) .cond st1).bind _ = _; rw [H2.out]; show (psEx s pat 0 r.2).bind _ = _; rw [h3]; rfl
          rw [h3] at C3
          have D3 : Hid (Calls Tryd.prog 93 #[.pointer (some ⟨w1.heap.size, 0, none⟩), .int .i32 0] w3 fun e w' => (e = .returned (.tuple #[]) ∧ PsM w' w1.heap.size s pat st3 v3) ∧ w3.grownBy w' (some w1.heap.size)) := C3
          clear C3 h3 H0 H1 H2
          go_wp2_with fail
          refine D3.out.mono ?_
          rintro e w4 ⟨⟨rfl, m4⟩, hg4⟩
          have hb4 := below_of_gr hg4 (Nat.le_of_lt hB3)
          have r4 := r3.below hb4 zB
          have bb4 : Below w.heap.size w w4 := bb3.trans (hb4.mono (by omega))
          obtain ⟨ao, cap, rfl, hN⟩ := Rd_of_own m4.own.n
          have c7 : w4.cell? ⟨w1.heap.size, 7, none⟩ = some (.slice ao st3.nodes.length cap) := m4.cell 7
          have hB4 := m4.lt
          clear hg4 hb4 r3 bb3 D3
          have hn1 := hN.bound
          unfold maxLen at hn1
          have hzz := hz
          unfold maxLen at hzz
          by_cases hbig : most < st3.nodes.length
          · rw [if_pos hbig] at HRES
            have gbig : (most : Int) < (st3.nodes.length : Int) := by omega
            generalize st3.nodes.length = nl at *
            clear m4 hN
            go_wp2_with fail
            refine leaves_cons (f := 89) (args := #[.pointer (some ⟨w.heap.size, 0, none⟩), .pointer (some ⟨w.heap.size + 1, 0, none⟩), .pointer (some ⟨w.heap.size + 1 + 1, 0, none⟩)]) (by simp) (by simp [go_sem]) ?_
            refine (re_pan r4 s.size 10).mono ?_
            rintro e u' w'' ⟨rfl, rfl, k1, k2, k3, hbz⟩
            have HBZ : Hid (Below w.heap.size w w'') := (bb4).trans hbz
            clear hbz
            simp [Leaves, settle, results, Tryd.results60, go_sem, k1, k2, k3]
            rw [HRES.out]
            exact ⟨rfl, HBZ.out⟩
          · rw [if_neg hbig] at HRES
            have gbig : ¬ (most : Int) < (st3.nodes.length : Int) := by omega
            have CH := holes_any w4 w1.heap.size s pat st3 _ m4 (by omega) (fun x hx => Nat.le_trans (hsz3 x hx) hz)
            obtain ⟨nh, hnh⟩ : ∃ nh, (hlsL st3.nodes).length = nh := ⟨_, rfl⟩
            rw [hnh] at CH HRES
            have hnh2 : nh ≤ 1000 := by have := hlsL_len st3.nodes; omega
            have D4 : Hid (Calls Tryd.prog 94 #[.pointer (some ⟨w1.heap.size, 0, none⟩)] w4 fun e w' => e = .returned (.int .i64 (nh : Int)) ∧ Below w4.heap.size w4 w') := CH
            clear CH hnh
            by_cases h6 : 6 < nh
            · rw [if_pos h6] at HRES
              have g6 : (6 : Int) < (nh : Int) := by omega
              clear m4 hN
              generalize st3.nodes.length = nl at *
              go_wp2_with (go_at_call 94; refine D4.out.mono ?_; rintro e w5 ⟨rfl, hb5⟩)
              have r5 := r4.below hb5 (by omega)
              refine leaves_cons (f := 89) (args := #[.pointer (some ⟨w.heap.size, 0, none⟩), .pointer (some ⟨w.heap.size + 1, 0, none⟩), .pointer (some ⟨w.heap.size + 1 + 1, 0, none⟩)]) (by simp) (by simp [go_sem]) ?_
              refine (re_pan r5 s.size 10).mono ?_
              rintro e u' w'' ⟨rfl, rfl, k1, k2, k3, hbz⟩
              have HBZ : Hid (Below w.heap.size w w'') := (bb4.trans (hb5.mono bb4.size)).trans hbz
              clear hbz
              simp [Leaves, settle, results, Tryd.results60, go_sem, k1, k2, k3]
              rw [HRES.out]
              exact ⟨rfl, HBZ.out⟩
            · rw [if_neg h6] at HRES
              have g6 : ¬ (6 : Int) < (nh : Int) := by omega
              have HM4 : Hid (PsM w4 w1.heap.size s pat st3 (.slice ao st3.nodes.length cap)) := m4
              obtain ⟨nl, hnl⟩ : ∃ nl, st3.nodes.length = nl := ⟨_, rfl⟩
              have HNL : Hid (st3.nodes.length = nl) := hnl
              rw [hnl] at c7 gbig hbig hn1
              clear m4 hN hnl
              go_wp2_with fail
              refine D4.out.mono ?_
              rintro e w5 ⟨rfl, hb5⟩
              have c75 : w5.cell? ⟨w1.heap.size, 7, none⟩ = some (.slice ao nl cap) := (hb5.cell (p := ⟨w1.heap.size, 7, none⟩) hB4).trans c7
              have r5 := r4.below hb5 (by omega)
              obtain ⟨x0, x1, x2⟩ := id r5
              have q0 : w5.cell? ⟨w.heap.size, 0, none⟩ = some (.slice none 0 0) := by simp [World.cell?, x0]
              have q1 : w5.cell? ⟨w.heap.size + 1, 0, none⟩ = some (.int .i64 0) := by simp [World.cell?, x1]
              have q2 : w5.cell? ⟨w.heap.size + 1 + 1, 0, none⟩ = some (.int .i64 0) := by simp [World.cell?, x2]
              have f0 : w5.frozen? ⟨w.heap.size, 0, none⟩ = false := by simp [World.frozen?, x0]
              have f1 : w5.frozen? ⟨w.heap.size + 1, 0, none⟩ = false := by simp [World.frozen?, x1]
              have f2 : w5.frozen? ⟨w.heap.size + 1 + 1, 0, none⟩ = false := by simp [World.frozen?, x2]
              clear x0 x1 x2 c7
              go_wp2_with fail
              obtain ⟨X, hX⟩ : ∃ X, setR w5 w.heap.size (.slice ao nl cap) = X := ⟨_, rfl⟩
              show bodyPostD _ _ _ _ _ (setR w5 w.heap.size (.slice ao nl cap))
              have k := setR_blk r5 (.slice ao nl cap)
              have hbX : Below w.heap.size w5 (setR w5 w.heap.size (.slice ao nl cap)) := setR_below _
              have hO5 := HM4.out.own.below hb5
              have hOX : OwnA (setR w5 w.heap.size (.slice ao nl cap)) (w1.heap.size + 1) (.slice ao st3.nodes.length cap) st3.nodes := own_setK (by omega) (own_setK (by omega) (own_setK (by omega) hO5))
              have zX : w.heap.size + 3 ≤ (setR w5 w.heap.size (.slice ao nl cap)).heap.size := by
                have := hbX.size
                have := hb5.size
                omega
              rw [hX] at k hbX hOX zX ⊢
              obtain ⟨k1, k2, k3⟩ := k
              have HOX : Hid (OwnA X (w1.heap.size + 1) (.slice ao st3.nodes.length cap) st3.nodes) := hOX
              have HBX : Hid (Below w.heap.size w X) := (bb4.trans (hb5.mono bb4.size)).trans hbX
              clear hX hbX hO5 hOX hb5 r5 q0 q1 q2 f0 f1 f2 c75 HM4 D4
              refine leaves_cons (f := 89) (args := #[.pointer (some ⟨w.heap.size, 0, none⟩), .pointer (some ⟨w.heap.size + 1, 0, none⟩), .pointer (some ⟨w.heap.size + 1 + 1, 0, none⟩)]) (by simp) (by simp [go_sem]) ?_
              refine (re_idle _ _ _ X).mono ?_
              rintro e u' w'' ⟨rfl, rfl, hbz⟩
              have j1 : w''.cell? ⟨w.heap.size, 0, none⟩ = some (.slice ao nl cap) := (hbz.cell (p := ⟨w.heap.size, 0, none⟩) (by show w.heap.size < X.heap.size; omega)).trans k1
              have j2 : w''.cell? ⟨w.heap.size + 1, 0, none⟩ = some (.int .i64 0) := (hbz.cell (p := ⟨w.heap.size + 1, 0, none⟩) (by show w.heap.size + 1 < X.heap.size; omega)).trans k2
              have j3 : w''.cell? ⟨w.heap.size + 1 + 1, 0, none⟩ = some (.int .i64 0) := (hbz.cell (p := ⟨w.heap.size + 1 + 1, 0, none⟩) (by show w.heap.size + 1 + 1 < X.heap.size; omega)).trans k3
              have HBZ : Hid (Below X.heap.size X w'') := hbz
              clear hbz k1 k2 k3
              simp [Leaves, settle, results, Tryd.results60, go_sem, j1, j2, j3]
              rw [HRES.out]
              have hown := HOX.out.below HBZ.out
              exact ⟨⟨ao, cap, by rw [HNL.out], hown.mono (by omega)⟩, HBX.out.trans (HBZ.out.mono HBX.out.size)⟩
end Go.Proofs.YtjmccobblpcbhaaDoor

set_option linter.unusedSimpArgs false
set_option linter.unusedVariables false
namespace Go.Proofs.YtjmccobblpcbhaaDoor
open Go.RowKit Go.Lib Go.Sort

theorem psRead_in (s : ByteArray) (pat : Bool) (most : Nat) : psRead s pat most ≠ .out := by
  unfold psRead
  refine Pr.bind_in ?_ fun u hu => Pr.bind_in (psNx_in _ _ _ _) fun st1 h1 => Pr.bind_in ?_ fun r h2 => Pr.bind_in (psEx_in _ _ _ _) fun st3 h3 => ?_
  · unfold psOpen
    repeat' split
    all_goals (intro h; cases h)
  · have hO : StOk s st1 := by
      have hk := psNx_keeps h1
      refine ⟨?_, by rw [hk.1]; exact Nat.zero_le _⟩
      obtain ⟨t, ht1, ht2⟩ := Pr.bind_ok h1
      cases ht2
      exact psNext_at (Nat.zero_le _) ht1
    exact psRun_in s pat (psFuel s) .cond st1 hO trivial trivial (by unfold psFuel; simp only [Rl.w]; omega)
  · repeat' split
    all_goals (intro h; cases h)

set_option maxHeartbeats 1000000 in
theorem parse_own (w : World) (s : ByteArray) (hz : s.size ≤ maxLen) (hT : Tabs w) :
    Calls Tryd.prog 26 #[.string s] w fun e w' => ReadO w (psRead s false 64) e w' := by
  have C := read_own w s false 64 hz (by omega) hT
  have hno := psRead_in s false 64
  generalize psRead s false 64 = X at *
  cases X with
  | out => exact absurd rfl hno
  | bad p er =>
    have D : Hid (Calls Tryd.prog 60 #[.string s, .bool false, .int .i64 64] w fun e w' => e = .returned (.tuple #[.slice none 0 0, .int .i64 (p : Int), .int .i64 er]) ∧ Below w.heap.size w w') := C
    clear C hno
    go_enter Tryd.func26, Tryd.ntmps26
    go_wp2_with (go_at_call 60; refine D.out.mono ?_; rintro e w1 ⟨rfl, hb1⟩)
    go_ret3
    exact ⟨rfl, hb1⟩
  | ok l =>
    have D : Hid (Calls Tryd.prog 60 #[.string s, .bool false, .int .i64 64] w fun e w' => (∃ ao cap, e = .returned (.tuple #[.slice ao l.length cap, .int .i64 0, .int .i64 0]) ∧ OwnA w' w.heap.size (.slice ao l.length cap) l) ∧ Below w.heap.size w w') := C
    clear C hno
    go_enter Tryd.func26, Tryd.ntmps26
    go_wp2_with (go_at_call 60; refine D.out.mono ?_; rintro e w1 ⟨⟨ao, cap, rfl, hr⟩, hb1⟩)
    go_ret3
    exact ⟨⟨ao, cap, rfl, hr⟩, hb1⟩
theorem parse_any (w : World) (s : ByteArray) (hz : s.size ≤ maxLen) (hT : Tabs w) :
    Calls Tryd.prog 26 #[.string s] w fun e w' => ReadP w (psRead s false 64) e w' := (parse_own w s hz hT).mono fun _ _ h => h.p
end Go.Proofs.YtjmccobblpcbhaaDoor
