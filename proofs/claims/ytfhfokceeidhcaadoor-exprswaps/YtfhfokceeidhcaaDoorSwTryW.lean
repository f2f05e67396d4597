/-
  What tried answers.
-/
import Derived.Test.YtfhfokceeidhcaaDoorSwapW
set_option linter.unusedSimpArgs false
set_option linter.unusedVariables false
namespace Go.Proofs.YtfhfokceeidhcaaDoor
open Go.RowKit Go.Lib

theorem sw_panicking (p : Addr) (x pv : Value) (u : TypeId) (older : List PanicEntry) (w : World) (hc : w.cell? p = some x) (hz : w.frozen? p = false) :
    CallsD Tryd.prog 46 #[.pointer (some p)] (.panicking ({ v := .iface u pv, recovered := false } :: older)) w fun e u' w' =>
      e = .returned (.tuple #[]) ∧ u' = .panicking ({ v := .iface u pv, recovered := true } :: older) ∧ w' = w.setCell p (.iface u pv) := by
  refine callsD_of_wpS Tryd.func46 rfl fun c₀ cs hu => ?_
  apply wpS_region
  simp [wpOpsS, go_sem, recoverD, hu, Tryd.ntmps46, Exit.thenS, hc, hz, bodyPostS, results, Tryd.results46 ]
theorem sw_idle (p : Addr) (x : Value) (w : World) (hc : w.cell? p = some x) (hz : w.frozen? p = false) :
    CallsD Tryd.prog 46 #[.pointer (some p)] .returning w fun e u' w' => e = .returned (.tuple #[]) ∧ u' = .returning ∧ w' = w.setCell p .nilIface := by
  refine callsD_of_wpS Tryd.func46 rfl fun c₀ cs hu => ?_
  apply wpS_region
  simp [wpOpsS, go_sem, recoverD, hu, Tryd.ntmps46, Exit.thenS, hc, hz, bodyPostS, results, Tryd.results46 ]
  cases c₀
  simp_all

/-- The slice reads as the texts qs. -/
def Strs (w : World) (ao : Option Addr) (cap : Nat) (qs : List ByteArray) : Prop :=
  qs.length ≤ cap ∧ cap ≤ maxLen ∧ (qs = [] ∨ ∃ b o, ao = some ⟨b, o, none⟩ ∧ b < w.heap.size ∧ ∀ j, j < qs.length → w.cell? ⟨b, o + j, none⟩ = some (.string (qs.getD j ⟨#[]⟩)))
theorem Strs.below {w w' : World} {ao : Option Addr} {cap : Nat} {qs : List ByteArray} (h : Strs w ao cap qs) (hb : Below w.heap.size w w') : Strs w' ao cap qs := by
  obtain ⟨h1, h2, h3⟩ := h
  refine ⟨h1, h2, ?_⟩
  rcases h3 with h3 | ⟨b, o, e, hlt, hc⟩
  · exact .inl h3
  · exact .inr ⟨b, o, e, Nat.lt_of_lt_of_le hlt hb.size, fun j hj => (hb.cell (p := ⟨b, o + j, none⟩) hlt).trans (hc j hj)⟩
theorem Strs_of_own {w : World} {base : Nat} {v : Value} {qs : List ByteArray} (h : w.ownsRow base 9 1 v qs.length (qs.map Value.string)) : ∃ ao cap, v = .slice ao qs.length cap ∧ Strs w ao cap qs := by
  obtain ⟨h1, h2⟩ := h
  rcases h2 with ⟨rfl, h0⟩ | ⟨g, cap, cur, rfl, hb, hg, hn, hm, hs, ht⟩
  · have : qs = [] := List.length_eq_zero_iff.1 h0
    subst this
    exact ⟨none, 0, rfl, by simp, by simp, .inl rfl⟩
  · refine ⟨_, cap, rfl, hn, hm, .inr ⟨g, 0, rfl, lt_of_block hg, fun j hj => ?_⟩⟩
    have hc : w.cell? ⟨g, 0 + j, none⟩ = cur[j]? := by simp [World.cell?, hg]
    rw [hc, ← Array.getElem?_toList]
    have e : cur.toList[j]? = (cur.toList.take (qs.length * 1))[j]? := by rw [List.getElem?_take, if_pos (by omega)]
    rw [e, ht]
    simp [hj]

/-- What is stored is what lay there. -/
theorem set_same {w : World} {b : Nat} {v : Value} {T : TypeId} (h : w.heap[b]? = some (.cells #[v] T (0, 0))) : ∀ c : Nat, (w.setCell ⟨b, 0, none⟩ v).heap[c]? = w.heap[c]? := by
  intro c
  by_cases e : c = b
  · subst e
    rw [heap_setCell_same w c 0 _ _ v h, h]; simp
  · exact Deep.blk_setCell_other _ _ _ _ e
theorem Strs.same {w w' : World} {ao : Option Addr} {cap : Nat} {qs : List ByteArray} (h : Strs w ao cap qs) (hs : w.heap.size ≤ w'.heap.size) (hb : ∀ b : Nat, b < w.heap.size → w'.heap[b]? = w.heap[b]?) : Strs w' ao cap qs := by
  obtain ⟨h1, h2, h3⟩ := h
  refine ⟨h1, h2, ?_⟩
  rcases h3 with h3 | ⟨b, o, e, hlt, hc⟩
  · exact .inl h3
  · exact .inr ⟨b, o, e, by omega, fun j hj => (World.cell?_of_block (a := ⟨b, o + j, none⟩) (hb b hlt)).trans (hc j hj)⟩

def TriedP (w : World) (l : List Nd) (names : List ByteArray) (stop : Int) (e : Ending) (w' : World) : Prop :=
  Below w.heap.size w w' ∧ ∃ xv er qa qc ov k, k ≤ l.length ∧ e = .returned (.tuple #[xv, .int .i64 er, .slice qa (vsL (l.take k)).length qc, ov]) ∧ Strs w' qa qc (vsL (l.take k)) ∧
   ((k = l.length ∧ (∀ j, j < k → FineAt l names stop j) ∧ er = 0 ∧ ov = .nilIface ∧ ∃ ao cap, xv = .slice ao l.length cap ∧ Rd w' ao cap (swL l names l.length)) ∨
    (∃ j, k = j + 1 ∧ (l.getD j nd0).op = 2 ∧ (∀ i, i < j → FineAt l names stop i) ∧ ((cntV l j + 1 : Nat) : Int) ≠ stop ∧ nameB (ansS names (cntV l j + 1) (l.getD j nd0).name) = false ∧ xv = .slice none 0 0 ∧ er = 7 ∧ ov = .nilIface) ∨
    (∃ j, k = j + 1 ∧ (l.getD j nd0).op = 2 ∧ (∀ i, i < j → FineAt l names stop i) ∧ ((cntV l j + 1 : Nat) : Int) = stop ∧ xv = .slice none 0 0 ∧ er = 0 ∧ ov = stopV stop))

set_option maxRecDepth 20000 in
set_option maxHeartbeats 2000000 in
theorem tried_some (w : World) (ao na : Option Addr) (cap nc : Nat) (l : List Nd) (names : List ByteArray) (stop : Int) (fr : List Nat) (T : SpanCells w) (hR : Rd w ao cap l) (hS : Strs w na nc names) (h : begL l = some fr) :
    Calls Tryd.prog 23 #[.slice ao l.length cap, .slice na names.length nc, .int .i64 stop] w (TriedP w l names stop) := by
  have hmf : ∀ (fn : Fn) (first cap : Array Value) (w : World), (Instr.makeFunc fn first cap).run Tryd.prog w = .ok (.func fn first cap) w := fun _ _ _ _ => rfl
  have HS : Hid (begL l = some fr) := h
  have HST : Hid (Strs w na nc names) := hS
  have HR : Hid (Rd w ao cap l) := hR
  have HT : Hid (SpanCells w) := T
  clear h hS hR T
  go_enter_defers Tryd.func23, Tryd.ntmps23
  go_wp2_with fail
  have hb0 : Below w.heap.size w ((((w.alloc (.cells #[.slice na names.length nc] 33)).alloc (.cells #[.int .i64 stop] 3)).alloc (.cells #[.slice none 0 0] 33)).alloc (.cells #[.nilIface] 20)) := ((((Below.refl _ _).alloc (Nat.le_refl _) _).alloc (by simp) _).alloc (by simp <;> omega) _).alloc (by simp <;> omega) _
  have hsz : ((((w.alloc (.cells #[.slice na names.length nc] 33)).alloc (.cells #[.int .i64 stop] 3)).alloc (.cells #[.slice none 0 0] 33)).alloc (.cells #[.nilIface] 20)).heap.size = w.heap.size + 4 := by simp
  have hO0 : ((((w.alloc (.cells #[.slice na names.length nc] 33)).alloc (.cells #[.int .i64 stop] 3)).alloc (.cells #[.slice none 0 0] 33)).alloc (.cells #[.nilIface] 20)).heap[w.heap.size + 1 + 1 + 1]? = some (.cells #[.nilIface] 20 (0, 0)) := by
    have := Deep.blk_alloc_new (((w.alloc (.cells #[.slice na names.length nc] 33)).alloc (.cells #[.int .i64 stop] 3)).alloc (.cells #[.slice none 0 0] 33)) (.cells #[.nilIface] 20)
    simp only [World.size_alloc] at this; exact this
  have hA0 : ((((w.alloc (.cells #[.slice na names.length nc] 33)).alloc (.cells #[.int .i64 stop] 3)).alloc (.cells #[.slice none 0 0] 33)).alloc (.cells #[.nilIface] 20)).heap[w.heap.size + 1 + 1]? = some (.cells #[.slice none 0 0] 33 (0, 0)) := by
    have := Deep.blk_alloc_new ((w.alloc (.cells #[.slice na names.length nc] 33)).alloc (.cells #[.int .i64 stop] 3)) (.cells #[.slice none 0 0] 33)
    simp only [World.size_alloc] at this
    exact (Deep.blk_alloc_lt _ _ _ (by simp)).trans this
  have hS0 : ((((w.alloc (.cells #[.slice na names.length nc] 33)).alloc (.cells #[.int .i64 stop] 3)).alloc (.cells #[.slice none 0 0] 33)).alloc (.cells #[.nilIface] 20)).heap[w.heap.size + 1]? = some (.cells #[.int .i64 stop] 3 (0, 0)) := by
    have := Deep.blk_alloc_new (w.alloc (.cells #[.slice na names.length nc] 33)) (.cells #[.int .i64 stop] 3)
    simp only [World.size_alloc] at this
    exact (Deep.blk_alloc_lt _ _ _ (by simp <;> omega)).trans ((Deep.blk_alloc_lt _ _ _ (by simp)).trans this)
  have hN0 : ((((w.alloc (.cells #[.slice na names.length nc] 33)).alloc (.cells #[.int .i64 stop] 3)).alloc (.cells #[.slice none 0 0] 33)).alloc (.cells #[.nilIface] 20)).heap[w.heap.size]? = some (.cells #[.slice na names.length nc] 33 (0, 0)) :=
    (Deep.blk_alloc_lt _ _ _ (by simp <;> omega)).trans ((Deep.blk_alloc_lt _ _ _ (by simp <;> omega)).trans ((Deep.blk_alloc_lt _ _ _ (by simp)).trans (Deep.blk_alloc_new _ _)))
  generalize ((((w.alloc (.cells #[.slice na names.length nc] 33)).alloc (.cells #[.int .i64 stop] 3)).alloc (.cells #[.slice none 0 0] 33)).alloc (.cells #[.nilIface] 20)) = W0 at *
  have CS : Hid (Calls Tryd.prog 24 #[.slice ao l.length cap, askF (w.heap.size + 1 + 1) (w.heap.size + 1) w.heap.size] W0 (SwapP W0 (w.heap.size + 1 + 1) l names stop)) := by
    refine swap_some w W0 (w.heap.size + 1 + 1) (w.heap.size + 1) w.heap.size (.slice none 0 0) names stop na nc ao cap l fr HT.out hb0 (by omega) ⟨hA0, World.ownsRow_nil _ _ _ _⟩ (fun b hb => by cases hb) ⟨by omega, by omega, ?_, ?_, ⟨HST.out.1, HST.out.2.1⟩, ?_⟩ (HR.out.below hb0 hb0.size) HS.out
    · simp [World.cell?, hS0]
    · simp [World.cell?, hN0]
    · rcases HST.out.2.2 with h | ⟨b, o, e, hlt, hc⟩
      · exact .inl h
      · exact .inr ⟨b, o, e, by omega, fun j hj => (hb0.cell (p := ⟨b, o + j, none⟩) hlt).trans (hc j hj)⟩
  have HB0 : Hid (Below w.heap.size w W0) := hb0
  unfold askF at CS
  clear hS0 hN0 hA0 hb0
  refine CS.out.mono ?_
  rintro e w2 ⟨va, k, hk, hA2, ⟨hb2, hkp, hyg⟩, hcs⟩
  have hO2 : w2.heap[w.heap.size + 1 + 1 + 1]? = _ := (hkp _ (by omega) (by omega)).trans hO0
  have hcl : w2.cell? ⟨w.heap.size + 1 + 1 + 1, 0, none⟩ = some .nilIface := by simp [World.cell?, hO2]
  have hfr : w2.frozen? ⟨w.heap.size + 1 + 1 + 1, 0, none⟩ = false := by simp [World.frozen?, hO2]
  have hca : w2.cell? ⟨w.heap.size + 1 + 1, 0, none⟩ = some va := by simp [World.cell?, hA2.blk]
  have hfa : w2.frozen? ⟨w.heap.size + 1 + 1, 0, none⟩ = false := by simp [World.frozen?, hA2.blk]
  have HB2 : Hid (Below w.heap.size w w2) := HB0.out.trans (hb2.mono (by omega))
  obtain ⟨qa, qc, hva, hSt⟩ := Strs_of_own hA2.row
  subst hva
  have HST2 : Hid (Strs w2 qa qc (vsL (l.take k))) := hSt
  have HYG : Hid (∀ b, (Value.slice qa (vsL (l.take k)).length qc).ownBlock = some b → W0.heap.size ≤ b) := hyg
  have HK : Hid (k ≤ l.length) := hk
  have hO2s := lt_of_block hO2
  have HA2 : Hid (w2.heap[w.heap.size + 1 + 1]? = some (.cells #[.slice qa (vsL (l.take k)).length qc] 33 (0, 0))) := hA2.blk
  have HO2 : Hid (w2.heap[w.heap.size + 1 + 1 + 1]? = some (.cells #[.nilIface] 20 (0, 0))) := hO2
  clear hO0 hkp hb2 hA2 hSt hyg hO2
  generalize hqn : (vsL (l.take k)).length = qn at *
  rcases hcs with ⟨hke, hfine, xo, xc, rfl, hX⟩ | ⟨j, hj⟩ | ⟨j, hj⟩
  · have HX : Hid (Rd w2 xo xc (swL l names l.length)) := hX
    have HF : Hid (k = l.length ∧ ∀ j, j < k → FineAt l names stop j) := ⟨hke, hfine⟩
    clear hX hke hfine
    go_wp2_with fail
    go_region
    all_goals
      go_wp2_with fail
      obtain ⟨w3, hw3⟩ : ∃ w3, ((w2.setCell ⟨w.heap.size + 1 + 1, 0, none⟩ (.slice qa qn qc)).setCell ⟨w.heap.size + 1 + 1 + 1, 0, none⟩ .nilIface).drew = w3 := ⟨_, rfl⟩
      have hs3 : ∀ b : Nat, w3.heap[b]? = w2.heap[b]? := fun b => by
        rw [← hw3]
        have hA : (w2.setCell ⟨w.heap.size + 1 + 1, 0, none⟩ (.slice qa qn qc)).heap[w.heap.size + 1 + 1 + 1]? = some (.cells #[.nilIface] 20 (0, 0)) := (set_same HA2.out _).trans HO2.out
        exact (set_same hA b).trans (set_same HA2.out b)
      have hb3 : Below w2.heap.size w2 w3 := ⟨by rw [← hw3]; rfl, by rw [← hw3]; rfl, by rw [← hw3]; rfl, by rw [← hw3]; simp, fun b _ => hs3 b⟩
      rw [hw3]
      clear hw3
      have hO3 : w3.heap[w.heap.size + 1 + 1 + 1]? = _ := (hs3 _).trans HO2.out
      have hA3 : w3.heap[w.heap.size + 1 + 1]? = _ := (hs3 _).trans HA2.out
      refine leaves_cons (f := 46) (args := #[.pointer (some ⟨w.heap.size + 1 + 1 + 1, 0, none⟩)]) (by simp) (by simp [go_sem]) ?_
      refine (sw_idle ⟨w.heap.size + 1 + 1 + 1, 0, none⟩ .nilIface w3 (by simp [World.cell?, hO3]) (by simp [World.frozen?, hO3])).mono ?_
      rintro e u' w'' ⟨rfl, rfl, hw''⟩
      have hs4 : ∀ b : Nat, w''.heap[b]? = w3.heap[b]? := fun b => by rw [hw'']; exact set_same hO3 b
      have hb4 : Below w3.heap.size w3 w'' := ⟨by rw [hw'']; rfl, by rw [hw'']; rfl, by rw [hw'']; rfl, by rw [hw'']; simp, fun b _ => hs4 b⟩
      clear hw''
      have hO4 : w''.cell? ⟨w.heap.size + 1 + 1 + 1, 0, none⟩ = some .nilIface := by simp [World.cell?, hs4, hO3]
      have hA4 : w''.cell? ⟨w.heap.size + 1 + 1, 0, none⟩ = some (.slice qa qn qc) := by simp [World.cell?, hs4, hA3]
      have HE : Hid (Below w2.heap.size w2 w'') := hb3.trans (hb4.mono hb3.size)
      simp [Leaves, settle, results, Tryd.results23, go_sem, hO4, hA4]
      refine ⟨HB2.out.trans (HE.out.mono HB2.out.size), _, _, qa, qc, _, k, HK.out, by rw [hqn], HST2.out.below HE.out, .inl ⟨HF.out.1, HF.out.2, rfl, rfl, xo, xc, rfl, HX.out.below HE.out HE.out.size⟩⟩
  · obtain ⟨h1, h2, h3, h4, h5, rfl⟩ := hj
    have HJ : Hid (k = j + 1 ∧ (l.getD j nd0).op = 2 ∧ (∀ i, i < j → FineAt l names stop i) ∧ ((cntV l j + 1 : Nat) : Int) ≠ stop ∧ nameB (ansS names (cntV l j + 1) (l.getD j nd0).name) = false) := ⟨h1, h2, h3, h4, h5⟩
    clear h1 h2 h3 h4 h5
    go_wp2_with fail
    go_region
    all_goals
      go_wp2_with fail
      obtain ⟨w3, hw3⟩ : ∃ w3, ((w2.setCell ⟨w.heap.size + 1 + 1, 0, none⟩ (.slice qa qn qc)).setCell ⟨w.heap.size + 1 + 1 + 1, 0, none⟩ .nilIface).drew = w3 := ⟨_, rfl⟩
      have hs3 : ∀ b : Nat, w3.heap[b]? = w2.heap[b]? := fun b => by
        rw [← hw3]
        have hA : (w2.setCell ⟨w.heap.size + 1 + 1, 0, none⟩ (.slice qa qn qc)).heap[w.heap.size + 1 + 1 + 1]? = some (.cells #[.nilIface] 20 (0, 0)) := (set_same HA2.out _).trans HO2.out
        exact (set_same hA b).trans (set_same HA2.out b)
      have hb3 : Below w2.heap.size w2 w3 := ⟨by rw [← hw3]; rfl, by rw [← hw3]; rfl, by rw [← hw3]; rfl, by rw [← hw3]; simp, fun b _ => hs3 b⟩
      rw [hw3]
      clear hw3
      have hO3 : w3.heap[w.heap.size + 1 + 1 + 1]? = _ := (hs3 _).trans HO2.out
      have hA3 : w3.heap[w.heap.size + 1 + 1]? = _ := (hs3 _).trans HA2.out
      refine leaves_cons (f := 46) (args := #[.pointer (some ⟨w.heap.size + 1 + 1 + 1, 0, none⟩)]) (by simp) (by simp [go_sem]) ?_
      refine (sw_idle ⟨w.heap.size + 1 + 1 + 1, 0, none⟩ .nilIface w3 (by simp [World.cell?, hO3]) (by simp [World.frozen?, hO3])).mono ?_
      rintro e u' w'' ⟨rfl, rfl, hw''⟩
      have hs4 : ∀ b : Nat, w''.heap[b]? = w3.heap[b]? := fun b => by rw [hw'']; exact set_same hO3 b
      have hb4 : Below w3.heap.size w3 w'' := ⟨by rw [hw'']; rfl, by rw [hw'']; rfl, by rw [hw'']; rfl, by rw [hw'']; simp, fun b _ => hs4 b⟩
      clear hw''
      have hO4 : w''.cell? ⟨w.heap.size + 1 + 1 + 1, 0, none⟩ = some .nilIface := by simp [World.cell?, hs4, hO3]
      have hA4 : w''.cell? ⟨w.heap.size + 1 + 1, 0, none⟩ = some (.slice qa qn qc) := by simp [World.cell?, hs4, hA3]
      have HE : Hid (Below w2.heap.size w2 w'') := hb3.trans (hb4.mono hb3.size)
      simp [Leaves, settle, results, Tryd.results23, go_sem, hO4, hA4]
      refine ⟨HB2.out.trans (HE.out.mono HB2.out.size), _, _, qa, qc, _, k, HK.out, by rw [hqn], HST2.out.below HE.out, .inr (.inl ⟨j, HJ.out.1, HJ.out.2.1, HJ.out.2.2.1, HJ.out.2.2.2.1, HJ.out.2.2.2.2, rfl, rfl, rfl⟩)⟩
  · obtain ⟨h1, h2, h3, h4, rfl⟩ := hj
    have HJ : Hid (k = j + 1 ∧ (l.getD j nd0).op = 2 ∧ (∀ i, i < j → FineAt l names stop i) ∧ ((cntV l j + 1 : Nat) : Int) = stop) := ⟨h1, h2, h3, h4⟩
    clear h1 h2 h3 h4
    go_wp2_with fail
    refine leaves_cons (f := 46) (args := #[.pointer (some ⟨w.heap.size + 1 + 1 + 1, 0, none⟩)]) (by simp) (by simp [go_sem]) ?_
    unfold stopV
    refine (sw_panicking ⟨w.heap.size + 1 + 1 + 1, 0, none⟩ .nilIface _ _ [] _ hcl hfr).mono ?_
    rintro e u' w'' ⟨rfl, rfl, hw''⟩
    have hne : w.heap.size + 1 + 1 ≠ w.heap.size + 1 + 1 + 1 := by omega
    have hO4 : w''.cell? ⟨w.heap.size + 1 + 1 + 1, 0, none⟩ = some (.iface 50 (.agg #[.int .i64 stop])) := by
      rw [hw'']; exact World.cell?_setCell_same' _ _ _ (by rw [hcl]; rfl)
    have hA4 : w''.cell? ⟨w.heap.size + 1 + 1, 0, none⟩ = some (.slice qa qn qc) := by
      rw [hw'']
      exact (World.cell?_of_block (a := ⟨w.heap.size + 1 + 1, 0, none⟩) (Deep.blk_setCell_other _ _ _ _ (by show w.heap.size + 1 + 1 ≠ w.heap.size + 1 + 1 + 1; omega))).trans hca
    have hst4 : Strs w'' qa qc (vsL (l.take k)) := by
      rw [hw'']
      obtain ⟨g1, g2, g3⟩ := HST2.out
      refine ⟨g1, g2, ?_⟩
      rcases g3 with g3 | ⟨b, o, e, hlt, hc⟩
      · exact .inl g3
      · refine .inr ⟨b, o, e, by simpa using hlt, fun i hi => (World.cell?_of_block (a := ⟨b, o + i, none⟩) (Deep.blk_setCell_other _ _ _ _ ?_)).trans (hc i hi)⟩
        show b ≠ w.heap.size + 1 + 1 + 1
        have := HYG.out b (by rw [e]; rfl)
        omega
    have HB4 : Hid (Below w.heap.size w w'') := by rw [hw'']; exact HB2.out.setCell (by show w.heap.size ≤ w.heap.size + 1 + 1 + 1; omega) _
    clear hw''
    simp [Leaves, settle, results, Tryd.results23, go_sem, hO4, hA4]
    refine ⟨HB4.out, _, _, qa, qc, _, k, HK.out, by rw [hqn]; rfl, hst4, .inr (.inr ⟨j, HJ.out.1, HJ.out.2.1, HJ.out.2.2.1, HJ.out.2.2.2, rfl, rfl, rfl⟩)⟩

set_option maxRecDepth 20000 in
set_option maxHeartbeats 2000000 in
theorem tried_none (w : World) (ao na : Option Addr) (cap nc : Nat) (l : List Nd) (names : List ByteArray) (stop : Int) (T : SpanCells w) (hR : Rd w ao cap l) (h : begL l = none) :
    Calls Tryd.prog 23 #[.slice ao l.length cap, .slice na names.length nc, .int .i64 stop] w fun e w' => e = .returned (.tuple #[.slice none 0 0, .int .i64 1, .slice none 0 0, .nilIface]) ∧ Below w.heap.size w w' := by
  have hmf : ∀ (fn : Fn) (first cap : Array Value) (w : World), (Instr.makeFunc fn first cap).run Tryd.prog w = .ok (.func fn first cap) w := fun _ _ _ _ => rfl
  have HS : Hid (begL l = none) := h
  have HR : Hid (Rd w ao cap l) := hR
  have HT : Hid (SpanCells w) := T
  clear h hR T
  go_enter_defers Tryd.func23, Tryd.ntmps23
  go_wp2_with fail
  have hb0 : Below w.heap.size w ((((w.alloc (.cells #[.slice na names.length nc] 33)).alloc (.cells #[.int .i64 stop] 3)).alloc (.cells #[.slice none 0 0] 33)).alloc (.cells #[.nilIface] 20)) := ((((Below.refl _ _).alloc (Nat.le_refl _) _).alloc (by simp) _).alloc (by simp <;> omega) _).alloc (by simp <;> omega) _
  have hsz : ((((w.alloc (.cells #[.slice na names.length nc] 33)).alloc (.cells #[.int .i64 stop] 3)).alloc (.cells #[.slice none 0 0] 33)).alloc (.cells #[.nilIface] 20)).heap.size = w.heap.size + 4 := by simp
  have hO0 : ((((w.alloc (.cells #[.slice na names.length nc] 33)).alloc (.cells #[.int .i64 stop] 3)).alloc (.cells #[.slice none 0 0] 33)).alloc (.cells #[.nilIface] 20)).heap[w.heap.size + 1 + 1 + 1]? = some (.cells #[.nilIface] 20 (0, 0)) := by
    have := Deep.blk_alloc_new (((w.alloc (.cells #[.slice na names.length nc] 33)).alloc (.cells #[.int .i64 stop] 3)).alloc (.cells #[.slice none 0 0] 33)) (.cells #[.nilIface] 20)
    simp only [World.size_alloc] at this; exact this
  have hA0 : ((((w.alloc (.cells #[.slice na names.length nc] 33)).alloc (.cells #[.int .i64 stop] 3)).alloc (.cells #[.slice none 0 0] 33)).alloc (.cells #[.nilIface] 20)).heap[w.heap.size + 1 + 1]? = some (.cells #[.slice none 0 0] 33 (0, 0)) := by
    have := Deep.blk_alloc_new ((w.alloc (.cells #[.slice na names.length nc] 33)).alloc (.cells #[.int .i64 stop] 3)) (.cells #[.slice none 0 0] 33)
    simp only [World.size_alloc] at this
    exact (Deep.blk_alloc_lt _ _ _ (by simp)).trans this
  generalize ((((w.alloc (.cells #[.slice na names.length nc] 33)).alloc (.cells #[.int .i64 stop] 3)).alloc (.cells #[.slice none 0 0] 33)).alloc (.cells #[.nilIface] 20)) = W0 at *
  refine (swap_none W0 ao cap l _ (HT.out.below hb0) (HR.out.below hb0 hb0.size) HS.out).mono ?_
  rintro e w2 ⟨rfl, hb2⟩
  have hO2 : w2.heap[w.heap.size + 1 + 1 + 1]? = _ := (hb2.block _ (by omega)).trans hO0
  have hA2 : w2.heap[w.heap.size + 1 + 1]? = _ := (hb2.block _ (by omega)).trans hA0
  have hcl : w2.cell? ⟨w.heap.size + 1 + 1 + 1, 0, none⟩ = some .nilIface := by simp [World.cell?, hO2]
  have hfr : w2.frozen? ⟨w.heap.size + 1 + 1 + 1, 0, none⟩ = false := by simp [World.frozen?, hO2]
  have hca : w2.cell? ⟨w.heap.size + 1 + 1, 0, none⟩ = some (.slice none 0 0) := by simp [World.cell?, hA2]
  have hfa : w2.frozen? ⟨w.heap.size + 1 + 1, 0, none⟩ = false := by simp [World.frozen?, hA2]
  have HB2 : Hid (Below w.heap.size w w2) := hb0.trans (hb2.mono hb0.size)
  have HA2 : Hid (w2.heap[w.heap.size + 1 + 1]? = some (.cells #[.slice none 0 0] 33 (0, 0))) := hA2
  have HO2 : Hid (w2.heap[w.heap.size + 1 + 1 + 1]? = some (.cells #[.nilIface] 20 (0, 0))) := hO2
  have hO2s := lt_of_block hO2
  clear hO0 hA0 hb2 hb0 hA2 hO2
  go_wp2_with fail
  go_region
  all_goals
    go_wp2_with fail
    obtain ⟨w3, hw3⟩ : ∃ w3, ((w2.setCell ⟨w.heap.size + 1 + 1, 0, none⟩ (.slice none 0 0)).setCell ⟨w.heap.size + 1 + 1 + 1, 0, none⟩ .nilIface).drew = w3 := ⟨_, rfl⟩
    have hs3 : ∀ b : Nat, w3.heap[b]? = w2.heap[b]? := fun b => by
      rw [← hw3]
      have hA : (w2.setCell ⟨w.heap.size + 1 + 1, 0, none⟩ (.slice none 0 0)).heap[w.heap.size + 1 + 1 + 1]? = some (.cells #[.nilIface] 20 (0, 0)) := (set_same HA2.out _).trans HO2.out
      exact (set_same hA b).trans (set_same HA2.out b)
    have hb3 : Below w2.heap.size w2 w3 := ⟨by rw [← hw3]; rfl, by rw [← hw3]; rfl, by rw [← hw3]; rfl, by rw [← hw3]; simp, fun b _ => hs3 b⟩
    rw [hw3]
    clear hw3
    have hO3 : w3.heap[w.heap.size + 1 + 1 + 1]? = _ := (hs3 _).trans HO2.out
    have hA3 : w3.heap[w.heap.size + 1 + 1]? = _ := (hs3 _).trans HA2.out
    refine leaves_cons (f := 46) (args := #[.pointer (some ⟨w.heap.size + 1 + 1 + 1, 0, none⟩)]) (by simp) (by simp [go_sem]) ?_
    refine (sw_idle ⟨w.heap.size + 1 + 1 + 1, 0, none⟩ .nilIface w3 (by simp [World.cell?, hO3]) (by simp [World.frozen?, hO3])).mono ?_
    rintro e u' w'' ⟨rfl, rfl, hw''⟩
    have hs4 : ∀ b : Nat, w''.heap[b]? = w3.heap[b]? := fun b => by rw [hw'']; exact set_same hO3 b
    have hb4 : Below w3.heap.size w3 w'' := ⟨by rw [hw'']; rfl, by rw [hw'']; rfl, by rw [hw'']; rfl, by rw [hw'']; simp, fun b _ => hs4 b⟩
    clear hw''
    have hO4 : w''.cell? ⟨w.heap.size + 1 + 1 + 1, 0, none⟩ = some .nilIface := by simp [World.cell?, hs4, hO3]
    have hA4 : w''.cell? ⟨w.heap.size + 1 + 1, 0, none⟩ = some (.slice none 0 0) := by simp [World.cell?, hs4, hA3]
    have HE : Hid (Below w2.heap.size w2 w'') := hb3.trans (hb4.mono hb3.size)
    simp [Leaves, settle, results, Tryd.results23, go_sem, hO4, hA4]
    exact HB2.out.trans (HE.out.mono HB2.out.size)
end Go.Proofs.YtfhfokceeidhcaaDoor
