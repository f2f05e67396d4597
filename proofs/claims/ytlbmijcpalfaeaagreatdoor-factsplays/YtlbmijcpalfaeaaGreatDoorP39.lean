/-
  DcM.
-/
import Derived.Test.YtlbmijcpalfaeaaGreatDoorP38
set_option linter.unusedSimpArgs false
set_option linter.unusedVariables false
namespace Go.Proofs.YtlbmijcpalfaeaaGreatDoor
open Go.RowKit Go.Lib

def ceCells : List ((Nd × Int) × Value) → List Value
  | [] => []
  | (x, kv) :: r => .int .i64 x.1.op :: .int .i64 x.1.n :: .string x.1.name :: kv :: .int .i64 x.2 :: ceCells r
theorem ceCells_app (l m : List ((Nd × Int) × Value)) : ceCells (l ++ m) = ceCells l ++ ceCells m := by
  induction l with
  | nil => rfl
  | cons a r ih => obtain ⟨x, kv⟩ := a; simp [ceCells, ih]
theorem ceCells_at (l : List ((Nd × Int) × Value)) (i : Nat) (x : Nd × Int) (kv : Value) (h : l[i]? = some (x, kv)) :
    (ceCells l)[i * 5]? = some (.int .i64 x.1.op) ∧ (ceCells l)[i * 5 + 1]? = some (.int .i64 x.1.n) ∧ (ceCells l)[i * 5 + 2]? = some (.string x.1.name) ∧ (ceCells l)[i * 5 + 3]? = some kv ∧ (ceCells l)[i * 5 + 4]? = some (.int .i64 x.2) := by
  induction l generalizing i with
  | nil => simp at h
  | cons a r ih =>
    obtain ⟨y, kw⟩ := a
    cases i with
    | zero => simp at h; obtain ⟨rfl, rfl⟩ := h; simp [ceCells]
    | succ i =>
      have := ih i (by simpa using h)
      have e : (i + 1) * 5 = i * 5 + 5 := by omega
      rw [e]
      simpa [ceCells] using this
/-- The cells so far. -/
structure CeM (w : World) (l : List (Nd × Int)) (v : Value) (wr : World) : Prop where
  ex : ∃ p : List ((Nd × Int) × Value), wr.ownsRow (w.heap.size + 1) 66 5 v l.length (ceCells p) ∧ p.map (·.1) = l ∧ ∀ q ∈ p, Ints w w.heap.size q.2 q.1.1.kids
theorem CeM.cels {w wr : World} {l : List (Nd × Int)} {v : Value} (h : CeM w l v wr) (hb : Below w.heap.size w wr) : Cels wr wr.heap.size v l := by
  obtain ⟨p, h1, h2, h3⟩ := h.ex
  have hpl : p.length = l.length := by rw [← h2, List.length_map]
  rcases h1.2 with ⟨rfl, e⟩ | ⟨g, cap, cur, rfl, hg, hgb, c1, c2, _⟩
  · exact ⟨none, 0, by rw [e], by omega, by unfold maxLen; omega, .inl (List.length_eq_zero_iff.1 e)⟩
  · refine ⟨_, cap, rfl, c1, c2, ?_⟩
    by_cases h0 : l = []
    · exact .inl h0
    · right
      refine ⟨g, 0, rfl, lt_of_block hgb, fun i hi => ?_⟩
      obtain ⟨⟨x, kv⟩, hx⟩ : ∃ xk, p[i]? = some xk := ⟨p[i]'(by omega), List.getElem?_eq_getElem _⟩
      obtain ⟨a0, a1, a2, a3, a4⟩ := ceCells_at p i x kv hx
      have hr := rdr_own h1
      have ex : l.getD i ce0 = x := by rw [List.getD_eq_getElem?_getD, ← h2, List.getElem?_map, hx]; rfl
      have hk := h3 _ (List.mem_of_getElem? hx)
      simp only at hk
      obtain ⟨ka, kc, e, _⟩ := id hk
      rw [e] at a3 hk
      rw [ex, Nat.zero_add]
      exact ⟨ka, kc, ⟨hr.cell (b := g) rfl a0, hr.cell (b := g) rfl a1, hr.cell (b := g) rfl a2, hr.cell (b := g) rfl a3, hk.below hb hb.size⟩, hr.cell (b := g) rfl a4⟩
theorem Tryz.infoCe : (Tryz.prog.info? 66).map (fun i => (i.zero, i.size, i.bytes)) = some (some (.agg #[.int .i64 0, .int .i64 0, .string ⟨#[]⟩, .slice none 0 0, .int .i64 0]), 5, 64) := by kernel_rfl
theorem cell_news5 {w : World} {a b c d e : Value} {T : TypeId} : ∀ j v, [a, b, c, d, e][j]? = some v → (w.alloc (.cells #[a, b, c, d, e] T)).cell? ((⟨w.heap.size, 0, none⟩ : Addr).add j) = some v := fun j v h => by
  have hb : (w.alloc (.cells #[a, b, c, d, e] T)).heap[w.heap.size]? = some (.cells #[a, b, c, d, e] T (0, 0)) := by rw [Deep.blk_alloc_new]
  exact World.news_of_block hb j v h
theorem cellsF_split : ∀ (cs : List Cls) (q j : Nat), j < cs.length → cellsF q (cs.take (j + 1)) = cellsF q (cs.take j) ++ (clA cs j).nodes.map (fun x => (x, ((q + j : Nat) : Int))) := by
  intro cs
  induction cs with
  | nil => intro q j h; simp at h
  | cons c cs ih =>
    intro q j h
    cases j with
    | zero => simp [cellsF, clA]
    | succ j =>
      simp only [List.take_succ_cons, cellsF]
      rw [ih (q + 1) j (by simpa using h), List.append_assoc, show q + 1 + j = q + (j + 1) by omega]
      rfl
theorem cellsF_le (cs : List Cls) (j : Nat) : (cellsF 0 (cs.take j)).length ≤ mnyL cs := by
  rw [cellsF_len]
  unfold mnyL
  have : ∀ l : List Nat, ∀ j, (l.take j).sum ≤ l.sum := by
    intro l
    induction l with
    | nil => intro j; simp
    | cons a l ih => intro j; cases j with
      | zero => simp
      | succ j => simp only [List.take_succ_cons, List.sum_cons]; have := ih j; omega
  rw [List.map_take]
  exact this _ j
set_option maxRecDepth 20000 in
set_option maxHeartbeats 8000000 in
theorem cells_any (cs : List Cls) (rv : Value) (ca : Option Addr) (cc : Nat) (w : World) (hc : Clss w w.heap.size (.slice ca cs.length cc) cs) (hl : cs.length ≤ 4096) (hm : mnyL cs ≤ 8192) (hrv : ∃ a b c, rv = .slice a b c) :
    Calls Tryz.prog 20 #[.agg #[.slice ca cs.length cc, rv]] w fun e w' => ∃ la lc, e = .returned (.slice la (cellsL cs).length lc) ∧ Cels w' w'.heap.size (.slice la (cellsL cs).length lc) (cellsL cs) ∧ Below w.heap.size w w' := by
  obtain ⟨ra, rn, rc, rfl⟩ := hrv
  obtain ⟨i0, hi0, hz0, hz1, hz2⟩ := info_parts Tryz.infoCe
  obtain ⟨W1, hW1⟩ : ∃ W1, w.alloc (.cells #[.slice ca cs.length cc, .slice ra rn rc] 26) = W1 := ⟨_, rfl⟩
  have hb1 : Below w.heap.size w W1 := by rw [← hW1]; exact (Below.refl _ _).alloc (Nat.le_refl _) _
  have hk1 : W1.heap[w.heap.size]? = some (.cells #[.slice ca cs.length cc, .slice ra rn rc] 26 (0, 0)) := by rw [← hW1, Deep.blk_alloc_new]
  have HP : Sld (∀ V, Below W1.heap.size W1 V → V.cell? ⟨w.heap.size, 0, none⟩ = some (.slice ca cs.length cc) ∧ w.heap.size < V.heap.size ∧ Below w.heap.size w V) := ⟨fun V hV => by
    have := (hV.block _ (lt_of_block hk1)).trans hk1
    exact ⟨by simp [World.cell?, this], lt_of_block this, hb1.trans (hV.mono hb1.size)⟩⟩
  have hs1 : W1.heap.size = w.heap.size + 1 := by rw [← hW1]; simp
  have HS1 := Sld.mk hs1
  have HW1 := Sld.mk hW1
  have HC := Sld.mk hc
  obtain ⟨_, _, d1, hm1, hm2, _⟩ := hc
  injection d1 with d1 d2 d3
  rw [← d3] at hm1 hm2
  unfold maxLen at hm2
  have HLE : Sld (∀ j, (cellsF 0 (cs.take j)).length ≤ 8192) := ⟨fun j => Nat.le_trans (cellsF_le cs j) hm⟩
  have HSP : Sld (∀ j, j < cs.length → cellsF 0 (cs.take (j + 1)) = cellsF 0 (cs.take j) ++ (clA cs j).nodes.map (fun x => (x, (j : Int)))) := ⟨fun j h => by have := cellsF_split cs 0 j h; rwa [Nat.zero_add] at this⟩
  clear hW1 hb1 hk1 d1 d2 d3 hs1
  go_enter Tryz.func20, Tryz.ntmps20
  go_wp2_with fail
  rw [HW1.out]
  go_wp2_with fail
  go_loopw [3, 4] (fun v q wr => ∃ j : Nat, j ≤ cs.length ∧ q = .int .i64 j ∧ Sld (CeM w (cellsF 0 (cs.take j)) v wr) ∧ Sld (Below w.heap.size w wr) ∧ wr.cell? ⟨w.heap.size, 0, none⟩ = some (.slice ca cs.length cc) ∧ w.heap.size < wr.heap.size) (fun _ q _ => cs.length - (RowKit.intOf q).toNat)
  case atStart =>
    obtain ⟨a1, a2, a3⟩ := HP.out W1 (Below.refl _ _)
    exact ⟨0, by omega, rfl, ⟨⟨[], World.ownsRow_nil _ _ _ _, rfl, fun q hq => by cases hq⟩⟩, ⟨a3⟩, a1, a2⟩
  case round =>
    obtain ⟨j, hj, rfl, HM, HB, p0, pl⟩ := hrel
    by_cases hlt : j < cs.length
    · obtain ⟨cb, co, na, nc, rfl, hcb, HCC⟩ : ∃ b o na nc, ca = some ⟨b, o, none⟩ ∧ b < w.heap.size ∧ Sld (w.cell? ⟨b, o + j * 2, none⟩ = some (.slice na (clA cs j).nodes.length nc) ∧ Nodes w w.heap.size (.slice na (clA cs j).nodes.length nc) (clA cs j).nodes) := by
        obtain ⟨ao, cap, h1, _, _, h2⟩ := HC.out
        injection h1 with h1 _ _
        rcases h2 with h2 | ⟨b, o, h2, hbl, h3⟩
        · subst h2; simp at hlt
        · obtain ⟨na, nc, h4, _, h5⟩ := h3 j hlt
          exact ⟨b, o, na, nc, h1.trans h2, hbl, ⟨h4, h5⟩⟩
      have HSJ := Sld.mk (HSP.out j hlt)
      have HLJ : Sld ((cellsF 0 (cs.take j)).length + (clA cs j).nodes.length ≤ 8192) := ⟨by have := HLE.out (j + 1); rw [HSJ.out, List.length_append, List.length_map] at this; exact this⟩
      obtain ⟨wo, hwo⟩ : ∃ wo, wo = wr := ⟨_, rfl⟩
      subst hwo
      obtain ⟨ns, hns⟩ : ∃ ns, (clA cs j).nodes = ns := ⟨_, rfl⟩
      rw [hns] at HCC HSJ HLJ
      obtain ⟨l0, hl0⟩ : ∃ l0, cellsF 0 (cs.take j) = l0 := ⟨_, rfl⟩
      rw [hl0] at HSJ HLJ HM
      clear hns hl0
      obtain ⟨_, hn1, hn2⟩ := HCC.out.2.bnd
      go_wp2_with fail
      go_loopw [3, 5] (fun v q wq => ∃ i : Nat, i ≤ ns.length ∧ q = .int .i64 i ∧ Sld (CeM w (l0 ++ (ns.take i).map (fun x => (x, (j : Int)))) v wq) ∧ Sld (Below w.heap.size w wq) ∧ wq.cell? ⟨w.heap.size, 0, none⟩ = some (.slice (some ⟨cb, co, none⟩) cs.length cc) ∧ w.heap.size < wq.heap.size) (fun _ q _ => ns.length - (RowKit.intOf q).toNat)
      case atStart => exact ⟨0, by omega, rfl, by simpa using HM, HB, p0, pl⟩
      case round =>
        clear HM HB p0 pl
        obtain ⟨i, hi, rfl, HM, HB, p0, pl⟩ := hrel
        have c0 := (HB.out.cell (p := ⟨cb, co + j * 2, none⟩) hcb).trans HCC.out.1
        by_cases hil : i < ns.length
        · obtain ⟨nb, no, ka, kc, rfl, hnb, hNA⟩ := HCC.out.2.cellN hil
          have HKI : Sld (Ints w w.heap.size (.slice ka (ndA ns i).kids.length kc) (ndA ns i).kids) := ⟨hNA.kids⟩
          have d0 := (HB.out.cell (p := ⟨nb, no + i * 4, none⟩) hnb).trans hNA.c0
          have d1 := (HB.out.cell (p := ⟨nb, no + i * 4 + 1, none⟩) hnb).trans hNA.c1
          have d2 := (HB.out.cell (p := ⟨nb, no + i * 4 + 2, none⟩) hnb).trans hNA.c2
          have d3 := (HB.out.cell (p := ⟨nb, no + i * 4 + 3, none⟩) hnb).trans hNA.c3
          have HTK : Sld (l0 ++ (ns.take (i + 1)).map (fun x => (x, (j : Int))) = (l0 ++ (ns.take i).map (fun x => (x, (j : Int)))) ++ [(ndA ns i, (j : Int))]) := ⟨by
            rw [List.take_add_one, List.getElem?_eq_getElem hil, List.map_append, List.append_assoc]
            unfold ndA
            rw [List.getD_eq_getElem?_getD, List.getElem?_eq_getElem hil]; rfl⟩
          have HLL : Sld ((l0 ++ (ns.take i).map (fun x => (x, (j : Int)))).length + 1 ≤ 8192) := ⟨by have := HLJ.out; simp only [List.length_append, List.length_map, List.length_take]; omega⟩
          clear hNA
          generalize ndA ns i = x at *
          obtain ⟨L, hL⟩ : ∃ L, l0 ++ (ns.take i).map (fun x => (x, (j : Int))) = L := ⟨_, rfl⟩
          rw [hL] at HM HTK HLL
          clear hL
          obtain ⟨pp, hown, hpm, hpk⟩ := HM.out.ex
          have HPM := Sld.mk hpm
          have HPK := Sld.mk hpk
          have hLl := HLL.out
          have hsz := HB.out.size
          obtain ⟨n0, hn0⟩ : ∃ n0, L.length = n0 := ⟨_, rfl⟩
          have HN0 := Sld.mk hn0
          rw [hn0] at hown hLl
          clear hpm hpk hn0 HM
          go_wp2_with (at_builtin; refine wpList_append_lies _ rfl (.tmp 24) (.tmp 36) 51 rfl (w.heap.size + 1) 66 i0 (.agg #[.int .i64 0, .int .i64 0, .string ⟨#[]⟩, .slice none 0 0, .int .i64 0]) 5 64 Tryz.underlying51 hi0 hz0 hz1 hz2 rfl (by decide) _ _ _ rfl (hown.alloc _) ⟨wr.heap.size, 0, none⟩ 1 1 [.int .i64 x.op, .int .i64 x.n, .string x.name, .slice ka x.kids.length kc, .int .i64 j] rfl rfl (cell_news5) (by simp [Value.oneCell']) (by omega) (by unfold maxLen; omega) (by omega) (by simp; omega) _ rfl ?_; intro g6 cap6 w6 hown6 hg6 hat6 hl6)
          have HB6 : Sld (Below w.heap.size w w6) := ⟨(HB.out.alloc HB.out.size _).grown hg6 (by simp; omega) (fun q hq => by have := (rw_block hown hq).1; omega)⟩
          have q0 : w6.cell? ⟨w.heap.size, 0, none⟩ = some (.slice (some ⟨cb, co, none⟩) cs.length cc) := by
            have h1 := hg6.block w.heap.size (by simp; omega) (fun e => by have := (rw_block hown e.symm).1; omega)
            have h2 : w6.heap[w.heap.size]? = wr.heap[w.heap.size]? := h1.trans (Deep.blk_alloc_lt _ _ _ pl)
            simp only [World.cell?] at p0 ⊢
            rw [h2]; exact p0
          have q1 : w.heap.size < w6.heap.size := by have := hg6.size; simp at this; omega
          have HM6 : Sld (CeM w (L ++ [(x, (j : Int))]) (.slice (some ⟨g6, 0, none⟩) (n0 + 1) cap6) w6) := ⟨⟨pp ++ [((x, (j : Int)), .slice ka x.kids.length kc)], by
            rw [List.length_append, HN0.out, ceCells_app]; exact hown6, by rw [List.map_append, HPM.out]; rfl, fun q hq => by
            rcases List.mem_append.1 hq with hq | hq
            · exact HPK.out q hq
            · rw [List.mem_singleton] at hq; subst hq; exact HKI.out⟩⟩
          rw [← HTK.out] at HM6
          clear hown6 hg6 hat6 hl6 hown d0 d1 d2 d3
          go_wp2_with fail
          exact ⟨⟨i + 1, by omega, by go_num, HM6, HB6, q0, q1⟩, by simp [RowKit.intOf]; omega⟩
        · have hie : i = ns.length := by omega
          subst hie
          have HM7 : Sld (_) := ⟨HM.out⟩
          rw [List.take_length, ← HSJ.out] at HM7
          clear HM
          go_wp2_with fail
          exact ⟨⟨j + 1, by omega, by go_num, HM7, HB, p0, pl⟩, by simp [RowKit.intOf]; omega⟩
    · have hje : j = cs.length := by omega
      subst hje
      have HE : Sld (CeM w (cellsL cs) _ wr) := ⟨by have := HM.out; rw [List.take_length] at this; exact this⟩
      have HCE := Sld.mk (HE.out.cels HB.out)
      obtain ⟨la, lc, e, _⟩ := id HCE.out
      subst e
      clear HM HE
      go_wp2_with fail
      go_ret
      exact ⟨la, lc, rfl, HCE.out, HB.out⟩
end Go.Proofs.YtlbmijcpalfaeaaGreatDoor
