/-
  climb, meeting, walked.
-/
import Derived.Test.YtfnbkffphpidbaaFoW2
set_option linter.unusedSimpArgs false
set_option linter.unusedVariables false
namespace Go.Proofs.Ytfnbkffphpidbaa
open Go.RowKit Go.Lib Go.Sort

def egC (g : Eg) : List Value := [.int .i64 g.f, .int .i64 g.t, g.w, .bool g.b]
def egCells : List Eg → List Value
  | [] => []
  | x :: r => egC x ++ egCells r
theorem egCells_length (l : List Eg) : (egCells l).length = l.length * 4 := by
  induction l with
  | nil => rfl
  | cons a r ih => simp [egCells, egC, ih]; omega
theorem egCells_append (l m : List Eg) : egCells (l ++ m) = egCells l ++ egCells m := by
  induction l with
  | nil => rfl
  | cons a r ih => simp [egCells, ih]
theorem egCells_at (l : List Eg) (i k : Nat) (hi : i < l.length) (hk : k < 4) : (egCells l)[i * 4 + k]? = (egC (l.getD i eg0))[k]? := by
  induction l generalizing i with
  | nil => simp at hi
  | cons a r ih =>
    cases i with
    | zero =>
      have e : (a :: r).getD 0 eg0 = a := rfl
      rw [e]
      simp only [egCells, Nat.zero_mul, Nat.zero_add]
      rw [List.getElem?_append_left (by simp [egC]; omega)]
    | succ i =>
      have e : (a :: r).getD (i + 1) eg0 = r.getD i eg0 := rfl
      rw [e, ← ih i (by simpa using hi)]
      have e2 : (i + 1) * 4 + k = 4 + (i * 4 + k) := by omega
      rw [e2]
      simp only [egCells]
      rw [List.getElem?_append_right (by simp [egC])]
      congr 1
      simp [egC]
def OwnE (w : World) (base : Nat) (v : Value) (l : List Eg) : Prop := w.ownsRow base 44 4 v l.length (egCells l)
theorem OwnE.below {w w' : World} {base : Nat} {v : Value} {l : List Eg} (h : OwnE w base v l) (hb : Below w.heap.size w w') : OwnE w' base v l := rw_same h (fun b hb' => hb.block b (rw_block h hb').2.1)
theorem OwnE_nil (w : World) (base : Nat) : OwnE w base (.slice none 0 0) [] := World.ownsRow_nil _ _ _ _
theorem OwnE_snoc {w : World} {base : Nat} {v : Value} {l : List Eg} {x : Eg} (h : w.ownsRow base 44 4 v (l.length + 1) (egCells l ++ [.int .i64 x.f, .int .i64 x.t, x.w, .bool x.b])) : OwnE w base v (l ++ [x]) := by
  unfold OwnE; rw [egCells_append]; simpa [egCells, egC] using h
theorem cell_news4' (w : World) (a b c d : Value) (t : TypeId) (H : Nat) (hH : w.heap.size = H) : ∀ j u, [a, b, c, d][j]? = some u → (w.alloc (.cells #[a, b, c, d] t)).cell? ((⟨H, 0, none⟩ : Addr).add j) = some u := by
  intro j u hj
  subst hH
  match j, hj with
  | 0, hj => simp at hj; subst hj; simp [Addr.add]
  | 1, hj => simp at hj; subst hj; simp [Addr.add]
  | 2, hj => simp at hj; subst hj; simp [Addr.add]
  | 3, hj => simp at hj; subst hj; simp [Addr.add]

theorem one4 {f t : Int} {u : Value} {b : Bool} (h : u.oneCell' = true) : ∀ x ∈ [Value.int .i64 f, .int .i64 t, u, .bool b], x.oneCell' = true := by
  intro x hx
  simp only [List.mem_cons, List.not_mem_nil, or_false] at hx
  rcases hx with rfl | rfl | rfl | rfl
  · rfl
  · rfl
  · exact h
  · rfl

/-- The steps up from a to top. -/
structure ClimbI (J : List (Nat × Nat)) (m : List Mv) (a : Nat) (q : List Ed) (top : Nat) : Prop where
  lt : a < m.length
  wk : Wk J a q top
  way : ∃ r, Pa J a (q ++ r) (mA m a).rt
theorem ClimbI.next {J : List (Nat × Nat)} {V : List Value} {m : List Mv} (hI : FoI J V m) {a top : Nat} {q : List Ed} (h : ClimbI J m a q top) (hne : a ≠ top) : ∃ e q', q = e :: q' ∧ (mA m a).up = cz J V e ∧ ClimbI J m (eB J e) q' top := by
  cases q with
  | nil => exact absurd h.wk hne
  | cons e q' =>
    obtain ⟨r, hr⟩ := h.way
    have hn : a ≠ (mA m a).rt := by
      intro e'
      have := hI.fst.loop (a := a) (p := (e :: q') ++ r) (by rw [← e'] at hr; exact hr)
      simp at this
    obtain ⟨e1, q1, h1, h2, h3, h4, h5⟩ := hI.step h.lt hr hn
    simp only [List.cons_append, List.cons.injEq] at h1
    obtain ⟨rfl, rfl⟩ := h1
    exact ⟨e, q', rfl, h2, h3, h.wk.2.2, r, by rw [h4]; exact h5⟩
theorem ClimbI.done {J : List (Nat × Nat)} {V : List Value} {m : List Mv} (hI : FoI J V m) {top : Nat} {q : List Ed} (h : ClimbI J m top q top) : q = [] := by
  obtain ⟨r, hr⟩ := h.way
  exact hI.fst.loop ⟨h.wk, hr.2.left⟩

set_option maxRecDepth 20000 in
set_option maxHeartbeats 2000000 in
theorem fclimb_any (w : World) (p : Nat) (v : Value) (J : List (Nat × Nat)) (V : List Value) (m : List Mv) (a top : Nat) (P : List Ed) (h : FoM w p v m) (hI : FoI J V m) (hC : ClimbI J m a P top) :
    Calls Try.prog 32 #[.pointer (some ⟨p, 0, none⟩), .int .i64 a, .int .i64 top] w fun e w' => ∃ v', e = .returned v' ∧ OwnE w' w.heap.size v' (P.map (cz J V)) ∧ Below w.heap.size w w' := by
  have ha := hC.lt
  obtain ⟨g, cap, rfl, hg, hgl, hc, hm⟩ := h.row ha
  have c0 := h.c0
  have hlt : p < w.heap.size := h.lt
  have HM : Hid (∀ x, x < m.length → MbAt w g (x * 8) (mA m x)) := fun x hx => h.at_ hx
  have HV : Hid (∀ x, IfV (mA m x).up.w) := h.ifv
  have HI : Hid (FoI J V m) := hI
  have HC : Hid (ClimbI J m a P top) := hC
  have hsh : P.length < m.length := by
    obtain ⟨r, hr⟩ := hC.way
    have := hI.short hr ha
    simp at this; omega
  have hle := h.le
  unfold maxLen at hm
  obtain ⟨i0, hi, hz0, hz1, hz2⟩ := info_parts Try.infoEg
  clear h hI hC
  go_enter Try.func32, Try.ntmps32
  go_wp2_with fail
  go_loopw [1, 7] (fun i x wr => ∃ (y : Nat) (q1 q : List Ed), i = .int .i64 y ∧ P = q1 ++ q ∧ ClimbI J m y q top ∧ OwnE wr w.heap.size x (q1.map (cz J V)) ∧ Below w.heap.size w wr) (fun _ x _ => (P.length + 1) - slLen x)
  case atStart => exact ⟨a, [], P, rfl, rfl, HC.out, OwnE_nil _ _, Below.refl _ _⟩
  case round =>
    obtain ⟨y, q1, q, rfl, hPq, hCy, hown, hB⟩ := hrel
    have hsw := hB.size
    by_cases hne : y = top
    · subst hne
      have hq := hCy.done HI.out
      subst hq
      have hq1 : q1 = P := by rw [hPq, List.append_nil]
      subst hq1
      have HO : Hid (OwnE wr w.heap.size u7 (q1.map (cz J V))) := hown
      have HB : Hid (Below w.heap.size w wr) := hB
      clear hown hB hCy hPq HC
      go_wp2_with fail
      go_ret
      exact ⟨_, rfl, HO.out, HB.out⟩
    · obtain ⟨e, q', rfl, hu, hC2⟩ := hCy.next HI.out hne
      have hy := hCy.lt
      have hMb := HM.out y hy
      have hifv := HV.out y
      obtain ⟨d0, d1, d2, d3, d4, d5, d6, d7⟩ := hMb
      rw [hu] at d1 d2 d3 d4 hifv
      have e1 := (hB.cell (p := ⟨g, y * 8 + 1, none⟩) hgl).trans d1
      have e2 := (hB.cell (p := ⟨g, y * 8 + 2, none⟩) hgl).trans d2
      have e3 := (hB.cell (p := ⟨g, y * 8 + 3, none⟩) hgl).trans d3
      have e4 := (hB.cell (p := ⟨g, y * 8 + 4, none⟩) hgl).trans d4
      have hc0 := (hB.cell (p := ⟨p, 0, none⟩) hlt).trans c0
      have hTo : (cz J V e).t = eB J e := rfl
      have HC2 : Hid (ClimbI J m (cz J V e).t q' top) := hC2
      have HPL : Hid (q1.length + 1 + q'.length = P.length) := by rw [Hid, hPq]; simp; omega
      have HPQ : Hid (P = (q1 ++ [e]) ++ q') := by rw [Hid, hPq]; simp
      have HSN : Hid ((q1 ++ [e]).map (cz J V) = q1.map (cz J V) ++ [cz J V e]) := by rw [Hid]; simp
      unfold OwnE at hown
      obtain ⟨xa, xc, rfl⟩ := rw_form hown
      have HLm : Hid ((q1.map (cz J V)).length = q1.length) := by rw [Hid]; simp
      rw [HLm.out] at hown ⊢
      generalize cz J V e = E at *
      obtain ⟨ef, et, ew, eb⟩ := E
      simp only at e1 e2 e3 e4 hifv hTo HC2
      have HB : Hid (Below w.heap.size w wr) := hB
      have hone := hifv.one
      have hcl := hifv.cells
      have hst : ∀ (P : Program) (w : World) (a : Addr) (md : Mode), (store a ew md).run P w = stored P w a ew md := fun P w a md => run_store P w a ew md hone
      have hyI : (y : Int) < (m.length : Int) := by omega
      have hneI : ((y : Int) != (top : Int)) = true := by simp; omega
      have hqb : q1.length + 1 ≤ 1048576 := by have := HPL.out; omega
      have HK : Hid (q1.length < P.length) := by have := HPL.out; rw [Hid]; omega
      clear d0 d1 d2 d3 d4 d5 d6 d7 hu hC2 hCy hB hPq HC hTo hne
      generalize q1.length = k at *
      go_wp2_with (at_builtin; refine wpList_append_lies _ rfl (.tmp 20) (.tmp 22) 36 rfl w.heap.size 44 i0 (.agg #[.int .i64 0, .int .i64 0, .nilIface, .bool false]) 4 40 Try.underlying36 hi hz0 hz1 hz2 rfl (by decide) _ _ _ (by simp [Act.eval, Act.put]) ((hown.alloc _).alloc _) ⟨wr.heap.size + 1, 0, none⟩ 1 1 [.int .i64 ef, .int .i64 et, ew, .bool eb] (by simp [Act.eval, Act.put]) rfl (cell_news4' _ _ _ _ _ _ _ (by simp)) (one4 hone) (by omega) (by unfold maxLen; omega) (by omega) (by simp; omega) _ rfl ?_; intro g8 cap8 w8 hown8 hg8 hat8 hl8; have HB8 : Hid (Below w.heap.size w w8) := ((HB.out.alloc (by omega) _).alloc (by simp; omega) _).grown hg8 (by simp; omega) (fun j hj => (rw_block hown hj).1); have c8 : w8.cell? ⟨wr.heap.size, 1, none⟩ = some (.int .i64 et) := (hg8.cell_far ⟨wr.heap.size, 1, none⟩ (by simp; omega) (fun e => Nat.lt_irrefl _ (rw_block hown e.symm).2.1)).trans (by simp [World.cell?_alloc_past]))
      refine ⟨⟨et, q1 ++ [e], q', rfl, HPQ.out, HC2.out, ?_, HB8.out⟩, by have := HK.out; simp [slLen]; omega⟩
      rw [HSN.out]
      refine OwnE_snoc ?_
      rw [HLm.out]; exact hown8

/-- meeting, in mid-way. -/
structure MeetI (J : List (Nat × Nat)) (m : List Mv) (R a b x y : Nat) (qa qb pa pb : List Ed) : Prop where
  la : x < m.length
  lb : y < m.length
  ra : (mA m x).rt = R
  rb : (mA m y).rt = R
  wa : Pa J a (qa ++ pa) R
  xa : Wk J a qa x
  wb : Pa J b (qb ++ pb) R
  yb : Wk J b qb y
  red : ∃ s, Pa J x s y ∧ Pa J a (qa ++ s ++ rv qb) b
theorem MeetI.px {J : List (Nat × Nat)} {m : List Mv} {R a b x y : Nat} {qa qb pa pb : List Ed} (h : MeetI J m R a b x y qa qb pa pb) : Pa J x pa R := by
  obtain ⟨c, h1, h2⟩ := h.wa.split
  rw [Wk.fun h.xa h1.1]; exact h2
theorem MeetI.py {J : List (Nat × Nat)} {m : List Mv} {R a b x y : Nat} {qa qb pa pb : List Ed} (h : MeetI J m R a b x y qa qb pa pb) : Pa J y pb R := by
  obtain ⟨c, h1, h2⟩ := h.wb.split
  rw [Wk.fun h.yb h1.1]; exact h2
theorem MeetI.stepA {J : List (Nat × Nat)} {V : List Value} {m : List Mv} (hI : FoI J V m) {R a b x y : Nat} {qa qb pa pb : List Ed} (h : MeetI J m R a b x y qa qb pa pb) (hne : x ≠ y) (hd : pb.length ≤ pa.length) :
    ∃ e pa', pa = e :: pa' ∧ (mA m x).up.t = eB J e ∧ MeetI J m R a b (eB J e) y (qa ++ [e]) qb pa' pb := by
  have hx := h.px
  have hy := h.py
  have hn : x ≠ (mA m x).rt := by
    rw [h.ra]
    intro e
    subst e
    have h1 := hI.fst.loop hx
    subst h1
    have : pb = [] := List.length_eq_zero_iff.1 (by simpa using hd)
    subst this
    exact hne hy.1.symm
  obtain ⟨e, q', rfl, h2, h3, h4, h5⟩ := hI.step h.la (p := pa) (by rw [h.ra]; exact hx) hn
  obtain ⟨s, hs, hr⟩ := h.red
  have hc : Cn J (eB J e) y := (hI.cn_iff h3 h.lb).2 (h4.trans (h.ra.trans h.rb.symm))
  obtain ⟨s', hs'⟩ := hc.way
  have hk := hI.fst.deeper hx hy (by simpa using hd) hne hs'
  have := hI.fst.uniq _ _ _ _ hs hk
  subst this
  refine ⟨e, q', rfl, by rw [h2]; rfl, h3, h.lb, h4.trans h.ra, h.rb, by simpa using h.wa, h.xa.append ⟨hx.lt, hx.from_, rfl⟩, h.wb, h.yb, s', hs', by simpa using hr⟩
theorem MeetI.stepB {J : List (Nat × Nat)} {V : List Value} {m : List Mv} (hI : FoI J V m) {R a b x y : Nat} {qa qb pa pb : List Ed} (h : MeetI J m R a b x y qa qb pa pb) (hne : x ≠ y) (hd : pa.length < pb.length) :
    ∃ e pb', pb = e :: pb' ∧ (mA m y).up.t = eB J e ∧ MeetI J m R a b x (eB J e) qa (qb ++ [e]) pa pb' := by
  have hx := h.px
  have hy := h.py
  have hn : y ≠ (mA m y).rt := by
    rw [h.rb]
    intro e
    subst e
    have h1 := hI.fst.loop hy
    subst h1
    simp at hd
  obtain ⟨e, q', rfl, h2, h3, h4, h5⟩ := hI.step h.lb (p := pb) (by rw [h.rb]; exact hy) hn
  obtain ⟨s, hs, hr⟩ := h.red
  have hc : Cn J (eB J e) x := (hI.cn_iff h3 h.la).2 (h4.trans (h.rb.trans h.ra.symm))
  obtain ⟨s', hs'⟩ := hc.way
  have hk := hI.fst.deeper hy hx (by simp at hd; omega) (Ne.symm hne) hs'
  have := hI.fst.uniq _ _ _ _ hs.rev hk
  have hs2 : s = rv s' ++ [tn e] := by rw [← rv_rv s, this, rv_cons]
  subst hs2
  refine ⟨e, q', rfl, by rw [h2]; rfl, h.la, h3, h.ra, h4.trans h.rb, h.wa, h.xa, by simpa using h.wb, h.yb.append ⟨hy.lt, hy.from_, rfl⟩, rv s', hs'.rev, ?_⟩
  rw [rv_append]
  have e1 : rv [e] = [tn e] := rfl
  rw [e1]
  simpa using hr
/-- Where they meet. -/
def MeetP (J : List (Nat × Nat)) (m : List Mv) (a b top : Nat) : Prop := ∃ qa qb, ClimbI J m a qa top ∧ ClimbI J m b qb top ∧ Pa J a (qa ++ rv qb) b
theorem MeetI.done {J : List (Nat × Nat)} {V : List Value} {m : List Mv} (hI : FoI J V m) {R a b x : Nat} {qa qb pa pb : List Ed} (h : MeetI J m R a b x x qa qb pa pb) (ha : a < m.length) (hb : b < m.length) (ra : (mA m a).rt = R) (rb : (mA m b).rt = R) : MeetP J m a b x := by
  obtain ⟨s, hs, hr⟩ := h.red
  have := hI.fst.loop hs
  subst this
  exact ⟨qa, qb, ⟨ha, h.xa, pa, by rw [ra]; exact h.wa⟩, ⟨hb, h.yb, pb, by rw [rb]; exact h.wb⟩, by simpa using hr⟩

set_option maxRecDepth 20000 in
set_option maxHeartbeats 2000000 in
theorem fmeet_any (w : World) (p : Nat) (v : Value) (J : List (Nat × Nat)) (V : List Value) (m : List Mv) (a b : Nat) (h : FoM w p v m) (hI : FoI J V m) (ha : a < m.length) (hb : b < m.length) (hr : (mA m a).rt = (mA m b).rt) :
    Calls Try.prog 31 #[.pointer (some ⟨p, 0, none⟩), .int .i64 a, .int .i64 b] w fun e w' => (∃ top : Nat, e = .returned (.int .i64 top) ∧ MeetP J m a b top) ∧ w' = w := by
  obtain ⟨PA, hPA⟩ := hI.way ha
  obtain ⟨PB, hPB⟩ := hI.way hb
  have cA : Hid (Calls Try.prog 50 #[.pointer (some ⟨p, 0, none⟩), .int .i64 a] w fun e w' => e = .returned (.int .i64 PA.length) ∧ w' = w) := fdepth_any w p v J V m a PA h hI ha hPA
  have cB : Hid (Calls Try.prog 50 #[.pointer (some ⟨p, 0, none⟩), .int .i64 b] w fun e w' => e = .returned (.int .i64 PB.length) ∧ w' = w) := fdepth_any w p v J V m b PB h hI hb hPB
  obtain ⟨g, cap, rfl, hg, hgl, hc, hm⟩ := h.row ha
  have c0 := h.c0
  have HM : Hid (∀ x, x < m.length → w.cell? ⟨g, x * 8 + 2, none⟩ = some (.int .i64 (mA m x).up.t)) := fun x hx => (h.at_ hx).c2
  have HI : Hid (FoI J V m) := hI
  have hle := h.le
  have hshA := hI.short hPA ha
  have hshB := hI.short hPB hb
  unfold maxLen at hm
  have HS : Hid (MeetI J m (mA m a).rt a b a b [] [] PA PB) := by
    obtain ⟨s, hs⟩ := ((hI.cn_iff ha hb).2 hr).way
    exact ⟨ha, hb, rfl, hr.symm, hPA, rfl, by rw [hr]; exact hPB, rfl, s, hs, by simpa [rv] using hs⟩
  have HF : Hid (∀ x qa qb pa pb, MeetI J m (mA m a).rt a b x x qa qb pa pb → MeetP J m a b x) := fun x qa qb pa pb hh => hh.done hI ha hb rfl hr.symm
  generalize (mA m a).rt = R at *
  clear h hI hPA hPB hr
  go_enter Try.func31, Try.ntmps31
  go_wp2_with fail
  refine cA.out.mono ?_
  rintro e w' ⟨rfl, rfl⟩
  go_wp2_with fail
  refine cB.out.mono ?_
  rintro e w'' ⟨rfl, rfl⟩
  go_wp2_with fail
  go_loopw [1, 2, 7, 8] (fun i j da db wr => wr = w'' ∧ ∃ (x y : Nat) (qa qb pa pb : List Ed), i = .int .i64 x ∧ j = .int .i64 y ∧ da = .int .i64 (pa.length : Int) ∧ db = .int .i64 (pb.length : Int) ∧ MeetI J m R a b x y qa qb pa pb) (fun _ _ da db _ => (RowKit.intOf da).toNat + (RowKit.intOf db).toNat)
  case atStart => exact ⟨rfl, a, b, [], [], PA, PB, rfl, rfl, rfl, rfl, HS.out⟩
  case round =>
    obtain ⟨rfl, x, y, qa, qb, pa, pb, rfl, rfl, rfl, rfl, hMt⟩ := hrel
    have hsa := HI.out.short hMt.px hMt.la
    have hsb := HI.out.short hMt.py hMt.lb
    have hxl := hMt.la
    have hyl := hMt.lb
    by_cases hxy : x = y
    · subst hxy
      have HD : Hid (MeetP J m a b x) := HF.out _ _ _ _ _ hMt
      clear hMt HS HF
      go_wp2_with fail
      go_ret
      exact ⟨⟨x, rfl, HD.out⟩, rfl⟩
    · have hne : ((x : Int) != (y : Int)) = true := by simp; omega
      have hxI : (x : Int) < (m.length : Int) := by omega
      have hyI : (y : Int) < (m.length : Int) := by omega
      by_cases hd : pb.length ≤ pa.length
      · obtain ⟨e, pa', rfl, hu, hN⟩ := hMt.stepA HI.out hxy hd
        have c2 := HM.out x hxl
        rw [hu] at c2
        have HN : Hid (MeetI J m R a b (eB J e) y (qa ++ [e]) qb pa' pb) := hN
        generalize eB J e = z at *
        simp only [List.length_cons] at hd hsa ⊢
        have hdI : (pb.length : Int) ≤ ((pa'.length + 1 : Nat) : Int) := by omega
        obtain ⟨k, hk⟩ : ∃ k, pa'.length = k := ⟨_, rfl⟩
        obtain ⟨k2, hk2⟩ : ∃ k2, pb.length = k2 := ⟨_, rfl⟩
        have HK : Hid (pa'.length = k) := hk
        have HK2 : Hid (pb.length = k2) := hk2
        rw [hk] at hd hsa hdI ⊢
        rw [hk2] at hd hsb hdI ⊢
        have hkI : (k2 : Int) ≤ (k : Int) + 1 := by omega
        clear hMt hN hu HS HF hxy hk hk2
        go_wp2_with fail
        refine ⟨⟨by trivial, z, y, qa ++ [e], qb, pa', pb, rfl, rfl, ?_, ?_, HN.out⟩, ?_⟩
        · rw [HK.out]
        · rw [HK2.out]
        · simp [RowKit.intOf]
      · obtain ⟨e, pb', rfl, hu, hN⟩ := hMt.stepB HI.out hxy (by omega)
        have c2 := HM.out y hyl
        rw [hu] at c2
        have HN : Hid (MeetI J m R a b x (eB J e) qa (qb ++ [e]) pa pb') := hN
        generalize eB J e = z at *
        simp only [List.length_cons] at hd hsb ⊢
        obtain ⟨k, hk⟩ : ∃ k, pb'.length = k := ⟨_, rfl⟩
        obtain ⟨k2, hk2⟩ : ∃ k2, pa.length = k2 := ⟨_, rfl⟩
        have HK : Hid (pb'.length = k) := hk
        have HK2 : Hid (pa.length = k2) := hk2
        rw [hk] at hd hsb ⊢
        rw [hk2] at hd hsa ⊢
        have hkI : ¬ ((k : Int) + 1 ≤ (k2 : Int)) := by omega
        clear hMt hN hu HS HF hxy hk hk2
        go_wp2_with fail
        refine ⟨⟨by trivial, x, z, qa, qb ++ [e], pa, pb', rfl, rfl, ?_, ?_, HN.out⟩, ?_⟩
        · rw [HK2.out]
        · rw [HK.out]
        · simp [RowKit.intOf]
end Go.Proofs.Ytfnbkffphpidbaa
