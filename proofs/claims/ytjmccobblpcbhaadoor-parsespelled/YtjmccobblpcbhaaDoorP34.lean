/-
  RsW, RlW.
-/
import Derived.Shelf.Unicode.DecodeSlow
import Derived.Laws.RangeAny
import Derived.Shelf.Strings.Builder1
import Derived.Shelf.Small.Utf8
import Derived.Shelf.Small.Bits
import Derived.Shelf.Strings.BuilderF
import Derived.Shelf.Strings.BuilderK
import Derived.Shelf.Strings.BuilderRune
import Derived.Shelf.Utf8.AppendRune
import Derived.Shelf.Strconv.Itoa0
import Derived.Shelf.Strconv.Itoa1
import Derived.Shelf.LaysM
import Derived.Shelf.Strconv.Itoa2
import Derived.Shelf.Strconv.Itoa3
import Derived.Shelf.Strconv.Itoa4
import Derived.Shelf.Strings.Prefix
import Derived.Shelf.Unicode.DecodeAny
import Derived.Test.YtjmccobblpcbhaaDoorProg
import Derived.WalkKit
import Derived.Deep.DeepFit
import Derived.Lib.OthersKept
import Derived.Lib.RuneCountTail
import Derived.Deep.AppendLies
import Derived.Deep.OwnRows
import Derived.Laws.AppendOwnNone
import Derived.Deep.QuietTactic
import Derived.BigQuiet
import Derived.Deep.RegionWith
import Derived.Laws.DeepStrings4
import Derived.Lib.QuietBelow
import Derived.StillTail
import Derived.Lib.MapLaws
import Derived.Sort.Walk0
import Derived.Lib.ItoaNum
import Derived.Maps.OwnSet
import Derived.StringKeys
import Derived.BigCall
import Derived.Lib.LaidTab
import Derived.Deep.Slices
import Derived.Laws.OwnMore
import Derived.Laws.IdiomStrings
import Derived.Test.YtjmccobblpcbhaaDoorP01
import Derived.Test.YtjmccobblpcbhaaDoorP02
import Derived.Test.YtjmccobblpcbhaaDoorP04
import Derived.Test.YtjmccobblpcbhaaDoorP05
import Derived.Test.YtjmccobblpcbhaaDoorP06
import Derived.Test.YtjmccobblpcbhaaDoorP07
import Derived.Test.YtjmccobblpcbhaaDoorP08
import Derived.Test.YtjmccobblpcbhaaDoorP11
import Derived.Test.YtjmccobblpcbhaaDoorP12
import Derived.Test.YtjmccobblpcbhaaDoorP16
import Derived.Test.YtjmccobblpcbhaaDoorP17
import Derived.Test.YtjmccobblpcbhaaDoorP25
import Derived.Test.YtjmccobblpcbhaaDoorP26
import Derived.Test.YtjmccobblpcbhaaDoorP33
set_option linter.unusedSimpArgs false
set_option linter.unusedVariables false
namespace Go.Proofs.YtjmccobblpcbhaaDoor
open Go.RowKit Go.Lib Go.Sort

/-- While the parts are gathered. -/
structure RsMid (w : World) (cs : Array Value) (v : Value) (k : Nat) (ts : List ByteArray) (wr : World) : Prop where
  row : wr.ownsRow (w.heap.size + 1) 9 1 v k (ts.map Value.string)
  blk : wr.heap[w.heap.size]? = some (.cells cs 60 (0, 0))
  below : Below w.heap.size w wr
theorem RsMid.up {w : World} {cs : Array Value} {v : Value} {k : Nat} {ts : List ByteArray} {wr w2 : World} (h : RsMid w cs v k ts wr) (hb : Below wr.heap.size wr w2) : RsMid w cs v k ts w2 :=
  ⟨ownsRow_below h.row hb, (hb.block _ (lt_of_block h.blk)).trans h.blk, h.below.trans (hb.mono h.below.size)⟩
theorem RsMid.app {w : World} {cs : Array Value} {v : Value} {k : Nat} {ts : List ByteArray} {w2 w6 : World} {o : Obj} {g cap : Nat} {s : ByteArray} (h : RsMid w cs v k ts w2)
    (hown : w6.ownsRow (w.heap.size + 1) 9 1 (.slice (some ⟨g, 0, none⟩) (k + 1) cap) (k + 1) (ts.map Value.string ++ [.string s])) (hg : (w2.alloc o).grownBy w6 v.ownBlock) : RsMid w cs (.slice (some ⟨g, 0, none⟩) (k + 1) cap) (k + 1) (ts ++ [s]) w6 := by
  have hs := lt_of_block h.blk
  have hz : (w2.alloc o).heap.size = w2.heap.size + 1 := by simp
  have hne : some w.heap.size ≠ v.ownBlock := fun e => by have := (own_block' h.row _ e.symm).1; omega
  refine ⟨by rw [List.map_append]; exact hown, ?_, (h.below.alloc (by omega) _).grown hg (by omega) (fun j hj => by have := (own_block' h.row j hj).1; omega)⟩
  exact ((hg.block _ (by omega) hne).trans (alloc_old w2 o _ (by omega))).trans h.blk

set_option maxRecDepth 100000 in
set_option maxHeartbeats 8000000 in
theorem refShow_at {l : List Nd} {fr : List Nat} (hbeg : begL (l.map fillN) = some fr) (hnum : ∀ x ∈ l, num64 x.n) (ao : Option Addr) (cap : Nat) : ∀ i, i < l.length → ∀ w : World, Rd w ao cap l →
    Calls Tryd.prog 53 #[.slice ao l.length cap, .int .i64 i] w fun e w' => e = .returned (.string (tx betT l i)) ∧ Below w.heap.size w w' := by
  intro i
  induction i using Nat.strongRecOn with
  | ind i ih =>
  intro hi w hN
  obtain ⟨i0, hin, hz0, hz1, hz2⟩ := info_parts Tryd.infoStr
  have hF := ndF_of bet_ok hbeg hnum hi
  have hA := (ndAt_of hbeg hi).form
  have h64 : l.length ≤ 64 := by have := (snd_bounds hbeg).1; simpa using this
  have HSZ : Hid (∀ j, (tx betT l j).size ≤ 6500) := tx_size bet_ok hbeg hnum
  have HOP : Hid (∀ j, j < l.length → 1 ≤ (l.getD j nd0).op ∧ (l.getD j nd0).op ≤ 18) := fun j hj => (ndF_of bet_ok hbeg hnum hj).op
  have HTX := tx_eq betT l i hi hF.kids
  have hun := hnum (l.getD i nd0) (by simp [hi])
  have IH : Hid (∀ j, j < i → ∀ W, Rd W ao cap l → Calls Tryd.prog 53 #[.slice ao l.length cap, .int .i64 j] W fun e w' => e = .returned (.string (tx betT l j)) ∧ Below W.heap.size W w') := fun j hj W hW => ih j hj (by omega) W hW
  have HN : Hid (Rd w ao cap l) := hN
  obtain ⟨hc1, hc2⟩ := hN.bound
  unfold maxLen at hc2
  obtain ⟨b, o, kv, rfl, hbk, hna⟩ := Rd.cell hN hi
  obtain ⟨hop, hkk, hk3, _, _, hck, hns⟩ := hF
  obtain ⟨c0, c1, c2, c3, hki⟩ := hna
  have h17 := arit_three hA
  have h34 := arit_one hA
  generalize hx : l.getD i nd0 = x at *
  obtain ⟨op, n, nm, kids⟩ := x
  simp only at hop hkk hk3 hck hns c0 c1 c2 c3 hki HTX hun h17 h34
  obtain ⟨ka, kc, rfl, hkl, ⟨hkm, _⟩, hkc⟩ := hki
  unfold maxLen at hkm
  obtain ⟨oq, rfl⟩ : ∃ q : Nat, op = (q : Int) := ⟨op.toNat, by omega⟩
  have HKC : Hid (kids = [] ∨ ∃ b o, ka = some ⟨b, o, none⟩ ∧ b < w.heap.size ∧ ∀ j, j < kids.length → w.cell? ⟨b, o + j, none⟩ = some (.int .i64 (kids.getD j 0))) := hkc
  have HKK : Hid (∀ q ∈ kids, 0 ≤ q ∧ q < (i : Int)) := hkk
  have HTT : Hid (tx betT l i = if kids.length = 0 then leafT ⟨(oq : Int), n, nm, kids⟩ else betT ⟨(oq : Int), n, nm, kids⟩ (kdP betT l kids)) := HTX
  have H17 : Hid (kids.length = 3 → (oq : Int) = 17) := h17
  have H34 : Hid ((oq : Int) = 3 ∨ (oq : Int) = 4 → kids.length = 1) := h34
  have HCK : Hid ((chk nm).2 = 0) := hck
  have HNS : Hid (nm.size ≤ 64) := hns
  have HUN : Hid (num64 n) := hun
  clear hkc hkk HTX h17 h34 hck hns hun hx ih hN hA hnum hbeg
  generalize tx betT l i = R at *
  go_enter Tryd.func53, Tryd.ntmps53
  go_wp2_with fail
  go_loopw [6, 7] (fun v q wr => ∃ k : Nat, k ≤ kids.length ∧ q = .int .i64 k ∧ RsMid w #[.int .i64 (oq : Int), .int .i64 n, .string nm, .slice ka kids.length kc] v k (tksF oq 0 ((kdP betT l kids).take k)) wr) (fun _ q _ => kids.length - (RowKit.intOf q).toNat)
  case atStart => exact ⟨0, by omega, rfl, by simpa [tksF] using World.ownsRow_nil _ _ _ _, nw_blk _ _, (Below.refl _ _).alloc (Nat.le_refl _) _⟩
  case round =>
    obtain ⟨k, hk, rfl, hM⟩ := hrel
    have hbw := hM.below
    have hn9 := lt_of_block hM.blk
    obtain ⟨va, vc, hv⟩ := row_form' hM.row
    subst hv
    have d0 : wr.cell? ⟨w.heap.size, 0, none⟩ = some (.int .i64 (oq : Int)) := by rw [cell_of_heap hM.blk]; rfl
    have d3 : wr.cell? ⟨w.heap.size, 3, none⟩ = some (.slice ka kids.length kc) := by rw [cell_of_heap hM.blk]; rfl
    by_cases hlt : k < kids.length
    · obtain ⟨kb, ko, rfl, hkb, hkcc⟩ : ∃ b o, ka = some ⟨b, o, none⟩ ∧ b < w.heap.size ∧ ∀ j, j < kids.length → w.cell? ⟨b, o + j, none⟩ = some (.int .i64 (kids.getD j 0)) := by
        rcases HKC.out with h | h
        · subst h; simp at hlt
        · exact h
      have hyc := (hbw.cell (p := ⟨kb, ko + k, none⟩) hkb).trans (hkcc k hlt)
      have hy := HKK.out _ (mem_getD kids k hlt)
      have HTK := tks_take oq (kdP betT l kids) k (by rw [kdP_len]; exact hlt)
      rw [kdP_getD _ _ _ _ hlt] at HTK
      obtain ⟨m, hm⟩ : ∃ m : Nat, kids.getD k 0 = (m : Int) := ⟨(kids.getD k 0).toNat, by omega⟩
      rw [hm] at hyc hy HTK
      rw [Int.toNat_natCast] at HTK
      have hNr : Rd wr (some ⟨b, o, none⟩) cap l := HN.out.below hbw hbw.size
      have cR := IH.out m (by omega) wr hNr
      have hsz := HSZ.out m
      have hml : m < l.length := by omega
      have hopy := HOP.out m hml
      have HM : Hid (_) := hM
      have HNR : Hid (Rd wr (some ⟨b, o, none⟩) cap l) := hNr
      have HBW : Hid (Below w.heap.size w wr) := hbw
      clear hkcc hm hM hNr hbw
      go_wp2_with (go_at_call 53; refine cR.mono ?_; rintro e w2 ⟨rfl, hb2⟩)
      have hM2 := HM.out.up hb2
      have hN2 := HNR.out.below hb2 hb2.size
      have hbw2 := hM2.below
      have a0 : w2.cell? ⟨w.heap.size, 0, none⟩ = some (.int .i64 (oq : Int)) := by rw [cell_of_heap hM2.blk]; rfl
      have a1 : w2.cell? ⟨w.heap.size, 1, none⟩ = some (.int .i64 n) := by rw [cell_of_heap hM2.blk]; rfl
      have a2 : w2.cell? ⟨w.heap.size, 2, none⟩ = some (.string nm) := by rw [cell_of_heap hM2.blk]; rfl
      have a3 : w2.cell? ⟨w.heap.size, 3, none⟩ = some (.slice (some ⟨kb, ko, none⟩) kids.length kc) := by rw [cell_of_heap hM2.blk]; rfl
      have ay : w2.cell? ⟨kb, ko + k, none⟩ = some (.int .i64 (m : Int)) := (hb2.cell (p := ⟨kb, ko + k, none⟩) (by show kb < _; omega)).trans hyc
      obtain ⟨b', o', kv', e', _, hna'⟩ := Rd.cell hN2 hml
      cases e'
      obtain ⟨n0, n1, n2, n3, hki'⟩ := hna'
      obtain ⟨kka, kkc, hkv', _⟩ := hki'
      rw [hkv'] at n3
      clear hkv'
      generalize hyy : l.getD m nd0 = y at *
      obtain ⟨yop, yn, ynm, yks⟩ := y
      simp only at hopy n0 n1 n2 n3 HTK
      obtain ⟨q, rfl⟩ : ∃ q : Nat, yop = (q : Int) := ⟨yop.toNat, by omega⟩
      have HCE : Hid (clB oq ⟨(q : Int), yn, ynm, yks⟩ (decide (0 < k)) = brkB oq k ⟨(q : Int), yn, ynm, yks⟩) := closed_eq _ _ _ fun h => by have := H34.out h; omega
      have HM2 : Hid (RsMid w #[.int .i64 (oq : Int), .int .i64 n, .string nm, .slice (some ⟨kb, ko, none⟩) kids.length kc] (.slice va k vc) k (tksF oq 0 ((kdP betT l kids).take k)) w2) := hM2
      have HB2 : Hid (Below w.heap.size w w2) := hbw2
      have HTKH : Hid (_) := HTK
      clear hM2 hN2 hbw2 hyy hyc cR HTK
      generalize tx betT l m = T at *
      have cC : Hid (∀ d os, Calls Tryd.prog 82 #[.agg #[.int .i64 (oq : Int), .int .i64 n, .string nm, .slice (some ⟨kb, ko, none⟩) kids.length kc], .agg #[.int .i64 (q : Int), .int .i64 yn, .string ynm, .slice kka yks.length kkc], .bool (decide (0 < k))] (grow (redrawn w2 d) os) fun e w'' => e = .returned (.bool (brkB oq k ⟨(q : Int), yn, ynm, yks⟩)) ∧ ∃ p : Regrown, w'' = grow (redrawn w2 p.d) p.os) := fun d os => by
        rw [← HCE.out]
        exact Calls.regrown_of (refClosed_any oq q n yn nm ynm yks (some ⟨kb, ko, none⟩) kka kids.length kc yks.length kkc (decide (0 < k)) _ (by omega) (by omega))
      have g0 := cell_regrown a0
      have g1 := cell_regrown a1
      have g2 := cell_regrown a2
      have g3 := cell_regrown a3
      have gy := cell_regrown ay
      have m0 := cell_regrown n0
      have m1 := cell_regrown n1
      have m2 := cell_regrown n2
      have m3 := cell_regrown n3
      generalize hbr : brkB oq k ⟨(q : Int), yn, ynm, yks⟩ = br at *
      go_wp2_with fail
      refine wp_region_quiet_below (by kernel_rfl) (by kernel_rfl) ?_
      iterate 12 (go_big_quiet_step ((go_at_call 82; exact cC.out _ _)))
      refine wpQuiet_nil ?_
      intro _ hw'
      obtain ⟨⟨ds, oss⟩, hw''⟩ := hw'
      subst hw''
      obtain ⟨w5, hw5⟩ : ∃ w5, grow (redrawn w2 ds) oss = w5 := ⟨_, rfl⟩
      rw [hw5]
      have hb5 : Below w2.heap.size w2 w5 := by rw [← hw5]; exact below_regrown w2 ds oss
      have HM5 : Hid (RsMid w #[.int .i64 (oq : Int), .int .i64 n, .string nm, .slice (some ⟨kb, ko, none⟩) kids.length kc] (.slice va k vc) k (tksF oq 0 ((kdP betT l kids).take k)) w5) := HM2.out.up hb5
      have hs5 : w.heap.size + 1 ≤ w5.heap.size := by have := hb5.size; have := HB2.out.size; have := lt_of_block HM5.out.blk; omega
      clear hw5 g0 g1 g2 g3 gy m0 m1 m2 m3 a0 a1 a2 a3 ay n0 n1 n2 n3 cC
      cases br with
      | false =>
        have HE : Hid (tksF oq 0 ((kdP betT l kids).take (k + 1)) = tksF oq 0 ((kdP betT l kids).take k) ++ [T]) := by
          show _ = _
          rw [HTKH.out]; unfold tkT; rw [hbr]; simp
        clear HTKH hbr
        go_wp2_with (at_builtin; refine wpList_append_lies _ rfl (.tmp 42) (.tmp 44) 33 rfl (w.heap.size + 1) 9 i0 (.string ⟨#[]⟩) 1 16 Tryd.underlying33 hin hz0 hz1 hz2 rfl (by decide) _ _ _ rfl (HM5.out.row.alloc _) ⟨w5.heap.size, 0, none⟩ 1 1 [.string T] rfl rfl (cell_news_one _ _ _) (by simp [Value.oneCell']) (by omega) (by unfold maxLen; omega) (by omega) (by simp; omega) _ rfl ?_; intro g6 cap6 w6 hown6 hg6 hat6 hl6)
        exact ⟨⟨k + 1, by omega, by go_num, by rw [HE.out]; exact HM5.out.app hown6 hg6⟩, by simp [RowKit.intOf]; omega⟩
      | true =>
        have HE : Hid (tksF oq 0 ((kdP betT l kids).take (k + 1)) = tksF oq 0 ((kdP betT l kids).take k) ++ [txt [40] ++ T ++ txt [41] ]) := by
          show _ = _
          rw [HTKH.out]; unfold tkT; rw [hbr]; simp
        have ha1 : ∀ W : World, (Op.stringOp .add ⟨#[40]⟩ T).run Tryd.prog W = .ok (.string (txt [40] ++ T)) W := add_ok (txt [40]) T (by rw [txt_size]; simp; omega)
        have ha2 : ∀ W : World, (Op.stringOp .add (txt [40] ++ T) ⟨#[41]⟩).run Tryd.prog W = .ok (.string (txt [40] ++ T ++ txt [41])) W := add_ok (txt [40] ++ T) (txt [41]) (by rw [app_size, txt_size, txt_size]; simp; omega)
        generalize hU : txt [40] ++ T = U at *
        generalize hU2 : U ++ txt [41] = U2 at *
        clear HTKH hbr hU hU2
        go_wp2_with (at_builtin; refine wpList_append_lies _ rfl (.tmp 42) (.tmp 44) 33 rfl (w.heap.size + 1) 9 i0 (.string ⟨#[]⟩) 1 16 Tryd.underlying33 hin hz0 hz1 hz2 rfl (by decide) _ _ _ rfl (HM5.out.row.alloc _) ⟨w5.heap.size, 0, none⟩ 1 1 [.string U2] rfl rfl (cell_news_one _ _ _) (by simp [Value.oneCell']) (by omega) (by unfold maxLen; omega) (by omega) (by simp; omega) _ rfl ?_; intro g6 cap6 w6 hown6 hg6 hat6 hl6)
        exact ⟨⟨k + 1, by omega, by go_num, by rw [HE.out]; exact HM5.out.app hown6 hg6⟩, by simp [RowKit.intOf]; omega⟩
    · have hke : k = kids.length := by omega
      subst hke
      have hrow := hM.row
      rw [← kdP_len betT l kids, List.take_length] at hrow
      rw [kdP_len] at hrow
      have HBW : Hid (Below w.heap.size w wr) := hbw
      have d1 : wr.cell? ⟨w.heap.size, 1, none⟩ = some (.int .i64 n) := by rw [cell_of_heap hM.blk]; rfl
      have d2 : wr.cell? ⟨w.heap.size, 2, none⟩ = some (.string nm) := by rw [cell_of_heap hM.blk]; rfl
      have HKD : Hid (∀ j, j < kids.length → (tkT oq j ((kdP betT l kids).getD j pt0)).size ≤ 6502) := fun j hj => by
        have h1 := tk_size oq j ((kdP betT l kids).getD j pt0)
        rw [kdP_getD _ _ _ _ hj] at h1 ⊢
        have := HSZ.out (kids.getD j 0).toNat
        simp only at h1
        omega
      have cSg : Hid (∀ W, Calls Tryd.prog 84 #[.int .i64 oq] W fun e w' => e = .returned (.string (sgT oq)) ∧ Below W.heap.size W w') := fun W => refSign_any oq (by omega) W
      have hsg := sg_size oq
      clear hM hbw HKK HOP IH HKC
      match kids, hk3 with
      | [], _ =>
        have HR2 : Hid (R = leafT ⟨(oq : Int), n, nm, []⟩) := by show R = _; rw [HTT.out]; rfl
        have cL := refLeaf_any ⟨(oq : Int), n, nm, []⟩ ka 0 kc wr HUN.out HNS.out
        have d3' : wr.cell? ⟨w.heap.size, 3, none⟩ = some (.slice ka 0 kc) := d3
        simp only at cL
        clear hrow HTT HKD cSg hsg
        simp only [List.length_nil] at *
        go_wp2_with (go_at_call 83; refine cL.mono ?_; rintro e w6 ⟨rfl, hb6⟩)
        go_ret
        exact ⟨by rw [HR2.out] <;> rfl, HBW.out.trans (hb6.mono HBW.out.size)⟩
      | [a], _ =>
        have HR2 : Hid (R = sgT oq ++ tkT oq 0 (l.getD a.toNat nd0, tx betT l a.toNat)) := by show R = _; rw [HTT.out]; rfl
        have hrow1 : wr.ownsRow (w.heap.size + 1) 9 1 (.slice va 1 vc) 1 [.string (tkT oq 0 (l.getD a.toNat nd0, tx betT l a.toNat))] := hrow
        obtain ⟨g, cp, hv, hg1, hg2, hg3, e0⟩ := row_cell hrow1 (i := 0) (by omega) (d := .string ⟨#[]⟩)
        cases hv
        have s0 : (tkT oq 0 (l.getD a.toNat nd0, tx betT l a.toNat)).size ≤ 6502 := HKD.out 0 (by simp)
        simp only [List.getD_cons_zero, List.getD_cons_succ] at e0
        clear hrow hrow1 HTT HKD
        generalize tkT oq 0 (l.getD a.toNat nd0, tx betT l a.toNat) = t0 at *
        generalize sgT (oq : Int) = sg at *
        have hA := add_ok sg t0 (by omega)
        have hl1 : ([a] : List Int).length = 1 := rfl
        simp only [hl1] at *
        have cG : Hid (∀ d os, Calls Tryd.prog 84 #[.int .i64 oq] (grow (redrawn wr d) os) fun e w'' => e = .returned (.string sg) ∧ ∃ p : Regrown, w'' = grow (redrawn wr p.d) p.os) := fun d os => Calls.regrown_of (cSg.out _)
        have q0 := cell_regrown d0
        have r0 := cell_regrown e0
        go_wp2_with fail
        refine wp_region_quiet_below (by kernel_rfl) (by kernel_rfl) ?_
        iterate 8 (go_big_quiet_step ((go_at_call 84; exact cG.out _ _)))
        refine wpQuiet_nil ?_
        intro _ hw'
        obtain ⟨⟨ds, oss⟩, hw''⟩ := hw'
        subst hw''
        go_wp2_with fail
        go_ret
        exact ⟨by rw [HR2.out] <;> rfl, HBW.out.trans ((below_regrown wr ds oss).mono HBW.out.size)⟩
      | [a, b], _ =>
        have HR2 : Hid (R = tkT oq 0 (l.getD a.toNat nd0, tx betT l a.toNat) ++ txt [32] ++ sgT oq ++ txt [32] ++ tkT oq 1 (l.getD b.toNat nd0, tx betT l b.toNat)) := by show R = _; rw [HTT.out]; rfl
        have hrow1 : wr.ownsRow (w.heap.size + 1) 9 1 (.slice va 2 vc) 2 [.string (tkT oq 0 (l.getD a.toNat nd0, tx betT l a.toNat)), .string (tkT oq 1 (l.getD b.toNat nd0, tx betT l b.toNat))] := hrow
        obtain ⟨g, cp, hv, hg1, hg2, hg3, e0⟩ := row_cell hrow1 (i := 0) (by omega) (d := .string ⟨#[]⟩)
        cases hv
        obtain ⟨g, cp, hv, hg1, hg2, hg3, e1⟩ := row_cell hrow1 (i := 1) (by omega) (d := .string ⟨#[]⟩)
        cases hv
        have s0 : (tkT oq 0 (l.getD a.toNat nd0, tx betT l a.toNat)).size ≤ 6502 := HKD.out 0 (by simp)
        have s1 : (tkT oq 1 (l.getD b.toNat nd0, tx betT l b.toNat)).size ≤ 6502 := HKD.out 1 (by simp)
        simp only [List.getD_cons_zero, List.getD_cons_succ] at e0 e1
        clear hrow hrow1 HTT HKD
        generalize tkT oq 0 (l.getD a.toNat nd0, tx betT l a.toNat) = t0 at *
        generalize tkT oq 1 (l.getD b.toNat nd0, tx betT l b.toNat) = t1 at *
        generalize sgT (oq : Int) = sg at *
        have hA1 : ∀ W : World, (Op.stringOp .add t0 ⟨#[32]⟩).run Tryd.prog W = .ok (.string (t0 ++ txt [32])) W := add_ok t0 (txt [32]) (by simp only [app_size, txt_size, List.length_cons, List.length_nil]; omega)
        have hA2 := add_ok (t0 ++ txt [32]) sg (by simp only [app_size, txt_size, List.length_cons, List.length_nil]; omega)
        have hA3 : ∀ W : World, (Op.stringOp .add (t0 ++ txt [32] ++ sg) ⟨#[32]⟩).run Tryd.prog W = .ok (.string (t0 ++ txt [32] ++ sg ++ txt [32])) W := add_ok (t0 ++ txt [32] ++ sg) (txt [32]) (by simp only [app_size, txt_size, List.length_cons, List.length_nil]; omega)
        have hA4 := add_ok (t0 ++ txt [32] ++ sg ++ txt [32]) t1 (by simp only [app_size, txt_size, List.length_cons, List.length_nil]; omega)
        have hl1 : ([a, b] : List Int).length = 2 := rfl
        simp only [hl1] at *
        have cG : Hid (∀ d os, Calls Tryd.prog 84 #[.int .i64 oq] (grow (redrawn wr d) os) fun e w'' => e = .returned (.string sg) ∧ ∃ p : Regrown, w'' = grow (redrawn wr p.d) p.os) := fun d os => Calls.regrown_of (cSg.out _)
        have q0 := cell_regrown d0
        have r0 := cell_regrown e0
        have r1 := cell_regrown e1
        go_wp2_with fail
        refine wp_region_quiet_below (by kernel_rfl) (by kernel_rfl) ?_
        iterate 14 (go_big_quiet_step ((go_at_call 84; exact cG.out _ _)))
        refine wpQuiet_nil ?_
        intro _ hw'
        obtain ⟨⟨ds, oss⟩, hw''⟩ := hw'
        subst hw''
        go_wp2_with fail
        go_ret
        exact ⟨by rw [HR2.out] <;> rfl, HBW.out.trans ((below_regrown wr ds oss).mono HBW.out.size)⟩
      | [a, b, c], _ =>
        have HR2 : Hid (R = tkT oq 0 (l.getD a.toNat nd0, tx betT l a.toNat) ++ txt [32, 63, 32] ++ tkT oq 1 (l.getD b.toNat nd0, tx betT l b.toNat) ++ txt [32, 58, 32] ++ tkT oq 2 (l.getD c.toNat nd0, tx betT l c.toNat)) := by show R = _; rw [HTT.out, put_three (oq : Int) (H17.out rfl)]; rfl
        have hrow1 : wr.ownsRow (w.heap.size + 1) 9 1 (.slice va 3 vc) 3 [.string (tkT oq 0 (l.getD a.toNat nd0, tx betT l a.toNat)), .string (tkT oq 1 (l.getD b.toNat nd0, tx betT l b.toNat)), .string (tkT oq 2 (l.getD c.toNat nd0, tx betT l c.toNat))] := hrow
        obtain ⟨g, cp, hv, hg1, hg2, hg3, e0⟩ := row_cell hrow1 (i := 0) (by omega) (d := .string ⟨#[]⟩)
        cases hv
        obtain ⟨g, cp, hv, hg1, hg2, hg3, e1⟩ := row_cell hrow1 (i := 1) (by omega) (d := .string ⟨#[]⟩)
        cases hv
        obtain ⟨g, cp, hv, hg1, hg2, hg3, e2⟩ := row_cell hrow1 (i := 2) (by omega) (d := .string ⟨#[]⟩)
        cases hv
        have s0 : (tkT oq 0 (l.getD a.toNat nd0, tx betT l a.toNat)).size ≤ 6502 := HKD.out 0 (by simp)
        have s1 : (tkT oq 1 (l.getD b.toNat nd0, tx betT l b.toNat)).size ≤ 6502 := HKD.out 1 (by simp)
        have s2 : (tkT oq 2 (l.getD c.toNat nd0, tx betT l c.toNat)).size ≤ 6502 := HKD.out 2 (by simp)
        simp only [List.getD_cons_zero, List.getD_cons_succ] at e0 e1 e2
        clear hrow hrow1 HTT HKD
        generalize tkT oq 0 (l.getD a.toNat nd0, tx betT l a.toNat) = t0 at *
        generalize tkT oq 1 (l.getD b.toNat nd0, tx betT l b.toNat) = t1 at *
        generalize tkT oq 2 (l.getD c.toNat nd0, tx betT l c.toNat) = t2 at *
        generalize sgT (oq : Int) = sg at *
        have hA1 : ∀ W : World, (Op.stringOp .add t0 ⟨#[32, 63, 32]⟩).run Tryd.prog W = .ok (.string (t0 ++ txt [32, 63, 32])) W := add_ok t0 (txt [32, 63, 32]) (by simp only [app_size, txt_size, List.length_cons, List.length_nil]; omega)
        have hA2 := add_ok (t0 ++ txt [32, 63, 32]) t1 (by simp only [app_size, txt_size, List.length_cons, List.length_nil]; omega)
        have hA3 : ∀ W : World, (Op.stringOp .add (t0 ++ txt [32, 63, 32] ++ t1) ⟨#[32, 58, 32]⟩).run Tryd.prog W = .ok (.string (t0 ++ txt [32, 63, 32] ++ t1 ++ txt [32, 58, 32])) W := add_ok (t0 ++ txt [32, 63, 32] ++ t1) (txt [32, 58, 32]) (by simp only [app_size, txt_size, List.length_cons, List.length_nil]; omega)
        have hA4 := add_ok (t0 ++ txt [32, 63, 32] ++ t1 ++ txt [32, 58, 32]) t2 (by simp only [app_size, txt_size, List.length_cons, List.length_nil]; omega)
        have hl1 : ([a, b, c] : List Int).length = 3 := rfl
        simp only [hl1] at *
        go_wp2_with fail
        go_quiet (fail)
        go_wp2_with fail
        go_ret
        exact ⟨by rw [HR2.out] <;> rfl, below_drewN' HBW.out _⟩
end Go.Proofs.YtjmccobblpcbhaaDoor

set_option linter.unusedSimpArgs false
set_option linter.unusedVariables false
namespace Go.Proofs.YtjmccobblpcbhaaDoor
open Go.RowKit Go.Lib

structure RlMid (w : World) (cs : Array Value) (wr : World) : Prop where
  blk : wr.heap[w.heap.size]? = some (.cells cs 60 (0, 0))
  below : Below w.heap.size w wr
theorem RlMid.up {w : World} {cs : Array Value} {wr w2 : World} (h : RlMid w cs wr) (hb : Below wr.heap.size wr w2) : RlMid w cs w2 :=
  ⟨(hb.block _ (lt_of_block h.blk)).trans h.blk, h.below.trans (hb.mono h.below.size)⟩
end Go.Proofs.YtjmccobblpcbhaaDoor
