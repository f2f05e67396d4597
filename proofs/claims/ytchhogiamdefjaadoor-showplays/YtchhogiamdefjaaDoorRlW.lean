/-
  The document's lisp, walked.
-/
import Derived.Test.YtchhogiamdefjaaDoorRfD
import Derived.Test.YtchhogiamdefjaaDoorBtW
set_option linter.unusedSimpArgs false
set_option linter.unusedVariables false
namespace Go.Proofs.YtchhogiamdefjaaDoor
open Go.RowKit Go.Lib

structure RlMid (w : World) (cs : Array Value) (wr : World) : Prop where
  blk : wr.heap[w.heap.size]? = some (.cells cs 49 (0, 0))
  below : Below w.heap.size w wr
theorem RlMid.up {w : World} {cs : Array Value} {wr w2 : World} (h : RlMid w cs wr) (hb : Below wr.heap.size wr w2) : RlMid w cs w2 :=
  ⟨(hb.block _ (lt_of_block h.blk)).trans h.blk, h.below.trans (hb.mono h.below.size)⟩
theorem ahB_le (op : Nat) (l : List Nd) (J : JT) (h : ∀ j, (tx J l j).size ≤ 6500) : ∀ ks : List Int, szs (kdP J l ks) ≤ 6500 * ks.length
  | [] => by simp [kdP, szs]
  | q :: ks => by
    have h1 := ahB_le op l J h ks
    have h2 := h q.toNat
    simp only [kdP, szs, List.map_cons, List.sum_cons, List.length_cons] at *
    omega
theorem szs_take_le (ps : List (Nd × ByteArray)) (k : Nat) : szs (ps.take k) ≤ szs ps := by
  have e : szs ps = szs (ps.take k) + szs (ps.drop k) := by
    unfold szs
    rw [← List.sum_append, ← List.map_append, List.take_append_drop]
  omega

set_option maxRecDepth 100000 in
set_option maxHeartbeats 8000000 in
theorem refLisp_at {l : List Nd} {fr : List Nat} (hbeg : begL (l.map fillN) = some fr) (hnum : ∀ x ∈ l, num64 x.n) (ao : Option Addr) (cap : Nat) : ∀ i, i < l.length → ∀ w : World, Rd w ao cap l →
    Calls Tryd.prog 70 #[.slice ao l.length cap, .int .i64 i] w fun e w' => e = .returned (.string (tx ahdT l i)) ∧ Below w.heap.size w w' := by
  intro i
  induction i using Nat.strongRecOn with
  | ind i ih =>
  intro hi w hN
  have hF := ndF_of ahd_ok hbeg hnum hi
  have h64 : l.length ≤ 64 := by have := (snd_bounds hbeg).1; simpa using this
  have HSZ : Hid (∀ j, (tx ahdT l j).size ≤ 6500) := tx_size ahd_ok hbeg hnum
  have HTX := tx_eq ahdT l i hi hF.kids
  have hun := hnum (l.getD i nd0) (by simp [hi])
  have IH : Hid (∀ j, j < i → ∀ W, Rd W ao cap l → Calls Tryd.prog 70 #[.slice ao l.length cap, .int .i64 j] W fun e w' => e = .returned (.string (tx ahdT l j)) ∧ Below W.heap.size W w') := fun j hj W hW => ih j hj (by omega) W hW
  have HN : Hid (Rd w ao cap l) := hN
  obtain ⟨hc1, hc2⟩ := hN.bound
  unfold maxLen at hc2
  obtain ⟨b, o, kv, rfl, hbk, hna⟩ := Rd.cell hN hi
  obtain ⟨hop, hkk, hk3, _, _, hck, hns⟩ := hF
  obtain ⟨c0, c1, c2, c3, hki⟩ := hna
  generalize hx : l.getD i nd0 = x at *
  obtain ⟨op, n, nm, kids⟩ := x
  simp only at hop hkk hk3 hck hns c0 c1 c2 c3 hki HTX hun
  obtain ⟨ka, kc, rfl, hkl, ⟨hkm, _⟩, hkc⟩ := hki
  unfold maxLen at hkm
  obtain ⟨oq, rfl⟩ : ∃ q : Nat, op = (q : Int) := ⟨op.toNat, by omega⟩
  have HKC : Hid (kids = [] ∨ ∃ b o, ka = some ⟨b, o, none⟩ ∧ b < w.heap.size ∧ ∀ j, j < kids.length → w.cell? ⟨b, o + j, none⟩ = some (.int .i64 (kids.getD j 0))) := hkc
  have HKK : Hid (∀ q ∈ kids, 0 ≤ q ∧ q < (i : Int)) := hkk
  have HTT : Hid (tx ahdT l i = if kids.length = 0 then leafT ⟨(oq : Int), n, nm, kids⟩ else ahdT ⟨(oq : Int), n, nm, kids⟩ (kdP ahdT l kids)) := HTX
  have HNS : Hid (nm.size ≤ 64) := hns
  have HUN : Hid (num64 n) := hun
  have hzz := ahB_le oq l ahdT HSZ.out kids
  clear hkc hkk HTX hck hns hun hx ih hN hnum hbeg
  generalize tx ahdT l i = R at *
  have HW0 : Hid (Below w.heap.size w (w.alloc (.cells #[.int .i64 (oq : Int), .int .i64 n, .string nm, .slice ka kids.length kc] 49))) := (Below.refl _ _).alloc (Nat.le_refl _) _
  have hz0 : (w.alloc (.cells #[.int .i64 (oq : Int), .int .i64 n, .string nm, .slice ka kids.length kc] 49)).heap.size = w.heap.size + 1 := by simp
  by_cases hk0 : kids.length = 0
  · have HR2 : Hid (R = leafT ⟨(oq : Int), n, nm, kids⟩) := by show R = _; rw [HTT.out, if_pos hk0]
    have cL := refLeaf_any ⟨(oq : Int), n, nm, kids⟩ ka kids.length kc (w.alloc (.cells #[.int .i64 (oq : Int), .int .i64 n, .string nm, .slice ka kids.length kc] 49)) HUN.out HNS.out
    have hkz : ((kids.length : Int) == 0) = true := by rw [beq_iff_eq]; omega
    generalize leafT ⟨(oq : Int), n, nm, kids⟩ = R2 at *
    clear HTT hk0 hk3
    go_enter Tryd.func70, Tryd.ntmps70
    go_wp2_with (go_at_call 99; refine cL.mono ?_; rintro e w6 ⟨rfl, hb6⟩)
    go_ret
    exact ⟨by rw [HR2.out] <;> rfl, HW0.out.trans (hb6.mono (by omega))⟩
  · have HR2 : Hid (R = txt (ahB oq (kdP ahdT l kids)) ++ txt [41]) := by show R = _; rw [HTT.out, if_neg hk0, ahd_end ⟨(oq : Int), n, nm, kids⟩ _ oq rfl]
    have hkz : ((kids.length : Int) == 0) = false := by rw [beq_eq_false_iff_ne]; omega
    have cW := refWord_any oq (by omega) (w.alloc (.cells #[.int .i64 (oq : Int), .int .i64 n, .string nm, .slice ka kids.length kc] 49))
    have hwd := wd_size oq
    have HS0 : Hid (txt [40] ++ wdT oq = txt (ahB oq ((kdP ahdT l kids).take 0))) := ahd_start oq _
    have hA0 : ∀ W : World, (Op.stringOp .add ⟨#[40]⟩ (wdT oq)).run Tryd.prog W = .ok (.string (txt [40] ++ wdT oq)) W := add_ok (txt [40]) (wdT oq) (by rw [txt_size]; simp; omega)
    generalize wdT (oq : Int) = wd at *
    clear HTT hk0
    go_enter Tryd.func70, Tryd.ntmps70
    go_wp2_with (go_at_call 72; refine cW.mono ?_; rintro e w1 ⟨rfl, hb1⟩)
    have HM0 : Hid (RlMid w #[.int .i64 (oq : Int), .int .i64 n, .string nm, .slice ka kids.length kc] w1) := RlMid.up (wr := w.alloc (.cells #[.int .i64 (oq : Int), .int .i64 n, .string nm, .slice ka kids.length kc] 49)) ⟨nw_blk _ _, HW0.out⟩ hb1
    clear cW hb1 hA0
    go_loopw [6, 7] (fun vs q wr => ∃ k : Nat, k ≤ kids.length ∧ q = .int .i64 k ∧ vs = .string (txt (ahB oq ((kdP ahdT l kids).take k))) ∧ RlMid w #[.int .i64 (oq : Int), .int .i64 n, .string nm, .slice ka kids.length kc] wr) (fun _ q _ => kids.length - (RowKit.intOf q).toNat)
    case atStart => exact ⟨0, by omega, rfl, by rw [← HS0.out], HM0.out⟩
    case round =>
      obtain ⟨k, hk, rfl, rfl, hM⟩ := hrel
      have hbw := hM.below
      have hn9 := lt_of_block hM.blk
      have d3 : wr.cell? ⟨w.heap.size, 3, none⟩ = some (.slice ka kids.length kc) := by rw [cell_of_heap hM.blk]; rfl
      have hla := ahB_len oq ((kdP ahdT l kids).take k)
      have hlb := szs_take_le (kdP ahdT l kids) k
      have hlc : ((kdP ahdT l kids).take k).length ≤ 3 := by rw [List.length_take, kdP_len]; omega
      have hsA : (txt (ahB oq ((kdP ahdT l kids).take k))).size ≤ 30000 := by rw [txt_size]; omega
      by_cases hlt : k < kids.length
      · obtain ⟨kb, ko, rfl, hkb, hkcc⟩ : ∃ b o, ka = some ⟨b, o, none⟩ ∧ b < w.heap.size ∧ ∀ j, j < kids.length → w.cell? ⟨b, o + j, none⟩ = some (.int .i64 (kids.getD j 0)) := by
          rcases HKC.out with h | h
          · subst h; simp at hlt
          · exact h
        have hyc := (hbw.cell (p := ⟨kb, ko + k, none⟩) hkb).trans (hkcc k hlt)
        have hy := HKK.out _ (mem_getD kids k hlt)
        have HTK := ahd_step oq (kdP ahdT l kids) k (by rw [kdP_len]; exact hlt)
        rw [kdP_getD _ _ _ _ hlt] at HTK
        obtain ⟨m, hm⟩ : ∃ m : Nat, kids.getD k 0 = (m : Int) := ⟨(kids.getD k 0).toNat, by omega⟩
        rw [hm] at hyc hy HTK
        rw [Int.toNat_natCast] at HTK
        simp only at HTK
        have HTKH : Hid (_) := HTK
        have cR := IH.out m (by omega) wr (HN.out.below hbw hbw.size)
        have hsz := HSZ.out m
        have HM : Hid (_) := hM
        clear hkcc hm hM hbw HTK hla hlb hlc
        generalize txt (ahB oq ((kdP ahdT l kids).take k)) = A at *
        generalize tx ahdT l m = T at *
        have hA1 : ∀ W : World, (Op.stringOp .add A ⟨#[32]⟩).run Tryd.prog W = .ok (.string (A ++ txt [32])) W := add_ok A (txt [32]) (by rw [txt_size]; simp; omega)
        have hA2 := add_ok (A ++ txt [32]) T (by rw [app_size, txt_size]; simp; omega)
        go_wp2_with (go_at_call 70; refine cR.mono ?_; rintro e w2 ⟨rfl, hb2⟩)
        exact ⟨⟨k + 1, by omega, by go_num, by rw [← HTKH.out] <;> rfl, HM.out.up hb2⟩, by simp [RowKit.intOf]; omega⟩
      · have hke : k = kids.length := by omega
        subst hke
        have HE : Hid ((kdP ahdT l kids).take kids.length = kdP ahdT l kids) := by show _ = _; rw [← kdP_len ahdT l kids, List.take_length]
        rw [HE.out] at hsA
        have HR3 : Hid (R = txt (ahB oq ((kdP ahdT l kids).take kids.length)) ++ txt [41]) := by show R = _; rw [HE.out]; exact HR2.out
        have hsA' : (txt (ahB oq ((kdP ahdT l kids).take kids.length))).size ≤ 30000 := by rw [HE.out]; exact hsA
        clear hsA hla hlb hlc hM HR2 HE HS0
        generalize txt (ahB oq ((kdP ahdT l kids).take kids.length)) = A at *
        have hA1 : ∀ W : World, (Op.stringOp .add A ⟨#[41]⟩).run Tryd.prog W = .ok (.string (A ++ txt [41])) W := add_ok A (txt [41]) (by rw [txt_size]; simp; omega)
        go_wp2_with fail
        go_ret
        exact ⟨by rw [HR3.out] <;> rfl, hbw⟩
end Go.Proofs.YtchhogiamdefjaaDoor
