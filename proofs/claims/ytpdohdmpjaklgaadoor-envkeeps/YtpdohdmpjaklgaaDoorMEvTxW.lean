/-
  Text, and Text of the document, walked.
-/
import Derived.Test.YtpdohdmpjaklgaaDoorMEvTxP
import Derived.Test.YtpdohdmpjaklgaaDoorMEvSmW
import Derived.Test.YtpdohdmpjaklgaaDoorMIterW
import Derived.Test.YtpdohdmpjaklgaaDoorMQTail
import Derived.Deep.RegionHeld3
set_option linter.unusedSimpArgs false
set_option linter.unusedVariables false
namespace Go.Proofs.YtpdohdmpjaklgaaDoor
open Go.RowKit Go.Lib Go.Sort

set_option maxHeartbeats 1000000 in
theorem nameless_any (x : Bd) (w : World) (hT : SpanCells w) :
    Calls Tryd.prog 25 #[bdV x] w fun e W' => e = .returned (.bool (!nameB x.1)) ∧ Below w.heap.size w W' := by
  obtain ⟨nm, n⟩ := x
  have c1 : Hid (∀ W, SpanCells W → Calls Tryd.prog 22 #[.string nm] W fun e w' => e = .returned (.bool (nameB nm)) ∧ Below W.heap.size W w') := fun W h => name_spans nm W h
  have HT : Hid (SpanCells (w.alloc (.cells #[.string nm, .int .i64 n] 38))) := hT.below ((Below.refl _ w).alloc (Nat.le_refl _) _)
  clear hT
  generalize nameB nm = R at *
  go_enter Tryd.func25, Tryd.ntmps25
  go_wp2_with (go_at_call 22; refine (c1.out _ HT.out).mono ?_; rintro e w2 ⟨rfl, b2⟩)
  go_ret
  exact ⟨rfl, ((Below.refl _ w).alloc (Nat.le_refl _) _).trans (b2.mono (by simp))⟩

set_option maxHeartbeats 1000000 in
theorem indexFunc_any (ao : Option Addr) (cap : Nat) (l : List Bd) (w : World) (hT : SpanCells w) (hI : Bds w ao cap l) :
    Calls Tryd.prog 47 #[.slice ao l.length cap, .func (.func 25) #[] #[]] w fun e W' => (∃ r : Int, e = .returned (.int .i64 r) ∧ decide (0 ≤ r) = l.any (fun x => !nameB x.1) ∧ -1 ≤ r) ∧ Below w.heap.size w W' := by
  obtain ⟨⟨hl, hm, _⟩, _⟩ := id hI
  unfold maxLen at hm
  have HI : Hid (Bds w ao cap l) := hI
  have HT : Hid (SpanCells w) := hT
  clear hI hT
  obtain ⟨R, hR⟩ : ∃ R, l.any (fun x => !nameB x.1) = R := ⟨_, rfl⟩
  have HR : Hid (l.any (fun x => !nameB x.1) = R) := hR
  rw [hR]
  clear hR
  go_enter Tryd.func47, Tryd.ntmps47
  go_wp2
  go_loopw [8] (fun i wr => ∃ k : Nat, k ≤ l.length ∧ i = .int .i64 k ∧ Below w.heap.size w wr ∧ Hid (∀ j, j < k → nameB (l.getD j bd0).1 = true)) (fun i _ => l.length - (RowKit.intOf i).toNat)
  case atStart => exact ⟨0, by omega, rfl, Below.refl _ _, fun _ h => absurd h (by omega)⟩
  case round =>
    obtain ⟨k, hk, rfl, hB, HK⟩ := hrel
    by_cases hlt : k < l.length
    · obtain ⟨b, o, rfl, hb, ⟨c0, c1⟩⟩ := (HI.out.below hB).at_ hlt
      have hkl2 : (k : Int) < (l.length : Int) := by omega
      obtain ⟨x, hx⟩ : ∃ x, l.getD k bd0 = x := ⟨_, rfl⟩
      rw [hx] at c0 c1
      have HX : Hid (l.getD k bd0 = x) := hx
      clear hx
      have cN : Hid (Calls Tryd.prog 25 #[bdV x] wr fun e W' => e = .returned (.bool (!nameB x.1)) ∧ Below wr.heap.size wr W') := nameless_any x wr (HT.out.below hB)
      have HB : Hid (Below w.heap.size w wr) := hB
      obtain ⟨nm, n⟩ := x
      simp only at c0 c1
      simp only [bdV] at cN
      cases hn : nameB nm
      · rw [hn] at cN
        have HN : Hid (nameB nm = false) := hn
        clear hn hB
        go_wp2_with (go_at_call 25; refine cN.out.mono ?_; rintro e w2 ⟨rfl, b2⟩)
        go_ret
        refine ⟨⟨(k : Int), rfl, ?_, by omega⟩, HB.out.trans (b2.mono HB.out.size)⟩
        rw [← HR.out, decide_eq_true (by omega)]
        exact ((any_not l).1 ⟨k, hlt, by rw [HX.out]; exact HN.out⟩).symm
      · rw [hn] at cN
        have HN : Hid (nameB nm = true) := hn
        clear hn hB
        go_wp2_with (go_at_call 25; refine cN.out.mono ?_; rintro e w2 ⟨rfl, b2⟩)
        go_roundw
        case rel => exact ⟨k + 1, by omega, by simp, HB.out.trans (b2.mono HB.out.size), fun j hj => by
          by_cases h : j < k
          · exact HK.out j h
          · obtain rfl : j = k := by omega
            rw [HX.out]; exact HN.out⟩
        case measure => simp [RowKit.intOf]; omega
    · obtain rfl : k = l.length := by omega
      go_wp2
      go_ret
      refine ⟨⟨-1, rfl, ?_, by omega⟩, hB⟩
      rw [← HR.out, decide_eq_false (by omega)]
      cases hx : l.any (fun x => !nameB x.1)
      · rfl
      · obtain ⟨k, hk, h⟩ := (any_not l).2 hx
        rw [HK.out k hk] at h; cases h

set_option maxHeartbeats 1000000 in
theorem containsFunc_any (ao : Option Addr) (cap : Nat) (l : List Bd) (w : World) (hT : SpanCells w) (hI : Bds w ao cap l) :
    Calls Tryd.prog 24 #[.slice ao l.length cap, .func (.func 25) #[] #[]] w fun e W' => e = .returned (.bool (l.any (fun x => !nameB x.1))) ∧ Below w.heap.size w W' := by
  have c := indexFunc_any ao cap l w hT hI
  obtain ⟨R, hR⟩ : ∃ R, l.any (fun x => !nameB x.1) = R := ⟨_, rfl⟩
  rw [hR] at c ⊢
  clear hR
  have cH : Hid (Calls Tryd.prog 47 #[.slice ao l.length cap, .func (.func 25) #[] #[]] w fun e W' => (∃ r : Int, e = .returned (.int .i64 r) ∧ decide (0 ≤ r) = R ∧ -1 ≤ r) ∧ Below w.heap.size w W') := c
  clear c
  go_enter Tryd.func24, Tryd.ntmps24
  go_wp2_with (go_at_call 47; refine cH.out.mono ?_; rintro e w2 ⟨⟨r, rfl, hr, hr1⟩, b2⟩)
  go_ret
  exact ⟨rfl, b2⟩

theorem ownsRow_slice {w : World} {base : Nat} {e : TypeId} {s n : Nat} {v : Value} {xs : List Value} (h : w.ownsRow base e s v n xs) : ∃ a m c, v = .slice a m c := by
  rcases h.2 with ⟨rfl, _⟩ | ⟨g, cp, cur, rfl, _⟩
  · exact ⟨_, _, _, rfl⟩
  · exact ⟨_, _, _, rfl⟩
theorem ownsRow_blk {w : World} {base : Nat} {e : TypeId} {s n : Nat} {v : Value} {xs : List Value} (h : w.ownsRow base e s v n xs) : ∀ k, v.ownBlock = some k → base ≤ k := by
  intro k hk
  rcases h.2 with ⟨rfl, _⟩ | ⟨g, cp, cur, rfl, hb, _⟩
  · cases hk
  · cases hk; exact hb
theorem ownsRow_lt {w : World} {base : Nat} {e : TypeId} {s n : Nat} {v : Value} {xs : List Value} (h : w.ownsRow base e s v n xs) : ∀ k, v.ownBlock = some k → k < w.heap.size := by
  intro k hk
  rcases h.2 with ⟨rfl, _⟩ | ⟨g, cp, cur, rfl, hb, hg, _⟩
  · cases hk
  · cases hk; exact lt_of_block hg
theorem ownsRow_some {w : World} {base : Nat} {e : TypeId} {s n : Nat} {v : Value} {xs : List Value} (h : w.ownsRow base e s v n xs) (h0 : 0 < n) : ∃ g cap, v = .slice (some ⟨g, 0, none⟩) n cap ∧ base ≤ g ∧ g < w.heap.size := by
  rcases h.2 with ⟨rfl, hn⟩ | ⟨g, cp, cur, rfl, hb, hg, _⟩
  · omega
  · exact ⟨g, cp, rfl, hb, lt_of_block hg⟩
theorem ownsRow_capE {w : World} {base : Nat} {e : TypeId} {s n g cap : Nat} {xs : List Value} (h : w.ownsRow base e s (.slice (some ⟨g, 0, none⟩) n cap) n xs) : n ≤ cap ∧ cap ≤ maxLen := by
  rcases h.2 with ⟨e, _⟩ | ⟨g', cp, cur, e, hb, hg, h1, h2, _⟩
  · cases e
  · cases e; exact ⟨h1, h2⟩
theorem ownsRow_cell {w : World} {base : Nat} {e : TypeId} {s n g cap : Nat} {xs : List Value} (h : w.ownsRow base e s (.slice (some ⟨g, 0, none⟩) n cap) n xs) (j : Nat) (u : Value) (hj : xs[j]? = some u) : w.cell? ⟨g, 0 + j, none⟩ = some u := by
  have hl := h.1
  rcases h.2 with ⟨e, _⟩ | ⟨g', cp, cur, e, hb, hg, hn, hm, hs, ht⟩
  · cases e
  · cases e
    have hjl := (List.getElem?_eq_some_iff.1 hj).1
    have hc : w.cell? ⟨g, 0 + j, none⟩ = cur[j]? := by simp [World.cell?, hg]
    rw [hc, ← hj, ← ht, List.getElem?_take, if_pos (by rw [hl] at hjl; exact hjl), Array.getElem?_toList]
theorem Tryd.infoStr : (Tryd.prog.info? 9).map (fun i => (i.zero, i.size, i.bytes)) = some (some (.string ⟨#[]⟩), 1, 16) := by kernel_rfl
def TxP (w : World) (l : List Bd) (e : Ending) (W' : World) : Prop := e = .returned (.tuple #[.string (txR l).1, .int .i64 (txR l).2]) ∧ Below w.heap.size w W'
theorem txP_bad {w W' : World} {l : List Bd} {er : Int} (he : txE l = er) (h0 : er ≠ 0) (hB : Below w.heap.size w W') : TxP w l (.returned (.tuple #[.string ⟨#[]⟩, .int .i64 er])) W' := by
  have e : txR l = (⟨#[]⟩, er) := by unfold txR; rw [he, if_neg h0]
  exact ⟨by rw [e], hB⟩
theorem txP_ok {w W' : World} {l : List Bd} (he : txE l = 0) (hB : Below w.heap.size w W') : TxP w l (.returned (.tuple #[.string (txB l), .int .i64 0])) W' := by
  have e : txR l = (txB l, 0) := by unfold txR; rw [he, if_pos rfl]
  exact ⟨by rw [e], hB⟩
def wrL (l : List Bd) (k : Nat) : List Value := (l.take k).map fun x => Value.string (wrB x)
theorem wrL_succ (l : List Bd) (k : Nat) (hk : k < l.length) : wrL l (k + 1) = wrL l k ++ [.string (wrB (l.getD k bd0))] := by
  unfold wrL
  rw [List.take_succ_eq_append_getElem hk, List.map_append]
  simp [hk]
theorem wrL_len (l : List Bd) (k : Nat) (hk : k ≤ l.length) : (wrL l k).length = k := by simp [wrL]; omega

set_option maxRecDepth 100000 in
set_option maxHeartbeats 4000000 in
theorem envText_any (ao : Option Addr) (cap : Nat) (l : List Bd) (w : World) (hT : SpanCells w) (hP : Pows w) (hI : Bds w ao cap l) (hok : BdOk l) :
    Calls Tryd.prog 14 #[.slice ao l.length cap] w (TxP w l) := by
  obtain ⟨⟨hl, hm, _⟩, _⟩ := id hI
  unfold maxLen at hm
  have cF : Hid (Calls Tryd.prog 24 #[.slice ao l.length cap, .func (.func 25) #[] #[]] w fun e W' => e = .returned (.bool (l.any (fun x => !nameB x.1))) ∧ Below w.heap.size w W') := containsFunc_any ao cap l w hT hI
  have HI : Hid (Bds w ao cap l) := hI
  have HP : Hid (Pows w) := hP
  clear hI hT hP
  obtain ⟨i0, hi, hz0, hz1, hz2⟩ := info_parts Tryd.infoStr
  cases hn : l.any (fun x => !nameB x.1)
  · rw [hn] at cF
    have hnice := nice_of l hok hn
    by_cases h64 : 64 < l.length
    · have HE : Hid (txE l = 10) := by show _ = _; unfold txE; rw [hn, if_neg (by simp), if_pos h64]
      have hg : (64 : Int) < (l.length : Int) := by omega
      clear hn hnice
      go_enter Tryd.func14, Tryd.ntmps14
      go_wp2_with (go_at_call 24; refine cF.out.mono ?_; rintro e w2 ⟨rfl, b2⟩)
      go_ret2
      exact txP_bad HE.out (by decide) b2
    · have HE : Hid (txE l = 0) := by show _ = _; unfold txE; rw [hn, if_neg (by simp), if_neg h64]
      have hg : ¬ (64 : Int) < (l.length : Int) := by omega
      have HN : Hid (Nice l) := hnice
      clear hn hnice
      go_enter Tryd.func14, Tryd.ntmps14
      go_wp2_with (go_at_call 24; refine cF.out.mono ?_; rintro e w2 ⟨rfl, b2⟩)
      have hb2 := b2.size
      have HB2 : Hid (Below w.heap.size w w2) := b2
      clear b2
      go_loopw [4, 14] (fun v i wr => ∃ k : Nat, k ≤ l.length ∧ i = .int .i64 k ∧ Below w2.heap.size w2 wr ∧ wr.ownsRow w2.heap.size 9 1 v k (wrL l k)) (fun _ i _ => l.length - (RowKit.intOf i).toNat)
      case atStart => exact ⟨0, by omega, rfl, Below.refl _ _, World.ownsRow_nil _ _ _ _⟩
      case round =>
        obtain ⟨k, hk, rfl, hB, hown⟩ := hrel
        have hsz := hB.size
        by_cases hlt : k < l.length
        · obtain ⟨b, o, rfl, hb, ⟨c0, c1⟩⟩ := ((HI.out.below HB2.out).below hB).at_ hlt
          have hkl2 : (k : Int) < (l.length : Int) := by omega
          obtain ⟨x, hx⟩ : ∃ x, l.getD k bd0 = x := ⟨_, rfl⟩
          have hxn : nameB x.1 = true ∧ i6 x.2 := by rw [← hx]; exact HN.out _ (by simp [hlt])
          have hws : Hid (wrL l (k + 1) = wrL l k ++ [.string (wrB x)]) := by show _ = _; rw [wrL_succ l k hlt, hx]
          rw [hx] at c0 c1
          clear hx
          obtain ⟨nm, n⟩ := x
          simp only at c0 c1 hxn
          have h64' := name_size nm hxn.1
          have hi20 := itoa_len n hxn.2.1 hxn.2.2
          have HI6 : Hid (i6 n) := hxn.2
          clear hxn
          obtain ⟨T, hTt⟩ : ∃ T, tx8 (itoa n) = T := ⟨_, rfl⟩
          have hTs : T.size ≤ 20 := by rw [← hTt, tx8_size]; exact hi20
          have HWR : Hid (wrB (nm, n) = nm ++ ⟨#[61]⟩ ++ T) := by show _ = _; unfold wrB; rw [hTt]
          have hHP : Pows wr := (HP.out.below HB2.out).below hB
          have hbW : Below wr.heap.size wr (wr.alloc (.cells #[.string nm, .int .i64 n] 38)) := (Below.refl _ wr).alloc (Nat.le_refl _) _
          obtain ⟨W1, hW1⟩ : ∃ W1, wr.alloc (.cells #[.string nm, .int .i64 n] 38) = W1 := ⟨_, rfl⟩
          have d0 : W1.cell? ⟨wr.heap.size, 0, none⟩ = some (.string nm) := by rw [← hW1]; simp
          have d1 : W1.cell? ⟨wr.heap.size, 1, none⟩ = some (.int .i64 n) := by rw [← hW1]; simp
          have hz1' : W1.heap.size = wr.heap.size + 1 := by rw [← hW1]; simp
          rw [hW1] at hbW
          have HPW : Pows W1 := hHP.below hbW
          have cT : Hid (∀ W, Below W1.heap.size W1 W → Calls Tryd.prog 26 #[.int .i64 n] W fun e w'' => e = .returned (.string T) ∧ Below W1.heap.size W1 w'') := fun W hW => by
            rw [← hTt]
            exact (text_any n W (HPW.below hW) HI6.out).mono fun e w'' ⟨h1, h2⟩ => ⟨h1, hW.trans (h2.mono hW.size)⟩
          have HCE : Hid (∀ w', Below W1.heap.size W1 w' → w'.cell? ⟨wr.heap.size, 0, none⟩ = some (.string nm) ∧ w'.cell? ⟨wr.heap.size, 1, none⟩ = some (.int .i64 n)) := fun w' hb => ⟨(hb.cell (p := ⟨wr.heap.size, 0, none⟩) (by show wr.heap.size < _; omega)).trans d0, (hb.cell (p := ⟨wr.heap.size, 1, none⟩) (by show wr.heap.size < _; omega)).trans d1⟩
          have HW1E : Hid (wr.alloc (.cells #[.string nm, .int .i64 n] 38) = W1) := hW1
          have HBW : Hid (Below wr.heap.size wr W1) := hbW
          clear hTt hi20 HI6 hW1 hbW HPW hHP
          have e61 : (⟨#[61]⟩ : ByteArray).size = 1 := rfl
          have a1 : nm.size + (⟨#[61]⟩ : ByteArray).size ≤ 9223372036854775807 := by omega
          have hs2 : (nm ++ (⟨#[61]⟩ : ByteArray)).size ≤ 65 := by rw [ByteArray.size_append]; omega
          have a2 : (nm ++ (⟨#[61]⟩ : ByteArray)).size + T.size ≤ 9223372036854775807 := by omega
          have q1 : ∀ W, (Op.stringOp .add nm ⟨#[61]⟩).run Tryd.prog W = .ok (.string (nm ++ ⟨#[61]⟩)) W := fun W => add_ok nm _ a1 W
          have q2 : ∀ W, (Op.stringOp .add (nm ++ ⟨#[61]⟩) T).run Tryd.prog W = .ok (.string (nm ++ ⟨#[61]⟩ ++ T)) W := fun W => add_ok _ T a2 W
          have HW1 : Hid (Below w2.heap.size w2 wr) := hB
          obtain ⟨va, vn, vc, hv⟩ := ownsRow_slice hown
          subst hv
          have HO1 : Hid (wr.ownsRow w2.heap.size 9 1 (.slice va vn vc) k (wrL l k)) := hown
          clear hB hown
          go_wp2_with fail
          rw [HW1E.out]
          go_region_held3 (fun W => W.cell? ⟨wr.heap.size, 0, none⟩ = some (.string nm) ∧ W.cell? ⟨wr.heap.size, 1, none⟩ = some (.int .i64 n)) (go_keep) (first | (go_at_call 26; refine (cT.out _ (Below.refl _ _).drew).mono ?_; rintro e w5 ⟨rfl, hb5⟩; obtain ⟨k0, k1⟩ := HCE.out w5 hb5; have hb5s := hb5.size; have HB5 : Hid (Below W1.heap.size W1 w5) := hb5; have HB5' : Hid (Below wr.heap.size wr w5) := (HBW.out.trans (hb5.mono (by omega))); have HO5 : Hid ((w5.alloc (.cells #[.string (nm ++ ⟨#[61]⟩ ++ T)] 9)).ownsRow w2.heap.size 9 1 (.slice va vn vc) k (wrL l k)) := (own_below (own_below HO1.out HB5'.out) ((Below.refl _ _).alloc (Nat.le_refl _) _)); clear hb5) | (refine step_append_lies _ rfl (.tmp 18) (.tmp 26) 51 rfl w2.heap.size 9 i0 (.string ⟨#[]⟩) 1 16 Tryd.underlying51 hi hz0 hz1 hz2 rfl (by decide) _ _ _ (by simp [Act.eval, Act.put]) HO5.out ⟨w5.heap.size, 0, none⟩ 1 1 [.string (nm ++ ⟨#[61]⟩ ++ T)] (by simp [Act.eval, Act.put]) rfl (by intro j u hj; rcases j with _ | j <;> simp at hj; subst hj; simp [Go.WideShapes.add_plain]) (by simp [Value.oneCell']) (by omega) (by unfold maxLen; omega) (by omega) (by simp; omega) _ rfl ?_; intro g6 cap6 w6 hown6 hg6 hat6 hl6; have hB6 : Hid (Below w2.heap.size w2 w6) := (((HW1.out.trans (HB5'.out.mono (by omega))).alloc (by omega) _).grown hg6 (by simp; omega) (ownsRow_blk HO1.out)); have k2 : w6.cell? ⟨wr.heap.size, 0, none⟩ = some (.string nm) := ((hg6.cell_far ⟨wr.heap.size, 0, none⟩ (by simp; omega) (fun e => Nat.lt_irrefl _ (ownsRow_lt HO1.out _ e.symm))).trans (by simp [World.cell?_alloc_past, k0, show wr.heap.size < w5.heap.size by omega])); have k3 : w6.cell? ⟨wr.heap.size, 1, none⟩ = some (.int .i64 n) := ((hg6.cell_far ⟨wr.heap.size, 1, none⟩ (by simp; omega) (fun e => Nat.lt_irrefl _ (ownsRow_lt HO1.out _ e.symm))).trans (by simp [World.cell?_alloc_past, k1, show wr.heap.size < w5.heap.size by omega])); clear hg6))
          go_wp2
          go_roundw
          case rel =>
            refine ⟨k + 1, by omega, by simp, ?_, ?_⟩
            · exact hB6.out
            · rw [hws.out, HWR.out]; exact hown6
          case measure => simp [RowKit.intOf]; omega
        · obtain rfl : k = l.length := by omega
          have HB : Hid (Below w2.heap.size w2 wr) := hB
          by_cases h0 : l.length = 0
          · have hl0 : l = [] := List.length_eq_zero_iff.1 h0
            have ht : Hid (txB l = ⟨#[]⟩) := by show _ = _; rw [hl0]; simp [txB, txL, Lib.join, List.intercalate]
            obtain ⟨va, vn, vc, hv⟩ := ownsRow_slice hown
            subst hv
            have hvn : vn = 0 := by
              rcases hown.2 with ⟨e, _⟩ | ⟨g, cp, cur, e, _⟩
              · cases e; rfl
              · cases e; exact h0
            subst hvn
            have cJ : Hid (∀ W, Calls Tryd.prog 27 #[.slice va 0 vc, .string ⟨#[44, 32]⟩] W fun e w' => e = .returned (.string ⟨#[]⟩) ∧ w' = W) := fun W => Tryd.strings_Join_none va vc _ W
            have hle : ¬ ((l.length : Int) < (l.length : Int)) := by omega
            clear hown hB
            go_wp2_with (go_at_call 27; refine (cJ.out _).mono ?_; rintro e w7 ⟨rfl, rfl⟩)
            go_ret2
            have := txP_ok (w := w) HE.out (HB2.out.trans (HB.out.mono HB2.out.size))
            rw [ht.out] at this
            exact this
          · obtain ⟨g, vc, hv, hg, hgl⟩ := ownsRow_some hown (by omega)
            subst hv
            obtain ⟨L, hL⟩ : ∃ L, l.map wrB = L := ⟨_, rfl⟩
            have hLl : L.length = l.length := by rw [← hL]; simp
            have hjn : Lib.join (L.map (·.data.toList)) [44, 32] = txL l := by rw [← hL, List.map_map]; rfl
            have hcJ : ∀ (j : Nat) x, L[j]? = some x → wr.cell? ⟨g, 0 + j, none⟩ = some (.string x) := fun j x hx => by
              have h1 : (wrL l l.length)[j]? = some (.string x) := by
                unfold wrL
                rw [List.take_length]
                rw [← hL] at hx
                simp only [List.getElem?_map] at hx ⊢
                cases hq : l[j]? with
                | none => rw [hq] at hx; cases hx
                | some y => rw [hq] at hx; cases hx; rfl
              exact ownsRow_cell hown j _ h1
            have htl : (txL l).length ≤ 102 * l.length := txL_len l HN.out
            have cJ : Hid (Calls Tryd.prog 27 #[.slice (some ⟨g, 0, none⟩) l.length vc, .string ⟨#[44, 32]⟩] wr fun e w' => e = .returned (.string (txB l)) ∧ Below wr.heap.size wr w') := by
              have := Tryd.strings_Join g 0 vc L ⟨#[44, 32]⟩ wr hcJ hgl (by omega) (by
                have := (ownsRow_capE hown); omega) (by
                show (Lib.join (L.map (·.data.toList)) [44, 32]).length ≤ _
                rw [hjn]; omega)
              rw [hLl] at this
              have e2 : (⟨(Lib.join (L.map (·.data.toList)) (⟨#[44, 32]⟩ : ByteArray).data.toList).toArray⟩ : ByteArray) = txB l := by
                show (⟨(Lib.join (L.map (·.data.toList)) [44, 32]).toArray⟩ : ByteArray) = _
                rw [hjn]; rfl
              rw [e2] at this
              exact this
            have hle : ¬ ((l.length : Int) < (l.length : Int)) := by omega
            clear hown hB hcJ hjn hL hLl htl
            go_wp2_with (go_at_call 27; refine cJ.out.mono ?_; rintro e w7 ⟨rfl, b7⟩)
            go_ret2
            exact txP_ok (w := w) HE.out (HB2.out.trans ((HB.out.trans (b7.mono HB.out.size)).mono HB2.out.size))
  · rw [hn] at cF
    have HE : Hid (txE l = 7) := by show _ = _; unfold txE; rw [hn, if_pos rfl]
    clear hn
    go_enter Tryd.func14, Tryd.ntmps14
    go_wp2_with (go_at_call 24; refine cF.out.mono ?_; rintro e w2 ⟨rfl, b2⟩)
    go_ret2
    exact txP_bad HE.out (by decide) b2
end Go.Proofs.YtpdohdmpjaklgaaDoor
