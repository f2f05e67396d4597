/-
  TableDoubles, walked.
-/
import Derived.Test.YtjidockolacghaaDoorTbL2
set_option linter.unusedSimpArgs false
set_option linter.unusedVariables false
namespace Go.Proofs.YtjidockolacghaaDoor
open Go.RowKit Go.Lib Go.Sort Go.Maps

def dbA : Nd := ⟨2, 0, ⟨#[97]⟩, []⟩
def dbX (op : Int) (k : Nat) : Nd := ⟨op, 0, ⟨#[]⟩, [(k : Int), (k : Int)]⟩
theorem emp_l : (ByteArray.mk #[]).toList = [] := by unfold ByteArray.toList ByteArray.toList.loop; rfl
theorem dbX_form {op : Int} (h : aritI op = 2) (k : Nat) : formB (dbX op k) = true := by
  have h1 : op ≠ 2 := fun e => by subst e; simp [aritI] at h
  simp [formB, fitB, dbX, h, h1, emp_l]
theorem dbA_form : formB dbA = true := by
  have : nameB ⟨#[97]⟩ = true := by decide +kernel
  simp [formB, fitB, dbA, aritI, this]
/-- The sizes, doubled. -/
def dsz : Nat → Nat
  | 0 => 1
  | k + 1 => min 1073741824 (2 * dsz k + 1)
theorem dsz_bd : ∀ k, 1 ≤ dsz k ∧ dsz k ≤ 1073741824
  | 0 => by simp [dsz]
  | k + 1 => by have := dsz_bd k; simp only [dsz]; omega
/-- The table of k doublings. -/
structure Dbl (op : Int) (k : Nat) (L : List Nd) : Prop where
  inv : TbI L
  len : L.length = k + 1
  sz : (szL L).getD k 0 = dsz k
theorem Dbl.zero (op : Int) : Dbl op 0 [dbA] := by
  refine ⟨TbI.nil.snoc dbA_form (by intro k hk; simp [dbA] at hk) (by simp) (by simp), rfl, ?_⟩
  have := szL_end [] dbA
  exact this
theorem Dbl.fresh {op : Int} {k : Nat} {L : List Nd} (h : Dbl op k L) : dbX op k ∉ L := fun hm => by
  obtain ⟨j, hj, e⟩ := List.mem_iff_getElem.1 hm
  have h1 := h.inv.kids j hj (k : Int) (by rw [edA_lt hj, e]; simp [dbX])
  have := h.len
  omega
theorem Dbl.next {op : Int} {k : Nat} {L : List Nd} (h : Dbl op k L) (ha : aritI op = 2) (hk : k ≤ 60) : Dbl op (k + 1) (L ++ [dbX op k]) := by
  have hl := h.len
  refine ⟨h.inv.snoc (dbX_form ha k) (by intro q hq; simp [dbX] at hq; omega) h.fresh (by omega), by simp [hl], ?_⟩
  have h1 := szL_end L (dbX op k)
  rw [hl] at h1
  rw [h1]
  simp only [dbX, szK, Int.toNat_natCast, h.sz, dsz]
  have := dsz_bd k
  omega
theorem Dbl.put {op : Int} {k : Nat} {L : List Nd} (h : Dbl op k L) (ha : aritI op = 2) (hk : k ≤ 60) : ptR L (dbX op k) = (k + 1, 0, L ++ [dbX op k]) := by
  have hl := h.len
  have hs : shE L (dbX op k) = 0 := by
    unfold shE
    rw [if_pos (dbX_form ha k), if_pos]
    simp [dbX, hasT]
    omega
  unfold ptR putS
  rw [if_pos hs, ixL_none.2 h.fresh]
  simp only [hl]
  rw [if_pos (by omega)]
theorem db_first : ptR [] dbA = (0, 0, [dbA]) := by
  have hs : shE [] dbA = 0 := by
    unfold shE
    rw [if_pos dbA_form, if_pos (by simp [dbA])]
  unfold ptR putS
  rw [if_pos hs, ixL_nil]
  simp
theorem two_ints {w : World} {b : Nat} {x y : Int} (h : w.heap[b]? = some (.cells #[.int .i64 x, .int .i64 y] 3 (0, 0))) : Ints w w.heap.size (.slice (some ⟨b, 0, none⟩) 2 2) [x, y] :=
  ⟨some ⟨b, 0, none⟩, 2, rfl, by simp, ⟨by unfold maxLen; omega, by simp⟩, .inr ⟨b, 0, rfl, lt_of_block h, fun j hj => by
    match j, hj with
    | 0, _ => simp [World.cell?, h]
    | 1, _ => simp [World.cell?, h]⟩⟩

set_option maxRecDepth 20000 in
set_option maxHeartbeats 16000000 in
theorem tableDoubles_walk (w : World) (op tm : Int) (htm : 0 ≤ tm ∧ tm ≤ 255) (hT : SpanCells w) :
    Calls Tryd.prog 7 #[.int .i64 op, .int .u8 tm] w fun e w' => e = .returned (.bool true) ∧ Below w.heap.size w w' := by
  obtain ⟨w1, hw1⟩ : ∃ w1, w.alloc (.cells #[.slice none 0 0, .map none] 80) = w1 := ⟨_, rfl⟩
  have HB1 : Sld (Below w.heap.size w w1) := ⟨by rw [← hw1]; exact (Below.refl _ _).alloc (Nat.le_refl _) _⟩
  have hM1 : TbM w1 w.heap.size (.slice none 0 0) (.map none) [] := by rw [← hw1]; exact TbM.fresh w
  have hT1 : SpanCells w1 := hT.below HB1.out
  have CN : Sld (Calls Tryd.prog 23 #[] w fun e w' => e = .returned (.pointer (some ⟨w.heap.size, 0, none⟩)) ∧ w' = w1) := ⟨by rw [← hw1]; exact tnew_any w⟩
  have CA : Sld (Calls Tryd.prog 24 #[] w1 fun e w' => e = .returned (.bool true) ∧ Below w1.heap.size w1 w') := ⟨awake10_any w1 hT1⟩
  have HM1 : Sld (TbM w1 w.heap.size (.slice none 0 0) (.map none) []) := ⟨hM1⟩
  have HT : Sld (SpanCells w) := ⟨hT⟩
  have hz1 := HB1.out.size
  clear hM1 hT1 hT hw1
  go_enter Tryd.func7, Tryd.ntmps7
  go_wp2_with fail
  refine CN.out.mono ?_
  rintro e w2 ⟨rfl, hw2⟩
  subst hw2
  go_wp2_with fail
  refine CA.out.mono ?_
  rintro e w3 ⟨rfl, hb3⟩
  have HB3 : Sld (Below w.heap.size w w3) := ⟨HB1.out.trans (hb3.mono hz1)⟩
  have HM3 : Sld (TbM w3 w.heap.size (.slice none 0 0) (.map none) []) := ⟨HM1.out.below hb3⟩
  have CP : Sld (Calls Tryd.prog 35 #[.pointer (some ⟨w.heap.size, 0, none⟩), .agg #[.int .i64 2, .int .i64 0, .string ⟨#[97]⟩, .slice none 0 0]] w3 fun e w' => e = .returned (.tuple #[.int .i64 0, .int .i64 0]) ∧ ∃ ev' mv', TbT w3 w.heap.size (.slice none 0 0) (.map none) ev' mv' [dbA] w') := ⟨by
    have := tPut_any w3 w.heap.size _ _ [] dbA none 0 HM3.out (HT.out.below HB3.out) ⟨⟨none, 0, rfl, Nat.le_refl 0, ⟨by simp, by simp⟩, .inl rfl⟩, ⟨by show (-9223372036854775808 : Int) ≤ 0; omega, by show (0 : Int) ≤ 9223372036854775807; omega⟩, by show (1 : Nat) ≤ 281474976710656; omega⟩
    rw [db_first] at this
    exact this⟩
  clear hb3
  go_wp2_with fail
  refine CP.out.mono ?_
  rintro e w4 ⟨rfl, ev4, mv4, hT4⟩
  have HB4 : Sld (Below w.heap.size w w4) := ⟨hT4.b HM3.out HB3.out (Nat.le_refl _)⟩
  have HM4 : Sld (TbM w4 w.heap.size ev4 mv4 [dbA]) := ⟨hT4.tb⟩
  have CR : Sld (Calls Tryd.prog 37 #[.int .i64 op] w4 fun e w' => e = .returned (.int .i64 (aritI op)) ∧ w' = w4) := ⟨refArity_any op w4⟩
  clear hT4
  go_wp2_with fail
  refine CR.out.mono ?_
  rintro e w5 ⟨rfl, hw5⟩
  subst hw5
  obtain ⟨op', hop1, hop2⟩ : ∃ op', aritI op' = 2 ∧ (aritI op = 2 ∧ op' = op ∨ aritI op ≠ 2 ∧ op' = 5) := by
    by_cases h : aritI op = 2
    · exact ⟨op, h, .inl ⟨h, rfl⟩⟩
    · exact ⟨5, by simp [aritI], .inr ⟨h, rfl⟩⟩
  have HOP : Sld (aritI op' = 2) := ⟨hop1⟩
  generalize aritI op = AR at *
  rcases hop2 with ⟨hA, hoo⟩ | ⟨hA, hoo⟩
  · subst hoo
    have hAb : (AR == 2) = true := by simpa using hA
    have hAn : (AR != 2) = false := by simpa using hA
    clear hop1 hA
    go_wp2_with fail
    go_loopw [6, 8, 9] (fun id sz i wr => ∃ (k : Nat) (ev mv : Value) (L : List Nd), k ≤ 50 ∧ (k : Int) ≤ tm % 50 ∧ i = .int .i64 k ∧ id = .int .i64 k ∧ sz = .int .i64 (dsz k : Nat) ∧ TbM wr w.heap.size ev mv L ∧ Dbl op' k L ∧ Below w.heap.size w wr) (fun _ _ i _ => 60 - (RowKit.intOf i).toNat)
    case atStart => exact ⟨0, ev4, mv4, [dbA], by omega, by omega, rfl, rfl, rfl, HM4.out, Dbl.zero _, HB4.out⟩
    case round =>
      obtain ⟨k, ev, mv, L, hk, hkt, rfl, rfl, rfl, hM, hD, hB⟩ := hrel
      have HM : Sld (TbM wr w.heap.size ev mv L) := ⟨hM⟩
      have HD : Sld (Dbl op' k L) := ⟨hD⟩
      have HB : Sld (Below w.heap.size w wr) := ⟨hB⟩
      have hsw := hB.size
      by_cases hlt : (k : Int) < tm % 50
      · obtain ⟨wa, hwa⟩ : ∃ wa, wr.alloc (.cells #[.int .i64 k, .int .i64 k] 3) = wa := ⟨_, rfl⟩
        have hBa : Below wr.heap.size wr wa := by rw [← hwa]; exact (Below.refl _ _).alloc (Nat.le_refl _) _
        have HBa : Sld (Below w.heap.size w wa) := ⟨hB.trans (hBa.mono hsw)⟩
        have hba : wa.heap[wr.heap.size]? = some (.cells #[.int .i64 k, .int .i64 k] 3 (0, 0)) := by rw [← hwa, Deep.blk_alloc_new]
        have hMa := hM.below hBa
        have HMa : Sld (TbM wa w.heap.size ev mv L) := ⟨hMa⟩
        have CP2 : Sld (Calls Tryd.prog 35 #[.pointer (some ⟨w.heap.size, 0, none⟩), .agg #[.int .i64 op', .int .i64 0, .string ⟨#[]⟩, .slice (some ⟨wr.heap.size, 0, none⟩) 2 2]] wa fun e w' => e = .returned (.tuple #[.int .i64 (k + 1 : Nat), .int .i64 0]) ∧ ∃ ev' mv', TbT wa w.heap.size ev mv ev' mv' (L ++ [dbX op' k]) w') := ⟨by
          have := tPut_any wa w.heap.size ev mv L (dbX op' k) (some ⟨wr.heap.size, 0, none⟩) 2 hMa (HT.out.below HBa.out) ⟨two_ints hba, ⟨by show (-9223372036854775808 : Int) ≤ 0; omega, by show (0 : Int) ≤ 9223372036854775807; omega⟩, by show (0 : Nat) ≤ 281474976710656; omega⟩
          rw [hD.put HOP.out (by omega)] at this
          exact this⟩
        have hDn := hD.next HOP.out (by omega)
        have HDn : Sld (Dbl op' (k + 1) (L ++ [dbX op' k])) := ⟨hDn⟩
        have hdz := dsz_bd k
        have HDZ : Sld (dsz (k + 1) = min 1073741824 (2 * dsz k + 1)) := ⟨rfl⟩
        have HWA : Hid (wr.alloc (.cells #[.int .i64 k, .int .i64 k] 3) = wa) := hwa
        clear hM hD hB hMa hba hBa hwa hDn
        generalize dsz k = Z at *
        have hkI : (k : Int) ≤ 50 := by omega
        have hZ1 : (1 : Int) ≤ Z := by omega
        have hZ2 : (Z : Int) ≤ 1073741824 := by omega
        go_wp2_with fail
        rw [HWA.out]
        refine CP2.out.mono ?_
        rintro e w6 ⟨rfl, ev6, mv6, hT6⟩
        have HM6 : Sld (TbM w6 w.heap.size ev6 mv6 (L ++ [dbX op' k])) := ⟨hT6.tb⟩
        have HB6 : Sld (Below w.heap.size w w6) := ⟨hT6.b HMa.out HBa.out (Nat.le_refl _)⟩
        have hkl : k + 1 < (L ++ [dbX op' k]).length := by rw [HDn.out.len]; omega
        have hk1 : ((k + 1 : Nat) : Int) = (k : Int) + 1 := by omega
        have CSz : Sld (Calls Tryd.prog 31 #[.pointer (some ⟨w.heap.size, 0, none⟩), .int .i64 ((k : Int) + 1)] w6 fun e w' => e = .returned (.tuple #[.int .i64 (min 1073741824 (2 * Z + 1) : Nat), .int .i64 0]) ∧ w' = w6) := ⟨by
          have := tSize_ok w6 w.heap.size ev6 mv6 _ (k + 1) HM6.out hkl
          rw [HDn.out.sz, HDZ.out, hk1] at this
          exact this⟩
        have CE : Sld ((min 1073741824 (2 * Z + 1) ≤ 64 ∧ Calls Tryd.prog 30 #[.pointer (some ⟨w.heap.size, 0, none⟩), .int .i64 ((k : Int) + 1)] w6 fun e w' => ∃ ao cap, e = .returned (.tuple #[.slice ao (min 1073741824 (2 * Z + 1)) cap, .int .i64 0]) ∧ Below w6.heap.size w6 w') ∨ (64 < min 1073741824 (2 * Z + 1) ∧ Calls Tryd.prog 30 #[.pointer (some ⟨w.heap.size, 0, none⟩), .int .i64 ((k : Int) + 1)] w6 fun e w' => e = .returned (.tuple #[.slice none 0 0, .int .i64 10]) ∧ w' = w6)) := ⟨by
          have hsz := HDn.out.sz
          rw [HDZ.out] at hsz
          have hex := szA_ex HM6.out.inv (k + 1) hkl
          rw [hsz] at hex
          by_cases h64 : min 1073741824 (2 * Z + 1) ≤ 64
          · left
            have hle : (exA (L ++ [dbX op' k]) (k + 1)).length = min 1073741824 (2 * Z + 1) := by omega
            have hc := tExpr_ok w6 w.heap.size ev6 mv6 _ (k + 1) HM6.out hkl (by omega)
            rw [hk1] at hc
            refine ⟨h64, hc.mono fun e w' ⟨ao, cap, h1, h2⟩ => ?_⟩
            rw [hle] at h1
            exact ⟨ao, cap, h1, h2.below⟩
          · right
            have hc := tExpr_large w6 w.heap.size ev6 mv6 _ (k + 1) HM6.out hkl (by rw [hsz]; omega)
            rw [hk1] at hc
            exact ⟨by omega, hc⟩⟩
        clear hT6 hkl hk1
        have hcc : (((k + 1 : Nat) : Int) == (k : Int) + 1) = true := by simp
        go_wp2_with fail
        rw [show (min 1073741824 (2 * (Z : Int) + 1)) = ((min 1073741824 (2 * Z + 1) : Nat) : Int) by omega]
        have HZM : Sld (min 1073741824 (2 * Z + 1) ≤ 1073741824) := ⟨by omega⟩
        generalize min 1073741824 (2 * Z + 1) = M at *
        refine CSz.out.mono ?_
        rintro e w7 ⟨rfl, hw7⟩
        subst hw7
        go_wp2_with fail
        rcases CE.out with ⟨h64, hE⟩ | ⟨h64, hE⟩
        · have hM64 : (M : Int) ≤ 64 := by omega
          have HE : Sld (Calls Tryd.prog 30 #[.pointer (some ⟨w.heap.size, 0, none⟩), .int .i64 ((k : Int) + 1)] w7 fun e w' => ∃ ao cap, e = .returned (.tuple #[.slice ao M cap, .int .i64 0]) ∧ Below w7.heap.size w7 w') := ⟨hE⟩
          clear hE h64 CE CSz
          refine HE.out.mono ?_
          rintro e w8 ⟨ao8, cap8, rfl, hb8⟩
          have HB8 : Sld (Below w.heap.size w w8) := ⟨HB6.out.trans (hb8.mono HB6.out.size)⟩
          have HM8 : Sld (TbM w8 w.heap.size ev6 mv6 (L ++ [dbX op' k])) := ⟨HM6.out.below hb8⟩
          clear hb8
          go_wp2_with fail
          exact ⟨⟨k + 1, ev6, mv6, _, by omega, by omega, by go_num, by go_num, by rw [HDZ.out], HM8.out, HDn.out, HB8.out⟩, by simp [RowKit.intOf]; omega⟩
        · have hM64 : (64 : Int) < (M : Int) := by omega
          have HE : Sld (Calls Tryd.prog 30 #[.pointer (some ⟨w.heap.size, 0, none⟩), .int .i64 ((k : Int) + 1)] w7 fun e w' => e = .returned (.tuple #[.slice none 0 0, .int .i64 10]) ∧ w' = w7) := ⟨hE⟩
          clear hE h64 CE CSz
          refine HE.out.mono ?_
          rintro e w8 ⟨rfl, hw8⟩
          subst hw8
          go_wp2_with fail
          exact ⟨⟨k + 1, ev6, mv6, _, by omega, by omega, by go_num, by go_num, by rw [HDZ.out], HM6.out, HDn.out, HB6.out⟩, by simp [RowKit.intOf]; omega⟩
      · have hge : tm % 50 ≤ (k : Int) := by omega
        clear hM hD hB
        go_wp2_with fail
        go_ret
        exact ⟨rfl, HB.out⟩
  · subst hoo
    have hAb : (AR == 2) = false := by simpa using hA
    have hAn : (AR != 2) = true := by simpa using hA
    clear hop1 hA
    go_wp2_with fail
    go_loopw [6, 8, 9] (fun id sz i wr => ∃ (k : Nat) (ev mv : Value) (L : List Nd), k ≤ 50 ∧ (k : Int) ≤ tm % 50 ∧ i = .int .i64 k ∧ id = .int .i64 k ∧ sz = .int .i64 (dsz k : Nat) ∧ TbM wr w.heap.size ev mv L ∧ Dbl 5 k L ∧ Below w.heap.size w wr) (fun _ _ i _ => 60 - (RowKit.intOf i).toNat)
    case atStart => exact ⟨0, ev4, mv4, [dbA], by omega, by omega, rfl, rfl, rfl, HM4.out, Dbl.zero _, HB4.out⟩
    case round =>
      obtain ⟨k, ev, mv, L, hk, hkt, rfl, rfl, rfl, hM, hD, hB⟩ := hrel
      have HM : Sld (TbM wr w.heap.size ev mv L) := ⟨hM⟩
      have HD : Sld (Dbl 5 k L) := ⟨hD⟩
      have HB : Sld (Below w.heap.size w wr) := ⟨hB⟩
      have hsw := hB.size
      by_cases hlt : (k : Int) < tm % 50
      · obtain ⟨wa, hwa⟩ : ∃ wa, wr.alloc (.cells #[.int .i64 k, .int .i64 k] 3) = wa := ⟨_, rfl⟩
        have hBa : Below wr.heap.size wr wa := by rw [← hwa]; exact (Below.refl _ _).alloc (Nat.le_refl _) _
        have HBa : Sld (Below w.heap.size w wa) := ⟨hB.trans (hBa.mono hsw)⟩
        have hba : wa.heap[wr.heap.size]? = some (.cells #[.int .i64 k, .int .i64 k] 3 (0, 0)) := by rw [← hwa, Deep.blk_alloc_new]
        have hMa := hM.below hBa
        have HMa : Sld (TbM wa w.heap.size ev mv L) := ⟨hMa⟩
        have CP2 : Sld (Calls Tryd.prog 35 #[.pointer (some ⟨w.heap.size, 0, none⟩), .agg #[.int .i64 5, .int .i64 0, .string ⟨#[]⟩, .slice (some ⟨wr.heap.size, 0, none⟩) 2 2]] wa fun e w' => e = .returned (.tuple #[.int .i64 (k + 1 : Nat), .int .i64 0]) ∧ ∃ ev' mv', TbT wa w.heap.size ev mv ev' mv' (L ++ [dbX 5 k]) w') := ⟨by
          have := tPut_any wa w.heap.size ev mv L (dbX 5 k) (some ⟨wr.heap.size, 0, none⟩) 2 hMa (HT.out.below HBa.out) ⟨two_ints hba, ⟨by show (-9223372036854775808 : Int) ≤ 0; omega, by show (0 : Int) ≤ 9223372036854775807; omega⟩, by show (0 : Nat) ≤ 281474976710656; omega⟩
          rw [hD.put HOP.out (by omega)] at this
          exact this⟩
        have hDn := hD.next HOP.out (by omega)
        have HDn : Sld (Dbl 5 (k + 1) (L ++ [dbX 5 k])) := ⟨hDn⟩
        have hdz := dsz_bd k
        have HDZ : Sld (dsz (k + 1) = min 1073741824 (2 * dsz k + 1)) := ⟨rfl⟩
        have HWA : Hid (wr.alloc (.cells #[.int .i64 k, .int .i64 k] 3) = wa) := hwa
        clear hM hD hB hMa hba hBa hwa hDn
        generalize dsz k = Z at *
        have hkI : (k : Int) ≤ 50 := by omega
        have hZ1 : (1 : Int) ≤ Z := by omega
        have hZ2 : (Z : Int) ≤ 1073741824 := by omega
        go_wp2_with fail
        rw [HWA.out]
        refine CP2.out.mono ?_
        rintro e w6 ⟨rfl, ev6, mv6, hT6⟩
        have HM6 : Sld (TbM w6 w.heap.size ev6 mv6 (L ++ [dbX 5 k])) := ⟨hT6.tb⟩
        have HB6 : Sld (Below w.heap.size w w6) := ⟨hT6.b HMa.out HBa.out (Nat.le_refl _)⟩
        have hkl : k + 1 < (L ++ [dbX 5 k]).length := by rw [HDn.out.len]; omega
        have hk1 : ((k + 1 : Nat) : Int) = (k : Int) + 1 := by omega
        have CSz : Sld (Calls Tryd.prog 31 #[.pointer (some ⟨w.heap.size, 0, none⟩), .int .i64 ((k : Int) + 1)] w6 fun e w' => e = .returned (.tuple #[.int .i64 (min 1073741824 (2 * Z + 1) : Nat), .int .i64 0]) ∧ w' = w6) := ⟨by
          have := tSize_ok w6 w.heap.size ev6 mv6 _ (k + 1) HM6.out hkl
          rw [HDn.out.sz, HDZ.out, hk1] at this
          exact this⟩
        have CE : Sld ((min 1073741824 (2 * Z + 1) ≤ 64 ∧ Calls Tryd.prog 30 #[.pointer (some ⟨w.heap.size, 0, none⟩), .int .i64 ((k : Int) + 1)] w6 fun e w' => ∃ ao cap, e = .returned (.tuple #[.slice ao (min 1073741824 (2 * Z + 1)) cap, .int .i64 0]) ∧ Below w6.heap.size w6 w') ∨ (64 < min 1073741824 (2 * Z + 1) ∧ Calls Tryd.prog 30 #[.pointer (some ⟨w.heap.size, 0, none⟩), .int .i64 ((k : Int) + 1)] w6 fun e w' => e = .returned (.tuple #[.slice none 0 0, .int .i64 10]) ∧ w' = w6)) := ⟨by
          have hsz := HDn.out.sz
          rw [HDZ.out] at hsz
          have hex := szA_ex HM6.out.inv (k + 1) hkl
          rw [hsz] at hex
          by_cases h64 : min 1073741824 (2 * Z + 1) ≤ 64
          · left
            have hle : (exA (L ++ [dbX 5 k]) (k + 1)).length = min 1073741824 (2 * Z + 1) := by omega
            have hc := tExpr_ok w6 w.heap.size ev6 mv6 _ (k + 1) HM6.out hkl (by omega)
            rw [hk1] at hc
            refine ⟨h64, hc.mono fun e w' ⟨ao, cap, h1, h2⟩ => ?_⟩
            rw [hle] at h1
            exact ⟨ao, cap, h1, h2.below⟩
          · right
            have hc := tExpr_large w6 w.heap.size ev6 mv6 _ (k + 1) HM6.out hkl (by rw [hsz]; omega)
            rw [hk1] at hc
            exact ⟨by omega, hc⟩⟩
        clear hT6 hkl hk1
        have hcc : (((k + 1 : Nat) : Int) == (k : Int) + 1) = true := by simp
        go_wp2_with fail
        rw [show (min 1073741824 (2 * (Z : Int) + 1)) = ((min 1073741824 (2 * Z + 1) : Nat) : Int) by omega]
        have HZM : Sld (min 1073741824 (2 * Z + 1) ≤ 1073741824) := ⟨by omega⟩
        generalize min 1073741824 (2 * Z + 1) = M at *
        refine CSz.out.mono ?_
        rintro e w7 ⟨rfl, hw7⟩
        subst hw7
        go_wp2_with fail
        rcases CE.out with ⟨h64, hE⟩ | ⟨h64, hE⟩
        · have hM64 : (M : Int) ≤ 64 := by omega
          have HE : Sld (Calls Tryd.prog 30 #[.pointer (some ⟨w.heap.size, 0, none⟩), .int .i64 ((k : Int) + 1)] w7 fun e w' => ∃ ao cap, e = .returned (.tuple #[.slice ao M cap, .int .i64 0]) ∧ Below w7.heap.size w7 w') := ⟨hE⟩
          clear hE h64 CE CSz
          refine HE.out.mono ?_
          rintro e w8 ⟨ao8, cap8, rfl, hb8⟩
          have HB8 : Sld (Below w.heap.size w w8) := ⟨HB6.out.trans (hb8.mono HB6.out.size)⟩
          have HM8 : Sld (TbM w8 w.heap.size ev6 mv6 (L ++ [dbX 5 k])) := ⟨HM6.out.below hb8⟩
          clear hb8
          go_wp2_with fail
          exact ⟨⟨k + 1, ev6, mv6, _, by omega, by omega, by go_num, by go_num, by rw [HDZ.out], HM8.out, HDn.out, HB8.out⟩, by simp [RowKit.intOf]; omega⟩
        · have hM64 : (64 : Int) < (M : Int) := by omega
          have HE : Sld (Calls Tryd.prog 30 #[.pointer (some ⟨w.heap.size, 0, none⟩), .int .i64 ((k : Int) + 1)] w7 fun e w' => e = .returned (.tuple #[.slice none 0 0, .int .i64 10]) ∧ w' = w7) := ⟨hE⟩
          clear hE h64 CE CSz
          refine HE.out.mono ?_
          rintro e w8 ⟨rfl, hw8⟩
          subst hw8
          go_wp2_with fail
          exact ⟨⟨k + 1, ev6, mv6, _, by omega, by omega, by go_num, by go_num, by rw [HDZ.out], HM6.out, HDn.out, HB6.out⟩, by simp [RowKit.intOf]; omega⟩
      · have hge : tm % 50 ≤ (k : Int) := by omega
        clear hM hD hB
        go_wp2_with fail
        go_ret
        exact ⟨rfl, HB.out⟩
end Go.Proofs.YtjidockolacghaaDoor
namespace Go.Proofs.YtjidockolacghaaDoor
open Go.RowKit
theorem tableDoubles_all (w : World) (op tm : Int) (hT : SpanCells w) (hw : (Lit.int .u8 tm).wf = true) :
    Calls Tryd.prog 7 #[.int .i64 op, .int .u8 tm] w fun e w' => e = .returned (.bool true) ∧ Below w.heap.size w w' := by
  have e1 : IntKind.min .u8 = 0 := by decide
  have e2 : IntKind.max .u8 = 255 := by decide
  simp only [Lit.wf, e1, e2, Bool.and_eq_true, decide_eq_true_eq] at hw
  exact tableDoubles_walk w op tm hw hT
end Go.Proofs.YtjidockolacghaaDoor
