/-
  DcN.
-/
import Derived.Test.YtlbmijcpalfaeaaGreatDoorP39
import Derived.Lib.SlBytesRow
set_option linter.unusedSimpArgs false
set_option linter.unusedVariables false
namespace Go.Proofs.YtlbmijcpalfaeaaGreatDoor
open Go.RowKit Go.Lib

def byU (n : Int) (i : Nat) : UInt8 := UInt8.ofNat ((n / (256 ^ i : Nat) % 256).toNat)
def numU (n : Int) : List UInt8 := [byU n 0, byU n 1, byU n 2, byU n 3, byU n 4, byU n 5, byU n 6, byU n 7]
def u8V (b : UInt8) : Value := .int .u8 (b.toNat : Nat)
theorem byU_val (n : Int) (i : Nat) : u8V (byU n i) = .int .u8 (n / (256 ^ i : Nat) % 256) := by
  unfold u8V byU
  have h : 0 ≤ n / ((256 ^ i : Nat) : Int) % 256 ∧ n / ((256 ^ i : Nat) : Int) % 256 < 256 := by omega
  rw [UInt8.toNat_ofNat_of_lt' (by omega : (n / ((256 ^ i : Nat) : Int) % 256).toNat < 256)]
  congr 1; omega
theorem byU_inj {n m : Int} {i : Nat} (h : byU n i = byU m i) : n / (256 ^ i : Nat) % 256 = m / (256 ^ i : Nat) % 256 := by
  have := congrArg u8V h
  rw [byU_val, byU_val] at this
  injection this
theorem numU_inj {n m : Int} (hn : N6 n) (hm : N6 m) (h : numU n = numU m) : n = m := by
  unfold numU at h
  simp only [List.cons.injEq, and_true] at h
  obtain ⟨h0, h1, h2, h3, h4, h5, h6, h7⟩ := h
  have e0 := byU_inj h0
  have e1 := byU_inj h1
  have e2 := byU_inj h2
  have e3 := byU_inj h3
  have e4 := byU_inj h4
  have e5 := byU_inj h5
  have e6 := byU_inj h6
  have e7 := byU_inj h7
  simp only [Nat.reducePow] at e0 e1 e2 e3 e4 e5 e6 e7
  obtain ⟨a1, a2⟩ := hn
  obtain ⟨b1, b2⟩ := hm
  clear h0 h1 h2 h3 h4 h5 h6 h7
  have f7 : n / 72057594037927936 = m / 72057594037927936 := by clear e0 e1 e2 e3 e4 e5 e6; omega
  have st6 : ∀ n m : Int, n / 72057594037927936 = m / 72057594037927936 → n / 281474976710656 % 256 = m / 281474976710656 % 256 → n / 281474976710656 = m / 281474976710656 := fun n m h1 h2 => by omega
  have f6 := st6 n m f7 e6
  have st5 : ∀ n m : Int, n / 281474976710656 = m / 281474976710656 → n / 1099511627776 % 256 = m / 1099511627776 % 256 → n / 1099511627776 = m / 1099511627776 := fun n m h1 h2 => by omega
  have f5 := st5 n m f6 e5
  have st4 : ∀ n m : Int, n / 1099511627776 = m / 1099511627776 → n / 4294967296 % 256 = m / 4294967296 % 256 → n / 4294967296 = m / 4294967296 := fun n m h1 h2 => by omega
  have f4 := st4 n m f5 e4
  have st3 : ∀ n m : Int, n / 4294967296 = m / 4294967296 → n / 16777216 % 256 = m / 16777216 % 256 → n / 16777216 = m / 16777216 := fun n m h1 h2 => by omega
  have f3 := st3 n m f4 e3
  have st2 : ∀ n m : Int, n / 16777216 = m / 16777216 → n / 65536 % 256 = m / 65536 % 256 → n / 65536 = m / 65536 := fun n m h1 h2 => by omega
  have f2 := st2 n m f3 e2
  have st1 : ∀ n m : Int, n / 65536 = m / 65536 → n / 256 % 256 = m / 256 % 256 → n / 256 = m / 256 := fun n m h1 h2 => by omega
  have f1 := st1 n m f2 e1
  have st0 : ∀ n m : Int, n / 256 = m / 256 → n / 1 % 256 = m / 1 % 256 → n = m := fun n m h1 h2 => by omega
  exact st0 n m f1 e0
theorem numU_len (n : Int) : (numU n).length = 8 := rfl
def kidsU (ks : List Int) : List UInt8 := ks.flatMap numU
theorem kidsU_inj : ∀ (ks ms : List Int), ks.length = ms.length → (∀ k ∈ ks, N6 k) → (∀ k ∈ ms, N6 k) → kidsU ks = kidsU ms → ks = ms := by
  intro ks
  induction ks with
  | nil => intro ms h _ _ _; cases ms with
    | nil => rfl
    | cons m ms => simp at h
  | cons k ks ih =>
    intro ms h h1 h2 e
    cases ms with
    | nil => simp at h
    | cons m ms =>
      simp only [kidsU, List.flatMap_cons] at e
      obtain ⟨e1, e2⟩ := List.append_inj e (by rw [numU_len, numU_len])
      rw [numU_inj (h1 k (by simp)) (h2 m (by simp)) e1, ih ms (by simpa using h) (fun x hx => h1 x (by simp [hx])) (fun x hx => h2 x (by simp [hx])) e2]
def keyU (x : Nd) : List UInt8 := numU x.op ++ numU x.n ++ kidsU x.kids
def keyB (x : Nd) : ByteArray := ⟨(keyU x).toArray⟩ ++ x.name
theorem keyB_list (x : Nd) : (keyB x).data.toList = numU x.op ++ (numU x.n ++ (kidsU x.kids ++ x.name.data.toList)) := by
  unfold keyB keyU
  rw [ByteArray.data_append]
  simp
theorem kidsU_len (ks : List Int) : (kidsU ks).length = ks.length * 8 := by
  induction ks with
  | nil => rfl
  | cons k ks ih => simp only [kidsU, List.flatMap_cons, List.length_append, numU_len, List.length_cons] at *; omega
theorem form_op {x : Nd} (h : formB x = true) : 1 ≤ x.op ∧ x.op ≤ 17 := by
  unfold formB fitB at h
  simp only [Bool.and_eq_true, decide_eq_true_eq] at h
  have := arit_spec x.op
  omega
theorem keyB_inj {x y : Nd} (fx : formB x = true) (fy : formB y = true) (nx : N6 x.n) (ny : N6 y.n) (kx : ∀ k ∈ x.kids, N6 k) (ky : ∀ k ∈ y.kids, N6 k) (h : keyB x = keyB y) : x = y := by
  have e := congrArg (fun b : ByteArray => b.data.toList) h
  simp only [keyB_list] at e
  obtain ⟨e1, e⟩ := List.append_inj e (by rw [numU_len, numU_len])
  obtain ⟨e2, e⟩ := List.append_inj e (by rw [numU_len, numU_len])
  have o1 := form_op fx
  have o2 := form_op fy
  have h1 : x.op = y.op := numU_inj ⟨by omega, by omega⟩ ⟨by omega, by omega⟩ e1
  have h2 : x.n = y.n := numU_inj nx ny e2
  obtain ⟨e3, e4⟩ := List.append_inj e (by rw [kidsU_len, kidsU_len, formL fx fy h1])
  have h3 := kidsU_inj _ _ (formL fx fy h1) kx ky e3
  have h4 : x.name = y.name := ByteArray.ext (Array.toList_inj.1 e4)
  obtain ⟨a, b, c, d⟩ := x
  obtain ⟨a', b', c', d'⟩ := y
  simp only at h1 h2 h3 h4
  rw [h1, h2, h3, h4]
theorem Tryz.infoU8 : (Tryz.prog.info? 5).map (fun i => (i.zero, i.size, i.bytes)) = some (some (.int .u8 0), 1, 1) := by kernel_rfl
/-- Bytes of the call's own. -/
def OwnU (w : World) (base : Nat) (v : Value) (l : List UInt8) : Prop := w.ownsRow base 5 1 v l.length (l.map u8V)
set_option maxRecDepth 20000 in
set_option maxHeartbeats 8000000 in
theorem number_any (w : World) (base : Nat) (v : Value) (l : List UInt8) (n : Int) (hO : OwnU w base v l) (hb : base ≤ w.heap.size) (hl : l.length ≤ 1000) (hn : N6 n) :
    Calls Tryz.prog 44 #[v, .int .i64 n] w fun e w' => ∃ v', e = .returned v' ∧ OwnU w' base v' (l ++ numU n) ∧ Below base w w' := by
  obtain ⟨i0, hi0, hz0, hz1, hz2⟩ := info_parts Tryz.infoU8
  obtain ⟨hn1, hn2⟩ := hn
  have HO := Sld.mk hO
  clear hO
  go_enter Tryz.func44, Tryz.ntmps44
  go_wp2_with fail
  go_loopw [0, 5] (fun v q wr => ∃ j : Nat, j ≤ 8 ∧ q = .int .i64 j ∧ Sld (OwnU wr base v (l ++ (numU n).take j)) ∧ Sld (Below base w wr)) (fun _ q _ => 8 - (RowKit.intOf q).toNat)
  case atStart => exact ⟨0, by omega, rfl, by simpa using HO, ⟨Below.refl _ _⟩⟩
  case round =>
    obtain ⟨j, hj, rfl, HM, HB⟩ := hrel
    clear HO
    by_cases hlt : j < 8
    · have hown := HM.out
      unfold OwnU at hown
      rw [List.length_append, List.length_take, numU_len, Nat.min_eq_left hj] at hown
      have hbs : base ≤ wr.heap.size := Nat.le_trans hb HB.out.size
      have HTK : Sld (∀ z : Int, z = n / (256 ^ j : Nat) % 256 → ((l ++ (numU n).take j).map u8V) ++ [.int .u8 z] = (l ++ (numU n).take (j + 1)).map u8V) := ⟨fun z hz => by
        rw [List.take_add_one, ← List.append_assoc, List.map_append (l₁ := l ++ (numU n).take j)]
        congr 1
        have e : (numU n)[j]? = some (byU n j) := by
          rcases (show j = 0 ∨ j = 1 ∨ j = 2 ∨ j = 3 ∨ j = 4 ∨ j = 5 ∨ j = 6 ∨ j = 7 by omega) with rfl | rfl | rfl | rfl | rfl | rfl | rfl | rfl <;> rfl
        rw [e]
        simp only [Option.toList, List.map_cons, List.map_nil, byU_val, hz]⟩
      obtain ⟨X, hX⟩ : ∃ X, (l ++ (numU n).take j).map u8V = X := ⟨_, rfl⟩
      rw [hX] at hown HTK
      clear hX HM
      rcases (show j = 0 ∨ j = 1 ∨ j = 2 ∨ j = 3 ∨ j = 4 ∨ j = 5 ∨ j = 6 ∨ j = 7 by omega) with rfl | rfl | rfl | rfl | rfl | rfl | rfl | rfl
      · have hE := HTK.out (n % 256) (by simp)
        go_wp2_with (at_builtin; refine wpList_append_lies _ rfl (.tmp 10) (.tmp 17) 91 rfl base 5 i0 (.int .u8 0) 1 1 Tryz.underlying91 hi0 hz0 hz1 hz2 rfl (by decide) _ _ _ rfl (hown.alloc _) ⟨wr.heap.size, 0, none⟩ 1 1 [.int .u8 (n % 256)] rfl rfl (cell_news_one _ _ _) (by simp [Value.oneCell']) (by omega) (by unfold maxLen; omega) (by omega) (by simp; omega) _ rfl ?_; intro g6 cap6 w6 hown6 hg6 hat6 hl6)
        have HB6 : Sld (Below base w w6) := ⟨(HB.out.alloc hbs _).grown hg6 (by simp; omega) (fun q hq => (rw_block hown hq).1)⟩
        have HO6 : Sld (OwnU w6 base (.slice (some ⟨g6, 0, none⟩) (l.length + 0 + 1) cap6) (l ++ (numU n).take (0 + 1))) := ⟨by
          unfold OwnU
          rw [List.length_append, List.length_take, numU_len, ← hE]
          exact hown6⟩
        clear hown6 hg6 hat6 hl6 hown hE HTK
        go_wp2_with fail
        exact ⟨⟨1, by omega, by first | rfl | go_num, HO6, HB6⟩, by simp [RowKit.intOf]⟩
      · have hE := HTK.out (n / 256 % 256) (by simp)
        go_wp2_with (at_builtin; refine wpList_append_lies _ rfl (.tmp 10) (.tmp 17) 91 rfl base 5 i0 (.int .u8 0) 1 1 Tryz.underlying91 hi0 hz0 hz1 hz2 rfl (by decide) _ _ _ rfl (hown.alloc _) ⟨wr.heap.size, 0, none⟩ 1 1 [.int .u8 (n / 256 % 256)] rfl rfl (cell_news_one _ _ _) (by simp [Value.oneCell']) (by omega) (by unfold maxLen; omega) (by omega) (by simp; omega) _ rfl ?_; intro g6 cap6 w6 hown6 hg6 hat6 hl6)
        have HB6 : Sld (Below base w w6) := ⟨(HB.out.alloc hbs _).grown hg6 (by simp; omega) (fun q hq => (rw_block hown hq).1)⟩
        have HO6 : Sld (OwnU w6 base (.slice (some ⟨g6, 0, none⟩) (l.length + 1 + 1) cap6) (l ++ (numU n).take (1 + 1))) := ⟨by
          unfold OwnU
          rw [List.length_append, List.length_take, numU_len, ← hE]
          exact hown6⟩
        clear hown6 hg6 hat6 hl6 hown hE HTK
        go_wp2_with fail
        exact ⟨⟨2, by omega, by first | rfl | go_num, HO6, HB6⟩, by simp [RowKit.intOf]⟩
      · have hE := HTK.out (n / 65536 % 256) (by simp)
        go_wp2_with (at_builtin; refine wpList_append_lies _ rfl (.tmp 10) (.tmp 17) 91 rfl base 5 i0 (.int .u8 0) 1 1 Tryz.underlying91 hi0 hz0 hz1 hz2 rfl (by decide) _ _ _ rfl (hown.alloc _) ⟨wr.heap.size, 0, none⟩ 1 1 [.int .u8 (n / 65536 % 256)] rfl rfl (cell_news_one _ _ _) (by simp [Value.oneCell']) (by omega) (by unfold maxLen; omega) (by omega) (by simp; omega) _ rfl ?_; intro g6 cap6 w6 hown6 hg6 hat6 hl6)
        have HB6 : Sld (Below base w w6) := ⟨(HB.out.alloc hbs _).grown hg6 (by simp; omega) (fun q hq => (rw_block hown hq).1)⟩
        have HO6 : Sld (OwnU w6 base (.slice (some ⟨g6, 0, none⟩) (l.length + 2 + 1) cap6) (l ++ (numU n).take (2 + 1))) := ⟨by
          unfold OwnU
          rw [List.length_append, List.length_take, numU_len, ← hE]
          exact hown6⟩
        clear hown6 hg6 hat6 hl6 hown hE HTK
        go_wp2_with fail
        exact ⟨⟨3, by omega, by first | rfl | go_num, HO6, HB6⟩, by simp [RowKit.intOf]⟩
      · have hE := HTK.out (n / 16777216 % 256) (by simp)
        go_wp2_with (at_builtin; refine wpList_append_lies _ rfl (.tmp 10) (.tmp 17) 91 rfl base 5 i0 (.int .u8 0) 1 1 Tryz.underlying91 hi0 hz0 hz1 hz2 rfl (by decide) _ _ _ rfl (hown.alloc _) ⟨wr.heap.size, 0, none⟩ 1 1 [.int .u8 (n / 16777216 % 256)] rfl rfl (cell_news_one _ _ _) (by simp [Value.oneCell']) (by omega) (by unfold maxLen; omega) (by omega) (by simp; omega) _ rfl ?_; intro g6 cap6 w6 hown6 hg6 hat6 hl6)
        have HB6 : Sld (Below base w w6) := ⟨(HB.out.alloc hbs _).grown hg6 (by simp; omega) (fun q hq => (rw_block hown hq).1)⟩
        have HO6 : Sld (OwnU w6 base (.slice (some ⟨g6, 0, none⟩) (l.length + 3 + 1) cap6) (l ++ (numU n).take (3 + 1))) := ⟨by
          unfold OwnU
          rw [List.length_append, List.length_take, numU_len, ← hE]
          exact hown6⟩
        clear hown6 hg6 hat6 hl6 hown hE HTK
        go_wp2_with fail
        exact ⟨⟨4, by omega, by first | rfl | go_num, HO6, HB6⟩, by simp [RowKit.intOf]⟩
      · have hE := HTK.out (n / 4294967296 % 256) (by simp)
        go_wp2_with (at_builtin; refine wpList_append_lies _ rfl (.tmp 10) (.tmp 17) 91 rfl base 5 i0 (.int .u8 0) 1 1 Tryz.underlying91 hi0 hz0 hz1 hz2 rfl (by decide) _ _ _ rfl (hown.alloc _) ⟨wr.heap.size, 0, none⟩ 1 1 [.int .u8 (n / 4294967296 % 256)] rfl rfl (cell_news_one _ _ _) (by simp [Value.oneCell']) (by omega) (by unfold maxLen; omega) (by omega) (by simp; omega) _ rfl ?_; intro g6 cap6 w6 hown6 hg6 hat6 hl6)
        have HB6 : Sld (Below base w w6) := ⟨(HB.out.alloc hbs _).grown hg6 (by simp; omega) (fun q hq => (rw_block hown hq).1)⟩
        have HO6 : Sld (OwnU w6 base (.slice (some ⟨g6, 0, none⟩) (l.length + 4 + 1) cap6) (l ++ (numU n).take (4 + 1))) := ⟨by
          unfold OwnU
          rw [List.length_append, List.length_take, numU_len, ← hE]
          exact hown6⟩
        clear hown6 hg6 hat6 hl6 hown hE HTK
        go_wp2_with fail
        exact ⟨⟨5, by omega, by first | rfl | go_num, HO6, HB6⟩, by simp [RowKit.intOf]⟩
      · have hE := HTK.out (n / 1099511627776 % 256) (by simp)
        go_wp2_with (at_builtin; refine wpList_append_lies _ rfl (.tmp 10) (.tmp 17) 91 rfl base 5 i0 (.int .u8 0) 1 1 Tryz.underlying91 hi0 hz0 hz1 hz2 rfl (by decide) _ _ _ rfl (hown.alloc _) ⟨wr.heap.size, 0, none⟩ 1 1 [.int .u8 (n / 1099511627776 % 256)] rfl rfl (cell_news_one _ _ _) (by simp [Value.oneCell']) (by omega) (by unfold maxLen; omega) (by omega) (by simp; omega) _ rfl ?_; intro g6 cap6 w6 hown6 hg6 hat6 hl6)
        have HB6 : Sld (Below base w w6) := ⟨(HB.out.alloc hbs _).grown hg6 (by simp; omega) (fun q hq => (rw_block hown hq).1)⟩
        have HO6 : Sld (OwnU w6 base (.slice (some ⟨g6, 0, none⟩) (l.length + 5 + 1) cap6) (l ++ (numU n).take (5 + 1))) := ⟨by
          unfold OwnU
          rw [List.length_append, List.length_take, numU_len, ← hE]
          exact hown6⟩
        clear hown6 hg6 hat6 hl6 hown hE HTK
        go_wp2_with fail
        exact ⟨⟨6, by omega, by first | rfl | go_num, HO6, HB6⟩, by simp [RowKit.intOf]⟩
      · have hE := HTK.out (n / 281474976710656 % 256) (by simp)
        go_wp2_with (at_builtin; refine wpList_append_lies _ rfl (.tmp 10) (.tmp 17) 91 rfl base 5 i0 (.int .u8 0) 1 1 Tryz.underlying91 hi0 hz0 hz1 hz2 rfl (by decide) _ _ _ rfl (hown.alloc _) ⟨wr.heap.size, 0, none⟩ 1 1 [.int .u8 (n / 281474976710656 % 256)] rfl rfl (cell_news_one _ _ _) (by simp [Value.oneCell']) (by omega) (by unfold maxLen; omega) (by omega) (by simp; omega) _ rfl ?_; intro g6 cap6 w6 hown6 hg6 hat6 hl6)
        have HB6 : Sld (Below base w w6) := ⟨(HB.out.alloc hbs _).grown hg6 (by simp; omega) (fun q hq => (rw_block hown hq).1)⟩
        have HO6 : Sld (OwnU w6 base (.slice (some ⟨g6, 0, none⟩) (l.length + 6 + 1) cap6) (l ++ (numU n).take (6 + 1))) := ⟨by
          unfold OwnU
          rw [List.length_append, List.length_take, numU_len, ← hE]
          exact hown6⟩
        clear hown6 hg6 hat6 hl6 hown hE HTK
        go_wp2_with fail
        exact ⟨⟨7, by omega, by first | rfl | go_num, HO6, HB6⟩, by simp [RowKit.intOf]⟩
      · have hE := HTK.out (n / 72057594037927936 % 256) (by simp)
        go_wp2_with (at_builtin; refine wpList_append_lies _ rfl (.tmp 10) (.tmp 17) 91 rfl base 5 i0 (.int .u8 0) 1 1 Tryz.underlying91 hi0 hz0 hz1 hz2 rfl (by decide) _ _ _ rfl (hown.alloc _) ⟨wr.heap.size, 0, none⟩ 1 1 [.int .u8 (n / 72057594037927936 % 256)] rfl rfl (cell_news_one _ _ _) (by simp [Value.oneCell']) (by omega) (by unfold maxLen; omega) (by omega) (by simp; omega) _ rfl ?_; intro g6 cap6 w6 hown6 hg6 hat6 hl6)
        have HB6 : Sld (Below base w w6) := ⟨(HB.out.alloc hbs _).grown hg6 (by simp; omega) (fun q hq => (rw_block hown hq).1)⟩
        have HO6 : Sld (OwnU w6 base (.slice (some ⟨g6, 0, none⟩) (l.length + 7 + 1) cap6) (l ++ (numU n).take (7 + 1))) := ⟨by
          unfold OwnU
          rw [List.length_append, List.length_take, numU_len, ← hE]
          exact hown6⟩
        clear hown6 hg6 hat6 hl6 hown hE HTK
        go_wp2_with fail
        exact ⟨⟨8, by omega, by first | rfl | go_num, HO6, HB6⟩, by simp [RowKit.intOf]⟩
    · have hje : j = 8 := by omega
      subst hje
      have HE : Sld (OwnU wr base _ (l ++ numU n)) := ⟨by have := HM.out; rwa [show (numU n).take 8 = numU n from rfl] at this⟩
      clear HM
      go_wp2_with fail
      go_ret
      exact ⟨_, rfl, HE.out, HB.out⟩
theorem OwnU.slice {w : World} {base : Nat} {v : Value} {l : List UInt8} (h : OwnU w base v l) : ∃ va vc, v = .slice va l.length vc ∧ (0 < l.length → ∃ g, va = some ⟨g, 0, none⟩ ∧ ∀ j (hj : j < l.length), w.cell? ⟨g, j, none⟩ = some (.int .u8 (l[j].toNat : Nat))) := by
  rcases h.2 with ⟨rfl, e⟩ | ⟨g, cap, cur, rfl, hb, hg, h1, h2, _⟩
  · exact ⟨none, 0, by rw [e], fun h => by omega⟩
  · refine ⟨_, _, rfl, fun _ => ⟨g, rfl, fun j hj => ?_⟩⟩
    obtain ⟨u, a1, a2⟩ := rw_cell h (i := j) (by omega)
    rw [a1, ← a2, List.getElem?_map, List.getElem?_eq_getElem hj]
    rfl
theorem OwnU.below {w w2 : World} {base : Nat} {v : Value} {l : List UInt8} (h : OwnU w base v l) (hb : Below w.heap.size w w2) : OwnU w2 base v l := ownsRow_below h hb
set_option maxRecDepth 20000 in
set_option maxHeartbeats 8000000 in
theorem key_any (x : Nd) (ka : Option Addr) (kc : Nat) (w : World) (hk : Ints w w.heap.size (.slice ka x.kids.length kc) x.kids) (fx : formB x = true) (hn : N6 x.n) (hkn : ∀ k ∈ x.kids, N6 k) :
    Calls Tryz.prog 31 #[.agg #[.int .i64 x.op, .int .i64 x.n, .string x.name, .slice ka x.kids.length kc]] w fun e w' => e = .returned (.string (keyB x)) ∧ Below w.heap.size w w' := by
  have hop := form_op fx
  have hkl := formB_kids fx
  have hnm := (form_name fx).2
  obtain ⟨W1, hW1⟩ : ∃ W1, w.alloc (.cells #[.int .i64 x.op, .int .i64 x.n, .string x.name, .slice ka x.kids.length kc] 41) = W1 := ⟨_, rfl⟩
  have hb1 : Below w.heap.size w W1 := by rw [← hW1]; exact (Below.refl _ _).alloc (Nat.le_refl _) _
  have bx : W1.heap[w.heap.size]? = some (.cells #[.int .i64 x.op, .int .i64 x.n, .string x.name, .slice ka x.kids.length kc] 41 (0, 0)) := by rw [← hW1, Deep.blk_alloc_new]
  have HX : Sld (∀ V, Below W1.heap.size W1 V → (V.cell? ⟨w.heap.size, 0, none⟩ = some (.int .i64 x.op) ∧ V.cell? ⟨w.heap.size, 1, none⟩ = some (.int .i64 x.n) ∧ V.cell? ⟨w.heap.size, 2, none⟩ = some (.string x.name) ∧ V.cell? ⟨w.heap.size, 3, none⟩ = some (.slice ka x.kids.length kc)) ∧ Ints V V.heap.size (.slice ka x.kids.length kc) x.kids) := ⟨fun V hV => ⟨blk4N ((hV.block _ (lt_of_block bx)).trans bx), (hk.below hb1 hb1.size).below hV hV.size⟩⟩
  obtain ⟨⟨x0, x1, x2, x3⟩, _⟩ := HX.out W1 (Below.refl _ _)
  have HB1 := Sld.mk hb1
  have HW1 := Sld.mk hW1
  have HKN := Sld.mk hkn
  have HNN := Sld.mk hn
  have C0 : Sld (Calls Tryz.prog 44 #[.slice none 0 0, .int .i64 x.op] W1 fun e w' => ∃ v', e = .returned v' ∧ OwnU w' W1.heap.size v' (numU x.op) ∧ Below W1.heap.size W1 w') := ⟨by
    have := number_any W1 W1.heap.size (.slice none 0 0) [] x.op (World.ownsRow_nil _ _ _ _) (Nat.le_refl _) (by simp) ⟨by omega, by omega⟩
    rwa [List.nil_append] at this⟩
  clear hb1 bx hW1 hk hn hkn
  go_enter Tryz.func31, Tryz.ntmps31
  go_wp2_with fail
  rw [HW1.out]
  go_wp2_with fail
  refine C0.out.mono ?_
  rintro e w2 ⟨v2, rfl, ho2, hb2⟩
  have HB2 := Sld.mk hb2
  obtain ⟨⟨_, y1, y2, y3⟩, _⟩ := HX.out w2 hb2
  have C1 : Sld (Calls Tryz.prog 44 #[v2, .int .i64 x.n] w2 fun e w' => ∃ v', e = .returned v' ∧ OwnU w' W1.heap.size v' (numU x.op ++ numU x.n) ∧ Below W1.heap.size w2 w') := ⟨number_any w2 W1.heap.size v2 (numU x.op) x.n ho2 HB2.out.size (by rw [numU_len]; omega) HNN.out⟩
  clear ho2 hb2 C0 x0 x1 x2 x3
  go_wp2_with fail
  refine C1.out.mono ?_
  rintro e w3 ⟨v3, rfl, ho3, hb3⟩
  have HB3 : Sld (Below W1.heap.size W1 w3) := ⟨HB2.out.trans hb3⟩
  have HO3 := Sld.mk ho3
  clear ho3 hb3 C1 y1 y2 y3 HB2
  go_wp2_with fail
  go_loopw [3, 4] (fun v q wr => ∃ j : Nat, j ≤ x.kids.length ∧ q = .int .i64 j ∧ Sld (OwnU wr W1.heap.size v (numU x.op ++ numU x.n ++ kidsU (x.kids.take j))) ∧ Sld (Below W1.heap.size W1 wr)) (fun _ q _ => x.kids.length - (RowKit.intOf q).toNat)
  case atStart => exact ⟨0, by omega, rfl, by simpa [kidsU] using HO3, HB3⟩
  case round =>
    obtain ⟨j, hj, rfl, HM, HB⟩ := hrel
    clear HO3 HB3
    obtain ⟨⟨y0, y1, y2, y3⟩, hkI⟩ := HX.out wr HB.out
    by_cases hlt : j < x.kids.length
    · obtain ⟨kb, ko, rfl, hkb, hkc⟩ := hkI.cellK hlt
      have hmem : x.kids.getD j 0 ∈ x.kids := by simp [hlt]
      have HTK : Sld (numU x.op ++ numU x.n ++ kidsU (x.kids.take (j + 1)) = numU x.op ++ numU x.n ++ kidsU (x.kids.take j) ++ numU (x.kids.getD j 0)) := ⟨by
        rw [List.append_assoc (bs := kidsU (x.kids.take j))]
        congr 1
        unfold kidsU
        rw [List.take_add_one, List.flatMap_append, List.getD_eq_getElem?_getD, List.getElem?_eq_getElem hlt]
        simp⟩
      have hkk := HKN.out _ hmem
      have CC := Sld.mk (number_any wr W1.heap.size _ _ (x.kids.getD j 0) HM.out HB.out.size (by simp only [List.length_append, numU_len, kidsU_len, List.length_take]; omega) hkk)
      rw [← HTK.out] at CC
      generalize x.kids.getD j 0 = kz at *
      clear hmem hkk HTK HM hkI
      go_wp2_with fail
      refine CC.out.mono ?_
      rintro e w4 ⟨v4, rfl, ho4, hb4⟩
      have HO4 := Sld.mk ho4
      have HB4 : Sld (Below W1.heap.size W1 w4) := ⟨HB.out.trans hb4⟩
      clear ho4 hb4 CC
      go_wp2_with fail
      exact ⟨⟨j + 1, by omega, by go_num, HO4, HB4⟩, by simp [RowKit.intOf]; omega⟩
    · have hje : j = x.kids.length := by omega
      have HO5 : Sld (OwnU wr W1.heap.size _ (keyU x)) := ⟨by have := HM.out; rw [hje, List.take_length] at this; exact this⟩
      obtain ⟨va, vc, hv, hv2⟩ := HO5.out.slice
      have hkl0 : 0 < (keyU x).length := by unfold keyU; simp only [List.length_append, numU_len]; omega
      obtain ⟨g, hva, hcell⟩ := hv2 hkl0
      subst hva
      subst hv
      have hcv := run_convert_bytes_back (P := Tryz.prog) wr 91 9 5 ⟨g, 0, none⟩ vc (keyU x) Tryz.underlying91 Tryz.underlying5 Tryz.underlying9 (fun j hj => by
        rw [Go.WideShapes.add_plain, Nat.zero_add]; exact hcell j hj)
      have HKB : Sld (keyB x = (⟨(keyU x).toArray⟩ : ByteArray) ++ x.name) := ⟨rfl⟩
      have hjI : ¬ ((j : Int) < (x.kids.length : Int)) := by omega
      clear hcell hv2 HM HO5 hkl0
      have hksz : (⟨(keyU x).toArray⟩ : ByteArray).size ≤ 100 := by
        show (keyU x).toArray.size ≤ 100
        unfold keyU
        simp only [List.size_toArray, List.length_append, numU_len, kidsU_len]
        omega
      obtain ⟨kU, hkU⟩ : ∃ kU, (⟨(keyU x).toArray⟩ : ByteArray) = kU := ⟨_, rfl⟩
      rw [hkU] at hcv HKB hksz
      clear hkU
      generalize (keyU x).length = kl at *
      clear hje
      go_wp2_with fail
      go_ret
      exact ⟨by rw [HKB.out]; rfl, HB1.out.trans (HB.out.mono HB1.out.size)⟩
end Go.Proofs.YtlbmijcpalfaeaaGreatDoor
