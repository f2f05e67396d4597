/-
  depth, around, walked.
-/
import Derived.Test.YtfnbkffphpidbaaFoW
set_option linter.unusedSimpArgs false
set_option linter.unusedVariables false
namespace Go.Proofs.Ytfnbkffphpidbaa
open Go.RowKit Go.Lib Go.Sort

set_option maxHeartbeats 1000000 in
theorem fdepth_any (w : World) (p : Nat) (v : Value) (J : List (Nat × Nat)) (V : List Value) (m : List Mv) (a : Nat) (P : List Ed) (h : FoM w p v m) (hI : FoI J V m) (ha : a < m.length) (hP : Pa J a P (mA m a).rt) : Calls Try.prog 50 #[.pointer (some ⟨p, 0, none⟩), .int .i64 a] w fun e w' => e = .returned (.int .i64 P.length) ∧ w' = w := by
  have cR : Hid (Calls Try.prog 30 #[.pointer (some ⟨p, 0, none⟩), .int .i64 a] w fun e w' => e = .returned (.int .i64 (mA m a).rt) ∧ w' = w) := froot_any _ p _ m a h ha
  obtain ⟨g, cap, rfl, hg, hgl, hc, hm⟩ := h.row ha
  have c0 := h.c0
  have HM : Hid (∀ x, x < m.length → MbAt w g (x * 8) (mA m x)) := fun x hx => h.at_ hx
  have HI : Hid (FoI J V m) := hI
  have HP : Hid (Pa J a P (mA m a).rt) := hP
  unfold maxLen at hm
  have hsh := hI.short hP ha
  have hle := h.le
  have HR : Hid (∀ x q, x < m.length → (mA m x).rt = (mA m a).rt → Pa J x q (mA m a).rt → x ≠ (mA m a).rt → ∃ e q', q = e :: q' ∧ (mA m x).up.t = eB J e ∧ eB J e < m.length ∧ (mA m (eB J e)).rt = (mA m a).rt ∧ Pa J (eB J e) q' (mA m a).rt) := fun x q hx hr hq hne => by
    obtain ⟨e, q', h1, h2, h3, h4, h5⟩ := HI.out.step hx (p := q) (by rw [hr]; exact hq) (by rw [hr]; exact hne)
    exact ⟨e, q', h1, by rw [h2]; rfl, h3, h4.trans hr, by rw [← hr]; exact h5⟩
  have HL : Hid (∀ q, Pa J (mA m a).rt q (mA m a).rt → q = []) := fun q hq => HI.out.fst.loop hq
  obtain ⟨R, hR0⟩ : ∃ R, (mA m a).rt = R := ⟨_, rfl⟩
  have HR0 : Hid ((mA m a).rt = R) := hR0
  rw [hR0] at cR HP HR HL
  clear hI hP h hR0
  go_enter Try.func50, Try.ntmps50
  go_wp2_with (go_at_call 30; refine cR.out.mono ?_; rintro e w' ⟨rfl, rfl⟩)
  go_loopw [1, 5] (fun x d wr => wr = w' ∧ ∃ (y : Nat) (q : List Ed), x = .int .i64 y ∧ y < m.length ∧ (mA m y).rt = R ∧ Pa J y q R ∧ q.length ≤ P.length ∧ d = .int .i64 ((P.length - q.length : Nat) : Int)) (fun _ d _ => P.length - (RowKit.intOf d).toNat)
  case atStart => exact ⟨rfl, a, P, rfl, ha, HR0.out, HP.out, Nat.le_refl _, by simp⟩
  case round =>
    obtain ⟨rfl, y, q, rfl, hy, hr, hq, hl, rfl⟩ := hrel
    by_cases hne : y = R
    · subst hne
      have hq0 := HL.out q hq
      subst hq0
      clear hq hr HM HR
      go_wp2
      go_ret
      exact ⟨by simp, rfl⟩
    · obtain ⟨e, q', rfl, h2, h3, h4, h5⟩ := HR.out y q hy hr hq hne
      have c2 := (HM.out y hy).c2
      rw [h2] at c2
      have hyI : (y : Int) < (m.length : Int) := by omega
      simp only [List.length_cons] at hl
      obtain ⟨D, hD⟩ : ∃ D, P.length - (e :: q').length = D := ⟨_, rfl⟩
      rw [hD]
      have HD : Hid (P.length - q'.length = D + 1) := by rw [Hid]; simp only [List.length_cons] at hD; omega
      have HB : Hid (D + 1 ≤ P.length) := by rw [Hid]; simp only [List.length_cons] at hD; omega
      have hDb : (D : Int) < 1048576 := by have := HB.out; omega
      have hne' : ((y : Int) != (R : Int)) = true := by simp; omega
      have H5 : Hid (Pa J (eB J e) q' R) := h5
      generalize eB J e = z at *
      clear hq h2 HR HL hD h5
      go_wp2
      exact ⟨⟨by trivial, z, q', rfl, h3, h4, H5.out, by omega, by rw [HD.out]; go_num⟩, by have := HB.out; simp [RowKit.intOf]; omega⟩

def slLen : Value → Nat
  | .slice _ n _ => n
  | _ => 0
def zI (x : Nat) : Value := .int .i64 (x : Int)
def OwnZ (w : World) (base : Nat) (v : Value) (l : List Nat) : Prop := w.ownsRow base 3 1 v l.length (l.map zI)
theorem OwnZ.below {w w' : World} {base : Nat} {v : Value} {l : List Nat} (h : OwnZ w base v l) (hb : Below w.heap.size w w') : OwnZ w' base v l := rw_same h (fun b hb' => hb.block b (rw_block h hb').2.1)
theorem cell_news1 (w : World) (v : Value) (t : TypeId) : ∀ j u, [v][j]? = some u → (w.alloc (.cells #[v] t)).cell? ((⟨w.heap.size, 0, none⟩ : Addr).add j) = some u := by
  intro j u hj
  match j, hj with
  | 0, hj => simp at hj; subst hj; simp [Addr.add]
theorem own_made (w : World) (n : Nat) (hn : n ≤ 1048576) : (w.alloc (.cells (Array.replicate n (.int .i64 0)) 3)).ownsRow w.heap.size 3 1 (.slice (some ⟨w.heap.size, 0, none⟩) 0 n) 0 [] := by
  refine ⟨rfl, .inr ⟨w.heap.size, n, Array.replicate n (.int .i64 0), rfl, Nat.le_refl _, Deep.blk_alloc_new _ _, by omega, by unfold maxLen; omega, by simp, by simp⟩⟩
theorem OwnZ_snoc {w : World} {base : Nat} {v : Value} {l : List Nat} {z : Nat} (h : w.ownsRow base 3 1 v (l.length + 1) (l.map zI ++ [.int .i64 (z : Int)])) : OwnZ w base v (l ++ [z]) := by
  unfold OwnZ; simpa [zI] using h

set_option maxRecDepth 20000 in
set_option maxHeartbeats 2000000 in
theorem faround_any (w : World) (p : Nat) (v : Value) (m : List Mv) (a : Nat) (l : List Nat) (h : FoM w p v m) (ha : a < m.length) (hr : (mA m a).rt < m.length) (h1 : RingC (fun y => (mA m y).nx) a l a) (h2 : (a :: l).Nodup) (h3 : ∀ y ∈ a :: l, y < m.length) (h4 : (mA m (mA m a).rt).sz = l.length + 1) :
    Calls Try.prog 35 #[.pointer (some ⟨p, 0, none⟩), .int .i64 a] w fun e w' => ∃ v', e = .returned v' ∧ OwnZ w' w.heap.size v' (a :: l) ∧ Below w.heap.size w w' := by
  have cS : Hid (Calls Try.prog 37 #[.pointer (some ⟨p, 0, none⟩), .int .i64 a] w fun e w' => e = .returned (.int .i64 ((l.length + 1 : Nat) : Int)) ∧ ∃ n, w' = w.drewN n) := by rw [Hid, ← h4]; exact fsize_any w p v m a h ha hr
  obtain ⟨g, cap, rfl, hg, hgl, hc, hm⟩ := h.row ha
  have c0 := h.c0
  have HM : Hid (∀ x, x < m.length → w.cell? ⟨g, x * 8 + 5, none⟩ = some (.int .i64 (mA m x).nx)) := fun x hx => (h.at_ hx).c5
  have hlen : (a :: l).length ≤ m.length := nodup_le _ _ h2 h3
  simp only [List.length_cons] at hlen
  have hle := h.le
  unfold maxLen at hm
  have hlt : p < w.heap.size := h.lt
  have H1 : Hid (∀ k, k ≤ l.length → (mA m ((a :: l).getD k 0)).nx = if k = l.length then a else (a :: l).getD (k + 1) 0) := fun k hk => RingC.at_ k h1 hk
  have H2 : Hid ((a :: l).Nodup) := h2
  have H3 : Hid (∀ y ∈ a :: l, y < m.length) := h3
  obtain ⟨i0, hi, hz0, hz1, hz2⟩ := info_parts Try.infoInt
  have haI : (a : Int) < (m.length : Int) := by omega
  obtain ⟨N, hN⟩ : ∃ N, l.length + 1 = N := ⟨_, rfl⟩
  rw [hN] at cS hlen
  have HN : Hid (l.length + 1 = N) := hN
  clear h h1 h2 h3 h4 hr hN
  go_enter Try.func35, Try.ntmps35
  go_wp2_with fail
  refine cS.out.mono ?_
  rintro e w2 ⟨rfl, n, rfl⟩
  have hsz : (w.drewN n).heap.size = w.heap.size := rfl
  have HB0 : Hid (Below w.heap.size w (w.drewN n)) := by rw [Hid]; exact ⟨rfl, rfl, rfl, Nat.le_refl _, fun _ _ => rfl⟩
  generalize w.drewN n = W at *
  obtain ⟨w3, hmk, hown3, hg3⟩ := run_make_own (P := Try.prog) W w.heap.size 46 3 i0 (.int .i64 0) 1 Try.underlying46 hi hz0 hz1 .i64 .i64 N (by rw [hz2]; omega) (by unfold maxLen; omega) (by omega)
  rw [hsz] at hmk hown3
  have HB3 : Hid (Below w.heap.size w w3) := HB0.out.grown hg3 (by omega) (fun j hj => by cases hj)
  have s3 := HB3.out.size
  clear hg3
  go_wp2_with (at_builtin; refine wpList_append_lies _ rfl (.tmp 11) (.tmp 13) 46 rfl w.heap.size 3 i0 (.int .i64 0) 1 8 Try.underlying46 hi hz0 hz1 hz2 rfl (by decide) _ _ _ (by simp [Act.eval, Act.put]) (hown3.alloc _) ⟨w3.heap.size, 0, none⟩ 1 1 [.int .i64 (a : Int)] (by simp [Act.eval, Act.put]) rfl (cell_news1 w3 _ _) (by simp [Value.oneCell']) (by omega) (by unfold maxLen; omega) (by omega) (by simp; omega) _ rfl ?_; intro g6 cap6 w6 hown6 hg6 hat6 hl6; have HB6 : Hid (Below w.heap.size w w6) := (HB3.out.alloc (by omega) _).grown hg6 (by simp; omega) (fun j hj => (rw_block hown3 hj).1); have c6 : w6.cell? ⟨p, 0, none⟩ = some (.slice (some ⟨g, 0, none⟩) m.length cap) := (HB6.out.cell (p := ⟨p, 0, none⟩) hlt).trans c0; have c7 : w6.cell? ⟨g, a * 8 + 5, none⟩ = some (.int .i64 (mA m a).nx) := (HB6.out.cell (p := ⟨g, a * 8 + 5, none⟩) hgl).trans (HM.out a ha))
  go_loopw [5, 6] (fun x i wr => ∃ k : Nat, k ≤ l.length ∧ i = .int .i64 ((mA m ((a :: l).getD k 0)).nx : Int) ∧ OwnZ wr w.heap.size x (a :: l.take k) ∧ Below w.heap.size w wr) (fun x _ _ => (l.length + 2) - slLen x)
  case atStart => exact ⟨0, by omega, rfl, OwnZ_snoc (l := []) (z := a) hown6, HB6.out⟩
  case round =>
    obtain ⟨k, hk, rfl, hown, hB⟩ := hrel
    have hn := H1.out k hk
    have hsw := hB.size
    have hl0 : (a :: l.take k).length = k + 1 := by simp; omega
    by_cases hke : k = l.length
    · rw [if_pos hke] at hn
      rw [hn]
      have HO : Hid (OwnZ wr w.heap.size u5 (a :: l)) := by rw [Hid]; rw [hke, List.take_length] at hown; exact hown
      have HB : Hid (Below w.heap.size w wr) := hB
      clear hown hB hn hown6 hg6 c6 c7
      go_wp2_with fail
      go_ret
      exact ⟨_, rfl, HO.out, HB.out⟩
    · rw [if_neg hke] at hn
      have hz : (a :: l).getD (k + 1) 0 = l.getD k 0 := by simp
      have hkl : k < l.length := by omega
      have hzm : l.getD k 0 ∈ l := by simp [hkl]
      have hza : l.getD k 0 ≠ a := fun e => (List.nodup_cons.1 H2.out).1 (by rw [← e]; exact hzm)
      have hzl : l.getD k 0 < m.length := H3.out _ (List.mem_cons_of_mem _ hzm)
      have hc5 := (hB.cell (p := ⟨g, l.getD k 0 * 8 + 5, none⟩) hgl).trans (HM.out _ hzl)
      have hc0 := (hB.cell (p := ⟨p, 0, none⟩) hlt).trans c0
      have hsn : a :: l.take (k + 1) = (a :: l.take k) ++ [l.getD k 0] := by rw [List.take_succ_eq_append_getElem hkl]; simp [hkl]
      have hnx : (mA m ((a :: l).getD (k + 1) 0)).nx = (mA m (l.getD k 0)).nx := by rw [hz]
      rw [hn, hz]
      unfold OwnZ at hown
      rw [hl0] at hown
      obtain ⟨xa, xc, rfl⟩ := rw_form hown
      have HSN : Hid (a :: l.take (k + 1) = (a :: l.take k) ++ [l.getD k 0]) := hsn
      have HNX : Hid ((mA m ((a :: l).getD (k + 1) 0)).nx = (mA m (l.getD k 0)).nx) := hnx
      have HL0 : Hid ((a :: l.take k).length = k + 1) := hl0
      have HB : Hid (Below w.heap.size w wr) := hB
      have HK : Hid (k < l.length) := hkl
      have HNl : Hid (k + 2 ≤ N) := by have := HN.out; rw [Hid]; omega
      generalize (mA m (l.getD k 0)).nx = nz at *
      generalize l.getD k 0 = z at *
      have hzI : (z : Int) < (m.length : Int) := by omega
      have hne : ((z : Int) != (a : Int)) = true := by simp; omega
      have hkb : k + 1 + 1 ≤ 1048576 := by have := HNl.out; omega
      clear hn hz hzm hsn hnx hown6 hg6 c6 c7 hl0 hB H1 hke hkl
      go_wp2_with (at_builtin; refine wpList_append_lies _ rfl (.tmp 34) (.tmp 36) 46 rfl w.heap.size 3 i0 (.int .i64 0) 1 8 Try.underlying46 hi hz0 hz1 hz2 rfl (by decide) _ _ _ (by simp [Act.eval, Act.put]) (hown.alloc _) ⟨wr.heap.size, 0, none⟩ 1 1 [.int .i64 (z : Int)] (by simp [Act.eval, Act.put]) rfl (cell_news1 wr _ _) (by simp [Value.oneCell']) (by omega) (by unfold maxLen; omega) (by omega) (by simp; omega) _ rfl ?_; intro g8 cap8 w8 hown8 hg8 hat8 hl8; have HB8 : Hid (Below w.heap.size w w8) := (HB.out.alloc (by omega) _).grown hg8 (by simp; omega) (fun j hj => (rw_block hown hj).1); have HB9 : Hid (Below wr.heap.size wr w8 ∨ True) := .inr trivial; have c8 : w8.cell? ⟨p, 0, none⟩ = some (.slice (some ⟨g, 0, none⟩) m.length cap) := (HB8.out.cell (p := ⟨p, 0, none⟩) hlt).trans c0; have c9 : w8.cell? ⟨g, z * 8 + 5, none⟩ = some (.int .i64 nz) := (HB8.out.cell (p := ⟨g, z * 8 + 5, none⟩) hgl).trans ((HB.out.cell (p := ⟨g, z * 8 + 5, none⟩) hgl).symm.trans hc5))
      refine ⟨⟨k + 1, HK.out, by rw [HNX.out], ?_, HB8.out⟩, by have := HK.out; simp [slLen]; omega⟩
      rw [HSN.out]
      refine OwnZ_snoc ?_
      rw [HL0.out]; exact hown8
end Go.Proofs.Ytfnbkffphpidbaa
