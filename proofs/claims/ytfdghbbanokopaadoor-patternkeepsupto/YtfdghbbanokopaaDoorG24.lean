/-
  PaFl, PaFm, OrderW.
-/
import Derived.Shelf.Unicode.DecodeSlow
import Derived.Laws.RangeAny
import Derived.Shelf.Strconv.Itoa0
import Derived.Shelf.Unicode.DecodeAny
import Derived.Test.YtfdghbbanokopaaDoorProg
import Derived.WalkKit
import Derived.Deep.DeepFit
import Derived.Lib.OthersKept
import Derived.Lib.RuneCountTail
import Derived.Deep.AppendLies
import Derived.Deep.OwnRows
import Derived.Laws.AppendOwnNone
import Derived.Deep.QuietTactic
import Derived.BigQuiet
import Derived.Deep.RegionWith
import Derived.Laws.DeepStrings4
import Derived.Below
import Derived.Lib.MapLaws
import Derived.Sort.Walk0
import Derived.Lib.ItoaNum
import Derived.Maps.OwnSet
import Derived.StringKeys
import Derived.Deep.Slices
import Derived.Laws.ResultCell
import Derived.Deep.RegionHeld3
import Derived.Test.YtfdghbbanokopaaDoorG01
import Derived.Test.YtfdghbbanokopaaDoorG02
import Derived.Test.YtfdghbbanokopaaDoorG03
import Derived.Test.YtfdghbbanokopaaDoorG04
import Derived.Test.YtfdghbbanokopaaDoorG05
import Derived.Test.YtfdghbbanokopaaDoorG06
import Derived.Test.YtfdghbbanokopaaDoorG07
import Derived.Test.YtfdghbbanokopaaDoorG13
import Derived.Test.YtfdghbbanokopaaDoorG14
import Derived.Test.YtfdghbbanokopaaDoorG17
import Derived.Test.YtfdghbbanokopaaDoorG18
import Derived.Test.YtfdghbbanokopaaDoorG19
import Derived.Test.YtfdghbbanokopaaDoorG20
import Derived.Test.YtfdghbbanokopaaDoorG21
import Derived.Test.YtfdghbbanokopaaDoorG22
import Derived.Test.YtfdghbbanokopaaDoorG23
set_option linter.unusedSimpArgs false
set_option linter.unusedVariables false
namespace Go.Proofs.YtfdghbbanokopaaDoor
open Go.RowKit Go.Lib Go.Maps Go.Deep

/-- What Fill answers of a sound pattern and as many sound parts. -/
def FillP (w : World) (l : List Nd) (ps : List (List Nd)) (e : Ending) (w' : World) : Prop :=
  Below w.heap.size w w' ∧ (((flH ps (hlsL l) l).length ≤ 64 ∧ ∃ v x, e = .returned (.tuple #[v, .int .i64 0]) ∧ OwnQ w' w.heap.size v x ∧ sndB x = true ∧ hds x = flH ps (hlsL l) l) ∨ (64 < (flH ps (hlsL l) l).length ∧ e = .returned (.tuple #[.slice none 0 0, .int .i64 10])))
/-- On the way. -/
def FlSt (w : World) (l : List Nd) (ps : List (List Nd)) (k : Nat) (bd v : Value) (wr : World) : Prop :=
  Below w.heap.size w wr ∧ ((bd = .int .i64 0 ∧ ∃ x, OwnQ wr w.heap.size v x ∧ FlI l ps (hlsL l) k x) ∨ (bd = .int .i64 10 ∧ v = .slice none 0 0 ∧ 64 < (flH ps (hlsL l) l).length))
theorem patB_snd {l : List Nd} (h : patB l = true) : sndB (l.map fillN) = true := by
  unfold patB at h
  simp only [Bool.and_eq_true] at h
  exact h.2
theorem patB_len {l : List Nd} (h : patB l = true) : 1 ≤ l.length ∧ l.length ≤ 16 := by
  have h1 := snd_len (patB_snd h)
  unfold patB at h
  simp only [Bool.and_eq_true, decide_eq_true_eq] at h
  have := h.1.1
  simp at h1
  omega
theorem partL_all (l : List Nd) (n : Nat) (h : l.length = n + 1) : partL l 0 n = l := by
  unfold partL
  have e : (-((0 : Nat) : Int)) = 0 := by omega
  rw [e, map_mvN_zero, List.drop_zero, List.take_of_length_le (by omega)]
theorem any_snd {ps : List (List Nd)} (h : ps.any (fun l => !sndB l) = false) : ∀ r ∈ ps, sndB r = true := fun r hr => by
  cases hs : sndB r with
  | true => rfl
  | false => rw [List.any_eq_true.2 ⟨r, hr, by rw [hs]; rfl⟩] at h; cases h

theorem RdO.grow {w w1 w2 : World} {l : List Nd} {v nv : Value} {M : Nat} (h : RdO w l v nv M w1) (hs : w.heap.size ≤ w1.heap.size) (hb : Below w1.heap.size w1 w2) : RdO w l v nv M w2 := by
  obtain ⟨⟨p, hp, hc⟩, hr, ⟨n, hm⟩, hM⟩ := h
  exact ⟨⟨p, hp, ownsRow_below hc.row hb, fun x hx => (hc.kids x hx).below (hb.mono hs) (Nat.le_refl _)⟩, ownsRow_below hr hb, ⟨n, hm.below hb⟩, hM⟩
theorem RdO.nodes {w w1 : World} {l : List Nd} {v nv : Value} {M : Nat} (h : RdO w l v nv M w1) (hs : w.heap.size ≤ w1.heap.size) : Nodes w1 w1.heap.size v (l.map fillN) := by
  obtain ⟨p, hp, hc⟩ := h.p
  have := hc.nodes (C := w1.heap.size) (Nat.le_refl _) hs
  rw [hp] at this
  exact this
theorem Lst.part {w W : World} {pa : Option Addr} {pc : Nat} {ps : List (List Nd)} (h : Lst w w.heap.size (.slice pa ps.length pc) ps) (hb : Below w.heap.size w W) {z : Nat} (hz : z < ps.length) :
    ∃ b o qa qc, pa = some ⟨b, o, none⟩ ∧ b < w.heap.size ∧ W.cell? ⟨b, o + z, none⟩ = some (.slice qa (ps.getD z []).length qc) ∧ Nodes W W.heap.size (.slice qa (ps.getD z []).length qc) (ps.getD z []) := by
  obtain ⟨pa', pc', e, hl, hm, hc⟩ := h
  cases e
  rcases hc with h | ⟨b, o, rfl, hlt, hc⟩
  · subst h; simp at hz
  · obtain ⟨pv, h1, h2⟩ := hc z hz
    obtain ⟨qa, qc, rfl, _⟩ := id h2
    exact ⟨b, o, qa, qc, rfl, hlt, (hb.cell (p := ⟨b, o + z, none⟩) hlt).trans h1, h2.below hb hb.size⟩

set_option maxRecDepth 20000 in
set_option maxHeartbeats 4000000 in
theorem fill_walk {w : World} {ao pa : Option Addr} {cap pc n : Nat} {l : List Nd} {ps : List (List Nd)} (hn : l.length = n + 1) (hT : SpanCells w) (hN : Rd w ao cap l) (hnm : ∀ x ∈ l, x.name.size ≤ maxLen)
    (hL : Lst w w.heap.size (.slice pa ps.length pc) ps) (hp : patB l = true) (hs : ps.any (fun l => !sndB l) = false) (hlen : ps.length = (hlsL l).length) :
    Calls Tryd.prog 28 #[.slice ao (n + 1) cap, .slice pa ps.length pc] w fun e w' => FillP w l ps e w' := by
  have h16 := (patB_len hp).2
  rw [hn] at h16
  have hn15 : n ≤ 15 := by omega
  clear h16
  have HT : Hid (SpanCells w) := hT
  have HN : Hid (Rd w ao cap l) := hN
  have HNM : Hid (∀ x ∈ l, x.name.size ≤ maxLen) := hnm
  have HLn : Hid (ps.length = (hlsL l).length) := hlen
  have HSP : Hid (sndB (l.map fillN) = true) := patB_snd hp
  have HPT : Hid (∀ r ∈ ps, sndB r = true) := any_snd hs
  have HLL : Hid (Lst w w.heap.size (.slice pa ps.length pc) ps) := hL
  have HND : Hid (l.length = n + 1) := hn
  have hlen6 : ps.length ≤ 6 := by
    rw [hlen]
    have h := hp
    unfold patB at h
    simp only [Bool.and_eq_true, decide_eq_true_eq] at h
    exact h.1.2
  obtain ⟨pa', pc', epa, hpl, hpm, hpc⟩ := hL
  cases epa
  have HPC : Hid (ps = [] ∨ ∃ b o, pa = some ⟨b, o, none⟩ ∧ b < w.heap.size ∧ ∀ i, i < ps.length → ∃ pv, w.cell? ⟨b, o + i, none⟩ = some pv ∧ Nodes w w.heap.size pv (ps.getD i [])) := hpc
  have cR := read_ok hT hN hnm hp
  rw [hn] at cR
  rw [← hlen] at cR
  have CC : Hid (∀ W, Below w.heap.size w W → Calls Tryd.prog 56 #[.slice pa ps.length pc, .func (.func 57) #[] #[] ] W fun e w' => e = .returned (.bool false) ∧ Below W.heap.size W w') := fun W hb => by
    have := contains_any (HT.out.below hb) (HLL.out.below hb hb.size)
    rw [hs] at this
    exact this
  clear hN hT hnm hp hs hn hlen hpc
  go_enter Tryd.func28, Tryd.ntmps28
  go_wp2_with (go_at_call 55; refine cR.mono ?_; rintro e w1 ⟨va, vc, na, nc, M, rfl, hO, hb⟩; have HB1 : Hid (_) := hb; have HO : Hid (RdO w l (.slice va (n + 1) vc) (.slice na ps.length nc) M w1) := hO; clear hO hb)
  have hs1 := HB1.out.size
  refine (CC.out _ (HB1.out.alloc hs1 _)).mono ?_
  rintro e w2 ⟨rfl, hb2⟩
  have e2 : w2.heap[w1.heap.size]? = some (.cells #[.slice va (n + 1) vc, .slice na ps.length nc, .map (some M)] 90) := (hb2.block w1.heap.size (by simp)).trans (MapKept.heap_alloc w1 _).1
  have hb12 : Below w1.heap.size w1 w2 := ((Below.refl _ _).alloc (Nat.le_refl _) _).trans (hb2.mono (by simp))
  have HO2 : Hid (RdO w l (.slice va (n + 1) vc) (.slice na ps.length nc) M w2) := HO.out.grow hs1 hb12
  have HB2 : Hid (Below w.heap.size w w2) := HB1.out.trans (hb12.mono hs1)
  have HE2 : Hid (_) := e2
  have hs2 := HB2.out.size
  have hl2 : w1.heap.size < w2.heap.size := lt_of_block e2
  obtain ⟨fr, hfr⟩ := Option.isSome_iff_exists.1 HSP.out
  have cP := part_q (.slice va (n + 1) vc) (l.map fillN) fr n 0 w2 w2.heap.size (Nat.le_refl _) (HT.out.below HB2.out) (HO2.out.nodes hs2) hfr (by simp [HND.out]) (by have := (begL_some hfr).2.2.2; simpa [HND.out] using this)
  rw [partL_all _ n (by simp [HND.out])] at cP
  have c0 : w2.cell? ⟨w1.heap.size, 0, none⟩ = some (.slice va (n + 1) vc) := by rw [cell_of_heap e2]; rfl
  have c1 : w2.cell? ⟨w1.heap.size, 1, none⟩ = some (.slice na ps.length nc) := by rw [cell_of_heap e2]; rfl
  clear HO hb12 hb2 e2 HB1
  have hnz : ((n + 1 : Nat) : Int) - 1 = (n : Int) := by omega
  go_wp2_with fail
  refine cP.mono ?_
  rintro e w3 ⟨v3, rfl, hO3, hb3⟩
  have HO3 : Hid (OwnQ w3 w2.heap.size v3 (l.map fillN)) := hO3
  have HB3 : Hid (Below w2.heap.size w2 w3) := hb3
  have HST : Hid (FlSt w l ps (n + 1) (.int .i64 0) v3 w3) := ⟨HB2.out.trans (hb3.mono hs2), .inl ⟨rfl, _, hO3.mono hs2, by have := FlI.start ps (hlsL l) HSP.out; rwa [HND.out] at this⟩⟩
  clear hO3 hb3 c0 c1 cP CC cR
  go_wp2_with fail
  go_loopw [7, 8, 9] (fun bd v i wr => ∃ k : Nat, k ≤ n + 1 ∧ i = .int .i64 ((k : Int) - 1) ∧ Below w2.heap.size w2 wr ∧ Hid (FlSt w l ps k bd v wr)) (fun _ _ i _ => (RowKit.intOf i + 1).toNat)
  case atStart => exact ⟨n + 1, by omega, by first | rfl | go_num, HB3.out, HST⟩
  case round =>
    obtain ⟨k, hk, rfl, hbr, hst⟩ := hrel
    obtain ⟨hbw, hst⟩ := hst.out
    have hsr := hbr.size
    have hsw := hbw.size
    rcases hst with ⟨rfl, x, hO, hF⟩ | ⟨rfl, rfl, h64⟩
    · obtain ⟨va3, xn, vc3, rfl⟩ := hO.form
      obtain ⟨va', vc', e', hNx⟩ := Rd_of_own hO.n
      cases e'
      obtain ⟨hx1, hx2⟩ := hNx.bound
      have hx64 := snd_len hF.snd
      by_cases hk0 : 0 < k
      · obtain ⟨j, rfl⟩ : ∃ j, k = j + 1 := ⟨k - 1, by omega⟩
        have hjl : j < l.length := by rw [HND.out]; omega
        obtain ⟨b, o, kv, rfl, hbk, hna⟩ := Rd.cell (HN.out.below hbw hsw) hjl
        obtain ⟨q0, q1, q2, q3, _⟩ := hna
        have hjj : ((j + 1 : Nat) : Int) - 1 = (j : Int) := by omega
        have hwj : IntKind.i64.wrap ((j : Int) - 1) = (j : Int) - 1 := by rw [IntWalk.i64_in] <;> omega
        rw [hjj]
        have HF : Hid (FlI l ps (hlsL l) (j + 1) x) := hF
        have HOx : Hid (OwnQ wr w.heap.size (.slice va3 x.length vc3) x) := hO
        have HNx : Hid (Rd wr va3 vc3 x) := hNx
        have HBR : Hid (Below w2.heap.size w2 wr) := hbr
        have HBW : Hid (Below w.heap.size w wr) := hbw
        by_cases hop : (l.getD j nd0).op = 18
        · have hxm : l.getD j nd0 ∈ l := getD_mem hjl
          have hmem : (l.getD j nd0).name ∈ hlsL l := mem_hls hxm hop
          have hz : numL (hlsL l) (l.getD j nd0).name < ps.length := by rw [HLn.out]; exact numL_lt hmem
          have hnz := numZ_mem hmem
          obtain ⟨pb, po, qa, qc, rfl, hpb, hpcell, hpn⟩ := HLL.out.part hbw hz
          have hms : sndB (ps.getD (numL (hlsL l) (l.getD j nd0).name) []) = true := HPT.out _ (getD_mem hz)
          obtain ⟨hke, fx, hfx, hfk⟩ := hF.at_ hjl hop
          obtain ⟨fm, hfm⟩ := Option.isSome_iff_exists.1 hms
          have cP2 : Hid (∀ W, Below wr.heap.size wr W → Calls Tryd.prog 14 #[.slice va3 x.length vc3, .int .i64 j, .slice qa (ps.getD (numL (hlsL l) (l.getD j nd0).name) []).length qc] W fun e w' => ∃ bd v', e = .returned (.tuple #[v', .int .i64 bd]) ∧ FlSt w l ps j (.int .i64 bd) v' w' ∧ Below wr.heap.size wr w') := fun W hb => by
            by_cases hsz : x.length + (ps.getD (numL (hlsL l) (l.getD j nd0).name) []).length ≤ 65
            · refine (put_q _ _ x _ fx fm j j W W.heap.size (Nat.le_refl _) (HT.out.below (hbw.trans (hb.mono hsw))) (HNx.out.below hb hb.size) (hpn.below hb hb.size) hfx hfm hke hfk (by omega)).mono ?_
              rintro e w4 ⟨v4, rfl, hO4, hb4⟩
              have hb4' := hb.trans (hb4.mono hb.size)
              exact ⟨0, v4, rfl, ⟨hbw.trans (hb4'.mono hsw), .inl ⟨rfl, _, hO4.mono (by have := hb.size; omega), HF.out.put hjl hop hms hsz⟩⟩, hb4'⟩
            · refine (put_large _ _ x _ fx fm j j W W.heap.size (Nat.le_refl _) (HT.out.below (hbw.trans (hb.mono hsw))) (HNx.out.below hb hb.size) (hpn.below hb hb.size) hfx hfm hke hfk (by omega)).mono ?_
              rintro e w4 ⟨rfl, hb4⟩
              have hb4' := hb.trans (hb4.mono hb.size)
              exact ⟨10, .slice none 0 0, rfl, ⟨hbw.trans (hb4'.mono hsw), .inr ⟨rfl, rfl, HF.out.large hjl hop (fun y hy hy18 => HPT.out _ (getD_mem (by rw [HLn.out]; exact hole_lt hy hy18))) (by omega)⟩⟩, hb4'⟩
          obtain ⟨nM, hM⟩ := HO2.out.map
          have hnms : (l.getD j nd0).name.size ≤ maxLen := HNM.out _ hxm
          have hcR2 : wr.cell? ⟨w1.heap.size, 2, none⟩ = some (.map (some M)) := (hbr.cell (p := ⟨w1.heap.size, 2, none⟩) hl2).trans (by rw [cell_of_heap HE2.out]; rfl)
          have HCE : Hid (∀ W, Below wr.heap.size wr W → W.cell? ⟨w1.heap.size, 2, none⟩ = some (.map (some M)) ∧ W.cell? ⟨b, o + j * 4 + 2, none⟩ = some (.string (l.getD j nd0).name) ∧ (Instr.lookup 88 (.map (some M)) (.string (l.getD j nd0).name) false).run Tryd.prog W = .ok (.int .i64 (numL (hlsL l) (l.getD j nd0).name : Nat)) W ∧ W.cell? ⟨pb, po + numL (hlsL l) (l.getD j nd0).name, none⟩ = some (.slice qa (ps.getD (numL (hlsL l) (l.getD j nd0).name) []).length qc)) := fun W hb => by
            refine ⟨(hb.cell (p := ⟨w1.heap.size, 2, none⟩) (by show w1.heap.size < wr.heap.size; omega)).trans hcR2, (hb.cell (p := ⟨b, o + j * 4 + 2, none⟩) hbk).trans q2, ?_, (hb.cell (p := ⟨pb, _, none⟩) (by show pb < wr.heap.size; omega)).trans hpcell⟩
            have := (hM.below (hbr.trans (hb.mono hsr))).look hnms
            rw [hnz] at this
            exact this
          rw [hop] at q0
          clear hO hF hNx hbr hbw hxm hmem hnz hms hke hfx hfk hM hnms hpn hcR2 q1 q2 q3 hpcell hop hfm HF HOx HNx
          generalize numL (hlsL l) (l.getD j nd0).name = z at *
          generalize (l.getD j nd0).name = nm at *
          generalize (ps.getD z []).length = ml at *
          obtain ⟨k0, k1, k2, k3⟩ := HCE.out wr (Below.refl _ _)
          have hzi : (z : Int) < (ps.length : Int) := by omega
          have hz0 : (0 : Int) ≤ (z : Int) := by omega
          have hj0 : (0 : Int) ≤ (j : Int) := by omega
          have hj1 : (j : Int) < (n : Int) + 1 := by omega
          have hj2 : (j : Int) < ((n + 1 : Nat) : Int) := by omega
          go_wp2_with fail
          go_region_held3 (fun W => W.cell? ⟨w1.heap.size, 2, none⟩ = some (.map (some M)) ∧ W.cell? ⟨b, o + j * 4 + 2, none⟩ = some (.string nm) ∧ (Instr.lookup 88 (.map (some M)) (.string nm) false).run Tryd.prog W = .ok (.int .i64 (z : Nat)) W ∧ W.cell? ⟨pb, po + z, none⟩ = some (.slice qa ml qc)) (exact HCE.out _ (by repeat (first | assumption | exact Below.refl _ _ | refine Below.drew ?_))) (first | (go_at_call 14; refine (cP2.out _ (Below.refl _ _).drew).mono ?_; rintro e w4 ⟨bd, v4, rfl, hst4, hb4⟩; have HST4 : Hid (_) := hst4; have HB4 : Hid (_) := hb4))
          go_wp2_with fail
          exact ⟨⟨j, by omega, by first | rfl | go_num, HBR.out.trans (HB4.out.mono hsr), HST4.out⟩, by simp [RowKit.intOf]; try omega⟩
        · have HSK : Hid (FlSt w l ps j (.int .i64 0) (.slice va3 x.length vc3) wr) := ⟨hbw, .inl ⟨rfl, x, hO, hF.skip hjl hop⟩⟩
          have g18 : ((l.getD j nd0).op == 18) = false := by rw [beq_eq_false_iff_ne]; exact hop
          clear hO hF hNx hbr hbw hop
          generalize (l.getD j nd0).op = oo at *
          go_wp2_with fail
          exact ⟨⟨j, by omega, by first | rfl | go_num, HBR.out, HSK.out⟩, by simp [RowKit.intOf]; try omega⟩
      · obtain rfl : k = 0 := by omega
        have HD : Hid (FillP w l ps (.returned (.tuple #[.slice va3 x.length vc3, .int .i64 0])) wr) := ⟨hbw, .inl ⟨by rw [← hF.done, hds_len]; exact hx64.2, _, x, rfl, hO, hF.snd, hF.done⟩⟩
        clear hO hF hNx hbr hbw
        go_wp2_with fail
        go_ret2
        exact HD.out
    · have HD : Hid (FillP w l ps (.returned (.tuple #[.slice none 0 0, .int .i64 10])) wr) := ⟨hbw, .inr ⟨h64, rfl⟩⟩
      clear hbr hbw h64
      by_cases hk0 : 0 < k
      · obtain ⟨j, rfl⟩ : ∃ j, k = j + 1 := ⟨k - 1, by omega⟩
        have hjj : ((j + 1 : Nat) : Int) - 1 = (j : Int) := by omega
        rw [hjj]
        go_wp2_with fail
        go_ret2
        exact HD.out
      · obtain rfl : k = 0 := by omega
        go_wp2_with fail
        go_ret2
        exact HD.out
end Go.Proofs.YtfdghbbanokopaaDoor

set_option linter.unusedSimpArgs false
set_option linter.unusedVariables false
namespace Go.Proofs.YtfdghbbanokopaaDoor
open Go.RowKit Go.Lib Go.Maps Go.Deep

/-- An answer with a list of nodes of its own. -/
def AnQ (w : World) (X : List Nd) (c : Int) (e : Ending) (w' : World) : Prop := ∃ v, e = .returned (.tuple #[v, .int .i64 c]) ∧ OwnQ w' w.heap.size v X ∧ Below w.heap.size w w'
theorem anQ_nil {w w' : World} {c : Int} {e : Ending} (he : e = .returned (.tuple #[.slice none 0 0, .int .i64 c])) (hb : Below w.heap.size w w') : AnQ w [] c e w' := ⟨_, he, OwnQ_nil _ _, hb⟩

set_option maxRecDepth 20000 in
set_option maxHeartbeats 2000000 in
theorem fill_bad1 {w : World} {ao pa : Option Addr} {cap pc : Nat} {l : List Nd} {ps : List (List Nd)} (hT : SpanCells w) (hN : Rd w ao cap l) (hnm : ∀ x ∈ l, x.name.size ≤ maxLen) (hp : patB l = false) :
    Calls Tryd.prog 28 #[.slice ao l.length cap, .slice pa ps.length pc] w fun e w' => AnQ w [] 1 e w' := by
  have cR := read_bad hT hN hnm hp
  clear hN hT hnm hp
  go_enter Tryd.func28, Tryd.ntmps28
  go_wp2_with (go_at_call 55; refine cR.mono ?_; rintro e w1 ⟨rfl, hb⟩; have HB : Hid (_) := hb; clear hb)
  go_ret2
  exact anQ_nil rfl (HB.out.alloc HB.out.size _)

set_option maxRecDepth 20000 in
set_option maxHeartbeats 2000000 in
theorem fill_bad2 {w : World} {ao pa : Option Addr} {cap pc : Nat} {l : List Nd} {ps : List (List Nd)} (hT : SpanCells w) (hN : Rd w ao cap l) (hnm : ∀ x ∈ l, x.name.size ≤ maxLen) (hp : patB l = true)
    (hL : Lst w w.heap.size (.slice pa ps.length pc) ps) (hs : ps.any (fun l => !sndB l) = true) :
    Calls Tryd.prog 28 #[.slice ao l.length cap, .slice pa ps.length pc] w fun e w' => AnQ w [] 1 e w' := by
  have cR := read_ok hT hN hnm hp
  have CC : Hid (∀ W, Below w.heap.size w W → Calls Tryd.prog 56 #[.slice pa ps.length pc, .func (.func 57) #[] #[] ] W fun e w' => e = .returned (.bool true) ∧ Below W.heap.size W w') := fun W hb => by
    have := contains_any (hT.below hb) (hL.below hb hb.size)
    rw [hs] at this
    exact this
  clear hN hT hnm hp hL hs
  go_enter Tryd.func28, Tryd.ntmps28
  go_wp2_with (go_at_call 55; refine cR.mono ?_; rintro e w1 ⟨va, vc, na, nc, M, rfl, hO, hb⟩; have HB1 : Hid (_) := hb; clear hO hb)
  have hs1 := HB1.out.size
  refine (CC.out _ (HB1.out.alloc hs1 _)).mono ?_
  rintro e w2 ⟨rfl, hb2⟩
  have HB2 : Hid (Below w.heap.size w w2) := (HB1.out.alloc hs1 _).trans (hb2.mono (by simp; omega))
  clear hb2
  go_wp2_with fail
  go_ret2
  exact anQ_nil rfl HB2.out

set_option maxRecDepth 20000 in
set_option maxHeartbeats 2000000 in
theorem fill_arg {w : World} {ao pa : Option Addr} {cap pc : Nat} {l : List Nd} {ps : List (List Nd)} (hT : SpanCells w) (hN : Rd w ao cap l) (hnm : ∀ x ∈ l, x.name.size ≤ maxLen) (hp : patB l = true)
    (hL : Lst w w.heap.size (.slice pa ps.length pc) ps) (hs : ps.any (fun l => !sndB l) = false) (hlen : ps.length ≠ (hlsL l).length) :
    Calls Tryd.prog 28 #[.slice ao l.length cap, .slice pa ps.length pc] w fun e w' => AnQ w [] 2 e w' := by
  have cR := read_ok hT hN hnm hp
  have CC : Hid (∀ W, Below w.heap.size w W → Calls Tryd.prog 56 #[.slice pa ps.length pc, .func (.func 57) #[] #[] ] W fun e w' => e = .returned (.bool false) ∧ Below W.heap.size W w') := fun W hb => by
    have := contains_any (hT.below hb) (hL.below hb hb.size)
    rw [hs] at this
    exact this
  clear hN hT hnm hp hL hs
  generalize (hlsL l).length = m at *
  have hne : ((ps.length : Int) != (m : Int)) = true := by simp; omega
  have hne2 : ¬ ((ps.length : Int) = (m : Int)) := by omega
  go_enter Tryd.func28, Tryd.ntmps28
  go_wp2_with (go_at_call 55; refine cR.mono ?_; rintro e w1 ⟨va, vc, na, nc, M, rfl, hO, hb⟩; have HB1 : Hid (_) := hb; clear hO hb)
  have hs1 := HB1.out.size
  refine (CC.out _ (HB1.out.alloc hs1 _)).mono ?_
  rintro e w2 ⟨rfl, hb2⟩
  have e2 : w2.heap[w1.heap.size]? = some (.cells #[.slice va l.length vc, .slice na m nc, .map (some M)] 90) := (hb2.block w1.heap.size (by simp)).trans (MapKept.heap_alloc w1 _).1
  have c1 : w2.cell? ⟨w1.heap.size, 1, none⟩ = some (.slice na m nc) := by rw [cell_of_heap e2]; rfl
  have HB2 : Hid (Below w.heap.size w w2) := (HB1.out.alloc hs1 _).trans (hb2.mono (by simp; omega))
  clear hb2 e2
  go_wp2_with fail
  go_ret2
  exact anQ_nil rfl HB2.out

/-- What Fill answers beside the list. -/
def flC (l : List Nd) (ps : List (List Nd)) : Int :=
  if patB l = false ∨ ps.any (fun l => !sndB l) = true then 1 else if ps.length ≠ (hlsL l).length then 2 else if 64 < (flH ps (hlsL l) l).length then 10 else 0
structure FlOk (l : List Nd) (ps : List (List Nd)) : Prop where
  pat : patB l = true
  snd : ∀ r ∈ ps, sndB r = true
  len : ps.length = (hlsL l).length
theorem FlOk.pts {l : List Nd} {ps : List (List Nd)} (h : FlOk l ps) : PtsOk ps (hlsL l) l := fun x hx ho => h.snd _ (getD_mem (by rw [h.len]; exact hole_lt hx ho))
theorem flC_ok {l : List Nd} {ps : List (List Nd)} (h : FlOk l ps) : flC l ps = if 64 < (flH ps (hlsL l) l).length then 10 else 0 := by
  unfold flC
  rw [if_neg (by
    rintro (h1 | h1)
    · rw [h.pat] at h1; cases h1
    · obtain ⟨r, hr, h2⟩ := List.any_eq_true.1 h1
      rw [h.snd r hr] at h2; cases h2), if_neg (fun h1 => h1 h.len)]
/-- There is what a small filled pattern tells. -/
theorem fl_ex {l : List Nd} {ps : List (List Nd)} (h : FlOk l ps) (hl : (flH ps (hlsL l) l).length ≤ 64) : ∃ x, sndB x = true ∧ hds x = flH ps (hlsL l) l := by
  have key : ∀ m k, k + m = l.length → ∃ x, FlI l ps (hlsL l) k x := by
    intro m
    induction m with
    | zero =>
      intro k hk
      have : k = l.length := by omega
      subst this
      exact ⟨_, FlI.start ps (hlsL l) (patB_snd h.pat)⟩
    | succ m ih =>
      intro k hk
      obtain ⟨x, hx⟩ := ih (k + 1) (by omega)
      have hkl : k < l.length := by omega
      by_cases ho : (l.getD k nd0).op = 18
      · by_cases hz : x.length + (ps.getD (numL (hlsL l) (l.getD k nd0).name) []).length ≤ 65
        · exact ⟨_, hx.put hkl ho (h.pts _ (getD_mem hkl) ho) hz⟩
        · have := hx.large hkl ho h.pts (by omega); omega
      · exact ⟨x, hx.skip hkl ho⟩
  obtain ⟨x, hx⟩ := key l.length 0 (by omega)
  exact ⟨x, hx.snd, hx.done⟩
/-- Fill, with one answer. -/
theorem fillX (l : List Nd) (ps : List (List Nd)) : ∃ X, (flC l ps = 0 → sndB X = true ∧ hds X = flH ps (hlsL l) l) ∧ (flC l ps ≠ 0 → X = []) ∧ ∀ (W : World) (ao pa : Option Addr) (cap pc : Nat), SpanCells W → Rd W ao cap l → (∀ x ∈ l, x.name.size ≤ maxLen) → Lst W W.heap.size (.slice pa ps.length pc) ps →
    Calls Tryd.prog 28 #[.slice ao l.length cap, .slice pa ps.length pc] W fun e w' => AnQ W X (flC l ps) e w' := by
  cases hp : patB l with
  | false =>
    have hc : flC l ps = 1 := by unfold flC; rw [if_pos (.inl hp)]
    rw [hc]
    exact ⟨[], by simp, by simp, fun W ao pa cap pc hT hN hnm hL => fill_bad1 hT hN hnm hp⟩
  | true =>
    cases hs : ps.any (fun l => !sndB l) with
    | true =>
      have hc : flC l ps = 1 := by unfold flC; rw [if_pos (.inr hs)]
      rw [hc]
      exact ⟨[], by simp, by simp, fun W ao pa cap pc hT hN hnm hL => fill_bad2 hT hN hnm hp hL hs⟩
    | false =>
      by_cases hl : ps.length = (hlsL l).length
      · have hok : FlOk l ps := ⟨hp, any_snd hs, hl⟩
        obtain ⟨n, hn⟩ : ∃ n, l.length = n + 1 := ⟨l.length - 1, by have := (patB_len hp).1; omega⟩
        have cw : ∀ (W : World) (ao pa : Option Addr) (cap pc : Nat), SpanCells W → Rd W ao cap l → (∀ x ∈ l, x.name.size ≤ maxLen) → Lst W W.heap.size (.slice pa ps.length pc) ps → Calls Tryd.prog 28 #[.slice ao l.length cap, .slice pa ps.length pc] W fun e w' => FillP W l ps e w' := fun W ao pa cap pc hT hN hnm hL => by
          rw [hn]; exact fill_walk hn hT hN hnm hL hp hs hl
        by_cases hz : 64 < (flH ps (hlsL l) l).length
        · have hc : flC l ps = 10 := by rw [flC_ok hok, if_pos hz]
          rw [hc]
          refine ⟨[], by simp, by simp, fun W ao pa cap pc hT hN hnm hL => (cw W ao pa cap pc hT hN hnm hL).mono ?_⟩
          rintro e w' ⟨hb, ⟨h1, _⟩ | ⟨_, he⟩⟩
          · omega
          · exact anQ_nil he hb
        · have hc : flC l ps = 0 := by rw [flC_ok hok, if_neg hz]
          rw [hc]
          obtain ⟨X, hX, hXe⟩ := fl_ex hok (by omega)
          refine ⟨X, fun _ => ⟨hX, hXe⟩, by simp, fun W ao pa cap pc hT hN hnm hL => (cw W ao pa cap pc hT hN hnm hL).mono ?_⟩
          rintro e w' ⟨hb, ⟨_, v, x, he, ho, hx, hxe⟩ | ⟨h1, _⟩⟩
          · have : x = X := snd_det hx hX (hxe.trans hXe.symm)
            subst this
            exact ⟨v, he, ho, hb⟩
          · omega
      · have hc : flC l ps = 2 := by
          unfold flC
          rw [if_neg (by rw [hp, hs]; simp), if_pos hl]
        rw [hc]
        exact ⟨[], by simp, by simp, fun W ao pa cap pc hT hN hnm hL => fill_arg hT hN hnm hp hL hs hl⟩
end Go.Proofs.YtfdghbbanokopaaDoor

set_option linter.unusedSimpArgs false
namespace Go.Proofs.YtfdghbbanokopaaDoor
open Go.RowKit Go.Lib

theorem compare_any (a b : Int) (w : World) :
    Calls Tryd.prog 74 #[.int .i32 a, .int .i32 b] w fun e w' => e = .returned (.int .i64 (cmp3 a b)) ∧ w' = w := by
  go_enter Tryd.func74, Tryd.ntmps74
  go_wp2
  all_goals go_ret
  all_goals exact ⟨ret_int (by unfold cmp3; simp_all; try omega), rfl⟩

set_option maxHeartbeats 1000000 in
theorem order_any (s t : ByteArray) (w : World) (hT : Tabs w) :
    Calls Tryd.prog 50 #[.string s, .string t] w fun e w' => e = .returned (.int .i64 (ordI s t)) ∧ Below w.heap.size w w' := by

  go_enter Tryd.func50, Tryd.ntmps50
  go_wp2
  go_loopw [1] (fun c w' => ∃ (pos f : Nat) (t' : ByteArray), It w s pos w' ∧ c = .string t' ∧ t'.size ≤ t.size ∧ Hid (cmpL (runesFrom s f pos) (rl t') = ordI s t) ∧ s.size ≤ pos + f) (fun _ w' => s.size - w'.iterPos w.heap.size)
  case atStart => exact ⟨0, s.size, t, It.start w s, rfl, Nat.le_refl _, rfl, by omega⟩
  case round =>
    obtain ⟨pos, f, t', hI, rfl, hle, HN, hf⟩ := hrel
    have hm := hI.pos
    by_cases hp : pos < s.size
    · have hnx : ∀ ty, (Instr.next (.pointer (some ⟨w.heap.size, 0, none⟩)) true ty).run Tryd.prog wr = _ := fun ty => run_next_any_at wr w.heap.size s pos ty hI.at_ hp
      obtain ⟨f, rfl⟩ : ∃ g, f = g + 1 := ⟨f - 1, by omega⟩
      have hw := width_pos s pos hp
      have HX := runesFrom_cons s f pos hp
      generalize (Utf8.decode s pos).2 = v at *
      generalize ((Utf8.decode s pos).1 : Int) = r at *
      have hI1 := hI.next (pos + v)
      have hT1 := (hI1.tabs hT)
      have HY : Hid (runesFrom s (f + 1) pos = r :: runesFrom s f (pos + v)) := HX
      clear HX
      by_cases h0 : t'.size = 0
      · have he := empty_yes t' h0
        go_wp2
        go_ret
        exact ⟨ret_int (by rw [← HN.out, HY.out, rl_nil t' h0]; rfl), hI1.below⟩
      · have he := empty_no t' h0
        have hd := width_pos t' 0 (by omega)
        have hd2 := dec_le t' 0 (by omega)
        have HC := rl_cons t' h0
        rw [← decGo t' h0] at hd hd2
        have cF : Hid (∀ W, Tabs W → Calls Tryd.prog 75 #[.string t'] W fun e w' => e = .returned (.int .i32 (decodeGo t').1) ∧ Below W.heap.size W w') := first_any t'
        have cW : Hid (∀ W, Tabs W → Calls Tryd.prog 76 #[.string t'] W fun e w' => e = .returned (.int .i64 (decodeGo t').2) ∧ Below W.heap.size W w') := width_any t'
        have HD : Hid (rl t' = ((decodeGo t').1 : Int) :: rl (t'.extract (decodeGo t').2 t'.size)) := HC
        clear HC
        generalize (decodeGo t').2 = k at *
        generalize ((decodeGo t').1 : Int) = q at *
        cases hc : (cmp3 r q == 0)
        · have hc' : (cmp3 r q != 0) = true := by simpa using hc
          have hc2 : ¬ cmp3 r q = 0 := by simpa using hc
          have HC2 : Hid (¬ cmp3 r q = 0) := hc2
          clear hc2
          go_wp2_with (first | (go_at_call 75; refine (cF.out _ hT1).mono ?_; rintro e w2 ⟨rfl, hb2⟩) | (go_at_call 74; refine (compare_any _ _ _).mono ?_; rintro e w3 ⟨rfl, hw3⟩; obtain rfl := hw3.symm))
          go_ret
          exact ⟨ret_int (by rw [← HN.out, HY.out, HD.out, cmpL, if_neg HC2.out]), (hI1.call hb2).below⟩
        · have hc' : (cmp3 r q != 0) = false := by simpa using hc
          have hc2 : cmp3 r q = 0 := by simpa using hc
          have HC2 : Hid (cmp3 r q = 0) := hc2
          clear hc2
          have hk : (k : Int) ≤ (t'.size : Int) := by omega
          go_wp2_with (first | (go_at_call 75; refine (cF.out _ hT1).mono ?_; rintro e w2 ⟨rfl, hb2⟩; have hT2 := hT1.below hb2) | (go_at_call 74; refine (compare_any _ _ _).mono ?_; rintro e w3 ⟨rfl, hw3⟩; obtain rfl := hw3.symm) | (go_at_call 76; refine (cW.out _ hT2).mono ?_; rintro e w4 ⟨rfl, hb4⟩))
          have hI4 := (hI1.call hb2).call hb4
          refine ⟨⟨pos + v, f, _, hI4, rfl, by rw [tail_size]; omega, ?_, by omega⟩, ?_⟩
          · show cmpL (runesFrom s f (pos + v)) (rl (t'.extract k t'.size)) = ordI s t
            rw [← HN.out, HY.out, HD.out, cmpL, if_pos HC2.out]
          · rw [hI4.pos, hm]; omega
    · have hnx : ∀ ty, (Instr.next (.pointer (some ⟨w.heap.size, 0, none⟩)) true ty).run Tryd.prog wr = _ := fun ty => run_next_end_at wr w.heap.size s pos ty hI.at_ hp
      by_cases h0 : t'.size = 0
      · have he := empty_yes t' h0
        go_wp2
        go_ret
        exact ⟨ret_int (by rw [← HN.out, runesFrom_end s f pos hp, rl_nil t' h0]; rfl), hI.below⟩
      · have he := empty_no t' h0
        go_wp2
        go_ret
        exact ⟨ret_int (by rw [← HN.out, runesFrom_end s f pos hp, rl_cons t' h0]; rfl), hI.below⟩
end Go.Proofs.YtfdghbbanokopaaDoor
