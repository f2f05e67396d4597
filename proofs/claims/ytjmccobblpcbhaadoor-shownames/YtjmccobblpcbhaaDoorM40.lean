/-
  PwW, RefOrdW, SnW5, ShownamesK.
-/
import Derived.Test.YtjmccobblpcbhaaDoorChecked
import GoSem.PinnedTables
import GoSem.Claim
import GoSem.ClaimJoined
import GoSem.ClaimMapViews
import Derived.JoinedTies
import Derived.KernelRfl
import GoSem.ClaimSeven
import Derived.LaidByTextLater
import Derived.SevenTiedAt
import Derived.LaidSub
import Derived.LaidOnce
import Derived.Shelf.Unicode.DecodeSlow
import Derived.Laws.RangeAny
import Derived.Shelf.Strings.Builder1
import Derived.Shelf.Small.Utf8
import Derived.Shelf.Small.Bits
import Derived.Shelf.Strings.BuilderF
import Derived.Shelf.Strings.BuilderK
import Derived.Shelf.Strings.BuilderRune
import Derived.Shelf.Utf8.AppendRune
import Derived.Shelf.Strconv.Itoa0
import Derived.Shelf.Strconv.Itoa1
import Derived.Shelf.LaysM
import Derived.Shelf.Strconv.Itoa2
import Derived.Shelf.Strconv.Itoa3
import Derived.Shelf.Strconv.Itoa4
import Derived.Shelf.Strings.Prefix
import Derived.Shelf.Unicode.DecodeAny
import Derived.Test.YtjmccobblpcbhaaDoorProg
import Derived.WalkKit
import Derived.Deep.DeepFit
import Derived.Lib.OthersKept
import Derived.Lib.RuneCountTail
import Derived.Lib.LaidU8
import Derived.MakeChecks
import Derived.ProofKit
import Derived.OpenShut
import Derived.Deep.DeepHandedRow
import Derived.Lib.MapLaws
import Derived.Sort.Walk0
import Derived.Laws.DeepStrings4
import Derived.Lib.ItoaNum
import Derived.Deep.AppendLies
import Derived.Deep.OwnRows
import Derived.Laws.AppendOwnNone
import Derived.Deep.QuietTactic
import Derived.BigQuiet
import Derived.Deep.RegionWith
import Derived.BigCall
import Derived.Lib.LaidTab
import Derived.Maps.OwnSet
import Derived.StringKeys
import Derived.Deep.Slices
import Derived.Lib.QuietBelow
import Derived.StillTail
import Derived.Laws.OwnMore
import Derived.SizedLaws
import Derived.Below
import Derived.Lib.Small
import Derived.Lib.Strings
import Derived.Deep.RegionHeld3
import Derived.Laws.ResultCell
import Derived.Deep.Heap
import Derived.Laws.Rows
import Derived.Deep.RegionLaw
import Derived.Recover
import Derived.Defers
import Derived.Laws.IdiomStrings
import Derived.WalkSmall
import Derived.WideKeyArgs
import Derived.Test.YtjmccobblpcbhaaDoorRows
import Derived.Test.YtjmccobblpcbhaaDoorCards
import Derived.Test.YtjmccobblpcbhaaDoorTie
import Derived.Test.YtjmccobblpcbhaaDoorM01
import Derived.Test.YtjmccobblpcbhaaDoorM02
import Derived.Test.YtjmccobblpcbhaaDoorM03
import Derived.Test.YtjmccobblpcbhaaDoorM04
import Derived.Test.YtjmccobblpcbhaaDoorM05
import Derived.Test.YtjmccobblpcbhaaDoorM06
import Derived.Test.YtjmccobblpcbhaaDoorM07
import Derived.Test.YtjmccobblpcbhaaDoorM08
import Derived.Test.YtjmccobblpcbhaaDoorM09
import Derived.Test.YtjmccobblpcbhaaDoorM10
import Derived.Test.YtjmccobblpcbhaaDoorM11
import Derived.Test.YtjmccobblpcbhaaDoorM12
import Derived.Test.YtjmccobblpcbhaaDoorM13
import Derived.Test.YtjmccobblpcbhaaDoorM14
import Derived.Test.YtjmccobblpcbhaaDoorM15
import Derived.Test.YtjmccobblpcbhaaDoorM16
import Derived.Test.YtjmccobblpcbhaaDoorM17
import Derived.Test.YtjmccobblpcbhaaDoorM18
import Derived.Test.YtjmccobblpcbhaaDoorM19
import Derived.Test.YtjmccobblpcbhaaDoorM20
import Derived.Test.YtjmccobblpcbhaaDoorM21
import Derived.Test.YtjmccobblpcbhaaDoorM22
import Derived.Test.YtjmccobblpcbhaaDoorM23
import Derived.Test.YtjmccobblpcbhaaDoorM24
import Derived.Test.YtjmccobblpcbhaaDoorM25
import Derived.Test.YtjmccobblpcbhaaDoorM26
import Derived.Test.YtjmccobblpcbhaaDoorM27
import Derived.Test.YtjmccobblpcbhaaDoorM28
import Derived.Test.YtjmccobblpcbhaaDoorM29
import Derived.Test.YtjmccobblpcbhaaDoorM30
import Derived.Test.YtjmccobblpcbhaaDoorM31
import Derived.Test.YtjmccobblpcbhaaDoorM32
import Derived.Test.YtjmccobblpcbhaaDoorM33
import Derived.Test.YtjmccobblpcbhaaDoorM34
import Derived.Test.YtjmccobblpcbhaaDoorM35
import Derived.Test.YtjmccobblpcbhaaDoorM36
import Derived.Test.YtjmccobblpcbhaaDoorM37
import Derived.Test.YtjmccobblpcbhaaDoorM38
import Derived.Test.YtjmccobblpcbhaaDoorM39
set_option linter.unusedSimpArgs false
set_option linter.unusedVariables false
namespace Go.Proofs.YtjmccobblpcbhaaDoor
open Go.RowKit Go.Lib

structure SldW (p : Prop) : Prop where
  out : p
theorem FitX.fit5W {l : List Nd} (h : FitX l) : Fit5 l := ⟨h.name, fun x hx => bounds_i64 (h.num x hx)⟩
/-- Parse, by what it comes to. -/
theorem parse_ok {W : World} {s : ByteArray} {l : List Nd} (hz : s.size ≤ maxLen) (hT : Tabs W) (h : psRead s false 64 = .ok l) :
    Calls Tryd.prog 26 #[.string s] W fun e w' => ∃ ao cap, e = .returned (.tuple #[.slice ao l.length cap, .int .i64 0, .int .i64 0]) ∧ Rd w' ao cap l ∧ Below W.heap.size W w' := by
  have := parse_any W s hz hT
  rw [h] at this
  exact this.mono fun e w' ⟨⟨ao, cap, h1, h2⟩, h3⟩ => ⟨ao, cap, h1, h2, h3⟩
theorem show_sz {l : List Nd} (hok : okSh l = true) (hn : ∀ x ∈ l, num64 x.n) : (shF betT l).size ≤ 6500 ∧ l.length ≤ 64 ∧ ((hlsL l).length ≠ 0 → l.length ≤ 16) := by
  have hok' := hok
  unfold okSh at hok'
  simp only [Bool.and_eq_true] at hok'
  obtain ⟨⟨_, h2⟩, h3⟩ := hok'
  obtain ⟨fr, hbg⟩ : ∃ fr, begL (l.map fillN) = some fr := by
    unfold sndB at h3
    exact Option.isSome_iff_exists.1 h3
  refine ⟨?_, by have := (snd_bounds hbg).1; simpa using this, fun h => ?_⟩
  · rw [shF_tx]; exact tx_size bet_ok hbg hn _
  · simp only [Bool.or_eq_true, decide_eq_true_eq] at h2
    rcases h2 with h2 | h2
    · exact absurd h2 h
    · exact h2


end Go.Proofs.YtjmccobblpcbhaaDoor

set_option linter.unusedSimpArgs false
set_option linter.unusedVariables false
namespace Go.Proofs.YtjmccobblpcbhaaDoor
open Go.RowKit Go.Lib

theorem convRunes_list (s : ByteArray) : ∀ (f i : Nat) (acc : Array Value), (Conv.runesFrom s f i acc).toList = acc.toList ++ (runesFrom s f i).map (Value.int .i32)
  | 0, i, acc => by simp [Conv.runesFrom, runesFrom]
  | f + 1, i, acc => by
    unfold Conv.runesFrom runesFrom
    split
    · rw [convRunes_list s f]
      simp
    · simp
theorem rl_length_le (s : ByteArray) : ∀ (f i : Nat), (runesFrom s f i).length ≤ f
  | 0, i => by simp [runesFrom]
  | f + 1, i => by
    unfold runesFrom
    split
    · have := rl_length_le s f (i + (Utf8.decode s i).2)
      simp; omega
    · simp

/-- '[]rune(s)': a new row that holds the runes. -/
theorem conv_runes (s : ByteArray) (w : World) (hs : s.size ≤ 70368744177664) :
    ∃ cap w1, (convert 9 61 (.string s)).run Tryd.prog w = .ok (.slice (some ⟨w.heap.size, 0, none⟩) (rl s).length cap) w1 ∧ Below w.heap.size w w1 ∧ w1.heap.size = w.heap.size + 1 ∧
      ∀ j, j < (rl s).length → w1.cell? ⟨w.heap.size, j, none⟩ = some (.int .i32 ((rl s).getD j 0)) := by
  have hl : (Conv.runesFrom s s.size 0 #[]).toList = (rl s).map (Value.int .i32) := by
    rw [convRunes_list]; rfl
  have hsz : (Conv.runesFrom s s.size 0 #[]).size = (rl s).length := by
    rw [← Array.length_toList, hl, List.length_map]
  have hle : (rl s).length ≤ s.size := rl_length_le s s.size 0
  have hrun := run_runes_of_string (P := Tryd.prog) w 9 61 21 s Tryd.underlying9 Tryd.underlying61 Tryd.underlying21 (by rw [hsz]; omega)
  rw [hsz] at hrun
  refine ⟨_, _, hrun, (Below.refl _ _).drew.alloc (Nat.le_refl _) _, by simp, fun j hj => ?_⟩
  have hc := World.cell?_alloc_mark w.drew (Conv.runesFrom s s.size 0 #[] ++ Array.replicate (grownCap w (rl s).length 0 21 - (rl s).length) (.int .i32 0)) 21 (0, 0) j
  refine hc.trans ?_
  rw [Array.getElem?_append_left (by rw [hsz]; exact hj), ← Array.getElem?_toList, hl, List.getElem?_map, List.getElem?_eq_getElem hj]
  simp [hj]

end Go.Proofs.YtjmccobblpcbhaaDoor

set_option linter.unusedSimpArgs false
set_option linter.unusedVariables false
namespace Go.Proofs.YtjmccobblpcbhaaDoor
open Go.RowKit Go.Lib

theorem xN_call (nm : ByteArray) (hz : nm.size ≤ 1000) (w : World) : Calls Tryd.prog 36 #[.string nm] w fun e w' => e = .returned (.string (xN nm)) ∧ Below w.heap.size w w' := by
  have ha : ∀ V, (Op.stringOp .add ⟨#[120]⟩ nm).run Tryd.prog V = .ok (.string (xN nm)) V := fun V => add_ok ⟨#[120]⟩ nm (by show 1 + nm.size ≤ _; omega) V
  go_enter Tryd.func36, Tryd.ntmps36
  go_wp2_with fail
  go_ret
  exact ⟨rfl, Below.refl _ _⟩
theorem dN_call (nm : ByteArray) (hz : nm.size ≤ 1000) (h0 : 0 < nm.size) (w : World) : Calls Tryd.prog 37 #[.string nm] w fun e w' => e = .returned (.string (dN nm)) ∧ Below w.heap.size w w' := by
  obtain ⟨D, hD⟩ : ∃ D, nm.extract 1 nm.size = D := ⟨_, rfl⟩
  have HD : BxS (dN nm = D) := ⟨hD⟩
  have h0I : (0 : Int) < (nm.size : Int) := by omega
  have h1I : (1 : Int) ≤ (nm.size : Int) := by omega
  go_enter Tryd.func37, Tryd.ntmps37
  go_wp2_with fail
  go_ret
  exact ⟨by rw [HD.out]; rfl, Below.refl _ _⟩
theorem len_sw {l : List Nd} {fr : List Nat} (h : begL l = some fr) (hn : ∀ x ∈ l, num64 x.n) (hx : ∀ x ∈ l, x.op = 2 → nameB (xN x.name) = true) (hz : (shF betT (l.map (swF xN))).size ≤ 4096) : (shF betT (l.map (swF xN))).size = (shF betT l).size + vsum l := by
  have h2 := swF_beg (φ := xN) h hx
  have hl0 := (begL_some h).1
  have e := tx_sw (φ := xN) xN_size h h2 (l.length - 1) (by omega)
  rw [shF_tx, shF_tx, List.length_map]
  rw [shF_tx, List.length_map] at hz
  rw [e]
  have hr := read_back (okSh_of h) hn false (.inr (snd_ops h)) 64 (by rw [shF_tx]; omega)
  rw [if_neg (by have := (begL_some h).2.1; omega)] at hr
  have := (vw_read hr).2.2
  unfold wA at this
  rw [this]
theorem vsum_take {l : List Nd} {k : Nat} (hk : k < l.length) : vsum (l.take (k + 1)) = vsum (l.take k) + hV (l.getD k nd0) := by
  rw [List.take_succ_eq_append_getElem hk, vsum_app]
  simp [vsum, hk]
theorem vsum_le (l : List Nd) (k : Nat) : vsum (l.take k) ≤ k := by
  induction k with
  | zero => simp [vsum]
  | succ k ih =>
    by_cases hk : k < l.length
    · rw [vsum_take hk]; unfold hV; split <;> omega
    · rw [List.take_of_length_le (by omega)]
      rw [List.take_of_length_le (by omega)] at ih
      omega

/-- What the calls answer where no name is too long. -/
structure NmP (w : World) (l : List Nd) (X Y : ByteArray) : Prop where
  zX : X.size ≤ 6500
  zY : Y.size ≤ 6500
  sw1 : ∀ W xo xc, Below w.heap.size w W → Rd W xo xc l → Calls Tryd.prog 35 #[.slice xo l.length xc, .func (.func 36) #[] #[] ] W fun e w' => ∃ ao' cap', e = .returned (.tuple #[.slice ao' l.length cap', .int .i64 0]) ∧ Rd w' ao' cap' (l.map (swF xN)) ∧ Below W.heap.size W w'
  shX : ∀ W xo xc, Below w.heap.size w W → Rd W xo xc l → Calls Tryd.prog 31 #[.slice xo l.length xc] W fun e w' => e = .returned (.tuple #[.string X, .int .i64 0]) ∧ Below W.heap.size W w'
  cp1 : ∀ W xo xc, Below w.heap.size w W → Rd W xo xc (l.map (swF xN)) → Calls Tryd.prog 10 #[.slice xo l.length xc] W fun e w' => ∃ ao' cap', e = .returned (.slice ao' l.length cap') ∧ Rd w' ao' cap' (l.map (swF xN)) ∧ Below W.heap.size W w'
  shY : ∀ W xo xc, Below w.heap.size w W → Rd W xo xc (l.map (swF xN)) → Calls Tryd.prog 31 #[.slice xo l.length xc] W fun e w' => e = .returned (.tuple #[.string Y, .int .i64 0]) ∧ Below W.heap.size W w'
  pa : Y.size ≤ 4096 → ∀ W, Below w.heap.size w W → Calls Tryd.prog 26 #[.string Y] W fun e w' => ∃ ao cap, e = .returned (.tuple #[.slice ao l.length cap, .int .i64 0, .int .i64 0]) ∧ Rd w' ao cap (l.map (swF xN)) ∧ Below W.heap.size W w'
  sw2 : ∀ W xo xc, Below w.heap.size w W → Rd W xo xc (l.map (swF xN)) → Calls Tryd.prog 35 #[.slice xo l.length xc, .func (.func 37) #[] #[] ] W fun e w' => ∃ ao' cap', e = .returned (.tuple #[.slice ao' l.length cap', .int .i64 0]) ∧ Rd w' ao' cap' l ∧ Below W.heap.size W w'
  len : Y.size ≤ 4096 → Y.size = X.size + vsum l

set_option maxRecDepth 20000 in
set_option maxHeartbeats 16000000 in
theorem showNames_walk (w : World) (ao : Option Addr) (cap : Nat) (l : List Nd) (hT : Tb5 w ∧ Tabs w) (hR : Rd w ao cap l) (hF : FitX l) :
    Calls Tryd.prog 7 #[.slice ao l.length cap] w fun e w' => e = .returned (.bool true) ∧ Below w.heap.size w w' := by
  have hnum : ∀ x ∈ l, num64 x.n := hF.fit5W.num
  have HR : SldW (∀ W, Below w.heap.size w W → Rd W ao cap l) := ⟨fun W hW => hR.below hW hW.size⟩
  have HT : SldW (∀ W, Below w.heap.size w W → Tabs W) := ⟨fun W hW => hT.2.below hW⟩
  have HT5 : SldW (∀ W, Below w.heap.size w W → Tb5 W) := ⟨fun W hW => hT.1.below hW⟩
  have CA : SldW (∀ W, Below w.heap.size w W → Calls Tryd.prog 30 #[] W fun e w' => e = .returned (.bool true) ∧ Below W.heap.size W w') := ⟨fun W hW => awake_any (HT5.out W hW)⟩
  have CC : SldW (∀ W, Below w.heap.size w W → Calls Tryd.prog 10 #[.slice ao l.length cap] W fun e w' => ∃ ao' cap', e = .returned (.slice ao' l.length cap') ∧ Rd w' ao' cap' l ∧ Below W.heap.size W w') := ⟨fun W hW => copyR (HR.out W hW) hF.fit⟩
  obtain ⟨hb1, hb2⟩ := hR.bound
  unfold maxLen at hb2
  cases hbg : begL l with
  | none =>
    have CK : SldW (∀ W, Below w.heap.size w W → Calls Tryd.prog 11 #[.slice ao l.length cap] W fun e w' => e = .returned (.int .i64 1) ∧ Below W.heap.size W w') := ⟨fun W hW => rchkR (HR.out W hW) hF.fit 1 (by unfold chkE sndB; rw [hbg]; rfl)⟩
    clear hT hR hF hnum hbg
    go_enter Tryd.func7, Tryd.ntmps7
    go_wp2_with fail
    refine (CA.out w (Below.refl _ _)).mono ?_
    rintro e w1 ⟨rfl, hq⟩
    have HB1 : SldW (Below w.heap.size w w1) := ⟨hq⟩
    clear hq
    go_wp2_with fail
    refine (CK.out w1 HB1.out).mono ?_
    rintro e w2 ⟨rfl, hq⟩
    have HB2 : SldW (Below w.heap.size w w2) := ⟨HB1.out.trans (hq.mono HB1.out.size)⟩
    clear hq
    go_wp2_with fail
    refine (CA.out w2 HB2.out).mono ?_
    rintro e w3 ⟨rfl, hq⟩
    have HB3 : SldW (Below w.heap.size w w3) := ⟨HB2.out.trans (hq.mono HB2.out.size)⟩
    clear hq
    go_wp2_with fail
    go_ret
    exact ⟨rfl, HB3.out⟩
  | some fr =>
    have CK : SldW (∀ W, Below w.heap.size w W → Calls Tryd.prog 11 #[.slice ao l.length cap] W fun e w' => e = .returned (.int .i64 0) ∧ Below W.heap.size W w') := ⟨fun W hW => rchkR (HR.out W hW) hF.fit 0 (by unfold chkE sndB; rw [hbg]; rfl)⟩
    have hl64 := (begL_some hbg).2.1
    have hl0 := (begL_some hbg).1
    have HNB : SldW (∀ k, k < l.length → (l.getD k nd0).op = 2 → nameB (l.getD k nd0).name = true ∧ (l.getD k nd0).name.size ≤ 64) := ⟨fun k hk h2 => by
      have hat := ndAt_of (by rw [fill_id (snd_ops hbg)]; exact hbg) hk
      rcases nd_cases hat.form with ⟨h1, _⟩ | ⟨_, _, _, h5⟩ | ⟨_, _, h⟩
      · omega
      · exact ⟨h5, name_size _ h5⟩
      · rcases h with ⟨ho, _⟩ | ⟨ho, _⟩ | ⟨ho, _⟩ <;> omega⟩
    have HCR : SldW (∀ k, k < l.length → ∃ b o, ao = some ⟨b, o, none⟩ ∧ b < w.heap.size ∧ ∀ W, Below w.heap.size w W → W.cell? ⟨b, o + k * 4, none⟩ = some (.int .i64 (l.getD k nd0).op) ∧ W.cell? ⟨b, o + k * 4 + 2, none⟩ = some (.string (l.getD k nd0).name)) := ⟨fun k hk => by
      obtain ⟨b, o, kv, h1, h2, h3⟩ := hR.cell hk
      exact ⟨b, o, h1, h2, fun W hW => ⟨(hW.cell (p := ⟨b, o + k * 4, none⟩) h2).trans h3.c0, (hW.cell (p := ⟨b, o + k * 4 + 2, none⟩) h2).trans h3.c2⟩⟩⟩
    obtain ⟨X, hX⟩ : ∃ X, shF betT l = X := ⟨_, rfl⟩
    obtain ⟨Y, hY⟩ : ∃ Y, shF betT (l.map (swF xN)) = Y := ⟨_, rfl⟩
    -- all that holds where no name is too long
    have HGO : SldW ((∀ k, k < l.length → (l.getD k nd0).op = 2 → (rl (l.getD k nd0).name).length ≤ 15) → NmP w l X Y) := ⟨fun hall => by
      have hmem : ∀ x ∈ l, x.op = 2 → nameB x.name = true ∧ x.name.size ≤ 64 ∧ (rl x.name).length ≤ 15 := fun x hx h2 => by
        obtain ⟨i, hi, rfl⟩ := List.mem_iff_getElem.1 hx
        have e : l.getD i nd0 = l[i] := by simp [hi]
        have h1 := HNB.out i hi
        have h3 := hall i hi
        rw [e] at h1 h3
        exact ⟨(h1 h2).1, (h1 h2).2, h3 h2⟩
      have hxn : ∀ x ∈ l, x.op = 2 → nameB (xN x.name) = true := fun x hx h2 => xN_name (hmem x hx h2).1 (hmem x hx h2).2.2
      have hbg1 := swF_beg (φ := xN) hbg hxn
      have hback : (l.map (swF xN)).map (swF dN) = l := swF_back (fun x _ _ => dN_xN x.name)
      have hm1 : ∀ y ∈ l.map (swF xN), ∃ x ∈ l, y = swF xN x := fun y hy => by obtain ⟨x, hx, rfl⟩ := List.mem_map.1 hy; exact ⟨x, hx, rfl⟩
      have hnum1 : ∀ y ∈ l.map (swF xN), num64 y.n := fun y hy => by obtain ⟨x, hx, rfl⟩ := hm1 y hy; rw [swF_n]; exact hnum x hx
      have hname1 : ∀ y ∈ l.map (swF xN), y.name.size ≤ maxLen := fun y hy => by
        obtain ⟨x, hx, rfl⟩ := hm1 y hy
        unfold swF
        split
        · rename_i h2
          show (xN x.name).size ≤ maxLen
          rw [xN_size]; have := (hmem x hx h2).2.1; unfold maxLen; omega
        · exact hF.name x hx
      have hlen1 : (l.map (swF xN)).length = l.length := List.length_map ..
      have hfit1 : Fit (l.map (swF xN)) := ⟨by rw [hlen1]; exact hF.fit.len, fun y hy => by obtain ⟨x, hx, rfl⟩ := hm1 y hy; rw [swF_kids]; exact hF.fit.kids x hx, hname1⟩
      have hok := okSh_of hbg
      have hok1 := okSh_of hbg1
      have hzX := (show_sz hok hnum).1
      have hzY := (show_sz hok1 hnum1).1
      rw [hX] at hzX
      rw [hY] at hzY
      refine ⟨hzX, hzY, fun W xo xc hW h => ?_, fun W xo xc hW h => ?_, fun W xo xc hW h => ?_, fun W xo xc hW h => ?_, fun h4 W hW => ?_, fun W xo xc hW h => ?_, fun h4 => ?_⟩
      · exact swapF1_ok W xN xo xc l fr (HT.out W hW).spans h hbg hxn (fun x hx h2 V => xN_call _ (by have := (hmem x hx h2).2.1; omega) V)
      · have := show_any (HT5.out W hW) h hF.fit5W
        unfold shS shE at this
        rw [if_pos hok, if_pos hok, hX] at this
        exact this
      · have := copyR h hfit1
        rw [hlen1] at this
        exact this
      · have := show_any (HT5.out W hW) h ⟨hname1, hnum1⟩
        unfold shS shE at this
        rw [if_pos hok1, if_pos hok1, hY, hlen1] at this
        exact this
      · have e1 := read_back hok1 hnum1 false (.inr (snd_ops hbg1)) 64 (by rw [hY]; exact h4)
        rw [if_neg (by rw [hlen1]; omega), hY] at e1
        have := parse_ok (s := Y) (by unfold maxLen; omega) (HT.out W hW) e1
        rw [hlen1] at this
        exact this
      · have := swapF2_ok W dN xo xc (l.map (swF xN)) fr (HT.out W hW).spans (by rw [hlen1] at *; exact h) hbg1 (fun y hy h2 => by
            obtain ⟨x, hx, rfl⟩ := hm1 y hy
            rw [swF_op] at h2
            have e : (swF xN x).name = xN x.name := by unfold swF; rw [if_pos h2]
            rw [e, dN_xN]; exact (hmem x hx h2).1) (fun y hy h2 V => by
            obtain ⟨x, hx, rfl⟩ := hm1 y hy
            rw [swF_op] at h2
            have e : (swF xN x).name = xN x.name := by unfold swF; rw [if_pos h2]
            rw [e]; exact dN_call _ (by rw [xN_size]; have := (hmem x hx h2).2.1; omega) (by rw [xN_size]; omega) V)
        rw [hback, hlen1] at this
        exact this
      · have := len_sw hbg hnum hxn (by rw [hY]; exact h4)
        rw [hX, hY] at this
        exact this⟩
    clear hT hR hF hnum hbg
    go_enter Tryd.func7, Tryd.ntmps7
    go_wp2_with fail
    refine (CA.out w (Below.refl _ _)).mono ?_
    rintro e w1 ⟨rfl, hq⟩
    have HB1 : SldW (Below w.heap.size w w1) := ⟨hq⟩
    clear hq
    go_wp2_with fail
    refine (CK.out w1 HB1.out).mono ?_
    rintro e w2 ⟨rfl, hq⟩
    have HB2 : SldW (Below w.heap.size w w2) := ⟨HB1.out.trans (hq.mono HB1.out.size)⟩
    clear hq
    go_wp2_with fail
    go_loopw [3] (fun i wr => ∃ k : Nat, k ≤ l.length ∧ i = .int .i64 k ∧ SldW (∀ j, j < k → (l.getD j nd0).op = 2 → (rl (l.getD j nd0).name).length ≤ 15) ∧ Below w.heap.size w wr) (fun i _ => l.length - (RowKit.intOf i).toNat)
    case atStart => exact ⟨0, Nat.zero_le _, rfl, ⟨fun j hj => by omega⟩, HB2.out⟩
    case round =>
      obtain ⟨k, hk, rfl, HALL, hbr⟩ := hrel
      have HBR : SldW (Below w.heap.size w wr) := ⟨hbr⟩
      clear hbr
      by_cases hkl : k < l.length
      · obtain ⟨b, o, hao, hbw, hcl⟩ := HCR.out k hkl
        obtain ⟨c0, c2⟩ := hcl wr HBR.out
        have hNBk := HNB.out k hkl
        obtain ⟨x, hx⟩ : ∃ x, l.getD k nd0 = x := ⟨_, rfl⟩
        have HX : SldW (l.getD k nd0 = x) := ⟨hx⟩
        rw [hx] at c0 c2 hNBk
        subst hao
        obtain ⟨op, n, nm, kids⟩ := x
        simp only at c0 c2 hNBk
        have HNK : SldW _ := ⟨hNBk⟩
        clear hcl hx hNBk
        by_cases hop : op = 2
        · subst hop
          obtain ⟨hnb, hns⟩ := HNK.out rfl
          obtain ⟨rc, wc, hcv, hbc, _, _⟩ := conv_runes nm wr (by omega)
          obtain ⟨R, hRl⟩ : ∃ R, (rl nm).length = R := ⟨_, rfl⟩
          rw [hRl] at hcv
          have HRL : SldW ((rl nm).length = R) := ⟨hRl⟩
          have HBC : SldW (Below w.heap.size w wc) := ⟨HBR.out.trans (hbc.mono HBR.out.size)⟩
          clear hnb hns HNK hRl hbc
          by_cases h16 : 16 ≤ R
          · have h16I : (16 : Int) ≤ (R : Int) := by omega
            go_wp2_with fail
            go_ret
            exact ⟨rfl, HBC.out⟩
          · have h16I : ¬ ((16 : Int) ≤ (R : Int)) := by omega
            go_wp2_with fail
            exact ⟨⟨k + 1, by omega, by go_num, ⟨fun j hj h2 => by
              by_cases e : j = k
              · subst e; rw [HX.out]; show (rl nm).length ≤ 15; rw [HRL.out]; omega
              · exact HALL.out j (by omega) h2⟩, HBC.out⟩, by simp [RowKit.intOf]; omega⟩
        · have hop' : (op == 2) = false := by simp [hop]
          clear HNK
          go_wp2_with fail
          exact ⟨⟨k + 1, by omega, by go_num, ⟨fun j hj h2 => by
            by_cases e : j = k
            · subst e; rw [HX.out] at h2; exact absurd h2 hop
            · exact HALL.out j (by omega) h2⟩, HBR.out⟩, by simp [RowKit.intOf]; omega⟩
      · have HN : SldW (NmP w l X Y) := ⟨HGO.out fun j hj => HALL.out j (by omega)⟩
        obtain ⟨zX, zY⟩ := And.intro HN.out.zX HN.out.zY
        clear HGO HALL
        go_wp2_with fail
        refine (CC.out wr HBR.out).mono ?_
        rintro e w3 ⟨o3, c3, rfl, hr, hq⟩
        have B3 : SldW (Below w.heap.size w w3) := ⟨HBR.out.trans (hq.mono HBR.out.size)⟩
        have R3 : SldW (Rd w3 o3 c3 l) := ⟨hr⟩
        clear hr hq
        go_wp2_with fail
        refine (HN.out.sw1 w3 o3 c3 B3.out R3.out).mono ?_
        rintro e w4 ⟨o4, c4, rfl, hr, hq⟩
        have B4 : SldW (Below w.heap.size w w4) := ⟨B3.out.trans (hq.mono B3.out.size)⟩
        have R4 : SldW (Rd w4 o4 c4 (l.map (swF xN))) := ⟨hr⟩
        clear hr hq
        go_wp2_with fail
        refine (CC.out w4 B4.out).mono ?_
        rintro e w5 ⟨o5, c5, rfl, hr, hq⟩
        have B5 : SldW (Below w.heap.size w w5) := ⟨B4.out.trans (hq.mono B4.out.size)⟩
        have R5 : SldW (Rd w5 o5 c5 l ∧ Rd w5 o4 c4 (l.map (swF xN))) := ⟨hr, R4.out.below hq hq.size⟩
        clear hr hq R4
        go_wp2_with fail
        refine (HN.out.shX w5 o5 c5 B5.out R5.out.1).mono ?_
        rintro e w6 ⟨rfl, hq⟩
        have B6 : SldW (Below w.heap.size w w6) := ⟨B5.out.trans (hq.mono B5.out.size)⟩
        have R6 : SldW (Rd w6 o4 c4 (l.map (swF xN))) := ⟨R5.out.2.below hq hq.size⟩
        clear hq R5
        go_wp2_with fail
        refine (HN.out.cp1 w6 o4 c4 B6.out R6.out).mono ?_
        rintro e w7 ⟨o7, c7, rfl, hr, hq⟩
        have B7 : SldW (Below w.heap.size w w7) := ⟨B6.out.trans (hq.mono B6.out.size)⟩
        have R7 : SldW (Rd w7 o7 c7 (l.map (swF xN))) := ⟨hr⟩
        clear hr hq
        go_wp2_with fail
        refine (HN.out.shY w7 o7 c7 B7.out R7.out).mono ?_
        rintro e w8 ⟨rfl, hq⟩
        have B8 : SldW (Below w.heap.size w w8) := ⟨B7.out.trans (hq.mono B7.out.size)⟩
        clear hq
        by_cases h4 : Y.size ≤ 4096
        · have h4I : ¬ ((4096 : Int) < (Y.size : Int)) := by omega
          have HPA : SldW _ := ⟨HN.out.pa h4⟩
          have HLN : SldW (Y.size = X.size + vsum l) := ⟨HN.out.len h4⟩
          go_wp2_with fail
          refine (HPA.out w8 B8.out).mono ?_
          rintro e w9 ⟨o9, c9, rfl, hr, hq⟩
          have B9 : SldW (Below w.heap.size w w9) := ⟨B8.out.trans (hq.mono B8.out.size)⟩
          have R9 : SldW (Rd w9 o9 c9 (l.map (swF xN))) := ⟨hr⟩
          clear hr hq
          go_wp2_with fail
          refine (HN.out.sw2 w9 o9 c9 B9.out R9.out).mono ?_
          rintro e wA ⟨oA, cA, rfl, hr, hq⟩
          have BA : SldW (Below w.heap.size w wA) := ⟨B9.out.trans (hq.mono B9.out.size)⟩
          have RA : SldW (Rd wA oA cA l) := ⟨hr⟩
          clear hr hq
          go_wp2_with fail
          refine (HN.out.shX wA oA cA BA.out RA.out).mono ?_
          rintro e wB ⟨rfl, hq⟩
          have BB : SldW (Below w.heap.size w wB) := ⟨BA.out.trans (hq.mono BA.out.size)⟩
          clear hq HPA HN
          go_wp2_with fail
          go_loopw [17, 18] (fun n i wr => ∃ k : Nat, k ≤ l.length ∧ i = .int .i64 k ∧ n = .int .i64 (vsum (l.take k)) ∧ Below w.heap.size w wr) (fun _ i _ => l.length - (RowKit.intOf i).toNat)
          case atStart => exact ⟨0, Nat.zero_le _, rfl, rfl, BB.out⟩
          case round =>
            obtain ⟨k, hk, rfl, rfl, hbr⟩ := hrel
            obtain ⟨wo, hwo⟩ : ∃ wo, wo = wr := ⟨_, rfl⟩
            have HBR2 : SldW (Below w.heap.size w wo) := ⟨by rw [hwo]; exact hbr⟩
            subst hwo
            clear hbr
            have hvl := vsum_le l k
            obtain ⟨v, hv⟩ : ∃ v, vsum (l.take k) = v := ⟨_, rfl⟩
            have HV : SldW (vsum (l.take k) = v) := ⟨hv⟩
            rw [hv] at hvl ⊢
            clear hv
            by_cases hkl2 : k < l.length
            · obtain ⟨b, o, hao, hbw, hcl⟩ := HCR.out k hkl2
              obtain ⟨c0, c2⟩ := hcl wo HBR2.out
              obtain ⟨x, hx⟩ : ∃ x, l.getD k nd0 = x := ⟨_, rfl⟩
              have HV2 : SldW (vsum (l.take (k + 1)) = v + hV x) := ⟨by rw [vsum_take hkl2, HV.out, hx]⟩
              rw [hx] at c0 c2
              subst hao
              obtain ⟨op, n, nm, kids⟩ := x
              simp only at c0 c2
              clear hcl hx c2
              by_cases hop : op = 2
              · subst hop
                go_wp2_with fail
                exact ⟨⟨k + 1, by omega, by go_num, by rw [HV2.out]; show _ = Value.int .i64 (((v + 1 : Nat)) : Int); go_num, HBR2.out⟩, by simp [RowKit.intOf]; omega⟩
              · have hop' : (op == 2) = false := by simp [hop]
                have hh : hV ⟨op, n, nm, kids⟩ = 0 := by unfold hV; rw [if_neg hop]
                have HV3 : SldW (vsum (l.take (k + 1)) = v) := ⟨by rw [HV2.out, hh]; rfl⟩
                clear HV2 hh
                go_wp2_with fail
                exact ⟨⟨k + 1, by omega, by go_num, by rw [HV3.out], HBR2.out⟩, by simp [RowKit.intOf]; omega⟩
            · have hke : k = l.length := by omega
              have hYv : ((Y.size : Int) == (X.size : Int) + (v : Int)) = true := by
                have h1 := HLN.out
                have h2 := HV.out
                rw [hke, List.take_length] at h2
                simp; omega
              have hXX : (X.toList == X.toList) = true := by simp
              go_wp2_with fail
              go_ret
              exact ⟨rfl, HBR2.out⟩
        · have h4I : (4096 : Int) < (Y.size : Int) := by omega
          go_wp2_with fail
          go_ret
          exact ⟨rfl, B8.out⟩
end Go.Proofs.YtjmccobblpcbhaaDoor

set_option linter.unusedVariables false
namespace Go.Proofs.YtjmccobblpcbhaaDoor.shownames
open Go.ChangeShapes Go.WideShapes Go.ChangeAt Go.RowKit Go.WideMaps Go.WideElems
open Go.ChangeMaps (open_string shut_string)

set_option maxRecDepth 100000 in
set_option maxHeartbeats 1000000 in
theorem contract (H : Type) (enc : TypeId × Value → H) (W : World) (base : Nat) (args : Array Value) (ds gs : List (DataW H)) (before : List MemPlace)
    (hval : ∀ (j : Nat) t v, Tryd.f7.params[j]? = some t → args[j]? = some v → Value.okWide Tryd.prog W .any base t v)
    (hW : DataW.Whole enc Tryd.prog Tryd.f7.params.toList Rows.showNamesSpec.vars false W args.toList ds gs before)
    (hsz : (DataW.weightsEach Tryd.prog (Tryd.f7.params.toList ++ (OpenSpec.ofChange Rows.showNamesSpec).bare.plain.varTypes Tryd.prog) (ds ++ gs)).all (· ≤ reachBytes) = true)
    (hL : laidMetH Tryd.prog Rows.showNamesRow.laid W) :
    Calls Tryd.prog 7 args W fun e W' => ∃ v, e = .returned v ∧ Rows.showNamesSpec.post enc Tryd.prog Tryd.f7 false true false false W args v W' := by
  have hW' := hW
  have hlt : ∀ x ∈ before, x.block < W.heap.size := fun x hx => by simpa using hW'.lt x hx
  obtain ⟨p, q, hA0, hV, rfl, hfz, hnd⟩ := hW
  have hA : DataW.TrodAll enc Tryd.prog W 0 (fun _ => true) true Tryd.f7.params.toList args.toList ds p := hA0
  rw [Tryd.params7 ] at hA hval
  obtain ⟨v0, vs0, d0, ds0, p0, q0, hargs0, rfl, rfl, h0, r0⟩ := trodAll_cons hA
  obtain ⟨rfl, rfl, rfl⟩ := trodAll_nil r0
  obtain rfl : args = #[v0] := by cases args; simp_all
  obtain ⟨rfl, rfl⟩ := trodVars_none hV
  clear hA0
  simp only [List.append_nil] at hW' hsz
  have h0k := h0
  have ok0 : Value.okWide Tryd.prog W .any base 22 v0 := hval 0 22 v0 (by rfl) (by rfl)
  obtain ⟨a0, n0, c0, rfl⟩ := okWide_slice Tryd.underlying22 ok0
  obtain ⟨fu0, hf0⟩ := h0
  obtain ⟨ao0, cap0, l0, he0, R0, hF0⟩ := open_nodesX (v := .slice a0 n0 c0) hf0
  cases he0
  have F0 := hF0 fun n hn => of_decide_eq_true (List.all_eq_true.1 hsz n (DataW.weights_mem_each (j := 0) (t := 22) (by kernel_rfl) rfl n hn))
  refine (showNames_walk W a0 c0 l0 (tb7_of_laid hL)  R0  F0).mono fun e W' ⟨he, hg⟩ => ?_
  subst he
  exact ⟨_, rfl, post_below (pv := []) hW' (fun _ _ _ => trodAll_cons_mk (shut_bool Tryd.underlying4 _) trodAll_mk0) (fun sp hsp => trodAll_cons_mk (Trod_stays Tryd.laidOut (by kernel_rfl) (of_decide_eq_true (by kernel_rfl)) h0k (fun x hx => hg.same (hlt x (by simp [hx]))) (fun x hx => hsp x (by simp [hx]))) trodAll_mk0) (fun _ _ => rfl) (by simp) (hg.frame _)⟩

end Go.Proofs.YtjmccobblpcbhaaDoor.shownames
