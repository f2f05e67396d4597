/-
  SpX, SpL, SlW, ShowleastK.
-/
import Derived.Test.YtjmccobblpcbhaaDoorChecked
import GoSem.PinnedTables
import GoSem.Claim
import GoSem.ClaimJoined
import GoSem.ClaimMapViews
import Derived.JoinedTies
import Derived.KernelRfl
import GoSem.ClaimSeven
import Derived.LaidByTextLater
import Derived.SevenTiedAt
import Derived.LaidSub
import Derived.LaidOnce
import Derived.Shelf.Unicode.DecodeSlow
import Derived.Laws.RangeAny
import Derived.Shelf.Strings.Builder1
import Derived.Shelf.Small.Utf8
import Derived.Shelf.Small.Bits
import Derived.Shelf.Strings.BuilderF
import Derived.Shelf.Strings.BuilderK
import Derived.Shelf.Strings.BuilderRune
import Derived.Shelf.Utf8.AppendRune
import Derived.Shelf.Strconv.Itoa0
import Derived.Shelf.Strconv.Itoa1
import Derived.Shelf.LaysM
import Derived.Shelf.Strconv.Itoa2
import Derived.Shelf.Strconv.Itoa3
import Derived.Shelf.Strconv.Itoa4
import Derived.Shelf.Strings.Prefix
import Derived.Shelf.Unicode.DecodeAny
import Derived.Test.YtjmccobblpcbhaaDoorProg
import Derived.WalkKit
import Derived.Deep.DeepFit
import Derived.Lib.OthersKept
import Derived.Lib.RuneCountTail
import Derived.Lib.LaidU8
import Derived.MakeChecks
import Derived.ProofKit
import Derived.OpenShut
import Derived.Deep.DeepHandedRow
import Derived.Lib.MapLaws
import Derived.Sort.Walk0
import Derived.Laws.DeepStrings4
import Derived.Lib.ItoaNum
import Derived.Deep.AppendLies
import Derived.Deep.OwnRows
import Derived.Laws.AppendOwnNone
import Derived.Deep.QuietTactic
import Derived.BigQuiet
import Derived.Deep.RegionWith
import Derived.BigCall
import Derived.Lib.LaidTab
import Derived.Maps.OwnSet
import Derived.StringKeys
import Derived.Deep.Slices
import Derived.Lib.QuietBelow
import Derived.StillTail
import Derived.Laws.OwnMore
import Derived.SizedLaws
import Derived.Below
import Derived.Lib.Small
import Derived.Lib.Strings
import Derived.Deep.RegionHeld3
import Derived.Laws.ResultCell
import Derived.Deep.Heap
import Derived.Laws.Rows
import Derived.Deep.RegionLaw
import Derived.Laws.IdiomStrings
import Derived.Laws.Cover4
import Derived.WideKeyArgs
import Derived.Test.YtjmccobblpcbhaaDoorRows
import Derived.Test.YtjmccobblpcbhaaDoorCards
import Derived.Test.YtjmccobblpcbhaaDoorTie
import Derived.Test.YtjmccobblpcbhaaDoorL01
import Derived.Test.YtjmccobblpcbhaaDoorL02
import Derived.Test.YtjmccobblpcbhaaDoorL03
import Derived.Test.YtjmccobblpcbhaaDoorL04
import Derived.Test.YtjmccobblpcbhaaDoorL05
import Derived.Test.YtjmccobblpcbhaaDoorL06
import Derived.Test.YtjmccobblpcbhaaDoorL07
import Derived.Test.YtjmccobblpcbhaaDoorL08
import Derived.Test.YtjmccobblpcbhaaDoorL09
import Derived.Test.YtjmccobblpcbhaaDoorL10
import Derived.Test.YtjmccobblpcbhaaDoorL11
import Derived.Test.YtjmccobblpcbhaaDoorL12
import Derived.Test.YtjmccobblpcbhaaDoorL13
import Derived.Test.YtjmccobblpcbhaaDoorL14
import Derived.Test.YtjmccobblpcbhaaDoorL15
import Derived.Test.YtjmccobblpcbhaaDoorL16
import Derived.Test.YtjmccobblpcbhaaDoorL17
import Derived.Test.YtjmccobblpcbhaaDoorL18
import Derived.Test.YtjmccobblpcbhaaDoorL19
import Derived.Test.YtjmccobblpcbhaaDoorL20
import Derived.Test.YtjmccobblpcbhaaDoorL21
import Derived.Test.YtjmccobblpcbhaaDoorL22
import Derived.Test.YtjmccobblpcbhaaDoorL23
import Derived.Test.YtjmccobblpcbhaaDoorL24
import Derived.Test.YtjmccobblpcbhaaDoorL25
import Derived.Test.YtjmccobblpcbhaaDoorL26
import Derived.Test.YtjmccobblpcbhaaDoorL27
import Derived.Test.YtjmccobblpcbhaaDoorL28
import Derived.Test.YtjmccobblpcbhaaDoorL29
import Derived.Test.YtjmccobblpcbhaaDoorL30
import Derived.Test.YtjmccobblpcbhaaDoorL31
import Derived.Test.YtjmccobblpcbhaaDoorL32
import Derived.Test.YtjmccobblpcbhaaDoorL33
import Derived.Test.YtjmccobblpcbhaaDoorL34
import Derived.Test.YtjmccobblpcbhaaDoorL35
import Derived.Test.YtjmccobblpcbhaaDoorL36
set_option linter.unusedSimpArgs false
set_option linter.unusedVariables false
namespace Go.Proofs.YtjmccobblpcbhaaDoor
open Go.RowKit Go.Lib

/-- A list of bytes, read. -/
structure Rg8 (w : World) (ao : Option Addr) (cap : Nat) (l : List Int) : Prop where
  le : l.length ≤ cap
  mx : cap ≤ maxLen
  nil : ao = none → l.length = 0 ∧ cap = 0
  cells : l = [] ∨ ∃ b o, ao = some ⟨b, o, none⟩ ∧ b < w.heap.size ∧ ∀ j x, l[j]? = some x → w.cell? ⟨b, o + j, none⟩ = some (.int .u8 x)
  num : ∀ x ∈ l, 0 ≤ x ∧ x < 256
theorem Rg8.below {w w' : World} {ao : Option Addr} {cap : Nat} {l : List Int} (h : Rg8 w ao cap l) (hb : Below w.heap.size w w') : Rg8 w' ao cap l := by
  refine ⟨h.le, h.mx, h.nil, ?_, h.num⟩
  rcases h.cells with h | ⟨b, o, h1, h2, h3⟩
  · exact .inl h
  · exact .inr ⟨b, o, h1, Nat.lt_of_lt_of_le h2 hb.size, fun j x hx => (hb.cell (p := ⟨b, o + j, none⟩) h2).trans (h3 j x hx)⟩
end Go.Proofs.YtjmccobblpcbhaaDoor

set_option linter.unusedSimpArgs false
set_option linter.unusedVariables false
namespace Go.Proofs.YtjmccobblpcbhaaDoor
open Go.RowKit Go.Lib

/-- Pattern, whatever it comes to. -/
theorem pattern_some {W : World} {s : ByteArray} (hz : s.size ≤ maxLen) (hT : Tabs W) :
    Calls Tryd.prog 25 #[.string s] W fun e w' => ∃ ao n cap p er, e = .returned (.tuple #[.slice ao n cap, .int .i64 p, .int .i64 er]) ∧ Below W.heap.size W w' := by
  have := pattern_any W s hz hT
  cases h : psRead s true 16 with
  | ok l => rw [h] at this; exact this.mono fun e w' ⟨⟨ao, cap, h1, h2⟩, h3⟩ => ⟨ao, _, cap, _, _, h1, h3⟩
  | bad p er => rw [h] at this; exact this.mono fun e w' ⟨h1, h2⟩ => ⟨none, 0, 0, _, _, h1, h2⟩
  | out => exact absurd h (psRead_in s true 16)

end Go.Proofs.YtjmccobblpcbhaaDoor

set_option linter.unusedSimpArgs false
set_option linter.unusedVariables false
namespace Go.Proofs.YtjmccobblpcbhaaDoor
open Go.RowKit Go.Lib

set_option maxRecDepth 20000 in
set_option maxHeartbeats 8000000 in
theorem closeL_any (w : World) (X : ByteArray) (k : Nat) (hz : X.size ≤ 6500) (hk : k < X.size) (h40 : X.get! k = 40) (hend : opn X X.size = 0) (hlow : 0 ≤ opn X k) :
    Calls Tryd.prog 33 #[.string X, .int .i64 (k : Int)] w fun e w' => ∃ j : Nat, e = .returned (.int .i64 (j : Int)) ∧ (k < j ∧ j < X.size ∧ X.get! j = 41) ∧ Below w.heap.size w w' := by
  obtain ⟨d, hd⟩ : ∃ d, opn X k = d := ⟨_, rfl⟩
  have HD : Box' (opn X k = d) := ⟨hd⟩
  have HE : Box' (opn X X.size = 0) := ⟨hend⟩
  have H40 : Box' (X.get! k = 40) := ⟨h40⟩
  have hd0 : 0 ≤ d := by omega
  have hd1 : d ≤ 6500 := by have := opn_abs X k; omega
  clear hd hend h40 hlow
  go_enter Tryd.func33, Tryd.ntmps33
  go_wp2_with fail
  go_loopw [5, 6] (fun n i wr => ∃ (q : Nat) (c : Int), k ≤ q ∧ q ≤ X.size ∧ i = .int .i64 q ∧ n = .int .i64 c ∧ Box' (opn X q = d + c) ∧ (k < q → 1 ≤ c) ∧ (q = k → c = 0) ∧ -13000 ≤ c ∧ c ≤ 13000 ∧ Below w.heap.size w wr) (fun _ i _ => X.size - (RowKit.intOf i).toNat)
  case atStart => exact ⟨k, 0, by omega, by omega, rfl, rfl, ⟨by rw [HD.out]; omega⟩, fun h => absurd h (Nat.lt_irrefl _), fun _ => rfl, by omega, by omega, Below.refl _ _⟩
  case round =>
    obtain ⟨q, c, hkq, hq, rfl, rfl, HC, hc1, hc0, hcl, hch, hbq⟩ := hrel
    have HB : Box' (Below w.heap.size w wr) := ⟨hbq⟩
    have HC1 : Box' ((k < q → 1 ≤ c) ∧ (q = k → c = 0)) := ⟨hc1, hc0⟩
    clear hbq hc1 hc0
    by_cases hql : q < X.size
    · have hg := Utf8W.get!_of_lt X q hql
      have HG : Box' (X.get! q = X[q]) := ⟨hg⟩
      have HN : Box' (opn X (q + 1) = d + c + brR ((X[q].toNat : Nat) : Int)) := ⟨by
        show opn X q + brk1 (X.get! q) = _
        rw [HC.out, hg, brk1_lo]⟩
      have HAB : Box' (∀ c' : Int, opn X (q + 1) = d + c' → -13000 ≤ c' ∧ c' ≤ 13000) := ⟨fun c' e => by have := opn_abs X (q + 1); omega⟩
      have HK : Box' (q = k → ((X[q].toNat : Nat) : Int) = 40) := ⟨fun e => by subst e; rw [← HG.out, H40.out]; rfl⟩
      have h41 : Box' (((X[q].toNat : Nat) : Int) = 41 → X.get! q = 41) := ⟨fun e => by rw [HG.out]; apply UInt8.toNat_inj.1; show X[q].toNat = 41; omega⟩
      clear hg
      go_wp2_with fail
      · rename_i g40
        have e40 : ((X[q].toNat : Nat) : Int) = 40 := by simpa using g40
        have hE := HN.out
        rw [e40, show brR 40 = 1 from rfl] at hE
        have hab := HAB.out (c + 1) (by omega)
        have hcc := HC1.out
        refine ⟨⟨q + 1, c + 1, by omega, by omega, by go_num, rfl, ⟨by omega⟩, fun _ => ?_, fun h => by omega, hab.1, hab.2, HB.out⟩, by simp [RowKit.intOf]; omega⟩
        rcases Nat.eq_or_lt_of_le hkq with h | h
        · have := hcc.2 h.symm; omega
        · have := hcc.1 h; omega
      · rename_i g40 g41 g0
        have e41 : ((X[q].toNat : Nat) : Int) = 41 := by simpa using g41
        have hkl : k < q := by
          rcases Nat.eq_or_lt_of_le hkq with h | h
          · have := HK.out h.symm; omega
          · exact h
        go_ret
        exact ⟨q, rfl, ⟨hkl, hql, h41.out e41⟩, HB.out⟩
      · rename_i g40 g41 g0
        have e41 : ((X[q].toNat : Nat) : Int) = 41 := by simpa using g41
        have e0 : c - 1 ≠ 0 := by simpa using g0
        have hE := HN.out
        rw [e41, show brR 41 = -1 from rfl] at hE
        have hab := HAB.out (c - 1) (by omega)
        have hcc := HC1.out
        refine ⟨⟨q + 1, c - 1, by omega, by omega, by go_num, rfl, ⟨by omega⟩, fun _ => ?_, fun h => by omega, hab.1, hab.2, HB.out⟩, by simp [RowKit.intOf]; omega⟩
        rcases Nat.eq_or_lt_of_le hkq with h | h
        · have := HK.out h.symm; omega
        · have := hcc.1 h; omega
      · rename_i g40 g41
        have e40 : ¬ ((X[q].toNat : Nat) : Int) = 40 := by simpa using g40
        have e41 : ¬ ((X[q].toNat : Nat) : Int) = 41 := by simpa using g41
        have hE := HN.out
        unfold brR at hE
        rw [if_neg e40, if_neg e41] at hE
        have hcc := HC1.out
        refine ⟨⟨q + 1, c, by omega, by omega, by go_num, rfl, ⟨by omega⟩, fun _ => ?_, fun h => by omega, hcl, hch, HB.out⟩, by simp [RowKit.intOf]; omega⟩
        rcases Nat.eq_or_lt_of_le hkq with h | h
        · exact absurd (HK.out h.symm) e40
        · exact hcc.1 h
    · exfalso
      have e : q = X.size := by omega
      have h1 := HC.out
      rw [e, HE.out] at h1
      have := HC1.out.1 (by omega)
      omega
/-- Reading the text without a pair. -/
def Away (l : List Nd) (w : World) (r : Pr (List Nd)) (e : Ending) (w' : World) : Prop :=
  (∃ ao cap l', e = .returned (.tuple #[.slice ao l'.length cap, .int .i64 0, .int .i64 0]) ∧ Rd w' ao cap l' ∧ l' ≠ l ∧ Below w.heap.size w w') ∨ (∃ p er, e = .returned (.tuple #[.slice none 0 0, .int .i64 p, .int .i64 er]) ∧ (er == 0) = false ∧ Below w.heap.size w w')
theorem away_of {l : List Nd} {w : World} {r : Pr (List Nd)} {e : Ending} {w' : World} {s : ByteArray} {pat : Bool} {most : Nat} (hr : psRead s pat most = r) (hne : r ≠ .ok l) (h : ReadP w r e w') : Away l w r e w' := by
  obtain ⟨h1, h2⟩ := h
  cases r with
  | ok l' =>
    obtain ⟨ao, cap, he, hrd⟩ := h1
    exact .inl ⟨ao, cap, l', he, hrd, fun x => hne (by rw [x]), h2⟩
  | bad p er =>
    refine .inr ⟨_, _, h1, ?_, h2⟩
    have : er ≠ 0 := fun x => by subst x; exact nz_read _ _ _ _ hr
    simpa using this
  | out => cases h1

set_option maxRecDepth 20000 in
set_option maxHeartbeats 16000000 in
theorem showLeast_walk (w : World) (ao : Option Addr) (cap : Nat) (l : List Nd) (hT : Tb5 w ∧ Tabs w) (hR : Rd w ao cap l) (hF : FitX l) :
    Calls Tryd.prog 6 #[.slice ao l.length cap] w fun e w' => e = .returned (.bool true) ∧ Below w.heap.size w w' := by
  have hnum : ∀ x ∈ l, num64 x.n := hF.fit5W.num
  have HR : SldW (∀ W, Below w.heap.size w W → Rd W ao cap l) := ⟨fun W hW => hR.below hW hW.size⟩
  have HT : SldW (∀ W, Below w.heap.size w W → Tabs W) := ⟨fun W hW => hT.2.below hW⟩
  have HT5 : SldW (∀ W, Below w.heap.size w W → Tb5 W) := ⟨fun W hW => hT.1.below hW⟩
  have CA : SldW (Calls Tryd.prog 30 #[] w fun e w' => e = .returned (.bool true) ∧ Below w.heap.size w w') := ⟨awake_any hT.1⟩
  obtain ⟨X, hX⟩ : ∃ X, shS betT l = X := ⟨_, rfl⟩
  obtain ⟨E, hE⟩ : ∃ E, shE l = E := ⟨_, rfl⟩
  have CC : SldW (∀ W, Below w.heap.size w W → Calls Tryd.prog 10 #[.slice ao l.length cap] W fun e w' => ∃ ao' cap', e = .returned (.slice ao' l.length cap') ∧ Rd w' ao' cap' l ∧ Below W.heap.size W w') := ⟨fun W hW => copyR (HR.out W hW) hF.fit⟩
  have CS : SldW (∀ W xo xc, Below w.heap.size w W → Rd W xo xc l → Calls Tryd.prog 31 #[.slice xo l.length xc] W fun e w' => e = .returned (.tuple #[.string X, .int .i64 E]) ∧ Below W.heap.size W w') := ⟨fun W xo xc hW h => by
    have := show_any (HT5.out W hW) h hF.fit5W
    rw [hX, hE] at this
    exact this⟩
  have CH : SldW (∀ W, Below w.heap.size w W → Calls Tryd.prog 34 #[.slice ao l.length cap] W fun e w' => ∃ va vc, e = .returned (.slice va (hlsL l).length vc) ∧ Below W.heap.size W w') := ⟨fun W hW => refHoles_any (HR.out W hW) hF.fit.len⟩
  have CM : SldW (∀ W xo xc l', Rd W xo xc l' → l' ≠ l → Below w.heap.size w W → Calls Tryd.prog 14 #[.slice xo l'.length xc, .slice ao l.length cap] W fun e w' => e = .returned (.bool false) ∧ Below W.heap.size W w') := ⟨fun W xo xc l' h hne hW => sameR h (HR.out W hW) false (by simp [hne])⟩
  have CO : SldW (∀ W, Below w.heap.size w W → Calls Tryd.prog 32 #[.slice ao l.length cap] W fun e w' => e = .returned (.bool (okSh l)) ∧ Below W.heap.size W w') := ⟨fun W hW => ref5Sound_any (HR.out W hW) hF.fit⟩
  obtain ⟨hb1, hb2⟩ := hR.bound
  unfold maxLen at hb2
  by_cases hok : okSh l = true
  · have hE0 : E = 0 := by rw [← hE]; unfold shE; rw [if_pos hok]
    have hXF : X = shF betT l := by rw [← hX]; unfold shS; rw [if_pos hok]
    obtain ⟨hsz, hl64, hl16⟩ := show_sz hok hnum
    rw [← hXF] at hsz
    have hzm : X.size ≤ maxLen := by unfold maxLen; omega
    subst hE0
    obtain ⟨HL, hHL⟩ : ∃ n, (hlsL l).length = n := ⟨_, rfl⟩
    obtain ⟨hopE, hopL⟩ := least_close hok hnum
    rw [← hXF] at hopE hopL
    have CL : SldW (∀ W (k : Nat), k < X.size → X.get! k = 40 → Calls Tryd.prog 33 #[.string X, .int .i64 (k : Int)] W fun e w' => ∃ j : Nat, e = .returned (.int .i64 (j : Int)) ∧ (k < j ∧ j < X.size ∧ X.get! j = 41) ∧ Below W.heap.size W w') := ⟨fun W k h1 h2 => closeL_any W X k hsz h1 h2 hopE (hopL k (by omega))⟩
    have CQ : SldW (∀ W (T : ByteArray), T.size ≤ 6500 → Below w.heap.size w W → Calls Tryd.prog 25 #[.string T] W fun e w' => ∃ ao n cap p er, e = .returned (.tuple #[.slice ao n cap, .int .i64 p, .int .i64 er]) ∧ Below W.heap.size W w') := ⟨fun W T hz hW => pattern_some (by unfold maxLen; omega) (HT.out W hW)⟩
    have CP : SldW (HL ≠ 0 → ∀ W (k j : Nat), k < j → j < X.size → X.get! k = 40 → X.get! j = 41 → Below w.heap.size w W → Calls Tryd.prog 25 #[.string (cutB X k j)] W fun e w' => ∃ r, Away l W r e w') := ⟨fun _ W k j h1 h2 h3 h4 hW => (pattern_any W (cutB X k j) (by rw [cut_size h1 h2]; unfold maxLen; omega) (HT.out W hW)).mono fun e w' h => ⟨_, away_of rfl (by rw [hXF] at h2 h3 h4 ⊢; exact least_cut hok hnum true (.inl rfl) h1 h2 h3 h4) h⟩⟩
    have CR : SldW (HL = 0 → ∀ W (k j : Nat), k < j → j < X.size → X.get! k = 40 → X.get! j = 41 → Below w.heap.size w W → Calls Tryd.prog 26 #[.string (cutB X k j)] W fun e w' => ∃ r, Away l W r e w') := ⟨fun h0 W k j h1 h2 h3 h4 hW => (parse_any W (cutB X k j) (by rw [cut_size h1 h2]; unfold maxLen; omega) (HT.out W hW)).mono fun e w' h => ⟨_, away_of rfl (by rw [hXF] at h2 h3 h4 ⊢; exact least_cut hok hnum false (.inr ((hls_zero l).1 (by omega))) h1 h2 h3 h4) h⟩⟩
    rw [hHL] at CH
    clear hXF hHL hopE hopL hl16
    by_cases h4 : X.size ≤ 4096
    · have h4i : ¬ (4096 < (X.size : Int)) := by omega
      by_cases hh : HL = 0
      · have CRR : SldW _ := ⟨CR.out hh⟩
        subst hh
        clear CP CR
        clear hT hR hF hX hE hnum hok
        go_enter Tryd.func6, Tryd.ntmps6
        go_wp2_with fail
        refine CA.out.mono ?_
        rintro e w1 ⟨rfl, hq1⟩
        have HB1 : SldW (Below w.heap.size w w1) := ⟨hq1⟩
        clear hq1
        go_wp2_with fail
        refine (CC.out w1 HB1.out).mono ?_
        rintro e w2 ⟨co, cc, rfl, hR2, hq2⟩
        have HR2 : SldW (Rd w2 co cc l) := ⟨hR2⟩
        have HB2 : SldW (Below w.heap.size w w2) := ⟨HB1.out.trans (hq2.mono HB1.out.size)⟩
        clear hq2 hR2
        go_wp2_with fail
        refine (CS.out w2 co cc HB2.out HR2.out).mono ?_
        rintro e w3 ⟨rfl, hq3⟩
        have HB3 : SldW (Below w.heap.size w w3) := ⟨HB2.out.trans (hq3.mono HB2.out.size)⟩
        clear hq3
        go_wp2_with fail
        go_loopw [5] (fun i wr => ∃ k : Nat, k ≤ X.size ∧ i = .int .i64 k ∧ Below w.heap.size w wr) (fun i _ => X.size - (RowKit.intOf i).toNat)
        case atStart => exact ⟨0, Nat.zero_le _, rfl, HB3.out⟩
        case round =>
          obtain ⟨k, hk, rfl, hbr⟩ := hrel
          have HBR : SldW (Below w.heap.size w wr) := ⟨hbr⟩
          clear hbr
          by_cases hkl : k < X.size
          · have hg := Utf8W.get!_of_lt X k hkl
            by_cases h40 : X.get! k = 40
            · have HCL : SldW _ := ⟨CL.out wr k hkl h40⟩
              have H40 : SldW (X.get! k = 40) := ⟨h40⟩
              have g40 : (((X[k].toNat : Nat) : Int) != 40) = false := by rw [hg] at h40; rw [h40]; rfl
              have g40' : (((X[k].toNat : Nat) : Int) == 40) = true := by rw [hg] at h40; rw [h40]; rfl
              clear hg h40
              go_wp2_with fail
              refine HCL.out.mono ?_
              rintro e w4 ⟨j, rfl, hj, hq4⟩
              have HB4 : SldW (Below w.heap.size w w4) := ⟨HBR.out.trans (hq4.mono HBR.out.size)⟩
              obtain ⟨hkj, hjs, hj41⟩ := hj
              have HJ : SldW (X.get! j = 41) := ⟨hj41⟩
              clear hq4 hj41 HCL
              obtain ⟨A, hA⟩ : ∃ A, X.extract 0 k = A := ⟨_, rfl⟩
              obtain ⟨B, hB⟩ : ∃ B, X.extract (k + 1) j = B := ⟨_, rfl⟩
              obtain ⟨C, hC⟩ : ∃ C, X.extract (j + 1) X.size = C := ⟨_, rfl⟩
              obtain ⟨U, hU⟩ : ∃ U, A ++ B = U := ⟨_, rfl⟩
              obtain ⟨T, hTT⟩ : ∃ T, U ++ C = T := ⟨_, rfl⟩
              have HTT : SldW (cutB X k j = T) := ⟨by rw [← hTT, ← hU, ← hA, ← hB, ← hC]; rfl⟩
              have zA : A.size ≤ 6500 := by rw [← hA, ByteArray.size_extract]; omega
              have zB : B.size ≤ 6500 := by rw [← hB, ByteArray.size_extract]; omega
              have zC : C.size ≤ 6500 := by rw [← hC, ByteArray.size_extract]; omega
              have zU : U.size = A.size + B.size := by rw [← hU, apz]
              have zT : T.size ≤ 6500 := by rw [← HTT.out, cut_size hkj hjs]; omega
              have a1 : ∀ V, (Op.stringOp .add A B).run Tryd.prog V = .ok (.string U) V := fun V => by rw [add_ok A B (by omega) V, hU]
              have a2 : ∀ V, (Op.stringOp .add U C).run Tryd.prog V = .ok (.string T) V := fun V => by rw [add_ok U C (by omega) V, hTT]
              have hj0 : ¬ ((j : Int) < 0) := by omega
              have hkI : (k : Int) + 1 ≤ (j : Int) := by omega
              have hjI : (j : Int) + 1 ≤ (X.size : Int) := by omega
              have hkI2 : (k : Int) ≤ (X.size : Int) := by omega
              clear hU hTT zU
              have HBQ : SldW (∀ n, Below w.heap.size w (w4.drewN n)) := ⟨fun n => below_drewN' HB4.out n⟩
              go_wp2_with fail
              go_quiet (fail)
              obtain ⟨wq, hwq⟩ : ∃ wq, w4.drewN nq = wq := ⟨_, rfl⟩
              have HB5 : SldW (Below w.heap.size w wq) := ⟨by rw [← hwq]; exact HBQ.out nq⟩
              rw [hwq]
              clear hwq HBQ
              go_wp2_with fail
              refine (CQ.out wq T zT HB5.out).mono ?_
              rintro e w5 ⟨yo, yn, yc, yp, ye, rfl, hq⟩
              have HB6 : SldW (Below w.heap.size w w5) := ⟨HB5.out.trans (hq.mono HB5.out.size)⟩
              clear hq
              go_wp2_with fail
              refine (CH.out w5 HB6.out).mono ?_
              rintro e w6 ⟨va, vc, rfl, hq⟩
              have HBZ : SldW (Below w.heap.size w w6) := ⟨HB6.out.trans (hq.mono HB6.out.size)⟩
              have CRT : SldW (Calls Tryd.prog 26 #[.string T] w6 fun e w' => ∃ r, Away l w6 r e w') := ⟨by rw [← HTT.out]; exact CRR.out w6 k j hkj hjs H40.out HJ.out HBZ.out⟩
              clear hq
              go_wp2_with fail
              refine CRT.out.mono ?_
              rintro e w7 ⟨r, haw⟩
              rcases haw with ⟨xo, xc, l', rfl, hxr, hne, hq⟩ | ⟨xp, xe, rfl, hxe, hq⟩
              · have HB7 : SldW (Below w.heap.size w w7) := ⟨HBZ.out.trans (hq.mono HBZ.out.size)⟩
                have HSM : SldW _ := ⟨CM.out w7 xo xc l' hxr hne HB7.out⟩
                clear hq hxr hne
                go_wp2_with fail
                refine HSM.out.mono ?_
                rintro e w8 ⟨rfl, hq⟩
                have HB8 : SldW (Below w.heap.size w w8) := ⟨HB7.out.trans (hq.mono HB7.out.size)⟩
                clear hq
                go_wp2_with fail
                exact ⟨⟨k + 1, by omega, by go_num, HB8.out⟩, by simp [RowKit.intOf]; omega⟩
              · have HB7 : SldW (Below w.heap.size w w7) := ⟨HBZ.out.trans (hq.mono HBZ.out.size)⟩
                clear hq
                go_wp2_with fail
                exact ⟨⟨k + 1, by omega, by go_num, HB7.out⟩, by simp [RowKit.intOf]; omega⟩
            · have g40 : (((X[k].toNat : Nat) : Int) != 40) = true := by
                rw [hg] at h40
                have : ¬ (((X[k].toNat : Nat) : Int) = 40) := fun x => h40 (by apply UInt8.toNat_inj.1; show X[k].toNat = 40; omega)
                simpa using this
              clear hg h40
              go_wp2_with fail
              exact ⟨⟨k + 1, by omega, by go_num, HBR.out⟩, by simp [RowKit.intOf]; omega⟩
          · go_wp2_with fail
            go_ret
            exact ⟨rfl, HBR.out⟩
      · have CRR : SldW _ := ⟨CP.out hh⟩
        have hh0 : (HL == 0) = false := by simpa using hh
        have hhI : ((HL : Int) == 0) = false := by simp; omega
        clear CP CR
        clear hT hR hF hX hE hnum hok
        go_enter Tryd.func6, Tryd.ntmps6
        go_wp2_with fail
        refine CA.out.mono ?_
        rintro e w1 ⟨rfl, hq1⟩
        have HB1 : SldW (Below w.heap.size w w1) := ⟨hq1⟩
        clear hq1
        go_wp2_with fail
        refine (CC.out w1 HB1.out).mono ?_
        rintro e w2 ⟨co, cc, rfl, hR2, hq2⟩
        have HR2 : SldW (Rd w2 co cc l) := ⟨hR2⟩
        have HB2 : SldW (Below w.heap.size w w2) := ⟨HB1.out.trans (hq2.mono HB1.out.size)⟩
        clear hq2 hR2
        go_wp2_with fail
        refine (CS.out w2 co cc HB2.out HR2.out).mono ?_
        rintro e w3 ⟨rfl, hq3⟩
        have HB3 : SldW (Below w.heap.size w w3) := ⟨HB2.out.trans (hq3.mono HB2.out.size)⟩
        clear hq3
        go_wp2_with fail
        go_loopw [5] (fun i wr => ∃ k : Nat, k ≤ X.size ∧ i = .int .i64 k ∧ Below w.heap.size w wr) (fun i _ => X.size - (RowKit.intOf i).toNat)
        case atStart => exact ⟨0, Nat.zero_le _, rfl, HB3.out⟩
        case round =>
          obtain ⟨k, hk, rfl, hbr⟩ := hrel
          have HBR : SldW (Below w.heap.size w wr) := ⟨hbr⟩
          clear hbr
          by_cases hkl : k < X.size
          · have hg := Utf8W.get!_of_lt X k hkl
            by_cases h40 : X.get! k = 40
            · have HCL : SldW _ := ⟨CL.out wr k hkl h40⟩
              have H40 : SldW (X.get! k = 40) := ⟨h40⟩
              have g40 : (((X[k].toNat : Nat) : Int) != 40) = false := by rw [hg] at h40; rw [h40]; rfl
              have g40' : (((X[k].toNat : Nat) : Int) == 40) = true := by rw [hg] at h40; rw [h40]; rfl
              clear hg h40
              go_wp2_with fail
              refine HCL.out.mono ?_
              rintro e w4 ⟨j, rfl, hj, hq4⟩
              have HB4 : SldW (Below w.heap.size w w4) := ⟨HBR.out.trans (hq4.mono HBR.out.size)⟩
              obtain ⟨hkj, hjs, hj41⟩ := hj
              have HJ : SldW (X.get! j = 41) := ⟨hj41⟩
              clear hq4 hj41 HCL
              obtain ⟨A, hA⟩ : ∃ A, X.extract 0 k = A := ⟨_, rfl⟩
              obtain ⟨B, hB⟩ : ∃ B, X.extract (k + 1) j = B := ⟨_, rfl⟩
              obtain ⟨C, hC⟩ : ∃ C, X.extract (j + 1) X.size = C := ⟨_, rfl⟩
              obtain ⟨U, hU⟩ : ∃ U, A ++ B = U := ⟨_, rfl⟩
              obtain ⟨T, hTT⟩ : ∃ T, U ++ C = T := ⟨_, rfl⟩
              have HTT : SldW (cutB X k j = T) := ⟨by rw [← hTT, ← hU, ← hA, ← hB, ← hC]; rfl⟩
              have zA : A.size ≤ 6500 := by rw [← hA, ByteArray.size_extract]; omega
              have zB : B.size ≤ 6500 := by rw [← hB, ByteArray.size_extract]; omega
              have zC : C.size ≤ 6500 := by rw [← hC, ByteArray.size_extract]; omega
              have zU : U.size = A.size + B.size := by rw [← hU, apz]
              have zT : T.size ≤ 6500 := by rw [← HTT.out, cut_size hkj hjs]; omega
              have a1 : ∀ V, (Op.stringOp .add A B).run Tryd.prog V = .ok (.string U) V := fun V => by rw [add_ok A B (by omega) V, hU]
              have a2 : ∀ V, (Op.stringOp .add U C).run Tryd.prog V = .ok (.string T) V := fun V => by rw [add_ok U C (by omega) V, hTT]
              have hj0 : ¬ ((j : Int) < 0) := by omega
              have hkI : (k : Int) + 1 ≤ (j : Int) := by omega
              have hjI : (j : Int) + 1 ≤ (X.size : Int) := by omega
              have hkI2 : (k : Int) ≤ (X.size : Int) := by omega
              clear hU hTT zU
              have HBQ : SldW (∀ n, Below w.heap.size w (w4.drewN n)) := ⟨fun n => below_drewN' HB4.out n⟩
              go_wp2_with fail
              go_quiet (fail)
              obtain ⟨wq, hwq⟩ : ∃ wq, w4.drewN nq = wq := ⟨_, rfl⟩
              have HB5 : SldW (Below w.heap.size w wq) := ⟨by rw [← hwq]; exact HBQ.out nq⟩
              rw [hwq]
              clear hwq HBQ
              go_wp2_with fail
              have CRT : SldW (Calls Tryd.prog 25 #[.string T] wq fun e w' => ∃ r, Away l wq r e w') := ⟨by rw [← HTT.out]; exact CRR.out wq k j hkj hjs H40.out HJ.out HB5.out⟩
              refine CRT.out.mono ?_
              rintro e w6 ⟨r, haw⟩
              rcases haw with ⟨xo, xc, l', rfl, hxr, hne, hq⟩ | ⟨xp, xe, rfl, hxe, hq⟩
              · have HB6 : SldW (Below w.heap.size w w6) := ⟨HB5.out.trans (hq.mono HB5.out.size)⟩
                have HXR : SldW (Rd w6 xo xc l' ∧ l' ≠ l) := ⟨hxr, hne⟩
                clear hq hxr hne
                go_wp2_with fail
                refine (CH.out w6 HB6.out).mono ?_
                rintro e w7 ⟨va, vc, rfl, hq⟩
                have HB7 : SldW (Below w.heap.size w w7) := ⟨HB6.out.trans (hq.mono HB6.out.size)⟩
                have HSM : SldW _ := ⟨CM.out w7 xo xc l' (HXR.out.1.below hq hq.size) HXR.out.2 HB7.out⟩
                clear hq
                go_wp2_with fail
                refine HSM.out.mono ?_
                rintro e w8 ⟨rfl, hq⟩
                have HB8 : SldW (Below w.heap.size w w8) := ⟨HB7.out.trans (hq.mono HB7.out.size)⟩
                clear hq
                go_wp2_with fail
                exact ⟨⟨k + 1, by omega, by go_num, HB8.out⟩, by simp [RowKit.intOf]; omega⟩
              · have HB6 : SldW (Below w.heap.size w w6) := ⟨HB5.out.trans (hq.mono HB5.out.size)⟩
                clear hq
                go_wp2_with fail
                refine (CH.out w6 HB6.out).mono ?_
                rintro e w7 ⟨va, vc, rfl, hq⟩
                have HB7 : SldW (Below w.heap.size w w7) := ⟨HB6.out.trans (hq.mono HB6.out.size)⟩
                clear hq
                go_wp2_with fail
                exact ⟨⟨k + 1, by omega, by go_num, HB7.out⟩, by simp [RowKit.intOf]; omega⟩
            · have g40 : (((X[k].toNat : Nat) : Int) != 40) = true := by
                rw [hg] at h40
                have : ¬ (((X[k].toNat : Nat) : Int) = 40) := fun x => h40 (by apply UInt8.toNat_inj.1; show X[k].toNat = 40; omega)
                simpa using this
              clear hg h40
              go_wp2_with fail
              exact ⟨⟨k + 1, by omega, by go_num, HBR.out⟩, by simp [RowKit.intOf]; omega⟩
          · go_wp2_with fail
            go_ret
            exact ⟨rfl, HBR.out⟩
    · have h4i : (4096 : Int) < (X.size : Int) := by omega
      clear CP CR
      clear hT hR hF hX hE hnum hok
      go_enter Tryd.func6, Tryd.ntmps6
      go_wp2_with fail
      refine CA.out.mono ?_
      rintro e w1 ⟨rfl, hq1⟩
      have HB1 : SldW (Below w.heap.size w w1) := ⟨hq1⟩
      clear hq1
      go_wp2_with fail
      refine (CC.out w1 HB1.out).mono ?_
      rintro e w2 ⟨co, cc, rfl, hR2, hq2⟩
      have HR2 : SldW (Rd w2 co cc l) := ⟨hR2⟩
      have HB2 : SldW (Below w.heap.size w w2) := ⟨HB1.out.trans (hq2.mono HB1.out.size)⟩
      clear hq2 hR2
      go_wp2_with fail
      refine (CS.out w2 co cc HB2.out HR2.out).mono ?_
      rintro e w3 ⟨rfl, hq3⟩
      have HB3 : SldW (Below w.heap.size w w3) := ⟨HB2.out.trans (hq3.mono HB2.out.size)⟩
      clear hq3
      go_wp2_with fail
      go_ret
      exact ⟨rfl, HB3.out⟩
  · have hE1 : E = 1 := by rw [← hE]; unfold shE; rw [if_neg hok]
    have hoF : okSh l = false := by simpa using hok
    rw [hoF] at CO
    subst hE1
    clear hoF
    clear hT hR hF hX hE hnum hok
    go_enter Tryd.func6, Tryd.ntmps6
    go_wp2_with fail
    refine CA.out.mono ?_
    rintro e w1 ⟨rfl, hq1⟩
    have HB1 : SldW (Below w.heap.size w w1) := ⟨hq1⟩
    clear hq1
    go_wp2_with fail
    refine (CC.out w1 HB1.out).mono ?_
    rintro e w2 ⟨co, cc, rfl, hR2, hq2⟩
    have HR2 : SldW (Rd w2 co cc l) := ⟨hR2⟩
    have HB2 : SldW (Below w.heap.size w w2) := ⟨HB1.out.trans (hq2.mono HB1.out.size)⟩
    clear hq2 hR2
    go_wp2_with fail
    refine (CS.out w2 co cc HB2.out HR2.out).mono ?_
    rintro e w3 ⟨rfl, hq3⟩
    have HB3 : SldW (Below w.heap.size w w3) := ⟨HB2.out.trans (hq3.mono HB2.out.size)⟩
    clear hq3
    go_wp2_with fail
    refine (CO.out w3 HB3.out).mono ?_
    rintro e w4 ⟨rfl, hq4⟩
    have HB4 : SldW (Below w.heap.size w w4) := ⟨HB3.out.trans (hq4.mono HB3.out.size)⟩
    clear hq4
    go_wp2_with fail
    go_ret
    exact ⟨rfl, HB4.out⟩
end Go.Proofs.YtjmccobblpcbhaaDoor

set_option linter.unusedVariables false
namespace Go.Proofs.YtjmccobblpcbhaaDoor.showleast
open Go.ChangeShapes Go.WideShapes Go.ChangeAt Go.RowKit Go.WideMaps Go.WideElems
open Go.ChangeMaps (open_string shut_string)

set_option maxRecDepth 100000 in
set_option maxHeartbeats 1000000 in
theorem contract (H : Type) (enc : TypeId × Value → H) (W : World) (base : Nat) (args : Array Value) (ds gs : List (DataW H)) (before : List MemPlace)
    (hval : ∀ (j : Nat) t v, Tryd.f6.params[j]? = some t → args[j]? = some v → Value.okWide Tryd.prog W .any base t v)
    (hW : DataW.Whole enc Tryd.prog Tryd.f6.params.toList Rows.showLeastSpec.vars false W args.toList ds gs before)
    (hsz : (DataW.weightsEach Tryd.prog (Tryd.f6.params.toList ++ (OpenSpec.ofChange Rows.showLeastSpec).bare.plain.varTypes Tryd.prog) (ds ++ gs)).all (· ≤ reachBytes) = true)
    (hL : laidMetH Tryd.prog Rows.showLeastRow.laid W) :
    Calls Tryd.prog 6 args W fun e W' => ∃ v, e = .returned v ∧ Rows.showLeastSpec.post enc Tryd.prog Tryd.f6 false true false false W args v W' := by
  have hW' := hW
  have hlt : ∀ x ∈ before, x.block < W.heap.size := fun x hx => by simpa using hW'.lt x hx
  obtain ⟨p, q, hA0, hV, rfl, hfz, hnd⟩ := hW
  have hA : DataW.TrodAll enc Tryd.prog W 0 (fun _ => true) true Tryd.f6.params.toList args.toList ds p := hA0
  rw [Tryd.params6 ] at hA hval
  obtain ⟨v0, vs0, d0, ds0, p0, q0, hargs0, rfl, rfl, h0, r0⟩ := trodAll_cons hA
  obtain ⟨rfl, rfl, rfl⟩ := trodAll_nil r0
  obtain rfl : args = #[v0] := by cases args; simp_all
  obtain ⟨rfl, rfl⟩ := trodVars_none hV
  clear hA0
  simp only [List.append_nil] at hW' hsz
  have h0k := h0
  have ok0 : Value.okWide Tryd.prog W .any base 22 v0 := hval 0 22 v0 (by rfl) (by rfl)
  obtain ⟨a0, n0, c0, rfl⟩ := okWide_slice Tryd.underlying22 ok0
  obtain ⟨fu0, hf0⟩ := h0
  obtain ⟨ao0, cap0, l0, he0, R0, hF0⟩ := open_nodesX (v := .slice a0 n0 c0) hf0
  cases he0
  have F0 := hF0 fun n hn => of_decide_eq_true (List.all_eq_true.1 hsz n (DataW.weights_mem_each (j := 0) (t := 22) (by kernel_rfl) rfl n hn))
  refine (showLeast_walk W a0 c0 l0 (tb7_of_laid hL)  R0  F0).mono fun e W' ⟨he, hg⟩ => ?_
  subst he
  exact ⟨_, rfl, post_below (pv := []) hW' (fun _ _ _ => trodAll_cons_mk (shut_bool Tryd.underlying4 _) trodAll_mk0) (fun sp hsp => trodAll_cons_mk (Trod_stays Tryd.laidOut (by kernel_rfl) (of_decide_eq_true (by kernel_rfl)) h0k (fun x hx => hg.same (hlt x (by simp [hx]))) (fun x hx => hsp x (by simp [hx]))) trodAll_mk0) (fun _ _ => rfl) (by simp) (hg.frame _)⟩

end Go.Proofs.YtjmccobblpcbhaaDoor.showleast
