/-
  SpX.
-/
import Derived.Test.YtjmccobblpcbhaaDoorChecked
import GoSem.PinnedTables
import GoSem.Claim
import GoSem.ClaimJoined
import GoSem.ClaimMapViews
import Derived.JoinedTies
import Derived.KernelRfl
import Derived.Shelf.Unicode.DecodeSlow
import Derived.Laws.RangeAny
import Derived.Shelf.Strings.Builder1
import Derived.Shelf.Small.Utf8
import Derived.Shelf.Small.Bits
import Derived.Shelf.Strings.BuilderF
import Derived.Shelf.Strings.BuilderK
import Derived.Shelf.Strings.BuilderRune
import Derived.Shelf.Utf8.AppendRune
import Derived.Shelf.Strconv.Itoa0
import Derived.Shelf.Strconv.Itoa1
import Derived.Shelf.LaysM
import Derived.Shelf.Strconv.Itoa2
import Derived.Shelf.Strconv.Itoa3
import Derived.Shelf.Strconv.Itoa4
import Derived.Shelf.Strings.Prefix
import Derived.Shelf.Unicode.DecodeAny
import Derived.Test.YtjmccobblpcbhaaDoorProg
import Derived.WalkKit
import Derived.Deep.DeepFit
import Derived.Lib.OthersKept
import Derived.Lib.RuneCountTail
import Derived.Lib.LaidU8
import Derived.MakeChecks
import Derived.ProofKit
import Derived.OpenShut
import Derived.Deep.DeepHandedRow
import Derived.Lib.Small
import Derived.Lib.Strings
import Derived.Lib.MapLaws
import Derived.Deep.AppendLies
import Derived.Deep.OwnRows
import Derived.Laws.AppendOwnNone
import Derived.Deep.QuietTactic
import Derived.BigQuiet
import Derived.Deep.RegionWith
import Derived.Laws.DeepStrings4
import Derived.Deep.RegionHeld3
import Derived.Laws.ResultCell
import Derived.Lib.QuietBelow
import Derived.Deep.Heap
import Derived.Laws.Rows
import Derived.Below
import Derived.StillTail
import Derived.Deep.RegionLaw
import Derived.Laws.OwnMore
import Derived.Sort.Walk0
import Derived.Lib.ItoaNum
import Derived.Maps.OwnSet
import Derived.StringKeys
import Derived.BigCall
import Derived.Lib.LaidTab
import Derived.Deep.Slices
import Derived.Laws.IdiomStrings
import Derived.SizedLaws
import Derived.Laws.Cover4
import Derived.Test.YtjmccobblpcbhaaDoorRows
import Derived.Test.YtjmccobblpcbhaaDoorP01
import Derived.Test.YtjmccobblpcbhaaDoorP02
import Derived.Test.YtjmccobblpcbhaaDoorP03
import Derived.Test.YtjmccobblpcbhaaDoorP04
import Derived.Test.YtjmccobblpcbhaaDoorP05
import Derived.Test.YtjmccobblpcbhaaDoorP06
import Derived.Test.YtjmccobblpcbhaaDoorP07
import Derived.Test.YtjmccobblpcbhaaDoorP08
import Derived.Test.YtjmccobblpcbhaaDoorP09
import Derived.Test.YtjmccobblpcbhaaDoorP10
import Derived.Test.YtjmccobblpcbhaaDoorP11
import Derived.Test.YtjmccobblpcbhaaDoorP12
import Derived.Test.YtjmccobblpcbhaaDoorP13
import Derived.Test.YtjmccobblpcbhaaDoorP14
import Derived.Test.YtjmccobblpcbhaaDoorP15
import Derived.Test.YtjmccobblpcbhaaDoorP16
import Derived.Test.YtjmccobblpcbhaaDoorP17
import Derived.Test.YtjmccobblpcbhaaDoorP18
import Derived.Test.YtjmccobblpcbhaaDoorP19
import Derived.Test.YtjmccobblpcbhaaDoorP20
import Derived.Test.YtjmccobblpcbhaaDoorP21
import Derived.Test.YtjmccobblpcbhaaDoorP22
import Derived.Test.YtjmccobblpcbhaaDoorP23
import Derived.Test.YtjmccobblpcbhaaDoorP24
import Derived.Test.YtjmccobblpcbhaaDoorP25
import Derived.Test.YtjmccobblpcbhaaDoorP26
import Derived.Test.YtjmccobblpcbhaaDoorP27
import Derived.Test.YtjmccobblpcbhaaDoorP28
import Derived.Test.YtjmccobblpcbhaaDoorP29
import Derived.Test.YtjmccobblpcbhaaDoorP30
import Derived.Test.YtjmccobblpcbhaaDoorP31
import Derived.Test.YtjmccobblpcbhaaDoorP32
import Derived.Test.YtjmccobblpcbhaaDoorP33
import Derived.Test.YtjmccobblpcbhaaDoorP34
import Derived.Test.YtjmccobblpcbhaaDoorP35
import Derived.Test.YtjmccobblpcbhaaDoorP36
set_option linter.unusedSimpArgs false
set_option linter.unusedVariables false
namespace Go.Proofs.YtjmccobblpcbhaaDoor
open Go.RowKit Go.Lib

/-- A list of bytes, read. -/
structure Rg8 (w : World) (ao : Option Addr) (cap : Nat) (l : List Int) : Prop where
  le : l.length ≤ cap
  mx : cap ≤ maxLen
  nil : ao = none → l.length = 0 ∧ cap = 0
  cells : l = [] ∨ ∃ b o, ao = some ⟨b, o, none⟩ ∧ b < w.heap.size ∧ ∀ j x, l[j]? = some x → w.cell? ⟨b, o + j, none⟩ = some (.int .u8 x)
  num : ∀ x ∈ l, 0 ≤ x ∧ x < 256
theorem Rg8.below {w w' : World} {ao : Option Addr} {cap : Nat} {l : List Int} (h : Rg8 w ao cap l) (hb : Below w.heap.size w w') : Rg8 w' ao cap l := by
  refine ⟨h.le, h.mx, h.nil, ?_, h.num⟩
  rcases h.cells with h | ⟨b, o, h1, h2, h3⟩
  · exact .inl h
  · exact .inr ⟨b, o, h1, Nat.lt_of_lt_of_le h2 hb.size, fun j x hx => (hb.cell (p := ⟨b, o + j, none⟩) h2).trans (h3 j x hx)⟩
theorem sp_big {s : ByteArray} {p : Nat} {o U : ByteArray} (h1 : o.size ≤ 4 * p) (h2 : p ≤ s.size) (h3 : s.size ≤ 6500) (h4 : U.size ≤ 30000) : o.size + U.size ≤ 9223372036854775807 := by omega
theorem sg1_ne {c : UInt8} (h : sg1 c ∨ c = 64) : c ≠ 61 ∧ c ≠ 62 ∧ c ≠ 32 ∧ (c.toNat < 48 ∨ 57 < c.toNat) ∧ kd (c.toNat : Int) ≠ 1 ∧ c.toNat < 128 := by
  unfold sg1 at h
  rcases h with (rfl | rfl | rfl | rfl | rfl | rfl | rfl | rfl | rfl | rfl | rfl | rfl | rfl | rfl) | rfl <;> decide +kernel
theorem ot1_len (c : UInt8) (k : Nat) : 1 ≤ (ot1 c k).length ∧ (ot1 c k).length ≤ 3 := by
  unfold ot1
  repeat' split
  all_goals simp
theorem ot2_len (c : UInt8) (k : Nat) : 2 ≤ (ot2 c k).length ∧ (ot2 c k).length ≤ 3 := by
  unfold ot2
  repeat' split
  all_goals simp
theorem Pre.at1 {s out : ByteArray} {pat : Bool} {i : Nat} (k : Nat) (h : Pre s pat i out) (hp : i < s.size) (hc : s.get! i = 64) (ht : pat = true) : Pre s pat (i + 1) (out ++ txt (ot1 64 k)) := by
  have e : ot1 64 k = [64] := by unfold ot1; split <;> rfl
  rw [e]
  exact h.at_ hp hc ht
theorem kd1_low : ∀ b : Fin 128, kd ((b.1 : Nat) : Int) = 1 → 65 ≤ b.1 := by decide +kernel
theorem kd1_first {s : ByteArray} {p : Nat} (h : kd (Utf8.decode s p).1 = 1) : 65 ≤ (s.get! p).toNat ∧ bad s p = false := by
  constructor
  · by_cases hl : (s.get! p).toNat < 128
    · rw [dlow s p hl] at h
      exact kd1_low ⟨_, hl⟩ h
    · omega
  · unfold bad
    by_cases he : (Utf8.decode s p).1 = 65533
    · rw [he] at h
      exact absurd h (by decide +kernel)
    · simp [he]
theorem bkT_len (k : Nat) : 1 ≤ (bkT k).length ∧ (bkT k).length ≤ 4 := by
  unfold bkT
  repeat' split
  all_goals simp

set_option maxRecDepth 20000 in
set_option maxHeartbeats 80000000 in
theorem spelled_any (s : ByteArray) (pat : Bool) (hs : s.size ≤ 6500) (hT : Toks s pat 0) (to : Option Addr) (tcap : Nat) (ts : List Int) (w : World) (hR : Rg8 w to tcap ts) :
    Calls Tryd.prog 24 #[.string s, .slice to ts.length tcap] w fun e w' => ∃ x, e = .returned (.string x) ∧ Sm s x pat 0 0 ∧ x.size ≤ 26000 ∧ s.size ≤ x.size ∧ Below w.heap.size w w' := by
  have hs0 : s.size ≤ maxLen := by unfold maxLen; omega
  obtain ⟨hle, hmx⟩ := And.intro hR.le hR.mx
  unfold maxLen at hmx
  have HTN : Box' (∀ nn : Nat, ts ≠ [] → ∃ b o t, to = some ⟨b, o, none⟩ ∧ (nn % ts.length < ts.length) ∧ 0 ≤ t ∧ t < 256 ∧ ∀ W', Below w.heap.size w W' → W'.cell? ⟨b, o + nn % ts.length, none⟩ = some (.int .u8 t)) := ⟨fun nn hne => by
    rcases hR.cells with h | ⟨b, o, h1, h2, h3⟩
    · exact absurd h hne
    · have hl : 0 < ts.length := List.length_pos_iff.2 hne
      have hm := Nat.mod_lt nn hl
      have hg : ts[nn % ts.length]? = some (ts[nn % ts.length]) := List.getElem?_eq_getElem hm
      obtain ⟨g1, g2⟩ := hR.num _ (List.getElem_mem hm)
      exact ⟨b, o, _, h1, hm, g1, g2, fun W' hW => (hW.cell (p := ⟨b, o + nn % ts.length, none⟩) h2).trans (h3 _ _ hg)⟩⟩
  have HT : Box' (Toks s pat 0) := ⟨hT⟩
  clear hT hR
  go_enter Tryd.func24, Tryd.ntmps24
  go_wp2_with fail
  go_loopw [5, 6, 7] (fun ov nv iv wr => ∃ (p nn : Nat) (o : ByteArray), p ≤ s.size ∧ nn ≤ p ∧ iv = .int .i64 p ∧ nv = .int .i64 nn ∧ ov = .string o ∧ Box' (Toks s pat p) ∧ Box' (Pre s pat p o) ∧ o.size ≤ 4 * p ∧ p ≤ o.size ∧ Below w.heap.size w wr) (fun _ _ iv _ => s.size - (RowKit.intOf iv).toNat)
  case atStart => exact ⟨0, 0, ⟨#[]⟩, by omega, by omega, rfl, rfl, rfl, HT, ⟨Pre.nil s pat⟩, Nat.le_refl _, Nat.zero_le _, Below.refl _ _⟩
  case round =>
    obtain ⟨p, nn, o, hp, hnn, rfl, rfl, rfl, HTK, HPR, hoz, hoy, hbr⟩ := hrel
    have HBR : Box' (Below w.heap.size w wr) := ⟨hbr⟩
    clear hbr
    by_cases hlt : p < s.size
    · have hltI : (p : Int) < (s.size : Int) := by omega
      have hpI : (p : Int) ≤ 6500 := by omega
      have hnI : (nn : Int) ≤ 6500 := by omega
      have HTK2 := HTK.out
      cases HTK2 with
      | fin => exact absurd hlt (Nat.lt_irrefl _)
      | bl h1 hc next =>
        as_aux_lemma =>
          obtain ⟨X, Nx, Y, F⟩ := fs_mk hlt (glow s p (by rw [hc]; decide)) (W := 1) (by rw [dlow s p (by rw [hc]; decide)])
          rw [hc] at F
          have HNX : Box' (Toks s pat (p + 1)) := ⟨next⟩
          have HC : Box' (s.get! p = 32) := ⟨hc⟩
          have cW : Box' (∀ V, Calls Tryd.prog 54 #[.string s, .int .i64 (p : Int)] V fun e w' => e = .returned (.int .i64 ((1 : Nat) : Int)) ∧ Below V.heap.size V w') := ⟨fun V => by have := refWidth_in s p V hlt hs0; rw [F.wd] at this; exact this⟩
          have hext := F.ext
          have hadd : ∀ V, (Op.stringOp .add X Nx).run Tryd.prog V = .ok (.string Y) V := fun V => by rw [add_ok X Nx (by have := F.szx; have := F.szn; have := F.w4; omega) V, F.add]
          have q60 : (Y.toList == [60, 60]) = false := eq_no F.hy (by decide) _
          have q62 : (Y.toList == [62, 62]) = false := eq_no F.hy (by decide) _
          have q61 : (Y.toList == [61, 61]) = false := eq_no F.hy (by decide) _
          have hge : ∀ V, (binOp .geq 9 (.string X) (.string ⟨#[48]⟩)).run Tryd.prog V = .ok (.bool false) V := fun V => by rw [geq_run, ge_low F.hx (by decide)]
          have cR : Box' (∀ V, Calls Tryd.prog 58 #[.string s, .int .i64 (p : Int)] V fun e w' => e = .returned (.int .i32 (rn s p)) ∧ Below V.heap.size V w') := ⟨fun V => refRune_any s p V hs0 hp⟩
          have cK : Box' (∀ V, Calls Tryd.prog 57 #[.int .i32 (rn s p)] V fun e w' => e = .returned (.int .i64 (kd (Utf8.decode s p).1)) ∧ Below V.heap.size V w') := ⟨fun V => by have := refKind_kd (rn s p) V; rw [kd_rn s p hlt] at this; exact this⟩
          have hK3 : kd (Utf8.decode s p).1 = 3 := by rw [dlow s p (by rw [hc]; decide), hc]; exact em_on.2.2.2.2.2
          rw [hK3] at cK
          clear hK3 hc next
          have HX : Box' (X = txt [32]) := ⟨F.one rfl⟩
          have hx32 : (X.toList == [32]) = true := by rw [HX.out, toList_data]; rfl
          generalize rn s p = rr at *
          have hao0 : ∀ V, (Op.stringOp .add o ⟨#[32]⟩).run Tryd.prog V = .ok (.string (o ++ ⟨#[32]⟩)) V := fun V => add_ok o ⟨#[32]⟩ (sp_big hoz hp hs (by decide)) V
          have hao1 : ∀ V, (Op.stringOp .add o ⟨#[9, 227, 128, 128]⟩).run Tryd.prog V = .ok (.string (o ++ ⟨#[9, 227, 128, 128]⟩)) V := fun V => add_ok o ⟨#[9, 227, 128, 128]⟩ (sp_big hoz hp hs (by decide)) V
          have hao2 : ∀ V, (Op.stringOp .add o ⟨#[10, 194, 160, 32]⟩).run Tryd.prog V = .ok (.string (o ++ ⟨#[10, 194, 160, 32]⟩)) V := fun V => add_ok o ⟨#[10, 194, 160, 32]⟩ (sp_big hoz hp hs (by decide)) V
          rcases F.nx with ⟨hn1, hn2⟩ | ⟨hn1, hn2⟩
          · have hnI : (p : Int) + (1 : Int) < (s.size : Int) := by omega
            have hle1 : (p : Int) + (1 : Int) ≤ (s.size : Int) := by omega
            by_cases hts : ts = []
            · have hl0 : ¬ (0 < (ts.length : Int)) := by rw [hts]; simp
              have hl0d : decide (0 < ts.length) = false := by rw [hts]; rfl
              clear hts
              go_wp2_with fail
              refine (cW.out _).mono ?_
              rintro e w2 ⟨rfl, hb2⟩
              have HB2 : Box' (Below w.heap.size w w2) := ⟨HBR.out.trans (hb2.mono HBR.out.size)⟩
              clear hb2
              go_wp2_with fail
              refine (cR.out _).mono ?_
              rintro e w3 ⟨rfl, hb3⟩
              have HB3 : Box' (Below w.heap.size w w3) := ⟨HB2.out.trans (hb3.mono HB2.out.size)⟩
              clear hb3
              go_wp2_with fail
              refine (cK.out _).mono ?_
              rintro e w4 ⟨rfl, hb4⟩
              have HB4 : Box' (Below w.heap.size w w4) := ⟨HB3.out.trans (hb4.mono HB3.out.size)⟩
              clear hb4
              go_wp2_with fail
              exact ⟨⟨p + 1, nn + 1, o ++ txt (bkT 0), by omega, by omega, by go_num, by go_num, rfl, HNX, ⟨HPR.out.bl 0 hlt HC.out⟩, by rw [apz]; have := bkT_len 0; rw [txt_size]; omega, by rw [apz]; have := bkT_len 0; rw [txt_size]; omega, HB4.out.alloc HB4.out.size _⟩, by simp [RowKit.intOf]; omega⟩
            · obtain ⟨tb, tq, t, hto, hmod, ht0, ht1, htc⟩ := HTN.out nn hts
              have hlp : 0 < ts.length := List.length_pos_iff.2 hts
              have HTC : Box' _ := ⟨htc⟩
              subst hto
              clear hts htc
              obtain hk | hk | hk : t % 3 = 0 ∨ t % 3 = 1 ∨ t % 3 = 2 := by omega
              · go_wp2_with fail
                refine (cW.out _).mono ?_
                rintro e w2 ⟨rfl, hb2⟩
                have HB2 : Box' (Below w.heap.size w w2) := ⟨HBR.out.trans (hb2.mono HBR.out.size)⟩
                clear hb2
                have htc2 := HTC.out w2 HB2.out
                go_wp2_with fail
                refine (cR.out _).mono ?_
                rintro e w3 ⟨rfl, hb3⟩
                have HB3 : Box' (Below w.heap.size w w3) := ⟨HB2.out.trans (hb3.mono HB2.out.size)⟩
                clear hb3
                go_wp2_with fail
                refine (cK.out _).mono ?_
                rintro e w4 ⟨rfl, hb4⟩
                have HB4 : Box' (Below w.heap.size w w4) := ⟨HB3.out.trans (hb4.mono HB3.out.size)⟩
                clear hb4
                go_wp2_with fail
                exact ⟨⟨p + 1, nn + 1, o ++ txt (bkT 0), by omega, by omega, by go_num, by go_num, rfl, HNX, ⟨HPR.out.bl 0 hlt HC.out⟩, by rw [apz]; have := bkT_len 0; rw [txt_size]; omega, by rw [apz]; have := bkT_len 0; rw [txt_size]; omega, HB4.out.alloc HB4.out.size _⟩, by simp [RowKit.intOf]; omega⟩
              · go_wp2_with fail
                refine (cW.out _).mono ?_
                rintro e w2 ⟨rfl, hb2⟩
                have HB2 : Box' (Below w.heap.size w w2) := ⟨HBR.out.trans (hb2.mono HBR.out.size)⟩
                clear hb2
                have htc2 := HTC.out w2 HB2.out
                go_wp2_with fail
                refine (cR.out _).mono ?_
                rintro e w3 ⟨rfl, hb3⟩
                have HB3 : Box' (Below w.heap.size w w3) := ⟨HB2.out.trans (hb3.mono HB2.out.size)⟩
                clear hb3
                go_wp2_with fail
                refine (cK.out _).mono ?_
                rintro e w4 ⟨rfl, hb4⟩
                have HB4 : Box' (Below w.heap.size w w4) := ⟨HB3.out.trans (hb4.mono HB3.out.size)⟩
                clear hb4
                go_wp2_with fail
                exact ⟨⟨p + 1, nn + 1, o ++ txt (bkT 1), by omega, by omega, by go_num, by go_num, rfl, HNX, ⟨HPR.out.bl 1 hlt HC.out⟩, by rw [apz]; have := bkT_len 1; rw [txt_size]; omega, by rw [apz]; have := bkT_len 1; rw [txt_size]; omega, HB4.out.alloc HB4.out.size _⟩, by simp [RowKit.intOf]; omega⟩
              · go_wp2_with fail
                refine (cW.out _).mono ?_
                rintro e w2 ⟨rfl, hb2⟩
                have HB2 : Box' (Below w.heap.size w w2) := ⟨HBR.out.trans (hb2.mono HBR.out.size)⟩
                clear hb2
                have htc2 := HTC.out w2 HB2.out
                go_wp2_with fail
                refine (cR.out _).mono ?_
                rintro e w3 ⟨rfl, hb3⟩
                have HB3 : Box' (Below w.heap.size w w3) := ⟨HB2.out.trans (hb3.mono HB2.out.size)⟩
                clear hb3
                go_wp2_with fail
                refine (cK.out _).mono ?_
                rintro e w4 ⟨rfl, hb4⟩
                have HB4 : Box' (Below w.heap.size w w4) := ⟨HB3.out.trans (hb4.mono HB3.out.size)⟩
                clear hb4
                go_wp2_with fail
                exact ⟨⟨p + 1, nn + 1, o ++ txt (bkT 2), by omega, by omega, by go_num, by go_num, rfl, HNX, ⟨HPR.out.bl 2 hlt HC.out⟩, by rw [apz]; have := bkT_len 2; rw [txt_size]; omega, by rw [apz]; have := bkT_len 2; rw [txt_size]; omega, HB4.out.alloc HB4.out.size _⟩, by simp [RowKit.intOf]; omega⟩
          · have hnI : ¬ ((p : Int) + (1 : Int) < (s.size : Int)) := by omega
            have hle1 : (p : Int) + (1 : Int) ≤ (s.size : Int) := by omega
            clear hn1
            subst hn2
            by_cases hts : ts = []
            · have hl0 : ¬ (0 < (ts.length : Int)) := by rw [hts]; simp
              have hl0d : decide (0 < ts.length) = false := by rw [hts]; rfl
              clear hts
              go_wp2_with fail
              refine (cW.out _).mono ?_
              rintro e w2 ⟨rfl, hb2⟩
              have HB2 : Box' (Below w.heap.size w w2) := ⟨HBR.out.trans (hb2.mono HBR.out.size)⟩
              clear hb2
              go_wp2_with fail
              refine (cR.out _).mono ?_
              rintro e w3 ⟨rfl, hb3⟩
              have HB3 : Box' (Below w.heap.size w w3) := ⟨HB2.out.trans (hb3.mono HB2.out.size)⟩
              clear hb3
              go_wp2_with fail
              refine (cK.out _).mono ?_
              rintro e w4 ⟨rfl, hb4⟩
              have HB4 : Box' (Below w.heap.size w w4) := ⟨HB3.out.trans (hb4.mono HB3.out.size)⟩
              clear hb4
              go_wp2_with fail
              exact ⟨⟨p + 1, nn + 1, o ++ txt (bkT 0), by omega, by omega, by go_num, by go_num, rfl, HNX, ⟨HPR.out.bl 0 hlt HC.out⟩, by rw [apz]; have := bkT_len 0; rw [txt_size]; omega, by rw [apz]; have := bkT_len 0; rw [txt_size]; omega, HB4.out.alloc HB4.out.size _⟩, by simp [RowKit.intOf]; omega⟩
            · obtain ⟨tb, tq, t, hto, hmod, ht0, ht1, htc⟩ := HTN.out nn hts
              have hlp : 0 < ts.length := List.length_pos_iff.2 hts
              have HTC : Box' _ := ⟨htc⟩
              subst hto
              clear hts htc
              obtain hk | hk | hk : t % 3 = 0 ∨ t % 3 = 1 ∨ t % 3 = 2 := by omega
              · go_wp2_with fail
                refine (cW.out _).mono ?_
                rintro e w2 ⟨rfl, hb2⟩
                have HB2 : Box' (Below w.heap.size w w2) := ⟨HBR.out.trans (hb2.mono HBR.out.size)⟩
                clear hb2
                have htc2 := HTC.out w2 HB2.out
                go_wp2_with fail
                refine (cR.out _).mono ?_
                rintro e w3 ⟨rfl, hb3⟩
                have HB3 : Box' (Below w.heap.size w w3) := ⟨HB2.out.trans (hb3.mono HB2.out.size)⟩
                clear hb3
                go_wp2_with fail
                refine (cK.out _).mono ?_
                rintro e w4 ⟨rfl, hb4⟩
                have HB4 : Box' (Below w.heap.size w w4) := ⟨HB3.out.trans (hb4.mono HB3.out.size)⟩
                clear hb4
                go_wp2_with fail
                exact ⟨⟨p + 1, nn + 1, o ++ txt (bkT 0), by omega, by omega, by go_num, by go_num, rfl, HNX, ⟨HPR.out.bl 0 hlt HC.out⟩, by rw [apz]; have := bkT_len 0; rw [txt_size]; omega, by rw [apz]; have := bkT_len 0; rw [txt_size]; omega, HB4.out.alloc HB4.out.size _⟩, by simp [RowKit.intOf]; omega⟩
              · go_wp2_with fail
                refine (cW.out _).mono ?_
                rintro e w2 ⟨rfl, hb2⟩
                have HB2 : Box' (Below w.heap.size w w2) := ⟨HBR.out.trans (hb2.mono HBR.out.size)⟩
                clear hb2
                have htc2 := HTC.out w2 HB2.out
                go_wp2_with fail
                refine (cR.out _).mono ?_
                rintro e w3 ⟨rfl, hb3⟩
                have HB3 : Box' (Below w.heap.size w w3) := ⟨HB2.out.trans (hb3.mono HB2.out.size)⟩
                clear hb3
                go_wp2_with fail
                refine (cK.out _).mono ?_
                rintro e w4 ⟨rfl, hb4⟩
                have HB4 : Box' (Below w.heap.size w w4) := ⟨HB3.out.trans (hb4.mono HB3.out.size)⟩
                clear hb4
                go_wp2_with fail
                exact ⟨⟨p + 1, nn + 1, o ++ txt (bkT 1), by omega, by omega, by go_num, by go_num, rfl, HNX, ⟨HPR.out.bl 1 hlt HC.out⟩, by rw [apz]; have := bkT_len 1; rw [txt_size]; omega, by rw [apz]; have := bkT_len 1; rw [txt_size]; omega, HB4.out.alloc HB4.out.size _⟩, by simp [RowKit.intOf]; omega⟩
              · go_wp2_with fail
                refine (cW.out _).mono ?_
                rintro e w2 ⟨rfl, hb2⟩
                have HB2 : Box' (Below w.heap.size w w2) := ⟨HBR.out.trans (hb2.mono HBR.out.size)⟩
                clear hb2
                have htc2 := HTC.out w2 HB2.out
                go_wp2_with fail
                refine (cR.out _).mono ?_
                rintro e w3 ⟨rfl, hb3⟩
                have HB3 : Box' (Below w.heap.size w w3) := ⟨HB2.out.trans (hb3.mono HB2.out.size)⟩
                clear hb3
                go_wp2_with fail
                refine (cK.out _).mono ?_
                rintro e w4 ⟨rfl, hb4⟩
                have HB4 : Box' (Below w.heap.size w w4) := ⟨HB3.out.trans (hb4.mono HB3.out.size)⟩
                clear hb4
                go_wp2_with fail
                exact ⟨⟨p + 1, nn + 1, o ++ txt (bkT 2), by omega, by omega, by go_num, by go_num, rfl, HNX, ⟨HPR.out.bl 2 hlt HC.out⟩, by rw [apz]; have := bkT_len 2; rw [txt_size]; omega, by rw [apz]; have := bkT_len 2; rw [txt_size]; omega, HB4.out.alloc HB4.out.size _⟩, by simp [RowKit.intOf]; omega⟩
      | @one _ c h0 hc h1 h2 next =>
        as_aux_lemma =>
          obtain ⟨X, Nx, Y, F⟩ := fs_mk hlt (glow s p (by rw [hc]; exact (sg1_ne (.inl h1)).2.2.2.2.2)) (W := 1) (by rw [dlow s p (by rw [hc]; exact (sg1_ne (.inl h1)).2.2.2.2.2)])
          rw [hc] at F
          obtain ⟨n61, n62, n32, hrg, hk1, h128⟩ := sg1_ne (.inl h1)
          have HNX : Box' (Toks s pat (p + 1)) := ⟨next⟩
          have HC : Box' (s.get! p = c) := ⟨hc⟩
          have q60 : (Y.toList == [60, 60]) = false := by
            by_cases e60 : c = 60
            · obtain ⟨g1, g2⟩ := h2 e60
              rcases F.nx with ⟨hn1, hn2⟩ | ⟨hn1, hn2⟩
              · have e1 : Nx = txt [32] := by rw [← hn2, ext_one hn1, g2]
                have e2 : X = txt [c] := F.one rfl
                rw [← F.add, e1, e2, e60]
                rw [toList_data]; rfl
              · omega
            · exact eq_no F.hy e60 _
          have H2 : Box' (c = 60 → p + 1 < s.size ∧ s.get! (p + 1) = 32) := ⟨h2⟩
          clear h2
          have cW : Box' (∀ V, Calls Tryd.prog 54 #[.string s, .int .i64 (p : Int)] V fun e w' => e = .returned (.int .i64 ((1 : Nat) : Int)) ∧ Below V.heap.size V w') := ⟨fun V => by have := refWidth_in s p V hlt hs0; rw [F.wd] at this; exact this⟩
          have hext := F.ext
          have hadd : ∀ V, (Op.stringOp .add X Nx).run Tryd.prog V = .ok (.string Y) V := fun V => by rw [add_ok X Nx (by have := F.szx; have := F.szn; have := F.w4; omega) V, F.add]
          have q62 : (Y.toList == [62, 62]) = false := eq_no F.hy n62 _
          have q61 : (Y.toList == [61, 61]) = false := eq_no F.hy n61 _
          have cR : Box' (∀ V, Calls Tryd.prog 58 #[.string s, .int .i64 (p : Int)] V fun e w' => e = .returned (.int .i32 (rn s p)) ∧ Below V.heap.size V w') := ⟨fun V => refRune_any s p V hs0 hp⟩
          have cK : Box' (∀ V, Calls Tryd.prog 57 #[.int .i32 (rn s p)] V fun e w' => e = .returned (.int .i64 (kd (Utf8.decode s p).1)) ∧ Below V.heap.size V w') := ⟨fun V => by have := refKind_kd (rn s p) V; rw [kd_rn s p hlt] at this; exact this⟩
          have hkk : kd (Utf8.decode s p).1 ≠ 1 := by rw [dlow s p (by rw [hc]; exact h128), hc]; exact hk1
          have hx32 : (X.toList == [32]) = false := eq_no F.hx n32 _
          have hx1 : X = txt [c] := F.one rfl
          have HX : Box' (X = txt [c]) := ⟨hx1⟩
          have cO : Box' (∀ k : Nat, k < 3 → ∀ V, Calls Tryd.prog 55 #[.string X, .int .i64 (k : Int)] V fun e w' => e = .returned (.string (txt (ot1 c k))) ∧ Below V.heap.size V w') := ⟨fun k hk V => by rw [hx1]; exact other_one (.inl h1) k hk V⟩
          clear hx1 hc next n61 n62 n32 hk1 h128
          generalize rn s p = rr at *
          generalize kd (Utf8.decode s p).1 = kk at *
          have hkb : (kk == 1) = false := by rw [beq_eq_false_iff_ne]; exact hkk
          clear hkk
          rcases hrg with hlo | hhi
          · have hge : ∀ V, (binOp .geq 9 (.string X) (.string ⟨#[48]⟩)).run Tryd.prog V = .ok (.bool false) V := fun V => by rw [geq_run, ge_low F.hx (hlo)]
            clear hlo
            rcases F.nx with ⟨hn1, hn2⟩ | ⟨hn1, hn2⟩
            · have hnI : (p : Int) + (1 : Int) < (s.size : Int) := by omega
              have hle1 : (p : Int) + (1 : Int) ≤ (s.size : Int) := by omega
              by_cases hts : ts = []
              · have hl0 : ¬ (0 < (ts.length : Int)) := by rw [hts]; simp
                have hl0d : decide (0 < ts.length) = false := by rw [hts]; rfl
                clear hts
                have hz := ot1_len c 0
                have cP : Box' (∀ V, Calls Tryd.prog 55 #[.string X, .int .i64 0] V fun e w' => e = .returned (.string (txt (ot1 c 0))) ∧ Below V.heap.size V w') := ⟨fun V => cO.out 0 (by omega) V⟩
                have HP := HPR.out.one (c := c) 0 hlt HC.out h1 H2.out
                have HPP : Box' _ := ⟨HP⟩
                clear HP
                have hzz : 1 ≤ (txt (ot1 c 0)).size ∧ (txt (ot1 c 0)).size ≤ 3 := by rw [txt_size]; exact hz
                obtain ⟨hzy, hzz⟩ := hzz
                generalize txt (ot1 c 0) = P at *
                have hao : ∀ V, (Op.stringOp .add o P).run Tryd.prog V = .ok (.string (o ++ P)) V := fun V => add_ok o P (by omega) V
                clear hz
                go_wp2_with fail
                refine (cW.out _).mono ?_
                rintro e w2 ⟨rfl, hb2⟩
                have HB2 : Box' (Below w.heap.size w w2) := ⟨HBR.out.trans (hb2.mono HBR.out.size)⟩
                clear hb2
                go_wp2_with fail
                refine (cR.out _).mono ?_
                rintro e w3 ⟨rfl, hb3⟩
                have HB3 : Box' (Below w.heap.size w w3) := ⟨HB2.out.trans (hb3.mono HB2.out.size)⟩
                clear hb3
                go_wp2_with fail
                refine (cK.out _).mono ?_
                rintro e w4 ⟨rfl, hb4⟩
                have HB4 : Box' (Below w.heap.size w w4) := ⟨HB3.out.trans (hb4.mono HB3.out.size)⟩
                clear hb4
                go_wp2_with fail
                refine (cP.out _).mono ?_
                rintro e w5 ⟨rfl, hb5⟩
                have HB5 : Box' (Below w.heap.size w w5) := ⟨HB4.out.trans (hb5.mono HB4.out.size)⟩
                clear hb5
                go_wp2_with fail
                exact ⟨⟨p + 1, nn + 1, o ++ P, by omega, by omega, by go_num, by go_num, rfl, HNX, ⟨HPP.out⟩, by rw [apz]; omega, by rw [apz]; omega, HB5.out⟩, by simp [RowKit.intOf]; omega⟩
              · obtain ⟨tb, tq, t, hto, hmod, ht0, ht1, htc⟩ := HTN.out nn hts
                have hlp : 0 < ts.length := List.length_pos_iff.2 hts
                have HTC : Box' _ := ⟨htc⟩
                subst hto
                clear hts htc
                obtain ⟨k, hk3, hkt⟩ : ∃ k : Nat, k < 3 ∧ (k : Int) = t % 3 := ⟨(t % 3).toNat, by omega, by omega⟩
                have HKT : Box' ((k : Int) = t % 3) := ⟨hkt⟩
                clear hkt
                have hz := ot1_len c k
                have cP : Box' (∀ V, Calls Tryd.prog 55 #[.string X, .int .i64 (t % 3)] V fun e w' => e = .returned (.string (txt (ot1 c k))) ∧ Below V.heap.size V w') := ⟨fun V => by rw [← HKT.out]; exact cO.out k hk3 V⟩
                have HP := HPR.out.one (c := c) k hlt HC.out h1 H2.out
                have HPP : Box' _ := ⟨HP⟩
                clear HP
                have hzz : 1 ≤ (txt (ot1 c k)).size ∧ (txt (ot1 c k)).size ≤ 3 := by rw [txt_size]; exact hz
                obtain ⟨hzy, hzz⟩ := hzz
                generalize txt (ot1 c k) = P at *
                have hao : ∀ V, (Op.stringOp .add o P).run Tryd.prog V = .ok (.string (o ++ P)) V := fun V => add_ok o P (by omega) V
                clear hz
                go_wp2_with fail
                refine (cW.out _).mono ?_
                rintro e w2 ⟨rfl, hb2⟩
                have HB2 : Box' (Below w.heap.size w w2) := ⟨HBR.out.trans (hb2.mono HBR.out.size)⟩
                clear hb2
                have htc2 := HTC.out w2 HB2.out
                go_wp2_with fail
                refine (cR.out _).mono ?_
                rintro e w3 ⟨rfl, hb3⟩
                have HB3 : Box' (Below w.heap.size w w3) := ⟨HB2.out.trans (hb3.mono HB2.out.size)⟩
                clear hb3
                go_wp2_with fail
                refine (cK.out _).mono ?_
                rintro e w4 ⟨rfl, hb4⟩
                have HB4 : Box' (Below w.heap.size w w4) := ⟨HB3.out.trans (hb4.mono HB3.out.size)⟩
                clear hb4
                go_wp2_with fail
                refine (cP.out _).mono ?_
                rintro e w5 ⟨rfl, hb5⟩
                have HB5 : Box' (Below w.heap.size w w5) := ⟨HB4.out.trans (hb5.mono HB4.out.size)⟩
                clear hb5
                go_wp2_with fail
                exact ⟨⟨p + 1, nn + 1, o ++ P, by omega, by omega, by go_num, by go_num, rfl, HNX, ⟨HPP.out⟩, by rw [apz]; omega, by rw [apz]; omega, HB5.out⟩, by simp [RowKit.intOf]; omega⟩
            · have hnI : ¬ ((p : Int) + (1 : Int) < (s.size : Int)) := by omega
              have hle1 : (p : Int) + (1 : Int) ≤ (s.size : Int) := by omega
              clear hn1
              subst hn2
              by_cases hts : ts = []
              · have hl0 : ¬ (0 < (ts.length : Int)) := by rw [hts]; simp
                have hl0d : decide (0 < ts.length) = false := by rw [hts]; rfl
                clear hts
                have hz := ot1_len c 0
                have cP : Box' (∀ V, Calls Tryd.prog 55 #[.string X, .int .i64 0] V fun e w' => e = .returned (.string (txt (ot1 c 0))) ∧ Below V.heap.size V w') := ⟨fun V => cO.out 0 (by omega) V⟩
                have HP := HPR.out.one (c := c) 0 hlt HC.out h1 H2.out
                have HPP : Box' _ := ⟨HP⟩
                clear HP
                have hzz : 1 ≤ (txt (ot1 c 0)).size ∧ (txt (ot1 c 0)).size ≤ 3 := by rw [txt_size]; exact hz
                obtain ⟨hzy, hzz⟩ := hzz
                generalize txt (ot1 c 0) = P at *
                have hao : ∀ V, (Op.stringOp .add o P).run Tryd.prog V = .ok (.string (o ++ P)) V := fun V => add_ok o P (by omega) V
                clear hz
                go_wp2_with fail
                refine (cW.out _).mono ?_
                rintro e w2 ⟨rfl, hb2⟩
                have HB2 : Box' (Below w.heap.size w w2) := ⟨HBR.out.trans (hb2.mono HBR.out.size)⟩
                clear hb2
                go_wp2_with fail
                refine (cR.out _).mono ?_
                rintro e w3 ⟨rfl, hb3⟩
                have HB3 : Box' (Below w.heap.size w w3) := ⟨HB2.out.trans (hb3.mono HB2.out.size)⟩
                clear hb3
                go_wp2_with fail
                refine (cK.out _).mono ?_
                rintro e w4 ⟨rfl, hb4⟩
                have HB4 : Box' (Below w.heap.size w w4) := ⟨HB3.out.trans (hb4.mono HB3.out.size)⟩
                clear hb4
                go_wp2_with fail
                refine (cP.out _).mono ?_
                rintro e w5 ⟨rfl, hb5⟩
                have HB5 : Box' (Below w.heap.size w w5) := ⟨HB4.out.trans (hb5.mono HB4.out.size)⟩
                clear hb5
                go_wp2_with fail
                exact ⟨⟨p + 1, nn + 1, o ++ P, by omega, by omega, by go_num, by go_num, rfl, HNX, ⟨HPP.out⟩, by rw [apz]; omega, by rw [apz]; omega, HB5.out⟩, by simp [RowKit.intOf]; omega⟩
              · obtain ⟨tb, tq, t, hto, hmod, ht0, ht1, htc⟩ := HTN.out nn hts
                have hlp : 0 < ts.length := List.length_pos_iff.2 hts
                have HTC : Box' _ := ⟨htc⟩
                subst hto
                clear hts htc
                obtain ⟨k, hk3, hkt⟩ : ∃ k : Nat, k < 3 ∧ (k : Int) = t % 3 := ⟨(t % 3).toNat, by omega, by omega⟩
                have HKT : Box' ((k : Int) = t % 3) := ⟨hkt⟩
                clear hkt
                have hz := ot1_len c k
                have cP : Box' (∀ V, Calls Tryd.prog 55 #[.string X, .int .i64 (t % 3)] V fun e w' => e = .returned (.string (txt (ot1 c k))) ∧ Below V.heap.size V w') := ⟨fun V => by rw [← HKT.out]; exact cO.out k hk3 V⟩
                have HP := HPR.out.one (c := c) k hlt HC.out h1 H2.out
                have HPP : Box' _ := ⟨HP⟩
                clear HP
                have hzz : 1 ≤ (txt (ot1 c k)).size ∧ (txt (ot1 c k)).size ≤ 3 := by rw [txt_size]; exact hz
                obtain ⟨hzy, hzz⟩ := hzz
                generalize txt (ot1 c k) = P at *
                have hao : ∀ V, (Op.stringOp .add o P).run Tryd.prog V = .ok (.string (o ++ P)) V := fun V => add_ok o P (by omega) V
                clear hz
                go_wp2_with fail
                refine (cW.out _).mono ?_
                rintro e w2 ⟨rfl, hb2⟩
                have HB2 : Box' (Below w.heap.size w w2) := ⟨HBR.out.trans (hb2.mono HBR.out.size)⟩
                clear hb2
                have htc2 := HTC.out w2 HB2.out
                go_wp2_with fail
                refine (cR.out _).mono ?_
                rintro e w3 ⟨rfl, hb3⟩
                have HB3 : Box' (Below w.heap.size w w3) := ⟨HB2.out.trans (hb3.mono HB2.out.size)⟩
                clear hb3
                go_wp2_with fail
                refine (cK.out _).mono ?_
                rintro e w4 ⟨rfl, hb4⟩
                have HB4 : Box' (Below w.heap.size w w4) := ⟨HB3.out.trans (hb4.mono HB3.out.size)⟩
                clear hb4
                go_wp2_with fail
                refine (cP.out _).mono ?_
                rintro e w5 ⟨rfl, hb5⟩
                have HB5 : Box' (Below w.heap.size w w5) := ⟨HB4.out.trans (hb5.mono HB4.out.size)⟩
                clear hb5
                go_wp2_with fail
                exact ⟨⟨p + 1, nn + 1, o ++ P, by omega, by omega, by go_num, by go_num, rfl, HNX, ⟨HPP.out⟩, by rw [apz]; omega, by rw [apz]; omega, HB5.out⟩, by simp [RowKit.intOf]; omega⟩
          · have hge : ∀ V, (binOp .geq 9 (.string X) (.string ⟨#[48]⟩)).run Tryd.prog V = .ok (.bool true) V := fun V => by rw [geq_run, ge_high F.hx (by omega)]
            have hleq : ∀ V, (binOp .leq 9 (.string X) (.string ⟨#[57]⟩)).run Tryd.prog V = .ok (.bool false) V := fun V => by rw [leq_run, le_high F.hx (hhi)]
            clear hhi
            rcases F.nx with ⟨hn1, hn2⟩ | ⟨hn1, hn2⟩
            · have hnI : (p : Int) + (1 : Int) < (s.size : Int) := by omega
              have hle1 : (p : Int) + (1 : Int) ≤ (s.size : Int) := by omega
              by_cases hts : ts = []
              · have hl0 : ¬ (0 < (ts.length : Int)) := by rw [hts]; simp
                have hl0d : decide (0 < ts.length) = false := by rw [hts]; rfl
                clear hts
                have hz := ot1_len c 0
                have cP : Box' (∀ V, Calls Tryd.prog 55 #[.string X, .int .i64 0] V fun e w' => e = .returned (.string (txt (ot1 c 0))) ∧ Below V.heap.size V w') := ⟨fun V => cO.out 0 (by omega) V⟩
                have HP := HPR.out.one (c := c) 0 hlt HC.out h1 H2.out
                have HPP : Box' _ := ⟨HP⟩
                clear HP
                have hzz : 1 ≤ (txt (ot1 c 0)).size ∧ (txt (ot1 c 0)).size ≤ 3 := by rw [txt_size]; exact hz
                obtain ⟨hzy, hzz⟩ := hzz
                generalize txt (ot1 c 0) = P at *
                have hao : ∀ V, (Op.stringOp .add o P).run Tryd.prog V = .ok (.string (o ++ P)) V := fun V => add_ok o P (by omega) V
                clear hz
                go_wp2_with fail
                refine (cW.out _).mono ?_
                rintro e w2 ⟨rfl, hb2⟩
                have HB2 : Box' (Below w.heap.size w w2) := ⟨HBR.out.trans (hb2.mono HBR.out.size)⟩
                clear hb2
                go_wp2_with fail
                refine (cR.out _).mono ?_
                rintro e w3 ⟨rfl, hb3⟩
                have HB3 : Box' (Below w.heap.size w w3) := ⟨HB2.out.trans (hb3.mono HB2.out.size)⟩
                clear hb3
                go_wp2_with fail
                refine (cK.out _).mono ?_
                rintro e w4 ⟨rfl, hb4⟩
                have HB4 : Box' (Below w.heap.size w w4) := ⟨HB3.out.trans (hb4.mono HB3.out.size)⟩
                clear hb4
                go_wp2_with fail
                refine (cP.out _).mono ?_
                rintro e w5 ⟨rfl, hb5⟩
                have HB5 : Box' (Below w.heap.size w w5) := ⟨HB4.out.trans (hb5.mono HB4.out.size)⟩
                clear hb5
                go_wp2_with fail
                exact ⟨⟨p + 1, nn + 1, o ++ P, by omega, by omega, by go_num, by go_num, rfl, HNX, ⟨HPP.out⟩, by rw [apz]; omega, by rw [apz]; omega, HB5.out⟩, by simp [RowKit.intOf]; omega⟩
              · obtain ⟨tb, tq, t, hto, hmod, ht0, ht1, htc⟩ := HTN.out nn hts
                have hlp : 0 < ts.length := List.length_pos_iff.2 hts
                have HTC : Box' _ := ⟨htc⟩
                subst hto
                clear hts htc
                obtain ⟨k, hk3, hkt⟩ : ∃ k : Nat, k < 3 ∧ (k : Int) = t % 3 := ⟨(t % 3).toNat, by omega, by omega⟩
                have HKT : Box' ((k : Int) = t % 3) := ⟨hkt⟩
                clear hkt
                have hz := ot1_len c k
                have cP : Box' (∀ V, Calls Tryd.prog 55 #[.string X, .int .i64 (t % 3)] V fun e w' => e = .returned (.string (txt (ot1 c k))) ∧ Below V.heap.size V w') := ⟨fun V => by rw [← HKT.out]; exact cO.out k hk3 V⟩
                have HP := HPR.out.one (c := c) k hlt HC.out h1 H2.out
                have HPP : Box' _ := ⟨HP⟩
                clear HP
                have hzz : 1 ≤ (txt (ot1 c k)).size ∧ (txt (ot1 c k)).size ≤ 3 := by rw [txt_size]; exact hz
                obtain ⟨hzy, hzz⟩ := hzz
                generalize txt (ot1 c k) = P at *
                have hao : ∀ V, (Op.stringOp .add o P).run Tryd.prog V = .ok (.string (o ++ P)) V := fun V => add_ok o P (by omega) V
                clear hz
                go_wp2_with fail
                refine (cW.out _).mono ?_
                rintro e w2 ⟨rfl, hb2⟩
                have HB2 : Box' (Below w.heap.size w w2) := ⟨HBR.out.trans (hb2.mono HBR.out.size)⟩
                clear hb2
                have htc2 := HTC.out w2 HB2.out
                go_wp2_with fail
                refine (cR.out _).mono ?_
                rintro e w3 ⟨rfl, hb3⟩
                have HB3 : Box' (Below w.heap.size w w3) := ⟨HB2.out.trans (hb3.mono HB2.out.size)⟩
                clear hb3
                go_wp2_with fail
                refine (cK.out _).mono ?_
                rintro e w4 ⟨rfl, hb4⟩
                have HB4 : Box' (Below w.heap.size w w4) := ⟨HB3.out.trans (hb4.mono HB3.out.size)⟩
                clear hb4
                go_wp2_with fail
                refine (cP.out _).mono ?_
                rintro e w5 ⟨rfl, hb5⟩
                have HB5 : Box' (Below w.heap.size w w5) := ⟨HB4.out.trans (hb5.mono HB4.out.size)⟩
                clear hb5
                go_wp2_with fail
                exact ⟨⟨p + 1, nn + 1, o ++ P, by omega, by omega, by go_num, by go_num, rfl, HNX, ⟨HPP.out⟩, by rw [apz]; omega, by rw [apz]; omega, HB5.out⟩, by simp [RowKit.intOf]; omega⟩
            · have hnI : ¬ ((p : Int) + (1 : Int) < (s.size : Int)) := by omega
              have hle1 : (p : Int) + (1 : Int) ≤ (s.size : Int) := by omega
              clear hn1
              subst hn2
              by_cases hts : ts = []
              · have hl0 : ¬ (0 < (ts.length : Int)) := by rw [hts]; simp
                have hl0d : decide (0 < ts.length) = false := by rw [hts]; rfl
                clear hts
                have hz := ot1_len c 0
                have cP : Box' (∀ V, Calls Tryd.prog 55 #[.string X, .int .i64 0] V fun e w' => e = .returned (.string (txt (ot1 c 0))) ∧ Below V.heap.size V w') := ⟨fun V => cO.out 0 (by omega) V⟩
                have HP := HPR.out.one (c := c) 0 hlt HC.out h1 H2.out
                have HPP : Box' _ := ⟨HP⟩
                clear HP
                have hzz : 1 ≤ (txt (ot1 c 0)).size ∧ (txt (ot1 c 0)).size ≤ 3 := by rw [txt_size]; exact hz
                obtain ⟨hzy, hzz⟩ := hzz
                generalize txt (ot1 c 0) = P at *
                have hao : ∀ V, (Op.stringOp .add o P).run Tryd.prog V = .ok (.string (o ++ P)) V := fun V => add_ok o P (by omega) V
                clear hz
                go_wp2_with fail
                refine (cW.out _).mono ?_
                rintro e w2 ⟨rfl, hb2⟩
                have HB2 : Box' (Below w.heap.size w w2) := ⟨HBR.out.trans (hb2.mono HBR.out.size)⟩
                clear hb2
                go_wp2_with fail
                refine (cR.out _).mono ?_
                rintro e w3 ⟨rfl, hb3⟩
                have HB3 : Box' (Below w.heap.size w w3) := ⟨HB2.out.trans (hb3.mono HB2.out.size)⟩
                clear hb3
                go_wp2_with fail
                refine (cK.out _).mono ?_
                rintro e w4 ⟨rfl, hb4⟩
                have HB4 : Box' (Below w.heap.size w w4) := ⟨HB3.out.trans (hb4.mono HB3.out.size)⟩
                clear hb4
                go_wp2_with fail
                refine (cP.out _).mono ?_
                rintro e w5 ⟨rfl, hb5⟩
                have HB5 : Box' (Below w.heap.size w w5) := ⟨HB4.out.trans (hb5.mono HB4.out.size)⟩
                clear hb5
                go_wp2_with fail
                exact ⟨⟨p + 1, nn + 1, o ++ P, by omega, by omega, by go_num, by go_num, rfl, HNX, ⟨HPP.out⟩, by rw [apz]; omega, by rw [apz]; omega, HB5.out⟩, by simp [RowKit.intOf]; omega⟩
              · obtain ⟨tb, tq, t, hto, hmod, ht0, ht1, htc⟩ := HTN.out nn hts
                have hlp : 0 < ts.length := List.length_pos_iff.2 hts
                have HTC : Box' _ := ⟨htc⟩
                subst hto
                clear hts htc
                obtain ⟨k, hk3, hkt⟩ : ∃ k : Nat, k < 3 ∧ (k : Int) = t % 3 := ⟨(t % 3).toNat, by omega, by omega⟩
                have HKT : Box' ((k : Int) = t % 3) := ⟨hkt⟩
                clear hkt
                have hz := ot1_len c k
                have cP : Box' (∀ V, Calls Tryd.prog 55 #[.string X, .int .i64 (t % 3)] V fun e w' => e = .returned (.string (txt (ot1 c k))) ∧ Below V.heap.size V w') := ⟨fun V => by rw [← HKT.out]; exact cO.out k hk3 V⟩
                have HP := HPR.out.one (c := c) k hlt HC.out h1 H2.out
                have HPP : Box' _ := ⟨HP⟩
                clear HP
                have hzz : 1 ≤ (txt (ot1 c k)).size ∧ (txt (ot1 c k)).size ≤ 3 := by rw [txt_size]; exact hz
                obtain ⟨hzy, hzz⟩ := hzz
                generalize txt (ot1 c k) = P at *
                have hao : ∀ V, (Op.stringOp .add o P).run Tryd.prog V = .ok (.string (o ++ P)) V := fun V => add_ok o P (by omega) V
                clear hz
                go_wp2_with fail
                refine (cW.out _).mono ?_
                rintro e w2 ⟨rfl, hb2⟩
                have HB2 : Box' (Below w.heap.size w w2) := ⟨HBR.out.trans (hb2.mono HBR.out.size)⟩
                clear hb2
                have htc2 := HTC.out w2 HB2.out
                go_wp2_with fail
                refine (cR.out _).mono ?_
                rintro e w3 ⟨rfl, hb3⟩
                have HB3 : Box' (Below w.heap.size w w3) := ⟨HB2.out.trans (hb3.mono HB2.out.size)⟩
                clear hb3
                go_wp2_with fail
                refine (cK.out _).mono ?_
                rintro e w4 ⟨rfl, hb4⟩
                have HB4 : Box' (Below w.heap.size w w4) := ⟨HB3.out.trans (hb4.mono HB3.out.size)⟩
                clear hb4
                go_wp2_with fail
                refine (cP.out _).mono ?_
                rintro e w5 ⟨rfl, hb5⟩
                have HB5 : Box' (Below w.heap.size w w5) := ⟨HB4.out.trans (hb5.mono HB4.out.size)⟩
                clear hb5
                go_wp2_with fail
                exact ⟨⟨p + 1, nn + 1, o ++ P, by omega, by omega, by go_num, by go_num, rfl, HNX, ⟨HPP.out⟩, by rw [apz]; omega, by rw [apz]; omega, HB5.out⟩, by simp [RowKit.intOf]; omega⟩
      | ho h0 hc ht next =>
        as_aux_lemma =>
          obtain ⟨X, Nx, Y, F⟩ := fs_mk hlt (glow s p (by rw [hc]; exact (sg1_ne (.inr rfl : sg1 64 ∨ (64 : UInt8) = 64)).2.2.2.2.2)) (W := 1) (by rw [dlow s p (by rw [hc]; exact (sg1_ne (.inr rfl : sg1 64 ∨ (64 : UInt8) = 64)).2.2.2.2.2)])
          rw [hc] at F
          obtain ⟨n61, n62, n32, hrg, hk1, h128⟩ := sg1_ne (.inr rfl : sg1 64 ∨ (64 : UInt8) = 64)
          have HNX : Box' (Toks s pat (p + 1)) := ⟨next⟩
          have HC : Box' (s.get! p = 64) := ⟨hc⟩
          have q60 : (Y.toList == [60, 60]) = false := eq_no F.hy (by decide) _
          have HPT : Box' (pat = true) := ⟨ht⟩
          clear ht
          have cW : Box' (∀ V, Calls Tryd.prog 54 #[.string s, .int .i64 (p : Int)] V fun e w' => e = .returned (.int .i64 ((1 : Nat) : Int)) ∧ Below V.heap.size V w') := ⟨fun V => by have := refWidth_in s p V hlt hs0; rw [F.wd] at this; exact this⟩
          have hext := F.ext
          have hadd : ∀ V, (Op.stringOp .add X Nx).run Tryd.prog V = .ok (.string Y) V := fun V => by rw [add_ok X Nx (by have := F.szx; have := F.szn; have := F.w4; omega) V, F.add]
          have q62 : (Y.toList == [62, 62]) = false := eq_no F.hy n62 _
          have q61 : (Y.toList == [61, 61]) = false := eq_no F.hy n61 _
          have cR : Box' (∀ V, Calls Tryd.prog 58 #[.string s, .int .i64 (p : Int)] V fun e w' => e = .returned (.int .i32 (rn s p)) ∧ Below V.heap.size V w') := ⟨fun V => refRune_any s p V hs0 hp⟩
          have cK : Box' (∀ V, Calls Tryd.prog 57 #[.int .i32 (rn s p)] V fun e w' => e = .returned (.int .i64 (kd (Utf8.decode s p).1)) ∧ Below V.heap.size V w') := ⟨fun V => by have := refKind_kd (rn s p) V; rw [kd_rn s p hlt] at this; exact this⟩
          have hkk : kd (Utf8.decode s p).1 ≠ 1 := by rw [dlow s p (by rw [hc]; exact h128), hc]; exact hk1
          have hx32 : (X.toList == [32]) = false := eq_no F.hx n32 _
          have hx1 : X = txt [64] := F.one rfl
          have HX : Box' (X = txt [64]) := ⟨hx1⟩
          have cO : Box' (∀ k : Nat, k < 3 → ∀ V, Calls Tryd.prog 55 #[.string X, .int .i64 (k : Int)] V fun e w' => e = .returned (.string (txt (ot1 64 k))) ∧ Below V.heap.size V w') := ⟨fun k hk V => by rw [hx1]; exact other_one (.inr rfl : sg1 64 ∨ (64 : UInt8) = 64) k hk V⟩
          clear hx1 hc next n61 n62 n32 hk1 h128
          generalize rn s p = rr at *
          generalize kd (Utf8.decode s p).1 = kk at *
          have hkb : (kk == 1) = false := by rw [beq_eq_false_iff_ne]; exact hkk
          clear hkk
          rcases hrg with hlo | hhi
          · have hge : ∀ V, (binOp .geq 9 (.string X) (.string ⟨#[48]⟩)).run Tryd.prog V = .ok (.bool false) V := fun V => by rw [geq_run, ge_low F.hx (hlo)]
            clear hlo
            rcases F.nx with ⟨hn1, hn2⟩ | ⟨hn1, hn2⟩
            · have hnI : (p : Int) + (1 : Int) < (s.size : Int) := by omega
              have hle1 : (p : Int) + (1 : Int) ≤ (s.size : Int) := by omega
              by_cases hts : ts = []
              · have hl0 : ¬ (0 < (ts.length : Int)) := by rw [hts]; simp
                have hl0d : decide (0 < ts.length) = false := by rw [hts]; rfl
                clear hts
                have hz := ot1_len 64 0
                have cP : Box' (∀ V, Calls Tryd.prog 55 #[.string X, .int .i64 0] V fun e w' => e = .returned (.string (txt (ot1 64 0))) ∧ Below V.heap.size V w') := ⟨fun V => cO.out 0 (by omega) V⟩
                have HP := HPR.out.at1 0 hlt HC.out HPT.out
                have HPP : Box' _ := ⟨HP⟩
                clear HP
                have hzz : 1 ≤ (txt (ot1 64 0)).size ∧ (txt (ot1 64 0)).size ≤ 3 := by rw [txt_size]; exact hz
                obtain ⟨hzy, hzz⟩ := hzz
                generalize txt (ot1 64 0) = P at *
                have hao : ∀ V, (Op.stringOp .add o P).run Tryd.prog V = .ok (.string (o ++ P)) V := fun V => add_ok o P (by omega) V
                clear hz
                go_wp2_with fail
                refine (cW.out _).mono ?_
                rintro e w2 ⟨rfl, hb2⟩
                have HB2 : Box' (Below w.heap.size w w2) := ⟨HBR.out.trans (hb2.mono HBR.out.size)⟩
                clear hb2
                go_wp2_with fail
                refine (cR.out _).mono ?_
                rintro e w3 ⟨rfl, hb3⟩
                have HB3 : Box' (Below w.heap.size w w3) := ⟨HB2.out.trans (hb3.mono HB2.out.size)⟩
                clear hb3
                go_wp2_with fail
                refine (cK.out _).mono ?_
                rintro e w4 ⟨rfl, hb4⟩
                have HB4 : Box' (Below w.heap.size w w4) := ⟨HB3.out.trans (hb4.mono HB3.out.size)⟩
                clear hb4
                go_wp2_with fail
                refine (cP.out _).mono ?_
                rintro e w5 ⟨rfl, hb5⟩
                have HB5 : Box' (Below w.heap.size w w5) := ⟨HB4.out.trans (hb5.mono HB4.out.size)⟩
                clear hb5
                go_wp2_with fail
                exact ⟨⟨p + 1, nn + 1, o ++ P, by omega, by omega, by go_num, by go_num, rfl, HNX, ⟨HPP.out⟩, by rw [apz]; omega, by rw [apz]; omega, HB5.out⟩, by simp [RowKit.intOf]; omega⟩
              · obtain ⟨tb, tq, t, hto, hmod, ht0, ht1, htc⟩ := HTN.out nn hts
                have hlp : 0 < ts.length := List.length_pos_iff.2 hts
                have HTC : Box' _ := ⟨htc⟩
                subst hto
                clear hts htc
                obtain ⟨k, hk3, hkt⟩ : ∃ k : Nat, k < 3 ∧ (k : Int) = t % 3 := ⟨(t % 3).toNat, by omega, by omega⟩
                have HKT : Box' ((k : Int) = t % 3) := ⟨hkt⟩
                clear hkt
                have hz := ot1_len 64 k
                have cP : Box' (∀ V, Calls Tryd.prog 55 #[.string X, .int .i64 (t % 3)] V fun e w' => e = .returned (.string (txt (ot1 64 k))) ∧ Below V.heap.size V w') := ⟨fun V => by rw [← HKT.out]; exact cO.out k hk3 V⟩
                have HP := HPR.out.at1 k hlt HC.out HPT.out
                have HPP : Box' _ := ⟨HP⟩
                clear HP
                have hzz : 1 ≤ (txt (ot1 64 k)).size ∧ (txt (ot1 64 k)).size ≤ 3 := by rw [txt_size]; exact hz
                obtain ⟨hzy, hzz⟩ := hzz
                generalize txt (ot1 64 k) = P at *
                have hao : ∀ V, (Op.stringOp .add o P).run Tryd.prog V = .ok (.string (o ++ P)) V := fun V => add_ok o P (by omega) V
                clear hz
                go_wp2_with fail
                refine (cW.out _).mono ?_
                rintro e w2 ⟨rfl, hb2⟩
                have HB2 : Box' (Below w.heap.size w w2) := ⟨HBR.out.trans (hb2.mono HBR.out.size)⟩
                clear hb2
                have htc2 := HTC.out w2 HB2.out
                go_wp2_with fail
                refine (cR.out _).mono ?_
                rintro e w3 ⟨rfl, hb3⟩
                have HB3 : Box' (Below w.heap.size w w3) := ⟨HB2.out.trans (hb3.mono HB2.out.size)⟩
                clear hb3
                go_wp2_with fail
                refine (cK.out _).mono ?_
                rintro e w4 ⟨rfl, hb4⟩
                have HB4 : Box' (Below w.heap.size w w4) := ⟨HB3.out.trans (hb4.mono HB3.out.size)⟩
                clear hb4
                go_wp2_with fail
                refine (cP.out _).mono ?_
                rintro e w5 ⟨rfl, hb5⟩
                have HB5 : Box' (Below w.heap.size w w5) := ⟨HB4.out.trans (hb5.mono HB4.out.size)⟩
                clear hb5
                go_wp2_with fail
                exact ⟨⟨p + 1, nn + 1, o ++ P, by omega, by omega, by go_num, by go_num, rfl, HNX, ⟨HPP.out⟩, by rw [apz]; omega, by rw [apz]; omega, HB5.out⟩, by simp [RowKit.intOf]; omega⟩
            · have hnI : ¬ ((p : Int) + (1 : Int) < (s.size : Int)) := by omega
              have hle1 : (p : Int) + (1 : Int) ≤ (s.size : Int) := by omega
              clear hn1
              subst hn2
              by_cases hts : ts = []
              · have hl0 : ¬ (0 < (ts.length : Int)) := by rw [hts]; simp
                have hl0d : decide (0 < ts.length) = false := by rw [hts]; rfl
                clear hts
                have hz := ot1_len 64 0
                have cP : Box' (∀ V, Calls Tryd.prog 55 #[.string X, .int .i64 0] V fun e w' => e = .returned (.string (txt (ot1 64 0))) ∧ Below V.heap.size V w') := ⟨fun V => cO.out 0 (by omega) V⟩
                have HP := HPR.out.at1 0 hlt HC.out HPT.out
                have HPP : Box' _ := ⟨HP⟩
                clear HP
                have hzz : 1 ≤ (txt (ot1 64 0)).size ∧ (txt (ot1 64 0)).size ≤ 3 := by rw [txt_size]; exact hz
                obtain ⟨hzy, hzz⟩ := hzz
                generalize txt (ot1 64 0) = P at *
                have hao : ∀ V, (Op.stringOp .add o P).run Tryd.prog V = .ok (.string (o ++ P)) V := fun V => add_ok o P (by omega) V
                clear hz
                go_wp2_with fail
                refine (cW.out _).mono ?_
                rintro e w2 ⟨rfl, hb2⟩
                have HB2 : Box' (Below w.heap.size w w2) := ⟨HBR.out.trans (hb2.mono HBR.out.size)⟩
                clear hb2
                go_wp2_with fail
                refine (cR.out _).mono ?_
                rintro e w3 ⟨rfl, hb3⟩
                have HB3 : Box' (Below w.heap.size w w3) := ⟨HB2.out.trans (hb3.mono HB2.out.size)⟩
                clear hb3
                go_wp2_with fail
                refine (cK.out _).mono ?_
                rintro e w4 ⟨rfl, hb4⟩
                have HB4 : Box' (Below w.heap.size w w4) := ⟨HB3.out.trans (hb4.mono HB3.out.size)⟩
                clear hb4
                go_wp2_with fail
                refine (cP.out _).mono ?_
                rintro e w5 ⟨rfl, hb5⟩
                have HB5 : Box' (Below w.heap.size w w5) := ⟨HB4.out.trans (hb5.mono HB4.out.size)⟩
                clear hb5
                go_wp2_with fail
                exact ⟨⟨p + 1, nn + 1, o ++ P, by omega, by omega, by go_num, by go_num, rfl, HNX, ⟨HPP.out⟩, by rw [apz]; omega, by rw [apz]; omega, HB5.out⟩, by simp [RowKit.intOf]; omega⟩
              · obtain ⟨tb, tq, t, hto, hmod, ht0, ht1, htc⟩ := HTN.out nn hts
                have hlp : 0 < ts.length := List.length_pos_iff.2 hts
                have HTC : Box' _ := ⟨htc⟩
                subst hto
                clear hts htc
                obtain ⟨k, hk3, hkt⟩ : ∃ k : Nat, k < 3 ∧ (k : Int) = t % 3 := ⟨(t % 3).toNat, by omega, by omega⟩
                have HKT : Box' ((k : Int) = t % 3) := ⟨hkt⟩
                clear hkt
                have hz := ot1_len 64 k
                have cP : Box' (∀ V, Calls Tryd.prog 55 #[.string X, .int .i64 (t % 3)] V fun e w' => e = .returned (.string (txt (ot1 64 k))) ∧ Below V.heap.size V w') := ⟨fun V => by rw [← HKT.out]; exact cO.out k hk3 V⟩
                have HP := HPR.out.at1 k hlt HC.out HPT.out
                have HPP : Box' _ := ⟨HP⟩
                clear HP
                have hzz : 1 ≤ (txt (ot1 64 k)).size ∧ (txt (ot1 64 k)).size ≤ 3 := by rw [txt_size]; exact hz
                obtain ⟨hzy, hzz⟩ := hzz
                generalize txt (ot1 64 k) = P at *
                have hao : ∀ V, (Op.stringOp .add o P).run Tryd.prog V = .ok (.string (o ++ P)) V := fun V => add_ok o P (by omega) V
                clear hz
                go_wp2_with fail
                refine (cW.out _).mono ?_
                rintro e w2 ⟨rfl, hb2⟩
                have HB2 : Box' (Below w.heap.size w w2) := ⟨HBR.out.trans (hb2.mono HBR.out.size)⟩
                clear hb2
                have htc2 := HTC.out w2 HB2.out
                go_wp2_with fail
                refine (cR.out _).mono ?_
                rintro e w3 ⟨rfl, hb3⟩
                have HB3 : Box' (Below w.heap.size w w3) := ⟨HB2.out.trans (hb3.mono HB2.out.size)⟩
                clear hb3
                go_wp2_with fail
                refine (cK.out _).mono ?_
                rintro e w4 ⟨rfl, hb4⟩
                have HB4 : Box' (Below w.heap.size w w4) := ⟨HB3.out.trans (hb4.mono HB3.out.size)⟩
                clear hb4
                go_wp2_with fail
                refine (cP.out _).mono ?_
                rintro e w5 ⟨rfl, hb5⟩
                have HB5 : Box' (Below w.heap.size w w5) := ⟨HB4.out.trans (hb5.mono HB4.out.size)⟩
                clear hb5
                go_wp2_with fail
                exact ⟨⟨p + 1, nn + 1, o ++ P, by omega, by omega, by go_num, by go_num, rfl, HNX, ⟨HPP.out⟩, by rw [apz]; omega, by rw [apz]; omega, HB5.out⟩, by simp [RowKit.intOf]; omega⟩
          · have hge : ∀ V, (binOp .geq 9 (.string X) (.string ⟨#[48]⟩)).run Tryd.prog V = .ok (.bool true) V := fun V => by rw [geq_run, ge_high F.hx (by omega)]
            have hleq : ∀ V, (binOp .leq 9 (.string X) (.string ⟨#[57]⟩)).run Tryd.prog V = .ok (.bool false) V := fun V => by rw [leq_run, le_high F.hx (hhi)]
            clear hhi
            rcases F.nx with ⟨hn1, hn2⟩ | ⟨hn1, hn2⟩
            · have hnI : (p : Int) + (1 : Int) < (s.size : Int) := by omega
              have hle1 : (p : Int) + (1 : Int) ≤ (s.size : Int) := by omega
              by_cases hts : ts = []
              · have hl0 : ¬ (0 < (ts.length : Int)) := by rw [hts]; simp
                have hl0d : decide (0 < ts.length) = false := by rw [hts]; rfl
                clear hts
                have hz := ot1_len 64 0
                have cP : Box' (∀ V, Calls Tryd.prog 55 #[.string X, .int .i64 0] V fun e w' => e = .returned (.string (txt (ot1 64 0))) ∧ Below V.heap.size V w') := ⟨fun V => cO.out 0 (by omega) V⟩
                have HP := HPR.out.at1 0 hlt HC.out HPT.out
                have HPP : Box' _ := ⟨HP⟩
                clear HP
                have hzz : 1 ≤ (txt (ot1 64 0)).size ∧ (txt (ot1 64 0)).size ≤ 3 := by rw [txt_size]; exact hz
                obtain ⟨hzy, hzz⟩ := hzz
                generalize txt (ot1 64 0) = P at *
                have hao : ∀ V, (Op.stringOp .add o P).run Tryd.prog V = .ok (.string (o ++ P)) V := fun V => add_ok o P (by omega) V
                clear hz
                go_wp2_with fail
                refine (cW.out _).mono ?_
                rintro e w2 ⟨rfl, hb2⟩
                have HB2 : Box' (Below w.heap.size w w2) := ⟨HBR.out.trans (hb2.mono HBR.out.size)⟩
                clear hb2
                go_wp2_with fail
                refine (cR.out _).mono ?_
                rintro e w3 ⟨rfl, hb3⟩
                have HB3 : Box' (Below w.heap.size w w3) := ⟨HB2.out.trans (hb3.mono HB2.out.size)⟩
                clear hb3
                go_wp2_with fail
                refine (cK.out _).mono ?_
                rintro e w4 ⟨rfl, hb4⟩
                have HB4 : Box' (Below w.heap.size w w4) := ⟨HB3.out.trans (hb4.mono HB3.out.size)⟩
                clear hb4
                go_wp2_with fail
                refine (cP.out _).mono ?_
                rintro e w5 ⟨rfl, hb5⟩
                have HB5 : Box' (Below w.heap.size w w5) := ⟨HB4.out.trans (hb5.mono HB4.out.size)⟩
                clear hb5
                go_wp2_with fail
                exact ⟨⟨p + 1, nn + 1, o ++ P, by omega, by omega, by go_num, by go_num, rfl, HNX, ⟨HPP.out⟩, by rw [apz]; omega, by rw [apz]; omega, HB5.out⟩, by simp [RowKit.intOf]; omega⟩
              · obtain ⟨tb, tq, t, hto, hmod, ht0, ht1, htc⟩ := HTN.out nn hts
                have hlp : 0 < ts.length := List.length_pos_iff.2 hts
                have HTC : Box' _ := ⟨htc⟩
                subst hto
                clear hts htc
                obtain ⟨k, hk3, hkt⟩ : ∃ k : Nat, k < 3 ∧ (k : Int) = t % 3 := ⟨(t % 3).toNat, by omega, by omega⟩
                have HKT : Box' ((k : Int) = t % 3) := ⟨hkt⟩
                clear hkt
                have hz := ot1_len 64 k
                have cP : Box' (∀ V, Calls Tryd.prog 55 #[.string X, .int .i64 (t % 3)] V fun e w' => e = .returned (.string (txt (ot1 64 k))) ∧ Below V.heap.size V w') := ⟨fun V => by rw [← HKT.out]; exact cO.out k hk3 V⟩
                have HP := HPR.out.at1 k hlt HC.out HPT.out
                have HPP : Box' _ := ⟨HP⟩
                clear HP
                have hzz : 1 ≤ (txt (ot1 64 k)).size ∧ (txt (ot1 64 k)).size ≤ 3 := by rw [txt_size]; exact hz
                obtain ⟨hzy, hzz⟩ := hzz
                generalize txt (ot1 64 k) = P at *
                have hao : ∀ V, (Op.stringOp .add o P).run Tryd.prog V = .ok (.string (o ++ P)) V := fun V => add_ok o P (by omega) V
                clear hz
                go_wp2_with fail
                refine (cW.out _).mono ?_
                rintro e w2 ⟨rfl, hb2⟩
                have HB2 : Box' (Below w.heap.size w w2) := ⟨HBR.out.trans (hb2.mono HBR.out.size)⟩
                clear hb2
                have htc2 := HTC.out w2 HB2.out
                go_wp2_with fail
                refine (cR.out _).mono ?_
                rintro e w3 ⟨rfl, hb3⟩
                have HB3 : Box' (Below w.heap.size w w3) := ⟨HB2.out.trans (hb3.mono HB2.out.size)⟩
                clear hb3
                go_wp2_with fail
                refine (cK.out _).mono ?_
                rintro e w4 ⟨rfl, hb4⟩
                have HB4 : Box' (Below w.heap.size w w4) := ⟨HB3.out.trans (hb4.mono HB3.out.size)⟩
                clear hb4
                go_wp2_with fail
                refine (cP.out _).mono ?_
                rintro e w5 ⟨rfl, hb5⟩
                have HB5 : Box' (Below w.heap.size w w5) := ⟨HB4.out.trans (hb5.mono HB4.out.size)⟩
                clear hb5
                go_wp2_with fail
                exact ⟨⟨p + 1, nn + 1, o ++ P, by omega, by omega, by go_num, by go_num, rfl, HNX, ⟨HPP.out⟩, by rw [apz]; omega, by rw [apz]; omega, HB5.out⟩, by simp [RowKit.intOf]; omega⟩
            · have hnI : ¬ ((p : Int) + (1 : Int) < (s.size : Int)) := by omega
              have hle1 : (p : Int) + (1 : Int) ≤ (s.size : Int) := by omega
              clear hn1
              subst hn2
              by_cases hts : ts = []
              · have hl0 : ¬ (0 < (ts.length : Int)) := by rw [hts]; simp
                have hl0d : decide (0 < ts.length) = false := by rw [hts]; rfl
                clear hts
                have hz := ot1_len 64 0
                have cP : Box' (∀ V, Calls Tryd.prog 55 #[.string X, .int .i64 0] V fun e w' => e = .returned (.string (txt (ot1 64 0))) ∧ Below V.heap.size V w') := ⟨fun V => cO.out 0 (by omega) V⟩
                have HP := HPR.out.at1 0 hlt HC.out HPT.out
                have HPP : Box' _ := ⟨HP⟩
                clear HP
                have hzz : 1 ≤ (txt (ot1 64 0)).size ∧ (txt (ot1 64 0)).size ≤ 3 := by rw [txt_size]; exact hz
                obtain ⟨hzy, hzz⟩ := hzz
                generalize txt (ot1 64 0) = P at *
                have hao : ∀ V, (Op.stringOp .add o P).run Tryd.prog V = .ok (.string (o ++ P)) V := fun V => add_ok o P (by omega) V
                clear hz
                go_wp2_with fail
                refine (cW.out _).mono ?_
                rintro e w2 ⟨rfl, hb2⟩
                have HB2 : Box' (Below w.heap.size w w2) := ⟨HBR.out.trans (hb2.mono HBR.out.size)⟩
                clear hb2
                go_wp2_with fail
                refine (cR.out _).mono ?_
                rintro e w3 ⟨rfl, hb3⟩
                have HB3 : Box' (Below w.heap.size w w3) := ⟨HB2.out.trans (hb3.mono HB2.out.size)⟩
                clear hb3
                go_wp2_with fail
                refine (cK.out _).mono ?_
                rintro e w4 ⟨rfl, hb4⟩
                have HB4 : Box' (Below w.heap.size w w4) := ⟨HB3.out.trans (hb4.mono HB3.out.size)⟩
                clear hb4
                go_wp2_with fail
                refine (cP.out _).mono ?_
                rintro e w5 ⟨rfl, hb5⟩
                have HB5 : Box' (Below w.heap.size w w5) := ⟨HB4.out.trans (hb5.mono HB4.out.size)⟩
                clear hb5
                go_wp2_with fail
                exact ⟨⟨p + 1, nn + 1, o ++ P, by omega, by omega, by go_num, by go_num, rfl, HNX, ⟨HPP.out⟩, by rw [apz]; omega, by rw [apz]; omega, HB5.out⟩, by simp [RowKit.intOf]; omega⟩
              · obtain ⟨tb, tq, t, hto, hmod, ht0, ht1, htc⟩ := HTN.out nn hts
                have hlp : 0 < ts.length := List.length_pos_iff.2 hts
                have HTC : Box' _ := ⟨htc⟩
                subst hto
                clear hts htc
                obtain ⟨k, hk3, hkt⟩ : ∃ k : Nat, k < 3 ∧ (k : Int) = t % 3 := ⟨(t % 3).toNat, by omega, by omega⟩
                have HKT : Box' ((k : Int) = t % 3) := ⟨hkt⟩
                clear hkt
                have hz := ot1_len 64 k
                have cP : Box' (∀ V, Calls Tryd.prog 55 #[.string X, .int .i64 (t % 3)] V fun e w' => e = .returned (.string (txt (ot1 64 k))) ∧ Below V.heap.size V w') := ⟨fun V => by rw [← HKT.out]; exact cO.out k hk3 V⟩
                have HP := HPR.out.at1 k hlt HC.out HPT.out
                have HPP : Box' _ := ⟨HP⟩
                clear HP
                have hzz : 1 ≤ (txt (ot1 64 k)).size ∧ (txt (ot1 64 k)).size ≤ 3 := by rw [txt_size]; exact hz
                obtain ⟨hzy, hzz⟩ := hzz
                generalize txt (ot1 64 k) = P at *
                have hao : ∀ V, (Op.stringOp .add o P).run Tryd.prog V = .ok (.string (o ++ P)) V := fun V => add_ok o P (by omega) V
                clear hz
                go_wp2_with fail
                refine (cW.out _).mono ?_
                rintro e w2 ⟨rfl, hb2⟩
                have HB2 : Box' (Below w.heap.size w w2) := ⟨HBR.out.trans (hb2.mono HBR.out.size)⟩
                clear hb2
                have htc2 := HTC.out w2 HB2.out
                go_wp2_with fail
                refine (cR.out _).mono ?_
                rintro e w3 ⟨rfl, hb3⟩
                have HB3 : Box' (Below w.heap.size w w3) := ⟨HB2.out.trans (hb3.mono HB2.out.size)⟩
                clear hb3
                go_wp2_with fail
                refine (cK.out _).mono ?_
                rintro e w4 ⟨rfl, hb4⟩
                have HB4 : Box' (Below w.heap.size w w4) := ⟨HB3.out.trans (hb4.mono HB3.out.size)⟩
                clear hb4
                go_wp2_with fail
                refine (cP.out _).mono ?_
                rintro e w5 ⟨rfl, hb5⟩
                have HB5 : Box' (Below w.heap.size w w5) := ⟨HB4.out.trans (hb5.mono HB4.out.size)⟩
                clear hb5
                go_wp2_with fail
                exact ⟨⟨p + 1, nn + 1, o ++ P, by omega, by omega, by go_num, by go_num, rfl, HNX, ⟨HPP.out⟩, by rw [apz]; omega, by rw [apz]; omega, HB5.out⟩, by simp [RowKit.intOf]; omega⟩
      | @two _ c h0 hc hc1 h1 next =>
        as_aux_lemma =>
          obtain ⟨X, Nx, Y, F⟩ := fs_mk hlt (glow s p (by rw [hc]; rcases h1 with rfl | rfl | rfl <;> decide)) (W := 1) (by rw [dlow s p (by rw [hc]; rcases h1 with rfl | rfl | rfl <;> decide)])
          rw [hc] at F
          have hY : Y = txt [c, c] := by
            rcases F.nx with ⟨hn1, hn2⟩ | ⟨hn1, hn2⟩
            · rw [← F.add, F.one rfl, ← hn2, ext_one hn1, hc1, ← txt_append]; rfl
            · omega
          have hNx : s.extract (p + 1) (p + 1 + 1) = Nx := by
            rcases F.nx with ⟨hn1, hn2⟩ | ⟨hn1, hn2⟩
            · exact hn2
            · omega
          have HPA : Box' (∀ k, Pre s pat (p + 2) (o ++ txt (ot2 c k))) := ⟨fun k => HPR.out.two k h0 hc hc1 h1⟩
          have HNX : Box' (Toks s pat (p + 2)) := ⟨next⟩
          have cO : Box' (∀ k : Nat, k < 3 → ∀ V, Calls Tryd.prog 55 #[.string Y, .int .i64 (k : Int)] V fun e w' => e = .returned (.string (txt (ot2 c k))) ∧ Below V.heap.size V w') := ⟨fun k hk V => by rw [hY]; exact other_two h1 k hk V⟩
          have hYl : Y.toList = [c, c] := by rw [hY, toList_data]; rfl
          have hnI : (p : Int) + 1 < (s.size : Int) := by omega
          have cW : Box' (∀ V, Calls Tryd.prog 54 #[.string s, .int .i64 (p : Int)] V fun e w' => e = .returned (.int .i64 ((1 : Nat) : Int)) ∧ Below V.heap.size V w') := ⟨fun V => by have := refWidth_in s p V hlt hs0; rw [F.wd] at this; exact this⟩
          have hext := F.ext
          have hadd : ∀ V, (Op.stringOp .add X Nx).run Tryd.prog V = .ok (.string Y) V := fun V => by rw [add_ok X Nx (by have := F.szx; have := F.szn; have := F.w4; omega) V, F.add]
          clear hc hc1 next hY
          obtain h60 | h62 | h61 : c = 60 ∨ c = 62 ∨ c = 61 := by rcases h1 with h | h | h <;> simp [h]
          · have q60 : (Y.toList == [60, 60]) = true := by rw [hYl, h60]; rfl
            clear h1 h60
            by_cases hts : ts = []
            · have hl0 : ¬ (0 < (ts.length : Int)) := by rw [hts]; simp
              have hl0d : decide (0 < ts.length) = false := by rw [hts]; rfl
              clear hts
              have hz := ot2_len c 0
              have cP : Box' (∀ V, Calls Tryd.prog 55 #[.string Y, .int .i64 0] V fun e w' => e = .returned (.string (txt (ot2 c 0))) ∧ Below V.heap.size V w') := ⟨fun V => cO.out 0 (by omega) V⟩
              have HP := HPA.out 0
              have HPP : Box' _ := ⟨HP⟩
              clear HP
              have hzz : 2 ≤ (txt (ot2 c 0)).size ∧ (txt (ot2 c 0)).size ≤ 3 := by rw [txt_size]; exact hz
              obtain ⟨hzy, hzz⟩ := hzz
              generalize txt (ot2 c 0) = P at *
              have hao : ∀ V, (Op.stringOp .add o P).run Tryd.prog V = .ok (.string (o ++ P)) V := fun V => add_ok o P (by omega) V
              clear hz cO HPA hYl
              go_wp2_with fail
              refine (cW.out _).mono ?_
              rintro e w2 ⟨rfl, hb2⟩
              have HB2 : Box' (Below w.heap.size w w2) := ⟨HBR.out.trans (hb2.mono HBR.out.size)⟩
              clear hb2
              go_wp2_with fail
              refine (cP.out _).mono ?_
              rintro e w5 ⟨rfl, hb5⟩
              have HB5 : Box' (Below w.heap.size w w5) := ⟨HB2.out.trans (hb5.mono HB2.out.size)⟩
              clear hb5
              go_wp2_with fail
              exact ⟨⟨p + 2, nn + 1, o ++ P, by omega, by omega, by go_num, by go_num, rfl, HNX, ⟨HPP.out⟩, by rw [apz]; omega, by rw [apz]; omega, HB5.out⟩, by simp [RowKit.intOf]; omega⟩
            · obtain ⟨tb, tq, t, hto, hmod, ht0, ht1, htc⟩ := HTN.out nn hts
              have hlp : 0 < ts.length := List.length_pos_iff.2 hts
              have HTC : Box' _ := ⟨htc⟩
              subst hto
              clear hts htc
              obtain ⟨k, hk3, hkt⟩ : ∃ k : Nat, k < 3 ∧ (k : Int) = t % 3 := ⟨(t % 3).toNat, by omega, by omega⟩
              have HKT : Box' ((k : Int) = t % 3) := ⟨hkt⟩
              clear hkt
              have hz := ot2_len c k
              have cP : Box' (∀ V, Calls Tryd.prog 55 #[.string Y, .int .i64 (t % 3)] V fun e w' => e = .returned (.string (txt (ot2 c k))) ∧ Below V.heap.size V w') := ⟨fun V => by rw [← HKT.out]; exact cO.out k hk3 V⟩
              have HP := HPA.out k
              have HPP : Box' _ := ⟨HP⟩
              clear HP
              have hzz : 2 ≤ (txt (ot2 c k)).size ∧ (txt (ot2 c k)).size ≤ 3 := by rw [txt_size]; exact hz
              obtain ⟨hzy, hzz⟩ := hzz
              generalize txt (ot2 c k) = P at *
              have hao : ∀ V, (Op.stringOp .add o P).run Tryd.prog V = .ok (.string (o ++ P)) V := fun V => add_ok o P (by omega) V
              clear hz cO HPA hYl
              go_wp2_with fail
              refine (cW.out _).mono ?_
              rintro e w2 ⟨rfl, hb2⟩
              have HB2 : Box' (Below w.heap.size w w2) := ⟨HBR.out.trans (hb2.mono HBR.out.size)⟩
              clear hb2
              have htc2 := HTC.out w2 HB2.out
              go_wp2_with fail
              refine (cP.out _).mono ?_
              rintro e w5 ⟨rfl, hb5⟩
              have HB5 : Box' (Below w.heap.size w w5) := ⟨HB2.out.trans (hb5.mono HB2.out.size)⟩
              clear hb5
              go_wp2_with fail
              exact ⟨⟨p + 2, nn + 1, o ++ P, by omega, by omega, by go_num, by go_num, rfl, HNX, ⟨HPP.out⟩, by rw [apz]; omega, by rw [apz]; omega, HB5.out⟩, by simp [RowKit.intOf]; omega⟩
          · have q60 : (Y.toList == [60, 60]) = false := by rw [hYl, h62]; rfl
            have q62 : (Y.toList == [62, 62]) = true := by rw [hYl, h62]; rfl
            clear h1 h62
            by_cases hts : ts = []
            · have hl0 : ¬ (0 < (ts.length : Int)) := by rw [hts]; simp
              have hl0d : decide (0 < ts.length) = false := by rw [hts]; rfl
              clear hts
              have hz := ot2_len c 0
              have cP : Box' (∀ V, Calls Tryd.prog 55 #[.string Y, .int .i64 0] V fun e w' => e = .returned (.string (txt (ot2 c 0))) ∧ Below V.heap.size V w') := ⟨fun V => cO.out 0 (by omega) V⟩
              have HP := HPA.out 0
              have HPP : Box' _ := ⟨HP⟩
              clear HP
              have hzz : 2 ≤ (txt (ot2 c 0)).size ∧ (txt (ot2 c 0)).size ≤ 3 := by rw [txt_size]; exact hz
              obtain ⟨hzy, hzz⟩ := hzz
              generalize txt (ot2 c 0) = P at *
              have hao : ∀ V, (Op.stringOp .add o P).run Tryd.prog V = .ok (.string (o ++ P)) V := fun V => add_ok o P (by omega) V
              clear hz cO HPA hYl
              go_wp2_with fail
              refine (cW.out _).mono ?_
              rintro e w2 ⟨rfl, hb2⟩
              have HB2 : Box' (Below w.heap.size w w2) := ⟨HBR.out.trans (hb2.mono HBR.out.size)⟩
              clear hb2
              go_wp2_with fail
              refine (cP.out _).mono ?_
              rintro e w5 ⟨rfl, hb5⟩
              have HB5 : Box' (Below w.heap.size w w5) := ⟨HB2.out.trans (hb5.mono HB2.out.size)⟩
              clear hb5
              go_wp2_with fail
              exact ⟨⟨p + 2, nn + 1, o ++ P, by omega, by omega, by go_num, by go_num, rfl, HNX, ⟨HPP.out⟩, by rw [apz]; omega, by rw [apz]; omega, HB5.out⟩, by simp [RowKit.intOf]; omega⟩
            · obtain ⟨tb, tq, t, hto, hmod, ht0, ht1, htc⟩ := HTN.out nn hts
              have hlp : 0 < ts.length := List.length_pos_iff.2 hts
              have HTC : Box' _ := ⟨htc⟩
              subst hto
              clear hts htc
              obtain ⟨k, hk3, hkt⟩ : ∃ k : Nat, k < 3 ∧ (k : Int) = t % 3 := ⟨(t % 3).toNat, by omega, by omega⟩
              have HKT : Box' ((k : Int) = t % 3) := ⟨hkt⟩
              clear hkt
              have hz := ot2_len c k
              have cP : Box' (∀ V, Calls Tryd.prog 55 #[.string Y, .int .i64 (t % 3)] V fun e w' => e = .returned (.string (txt (ot2 c k))) ∧ Below V.heap.size V w') := ⟨fun V => by rw [← HKT.out]; exact cO.out k hk3 V⟩
              have HP := HPA.out k
              have HPP : Box' _ := ⟨HP⟩
              clear HP
              have hzz : 2 ≤ (txt (ot2 c k)).size ∧ (txt (ot2 c k)).size ≤ 3 := by rw [txt_size]; exact hz
              obtain ⟨hzy, hzz⟩ := hzz
              generalize txt (ot2 c k) = P at *
              have hao : ∀ V, (Op.stringOp .add o P).run Tryd.prog V = .ok (.string (o ++ P)) V := fun V => add_ok o P (by omega) V
              clear hz cO HPA hYl
              go_wp2_with fail
              refine (cW.out _).mono ?_
              rintro e w2 ⟨rfl, hb2⟩
              have HB2 : Box' (Below w.heap.size w w2) := ⟨HBR.out.trans (hb2.mono HBR.out.size)⟩
              clear hb2
              have htc2 := HTC.out w2 HB2.out
              go_wp2_with fail
              refine (cP.out _).mono ?_
              rintro e w5 ⟨rfl, hb5⟩
              have HB5 : Box' (Below w.heap.size w w5) := ⟨HB2.out.trans (hb5.mono HB2.out.size)⟩
              clear hb5
              go_wp2_with fail
              exact ⟨⟨p + 2, nn + 1, o ++ P, by omega, by omega, by go_num, by go_num, rfl, HNX, ⟨HPP.out⟩, by rw [apz]; omega, by rw [apz]; omega, HB5.out⟩, by simp [RowKit.intOf]; omega⟩
          · have q60 : (Y.toList == [60, 60]) = false := by rw [hYl, h61]; rfl
            have q62 : (Y.toList == [62, 62]) = false := by rw [hYl, h61]; rfl
            have q61 : (Y.toList == [61, 61]) = true := by rw [hYl, h61]; rfl
            clear h1 h61
            by_cases hts : ts = []
            · have hl0 : ¬ (0 < (ts.length : Int)) := by rw [hts]; simp
              have hl0d : decide (0 < ts.length) = false := by rw [hts]; rfl
              clear hts
              have hz := ot2_len c 0
              have cP : Box' (∀ V, Calls Tryd.prog 55 #[.string Y, .int .i64 0] V fun e w' => e = .returned (.string (txt (ot2 c 0))) ∧ Below V.heap.size V w') := ⟨fun V => cO.out 0 (by omega) V⟩
              have HP := HPA.out 0
              have HPP : Box' _ := ⟨HP⟩
              clear HP
              have hzz : 2 ≤ (txt (ot2 c 0)).size ∧ (txt (ot2 c 0)).size ≤ 3 := by rw [txt_size]; exact hz
              obtain ⟨hzy, hzz⟩ := hzz
              generalize txt (ot2 c 0) = P at *
              have hao : ∀ V, (Op.stringOp .add o P).run Tryd.prog V = .ok (.string (o ++ P)) V := fun V => add_ok o P (by omega) V
              clear hz cO HPA hYl
              go_wp2_with fail
              refine (cW.out _).mono ?_
              rintro e w2 ⟨rfl, hb2⟩
              have HB2 : Box' (Below w.heap.size w w2) := ⟨HBR.out.trans (hb2.mono HBR.out.size)⟩
              clear hb2
              go_wp2_with fail
              refine (cP.out _).mono ?_
              rintro e w5 ⟨rfl, hb5⟩
              have HB5 : Box' (Below w.heap.size w w5) := ⟨HB2.out.trans (hb5.mono HB2.out.size)⟩
              clear hb5
              go_wp2_with fail
              exact ⟨⟨p + 2, nn + 1, o ++ P, by omega, by omega, by go_num, by go_num, rfl, HNX, ⟨HPP.out⟩, by rw [apz]; omega, by rw [apz]; omega, HB5.out⟩, by simp [RowKit.intOf]; omega⟩
            · obtain ⟨tb, tq, t, hto, hmod, ht0, ht1, htc⟩ := HTN.out nn hts
              have hlp : 0 < ts.length := List.length_pos_iff.2 hts
              have HTC : Box' _ := ⟨htc⟩
              subst hto
              clear hts htc
              obtain ⟨k, hk3, hkt⟩ : ∃ k : Nat, k < 3 ∧ (k : Int) = t % 3 := ⟨(t % 3).toNat, by omega, by omega⟩
              have HKT : Box' ((k : Int) = t % 3) := ⟨hkt⟩
              clear hkt
              have hz := ot2_len c k
              have cP : Box' (∀ V, Calls Tryd.prog 55 #[.string Y, .int .i64 (t % 3)] V fun e w' => e = .returned (.string (txt (ot2 c k))) ∧ Below V.heap.size V w') := ⟨fun V => by rw [← HKT.out]; exact cO.out k hk3 V⟩
              have HP := HPA.out k
              have HPP : Box' _ := ⟨HP⟩
              clear HP
              have hzz : 2 ≤ (txt (ot2 c k)).size ∧ (txt (ot2 c k)).size ≤ 3 := by rw [txt_size]; exact hz
              obtain ⟨hzy, hzz⟩ := hzz
              generalize txt (ot2 c k) = P at *
              have hao : ∀ V, (Op.stringOp .add o P).run Tryd.prog V = .ok (.string (o ++ P)) V := fun V => add_ok o P (by omega) V
              clear hz cO HPA hYl
              go_wp2_with fail
              refine (cW.out _).mono ?_
              rintro e w2 ⟨rfl, hb2⟩
              have HB2 : Box' (Below w.heap.size w w2) := ⟨HBR.out.trans (hb2.mono HBR.out.size)⟩
              clear hb2
              have htc2 := HTC.out w2 HB2.out
              go_wp2_with fail
              refine (cP.out _).mono ?_
              rintro e w5 ⟨rfl, hb5⟩
              have HB5 : Box' (Below w.heap.size w w5) := ⟨HB2.out.trans (hb5.mono HB2.out.size)⟩
              clear hb5
              go_wp2_with fail
              exact ⟨⟨p + 2, nn + 1, o ++ P, by omega, by omega, by go_num, by go_num, rfl, HNX, ⟨HPP.out⟩, by rw [apz]; omega, by rw [apz]; omega, HB5.out⟩, by simp [RowKit.intOf]; omega⟩
      | @nm _ nm hn hb hs next =>
        as_aux_lemma =>
          obtain ⟨a1, a2, a3⟩ := name_lo hn hb hs.spt
          obtain ⟨h65, hbad⟩ := kd1_first a3
          obtain ⟨W, hW⟩ : ∃ W, (Utf8.decode s p).2 = W := ⟨_, rfl⟩
          obtain ⟨X, Nx, Y, F⟩ := fs_mk hlt hbad hW
          have HNX : Box' (Toks s pat (p + nm.size)) := ⟨next⟩
          have HPP : Box' (Pre s pat (p + nm.size) (o ++ nm)) := ⟨HPR.out.nm hn hb hs⟩
          have hnz : nm.size ≤ 6500 ∧ 1 ≤ nm.size ∧ p + nm.size ≤ s.size := by have := hb.1; have := (nm_first nm hn).1; omega
          obtain ⟨z1, z2, z3⟩ := hnz
          have hnm := hb.ext
          have cS : Box' (∀ V, Calls Tryd.prog 59 #[.string s, .int .i64 (p : Int)] V fun e w' => e = .returned (.tuple #[.int .i64 ((p : Int) + (nm.size : Int)), .int .i64 0]) ∧ Below V.heap.size V w') := ⟨fun V => by
            have := refSpan_any s p V hs0
            have e2 := spF_nm hb hs nm.size 0 0 hn (Nat.zero_le _) (by omega) s.size (by omega)
            rw [Nat.add_zero] at e2
            rw [(span_in' s p hlt a3).1, e2] at this
            simpa using this⟩
          have w1 := F.w1
          have w4 := F.w4
          have wle := F.le
          have cW : Box' (∀ V, Calls Tryd.prog 54 #[.string s, .int .i64 (p : Int)] V fun e w' => e = .returned (.int .i64 ((W : Nat) : Int)) ∧ Below V.heap.size V w') := ⟨fun V => by have := refWidth_in s p V hlt hs0; rw [F.wd] at this; exact this⟩
          have hext := F.ext
          have hadd : ∀ V, (Op.stringOp .add X Nx).run Tryd.prog V = .ok (.string Y) V := fun V => by rw [add_ok X Nx (by have := F.szx; have := F.szn; have := F.w4; omega) V, F.add]
          have q60 : (Y.toList == [60, 60]) = false := eq_no F.hy (fun e => by rw [e] at h65; exact absurd h65 (by decide)) _
          have q62 : (Y.toList == [62, 62]) = false := eq_no F.hy (fun e => by rw [e] at h65; exact absurd h65 (by decide)) _
          have q61 : (Y.toList == [61, 61]) = false := eq_no F.hy (fun e => by rw [e] at h65; exact absurd h65 (by decide)) _
          have hge : ∀ V, (binOp .geq 9 (.string X) (.string ⟨#[48]⟩)).run Tryd.prog V = .ok (.bool true) V := fun V => by rw [geq_run, ge_high F.hx (by omega)]
          have hleq : ∀ V, (binOp .leq 9 (.string X) (.string ⟨#[57]⟩)).run Tryd.prog V = .ok (.bool false) V := fun V => by rw [leq_run, le_high F.hx (by omega)]
          have cR : Box' (∀ V, Calls Tryd.prog 58 #[.string s, .int .i64 (p : Int)] V fun e w' => e = .returned (.int .i32 (rn s p)) ∧ Below V.heap.size V w') := ⟨fun V => refRune_any s p V hs0 hp⟩
          have cK : Box' (∀ V, Calls Tryd.prog 57 #[.int .i32 (rn s p)] V fun e w' => e = .returned (.int .i64 (kd (Utf8.decode s p).1)) ∧ Below V.heap.size V w') := ⟨fun V => by have := refKind_kd (rn s p) V; rw [kd_rn s p hlt] at this; exact this⟩
          rw [a3] at cK
          clear a1 a2 a3 hW hbad h65 next hn hb hs
          have hmx1 : max 1 (W : Int) = (W : Int) := by omega
          have hwI : 1 ≤ (W : Int) := by omega
          have hwI4 : (W : Int) ≤ 4 := by omega
          generalize rn s p = rr at *
          have hao : ∀ V, (Op.stringOp .add o nm).run Tryd.prog V = .ok (.string (o ++ nm)) V := fun V => add_ok o nm (by omega) V
          rcases F.nx with ⟨hn1, hn2⟩ | ⟨hn1, hn2⟩
          · have hnI : (p : Int) + (W : Int) < (s.size : Int) := by omega
            have hle1 : (p : Int) + (W : Int) ≤ (s.size : Int) := by omega
            by_cases hts : ts = []
            · have hl0 : ¬ (0 < (ts.length : Int)) := by rw [hts]; simp
              have hl0d : decide (0 < ts.length) = false := by rw [hts]; rfl
              clear hts
              go_wp2_with fail
              refine (cW.out _).mono ?_
              rintro e w2 ⟨rfl, hb2⟩
              have HB2 : Box' (Below w.heap.size w w2) := ⟨HBR.out.trans (hb2.mono HBR.out.size)⟩
              clear hb2
              go_wp2_with fail
              refine (cR.out _).mono ?_
              rintro e w3 ⟨rfl, hb3⟩
              have HB3 : Box' (Below w.heap.size w w3) := ⟨HB2.out.trans (hb3.mono HB2.out.size)⟩
              clear hb3
              go_wp2_with fail
              refine (cK.out _).mono ?_
              rintro e w4 ⟨rfl, hb4⟩
              have HB4 : Box' (Below w.heap.size w w4) := ⟨HB3.out.trans (hb4.mono HB3.out.size)⟩
              clear hb4
              go_wp2_with fail
              refine (cS.out _).mono ?_
              rintro e w5 ⟨rfl, hb5⟩
              have HB5 : Box' (Below w.heap.size w w5) := ⟨HB4.out.trans (hb5.mono HB4.out.size)⟩
              clear hb5
              go_wp2_with fail
              exact ⟨⟨p + nm.size, nn + 1, o ++ nm, by omega, by omega, by go_num, by go_num, rfl, HNX, ⟨HPP.out⟩, by rw [apz]; omega, by rw [apz]; omega, HB5.out⟩, by simp [RowKit.intOf]; omega⟩
            · obtain ⟨tb, tq, t, hto, hmod, ht0, ht1, htc⟩ := HTN.out nn hts
              have hlp : 0 < ts.length := List.length_pos_iff.2 hts
              have HTC : Box' _ := ⟨htc⟩
              subst hto
              clear hts htc
              obtain ⟨k, hk3, hkt⟩ : ∃ k : Nat, k < 3 ∧ (k : Int) = t % 3 := ⟨(t % 3).toNat, by omega, by omega⟩
              have HKT : Box' ((k : Int) = t % 3) := ⟨hkt⟩
              clear hkt
              go_wp2_with fail
              refine (cW.out _).mono ?_
              rintro e w2 ⟨rfl, hb2⟩
              have HB2 : Box' (Below w.heap.size w w2) := ⟨HBR.out.trans (hb2.mono HBR.out.size)⟩
              clear hb2
              have htc2 := HTC.out w2 HB2.out
              go_wp2_with fail
              refine (cR.out _).mono ?_
              rintro e w3 ⟨rfl, hb3⟩
              have HB3 : Box' (Below w.heap.size w w3) := ⟨HB2.out.trans (hb3.mono HB2.out.size)⟩
              clear hb3
              go_wp2_with fail
              refine (cK.out _).mono ?_
              rintro e w4 ⟨rfl, hb4⟩
              have HB4 : Box' (Below w.heap.size w w4) := ⟨HB3.out.trans (hb4.mono HB3.out.size)⟩
              clear hb4
              go_wp2_with fail
              refine (cS.out _).mono ?_
              rintro e w5 ⟨rfl, hb5⟩
              have HB5 : Box' (Below w.heap.size w w5) := ⟨HB4.out.trans (hb5.mono HB4.out.size)⟩
              clear hb5
              go_wp2_with fail
              exact ⟨⟨p + nm.size, nn + 1, o ++ nm, by omega, by omega, by go_num, by go_num, rfl, HNX, ⟨HPP.out⟩, by rw [apz]; omega, by rw [apz]; omega, HB5.out⟩, by simp [RowKit.intOf]; omega⟩
          · have hnI : ¬ ((p : Int) + (W : Int) < (s.size : Int)) := by omega
            have hle1 : (p : Int) + (W : Int) ≤ (s.size : Int) := by omega
            clear hn1
            subst hn2
            by_cases hts : ts = []
            · have hl0 : ¬ (0 < (ts.length : Int)) := by rw [hts]; simp
              have hl0d : decide (0 < ts.length) = false := by rw [hts]; rfl
              clear hts
              go_wp2_with fail
              refine (cW.out _).mono ?_
              rintro e w2 ⟨rfl, hb2⟩
              have HB2 : Box' (Below w.heap.size w w2) := ⟨HBR.out.trans (hb2.mono HBR.out.size)⟩
              clear hb2
              go_wp2_with fail
              refine (cR.out _).mono ?_
              rintro e w3 ⟨rfl, hb3⟩
              have HB3 : Box' (Below w.heap.size w w3) := ⟨HB2.out.trans (hb3.mono HB2.out.size)⟩
              clear hb3
              go_wp2_with fail
              refine (cK.out _).mono ?_
              rintro e w4 ⟨rfl, hb4⟩
              have HB4 : Box' (Below w.heap.size w w4) := ⟨HB3.out.trans (hb4.mono HB3.out.size)⟩
              clear hb4
              go_wp2_with fail
              refine (cS.out _).mono ?_
              rintro e w5 ⟨rfl, hb5⟩
              have HB5 : Box' (Below w.heap.size w w5) := ⟨HB4.out.trans (hb5.mono HB4.out.size)⟩
              clear hb5
              go_wp2_with fail
              exact ⟨⟨p + nm.size, nn + 1, o ++ nm, by omega, by omega, by go_num, by go_num, rfl, HNX, ⟨HPP.out⟩, by rw [apz]; omega, by rw [apz]; omega, HB5.out⟩, by simp [RowKit.intOf]; omega⟩
            · obtain ⟨tb, tq, t, hto, hmod, ht0, ht1, htc⟩ := HTN.out nn hts
              have hlp : 0 < ts.length := List.length_pos_iff.2 hts
              have HTC : Box' _ := ⟨htc⟩
              subst hto
              clear hts htc
              obtain ⟨k, hk3, hkt⟩ : ∃ k : Nat, k < 3 ∧ (k : Int) = t % 3 := ⟨(t % 3).toNat, by omega, by omega⟩
              have HKT : Box' ((k : Int) = t % 3) := ⟨hkt⟩
              clear hkt
              go_wp2_with fail
              refine (cW.out _).mono ?_
              rintro e w2 ⟨rfl, hb2⟩
              have HB2 : Box' (Below w.heap.size w w2) := ⟨HBR.out.trans (hb2.mono HBR.out.size)⟩
              clear hb2
              have htc2 := HTC.out w2 HB2.out
              go_wp2_with fail
              refine (cR.out _).mono ?_
              rintro e w3 ⟨rfl, hb3⟩
              have HB3 : Box' (Below w.heap.size w w3) := ⟨HB2.out.trans (hb3.mono HB2.out.size)⟩
              clear hb3
              go_wp2_with fail
              refine (cK.out _).mono ?_
              rintro e w4 ⟨rfl, hb4⟩
              have HB4 : Box' (Below w.heap.size w w4) := ⟨HB3.out.trans (hb4.mono HB3.out.size)⟩
              clear hb4
              go_wp2_with fail
              refine (cS.out _).mono ?_
              rintro e w5 ⟨rfl, hb5⟩
              have HB5 : Box' (Below w.heap.size w w5) := ⟨HB4.out.trans (hb5.mono HB4.out.size)⟩
              clear hb5
              go_wp2_with fail
              exact ⟨⟨p + nm.size, nn + 1, o ++ nm, by omega, by omega, by go_num, by go_num, rfl, HNX, ⟨HPP.out⟩, by rw [apz]; omega, by rw [apz]; omega, HB5.out⟩, by simp [RowKit.intOf]; omega⟩
      | @nu _ u hu hb hs next =>
        as_aux_lemma =>
          obtain ⟨D, hD⟩ : ∃ D, (decDigits u).length = D := ⟨_, rfl⟩
          have hDne : 1 ≤ D := by rw [← hD]; exact dig_ne u
          have hb1 := hb.1
          rw [txt_size, hD] at hb1
          rw [hD] at hs
          have HDG : Box' (∀ j, j < D → 48 ≤ (s.get! (p + j)).toNat ∧ (s.get! (p + j)).toNat ≤ 57) := ⟨fun j hj => by
            have h2 := hb.2 j (by rw [txt_size, hD]; exact hj)
            rw [txt_get _ j (by rw [hD]; exact hj)] at h2
            rw [h2]; exact dig_mem u _ (List.getElem_mem _)⟩
          have HST : Box' (p + D < s.size → (s.get! (p + D)).toNat < 48) := ⟨fun h => by
            rcases hs with h1 | ⟨_, h1 | h1⟩
            · omega
            · rw [h1]; decide
            · rw [h1]; decide⟩
          obtain ⟨g1, g2⟩ := HDG.out 0 (by omega)
          rw [Nat.add_zero] at g1 g2
          obtain ⟨X, Nx, Y, F⟩ := fs_mk hlt (glow s p (by omega)) (W := 1) (by rw [dlow s p (by omega)])
          have HX : Box' (X = txt [s.get! p]) := ⟨F.one rfl⟩
          have hD100 : D ≤ 100 := by have := dec_len 19 u (by omega); omega
          have hPc : s.extract p (p + D) = txt (decDigits u) := by rw [← hD]; have := hb.ext; rw [txt_size] at this; exact this
          have HNX : Box' (Toks s pat (p + D)) := ⟨by rw [← hD]; exact next⟩
          have HPA : Box' (∀ k, Pre s pat (p + D) (o ++ txt (dgT k (decDigits u)))) := ⟨fun k => by have := HPR.out.nu k hu hb (by rw [hD]; exact hs); rw [hD] at this; exact this⟩
          have cD : Box' (∀ k : Nat, k < 3 → ∀ V, Calls Tryd.prog 56 #[.string (txt (decDigits u)), .int .i64 (k : Int)] V fun e w' => e = .returned (.string (txt (dgT k (decDigits u)))) ∧ Below V.heap.size V w') := ⟨fun k hk V => digits_any _ k hk (dig_mem u) (by omega) V⟩
          have HZL : Box' (∀ k, D ≤ (txt (dgT k (decDigits u))).size ∧ (txt (dgT k (decDigits u))).size ≤ 3 * D) := ⟨fun k => by rw [txt_size, ← hD]; exact dgT_len k _⟩
          have cW : Box' (∀ V, Calls Tryd.prog 54 #[.string s, .int .i64 (p : Int)] V fun e w' => e = .returned (.int .i64 ((1 : Nat) : Int)) ∧ Below V.heap.size V w') := ⟨fun V => by have := refWidth_in s p V hlt hs0; rw [F.wd] at this; exact this⟩
          have hext := F.ext
          have hadd : ∀ V, (Op.stringOp .add X Nx).run Tryd.prog V = .ok (.string Y) V := fun V => by rw [add_ok X Nx (by have := F.szx; have := F.szn; have := F.w4; omega) V, F.add]
          have q60 : (Y.toList == [60, 60]) = false := eq_no F.hy (fun e => by rw [e] at g2; exact absurd g2 (by decide)) _
          have q62 : (Y.toList == [62, 62]) = false := eq_no F.hy (fun e => by rw [e] at g2; exact absurd g2 (by decide)) _
          have q61 : (Y.toList == [61, 61]) = false := eq_no F.hy (fun e => by rw [e] at g2; exact absurd g2 (by decide)) _
          have hge : ∀ V, (binOp .geq 9 (.string X) (.string ⟨#[48]⟩)).run Tryd.prog V = .ok (.bool true) V := fun V => by rw [geq_run, ge_high F.hx (g1)]
          have hleq : ∀ V, (binOp .leq 9 (.string X) (.string ⟨#[57]⟩)).run Tryd.prog V = .ok (.bool true) V := fun V => by rw [leq_run, HX.out, le_low (g2)]
          generalize txt (decDigits u) = PD at *
          have hpD : (p : Int) + (D : Int) ≤ (s.size : Int) := by omega
          have hDI : (D : Int) ≤ 100 := by omega
          clear hD hb hs next g1 g2 hu
          rcases F.nx with ⟨hn1, hn2⟩ | ⟨hn1, hn2⟩
          · have hnI : (p : Int) + (1 : Int) < (s.size : Int) := by omega
            have hle1 : (p : Int) + (1 : Int) ≤ (s.size : Int) := by omega
            by_cases hts : ts = []
            · have hl0 : ¬ (0 < (ts.length : Int)) := by rw [hts]; simp
              have hl0d : decide (0 < ts.length) = false := by rw [hts]; rfl
              clear hts
              obtain ⟨hzy, hzz⟩ := HZL.out 0
              have HP := HPA.out 0
              have HPP : Box' _ := ⟨HP⟩
              clear HP
              have cP : Box' (∀ V, Calls Tryd.prog 56 #[.string PD, .int .i64 0] V fun e w' => e = .returned (.string (txt (dgT 0 (decDigits u)))) ∧ Below V.heap.size V w') := ⟨fun V => cD.out 0 (by omega) V⟩
              generalize txt (dgT 0 (decDigits u)) = P at *
              have hao : ∀ V, (Op.stringOp .add o P).run Tryd.prog V = .ok (.string (o ++ P)) V := fun V => add_ok o P (by omega) V
              clear cD HPA HZL
              go_wp2_with fail
              refine (cW.out _).mono ?_
              rintro e w2 ⟨rfl, hb2⟩
              have HB2 : Box' (Below w.heap.size w w2) := ⟨HBR.out.trans (hb2.mono HBR.out.size)⟩
              clear hb2
              go_wp2_with fail
              clear hn2 hext
              obtain ⟨wo, hwo⟩ : ∃ wo, wo = w2 := ⟨_, rfl⟩
              subst hwo
              go_loopw [8] (fun wv wr => ∃ j : Nat, 1 ≤ j ∧ j ≤ D ∧ wv = .int .i64 j ∧ wr = wo) (fun wv _ => D - (RowKit.intOf wv).toNat)
              case atStart => exact ⟨1, by omega, by omega, rfl, rfl⟩
              case round =>
                obtain ⟨j, hj1, hjD, rfl, rfl⟩ := hrel
                by_cases hjl : j < D
                · obtain ⟨d1, d2⟩ := HDG.out j hjl
                  have hlt2 : p + j < s.size := by omega
                  rw [Utf8W.get!_of_lt s (p + j) hlt2] at d1 d2
                  have d1I : (48 : Int) ≤ ((s[p + j].toNat : Nat) : Int) := by omega
                  have d2I : ((s[p + j].toNat : Nat) : Int) ≤ 57 := by omega
                  have hjI : (j : Int) < (s.size : Int) - (p : Int) := by omega
                  go_wp2_with fail
                  exact ⟨⟨j + 1, by omega, by omega, by go_num, (by first | rfl | trivial)⟩, by simp [RowKit.intOf]; omega⟩
                · obtain rfl : j = D := by omega
                  by_cases hend : p + j < s.size
                  · have d1 := HST.out hend
                    rw [Utf8W.get!_of_lt s (p + j) hend] at d1
                    have d1I : ¬ ((48 : Int) ≤ ((s[p + j].toNat : Nat) : Int)) := by omega
                    have hjI : (j : Int) < (s.size : Int) - (p : Int) := by omega
                    go_wp2_with fail
                    refine (cP.out _).mono ?_
                    rintro e w5 ⟨rfl, hb5⟩
                    have HB5 : Box' (Below w.heap.size w w5) := ⟨HB2.out.trans (hb5.mono HB2.out.size)⟩
                    clear hb5
                    go_wp2_with fail
                    exact ⟨⟨p + j, nn + 1, o ++ P, by omega, by omega, by go_num, by go_num, rfl, HNX, ⟨HPP.out⟩, by rw [apz]; omega, by rw [apz]; omega, HB5.out⟩, by simp [RowKit.intOf]; omega⟩
                  · have hjI : ¬ ((j : Int) < (s.size : Int) - (p : Int)) := by omega
                    go_wp2_with fail
                    refine (cP.out _).mono ?_
                    rintro e w5 ⟨rfl, hb5⟩
                    have HB5 : Box' (Below w.heap.size w w5) := ⟨HB2.out.trans (hb5.mono HB2.out.size)⟩
                    clear hb5
                    go_wp2_with fail
                    exact ⟨⟨p + j, nn + 1, o ++ P, by omega, by omega, by go_num, by go_num, rfl, HNX, ⟨HPP.out⟩, by rw [apz]; omega, by rw [apz]; omega, HB5.out⟩, by simp [RowKit.intOf]; omega⟩
            · obtain ⟨tb, tq, t, hto, hmod, ht0, ht1, htc⟩ := HTN.out nn hts
              have hlp : 0 < ts.length := List.length_pos_iff.2 hts
              have HTC : Box' _ := ⟨htc⟩
              subst hto
              clear hts htc
              obtain ⟨k, hk3, hkt⟩ : ∃ k : Nat, k < 3 ∧ (k : Int) = t % 3 := ⟨(t % 3).toNat, by omega, by omega⟩
              have HKT : Box' ((k : Int) = t % 3) := ⟨hkt⟩
              clear hkt
              obtain ⟨hzy, hzz⟩ := HZL.out k
              have HP := HPA.out k
              have HPP : Box' _ := ⟨HP⟩
              clear HP
              have cP : Box' (∀ V, Calls Tryd.prog 56 #[.string PD, .int .i64 (t % 3)] V fun e w' => e = .returned (.string (txt (dgT k (decDigits u)))) ∧ Below V.heap.size V w') := ⟨fun V => by rw [← HKT.out]; exact cD.out k hk3 V⟩
              generalize txt (dgT k (decDigits u)) = P at *
              have hao : ∀ V, (Op.stringOp .add o P).run Tryd.prog V = .ok (.string (o ++ P)) V := fun V => add_ok o P (by omega) V
              clear cD HPA HZL
              go_wp2_with fail
              refine (cW.out _).mono ?_
              rintro e w2 ⟨rfl, hb2⟩
              have HB2 : Box' (Below w.heap.size w w2) := ⟨HBR.out.trans (hb2.mono HBR.out.size)⟩
              clear hb2
              have htc2 := HTC.out w2 HB2.out
              go_wp2_with fail
              clear hn2 hext
              obtain ⟨wo, hwo⟩ : ∃ wo, wo = w2 := ⟨_, rfl⟩
              subst hwo
              go_loopw [8] (fun wv wr => ∃ j : Nat, 1 ≤ j ∧ j ≤ D ∧ wv = .int .i64 j ∧ wr = wo) (fun wv _ => D - (RowKit.intOf wv).toNat)
              case atStart => exact ⟨1, by omega, by omega, rfl, rfl⟩
              case round =>
                obtain ⟨j, hj1, hjD, rfl, rfl⟩ := hrel
                by_cases hjl : j < D
                · obtain ⟨d1, d2⟩ := HDG.out j hjl
                  have hlt2 : p + j < s.size := by omega
                  rw [Utf8W.get!_of_lt s (p + j) hlt2] at d1 d2
                  have d1I : (48 : Int) ≤ ((s[p + j].toNat : Nat) : Int) := by omega
                  have d2I : ((s[p + j].toNat : Nat) : Int) ≤ 57 := by omega
                  have hjI : (j : Int) < (s.size : Int) - (p : Int) := by omega
                  go_wp2_with fail
                  exact ⟨⟨j + 1, by omega, by omega, by go_num, (by first | rfl | trivial)⟩, by simp [RowKit.intOf]; omega⟩
                · obtain rfl : j = D := by omega
                  by_cases hend : p + j < s.size
                  · have d1 := HST.out hend
                    rw [Utf8W.get!_of_lt s (p + j) hend] at d1
                    have d1I : ¬ ((48 : Int) ≤ ((s[p + j].toNat : Nat) : Int)) := by omega
                    have hjI : (j : Int) < (s.size : Int) - (p : Int) := by omega
                    go_wp2_with fail
                    refine (cP.out _).mono ?_
                    rintro e w5 ⟨rfl, hb5⟩
                    have HB5 : Box' (Below w.heap.size w w5) := ⟨HB2.out.trans (hb5.mono HB2.out.size)⟩
                    clear hb5
                    go_wp2_with fail
                    exact ⟨⟨p + j, nn + 1, o ++ P, by omega, by omega, by go_num, by go_num, rfl, HNX, ⟨HPP.out⟩, by rw [apz]; omega, by rw [apz]; omega, HB5.out⟩, by simp [RowKit.intOf]; omega⟩
                  · have hjI : ¬ ((j : Int) < (s.size : Int) - (p : Int)) := by omega
                    go_wp2_with fail
                    refine (cP.out _).mono ?_
                    rintro e w5 ⟨rfl, hb5⟩
                    have HB5 : Box' (Below w.heap.size w w5) := ⟨HB2.out.trans (hb5.mono HB2.out.size)⟩
                    clear hb5
                    go_wp2_with fail
                    exact ⟨⟨p + j, nn + 1, o ++ P, by omega, by omega, by go_num, by go_num, rfl, HNX, ⟨HPP.out⟩, by rw [apz]; omega, by rw [apz]; omega, HB5.out⟩, by simp [RowKit.intOf]; omega⟩
          · have hnI : ¬ ((p : Int) + (1 : Int) < (s.size : Int)) := by omega
            have hle1 : (p : Int) + (1 : Int) ≤ (s.size : Int) := by omega
            clear hn1
            subst hn2
            by_cases hts : ts = []
            · have hl0 : ¬ (0 < (ts.length : Int)) := by rw [hts]; simp
              have hl0d : decide (0 < ts.length) = false := by rw [hts]; rfl
              clear hts
              obtain ⟨hzy, hzz⟩ := HZL.out 0
              have HP := HPA.out 0
              have HPP : Box' _ := ⟨HP⟩
              clear HP
              have cP : Box' (∀ V, Calls Tryd.prog 56 #[.string PD, .int .i64 0] V fun e w' => e = .returned (.string (txt (dgT 0 (decDigits u)))) ∧ Below V.heap.size V w') := ⟨fun V => cD.out 0 (by omega) V⟩
              generalize txt (dgT 0 (decDigits u)) = P at *
              have hao : ∀ V, (Op.stringOp .add o P).run Tryd.prog V = .ok (.string (o ++ P)) V := fun V => add_ok o P (by omega) V
              clear cD HPA HZL
              go_wp2_with fail
              refine (cW.out _).mono ?_
              rintro e w2 ⟨rfl, hb2⟩
              have HB2 : Box' (Below w.heap.size w w2) := ⟨HBR.out.trans (hb2.mono HBR.out.size)⟩
              clear hb2
              go_wp2_with fail
              clear hext
              obtain ⟨wo, hwo⟩ : ∃ wo, wo = w2 := ⟨_, rfl⟩
              subst hwo
              go_loopw [8] (fun wv wr => ∃ j : Nat, 1 ≤ j ∧ j ≤ D ∧ wv = .int .i64 j ∧ wr = wo) (fun wv _ => D - (RowKit.intOf wv).toNat)
              case atStart => exact ⟨1, by omega, by omega, rfl, rfl⟩
              case round =>
                obtain ⟨j, hj1, hjD, rfl, rfl⟩ := hrel
                by_cases hjl : j < D
                · exfalso
                  omega
                · obtain rfl : j = D := by omega
                  by_cases hend : p + j < s.size
                  · exfalso
                    omega
                  · have hjI : ¬ ((j : Int) < (s.size : Int) - (p : Int)) := by omega
                    go_wp2_with fail
                    refine (cP.out _).mono ?_
                    rintro e w5 ⟨rfl, hb5⟩
                    have HB5 : Box' (Below w.heap.size w w5) := ⟨HB2.out.trans (hb5.mono HB2.out.size)⟩
                    clear hb5
                    go_wp2_with fail
                    exact ⟨⟨p + j, nn + 1, o ++ P, by omega, by omega, by go_num, by go_num, rfl, HNX, ⟨HPP.out⟩, by rw [apz]; omega, by rw [apz]; omega, HB5.out⟩, by simp [RowKit.intOf]; omega⟩
            · obtain ⟨tb, tq, t, hto, hmod, ht0, ht1, htc⟩ := HTN.out nn hts
              have hlp : 0 < ts.length := List.length_pos_iff.2 hts
              have HTC : Box' _ := ⟨htc⟩
              subst hto
              clear hts htc
              obtain ⟨k, hk3, hkt⟩ : ∃ k : Nat, k < 3 ∧ (k : Int) = t % 3 := ⟨(t % 3).toNat, by omega, by omega⟩
              have HKT : Box' ((k : Int) = t % 3) := ⟨hkt⟩
              clear hkt
              obtain ⟨hzy, hzz⟩ := HZL.out k
              have HP := HPA.out k
              have HPP : Box' _ := ⟨HP⟩
              clear HP
              have cP : Box' (∀ V, Calls Tryd.prog 56 #[.string PD, .int .i64 (t % 3)] V fun e w' => e = .returned (.string (txt (dgT k (decDigits u)))) ∧ Below V.heap.size V w') := ⟨fun V => by rw [← HKT.out]; exact cD.out k hk3 V⟩
              generalize txt (dgT k (decDigits u)) = P at *
              have hao : ∀ V, (Op.stringOp .add o P).run Tryd.prog V = .ok (.string (o ++ P)) V := fun V => add_ok o P (by omega) V
              clear cD HPA HZL
              go_wp2_with fail
              refine (cW.out _).mono ?_
              rintro e w2 ⟨rfl, hb2⟩
              have HB2 : Box' (Below w.heap.size w w2) := ⟨HBR.out.trans (hb2.mono HBR.out.size)⟩
              clear hb2
              have htc2 := HTC.out w2 HB2.out
              go_wp2_with fail
              clear hext
              obtain ⟨wo, hwo⟩ : ∃ wo, wo = w2 := ⟨_, rfl⟩
              subst hwo
              go_loopw [8] (fun wv wr => ∃ j : Nat, 1 ≤ j ∧ j ≤ D ∧ wv = .int .i64 j ∧ wr = wo) (fun wv _ => D - (RowKit.intOf wv).toNat)
              case atStart => exact ⟨1, by omega, by omega, rfl, rfl⟩
              case round =>
                obtain ⟨j, hj1, hjD, rfl, rfl⟩ := hrel
                by_cases hjl : j < D
                · exfalso
                  omega
                · obtain rfl : j = D := by omega
                  by_cases hend : p + j < s.size
                  · exfalso
                    omega
                  · have hjI : ¬ ((j : Int) < (s.size : Int) - (p : Int)) := by omega
                    go_wp2_with fail
                    refine (cP.out _).mono ?_
                    rintro e w5 ⟨rfl, hb5⟩
                    have HB5 : Box' (Below w.heap.size w w5) := ⟨HB2.out.trans (hb5.mono HB2.out.size)⟩
                    clear hb5
                    go_wp2_with fail
                    exact ⟨⟨p + j, nn + 1, o ++ P, by omega, by omega, by go_num, by go_num, rfl, HNX, ⟨HPP.out⟩, by rw [apz]; omega, by rw [apz]; omega, HB5.out⟩, by simp [RowKit.intOf]; omega⟩
    · go_wp2_with fail
      go_ret
      have e : p = s.size := by omega
      subst e
      exact ⟨o, rfl, HPR.out.end_, by omega, hoy, HBR.out⟩
end Go.Proofs.YtjmccobblpcbhaaDoor
