/-
  SmD.
-/
import Derived.Test.YtjmccobblpcbhaaDoorChecked
import GoSem.PinnedTables
import GoSem.Claim
import GoSem.ClaimJoined
import GoSem.ClaimMapViews
import Derived.JoinedTies
import Derived.KernelRfl
import Derived.Shelf.Unicode.DecodeSlow
import Derived.Laws.RangeAny
import Derived.Shelf.Strings.Builder1
import Derived.Shelf.Small.Utf8
import Derived.Shelf.Small.Bits
import Derived.Shelf.Strings.BuilderF
import Derived.Shelf.Strings.BuilderK
import Derived.Shelf.Strings.BuilderRune
import Derived.Shelf.Utf8.AppendRune
import Derived.Shelf.Strconv.Itoa0
import Derived.Shelf.Strconv.Itoa1
import Derived.Shelf.LaysM
import Derived.Shelf.Strconv.Itoa2
import Derived.Shelf.Strconv.Itoa3
import Derived.Shelf.Strconv.Itoa4
import Derived.Shelf.Strings.Prefix
import Derived.Shelf.Unicode.DecodeAny
import Derived.Test.YtjmccobblpcbhaaDoorProg
import Derived.WalkKit
import Derived.Deep.DeepFit
import Derived.Lib.OthersKept
import Derived.Lib.RuneCountTail
import Derived.Lib.LaidU8
import Derived.MakeChecks
import Derived.ProofKit
import Derived.OpenShut
import Derived.Deep.DeepHandedRow
import Derived.Lib.MapLaws
import Derived.Sort.Walk0
import Derived.Laws.DeepStrings4
import Derived.Lib.ItoaNum
import Derived.Deep.AppendLies
import Derived.Deep.OwnRows
import Derived.Laws.AppendOwnNone
import Derived.Deep.QuietTactic
import Derived.BigQuiet
import Derived.Deep.RegionWith
import Derived.BigCall
import Derived.Lib.LaidTab
import Derived.Maps.OwnSet
import Derived.StringKeys
import Derived.Deep.Slices
import Derived.Lib.QuietBelow
import Derived.StillTail
import Derived.Laws.OwnMore
import Derived.Below
import Derived.Lib.Small
import Derived.Lib.Strings
import Derived.Deep.RegionHeld3
import Derived.Laws.ResultCell
import Derived.Deep.Heap
import Derived.Laws.Rows
import Derived.Deep.RegionLaw
import Derived.Test.YtjmccobblpcbhaaDoorRows
import Derived.Test.YtjmccobblpcbhaaDoorL01
import Derived.Test.YtjmccobblpcbhaaDoorL02
import Derived.Test.YtjmccobblpcbhaaDoorL03
import Derived.Test.YtjmccobblpcbhaaDoorL04
import Derived.Test.YtjmccobblpcbhaaDoorL05
import Derived.Test.YtjmccobblpcbhaaDoorL06
import Derived.Test.YtjmccobblpcbhaaDoorL07
import Derived.Test.YtjmccobblpcbhaaDoorL08
import Derived.Test.YtjmccobblpcbhaaDoorL09
import Derived.Test.YtjmccobblpcbhaaDoorL10
import Derived.Test.YtjmccobblpcbhaaDoorL11
import Derived.Test.YtjmccobblpcbhaaDoorL12
import Derived.Test.YtjmccobblpcbhaaDoorL13
import Derived.Test.YtjmccobblpcbhaaDoorL14
import Derived.Test.YtjmccobblpcbhaaDoorL15
import Derived.Test.YtjmccobblpcbhaaDoorL16
import Derived.Test.YtjmccobblpcbhaaDoorL17
import Derived.Test.YtjmccobblpcbhaaDoorL18
import Derived.Test.YtjmccobblpcbhaaDoorL19
import Derived.Test.YtjmccobblpcbhaaDoorL20
import Derived.Test.YtjmccobblpcbhaaDoorL21
import Derived.Test.YtjmccobblpcbhaaDoorL22
import Derived.Test.YtjmccobblpcbhaaDoorL23
import Derived.Test.YtjmccobblpcbhaaDoorL24
import Derived.Test.YtjmccobblpcbhaaDoorL25
import Derived.Test.YtjmccobblpcbhaaDoorL26
import Derived.Test.YtjmccobblpcbhaaDoorL27
import Derived.Test.YtjmccobblpcbhaaDoorL28
import Derived.Test.YtjmccobblpcbhaaDoorL29
import Derived.Test.YtjmccobblpcbhaaDoorL30
import Derived.Test.YtjmccobblpcbhaaDoorL31
import Derived.Test.YtjmccobblpcbhaaDoorL32
set_option linter.unusedSimpArgs false
set_option linter.unusedVariables false
namespace Go.Proofs.YtjmccobblpcbhaaDoor
open Go.Lib

/-- A sign of n bytes stands there, and what it is. -/
structure Pc (x : ByteArray) (pat : Bool) (q n : Nat) (w : Int) : Prop where
  lt : q < x.size
  lo : (x.get! q).toNat / 64 ≠ 2
  kd : kd (Utf8.decode x q).1 = 4
  tk : ∀ m, psFrom x pat m q = .ok ⟨w, q, q + n, 0, 0⟩
  ck : CkA x (q + n) → CkA x q
section
variable {s x : ByteArray} {pat : Bool}
theorem kd4_dig {r : Int} (h : kd r = 4) : digZ r = 0 := by
  by_cases hz : digZ r = 0
  · exact hz
  · have := (kd_two _).2 hz
    rw [h] at this; cases this
theorem kd_off {r : Int} (h : kd r = 3 ∨ kd r = 4) : onB r = false ∧ digZ r = 0 := by
  rcases h with h | h
  · exact ⟨by unfold onB; rw [h]; rfl, kd3_dig h⟩
  · exact ⟨by unfold onB; rw [h]; rfl, kd4_dig h⟩
theorem Pc.sm {p q a b : Nat} {w : Int} (h : Pc s pat p a w) (k : Pc x pat q b w) (hw : w ≠ 97) (hn : Sm s x pat (p + a) (q + b)) : Sm s x pat p q :=
  .tk (E := fun _ => 0) h.lt (by rw [h.kd]; decide) k.lt k.lo (by rw [k.kd]; decide) (by rw [num_no h.lt (kd4_dig h.kd), num_no k.lt (kd4_dig k.kd)]) (fun m _ => h.tk m) (fun m _ => k.tk m) (fun e => absurd e hw) k.ck hn
theorem pc_low {q : Nat} {c : UInt8} (hq : q < x.size) (h : x.get! q = c) (hc : c ∈ ([40, 41, 42, 43, 45, 47, 37, 38, 124, 94, 126, 60, 63, 58, 61, 62, 64] : List UInt8)) {w : Int} {n : Nat} (ht : ∀ m, psFrom x pat m q = .ok ⟨w, q, q + n, 0, 0⟩) (hn : CkA x (q + n) → CkA x (q + 1)) : Pc x pat q n w := by
  obtain ⟨k1, k2, _, _⟩ := sg1_kd c hc
  refine ⟨hq, by rw [h]; omega, ?_, ht, fun k => CkA.low hq (by rw [h]; exact k1) (hn k)⟩
  rw [dlow x q (by rw [h]; exact k1), h]; exact k2
theorem pc_two {q : Nat} {c : UInt8} (hq : q + 1 < x.size) (h : x.get! q = c) (h1 : x.get! (q + 1) = c) (hc : c = 60 ∨ c = 61 ∨ c = 62) : Pc x pat q 2 (if c = 60 then 8810 else if c = 61 then 8801 else 8811) :=
  pc_low (by omega) h (by rcases hc with rfl | rfl | rfl <;> decide) (fun m => two_tok hq h h1 hc pat m) (fun k => CkA.low hq (by rw [h1]; rcases hc with rfl | rfl | rfl <;> decide) k)
theorem pc_at {q : Nat} (hq : q < x.size) (h : x.get! q = 64) (hp : pat = true) : Pc x pat q 1 64 := by
  subst hp
  exact pc_low hq h (by decide) (fun m => at_tok hq h m) id
theorem pc_u3 {q : Nat} {a b c : UInt8} (hb : Bt x q (txt [a, b, c])) {w : Int} (h1 : a.toNat / 16 = 14 ∧ b.toNat / 64 = 2 ∧ c.toNat / 64 = 2 ∧ 2048 ≤ a.toNat % 16 * 4096 + b.toNat % 64 * 64 + c.toNat % 64 ∧ a.toNat % 16 * 4096 + b.toNat % 64 * 64 + c.toNat % 64 < 55296) (h2 : kd ((a.toNat % 16 * 4096 + b.toNat % 64 * 64 + c.toNat % 64 : Nat) : Int) = 4 ∧ psPlain ((a.toNat % 16 * 4096 + b.toNat % 64 * 64 + c.toNat % 64 : Nat) : Int) = w ∧ runeLen ((a.toNat % 16 * 4096 + b.toNat % 64 * 64 + c.toNat % 64 : Nat) : Int) = ((3 : Nat) : Int)) : Pc x pat q 3 w := by
  obtain ⟨g1, g2, g3⟩ := dec3 hb h1.1 h1.2.1 h1.2.2.1 h1.2.2.2.1 (.inl h1.2.2.2.2)
  have ha := h1.1
  have hv := h1.2.2.2
  exact ⟨g1, by rw [g2]; omega, by rw [g3]; exact h2.1, fun m => sgu_tok g1 (by rw [g2]; omega) g3 h2.1 h2.2.1 h2.2.2 (by omega) (by decide) pat m, fun k => CkA.chr g1 g3 (by omega) k⟩

/-! ### the spellings -/
def ot2 (c : UInt8) (k : Nat) : List UInt8 := if k = 0 then [c, c] else if c = 60 then [226, 137, 170] else if c = 62 then [226, 137, 171] else [226, 137, 161]
theorem pc_ot2 {q k : Nat} {c : UInt8} (hc : c = 60 ∨ c = 61 ∨ c = 62) (hb : Bt x q (txt (ot2 c k))) : Pc x pat q (ot2 c k).length (if c = 60 then 8810 else if c = 61 then 8801 else 8811) := by
  unfold ot2 at hb ⊢
  split at hb
  · rename_i h
    rw [if_pos h]
    have e2 : txt [c, c] = txt [c] ++ txt [c] := by rw [← txt_append]; rfl
    rw [e2] at hb
    obtain ⟨g1, g2⟩ := hb.app
    rw [tx1] at g2
    obtain ⟨c1, c2⟩ := g1.byte
    obtain ⟨c3, c4⟩ := g2.byte
    exact pc_two c3 c2 c4 hc
  · rename_i h
    rw [if_neg h]
    rcases hc with rfl | rfl | rfl
    · exact pc_u3 hb (by decide) (by decide +kernel)
    · exact pc_u3 hb (by decide) (by decide +kernel)
    · exact pc_u3 hb (by decide) (by decide +kernel)
/-- Where the text's stop stands, the other's stands. -/
theorem Sm.spt {p q : Nat} (h : Sm s x pat p q) (hs : Stq s p) : Spt x q := by
  cases h with
  | fin => exact ⟨.inl rfl, fun h => absurd h (Nat.lt_irrefl _)⟩
  | blk hp kp wp hq lo kq sq hc next => exact ⟨.inr lo, fun _ => kd_off (.inl kq)⟩
  | tk hp kp hq lo kq nm t1 t2 ex hc next =>
    refine ⟨.inr lo, fun _ => kd_off (.inr ?_)⟩
    rcases hs with h | ⟨_, h | h⟩
    · omega
    · have e := t1 mx63 (Nat.le_refl _)
      rw [close_at s pat mx63 p hp h] at e
      injection e with e
      injection e with e1
      have f := t2 mx63 (Nat.le_refl _)
      rw [← e1] at f
      unfold psFrom psAt at f
      rw [if_pos hq] at f
      split at f
      · injection f with f; injection f with f1; exact absurd f1 (by decide)
      · split at f
        · injection f with f; injection f with f1; exact absurd f1 (by decide)
        · split at f
          · rename_i hk; exact hk.1
          · cases f
    · exfalso
      apply kp
      rw [dlow s p (by rw [h]; decide), h]
      exact em_on.2.2.2.2.2
end

/-- What was spelled so far: whatever goes on as the text does has its tokens. -/
def Pre (s : ByteArray) (pat : Bool) (i : Nat) (out : ByteArray) : Prop := ∀ x, Bt x 0 out → Sm s x pat i out.size → Sm s x pat 0 0
section
variable {s out : ByteArray} {pat : Bool} {i : Nat}
theorem Pre.nil (s : ByteArray) (pat : Bool) : Pre s pat 0 ⟨#[]⟩ := fun x _ h => h
theorem Pre.end_ (h : Pre s pat s.size out) : Sm s out pat 0 0 := h out (Bt.self out) .fin
theorem Pre.put {j : Nat} {U : ByteArray} (h : Pre s pat i out) (hs : ∀ x q, Bt x q U → Sm s x pat j (q + U.size) → Sm s x pat i q) : Pre s pat j (out ++ U) := fun x hb hn => by
  obtain ⟨h1, h2⟩ := hb.app
  rw [Nat.zero_add] at h2
  rw [apz] at hn
  exact h x h1 (hs x _ h2 hn)
theorem Pre.two {c : UInt8} (k : Nat) (h : Pre s pat i out) (hp : i + 1 < s.size) (hc : s.get! i = c) (hc1 : s.get! (i + 1) = c) (h1 : c = 60 ∨ c = 61 ∨ c = 62) : Pre s pat (i + 2) (out ++ txt (ot2 c k)) := h.put fun x q hb hn => by
  rw [txt_size] at hn
  exact (pc_two hp hc hc1 h1).sm (pc_ot2 h1 hb) (by rcases h1 with rfl | rfl | rfl <;> decide) hn
theorem Pre.at_ (h : Pre s pat i out) (hp : i < s.size) (hc : s.get! i = 64) (ht : pat = true) : Pre s pat (i + 1) (out ++ txt [64]) := h.put fun x q hb hn => by
  rw [txt_size] at hn
  obtain ⟨b1, b2⟩ := hb.byte
  exact (pc_at hp hc ht).sm (pc_at b1 b2 ht) (by decide) hn
theorem Stq.spt {S : ByteArray} {e : Nat} (h : Stq S e) : Spt S e := ⟨h.low.imp id fun x => by omega, fun hl => h.off hl⟩
theorem name_lo {x nm : ByteArray} {q : Nat} (hn : nameB nm = true) (hb : Bt x q nm) (hs : Spt x (q + nm.size)) : q < x.size ∧ (x.get! q).toNat / 64 ≠ 2 ∧ kd (Utf8.decode x q).1 = 1 := by
  obtain ⟨h0, hk⟩ := nm_first nm hn
  have hd := hb.decX hs.lo h0
  rw [Nat.add_zero] at hd
  have hz := hb.1
  have hk1 : kd (Utf8.decode x q).1 = 1 := by rw [hd]; exact hk
  refine ⟨by omega, fun e => ?_, hk1⟩
  have : Utf8.decode x q = (65533, 1) := by
    rw [decode_at]
    unfold decodeN
    rw [if_neg (by omega), if_neg (fun c => by omega), if_neg (fun c => by omega), if_neg (fun c => by omega)]
  rw [this] at hk1
  exact absurd hk1 (by decide +kernel)
theorem kd1_dig {r : Int} (h : kd r = 1) : digZ r = 0 := by
  by_cases hz : digZ r = 0
  · exact hz
  · have := (kd_two _).2 hz
    rw [h] at this; cases this
theorem Pre.nm {nm : ByteArray} (h : Pre s pat i out) (hn : nameB nm = true) (hb : Bt s i nm) (hs : Stq s (i + nm.size)) : Pre s pat (i + nm.size) (out ++ nm) := h.put fun x q hbx hnx => by
  have hst := hnx.spt hs
  obtain ⟨a1, a2, a3⟩ := name_lo hn hb hs.spt
  obtain ⟨b1, b2, b3⟩ := name_lo hn hbx hst
  refine .tk (w := 97) (n := 0) (E := fun _ => 0) a1 (by rw [a3]; decide) b1 b2 (by rw [b3]; decide) (by rw [num_no a1 (kd1_dig a3), num_no b1 (kd1_dig b3)]) (fun m _ => name_tok hb hs hn pat m) (fun m _ => name_tokX hbx hst hn pat m) (fun _ => by rw [hbx.ext, hb.ext]) (fun hc => ?_) hnx
  have := CkA.nameX hbx hst hc nm.size 0 0 hn (Nat.zero_le _) (by omega)
  rw [Nat.add_zero] at this; exact this
theorem Pre.nu {u : Nat} (k : Nat) (h : Pre s pat i out) (hu : u ≤ 18446744073709551615) (hb : Bt s i (txt (decDigits u))) (hs : Stq s (i + (decDigits u).length)) : Pre s pat (i + (decDigits u).length) (out ++ txt (dgT k (decDigits u))) := h.put fun x q hbx hnx => by
  rw [txt_size] at hnx
  have hst := hnx.spt hs
  have e0 := dgT_zero (decDigits u)
  have hb' : Bt s i (txt (dgT 0 (decDigits u))) := by rw [e0]; exact hb
  have hs' : Spt s (i + (dgT 0 (decDigits u)).length) := by rw [e0]; exact hs.spt
  obtain ⟨a1, a2, a3, a4⟩ := num_atX hu hb' hs'
  obtain ⟨b1, b2, b3, b4⟩ := num_atX hu hbx hst
  refine .tk (w := 48) (n := u) (E := fun m => if m < u then 10 else 0) a1 (by rw [a3]; decide) b1 b2 (by rw [b3]; decide) (by rw [a4, b4]) (fun m _ => by have := num_tokX hu hb' hs' pat m; rw [e0] at this; exact this) (fun m _ => num_tokX hu hbx hst pat m) (fun e => absurd e (by decide)) (fun hc => dgT_ck _ _ (dig_mem u) hbx hc) hnx
end
end Go.Proofs.YtjmccobblpcbhaaDoor
