/-
  HlW, DcW, DcPlW, JnMk, EmBad, EmErr, EmApp, EmLay.
-/
import Derived.Test.YtjmccobblpcbhaaDoorChecked
import GoSem.PinnedTables
import GoSem.Claim
import GoSem.ClaimJoined
import GoSem.ClaimMapViews
import Derived.JoinedTies
import Derived.KernelRfl
import Derived.Shelf.Unicode.DecodeSlow
import Derived.Laws.RangeAny
import Derived.Shelf.Strings.Builder1
import Derived.Shelf.Small.Utf8
import Derived.Shelf.Small.Bits
import Derived.Shelf.Strings.BuilderF
import Derived.Shelf.Strings.BuilderK
import Derived.Shelf.Strings.BuilderRune
import Derived.Shelf.Utf8.AppendRune
import Derived.Shelf.Strconv.Itoa0
import Derived.Shelf.Strconv.Itoa1
import Derived.Shelf.LaysM
import Derived.Shelf.Strconv.Itoa2
import Derived.Shelf.Strconv.Itoa3
import Derived.Shelf.Strconv.Itoa4
import Derived.Shelf.Strings.Prefix
import Derived.Shelf.Unicode.DecodeAny
import Derived.Test.YtjmccobblpcbhaaDoorProg
import Derived.WalkKit
import Derived.Deep.DeepFit
import Derived.Lib.OthersKept
import Derived.Lib.RuneCountTail
import Derived.Lib.LaidU8
import Derived.MakeChecks
import Derived.ProofKit
import Derived.OpenShut
import Derived.Deep.DeepHandedRow
import Derived.Lib.Small
import Derived.Lib.Strings
import Derived.Lib.MapLaws
import Derived.Deep.AppendLies
import Derived.Deep.OwnRows
import Derived.Laws.AppendOwnNone
import Derived.Deep.QuietTactic
import Derived.BigQuiet
import Derived.Deep.RegionWith
import Derived.Laws.DeepStrings4
import Derived.Deep.RegionHeld3
import Derived.Laws.ResultCell
import Derived.Lib.QuietBelow
import Derived.Deep.Heap
import Derived.Laws.Rows
import Derived.Below
import Derived.StillTail
import Derived.Deep.RegionLaw
import Derived.Laws.OwnMore
import Derived.Sort.Walk0
import Derived.Lib.ItoaNum
import Derived.Maps.OwnSet
import Derived.StringKeys
import Derived.Test.YtjmccobblpcbhaaDoorRows
import Derived.Test.YtjmccobblpcbhaaDoorP01
import Derived.Test.YtjmccobblpcbhaaDoorP02
import Derived.Test.YtjmccobblpcbhaaDoorP03
import Derived.Test.YtjmccobblpcbhaaDoorP04
import Derived.Test.YtjmccobblpcbhaaDoorP05
import Derived.Test.YtjmccobblpcbhaaDoorP06
import Derived.Test.YtjmccobblpcbhaaDoorP07
import Derived.Test.YtjmccobblpcbhaaDoorP08
import Derived.Test.YtjmccobblpcbhaaDoorP09
import Derived.Test.YtjmccobblpcbhaaDoorP10
import Derived.Test.YtjmccobblpcbhaaDoorP11
import Derived.Test.YtjmccobblpcbhaaDoorP12
import Derived.Test.YtjmccobblpcbhaaDoorP13
import Derived.Test.YtjmccobblpcbhaaDoorP14
import Derived.Test.YtjmccobblpcbhaaDoorP15
import Derived.Test.YtjmccobblpcbhaaDoorP16
import Derived.Test.YtjmccobblpcbhaaDoorP17
import Derived.Test.YtjmccobblpcbhaaDoorP18
import Derived.Test.YtjmccobblpcbhaaDoorP19
import Derived.Test.YtjmccobblpcbhaaDoorP20
import Derived.Test.YtjmccobblpcbhaaDoorP21
import Derived.Test.YtjmccobblpcbhaaDoorP22
import Derived.Test.YtjmccobblpcbhaaDoorP23
set_option linter.unusedSimpArgs false
set_option linter.unusedVariables false
namespace Go.Proofs.YtjmccobblpcbhaaDoor
open Go.RowKit Go.Lib

theorem Tryd.infoStrH : (Tryd.prog.info? 9).map (fun i => (i.zero, i.size, i.bytes)) = some (some (.string ⟨#[]⟩), 1, 16) := by kernel_rfl
theorem hl_ext {a b : ByteArray} (h : a.data.toList = b.data.toList) : a = b := by
  apply ByteArray.ext
  exact Array.ext' h

structure HlMid (w : World) (v : Value) (hs : List ByteArray) (wr : World) : Prop where
  row : wr.ownsRow w.heap.size 9 1 v hs.length (hs.map Value.string)
  below : Below w.heap.size w wr
/-- Is it known already? -/
def knwn (x : Nd) (hs : List ByteArray) : Bool := decide (x.op ≠ 18) || hs.any (fun y => decide (y = x.name))
theorem addNm_knwn (hs : List ByteArray) (x : Nd) : addNm hs x = if knwn x hs = true then hs else hs ++ [x.name] := by
  unfold addNm knwn
  by_cases h : x.op = 18
  · have e : decide (x.op ≠ 18) = false := by simp [h]
    rw [if_pos h, e, Bool.false_or]
  · have e : decide (x.op ≠ 18) = true := by simp [h]
    rw [if_neg h, e, Bool.true_or, if_pos rfl]
theorem beq_toList (a b : ByteArray) : (a.toList == b.toList) = decide (a = b) := by
  rw [toList_data, toList_data]
  by_cases h : a = b
  · subst h; simp
  · have : a.data.toList ≠ b.data.toList := fun e => h (hl_ext e)
    rw [beq_eq_false_iff_ne.2 this]
    simp [h]
theorem any_take (hs : List ByteArray) (nm : ByteArray) (k : Nat) (hk : k < hs.length) : (hs.take (k + 1)).any (fun y => decide (y = nm)) = ((hs.take k).any (fun y => decide (y = nm)) || decide (hs.getD k ⟨#[]⟩ = nm)) := by
  rw [List.take_succ_eq_append_getElem hk, List.any_append]
  simp [hk]

set_option maxRecDepth 20000 in
set_option maxHeartbeats 4000000 in
theorem refHoles_any {w : World} {ao : Option Addr} {cap : Nat} {l : List Nd} (hN : Rd w ao cap l) (hlen : l.length * 56 ≤ 140737488355328) :
    Calls Tryd.prog 34 #[.slice ao l.length cap] w fun e w' => ∃ va vc, e = .returned (.slice va (hlsL l).length vc) ∧ Below w.heap.size w w' := by
  obtain ⟨hb1, hb2⟩ := hN.bound
  unfold maxLen at hb2
  obtain ⟨i0, hi, hz0, hz1, hz2⟩ := info_parts Tryd.infoStrH
  have HN : Hid (Rd w ao cap l) := hN
  have HE : Hid (hlsL (l.take l.length) = hlsL l) := by show _ = _; rw [List.take_length]
  clear hN
  go_enter Tryd.func34, Tryd.ntmps34
  go_wp2_with fail
  go_loopw [3, 4] (fun v i wr => ∃ k : Nat, k ≤ l.length ∧ i = .int .i64 k ∧ HlMid w v (hlsL (l.take k)) wr) (fun _ i _ => l.length - (RowKit.intOf i).toNat)
  case atStart => exact ⟨0, by omega, rfl, by simpa [hlsL] using World.ownsRow_nil _ _ _ _, Below.refl _ _⟩
  case round =>
    obtain ⟨k, hk, rfl, hM⟩ := hrel
    obtain ⟨wa, hwa⟩ : ∃ wa, wa = wr := ⟨_, rfl⟩
    subst hwa
    have hbw := hM.below
    have hsw := hbw.size
    obtain ⟨va, vc, hv⟩ := row_form' hM.row
    subst hv
    by_cases hlt : k < l.length
    · obtain ⟨b, o, kv, rfl, hbk, hna⟩ := Rd.cell (HN.out.below hbw hsw) hlt
      have HX : Hid (hlsL (l.take (k + 1)) = if knwn (l.getD k nd0) (hlsL (l.take k)) = true then hlsL (l.take k) else hlsL (l.take k) ++ [(l.getD k nd0).name]) := by
        show _ = _
        rw [List.take_succ_eq_append_getElem hlt, hlsL_snoc, addNm_knwn]
        simp [hlt]
      have hhl := hlsL_len (l.take k)
      have hhl2 : (hlsL (l.take k)).length ≤ k := by simp at hhl; omega
      clear hhl
      generalize hlsL (l.take k) = hs at *
      obtain ⟨c0, c1, c2, c3, hki⟩ := hna
      generalize hx : l.getD k nd0 = x at *
      obtain ⟨op, n, nm, kids⟩ := x
      simp only at c0 c2 HX
      have HM : Hid (HlMid w (.slice va hs.length vc) hs wa) := hM
      obtain ⟨kw, hkw⟩ : ∃ kw, decide (op ≠ 18) = kw := ⟨_, rfl⟩
      have hkw' : (op != 18) = kw := by rw [← hkw]; by_cases e : op = 18 <;> simp [e]
      have HKW : Hid (decide (op ≠ 18) = kw) := hkw
      clear hM hx hki c1 c3 hkw
      have cell : Hid (∀ j, j < hs.length → ∃ g c, va = some ⟨g, 0, none⟩ ∧ vc = c ∧ g < wa.heap.size ∧ hs.length ≤ c ∧ c ≤ maxLen ∧ wa.cell? ⟨g, j, none⟩ = some (.string (hs.getD j ⟨#[]⟩))) := fun j hj => by
        obtain ⟨g, c, e, h1, h2, h3, h4⟩ := row_cell HM.out.row hj (d := .string ⟨#[]⟩)
        cases e
        refine ⟨g, vc, rfl, rfl, h1, h2, h3, ?_⟩
        rw [h4]; simp [hj]
      go_wp2_with fail
      go_loopw [5, 6] (fun v i wq => ∃ (j : Nat) (q : Bool), j ≤ hs.length ∧ i = .int .i64 j ∧ v = .bool q ∧ Hid (q = (kw || (hs.take j).any (fun y => decide (y = nm)))) ∧ Below wa.heap.size wa wq) (fun _ i _ => hs.length - (RowKit.intOf i).toNat)
      case atStart => exact ⟨0, kw, by omega, rfl, by first | rfl | (rw [hkw'] <;> rfl) | simp [hkw'], by show kw = _; simp, Below.refl _ _⟩
      case round =>
        obtain ⟨j, q, hj, rfl, rfl, hq, hbq⟩ := hrel
        by_cases hjl : j < hs.length
        · obtain ⟨g, c, rfl, rfl, hgl, hg1, hg2, hcj⟩ := cell.out j hjl
          unfold maxLen at hg2
          have e1 := (hbq.cell (p := ⟨g, j, none⟩) hgl).trans hcj
          have e2 := (hbq.cell (p := ⟨b, o + k * 4 + 2, none⟩) hbk).trans c2
          have HQ : Hid (_) := hq
          have HA := any_take hs nm j hjl
          have HAH : Hid (_) := HA
          have HBQ : Hid (Below wa.heap.size wa wr) := hbq
          generalize hs.getD j ⟨#[]⟩ = y at *
          clear hcj hq HA hbq
          cases q with
          | true =>
            go_wp2_with fail
            go_quiet (fail)
            go_wp2_with fail
            refine ⟨⟨j + 1, true, by omega, by go_num, rfl, ?_, below_drewN' HBQ.out _⟩, by simp [RowKit.intOf]; omega⟩
            show true = _
            rw [HAH.out, ← Bool.or_assoc, ← HQ.out]; rfl
          | false =>
            obtain ⟨ee, hee⟩ : ∃ e, decide (y = nm) = e := ⟨_, rfl⟩
            go_wp2_with fail
            go_quiet (fail)
            go_wp2_with fail
            refine ⟨⟨j + 1, decide (y = nm), by omega, by go_num, ?_, ?_, below_drewN' HBQ.out _⟩, by simp [RowKit.intOf]; omega⟩
            · rw [← beq_toList] <;> rfl
            · show decide (y = nm) = _
              rw [HAH.out, ← Bool.or_assoc, ← HQ.out]; rfl
        · have hje : j = hs.length := by omega
          subst hje
          rw [List.take_length] at hq
          have HQ : Hid (q = knwn ⟨op, n, nm, kids⟩ hs) := by show q = _; rw [hq.out, ← HKW.out]; rfl
          have e2 := (hbq.cell (p := ⟨b, o + k * 4 + 2, none⟩) hbk).trans c2
          have HBQ : Hid (Below wa.heap.size wa wr) := hbq
          have HM2 : Hid (HlMid w (.slice va hs.length vc) hs wr) := ⟨ownsRow_below HM.out.row hbq, HM.out.below.trans (hbq.mono HM.out.below.size)⟩
          have hs2 := HM2.out.below.size
          clear hq hbq
          cases q with
          | true =>
            have HE2 : Hid (hlsL (l.take (k + 1)) = hs) := by show _ = _; rw [HX.out, ← HQ.out]; rfl
            go_wp2_with fail
            exact ⟨⟨k + 1, by omega, by go_num, by rw [HE2.out]; exact HM2.out⟩, by simp [RowKit.intOf]; omega⟩
          | false =>
            have HE2 : Hid (hlsL (l.take (k + 1)) = hs ++ [nm]) := by show _ = _; rw [HX.out, ← HQ.out]; rfl
            go_wp2_with (at_builtin; refine wpList_append_lies _ rfl (.tmp 40) (.tmp 46) 33 rfl w.heap.size 9 i0 (.string ⟨#[]⟩) 1 16 Tryd.underlying33 hi hz0 hz1 hz2 rfl (by decide) _ _ _ rfl (HM2.out.row.alloc _) ⟨wr.heap.size, 0, none⟩ 1 1 [.string nm] rfl rfl (cell_news_one _ _ _) (by simp [Value.oneCell']) (by omega) (by unfold maxLen; omega) (by omega) (by simp; omega) _ rfl ?_; intro g6 cap6 w6 hown6 hg6 hat6 hl6)
            refine ⟨⟨k + 1, by omega, by go_num, ?_⟩, by simp [RowKit.intOf]; omega⟩
            rw [HE2.out]
            refine ⟨?_, (HM2.out.below.alloc (by omega) _).grown hg6 (by simp; omega) (fun j hj => (own_block' HM2.out.row j hj).1)⟩
            have e3 : (hs ++ [nm]).length = hs.length + 1 := by simp
            rw [e3, List.map_append]; exact hown6
    · have hke : k = l.length := by omega
      subst hke
      rw [HE.out]
      go_wp2_with fail
      go_ret
      exact ⟨va, vc, rfl, hbw⟩
end Go.Proofs.YtjmccobblpcbhaaDoor

set_option linter.unusedSimpArgs false
set_option linter.unusedVariables false
namespace Go.Proofs.YtjmccobblpcbhaaDoor
open Go.RowKit Go.Lib Go.Sort

/-- What the document's read leaves. -/
def DocP (w : World) (x : Pr (List Nd)) (e : Ending) (w' : World) : Prop :=
  (match x with
   | .ok l => ∃ v, e = .returned (.tuple #[v, .int .i64 0, .int .i64 0]) ∧ OwnN w' w.heap.size v l
   | .bad p er => e = .returned (.tuple #[.slice none 0 0, .int .i64 (p : Int), .int .i64 er])
   | .out => False) ∧ Below w.heap.size w w'
end Go.Proofs.YtjmccobblpcbhaaDoor

set_option linter.unusedSimpArgs false
set_option linter.unusedVariables false
namespace Go.Proofs.YtjmccobblpcbhaaDoor
open Go.RowKit Go.Lib Go.Sort

/-- The three results. -/
def pl3 (x : Pr (List Nd)) : List Nd × Nat × Int := match x with
  | .ok l => (l, 0, 0)
  | .bad p er => ([], p, er)
  | .out => ([], 0, 0)
def Tri (w : World) (x : Pr (List Nd)) (e : Ending) (w' : World) : Prop := ∃ ao cap, e = .returned (.tuple #[.slice ao (pl3 x).1.length cap, .int .i64 ((pl3 x).2.1 : Int), .int .i64 (pl3 x).2.2]) ∧ Rd w' ao cap (pl3 x).1 ∧ Below w.heap.size w w'
theorem rd_nil (w : World) : Rd w none 0 [] := ⟨none, 0, rfl, by simp, by simp [maxLen], .inl rfl⟩
theorem ReadP.tri {w : World} {x : Pr (List Nd)} {e : Ending} {w' : World} (h : ReadP w x e w') : Tri w x e w' := by
  obtain ⟨h1, h2⟩ := h
  cases x with
  | ok l => obtain ⟨ao, cap, he, hr⟩ := h1; exact ⟨ao, cap, he, hr, h2⟩
  | bad p er => exact ⟨none, 0, h1, rd_nil _, h2⟩
  | out => cases h1
theorem DocP.tri {w : World} {x : Pr (List Nd)} {e : Ending} {w' : World} (h : DocP w x e w') : Tri w x e w' := by
  obtain ⟨h1, h2⟩ := h
  cases x with
  | ok l =>
    obtain ⟨v, he, hr⟩ := h1
    obtain ⟨ao, cap, rfl, hrd⟩ := Rd_of_own hr
    exact ⟨ao, cap, he, hrd, h2⟩
  | bad p er => exact ⟨none, 0, h1, rd_nil _, h2⟩
  | out => cases h1

theorem parseT (w : World) (s : ByteArray) (hz : s.size ≤ maxLen) (hT : Tabs w) : Calls Tryd.prog 26 #[.string s] w fun e w' => Tri w (psRead s false 64) e w' := (parse_any w s hz hT).mono fun _ _ h => h.tri
theorem awk_read : (pl3 (psRead ⟨#[97, 43, 49]⟩ false 64)).1.length = 3 ∧ (pl3 (psRead ⟨#[97, 43, 49]⟩ false 64)).2 = (0, 0) := by decide +kernel

set_option maxRecDepth 20000 in
set_option maxHeartbeats 8000000 in
theorem pawake_any (w : World) (hT : Tabs w) :
    Calls Tryd.prog 22 #[] w fun e w' => e = .returned (.bool true) ∧ Below w.heap.size w w' := by
  have cP : Hid (Calls Tryd.prog 26 #[.string ⟨#[97, 43, 49]⟩] w fun e w' => ∃ ao cap, e = .returned (.tuple #[.slice ao 3 cap, .int .i64 0, .int .i64 0]) ∧ Below w.heap.size w w') := by
    refine (parseT w ⟨#[97, 43, 49]⟩ (by decide) hT).mono ?_
    rintro e w' ⟨ao, cap, he, _, hb⟩
    rw [awk_read.1, awk_read.2] at he
    exact ⟨ao, cap, he, hb⟩
  go_enter Tryd.func22, Tryd.ntmps22
  go_wp2_with fail
  go_at_call 26
  refine cP.out.mono ?_
  rintro x w1 ⟨ao, cap, rfl, hb⟩
  go_wp2_with fail
  go_ret
  exact ⟨rfl, hb⟩

end Go.Proofs.YtjmccobblpcbhaaDoor

set_option linter.unusedSimpArgs false
set_option linter.unusedVariables false
namespace Go.Proofs.YtjmccobblpcbhaaDoor
open Go.RowKit Go.Lib

def NZ {α : Type} (x : Pr α) : Prop := ∀ p, x ≠ .bad p 0
theorem NZ.bind {α β : Type} {x : Pr α} {f : α → Pr β} (h : NZ x) (hf : ∀ a, NZ (f a)) : NZ (x.bind f) := by
  intro p c
  cases x with
  | ok a => exact hf a p c
  | bad q e =>
    have c' : (Pr.bad q e : Pr β) = .bad p 0 := c
    cases c'
    exact h p rfl
  | out => cases c
theorem NZ.ok {α : Type} (a : α) : NZ (.ok a : Pr α) := fun p c => by cases c
theorem NZ.bad {α : Type} (p : Nat) (e : Int) (h : e ≠ 0) : NZ (.bad p e : Pr α) := fun q c => by cases c; exact h rfl
end Go.Proofs.YtjmccobblpcbhaaDoor

set_option linter.unusedSimpArgs false
set_option linter.unusedVariables false
namespace Go.Proofs.YtjmccobblpcbhaaDoor
open Go.Lib

theorem Pr.bind_bad {α β : Type} {x : Pr α} {f : α → Pr β} {p : Nat} {e : Int} (h : x.bind f = .bad p e) : x = .bad p e ∨ ∃ a, x = .ok a ∧ f a = .bad p e := by
  cases x with
  | ok a => exact .inr ⟨a, rfl, h⟩
  | bad q e' =>
    have c : (Pr.bad q e' : Pr β) = .bad p e := h
    cases c; exact .inl rfl
  | out => cases h
theorem TkR.low {s : ByteArray} {d e : Nat} {t t' : Tk} (h : TkR s d e t t') (hl : t.from_ < s.size) : TkS d t t' := by
  rcases h with h | ⟨h, h'⟩
  · exact h.1
  · subst h; exact absurd hl (by unfold psEnd; exact Nat.lt_irrefl _)
end Go.Proofs.YtjmccobblpcbhaaDoor

set_option linter.unusedSimpArgs false
set_option linter.unusedVariables false
namespace Go.Proofs.YtjmccobblpcbhaaDoor
open Go.Lib

/-- A fault below the end that is no bad byte, or ErrText. -/
def GE {α : Type} (s : ByteArray) (x : Pr α) : Prop := ∀ p er, x = .bad p er → (p < s.size ∧ er ≠ 4 ∧ er ≠ 3) ∨ er = 6
theorem GE.ok {α : Type} (s : ByteArray) (a : α) : GE s (.ok a : Pr α) := fun p e c => by cases c
theorem GE.at_ {α : Type} (s : ByteArray) {p : Nat} {er : Int} (hp : p < s.size) (h4 : er ≠ 4) (h3 : er ≠ 3) : GE s (.bad p er : Pr α) := fun q e c => by cases c; exact .inl ⟨hp, h4, h3⟩
theorem GE.bind {α β : Type} {s : ByteArray} {x : Pr α} {f : α → Pr β} (h : GE s x) (hf : ∀ a, x = .ok a → GE s (f a)) : GE s (x.bind f) := by
  intro p er c
  rcases Pr.bind_bad c with c | ⟨a, h1, c⟩
  · exact h p er c
  · exact hf a h1 p er c
end Go.Proofs.YtjmccobblpcbhaaDoor

set_option linter.unusedSimpArgs false
set_option linter.unusedVariables false
namespace Go.Proofs.YtjmccobblpcbhaaDoor
open Go.Lib

theorem apz (a b : ByteArray) : (a ++ b).size = a.size + b.size := by simp
theorem app_list (a b : ByteArray) : (a ++ b).data.toList = a.data.toList ++ b.data.toList := by simp
theorem gA (a b : ByteArray) (i : Nat) (h : i < a.size) : (a ++ b).get! i = a.get! i := by
  have h1 := ba_get (a ++ b) i (by rw [apz]; omega)
  have h2 := ba_get a i h
  have hl : a.data.toList.length = a.size := (size_eq a).symm
  rw [app_list, List.getElem?_append_left (by omega), h2] at h1
  exact (Option.some.inj h1).symm
theorem gB (a b : ByteArray) (i : Nat) (h0 : a.size ≤ i) (h : i < a.size + b.size) : (a ++ b).get! i = b.get! (i - a.size) := by
  have h1 := ba_get (a ++ b) i (by rw [apz]; omega)
  have h2 := ba_get b (i - a.size) (by omega)
  have hl : a.data.toList.length = a.size := (size_eq a).symm
  rw [app_list, List.getElem?_append_right (by omega), hl, h2] at h1
  exact (Option.some.inj h1).symm
def A1 : ByteArray := ⟨#[40]⟩
def A2 (c : UInt8) : ByteArray := ⟨#[c, 40]⟩
end Go.Proofs.YtjmccobblpcbhaaDoor

set_option linter.unusedSimpArgs false
set_option linter.unusedVariables false
namespace Go.Proofs.YtjmccobblpcbhaaDoor
open Go.Lib

theorem bind_eqN {α β : Type} {x y : Pr α} {f g : α → Pr β} (hx : x ≠ .out → y = x) (hf : ∀ a, x = .ok a → f a ≠ .out → g a = f a) (h : x.bind f ≠ .out) : y.bind g = x.bind f := by
  cases x with
  | ok a => rw [hx (fun c => by cases c)]; exact hf a rfl h
  | bad p e => rw [hx (fun c => by cases c)]; rfl
  | out => exact absurd rfl h
theorem rd_oneN (s : ByteArray) (pat : Bool) : ∀ (f : Nat) (q : RdQ) (t : Tk) (o : Nat), rdRun s pat f q t o ≠ .out → rdRun s pat (f + 1) q t o = rdRun s pat f q t o := by
  intro f
  induction f with
  | zero => intro q t o h; exact absurd rfl h
  | succ f ih =>
    intro q t o h
    cases q with
    | cond =>
      rw [rdRun] at h
      conv => lhs; rw [rdRun]
      conv => rhs; rw [rdRun]
      refine bind_eqN (ih _ _ _) (fun c _ h => bind_eqN (fun _ => rfl) (fun t1 _ h => ?_) h) h
      split at h
      · rename_i hw
        rw [if_pos hw, if_pos hw]
        refine bind_eqN (fun _ => rfl) (fun t2 _ h => bind_eqN (ih _ _ _) (fun a _ h => bind_eqN (fun _ => rfl) (fun t3 _ h => ?_) h) h) h
        split at h
        · rename_i hw
          rw [if_pos hw, if_pos hw]
          split at h
          · rename_i hw
            rw [if_pos hw, if_pos hw]
            exact bind_eqN (fun _ => rfl) (fun t4 _ h => bind_eqN (ih _ _ _) (fun b _ h => rfl) h) h
          · rename_i hw
            rw [if_neg hw, if_neg hw]
        · rename_i hw
          rw [if_neg hw, if_neg hw]
      · rename_i hw
        rw [if_neg hw, if_neg hw]
    | level lv =>
      rw [rdRun] at h
      conv => lhs; rw [rdRun]
      conv => rhs; rw [rdRun]
      split at h
      · rename_i hw
        rw [if_pos hw, if_pos hw]
        exact ih _ _ _ h
      · rename_i hw
        rw [if_neg hw, if_neg hw]
        exact bind_eqN (ih _ _ _) (fun a _ h => bind_eqN (fun _ => rfl) (fun t1 _ h => ih _ _ _ h) h) h
    | loop lv la =>
      rw [rdRun] at h
      conv => lhs; rw [rdRun]
      conv => rhs; rw [rdRun]
      split at h
      · rename_i hw
        rw [if_pos hw, if_pos hw]
        refine bind_eqN (fun _ => rfl) (fun t1 _ h => bind_eqN (ih _ _ _) (fun b _ h => ?_) h) h
        split at h
        · rename_i hw
          rw [if_pos hw, if_pos hw]
        · rename_i hw
          rw [if_neg hw, if_neg hw]
          exact bind_eqN (fun _ => rfl) (fun t2 _ h => ih _ _ _ h) h
      · rename_i hw
        rw [if_neg hw, if_neg hw]
    | un =>
      rw [rdRun] at h
      conv => lhs; rw [rdRun]
      conv => rhs; rw [rdRun]
      split at h
      · rename_i hw
        rw [if_pos hw, if_pos hw]
        split at h
        · rename_i hw
          rw [if_pos hw, if_pos hw]
          exact bind_eqN (fun _ => rfl) (fun t1 _ h => bind_eqN (ih _ _ _) (fun x _ h => rfl) h) h
        · rename_i hw
          rw [if_neg hw, if_neg hw]
      · rename_i hw
        rw [if_neg hw, if_neg hw]
        split at h
        · rename_i hw
          rw [if_pos hw, if_pos hw]
          exact bind_eqN (fun _ => rfl) (fun t1 _ h => bind_eqN (ih _ _ _) (fun x _ h => rfl) h) h
        · rename_i hw
          rw [if_neg hw, if_neg hw]
          exact ih _ _ _ h
    | atom =>
      rw [rdRun] at h
      conv => lhs; rw [rdRun]
      conv => rhs; rw [rdRun]
      split at h
      · rename_i hw
        rw [if_pos hw, if_pos hw]
      · rename_i hw
        rw [if_neg hw, if_neg hw]
        split at h
        · rename_i hw
          rw [if_pos hw, if_pos hw]
        · rename_i hw
          rw [if_neg hw, if_neg hw]
          split at h
          · rename_i hw
            rw [if_pos hw, if_pos hw]
          · rename_i hw
            rw [if_neg hw, if_neg hw]
            split at h
            · rename_i hw
              rw [if_pos hw, if_pos hw]
              split at h
              · rename_i hw
                rw [if_pos hw, if_pos hw]
              · rename_i hw
                rw [if_neg hw, if_neg hw]
                exact bind_eqN (fun _ => rfl) (fun t1 _ h => bind_eqN (ih _ _ _) (fun e _ h => rfl) h) h
            · rename_i hw
              rw [if_neg hw, if_neg hw]
theorem rd_moreB {s : ByteArray} {pat : Bool} {f g : Nat} {q : RdQ} {t : Tk} {o p : Nat} {er : Int} (h : rdRun s pat f q t o = .bad p er) (hfg : f ≤ g) : rdRun s pat g q t o = .bad p er := by
  obtain ⟨k, rfl⟩ : ∃ k, g = f + k := ⟨g - f, by omega⟩
  clear hfg
  induction k with
  | zero => exact h
  | succ k ih =>
    show rdRun s pat ((f + k) + 1) q t o = _
    rw [rd_oneN s pat _ _ _ _ (by rw [ih]; exact fun c => by cases c), ih]
theorem asc_dec {S : ByteArray} {e : Nat} {c : UInt8} (h : S.get! e = c) (hc : c.toNat < 128) : Utf8.decode S e = (c.toNat, 1) := by
  rw [decode_at, h]
  unfold decodeN
  rw [if_pos hc]
theorem skip_fuel (S : ByteArray) : ∀ (f g p : Nat), S.size ≤ p + f → S.size ≤ p + g → psSkip S f p = psSkip S g p := by
  intro f
  induction f with
  | zero =>
    intro g p h1 h2
    cases g with
    | zero => rfl
    | succ g => simp only [psSkip]; rw [if_neg (by omega)]
  | succ f ih =>
    intro g p h1 h2
    cases g with
    | zero => simp only [psSkip]; rw [if_neg (by omega)]
    | succ g =>
      simp only [psSkip]
      by_cases hp : p < S.size
      · rw [if_pos hp, if_pos hp]
        by_cases hk : kd (Utf8.decode S p).1 = 3
        · rw [if_pos hk, if_pos hk]
          have := width_pos S p hp
          exact ih g _ (by omega) (by omega)
        · rw [if_neg hk, if_neg hk]
      · rw [if_neg hp, if_neg hp]
theorem skp_blank {S : ByteArray} {p : Nat} (hp : p < S.size) (h : S.get! p = 32) : skp S p = skp S (p + 1) := by
  unfold skp
  obtain ⟨f, hf⟩ : ∃ f, S.size = f + 1 := ⟨S.size - 1, by omega⟩
  rw [hf]
  simp only [psSkip]
  rw [if_pos (by omega), asc_dec h (by decide), if_pos (show kd (((UInt8.toNat 32, 1) : Nat × Nat).1 : Int) = 3 from em_on.2.2.2.2.2)]
  show psSkip S f (p + 1) = psSkip S (f + 1) (p + 1)
  exact skip_fuel S f (f + 1) (p + 1) (by omega) (by omega)
end Go.Proofs.YtjmccobblpcbhaaDoor
