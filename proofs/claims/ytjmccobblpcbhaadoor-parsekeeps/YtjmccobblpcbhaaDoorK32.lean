/-
  RdEnd, HlW.
-/
import Derived.Shelf.Unicode.DecodeSlow
import Derived.Laws.RangeAny
import Derived.Shelf.Strings.Builder1
import Derived.Shelf.Small.Utf8
import Derived.Shelf.Small.Bits
import Derived.Shelf.Strings.BuilderF
import Derived.Shelf.Strings.BuilderK
import Derived.Shelf.Strings.BuilderRune
import Derived.Shelf.Utf8.AppendRune
import Derived.Shelf.Strconv.Itoa0
import Derived.Shelf.Strconv.Itoa1
import Derived.Shelf.LaysM
import Derived.Shelf.Strconv.Itoa2
import Derived.Shelf.Strconv.Itoa3
import Derived.Shelf.Strconv.Itoa4
import Derived.Shelf.Strings.Prefix
import Derived.Shelf.Unicode.DecodeAny
import Derived.Test.YtjmccobblpcbhaaDoorProg
import Derived.WalkKit
import Derived.Deep.DeepFit
import Derived.Lib.OthersKept
import Derived.Lib.RuneCountTail
import Derived.Lib.Small
import Derived.Lib.Strings
import Derived.Lib.MapLaws
import Derived.Deep.AppendLies
import Derived.Deep.OwnRows
import Derived.Laws.AppendOwnNone
import Derived.Deep.QuietTactic
import Derived.BigQuiet
import Derived.Deep.RegionWith
import Derived.Laws.DeepStrings4
import Derived.Deep.RegionHeld3
import Derived.Laws.ResultCell
import Derived.Lib.QuietBelow
import Derived.Deep.Heap
import Derived.Laws.Rows
import Derived.Below
import Derived.StillTail
import Derived.Sort.Walk0
import Derived.Deep.RegionLaw
import Derived.Laws.OwnMore
import Derived.Lib.ItoaNum
import Derived.Maps.OwnSet
import Derived.StringKeys
import Derived.Test.YtjmccobblpcbhaaDoorK01
import Derived.Test.YtjmccobblpcbhaaDoorK02
import Derived.Test.YtjmccobblpcbhaaDoorK03
import Derived.Test.YtjmccobblpcbhaaDoorK04
import Derived.Test.YtjmccobblpcbhaaDoorK05
import Derived.Test.YtjmccobblpcbhaaDoorK06
import Derived.Test.YtjmccobblpcbhaaDoorK07
import Derived.Test.YtjmccobblpcbhaaDoorK08
import Derived.Test.YtjmccobblpcbhaaDoorK09
import Derived.Test.YtjmccobblpcbhaaDoorK10
import Derived.Test.YtjmccobblpcbhaaDoorK11
import Derived.Test.YtjmccobblpcbhaaDoorK12
import Derived.Test.YtjmccobblpcbhaaDoorK13
import Derived.Test.YtjmccobblpcbhaaDoorK14
import Derived.Test.YtjmccobblpcbhaaDoorK15
import Derived.Test.YtjmccobblpcbhaaDoorK16
import Derived.Test.YtjmccobblpcbhaaDoorK17
import Derived.Test.YtjmccobblpcbhaaDoorK18
import Derived.Test.YtjmccobblpcbhaaDoorK19
import Derived.Test.YtjmccobblpcbhaaDoorK20
import Derived.Test.YtjmccobblpcbhaaDoorK21
import Derived.Test.YtjmccobblpcbhaaDoorK22
import Derived.Test.YtjmccobblpcbhaaDoorK28
import Derived.Test.YtjmccobblpcbhaaDoorK29
import Derived.Test.YtjmccobblpcbhaaDoorK30
import Derived.Test.YtjmccobblpcbhaaDoorK31
set_option linter.unusedSimpArgs false
set_option linter.unusedVariables false
namespace Go.Proofs.YtjmccobblpcbhaaDoor
open Go.Lib

theorem plain_nz : ∀ c ∈ signList, psPlain c ≠ 0 ∧ (psPlain c = 64 → c = 64) := by decide +kernel
theorem what_end {s : ByteArray} {pat : Bool} {m p : Nat} {t : Tk} (hp : p ≤ s.size) (h : psFrom s pat m p = .ok t) : t.what = 0 ↔ ¬ p < s.size := by
  unfold psFrom at h
  split at h
  · rename_i hlt
    refine ⟨fun h0 => ?_, fun c => absurd hlt c⟩
    unfold psAt at h
    split at h
    · cases h; exact absurd h0 (by simp)
    · split at h
      · cases h; exact absurd h0 (by simp)
      · split at h
        · rename_i k4
          cases h
          exfalso
          have k5 := k4.2
          simp only at h0
          unfold psSign at h0 k5
          revert h0 k5
          (repeat' split) <;> first | (intro a b; exact (plain_nz _ (kd4 k4.1)).1 a) | (intro a b; revert a; decide) | (intro a b; revert b; decide)
        · cases h
  · rename_i hlt
    cases h
    exact ⟨fun _ => hlt, fun _ => rfl⟩
theorem what_hole {s : ByteArray} {m p : Nat} {t : Tk} (h : psFrom s false m p = .ok t) : t.what ≠ 64 := by
  unfold psFrom at h
  split at h
  · rename_i hlt
    unfold psAt at h
    split at h
    · cases h; simp
    · split at h
      · cases h; simp
      · split at h
        · rename_i k4
          cases h
          simp only
          have k5 := k4.2
          unfold psSign at k5 ⊢
          revert k5
          (repeat' split) <;> first | (intro a b; simp at b; done) | (intro a; simp at a; done) | skip
          rename_i h1 h2 h3 h4 h5
          intro _ e
          exact h5 ⟨(plain_nz _ (kd4 k4.1)).2 e, rfl⟩
        · cases h
  · cases h; simp [psEnd]

/-- No holes. -/
def noH (l : List Nd) : Prop := ∀ x ∈ l, x.op ≠ 18
theorem noH_sh {l : List Nd} (h : noH l) (d : Nat) : noH (l.map (shN d)) := by
  intro x hx
  obtain ⟨y, hy, rfl⟩ := List.mem_map.1 hx
  exact h y hy
theorem noH_app {l m : List Nd} (h : noH l) (h2 : noH m) : noH (l ++ m) := by
  intro x hx
  rcases List.mem_append.1 hx with hx | hx
  · exact h x hx
  · exact h2 x hx
theorem noH_one {op n : Int} {nm : ByteArray} {ks : List Int} (h : op ≠ 18) : noH [⟨op, n, nm, ks⟩] := by
  intro x hx
  rw [List.mem_singleton.1 hx]; exact h
theorem psOp_18 (c : Int) : (psOp c).1 ≠ 18 := by
  by_cases h : c ∈ whats
  · have : ∀ c ∈ whats, (psOp c).1 ≠ 18 := by decide +kernel
    exact this c h
  · simp [whats] at h
    unfold psOp
    simp [h]
theorem rdLit_noH {s : ByteArray} {v : Int} {t : Tk} {r : List Nd × Nat} (h : rdLit s v t = .ok r) : noH r.1 := by
  unfold rdLit at h
  split at h
  · split at h
    · cases h; exact noH_one (by decide)
    · cases h
  · cases h
theorem rdNamed_noH {s : ByteArray} {t : Tk} {r : List Nd × Nat} (h : rdNamed s 2 t = .ok r) : noH r.1 := by
  unfold rdNamed at h
  split at h
  · split at h
    · cases h; exact noH_one (by decide)
    · cases h
  · cases h
def RdQ.noH (q : RdQ) : Prop := ∀ lv la, q = .loop lv la → Go.Proofs.YtjmccobblpcbhaaDoor.noH la
theorem rd_noH (s : ByteArray) : ∀ (f : Nat) (q : RdQ) (t : Tk) (o : Nat) (r : List Nd × Nat), q.noH → t.what ≠ 64 → rdRun s false f q t o = .ok r → noH r.1 := by
  intro f
  induction f with
  | zero => intro q t o r _ _ h; cases h
  | succ f ih =>
    intro q t o r hq ht h
    have hc : RdQ.cond.noH := fun _ _ e => by cases e
    have hu : RdQ.un.noH := fun _ _ e => by cases e
    have hat : RdQ.atom.noH := fun _ _ e => by cases e
    have hl : ∀ lv, (RdQ.level lv).noH := fun lv _ _ e => by cases e
    cases q with
    | cond =>
      simp only [rdRun] at h
      obtain ⟨c, h1, h⟩ := Pr.bind_ok h
      have n1 := ih _ _ _ _ (hl 1) ht h1
      obtain ⟨t1, h2, h⟩ := Pr.bind_ok h
      split at h
      · obtain ⟨t2, h3, h⟩ := Pr.bind_ok h
        obtain ⟨a, h4, h⟩ := Pr.bind_ok h
        have n2 := ih _ _ _ _ hc (what_hole h3) h4
        obtain ⟨t3, h5, h⟩ := Pr.bind_ok h
        split at h
        · split at h
          · obtain ⟨t4, h6, h⟩ := Pr.bind_ok h
            obtain ⟨b, h7, h⟩ := Pr.bind_ok h
            have n3 := ih _ _ _ _ hc (what_hole h6) h7
            cases h
            exact noH_app (noH_app (noH_app n1 (noH_sh n2 _)) (noH_sh n3 _)) (noH_one (by decide))
          · cases h
        · cases h
      · cases h; exact n1
    | level lv =>
      simp only [rdRun] at h
      split at h
      · exact ih _ _ _ _ hu ht h
      · obtain ⟨a, h1, h⟩ := Pr.bind_ok h
        have n1 := ih _ _ _ _ (hl (lv + 1)) ht h1
        obtain ⟨t1, h2, h⟩ := Pr.bind_ok h
        exact ih _ _ _ _ (fun _ _ e => by cases e; exact n1) (what_hole h2) h
    | loop lv la =>
      simp only [rdRun] at h
      have n0 := hq lv la rfl
      split at h
      · obtain ⟨t1, h2, h⟩ := Pr.bind_ok h
        obtain ⟨b, h3, h⟩ := Pr.bind_ok h
        have n1 := ih _ _ _ _ (hl (lv + 1)) (what_hole h2) h3
        have nj : noH (jn2 (psOp t.what).1 la b.1) := noH_app (noH_app n0 (noH_sh n1 _)) (noH_one (psOp_18 _))
        split at h
        · cases h; exact nj
        · obtain ⟨t2, h4, h⟩ := Pr.bind_ok h
          exact ih _ _ _ _ (fun _ _ e => by cases e; exact nj) (what_hole h4) h
      · cases h; exact n0
    | un =>
      simp only [rdRun] at h
      split at h
      · split at h
        · obtain ⟨t1, h2, h⟩ := Pr.bind_ok h
          obtain ⟨b, h3, h⟩ := Pr.bind_ok h
          have n1 := ih _ _ _ _ hu (what_hole h2) h3
          cases h
          exact noH_app n1 (noH_one (by decide))
        · obtain ⟨t1, h2, h⟩ := Pr.bind_ok h
          exact rdLit_noH h
      · split at h
        · obtain ⟨t1, h2, h⟩ := Pr.bind_ok h
          obtain ⟨b, h3, h⟩ := Pr.bind_ok h
          have n1 := ih _ _ _ _ hu (what_hole h2) h3
          cases h
          exact noH_app n1 (noH_one (by decide))
        · exact ih _ _ _ _ hat ht h
    | atom =>
      simp only [rdRun] at h
      split at h
      · exact rdLit_noH h
      · split at h
        · exact rdNamed_noH h
        · split at h
          · split at h
            · cases h
            · obtain ⟨t1, h2, h⟩ := Pr.bind_ok h
              obtain ⟨e, h3, h⟩ := Pr.bind_ok h
              have n1 := ih _ _ _ _ hc (what_hole h2) h3
              obtain ⟨t2, h4, h⟩ := Pr.bind_ok h
              split at h
              · split at h
                · cases h; exact n1
                · cases h
              · cases h
          · cases h
theorem noH_hls {l : List Nd} (h : noH l) : hlsL l = [] := by
  unfold hlsL
  suffices ∀ acc : List ByteArray, l.foldl addNm acc = acc from this []
  induction l with
  | nil => intro acc; rfl
  | cons x l ih =>
    intro acc
    rw [List.foldl_cons]
    have : addNm acc x = acc := by unfold addNm; rw [if_neg (h x (by simp))]
    rw [this]
    exact ih (fun y hy => h y (by simp [hy])) acc

/-- What the document's read comes to. -/
def rdWhole (s : ByteArray) (pat : Bool) (most : Nat) : Pr (List Nd) :=
  if 4096 < s.size then .bad 0 3 else if (chk s).2 = 0 then
    ((rdX s pat (psFuel s) .cond (skp s 0) 0).bind fun r => (psFrom s pat mx63 r.2).bind fun _ =>
      if r.2 < s.size then .bad r.2 6 else if most < r.1.length then .bad s.size 10 else if pat = true ∧ 6 < (hlsL r.1).length then .bad s.size 10 else .ok r.1)
  else .bad (chk s).1 (chk s).2

theorem read_eq (s : ByteArray) (pat : Bool) (most : Nat) : psRead s pat most = rdWhole s pat most := by
  unfold psRead rdWhole psOpen
  by_cases h4 : 4096 < s.size
  · rw [if_pos h4, if_pos h4]; rfl
  rw [if_neg h4, if_neg h4]
  rcases Decidable.em ((chk s).2 = 0) with hc | hc
  rotate_left
  · rw [if_neg hc, if_neg hc]; rfl
  rw [if_pos hc, if_pos hc]
  show ((psNx s pat mx63 st00).bind fun st1 => _) = _
  rw [psNx_eq]
  unfold rdX
  have e0 : skp s st00.now.to = skp s 0 := rfl
  rw [e0, Pr.bind_assoc, Pr.bind_assoc]
  cases h0 : psFrom s pat mx63 (skp s 0) with
  | out => rfl
  | bad p er => rfl
  | ok t =>
    simp only [Pr.bind]
    have hsk := skp_in (s := s) (p := 0) (by omega)
    have ht := from_at hsk.2 h0
    have hR := ps_rd s pat (psFuel s) .cond t 0 [] (by rw [ht.at_]; exact h0) (noq (fun _ _ e => by cases e))
    have e1 : RdQ.cond.rl ([] : List Nd).length = Rl.cond := rfl
    have e2 : (([] : List Nd) ++ RdQ.cond.left.map (shN ([] : List Nd).length)) = [] := rfl
    rw [e1, e2] at hR
    have e3 : ({ st00 with now := t } : Ps) = ⟨t, [], 0⟩ := rfl
    rw [e3, hR]
    unfold lz
    cases h1 : rdRun s pat (psFuel s) .cond t 0 with
    | out => rfl
    | bad p er => rfl
    | ok r =>
      simp only [Pr.bind]
      obtain ⟨l1, l2, l3⟩ := rd_len s pat _ .cond _ t 0 r ⟨(fun _ e => by cases e), (fun _ _ e => by cases e)⟩ ht h1
      cases h2 : psFrom s pat mx63 r.2 with
      | out => rfl
      | bad p er => rfl
      | ok t' =>
        simp only [Pr.bind, List.nil_append, List.length_nil]
        have ht' := from_at l3 h2
        have hw := what_end l3 h2
        rw [shN_zero]
        unfold psEx
        simp only
        by_cases hlt : r.2 < s.size
        · rw [if_neg (fun c => hw.1 c hlt), if_pos hlt, ht'.at_]
        · rw [if_pos (hw.2 hlt), if_neg hlt, if_pos (ht'.sign (by rw [hw.2 hlt]; decide) (by rw [hw.2 hlt]; decide))]
          have e5 : r.2 = s.size := by omega
          have et : t' = psEnd s := by
            unfold psFrom at h2
            rw [if_neg hlt] at h2
            cases h2; rfl
          have e6 : psNx s pat mx63 ⟨t', r.1, 0⟩ = .ok ⟨psEnd s, r.1, 0⟩ := by
            rw [psNx_eq, et]
            have : skp s (psEnd s).to = s.size := by
              have := skp_in (s := s) (p := s.size) (Nat.le_refl _)
              show skp s s.size = s.size
              omega
            simp only [this]
            unfold psFrom
            rw [if_neg (by omega)]
            rfl
          rw [e6]
          simp only [Pr.bind]
          by_cases hm : most < r.1.length
          · rw [if_pos hm, if_pos hm]
          · rw [if_neg hm, if_neg hm]
            cases pat with
            | true => simp
            | false =>
              have hn := noH_hls (rd_noH s _ .cond t 0 r (fun _ _ e => by cases e) (what_hole h0) h1)
              rw [hn]
              simp
end Go.Proofs.YtjmccobblpcbhaaDoor

set_option linter.unusedSimpArgs false
set_option linter.unusedVariables false
namespace Go.Proofs.YtjmccobblpcbhaaDoor
open Go.RowKit Go.Lib

theorem Tryd.infoStrH : (Tryd.prog.info? 9).map (fun i => (i.zero, i.size, i.bytes)) = some (some (.string ⟨#[]⟩), 1, 16) := by kernel_rfl
theorem hl_ext {a b : ByteArray} (h : a.data.toList = b.data.toList) : a = b := by
  apply ByteArray.ext
  exact Array.ext' h

structure HlMid (w : World) (v : Value) (hs : List ByteArray) (wr : World) : Prop where
  row : wr.ownsRow w.heap.size 9 1 v hs.length (hs.map Value.string)
  below : Below w.heap.size w wr
/-- Is it known already? -/
def knwn (x : Nd) (hs : List ByteArray) : Bool := decide (x.op ≠ 18) || hs.any (fun y => decide (y = x.name))
theorem addNm_knwn (hs : List ByteArray) (x : Nd) : addNm hs x = if knwn x hs = true then hs else hs ++ [x.name] := by
  unfold addNm knwn
  by_cases h : x.op = 18
  · have e : decide (x.op ≠ 18) = false := by simp [h]
    rw [if_pos h, e, Bool.false_or]
  · have e : decide (x.op ≠ 18) = true := by simp [h]
    rw [if_neg h, e, Bool.true_or, if_pos rfl]
theorem beq_toList (a b : ByteArray) : (a.toList == b.toList) = decide (a = b) := by
  rw [toList_data, toList_data]
  by_cases h : a = b
  · subst h; simp
  · have : a.data.toList ≠ b.data.toList := fun e => h (hl_ext e)
    rw [beq_eq_false_iff_ne.2 this]
    simp [h]
theorem any_take (hs : List ByteArray) (nm : ByteArray) (k : Nat) (hk : k < hs.length) : (hs.take (k + 1)).any (fun y => decide (y = nm)) = ((hs.take k).any (fun y => decide (y = nm)) || decide (hs.getD k ⟨#[]⟩ = nm)) := by
  rw [List.take_succ_eq_append_getElem hk, List.any_append]
  simp [hk]

set_option maxRecDepth 20000 in
set_option maxHeartbeats 4000000 in
theorem refHoles_any {w : World} {ao : Option Addr} {cap : Nat} {l : List Nd} (hN : Rd w ao cap l) (hlen : l.length * 56 ≤ 140737488355328) :
    Calls Tryd.prog 34 #[.slice ao l.length cap] w fun e w' => ∃ va vc, e = .returned (.slice va (hlsL l).length vc) ∧ Below w.heap.size w w' := by
  obtain ⟨hb1, hb2⟩ := hN.bound
  unfold maxLen at hb2
  obtain ⟨i0, hi, hz0, hz1, hz2⟩ := info_parts Tryd.infoStrH
  have HN : Hid (Rd w ao cap l) := hN
  have HE : Hid (hlsL (l.take l.length) = hlsL l) := by show _ = _; rw [List.take_length]
  clear hN
  go_enter Tryd.func34, Tryd.ntmps34
  go_wp2_with fail
  go_loopw [3, 4] (fun v i wr => ∃ k : Nat, k ≤ l.length ∧ i = .int .i64 k ∧ HlMid w v (hlsL (l.take k)) wr) (fun _ i _ => l.length - (RowKit.intOf i).toNat)
  case atStart => exact ⟨0, by omega, rfl, by simpa [hlsL] using World.ownsRow_nil _ _ _ _, Below.refl _ _⟩
  case round =>
    obtain ⟨k, hk, rfl, hM⟩ := hrel
    obtain ⟨wa, hwa⟩ : ∃ wa, wa = wr := ⟨_, rfl⟩
    subst hwa
    have hbw := hM.below
    have hsw := hbw.size
    obtain ⟨va, vc, hv⟩ := row_form' hM.row
    subst hv
    by_cases hlt : k < l.length
    · obtain ⟨b, o, kv, rfl, hbk, hna⟩ := Rd.cell (HN.out.below hbw hsw) hlt
      have HX : Hid (hlsL (l.take (k + 1)) = if knwn (l.getD k nd0) (hlsL (l.take k)) = true then hlsL (l.take k) else hlsL (l.take k) ++ [(l.getD k nd0).name]) := by
        show _ = _
        rw [List.take_succ_eq_append_getElem hlt, hlsL_snoc, addNm_knwn]
        simp [hlt]
      have hhl := hlsL_len (l.take k)
      have hhl2 : (hlsL (l.take k)).length ≤ k := by simp at hhl; omega
      clear hhl
      generalize hlsL (l.take k) = hs at *
      obtain ⟨c0, c1, c2, c3, hki⟩ := hna
      generalize hx : l.getD k nd0 = x at *
      obtain ⟨op, n, nm, kids⟩ := x
      simp only at c0 c2 HX
      have HM : Hid (HlMid w (.slice va hs.length vc) hs wa) := hM
      obtain ⟨kw, hkw⟩ : ∃ kw, decide (op ≠ 18) = kw := ⟨_, rfl⟩
      have hkw' : (op != 18) = kw := by rw [← hkw]; by_cases e : op = 18 <;> simp [e]
      have HKW : Hid (decide (op ≠ 18) = kw) := hkw
      clear hM hx hki c1 c3 hkw
      have cell : Hid (∀ j, j < hs.length → ∃ g c, va = some ⟨g, 0, none⟩ ∧ vc = c ∧ g < wa.heap.size ∧ hs.length ≤ c ∧ c ≤ maxLen ∧ wa.cell? ⟨g, j, none⟩ = some (.string (hs.getD j ⟨#[]⟩))) := fun j hj => by
        obtain ⟨g, c, e, h1, h2, h3, h4⟩ := row_cell HM.out.row hj (d := .string ⟨#[]⟩)
        cases e
        refine ⟨g, vc, rfl, rfl, h1, h2, h3, ?_⟩
        rw [h4]; simp [hj]
      go_wp2_with fail
      go_loopw [5, 6] (fun v i wq => ∃ (j : Nat) (q : Bool), j ≤ hs.length ∧ i = .int .i64 j ∧ v = .bool q ∧ Hid (q = (kw || (hs.take j).any (fun y => decide (y = nm)))) ∧ Below wa.heap.size wa wq) (fun _ i _ => hs.length - (RowKit.intOf i).toNat)
      case atStart => exact ⟨0, kw, by omega, rfl, by first | rfl | (rw [hkw'] <;> rfl) | simp [hkw'], by show kw = _; simp, Below.refl _ _⟩
      case round =>
        obtain ⟨j, q, hj, rfl, rfl, hq, hbq⟩ := hrel
        by_cases hjl : j < hs.length
        · obtain ⟨g, c, rfl, rfl, hgl, hg1, hg2, hcj⟩ := cell.out j hjl
          unfold maxLen at hg2
          have e1 := (hbq.cell (p := ⟨g, j, none⟩) hgl).trans hcj
          have e2 := (hbq.cell (p := ⟨b, o + k * 4 + 2, none⟩) hbk).trans c2
          have HQ : Hid (_) := hq
          have HA := any_take hs nm j hjl
          have HAH : Hid (_) := HA
          have HBQ : Hid (Below wa.heap.size wa wr) := hbq
          generalize hs.getD j ⟨#[]⟩ = y at *
          clear hcj hq HA hbq
          cases q with
          | true =>
            go_wp2_with fail
            go_quiet (fail)
            go_wp2_with fail
            refine ⟨⟨j + 1, true, by omega, by go_num, rfl, ?_, below_drewN' HBQ.out _⟩, by simp [RowKit.intOf]; omega⟩
            show true = _
            rw [HAH.out, ← Bool.or_assoc, ← HQ.out]; rfl
          | false =>
            obtain ⟨ee, hee⟩ : ∃ e, decide (y = nm) = e := ⟨_, rfl⟩
            go_wp2_with fail
            go_quiet (fail)
            go_wp2_with fail
            refine ⟨⟨j + 1, decide (y = nm), by omega, by go_num, ?_, ?_, below_drewN' HBQ.out _⟩, by simp [RowKit.intOf]; omega⟩
            · rw [← beq_toList] <;> rfl
            · show decide (y = nm) = _
              rw [HAH.out, ← Bool.or_assoc, ← HQ.out]; rfl
        · have hje : j = hs.length := by omega
          subst hje
          rw [List.take_length] at hq
          have HQ : Hid (q = knwn ⟨op, n, nm, kids⟩ hs) := by show q = _; rw [hq.out, ← HKW.out]; rfl
          have e2 := (hbq.cell (p := ⟨b, o + k * 4 + 2, none⟩) hbk).trans c2
          have HBQ : Hid (Below wa.heap.size wa wr) := hbq
          have HM2 : Hid (HlMid w (.slice va hs.length vc) hs wr) := ⟨ownsRow_below HM.out.row hbq, HM.out.below.trans (hbq.mono HM.out.below.size)⟩
          have hs2 := HM2.out.below.size
          clear hq hbq
          cases q with
          | true =>
            have HE2 : Hid (hlsL (l.take (k + 1)) = hs) := by show _ = _; rw [HX.out, ← HQ.out]; rfl
            go_wp2_with fail
            exact ⟨⟨k + 1, by omega, by go_num, by rw [HE2.out]; exact HM2.out⟩, by simp [RowKit.intOf]; omega⟩
          | false =>
            have HE2 : Hid (hlsL (l.take (k + 1)) = hs ++ [nm]) := by show _ = _; rw [HX.out, ← HQ.out]; rfl
            go_wp2_with (at_builtin; refine wpList_append_lies _ rfl (.tmp 40) (.tmp 46) 33 rfl w.heap.size 9 i0 (.string ⟨#[]⟩) 1 16 Tryd.underlying33 hi hz0 hz1 hz2 rfl (by decide) _ _ _ rfl (HM2.out.row.alloc _) ⟨wr.heap.size, 0, none⟩ 1 1 [.string nm] rfl rfl (cell_news_one _ _ _) (by simp [Value.oneCell']) (by omega) (by unfold maxLen; omega) (by omega) (by simp; omega) _ rfl ?_; intro g6 cap6 w6 hown6 hg6 hat6 hl6)
            refine ⟨⟨k + 1, by omega, by go_num, ?_⟩, by simp [RowKit.intOf]; omega⟩
            rw [HE2.out]
            refine ⟨?_, (HM2.out.below.alloc (by omega) _).grown hg6 (by simp; omega) (fun j hj => (own_block' HM2.out.row j hj).1)⟩
            have e3 : (hs ++ [nm]).length = hs.length + 1 := by simp
            rw [e3, List.map_append]; exact hown6
    · have hke : k = l.length := by omega
      subst hke
      rw [HE.out]
      go_wp2_with fail
      go_ret
      exact ⟨va, vc, rfl, hbw⟩
end Go.Proofs.YtjmccobblpcbhaaDoor
