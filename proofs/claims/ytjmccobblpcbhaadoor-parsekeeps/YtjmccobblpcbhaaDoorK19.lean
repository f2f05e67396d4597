/-
  RrNuW, PsNam, RrNaW, SgRel.
-/
import Derived.Shelf.Unicode.DecodeSlow
import Derived.Laws.RangeAny
import Derived.Shelf.Strings.Builder1
import Derived.Shelf.Small.Utf8
import Derived.Shelf.Small.Bits
import Derived.Shelf.Strings.BuilderF
import Derived.Shelf.Strings.BuilderK
import Derived.Shelf.Strings.BuilderRune
import Derived.Shelf.Utf8.AppendRune
import Derived.Shelf.Strconv.Itoa0
import Derived.Shelf.Strconv.Itoa1
import Derived.Shelf.LaysM
import Derived.Shelf.Strconv.Itoa2
import Derived.Shelf.Strconv.Itoa3
import Derived.Shelf.Strconv.Itoa4
import Derived.Shelf.Strings.Prefix
import Derived.Shelf.Unicode.DecodeAny
import Derived.Test.YtjmccobblpcbhaaDoorProg
import Derived.WalkKit
import Derived.Deep.DeepFit
import Derived.Lib.OthersKept
import Derived.Lib.RuneCountTail
import Derived.Lib.Small
import Derived.Lib.Strings
import Derived.Lib.MapLaws
import Derived.Deep.AppendLies
import Derived.Deep.OwnRows
import Derived.Laws.AppendOwnNone
import Derived.Deep.QuietTactic
import Derived.BigQuiet
import Derived.Deep.RegionWith
import Derived.Laws.DeepStrings4
import Derived.Deep.RegionHeld3
import Derived.Laws.ResultCell
import Derived.Lib.QuietBelow
import Derived.Deep.Heap
import Derived.Laws.Rows
import Derived.Below
import Derived.StillTail
import Derived.Sort.Walk0
import Derived.Deep.RegionLaw
import Derived.Laws.OwnMore
import Derived.Test.YtjmccobblpcbhaaDoorK01
import Derived.Test.YtjmccobblpcbhaaDoorK02
import Derived.Test.YtjmccobblpcbhaaDoorK03
import Derived.Test.YtjmccobblpcbhaaDoorK04
import Derived.Test.YtjmccobblpcbhaaDoorK05
import Derived.Test.YtjmccobblpcbhaaDoorK06
import Derived.Test.YtjmccobblpcbhaaDoorK07
import Derived.Test.YtjmccobblpcbhaaDoorK08
import Derived.Test.YtjmccobblpcbhaaDoorK09
import Derived.Test.YtjmccobblpcbhaaDoorK10
import Derived.Test.YtjmccobblpcbhaaDoorK11
import Derived.Test.YtjmccobblpcbhaaDoorK12
import Derived.Test.YtjmccobblpcbhaaDoorK13
import Derived.Test.YtjmccobblpcbhaaDoorK14
import Derived.Test.YtjmccobblpcbhaaDoorK15
import Derived.Test.YtjmccobblpcbhaaDoorK16
import Derived.Test.YtjmccobblpcbhaaDoorK17
import Derived.Test.YtjmccobblpcbhaaDoorK18
set_option linter.unusedSimpArgs false
set_option linter.unusedVariables false
namespace Go.Proofs.YtjmccobblpcbhaaDoor
open Go.RowKit Go.Lib Go.Sort

/-- May the number stand there? -/
def nuOk (v : Nat) (er : Int) (minus : Bool) : Prop := er = 0 ∧ v ≤ 9223372036854775808 ∧ (v = 9223372036854775808 → minus = true)
def nuV (v : Nat) (minus : Bool) : Int := if minus then -(v : Int) else v

set_option maxHeartbeats 4000000 in
theorem number_bad (w : World) (R : Nat) (s : ByteArray) (pat : Bool) (a o ft : Nat) (minus : Bool) (hM : RdM w R s pat a o ft 0) (hs : s.size ≤ 4096) (v b : Nat) (er : Int) (hN : numI s a = (v, b, er)) (hok : ¬ nuOk v er minus) :
    Calls Tryd.prog 158 #[.pointer (some ⟨R, 0, none⟩), .bool minus] w fun x w' => x = .returned (.slice none 0 0) ∧ RdM w' R s pat a o a 10 ∧ w.grownBy w' (some R) := by
  have hs0 : s.size ≤ maxLen := by unfold maxLen; omega
  have M0 : Hid (RdM w R s pat a o ft 0) := hM
  have B0 : Hid (Below w.heap.size w w) := Below.refl _ _
  obtain ⟨c0, c1, c2, c3, c4, c5⟩ := hM.cells
  have g0 := cell_regrown c0
  have g2 := cell_regrown c2
  have cN : Hid (∀ d os, Calls Tryd.prog 173 #[.string s, .int .i64 (a : Int)] (grow (redrawn w d) os) fun e w'' => e = .returned (.tuple #[.int .u64 (v : Int), .int .i64 (b : Int), .int .i64 er]) ∧ ∃ p : Regrown, w'' = grow (redrawn w p.d) p.os) := fun d os => Calls.regrown_of (by
    have := refNumber_any s (a : Int) (grow (redrawn w d) os) hs0
    rw [hN] at this
    exact this)
  clear hM hN
  have key : er ≠ 0 ∨ (er = 0 ∧ 9223372036854775808 < v) ∨ (er = 0 ∧ v = 9223372036854775808 ∧ minus = false) := by
    unfold nuOk at hok
    by_cases h1 : er = 0
    · by_cases h2 : 9223372036854775808 < v
      · exact .inr (.inl ⟨h1, h2⟩)
      · by_cases h3 : v = 9223372036854775808
        · cases hm : minus
          · exact .inr (.inr ⟨h1, h3, rfl⟩)
          · exact absurd ⟨h1, by omega, fun _ => hm⟩ hok
        · exact absurd ⟨h1, by omega, fun h => absurd h h3⟩ hok
    · exact .inl h1
  clear hok
  go_enter Tryd.func158, Tryd.ntmps158
  go_wp2_with fail
  refine wp_region_quiet_below (by kernel_rfl) (by kernel_rfl) ?_
  iterate 16 (go_big_quiet_step ((go_at_call 173; exact cN.out _ _)))
  refine wpQuiet_nil ?_
  intro _ hw'
  obtain ⟨⟨ds, oss⟩, hw''⟩ := hw'
  subst hw''
  have b' := below_regrown w ds oss
  have M1 : Hid (RdM (grow (redrawn w ds) oss) R s pat a o ft 0) := M0.out.below b'
  have B1 : Hid (Below w.heap.size w (grow (redrawn w ds) oss)) := B0.out.trans (b'.mono B0.out.size)
  generalize grow (redrawn w ds) oss = w1 at *
  clear b'
  obtain ⟨d0, d1, d2, d3, d4, d5⟩ := M1.out.cells
  clear c0 c1 c2 c3 c4 c5 g0 g2 cN
  have cF := rfail_any w1 R s pat a o ft 0 M1.out a 10
  have HB1 : Hid (w.grownBy w1 (some R)) := gr_of_below B1.out _
  rcases key with h | ⟨rfl, h⟩ | ⟨rfl, rfl, rfl⟩
  · have ge : (er != 0) = true := by simp [h]
    clear h
    go_wp2_with fail
    refine cF.mono ?_
    rintro x w2 ⟨rfl, hm, hg⟩
    have HM2 : Hid (RdM w2 R s pat a o a 10) := hm
    have HG2 : Hid (w.grownBy w2 (some R)) := HB1.out.trans hg
    clear hm hg
    go_wp2_with fail
    go_ret
    exact ⟨rfl, HM2.out, HG2.out⟩
  · have gv : (9223372036854775808 : Int) < (v : Int) := by omega
    go_wp2_with fail
    refine cF.mono ?_
    rintro x w2 ⟨rfl, hm, hg⟩
    have HM2 : Hid (RdM w2 R s pat a o a 10) := hm
    have HG2 : Hid (w.grownBy w2 (some R)) := HB1.out.trans hg
    clear hm hg
    go_wp2_with fail
    go_ret
    exact ⟨rfl, HM2.out, HG2.out⟩
  · go_wp2_with fail
    refine cF.mono ?_
    rintro x w2 ⟨rfl, hm, hg⟩
    have HM2 : Hid (RdM w2 R s pat a o a 10) := hm
    have HG2 : Hid (w.grownBy w2 (some R)) := HB1.out.trans hg
    clear hm hg
    go_wp2_with fail
    go_ret
    exact ⟨rfl, HM2.out, HG2.out⟩

/-- One node, new. -/
theorem own_one {W : World} {base : Nat} (hB : base ≤ W.heap.size) (op n : Int) (nm : ByteArray) : OwnN (W.alloc (.cells #[.int .i64 op, .int .i64 n, .string nm, .slice none 0 0] 60)) base (.slice (some ⟨W.heap.size, 0, none⟩) 1 1) [⟨op, n, nm, []⟩] := by
  refine ⟨[(⟨op, n, nm, []⟩, .slice none 0 0)], rfl, ?_, ?_⟩
  · exact World.ownsRow_lit (base := base) (e := 60) (size := 4) W #[.int .i64 op, .int .i64 n, .string nm, .slice none 0 0] 1 (by omega) (by unfold maxLen; omega) (by simp)
  · intro q hq
    have : q = (⟨op, n, nm, []⟩, .slice none 0 0) := by simpa using hq
    subst this
    exact OwnI_nil _ _
theorem neg_wrap (v : Nat) (h : v ≤ 9223372036854775808) : IntKind.i64.wrap (-(IntKind.i64.wrap (v : Int))) = -(v : Int) := by
  simp [IntKind.wrap, IntKind.bits, IntKind.signed]
  omega

set_option maxHeartbeats 4000000 in
theorem number_ok (w : World) (R : Nat) (s : ByteArray) (pat : Bool) (a o ft : Nat) (e : Int) (minus : Bool) (hM : RdM w R s pat a o ft e) (hs : s.size ≤ 4096) (v b : Nat) (er : Int) (hN : numI s a = (v, b, er)) (hok : nuOk v er minus) (hb : b ≤ s.size) :
    Calls Tryd.prog 158 #[.pointer (some ⟨R, 0, none⟩), .bool minus] w fun x w' => (∃ x', x = .returned x' ∧ OwnN w' w.heap.size x' [⟨1, nuV v minus, ⟨#[]⟩, []⟩]) ∧ RdM w' R s pat (skp s b) o ft e ∧ w.grownBy w' (some R) := by
  have hs0 : s.size ≤ maxLen := by unfold maxLen; omega
  have M0 : Hid (RdM w R s pat a o ft e) := hM
  have B0 : Hid (Below w.heap.size w w) := Below.refl _ _
  obtain ⟨c0, c1, c2, c3, c4, c5⟩ := hM.cells
  have g0 := cell_regrown c0
  have g2 := cell_regrown c2
  have cN : Hid (∀ d os, Calls Tryd.prog 173 #[.string s, .int .i64 (a : Int)] (grow (redrawn w d) os) fun e w'' => e = .returned (.tuple #[.int .u64 (v : Int), .int .i64 (b : Int), .int .i64 er]) ∧ ∃ p : Regrown, w'' = grow (redrawn w p.d) p.os) := fun d os => Calls.regrown_of (by
    have := refNumber_any s (a : Int) (grow (redrawn w d) os) hs0
    rw [hN] at this
    exact this)
  clear hM hN
  obtain ⟨rfl, hv, hmx⟩ := hok
  go_enter Tryd.func158, Tryd.ntmps158
  go_wp2_with fail
  refine wp_region_quiet_below (by kernel_rfl) (by kernel_rfl) ?_
  iterate 16 (go_big_quiet_step ((go_at_call 173; exact cN.out _ _)))
  refine wpQuiet_nil ?_
  intro _ hw'
  obtain ⟨⟨ds, oss⟩, hw''⟩ := hw'
  subst hw''
  have b' := below_regrown w ds oss
  have M1 : Hid (RdM (grow (redrawn w ds) oss) R s pat a o ft e) := M0.out.below b'
  have B1 : Hid (Below w.heap.size w (grow (redrawn w ds) oss)) := B0.out.trans (b'.mono B0.out.size)
  generalize grow (redrawn w ds) oss = w1 at *
  clear b'
  obtain ⟨d0, d1, d2, d3, d4, d5⟩ := M1.out.cells
  have df := M1.out.frozen 2
  have hl := M1.out.lt
  clear c0 c1 c2 c3 c4 c5 g0 g2 cN
  have M2 := M1.out.at_ b
  have G2 : Hid (w.grownBy (w1.setCell ⟨R, 2, none⟩ (.int .i64 (b : Int))) (some R)) := gr_setB (gr_of_below B1.out _)
  have cS := rskip_any _ R s pat b o ft e M2 hs hb
  clear M2
  have gv : ¬ (9223372036854775808 : Int) < (v : Int) := by omega
  have zw := B1.out.size
  cases minus with
  | false =>
    have hv2 : v ≤ 9223372036854775807 := by
      by_cases h : v = 9223372036854775808
      · cases hmx h
      · omega
    have gv2 : ((v : Int) == 9223372036854775808) = false := by rw [beq_eq_false_iff_ne]; omega
    have hw : IntKind.i64.wrap (v : Int) = (v : Int) := wrap_nat v hv2
    go_wp2_with fail
    refine cS.mono ?_
    rintro x w3 ⟨rfl, hm, hg⟩
    have HM3 : Hid (RdM w3 R s pat (skp s b) o ft e) := hm
    have HG3 : Hid (w.grownBy w3 (some R)) := G2.out.trans hg
    clear hm hg cS
    go_wp2_with fail
    go_ret
    exact ⟨⟨_, rfl, own_one HG3.out.size 1 (v : Int) ⟨#[]⟩⟩, HM3.out.below ((Below.refl _ _).alloc (Nat.le_refl _) _), HG3.out.trans (gr_of_below ((Below.refl _ _).alloc (Nat.le_refl _) _) _)⟩
  | true =>
    have hw := neg_wrap v hv
    by_cases h63 : v = 9223372036854775808
    · have gv2 : ((v : Int) == 9223372036854775808) = true := by rw [beq_iff_eq]; omega
      have hw64 : wrap64 (-wrap64 (v : Int)) = -(v : Int) := by first | exact hw | (unfold wrap64; omega)
      clear h63
      go_wp2_with fail
      refine cS.mono ?_
      rintro x w3 ⟨rfl, hm, hg⟩
      have HM3 : Hid (RdM w3 R s pat (skp s b) o ft e) := hm
      have HG3 : Hid (w.grownBy w3 (some R)) := G2.out.trans hg
      clear hm hg cS
      go_wp2_with fail
      go_ret
      rw [hw64]
      exact ⟨⟨_, rfl, own_one HG3.out.size 1 (-(v : Int)) ⟨#[]⟩⟩, HM3.out.below ((Below.refl _ _).alloc (Nat.le_refl _) _), HG3.out.trans (gr_of_below ((Below.refl _ _).alloc (Nat.le_refl _) _) _)⟩
    · have gv2 : ((v : Int) == 9223372036854775808) = false := by rw [beq_eq_false_iff_ne]; omega
      have hw1 : IntKind.i64.wrap (v : Int) = (v : Int) := wrap_nat v (by omega)
      rw [hw1] at hw
      clear h63
      go_wp2_with fail
      refine cS.mono ?_
      rintro x w3 ⟨rfl, hm, hg⟩
      have HM3 : Hid (RdM w3 R s pat (skp s b) o ft e) := hm
      have HG3 : Hid (w.grownBy w3 (some R)) := G2.out.trans hg
      clear hm hg cS
      go_wp2_with fail
      go_ret
      exact ⟨⟨_, rfl, own_one HG3.out.size 1 (-(v : Int)) ⟨#[]⟩⟩, HM3.out.below ((Below.refl _ _).alloc (Nat.le_refl _) _), HG3.out.trans (gr_of_below ((Below.refl _ _).alloc (Nat.le_refl _) _) _)⟩
end Go.Proofs.YtjmccobblpcbhaaDoor

set_option linter.unusedSimpArgs false
set_option linter.unusedVariables false
namespace Go.Proofs.YtjmccobblpcbhaaDoor
open Go.Lib

def SzOk (s : ByteArray) (st : Ps) : Prop := ∀ x ∈ st.nodes, x.name.size ≤ s.size
theorem ext_sz (s : ByteArray) (a b : Nat) : (s.extract a b).size ≤ s.size := by
  simp [ByteArray.size_extract]; omega
theorem SzOk.add {s : ByteArray} {st : Ps} {x : Nd} (h : SzOk s st) (hx : x.name.size ≤ s.size) : SzOk s (psAdd x st).2 := by
  intro y hy
  have hy : y ∈ st.nodes ++ [x] := hy
  rcases List.mem_append.1 hy with h1 | h1
  · exact h y h1
  · rw [List.mem_singleton.1 h1]; exact hx
theorem SzOk.nx {s : ByteArray} {pat : Bool} {most : Nat} {st st1 : Ps} (h : SzOk s st) (hn : psNx s pat most st = .ok st1) : SzOk s st1 := by
  obtain ⟨t, _, h2⟩ := Pr.bind_ok hn
  cases h2; exact h
theorem SzOk.ex {s : ByteArray} {pat : Bool} {c : Int} {st st1 : Ps} (h : SzOk s st) (hn : psEx s pat c st = .ok st1) : SzOk s st1 := by
  unfold psEx at hn
  split at hn
  · split at hn
    · exact h.nx hn
    · cases hn
  · cases hn
theorem psRun_sz (s : ByteArray) (pat : Bool) : ∀ (f : Nat) (q : Rl) (st : Ps) (r : Nat × Ps), SzOk s st → psRun s pat f q st = .ok r → SzOk s r.2 := by
  intro f
  induction f with
  | zero => intro q st r _ h; cases h
  | succ f ih =>
    intro q st r hst h
    cases q with
    | cond =>
      obtain ⟨c, h1, h2⟩ := Pr.bind_ok h
      have k1 := ih (.pair 1) _ _ hst h1
      split at h2
      · obtain ⟨st2, h3, h2⟩ := Pr.bind_ok h2
        obtain ⟨a, h4, h2⟩ := Pr.bind_ok h2
        obtain ⟨st4, h5, h2⟩ := Pr.bind_ok h2
        obtain ⟨b, h6, h2⟩ := Pr.bind_ok h2
        cases h2
        have k := ih .cond _ _ ((ih .cond _ _ (k1.nx h3) h4).ex h5) h6; exact k.add (Nat.zero_le _)
      · cases h2; exact k1
    | pair lv =>
      simp only [psRun] at h
      split at h
      · exact ih .un _ _ hst h
      · obtain ⟨a, h1, h2⟩ := Pr.bind_ok h
        exact ih (.loop lv a.1) _ _ (ih (.pair (lv + 1)) _ _ hst h1) h2
    | loop lv a =>
      simp only [psRun] at h
      split at h
      · obtain ⟨st1, h1, h⟩ := Pr.bind_ok h
        obtain ⟨b, h2, h⟩ := Pr.bind_ok h
        have k2 := ih (.pair (lv + 1)) _ _ (hst.nx h1) h2
        split at h
        · cases h; exact k2.add (Nat.zero_le _)
        · exact ih _ _ _ (show SzOk s (psJoin (psOp st.now.what).1 [a, b.1] b.2).2 from k2.add (Nat.zero_le _)) h
      · cases h; exact hst
    | un =>
      simp only [psRun] at h
      split at h
      · split at h
        · obtain ⟨st1, h1, h⟩ := Pr.bind_ok h
          obtain ⟨x, h2, h⟩ := Pr.bind_ok h
          cases h
          have k := ih .un _ _ (hst.nx h1) h2; exact k.add (Nat.zero_le _)
        · obtain ⟨st1, h1, h⟩ := Pr.bind_ok h
          obtain ⟨st2, h2, h⟩ := Pr.bind_ok h
          cases h
          exact ((hst.nx h1).ex h2).add (Nat.zero_le _)
      · split at h
        · obtain ⟨st1, h1, h⟩ := Pr.bind_ok h
          obtain ⟨x, h2, h⟩ := Pr.bind_ok h
          cases h
          have k := ih .un _ _ (hst.nx h1) h2; exact k.add (Nat.zero_le _)
        · exact ih .atom _ _ hst h
    | atom =>
      simp only [psRun] at h
      split at h
      · obtain ⟨st2, h2, h⟩ := Pr.bind_ok h
        cases h
        exact (hst.ex h2).add (Nat.zero_le _)
      · split at h
        · obtain ⟨st2, h2, h⟩ := Pr.bind_ok h
          cases h
          exact (hst.ex h2).add (ext_sz _ _ _)
        · split at h
          · obtain ⟨st1, h1, h⟩ := Pr.bind_ok h
            obtain ⟨st2, h2, h⟩ := Pr.bind_ok h
            cases h
            exact ((hst.nx h1).ex h2).add (ext_sz _ _ _)
          · split at h
            · split at h
              · cases h
              · obtain ⟨st1, h1, h⟩ := Pr.bind_ok h
                obtain ⟨e, h2, h⟩ := Pr.bind_ok h
                obtain ⟨st3, h3, h⟩ := Pr.bind_ok h
                cases h
                have k : SzOk s st3 := SzOk.ex (ih .cond _ _ (SzOk.nx (st := { st with brk := st.brk + 1 }) hst h1) h2) h3
                exact k
            · cases h

end Go.Proofs.YtjmccobblpcbhaaDoor

set_option linter.unusedSimpArgs false
set_option linter.unusedVariables false
namespace Go.Proofs.YtjmccobblpcbhaaDoor
open Go.RowKit Go.Lib Go.Sort

set_option maxHeartbeats 4000000 in
/-- A name stands there. -/
theorem name_in (w : World) (R : Nat) (s : ByteArray) (pat : Bool) (a o ft : Nat) (op : Int) (hM : RdM w R s pat a o ft 0) (hs : s.size ≤ 4096) (b : Nat) (hN : spanI s a = ((b : Int), 0)) (hab : a ≤ b) (hb : b ≤ s.size) :
    Calls Tryd.prog 174 #[.pointer (some ⟨R, 0, none⟩), .int .i64 op] w fun x w' =>
      if nameB (s.extract a b) = true then (∃ x', x = .returned x' ∧ OwnN w' w.heap.size x' [⟨op, 0, s.extract a b, []⟩]) ∧ RdM w' R s pat (skp s b) o ft 0 ∧ w.grownBy w' (some R)
      else x = .returned (.slice none 0 0) ∧ RdM w' R s pat a o a 7 ∧ w.grownBy w' (some R) := by
  have hs0 : s.size ≤ maxLen := by unfold maxLen; omega
  obtain ⟨c0, c1, c2, c3, c4, c5⟩ := hM.cells
  have M0 : Hid (RdM w R s pat a o ft 0) := hM
  have cS := refSpan_any s (a : Int) w hs0
  rw [hN] at cS
  have hq0 : (s.extract a b).size ≤ maxLen := Nat.le_trans (ext_sz s a b) hs0
  clear hM hN
  have hai : (a : Int) ≤ (b : Int) := by omega
  have hbi : (b : Int) ≤ (s.size : Int) := by omega
  have hsi : (s.size : Int) ≤ 4096 := by omega
  cases hnm : nameB (s.extract a b) with
  | true =>
    have HP : ∀ (x : Ending) (w' : World), ((∃ x', x = .returned x' ∧ OwnN w' w.heap.size x' [⟨op, 0, s.extract a b, []⟩]) ∧ RdM w' R s pat (skp s b) o ft 0 ∧ w.grownBy w' (some R)) → (if true = true then (∃ x', x = .returned x' ∧ OwnN w' w.heap.size x' [⟨op, 0, s.extract a b, []⟩]) ∧ RdM w' R s pat (skp s b) o ft 0 ∧ w.grownBy w' (some R) else x = .returned (.slice none 0 0) ∧ RdM w' R s pat a o a 7 ∧ w.grownBy w' (some R)) := fun x w' h => by rw [if_pos rfl]; exact h
    refine Calls.mono ?_ HP
    clear HP
    have cM : Hid (∀ W, Calls Tryd.prog 73 #[.string (s.extract a b)] W fun e w' => e = .returned (.bool true) ∧ Below W.heap.size W w') := fun W => by
      have := refName_any (s.extract a b) W hq0
      rw [hnm] at this; exact this
    clear hnm
    go_enter Tryd.func174, Tryd.ntmps174
    go_wp2_with fail
    refine cS.mono ?_
    rintro x w1 ⟨rfl, hb1⟩
    have M1 : Hid (RdM w1 R s pat a o ft 0) := M0.out.below hb1
    obtain ⟨d0, d1, d2, d3, d4, d5⟩ := M1.out.cells
    clear c0 c1 c2 c3 c4 c5 cS
    go_wp2_with fail
    refine (cM.out _).mono ?_
    rintro x w2 ⟨rfl, hb2⟩
    have M2 : Hid (RdM w2 R s pat a o ft 0) := M1.out.below hb2
    have B2 : Hid (Below w.heap.size w w2) := hb1.trans (hb2.mono hb1.size)
    obtain ⟨f0, f1, f2, f3, f4, f5⟩ := M2.out.cells
    have fz := M2.out.frozen 2
    have hl := M2.out.lt
    have cK := rskip_any _ R s pat b o ft 0 (M2.out.at_ b) hs hb
    have G2 : Hid (w.grownBy (w2.setCell ⟨R, 2, none⟩ (.int .i64 (b : Int))) (some R)) := gr_setB (gr_of_below B2.out _)
    clear d0 d1 d2 d3 d4 d5 hb2 hb1
    go_wp2_with fail
    refine cK.mono ?_
    rintro x w3 ⟨rfl, hm, hg⟩
    have HM3 : Hid (RdM w3 R s pat (skp s b) o ft 0) := hm
    have HG3 : Hid (w.grownBy w3 (some R)) := G2.out.trans hg
    clear hm hg cK
    go_wp2_with fail
    go_ret
    exact ⟨⟨_, rfl, own_one HG3.out.size op 0 (s.extract a b)⟩, HM3.out.below ((Below.refl _ _).alloc (Nat.le_refl _) _), HG3.out.trans (gr_of_below ((Below.refl _ _).alloc (Nat.le_refl _) _) _)⟩
  | false =>
    have HP : ∀ (x : Ending) (w' : World), (x = .returned (.slice none 0 0) ∧ RdM w' R s pat a o a 7 ∧ w.grownBy w' (some R)) → (if false = true then (∃ x', x = .returned x' ∧ OwnN w' w.heap.size x' [⟨op, 0, s.extract a b, []⟩]) ∧ RdM w' R s pat (skp s b) o ft 0 ∧ w.grownBy w' (some R) else x = .returned (.slice none 0 0) ∧ RdM w' R s pat a o a 7 ∧ w.grownBy w' (some R)) := fun x w' h => by rw [if_neg (by decide)]; exact h
    refine Calls.mono ?_ HP
    clear HP
    have cM : Hid (∀ W, Calls Tryd.prog 73 #[.string (s.extract a b)] W fun e w' => e = .returned (.bool false) ∧ Below W.heap.size W w') := fun W => by
      have := refName_any (s.extract a b) W hq0
      rw [hnm] at this; exact this
    clear hnm
    go_enter Tryd.func174, Tryd.ntmps174
    go_wp2_with fail
    refine cS.mono ?_
    rintro x w1 ⟨rfl, hb1⟩
    have M1 : Hid (RdM w1 R s pat a o ft 0) := M0.out.below hb1
    obtain ⟨d0, d1, d2, d3, d4, d5⟩ := M1.out.cells
    clear c0 c1 c2 c3 c4 c5 cS
    go_wp2_with fail
    refine (cM.out _).mono ?_
    rintro x w2 ⟨rfl, hb2⟩
    have M2 : Hid (RdM w2 R s pat a o ft 0) := M1.out.below hb2
    have B2 : Hid (Below w.heap.size w w2) := hb1.trans (hb2.mono hb1.size)
    have cF := rfail_any w2 R s pat a o ft 0 M2.out a 7
    clear d0 d1 d2 d3 d4 d5 hb2 hb1
    go_wp2_with fail
    refine cF.mono ?_
    rintro x w3 ⟨rfl, hm, hg⟩
    have HM3 : Hid (RdM w3 R s pat a o a 7) := hm
    have HG3 : Hid (w.grownBy w3 (some R)) := (gr_of_below B2.out _).trans hg
    clear hm hg cF
    go_wp2_with fail
    go_ret
    exact ⟨rfl, HM3.out, HG3.out⟩

set_option maxHeartbeats 4000000 in
/-- No name stands there. -/
theorem name_no (w : World) (R : Nat) (s : ByteArray) (pat : Bool) (a o ft : Nat) (op : Int) (hM : RdM w R s pat a o ft 0) (hs : s.size ≤ 4096) (ha : a ≤ s.size) (b er : Int) (hN : spanI s a = (b, er)) (he : er ≠ 0) :
    Calls Tryd.prog 174 #[.pointer (some ⟨R, 0, none⟩), .int .i64 op] w fun x w' => x = .returned (.slice none 0 0) ∧ RdM w' R s pat a o a (if sgR s pat a = none then 5 else 6) ∧ w.grownBy w' (some R) := by
  have hs0 : s.size ≤ maxLen := by unfold maxLen; omega
  obtain ⟨c0, c1, c2, c3, c4, c5⟩ := hM.cells
  have M0 : Hid (RdM w R s pat a o ft 0) := hM
  have cS := refSpan_any s (a : Int) w hs0
  rw [hN] at cS
  have ge : (er != 0) = true := by simp [he]
  have cG : Hid (∀ W, RdM W R s pat a o ft 0 → Calls Tryd.prog 99 #[.pointer (some ⟨R, 0, none⟩)] W fun x w' => SgRes W R s pat a o ft 0 (sgR s pat a) x w') := fun W h => sign_any W R s pat a o ft 0 h hs ha
  clear hM hN he
  cases hX : sgR s pat a with
  | none =>
    rw [hX] at cG
    rw [if_pos rfl]
    clear hX
    go_enter Tryd.func174, Tryd.ntmps174
    go_wp2_with fail
    refine cS.mono ?_
    rintro x w1 ⟨rfl, hb1⟩
    have M1 : Hid (RdM w1 R s pat a o ft 0) := M0.out.below hb1
    have B1 : Hid (Below w.heap.size w w1) := hb1
    clear c0 c1 c2 c3 c4 c5 cS hb1
    go_wp2_with fail
    refine (cG.out w1 M1.out).mono ?_
    rintro x w2 ⟨rfl, hm2, hg2⟩
    have hm2' : RdM w2 R s pat a o a 5 := hm2
    have G2 : Hid (w.grownBy w2 (some R)) := (gr_of_below B1.out _).trans hg2
    have cF := rfail_any w2 R s pat a o a 5 hm2' a 6
    clear hm2 hm2' hg2
    go_wp2_with fail
    refine cF.mono ?_
    rintro x w3 ⟨rfl, hm, hg⟩
    have HM3 : Hid (RdM w3 R s pat a o a 5) := hm
    have HG3 : Hid (w.grownBy w3 (some R)) := G2.out.trans hg
    clear hm hg cF
    go_wp2_with fail
    go_ret
    exact ⟨rfl, HM3.out, HG3.out⟩
  | some r =>
    rw [hX] at cG
    rw [if_neg (by simp)]
    clear hX
    go_enter Tryd.func174, Tryd.ntmps174
    go_wp2_with fail
    refine cS.mono ?_
    rintro x w1 ⟨rfl, hb1⟩
    have M1 : Hid (RdM w1 R s pat a o ft 0) := M0.out.below hb1
    have B1 : Hid (Below w.heap.size w w1) := hb1
    clear c0 c1 c2 c3 c4 c5 cS hb1
    go_wp2_with fail
    refine (cG.out w1 M1.out).mono ?_
    rintro x w2 ⟨rfl, hb2⟩
    have M2 : Hid (RdM w2 R s pat a o ft 0) := M1.out.below hb2
    have G2 : Hid (w.grownBy w2 (some R)) := gr_of_below (B1.out.trans (hb2.mono B1.out.size)) _
    have cF := rfail_any w2 R s pat a o ft 0 M2.out a 6
    clear hb2
    go_wp2_with fail
    refine cF.mono ?_
    rintro x w3 ⟨rfl, hm, hg⟩
    have HM3 : Hid (RdM w3 R s pat a o a 6) := hm
    have HG3 : Hid (w.grownBy w3 (some R)) := G2.out.trans hg
    clear hm hg cF
    go_wp2_with fail
    go_ret
    exact ⟨rfl, HM3.out, HG3.out⟩
end Go.Proofs.YtjmccobblpcbhaaDoor

set_option linter.unusedSimpArgs false
set_option linter.unusedVariables false
namespace Go.Proofs.YtjmccobblpcbhaaDoor
open Go.RowKit Go.Lib

theorem two_byte {s : ByteArray} {p : Nat} {c : UInt8} (hp : p < s.size) (h : psTwo s p c = true) : s.get! p = c := by
  unfold psTwo hasPrefix at h
  obtain ⟨r, hr⟩ := List.isPrefixOf_iff_prefix.1 h
  have h0 : (s.extract p s.size).data.toList[0]? = some c := by rw [← hr]; rfl
  have hz : 0 < (s.extract p s.size).size := by rw [tail_size]; omega
  have h1 : (s.extract p s.size).data[0]? = some c := by rw [← Array.getElem?_toList]; exact h0
  have h2 : s.data[p]? = some c := by
    simp [ByteArray.data_extract] at h1
    have := h1
    have h3 : 0 < s.size - p ∧ s.data[p] = c := by simpa [Array.getElem?_extract, hp] using this
    have hp' : p < s.data.size := hp
    rw [Array.getElem?_eq_getElem hp']
    exact congrArg some h3.2
  have hp' : p < s.data.size := hp
  have h3 : s.data[p] = c := by rw [Array.getElem?_eq_getElem hp'] at h2; exact Option.some.inj h2
  show s.data[p]! = c
  rw [getElem!_pos s.data p hp']
  exact h3
theorem two_dec {s : ByteArray} {p : Nat} {c : UInt8} (hp : p < s.size) (hc : c.toNat < 128) (h : psTwo s p c = true) : Utf8.decode s p = (c.toNat, 1) := by
  rw [decode_at, two_byte hp h]
  unfold decodeN
  rw [if_pos hc]
theorem no_two {s : ByteArray} {p : Nat} {c : UInt8} (hp : p < s.size) (hc : c.toNat < 128) (h : (Utf8.decode s p).1 ≠ c.toNat) : psTwo s p c = false := by
  cases h2 : psTwo s p c
  · rfl
  · exact absurd (by rw [two_dec hp hc h2]) h
theorem two_ext (s : ByteArray) (p : Nat) (c : UInt8) : (decide (1 < (s.extract p s.size).size) && ((s.extract p s.size).extract 0 2).toList == [c, c]) = psTwo s p c := by
  unfold psTwo hasPrefix
  generalize s.extract p s.size = r
  have e : (r.extract 0 2).toList = r.data.toList.take 2 := by
    rw [toList_data, ByteArray.data_extract, Array.toList_extract]
    simp [List.extract]
  have e2 : r.size = r.data.toList.length := by rw [Array.length_toList]; rfl
  rw [e, e2]
  generalize r.data.toList = l
  match l with
  | [] => simp
  | [x] => simp [List.isPrefixOf]
  | x :: y :: r => simp [List.isPrefixOf]; rw [Bool.eq_iff_iff]; simp only [Bool.and_eq_true, beq_iff_eq]; constructor <;> (rintro ⟨h1, h2⟩; exact ⟨h1.symm, h2.symm⟩)
def sgW (c : Int) : ByteArray := if c = 0 ∨ c = 48 ∨ c = 97 then ⟨#[]⟩ else if c = 8801 then ⟨#[61, 61]⟩ else if c = 8810 then ⟨#[60, 60]⟩ else if c = 8811 then ⟨#[62, 62]⟩ else Utf8.encode c
theorem wrF_eq (c : Int) : wrF c othL false false = if c = 8722 then some 45 else if c = 215 then some 42 else if c = 183 then some 42 else if c = 247 then some 47 else if c = 172 then some 126 else if c = 8743 then some 38 else if c = 8744 then some 124 else if c = 8853 then some 94 else none := by
  by_cases h0 : c = 8722
  · subst h0; decide +kernel
  have g0 : ((8722 : Int) == c) = false := by rw [beq_eq_false_iff_ne]; omega
  by_cases h1 : c = 215
  · subst h1; decide +kernel
  have g1 : ((215 : Int) == c) = false := by rw [beq_eq_false_iff_ne]; omega
  by_cases h2 : c = 183
  · subst h2; decide +kernel
  have g2 : ((183 : Int) == c) = false := by rw [beq_eq_false_iff_ne]; omega
  by_cases h3 : c = 247
  · subst h3; decide +kernel
  have g3 : ((247 : Int) == c) = false := by rw [beq_eq_false_iff_ne]; omega
  by_cases h4 : c = 172
  · subst h4; decide +kernel
  have g4 : ((172 : Int) == c) = false := by rw [beq_eq_false_iff_ne]; omega
  by_cases h5 : c = 8743
  · subst h5; decide +kernel
  have g5 : ((8743 : Int) == c) = false := by rw [beq_eq_false_iff_ne]; omega
  by_cases h6 : c = 8744
  · subst h6; decide +kernel
  have g6 : ((8744 : Int) == c) = false := by rw [beq_eq_false_iff_ne]; omega
  by_cases h7 : c = 8853
  · subst h7; decide +kernel
  have g7 : ((8853 : Int) == c) = false := by rw [beq_eq_false_iff_ne]; omega
  rw [if_neg h0, if_neg h1, if_neg h2, if_neg h3, if_neg h4, if_neg h5, if_neg h6, if_neg h7]
  simp [wrF, othL, g0, g1, g2, g3, g4, g5, g6, g7]
theorem kd4 {c : Int} (h : kd c = 4) : c ∈ signList := by
  rw [kd_eq] at h
  unfold kindR at h
  split at h
  · omega
  · split at h
    · omega
    · split at h
      · omega
      · split at h
        · omega
        · unfold sgnK at h
          split at h
          · rename_i hs
            unfold isSign at hs
            simpa using hs
          · omega
set_option maxRecDepth 100000 in
theorem kd4_all : ∀ c ∈ signList, kd c = 4 := by decide +kernel
theorem wrT_no {c : Int} (h : kd c ≠ 4) : wrT c = ⟨#[]⟩ := by
  have n : ∀ v ∈ signList, c ≠ v := fun v hv e => h (e ▸ kd4_all v hv)
  unfold wrT
  rw [wrF_eq]
  rw [if_neg (n 8722 (by decide)), if_neg (n 215 (by decide)), if_neg (n 183 (by decide)), if_neg (n 247 (by decide)), if_neg (n 172 (by decide)), if_neg (n 8743 (by decide)), if_neg (n 8744 (by decide)), if_neg (n 8853 (by decide))]
  unfold wrO
  simp only
  rw [if_neg (n 8810 (by decide)), if_neg (n 8811 (by decide)), if_neg (n 8801 (by decide))]

end Go.Proofs.YtjmccobblpcbhaaDoor
