/-
  PsNum, RdPure, JnEq, OutW, CheckW, SpanW.
-/
import Derived.Shelf.Unicode.DecodeSlow
import Derived.Laws.RangeAny
import Derived.Shelf.Strings.Builder1
import Derived.Shelf.Small.Utf8
import Derived.Shelf.Strings.BuilderF
import Derived.Shelf.Strings.BuilderK
import Derived.Shelf.Strings.BuilderRune
import Derived.Shelf.Utf8.AppendRune
import Derived.Shelf.Strconv.Itoa0
import Derived.Shelf.Strconv.Itoa1
import Derived.Shelf.LaysM
import Derived.Shelf.Strconv.Itoa2
import Derived.Shelf.Strconv.Itoa3
import Derived.Shelf.Strconv.Itoa4
import Derived.Shelf.Strings.Prefix
import Derived.Shelf.Unicode.DecodeAny
import Derived.Test.YtljigfiokekpoaaGreatDoorProg
import Derived.WalkKit
import Derived.Deep.DeepFit
import Derived.Lib.OthersKept
import Derived.Lib.RuneCountTail
import Derived.Deep.AppendLies
import Derived.Deep.OwnRows
import Derived.Laws.AppendOwnNone
import Derived.Deep.QuietTactic
import Derived.BigQuiet
import Derived.Deep.RegionWith
import Derived.Laws.DeepStrings4
import Derived.Lib.Small
import Derived.Lib.Strings
import Derived.Lib.MapLaws
import Derived.Test.YtljigfiokekpoaaGreatDoorZ01
import Derived.Test.YtljigfiokekpoaaGreatDoorZ02
import Derived.Test.YtljigfiokekpoaaGreatDoorZ03
import Derived.Test.YtljigfiokekpoaaGreatDoorZ04
import Derived.Test.YtljigfiokekpoaaGreatDoorZ05
import Derived.Test.YtljigfiokekpoaaGreatDoorZ06
import Derived.Test.YtljigfiokekpoaaGreatDoorZ07
import Derived.Test.YtljigfiokekpoaaGreatDoorZ09
import Derived.Test.YtljigfiokekpoaaGreatDoorZ16
import Derived.Test.YtljigfiokekpoaaGreatDoorZ27
import Derived.Test.YtljigfiokekpoaaGreatDoorZ28
set_option linter.unusedSimpArgs false
set_option linter.unusedVariables false
namespace Go.Proofs.YtljigfiokekpoaaGreatDoor
open Go.Lib

def NmOk (m : Nat) (t : Tk) : Prop := t.what = 48 → t.err = 0 → t.n ≤ m
theorem psPlain_ne (r : Int) (h : kd r = 4) : psPlain r ≠ 48 := by
  unfold psPlain
  repeat' split
  all_goals first | decide | skip
  intro e
  subst e
  revert h
  decide +kernel
theorem psSign_ne (s : ByteArray) (pat : Bool) (p : Nat) (r : Int) (h : kd r = 4) : (psSign s pat p r).1 ≠ 48 := by
  unfold psSign
  repeat' split
  all_goals first | (simp only; decide) | exact psPlain_ne r h
theorem psNext_nm {s : ByteArray} {pat : Bool} {most p : Nat} {t : Tk} (h : psNext s pat most p = .ok t) : NmOk most t := by
  unfold psNext psFrom at h
  generalize psSkip s s.size p = q at *
  split at h
  · unfold psAt at h
    split at h
    · cases h; intro e; cases e
    · split at h
      · cases h
        intro _ he
        simp only at he ⊢
        split at he
        · cases he
        · omega
      · split at h
        · rename_i hk
          cases h
          intro e
          exact absurd e (psSign_ne _ _ _ _ hk.1)
        · cases h
  · cases h; intro e; cases e
theorem psNx_nm {s : ByteArray} {pat : Bool} {most : Nat} {st st1 : Ps} (h : psNx s pat most st = .ok st1) : NmOk most st1.now := by
  obtain ⟨t, h1, h2⟩ := Pr.bind_ok h
  cases h2
  exact psNext_nm h1
theorem psEx_nm {s : ByteArray} {pat : Bool} {c : Int} {st st1 : Ps} (h : psEx s pat c st = .ok st1) : NmOk mx63 st1.now := by
  unfold psEx at h
  split at h
  · split at h
    · exact psNx_nm h
    · cases h
  · cases h
theorem psRun_nm (s : ByteArray) (pat : Bool) : ∀ (f : Nat) (q : Rl) (st : Ps) (r : Nat × Ps), NmOk mx63 st.now → psRun s pat f q st = .ok r → NmOk mx63 r.2.now := by
  intro f
  induction f with
  | zero => intro q st r _ h; cases h
  | succ f ih =>
    intro q st r hst h
    cases q with
    | cond =>
      obtain ⟨c, h1, h2⟩ := Pr.bind_ok h
      have k1 := ih (.pair 1) _ _ hst h1
      split at h2
      · obtain ⟨st2, h3, h2⟩ := Pr.bind_ok h2
        obtain ⟨a, h4, h2⟩ := Pr.bind_ok h2
        obtain ⟨st4, h5, h2⟩ := Pr.bind_ok h2
        obtain ⟨b, h6, h2⟩ := Pr.bind_ok h2
        cases h2
        have k := ih .cond _ _ (psEx_nm h5) h6; exact k
      · cases h2; exact k1
    | pair lv =>
      simp only [psRun] at h
      split at h
      · exact ih .un _ _ hst h
      · obtain ⟨a, h1, h2⟩ := Pr.bind_ok h
        exact ih (.loop lv a.1) _ _ (ih (.pair (lv + 1)) _ _ hst h1) h2
    | loop lv a =>
      simp only [psRun] at h
      split at h
      · obtain ⟨st1, h1, h⟩ := Pr.bind_ok h
        obtain ⟨b, h2, h⟩ := Pr.bind_ok h
        have k2 := ih (.pair (lv + 1)) _ _ (psNx_nm h1) h2
        split at h
        · cases h; exact k2
        · exact ih _ _ _ (show NmOk mx63 (psJoin (psOp st.now.what).1 [a, b.1] b.2).2.now from k2) h
      · cases h; exact hst
    | un =>
      simp only [psRun] at h
      split at h
      · split at h
        · obtain ⟨st1, h1, h⟩ := Pr.bind_ok h
          obtain ⟨x, h2, h⟩ := Pr.bind_ok h
          cases h
          have k := ih .un _ _ (psNx_nm h1) h2; exact k
        · obtain ⟨st1, h1, h⟩ := Pr.bind_ok h
          obtain ⟨st2, h2, h⟩ := Pr.bind_ok h
          cases h
          have k := psEx_nm h2; exact k
      · split at h
        · obtain ⟨st1, h1, h⟩ := Pr.bind_ok h
          obtain ⟨x, h2, h⟩ := Pr.bind_ok h
          cases h
          have k := ih .un _ _ (psNx_nm h1) h2; exact k
        · exact ih .atom _ _ hst h
    | atom =>
      simp only [psRun] at h
      split at h
      · obtain ⟨st2, h2, h⟩ := Pr.bind_ok h
        cases h
        have k := psEx_nm h2; exact k
      · split at h
        · obtain ⟨st2, h2, h⟩ := Pr.bind_ok h
          cases h
          have k := psEx_nm h2; exact k
        · split at h
          · obtain ⟨st1, h1, h⟩ := Pr.bind_ok h
            obtain ⟨st2, h2, h⟩ := Pr.bind_ok h
            cases h
            have k := psEx_nm h2; exact k
          · split at h
            · split at h
              · cases h
              · obtain ⟨st1, h1, h⟩ := Pr.bind_ok h
                obtain ⟨e, h2, h⟩ := Pr.bind_ok h
                obtain ⟨st3, h3, h⟩ := Pr.bind_ok h
                cases h
                have k := psEx_nm h3; exact k
            · cases h

theorem psNx_keeps {s : ByteArray} {pat : Bool} {most : Nat} {st st1 : Ps} (h : psNx s pat most st = .ok st1) : st1.nodes = st.nodes ∧ st1.brk = st.brk := by
  obtain ⟨t, _, h2⟩ := Pr.bind_ok h
  cases h2; exact ⟨rfl, rfl⟩
theorem psEx_keeps {s : ByteArray} {pat : Bool} {c : Int} {st st1 : Ps} (h : psEx s pat c st = .ok st1) : st1.nodes = st.nodes ∧ st1.brk = st.brk := by
  unfold psEx at h
  split at h
  · split at h
    · exact psNx_keeps h
    · cases h
  · cases h

/-- A state that the grammar comes to. -/
structure StN (s : ByteArray) (q : Ps) : Prop where
  st : StOk s q
  nm : NmOk mx63 q.now
  bk : q.brk ≤ 100
theorem run_n {s : ByteArray} {pat : Bool} {f : Nat} {q : Rl} {st : Ps} {r : Nat × Ps} (h : StN s st) (hq : q.ok st) (hl : q.lv) (hr : psRun s pat f q st = .ok r) : StN s r.2 := by
  have k := psRun_ok s pat f q st r h.st hq (Rl.lv_pos hl) hr
  exact ⟨k.ok, psRun_nm s pat f q st r h.nm hr, by rw [k.gr.brk]; exact h.bk⟩
theorem nx_n {s : ByteArray} {pat : Bool} {st st' : Ps} (h : StN s st) (he : st.now.err = 0) (hw : st.now.what ≠ 0) (hn : psNx s pat mx63 st = .ok st') : StN s st' := ⟨(psNx_ok h.st he hw hn).1, psNx_nm hn, by rw [(psNx_keeps hn).2]; exact h.bk⟩
theorem ex_n {s : ByteArray} {pat : Bool} {c : Int} {st st' : Ps} (h : StN s st) (hc : c ≠ 0) (hn : psEx s pat c st = .ok st') : StN s st' := ⟨(psEx_ok h.st hc hn).1, psEx_nm hn, by rw [(psEx_keeps hn).2]; exact h.bk⟩
end Go.Proofs.YtljigfiokekpoaaGreatDoor

set_option linter.unusedSimpArgs false
set_option linter.unusedVariables false
namespace Go.Proofs.YtljigfiokekpoaaGreatDoor
open Go.Lib

def shN (d : Nat) (x : Nd) : Nd := { x with kids := x.kids.map (· + (d : Int)) }
theorem shN_shN (d e : Nat) (x : Nd) : shN d (shN e x) = shN (e + d) x := by
  unfold shN
  simp [Int.add_assoc]
theorem map_shN (d e : Nat) (l : List Nd) : (l.map (shN e)).map (shN d) = l.map (shN (e + d)) := by
  rw [List.map_map]; exact List.map_congr_left fun x _ => shN_shN d e x
theorem shN_zero (l : List Nd) : l.map (shN 0) = l := by
  have : ∀ x ∈ l, shN 0 x = id x := fun x _ => by unfold shN; simp
  rw [List.map_congr_left this]; simp
def jn1 (op : Int) (a : List Nd) : List Nd := a ++ [⟨op, 0, ⟨#[]⟩, [((a.length - 1 : Nat) : Int)]⟩]
def jn2 (op : Int) (a b : List Nd) : List Nd := a ++ b.map (shN a.length) ++ [⟨op, 0, ⟨#[]⟩, [((a.length - 1 : Nat) : Int), ((a.length + b.length - 1 : Nat) : Int)]⟩]
def jn3 (op : Int) (a b c : List Nd) : List Nd := a ++ b.map (shN a.length) ++ c.map (shN (a.length + b.length)) ++ [⟨op, 0, ⟨#[]⟩, [((a.length - 1 : Nat) : Int), ((a.length + b.length - 1 : Nat) : Int), ((a.length + b.length + c.length - 1 : Nat) : Int)]⟩]

def skp (s : ByteArray) (p : Nat) : Nat := psSkip s s.size p
theorem psNx_eq (s : ByteArray) (pat : Bool) (most : Nat) (st : Ps) : psNx s pat most st = (psFrom s pat most (skp s st.now.to)).bind fun t => .ok { st with now := t } := rfl
theorem psFrom_here {s : ByteArray} {pat : Bool} {most p : Nat} {t : Tk} (h : psFrom s pat most p = .ok t) : psFrom s pat most t.from_ = .ok t := by
  unfold psFrom at h
  split at h
  · rename_i hp
    have e : t.from_ = p := by
      unfold psAt at h
      split at h
      · cases h; rfl
      · split at h
        · cases h; rfl
        · split at h
          · cases h; rfl
          · cases h
    unfold psFrom
    rw [e, if_pos hp]
    exact h
  · cases h
    unfold psFrom psEnd
    simp

inductive RdQ where
  | cond
  | level (lv : Nat)
  | loop (lv : Nat) (la : List Nd)
  | un
  | atom
def RdQ.rl (d : Nat) : RdQ → Rl
  | .cond => .cond
  | .level lv => .pair lv
  | .loop lv la => .loop lv (d + la.length - 1)
  | .un => .un
  | .atom => .atom
def RdQ.left : RdQ → List Nd
  | .loop _ la => la
  | _ => []

def rdLit (s : ByteArray) (v : Int) (t : Tk) : Pr (List Nd × Nat) := if t.what = 48 then (if t.err = 0 then .ok ([⟨1, v, ⟨#[]⟩, []⟩], skp s t.to) else .bad t.from_ t.err) else .bad t.from_ 6
def rdNamed (s : ByteArray) (op : Int) (t : Tk) : Pr (List Nd × Nat) := if t.what = 97 then (if t.err = 0 then .ok ([⟨op, 0, s.extract t.from_ t.to, []⟩], skp s t.to) else .bad t.from_ t.err) else .bad t.from_ 6

def rdRun (s : ByteArray) (pat : Bool) : Nat → RdQ → Tk → Nat → Pr (List Nd × Nat)
  | 0, _, _, _ => .out
  | f + 1, .cond, t, o => (rdRun s pat f (.level 1) t o).bind fun c => (psFrom s pat mx63 c.2).bind fun t1 =>
      if t1.what = 63 then
        (psFrom s pat mx63 (skp s t1.to)).bind fun t2 => (rdRun s pat f .cond t2 o).bind fun a => (psFrom s pat mx63 a.2).bind fun t3 =>
          if t3.what = 58 then (if t3.err = 0 then (psFrom s pat mx63 (skp s t3.to)).bind fun t4 => (rdRun s pat f .cond t4 o).bind fun b => .ok (jn3 17 c.1 a.1 b.1, b.2) else .bad t3.from_ t3.err) else .bad t3.from_ 6
      else .ok c
  | f + 1, .level lv, t, o => if 8 < lv then rdRun s pat f .un t o else (rdRun s pat f (.level (lv + 1)) t o).bind fun a => (psFrom s pat mx63 a.2).bind fun t1 => rdRun s pat f (.loop lv a.1) t1 o
  | f + 1, .loop lv la, t, o =>
      if (psOp t.what).2 = lv then
        (psFrom s pat mx63 (skp s t.to)).bind fun t1 => (rdRun s pat f (.level (lv + 1)) t1 o).bind fun b =>
          if (psOp t.what).1 = 15 ∨ (psOp t.what).1 = 16 then .ok (jn2 (psOp t.what).1 la b.1, b.2)
          else (psFrom s pat mx63 b.2).bind fun t2 => rdRun s pat f (.loop lv (jn2 (psOp t.what).1 la b.1)) t2 o
      else .ok (la, t.from_)
  | f + 1, .un, t, o =>
      if t.what = 45 then
        (if (numI s t.to).2.2 = 11 then (psFrom s pat mx63 (skp s t.to)).bind fun t1 => (rdRun s pat f .un t1 o).bind fun x => .ok (jn1 3 x.1, x.2)
         else (psFrom s pat (mx63 + 1) (skp s t.to)).bind fun t1 => rdLit s (-(t1.n : Int)) t1)
      else if t.what = 126 then (psFrom s pat mx63 (skp s t.to)).bind fun t1 => (rdRun s pat f .un t1 o).bind fun x => .ok (jn1 4 x.1, x.2)
      else rdRun s pat f .atom t o
  | f + 1, .atom, t, o =>
      if t.what = 48 then rdLit s t.n t
      else if t.what = 97 then rdNamed s 2 t
      else if t.what = 64 then (psFrom s pat mx63 (skp s t.to)).bind fun t1 => rdNamed s 18 t1
      else if t.what = 40 then
        (if o = 100 then .bad t.from_ 10
         else (psFrom s pat mx63 (skp s t.to)).bind fun t1 => (rdRun s pat f .cond t1 (o + 1)).bind fun e => (psFrom s pat mx63 e.2).bind fun t2 =>
          if t2.what = 41 then (if t2.err = 0 then .ok (e.1, skp s t2.to) else .bad t2.from_ t2.err) else .bad t2.from_ 6)
      else .bad t.from_ 6
end Go.Proofs.YtljigfiokekpoaaGreatDoor

set_option linter.unusedSimpArgs false
set_option linter.unusedVariables false
namespace Go.Proofs.YtljigfiokekpoaaGreatDoor
open Go.RowKit Go.Lib

def KidsUp (l : List Nd) : Prop := ∀ x ∈ l, ∀ k ∈ x.kids, 0 ≤ k
theorem mv_sh {d : Nat} {x : Nd} (h : ∀ k ∈ x.kids, 0 ≤ k) : mvN 0 d x = shN d x := by
  unfold mvN shN
  congr 1
  refine List.map_congr_left fun k hk => ?_
  have := h k hk
  unfold mvK
  split <;> omega
theorem mv_shs {d : Nat} {l : List Nd} (h : KidsUp l) : l.map (mvN 0 d) = l.map (shN d) := List.map_congr_left fun x hx => mv_sh (h x hx)
theorem join1 (op : Int) {a : List Nd} (ka : KidsUp a) (na : a ≠ []) : joinL op 0 ⟨#[]⟩ [a] = jn1 op a := by
  have := List.length_pos_iff.2 na
  have e0 : a.map (mvN 0 0) = a := by
    have := mv_shs (d := 0) ka
    rw [shN_zero] at this
    exact this
  unfold joinL accS jn1
  simp [e0]
  omega
theorem join2 (op : Int) {a b : List Nd} (ka : KidsUp a) (kb : KidsUp b) (na : a ≠ []) (nb : b ≠ []) : joinL op 0 ⟨#[]⟩ [a, b] = jn2 op a b := by
  have := List.length_pos_iff.2 na
  have := List.length_pos_iff.2 nb
  have e0 : a.map (mvN 0 0) = a := by
    have := mv_shs (d := 0) ka
    rw [shN_zero] at this
    exact this
  have e1 := mv_shs (d := a.length) kb
  unfold joinL accS jn2
  simp [e0, e1]
  omega
theorem join3 (op : Int) {a b c : List Nd} (ka : KidsUp a) (kb : KidsUp b) (kc : KidsUp c) (na : a ≠ []) (nb : b ≠ []) (nc : c ≠ []) : joinL op 0 ⟨#[]⟩ [a, b, c] = jn3 op a b c := by
  have := List.length_pos_iff.2 na
  have := List.length_pos_iff.2 nb
  have := List.length_pos_iff.2 nc
  have e0 : a.map (mvN 0 0) = a := by
    have := mv_shs (d := 0) ka
    rw [shN_zero] at this
    exact this
  have e1 := mv_shs (d := a.length) kb
  have e2 := mv_shs (d := a.length + b.length) kc
  rw [Int.natCast_add] at e2
  unfold joinL accS jn3
  simp [e0, e1, e2]
  omega
end Go.Proofs.YtljigfiokekpoaaGreatDoor

set_option linter.unusedSimpArgs false
set_option linter.unusedVariables false
namespace Go.Proofs.YtljigfiokekpoaaGreatDoor
open Go.RowKit Go.Lib

theorem ret2 {k l : IntKind} {a b c d : Int} (h : a = c) (h' : b = d) : Ending.returned (.tuple #[.int k a, .int l b]) = .returned (.tuple #[.int k c, .int l d]) := by rw [h, h']
theorem ret3 {k l m : IntKind} {a b c d x y : Int} (h : a = c) (h' : b = d) (h2 : x = y) : Ending.returned (.tuple #[.int k a, .int l b, .int m x]) = .returned (.tuple #[.int k c, .int l d, .int m y]) := by rw [h, h', h2]

theorem outside_any (s : ByteArray) (at_ : Int) (w : World) :
    Calls Tryz.prog 100 #[.string s, .int .i64 at_] w fun e w' => e = .returned (.bool (decide (at_ < 0 ∨ (s.size : Int) < at_))) ∧ w' = w := by
  by_cases h1 : at_ < 0
  · go_enter Tryz.func100, Tryz.ntmps100
    go_wp2
    go_ret
    exact ⟨ret_bool (by simp [h1]), rfl⟩
  · go_enter Tryz.func100, Tryz.ntmps100
    go_wp2
    go_ret
    exact ⟨ret_bool (by simp; omega), rfl⟩
end Go.Proofs.YtljigfiokekpoaaGreatDoor

set_option linter.unusedSimpArgs false
set_option linter.unusedVariables false
namespace Go.Proofs.YtljigfiokekpoaaGreatDoor
open Go.RowKit Go.Lib

/-! ### Check -/
set_option maxHeartbeats 1000000 in
theorem utfCheck_any (s : ByteArray) (w : World) (hT : Tabs w) :
    Calls Tryz.prog 55 #[.string s] w fun e w' => e = .returned (.tuple #[.int .i64 (chk s).1, .int .i64 (chk s).2]) ∧ Below w.heap.size w w' := by
  go_enter Tryz.func55, Tryz.ntmps55
  go_wp2
  go_loopw [4] (fun _ w' => ∃ (pos f : Nat), It w s pos w' ∧ Hid (chkF s f pos = chk s) ∧ s.size ≤ pos + f) (fun _ w' => s.size - w'.iterPos w.heap.size)
  case atStart => exact ⟨0, s.size, It.start w s, rfl, by omega⟩
  case round =>
    obtain ⟨pos, f, hI, HN, hf⟩ := hrel
    have hm := hI.pos
    by_cases hp : pos < s.size
    · have hnx : ∀ ty, (Instr.next (.pointer (some ⟨w.heap.size, 0, none⟩)) true ty).run Tryz.prog wr = _ := fun ty => run_next_any_at wr w.heap.size s pos ty hI.at_ hp
      obtain ⟨f, rfl⟩ : ∃ g, f = g + 1 := ⟨f - 1, by omega⟩
      have hw := width_pos s pos hp
      have hpz : (pos : Int) ≤ (s.size : Int) := by omega
      have HB : Hid (bad s pos = ((Utf8.decode s pos).1 == 65533 && (Utf8.decode s pos).2 == 1)) := rfl
      have cW : Hid (∀ W, Tabs W → Calls Tryz.prog 68 #[.string (s.extract pos s.size)] W fun e w' => e = .returned (.int .i64 (Utf8.decode s pos).2) ∧ Below W.heap.size W w') := fun W h => by
        have := width_any (s.extract pos s.size) W h
        rw [decGo_tail s pos hp] at this
        exact this
      have hI1 := hI.next (pos + (Utf8.decode s pos).2)
      have hT1 := hI1.tabs hT
      have HX := chkF_bad s f pos hp
      have HY := chkF_good s f pos hp
      have hx : Hid (bad s pos = true → chkF s (f + 1) pos = (pos, 4)) := HX
      have hy : Hid (bad s pos = false → chkF s (f + 1) pos = chkF s f (pos + (Utf8.decode s pos).2)) := HY
      clear HX HY
      have hr1 : ((Utf8.decode s pos).1 == 65533) = (((Utf8.decode s pos).1 : Int) == 65533) := by
        rw [Bool.eq_iff_iff]; simp; omega
      have hr2 : ((Utf8.decode s pos).2 == 1) = (((Utf8.decode s pos).2 : Int) == 1) := by
        rw [Bool.eq_iff_iff]; simp; omega
      rw [hr1, hr2] at HB
      clear hr1 hr2
      generalize (Utf8.decode s pos).2 = v at *
      generalize ((Utf8.decode s pos).1 : Int) = r at *
      cases h1 : (r == 65533)
      · have hb : bad s pos = false := by rw [HB.out, h1]; rfl
        go_wp2
        exact ⟨⟨pos + v, f, hI1, (hy.out hb).symm.trans HN.out, by omega⟩, by rw [hI1.pos, hm]; omega⟩
      · cases h2 : ((v : Int) == 1)
        · have hb : bad s pos = false := by rw [HB.out, h1, h2]; rfl
          go_wp2_with (go_at_call 68; refine (cW.out _ hT1).mono ?_; rintro e w2 ⟨rfl, hb2⟩)
          have hI2 := hI1.call hb2
          exact ⟨⟨pos + v, f, hI2, (hy.out hb).symm.trans HN.out, by omega⟩, by rw [hI2.pos, hm]; omega⟩
        · have hb : bad s pos = true := by rw [HB.out, h1, h2]; rfl
          go_wp2_with (go_at_call 68; refine (cW.out _ hT1).mono ?_; rintro e w2 ⟨rfl, hb2⟩)
          go_ret2
          have hc : chk s = (pos, 4) := HN.out.symm.trans (hx.out hb)
          exact ⟨ret2 (by rw [hc]) (by rw [hc]), (hI1.call hb2).below⟩
    · have hnx : ∀ ty, (Instr.next (.pointer (some ⟨w.heap.size, 0, none⟩)) true ty).run Tryz.prog wr = _ := fun ty => run_next_end_at wr w.heap.size s pos ty hI.at_ hp
      go_wp2
      go_ret2
      have hc : chk s = (0, 0) := HN.out.symm.trans (chkF_end s f pos hp)
      exact ⟨ret2 (by rw [hc]; rfl) (by rw [hc]), hI.below⟩

end Go.Proofs.YtljigfiokekpoaaGreatDoor

set_option linter.unusedSimpArgs false
set_option linter.unusedVariables false
namespace Go.Proofs.YtljigfiokekpoaaGreatDoor
open Go.RowKit Go.Lib

theorem kdFirst (s : ByteArray) (pos : Nat) (h : pos ≤ s.size) : kd ((decodeGo (s.extract pos s.size)).1 : Int) = kd (rn s pos) := by
  by_cases hp : pos < s.size
  · rw [decGo_tail s pos hp, kd_rn s pos hp]
  · have h0 : (s.extract pos s.size).size = 0 := by rw [tail_size]; omega
    simp only [decodeGo, h0, if_true, rn, hp, if_false]
    decide

set_option maxHeartbeats 1000000 in
theorem span_out (s : ByteArray) (at_ : Int) (w : World) (h : at_ < 0 ∨ (s.size : Int) < at_) :
    Calls Tryz.prog 87 #[.string s, .int .i64 at_] w fun e w' => e = .returned (.tuple #[.int .i64 0, .int .i64 2]) ∧ Below w.heap.size w w' := by
  have hd : decide (at_ < 0 ∨ (s.size : Int) < at_) = true := by simpa using h
  have c1 : Hid (∀ W, Calls Tryz.prog 100 #[.string s, .int .i64 at_] W fun e w' => e = .returned (.bool true) ∧ w' = W) := fun W => by
    have := outside_any s at_ W; rw [hd] at this; exact this
  clear hd h
  go_enter Tryz.func87, Tryz.ntmps87
  go_wp2_with (go_at_call 100; refine (c1.out _).mono ?_; rintro e w2 ⟨rfl, hw⟩; obtain rfl := hw.symm)
  go_ret2
  exact ⟨rfl, Below.refl _ _⟩

set_option maxHeartbeats 1000000 in
theorem span_in (s : ByteArray) (pos : Nat) (w : World) (hT : Tabs w) (h : pos ≤ s.size) (hs : s.size ≤ maxLen) :
    Calls Tryz.prog 87 #[.string s, .int .i64 pos] w fun e w' => e = .returned (.tuple #[.int .i64 (spanP s pos).1, .int .i64 (spanP s pos).2]) ∧ Below w.heap.size w w' := by
  unfold maxLen at hs
  have hd : decide ((pos : Int) < 0 ∨ (s.size : Int) < pos) = false := by simp; omega
  have c1 : Hid (∀ W, Calls Tryz.prog 100 #[.string s, .int .i64 pos] W fun e w' => e = .returned (.bool false) ∧ w' = W) := fun W => by
    have := outside_any s pos W; rw [hd] at this; exact this
  clear hd
  have c2 : Hid (∀ W, Tabs W → Calls Tryz.prog 101 #[.string (s.extract pos s.size)] W fun e w' => e = .returned (.int .i32 (decodeGo (s.extract pos s.size)).1) ∧ Below W.heap.size W w') := first_any _
  have hk := kdFirst s pos h
  generalize ((decodeGo (s.extract pos s.size)).1 : Int) = r at *
  have hpz : (pos : Int) ≤ (s.size : Int) := by omega
  have c3 : Hid (∀ W, SpanCells W → Calls Tryz.prog 62 #[.int .i32 r] W fun e w' => e = .returned (.int .i64 (kd r)) ∧ Below W.heap.size W w') := kind_any r
  by_cases h1 : kd r = 1
  · rw [h1] at hk c3
    have hv : spanP s pos = (((spF s s.size pos : Nat) : Int), 0) := by simp [spanP, ← hk]
    rw [hv]
    clear hv hk h1
    have hSz := tail_size s pos
    have hD := dec_tail s pos
    have HD : Hid (∀ i, Utf8.decode (s.extract pos s.size) i = Utf8.decode s (pos + i)) := hD
    clear hD
    go_enter Tryz.func87, Tryz.ntmps87
    go_wp2_with (first | (go_at_call 100; refine (c1.out _).mono ?_; rintro e w2 ⟨rfl, hw⟩; obtain rfl := hw.symm) | (go_at_call 101; refine (c2.out _ hT).mono ?_; rintro e w3 ⟨rfl, hb3⟩; have hT3 := hT.below hb3) | (go_at_call 62; refine (c3.out _ hT3.spans).mono ?_; rintro e w4 ⟨rfl, hb4⟩; have hT4 := hT3.below hb4))
    clear c1 c2 c3
    have hB4 : Below w.heap.size w w4 := hb3.trans (hb4.mono hb3.size)
    generalize s.extract pos s.size = S at *
    go_loopw [6] (fun _ w' => ∃ (q f : Nat), It w4 S q w' ∧ Hid (spF s f (pos + q) = spF s s.size pos) ∧ s.size ≤ pos + q + f ∧ q ≤ S.size) (fun _ w' => S.size - w'.iterPos w4.heap.size)
    case atStart => exact ⟨0, s.size, It.start w4 S, rfl, by omega, by omega⟩
    case round =>
      obtain ⟨q, f, hI, HN, hf, hqS⟩ := hrel
      have hm := hI.pos
      have z4 := hB4.size
      by_cases hp : q < S.size
      · have hps : pos + q < s.size := by omega
        have hnx : ∀ ty, (Instr.next (.pointer (some ⟨w4.heap.size, 0, none⟩)) true ty).run Tryz.prog wr = _ := fun ty => run_next_any_at wr w4.heap.size S q ty hI.at_ hp
        rw [HD.out q] at hnx
        obtain ⟨f, rfl⟩ : ∃ g, f = g + 1 := ⟨f - 1, by omega⟩
        have hw := width_pos s (pos + q) hps
        have hw2 := dec_le s (pos + q) hps
        have hx : Hid (onB (Utf8.decode s (pos + q)).1 = true → spF s (f + 1) (pos + q) = spF s f (pos + q + (Utf8.decode s (pos + q)).2)) := spF_on s f (pos + q) hps
        have hy : Hid (onB (Utf8.decode s (pos + q)).1 = false → spF s (f + 1) (pos + q) = pos + q) := spF_off s (f + 1) (pos + q) hps
        have hI1 := hI.next (q + (Utf8.decode s (pos + q)).2)
        have hT1 := (hI1.tabs hT4).spans
        generalize (Utf8.decode s (pos + q)).2 = v at *
        generalize ((Utf8.decode s (pos + q)).1 : Int) = r2 at *
        have c4 : Hid (∀ W, SpanCells W → Calls Tryz.prog 63 #[.int .i32 r2] W fun e w' => e = .returned (.bool (onB r2)) ∧ Below W.heap.size W w') := goesOn_any r2
        cases ho : onB r2
        · rw [ho] at c4
          go_wp2_with (go_at_call 63; refine (c4.out _ hT1).mono ?_; rintro e w5 ⟨rfl, hb5⟩)
          go_ret2
          exact ⟨ret2 (by rw [← HN.out, hy.out ho]; omega) rfl, hB4.trans ((hI1.call hb5).below.mono z4)⟩
        · rw [ho] at c4
          go_wp2_with (go_at_call 63; refine (c4.out _ hT1).mono ?_; rintro e w5 ⟨rfl, hb5⟩)
          have hI5 := hI1.call hb5
          exact ⟨⟨q + v, f, hI5, by show spF s f (pos + (q + v)) = _; rw [← HN.out, hx.out ho, Nat.add_assoc], by omega, by omega⟩, by rw [hI5.pos, hm]; omega⟩
      · have hnx : ∀ ty, (Instr.next (.pointer (some ⟨w4.heap.size, 0, none⟩)) true ty).run Tryz.prog wr = _ := fun ty => run_next_end_at wr w4.heap.size S q ty hI.at_ hp
        go_wp2
        go_ret2
        exact ⟨ret2 (by rw [← HN.out, spF_end s f _ (by omega)]; omega) rfl, hB4.trans (hI.below.mono z4)⟩
  · have hv : spanP s pos = (0, 11) := by simp [spanP, ← hk, h1]
    rw [hv]
    clear hv hk
    have hne : (kd r != 1) = true := by simpa using h1
    generalize kd r = kk at *
    go_enter Tryz.func87, Tryz.ntmps87
    go_wp2_with (first | (go_at_call 100; refine (c1.out _).mono ?_; rintro e w2 ⟨rfl, hw⟩; obtain rfl := hw.symm) | (go_at_call 101; refine (c2.out _ hT).mono ?_; rintro e w3 ⟨rfl, hb3⟩; have hT3 := hT.below hb3) | (go_at_call 62; refine (c3.out _ hT3.spans).mono ?_; rintro e w4 ⟨rfl, hb4⟩))
    go_ret2
    exact ⟨rfl, hb3.trans (hb4.mono hb3.size)⟩

theorem span_any (s : ByteArray) (at_ : Int) (w : World) (hT : Tabs w) (hs : s.size ≤ maxLen) :
    Calls Tryz.prog 87 #[.string s, .int .i64 at_] w fun e w' => e = .returned (.tuple #[.int .i64 (spanI s at_).1, .int .i64 (spanI s at_).2]) ∧ Below w.heap.size w w' := by
  by_cases h : at_ < 0 ∨ (s.size : Int) < at_
  · have hv : spanI s at_ = (0, 2) := by simp [spanI, h]
    rw [hv]
    exact span_out s at_ w h
  · have hv : spanI s at_ = spanP s at_.toNat := by simp [spanI, h]
    rw [hv]
    have := span_in s at_.toNat w hT (by omega) hs
    rw [Int.toNat_of_nonneg (by omega)] at this
    exact this
end Go.Proofs.YtljigfiokekpoaaGreatDoor
