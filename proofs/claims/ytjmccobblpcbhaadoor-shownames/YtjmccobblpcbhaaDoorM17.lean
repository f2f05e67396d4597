/-
  PsFuel, PsNum, RdPure.
-/
import Derived.Shelf.Unicode.DecodeSlow
import Derived.Laws.RangeAny
import Derived.Lib.RuneCountTail
import Derived.Lib.Small
import Derived.Lib.Strings
import Derived.Lib.MapLaws
import Derived.Test.YtjmccobblpcbhaaDoorM01
import Derived.Test.YtjmccobblpcbhaaDoorM02
import Derived.Test.YtjmccobblpcbhaaDoorM03
import Derived.Test.YtjmccobblpcbhaaDoorM16
set_option linter.unusedSimpArgs false
set_option linter.unusedVariables false
namespace Go.Proofs.YtjmccobblpcbhaaDoor
open Go.Lib

theorem Pr.bind_in {α β : Type} {x : Pr α} {f : α → Pr β} (h : x ≠ .out) (k : ∀ a, x = .ok a → f a ≠ .out) : x.bind f ≠ .out := by
  cases x with
  | ok a => exact k a rfl
  | bad p e => intro h; cases h
  | out => exact absurd rfl h
theorem psNx_in (s : ByteArray) (pat : Bool) (most : Nat) (st : Ps) : psNx s pat most st ≠ .out := by
  refine Pr.bind_in ?_ (fun _ _ => by intro h; cases h)
  unfold psNext psFrom
  split
  · unfold psAt
    repeat' split
    all_goals (intro h; cases h)
  · intro h; cases h
theorem psEx_in (s : ByteArray) (pat : Bool) (c : Int) (st : Ps) : psEx s pat c st ≠ .out := by
  unfold psEx
  split
  · split
    · exact psNx_in _ _ _ _
    · intro h; cases h
  · intro h; cases h
theorem psLit_in (s : ByteArray) (pat : Bool) (v : Int) (st : Ps) : psLit s pat v st ≠ .out := Pr.bind_in (psEx_in _ _ _ _) (fun _ _ => by intro h; cases h)
theorem psNamed_in (s : ByteArray) (pat : Bool) (v : Int) (st : Ps) : psNamed s pat v st ≠ .out := Pr.bind_in (psEx_in _ _ _ _) (fun _ _ => by intro h; cases h)

def Rl.w : Rl → Nat
  | .cond => 12
  | .pair lv => 12 - lv
  | .loop _ _ => 1
  | .un => 2
  | .atom => 1
def Rl.lv : Rl → Prop
  | .pair lv => 0 < lv ∧ lv ≤ 9
  | .loop lv _ => 0 < lv ∧ lv ≤ 8
  | _ => True
theorem Rl.lv_pos {q : Rl} (h : q.lv) : ∀ lv, (q = .pair lv ∨ ∃ a, q = .loop lv a) → 0 < lv := by
  rintro lv (e | ⟨a, e⟩)
  · subst e; exact h.1
  · subst e; exact h.1

theorem psRun_in (s : ByteArray) (pat : Bool) : ∀ (f : Nat) (q : Rl) (st : Ps), StOk s st → q.ok st → q.lv → 13 * (s.size - st.now.from_) + q.w ≤ f → psRun s pat f q st ≠ .out := by
  intro f
  induction f with
  | zero =>
    intro q st _ _ hlv h
    exfalso
    cases q with
    | pair lv => have := hlv.2; simp only [Rl.w] at h; omega
    | _ => simp only [Rl.w] at h; omega
  | succ f ih =>
    intro q st hst hq hlv hf
    cases q with
    | cond =>
      simp only [Rl.w] at hf
      refine Pr.bind_in (ih (.pair 1) st hst trivial ⟨by omega, by omega⟩ (by simp only [Rl.w]; omega)) fun c hc => ?_
      have k1 := psRun_ok s pat f (.pair 1) st c hst trivial (Rl.lv_pos ⟨by omega, by omega⟩) hc
      split
      · rename_i hw
        refine Pr.bind_in (psNx_in _ _ _ _) fun st2 h2 => ?_
        obtain ⟨o2, s2⟩ := psNx_ok k1.ok (k1.ok.tk.sign (by rw [hw]; decide) (by rw [hw]; decide)) (by rw [hw]; decide) h2
        have l2 := s2.lt
        have i2 := o2.tk.in_
        have m1 := k1.gr.le
        refine Pr.bind_in (ih .cond st2 o2 trivial trivial (by simp only [Rl.w]; omega)) fun a ha => ?_
        have k4 := psRun_ok s pat f .cond st2 a o2 trivial (Rl.lv_pos trivial) ha
        refine Pr.bind_in (psEx_in _ _ _ _) fun st4 h4 => ?_
        obtain ⟨o4, s4, _⟩ := psEx_ok k4.ok (by decide) h4
        have m4 := k4.gr.le
        have l4 := s4.lt
        refine Pr.bind_in (ih .cond st4 o4 trivial trivial (by simp only [Rl.w]; omega)) fun b hb => ?_
        intro h; cases h
      · intro h; cases h
    | pair lv =>
      simp only [Rl.w] at hf
      obtain ⟨hl1, hl2⟩ := hlv
      simp only [psRun]
      split
      · exact ih .un st hst trivial trivial (by simp only [Rl.w]; omega)
      · refine Pr.bind_in (ih (.pair (lv + 1)) st hst trivial ⟨by omega, by omega⟩ (by simp only [Rl.w]; omega)) fun a ha => ?_
        have k1 := psRun_ok s pat f (.pair (lv + 1)) st a hst trivial (Rl.lv_pos ⟨by omega, by omega⟩) ha
        have := k1.gr.le
        exact ih (.loop lv a.1) a.2 k1.ok k1.lt ⟨hl1, by omega⟩ (by simp only [Rl.w]; omega)
    | loop lv a =>
      simp only [Rl.w] at hf
      obtain ⟨hl1, hl2⟩ := hlv
      simp only [psRun]
      split
      · rename_i hop
        obtain ⟨w0, w1, w2⟩ := op_sign hop hl1
        refine Pr.bind_in (psNx_in _ _ _ _) fun st1 h1 => ?_
        obtain ⟨o1, s1⟩ := psNx_ok hst (hst.tk.sign w1 w2) w0 h1
        have l1 := s1.lt
        have i1 := o1.tk.in_
        refine Pr.bind_in (ih (.pair (lv + 1)) st1 o1 trivial ⟨by omega, by omega⟩ (by simp only [Rl.w]; omega)) fun b hb => ?_
        have k2 := psRun_ok s pat f (.pair (lv + 1)) st1 b o1 trivial (Rl.lv_pos ⟨by omega, by omega⟩) hb
        obtain ⟨x1, x2, x3⟩ := psJoin_ok ⟨(psOp st.now.what).1, 0, ⟨#[]⟩, [a, b.1].map Int.ofNat⟩ s1 k2.gr k2.ok hst.few
        have m2 := k2.gr.le
        split
        · intro h; cases h
        · refine ih (.loop lv _) _ x1 x3 ⟨hl1, hl2⟩ ?_
          show 13 * (s.size - b.2.now.from_) + 1 ≤ f
          omega
      · intro h; cases h
    | un =>
      simp only [Rl.w] at hf
      simp only [psRun]
      split
      · rename_i hw
        have he := hst.tk.sign (by rw [hw]; decide) (by rw [hw]; decide)
        split
        · refine Pr.bind_in (psNx_in _ _ _ _) fun st1 h1 => ?_
          obtain ⟨o1, s1⟩ := psNx_ok hst he (by rw [hw]; decide) h1
          have l1 := s1.lt
          have i1 := o1.tk.in_
          refine Pr.bind_in (ih .un st1 o1 trivial trivial (by simp only [Rl.w]; omega)) fun x hx => ?_
          intro h; cases h
        · exact Pr.bind_in (psNx_in _ _ _ _) fun st1 h1 => psLit_in _ _ _ _
      · split
        · rename_i hw
          have he := hst.tk.sign (by rw [hw]; decide) (by rw [hw]; decide)
          refine Pr.bind_in (psNx_in _ _ _ _) fun st1 h1 => ?_
          obtain ⟨o1, s1⟩ := psNx_ok hst he (by rw [hw]; decide) h1
          have l1 := s1.lt
          have i1 := o1.tk.in_
          refine Pr.bind_in (ih .un st1 o1 trivial trivial (by simp only [Rl.w]; omega)) fun x hx => ?_
          intro h; cases h
        · exact ih .atom st hst trivial trivial (by simp only [Rl.w]; omega)
    | atom =>
      simp only [Rl.w] at hf
      simp only [psRun]
      split
      · exact psLit_in _ _ _ _
      · split
        · exact psNamed_in _ _ _ _
        · split
          · exact Pr.bind_in (psNx_in _ _ _ _) fun st1 h1 => psNamed_in _ _ _ _
          · split
            · rename_i hw
              split
              · intro h; cases h
              · refine Pr.bind_in (psNx_in _ _ _ _) fun st1 h1 => ?_
                have hst' : StOk s { st with brk := st.brk + 1 } := ⟨hst.tk, hst.few⟩
                obtain ⟨o1, s1⟩ := psNx_ok hst' (hst.tk.sign (by rw [hw]; decide) (by rw [hw]; decide)) (by show st.now.what ≠ 0; rw [hw]; decide) h1
                have l1 : st.now.from_ < st1.now.from_ := s1.lt
                have i1 := o1.tk.in_
                refine Pr.bind_in (ih .cond st1 o1 trivial trivial (by simp only [Rl.w]; omega)) fun e he => ?_
                exact Pr.bind_in (psEx_in _ _ _ _) fun st3 h3 => by intro h; cases h
            · intro h; cases h
end Go.Proofs.YtjmccobblpcbhaaDoor

set_option linter.unusedSimpArgs false
set_option linter.unusedVariables false
namespace Go.Proofs.YtjmccobblpcbhaaDoor
open Go.Lib

def NmOk (m : Nat) (t : Tk) : Prop := t.what = 48 → t.err = 0 → t.n ≤ m
theorem psPlain_ne (r : Int) (h : kd r = 4) : psPlain r ≠ 48 := by
  unfold psPlain
  repeat' split
  all_goals first | decide | skip
  intro e
  subst e
  revert h
  decide +kernel
theorem psSign_ne (s : ByteArray) (pat : Bool) (p : Nat) (r : Int) (h : kd r = 4) : (psSign s pat p r).1 ≠ 48 := by
  unfold psSign
  repeat' split
  all_goals first | (simp only; decide) | exact psPlain_ne r h
theorem psNext_nm {s : ByteArray} {pat : Bool} {most p : Nat} {t : Tk} (h : psNext s pat most p = .ok t) : NmOk most t := by
  unfold psNext psFrom at h
  generalize psSkip s s.size p = q at *
  split at h
  · unfold psAt at h
    split at h
    · cases h; intro e; cases e
    · split at h
      · cases h
        intro _ he
        simp only at he ⊢
        split at he
        · cases he
        · omega
      · split at h
        · rename_i hk
          cases h
          intro e
          exact absurd e (psSign_ne _ _ _ _ hk.1)
        · cases h
  · cases h; intro e; cases e
theorem psNx_nm {s : ByteArray} {pat : Bool} {most : Nat} {st st1 : Ps} (h : psNx s pat most st = .ok st1) : NmOk most st1.now := by
  obtain ⟨t, h1, h2⟩ := Pr.bind_ok h
  cases h2
  exact psNext_nm h1
theorem psEx_nm {s : ByteArray} {pat : Bool} {c : Int} {st st1 : Ps} (h : psEx s pat c st = .ok st1) : NmOk mx63 st1.now := by
  unfold psEx at h
  split at h
  · split at h
    · exact psNx_nm h
    · cases h
  · cases h
theorem psRun_nm (s : ByteArray) (pat : Bool) : ∀ (f : Nat) (q : Rl) (st : Ps) (r : Nat × Ps), NmOk mx63 st.now → psRun s pat f q st = .ok r → NmOk mx63 r.2.now := by
  intro f
  induction f with
  | zero => intro q st r _ h; cases h
  | succ f ih =>
    intro q st r hst h
    cases q with
    | cond =>
      obtain ⟨c, h1, h2⟩ := Pr.bind_ok h
      have k1 := ih (.pair 1) _ _ hst h1
      split at h2
      · obtain ⟨st2, h3, h2⟩ := Pr.bind_ok h2
        obtain ⟨a, h4, h2⟩ := Pr.bind_ok h2
        obtain ⟨st4, h5, h2⟩ := Pr.bind_ok h2
        obtain ⟨b, h6, h2⟩ := Pr.bind_ok h2
        cases h2
        have k := ih .cond _ _ (psEx_nm h5) h6; exact k
      · cases h2; exact k1
    | pair lv =>
      simp only [psRun] at h
      split at h
      · exact ih .un _ _ hst h
      · obtain ⟨a, h1, h2⟩ := Pr.bind_ok h
        exact ih (.loop lv a.1) _ _ (ih (.pair (lv + 1)) _ _ hst h1) h2
    | loop lv a =>
      simp only [psRun] at h
      split at h
      · obtain ⟨st1, h1, h⟩ := Pr.bind_ok h
        obtain ⟨b, h2, h⟩ := Pr.bind_ok h
        have k2 := ih (.pair (lv + 1)) _ _ (psNx_nm h1) h2
        split at h
        · cases h; exact k2
        · exact ih _ _ _ (show NmOk mx63 (psJoin (psOp st.now.what).1 [a, b.1] b.2).2.now from k2) h
      · cases h; exact hst
    | un =>
      simp only [psRun] at h
      split at h
      · split at h
        · obtain ⟨st1, h1, h⟩ := Pr.bind_ok h
          obtain ⟨x, h2, h⟩ := Pr.bind_ok h
          cases h
          have k := ih .un _ _ (psNx_nm h1) h2; exact k
        · obtain ⟨st1, h1, h⟩ := Pr.bind_ok h
          obtain ⟨st2, h2, h⟩ := Pr.bind_ok h
          cases h
          have k := psEx_nm h2; exact k
      · split at h
        · obtain ⟨st1, h1, h⟩ := Pr.bind_ok h
          obtain ⟨x, h2, h⟩ := Pr.bind_ok h
          cases h
          have k := ih .un _ _ (psNx_nm h1) h2; exact k
        · exact ih .atom _ _ hst h
    | atom =>
      simp only [psRun] at h
      split at h
      · obtain ⟨st2, h2, h⟩ := Pr.bind_ok h
        cases h
        have k := psEx_nm h2; exact k
      · split at h
        · obtain ⟨st2, h2, h⟩ := Pr.bind_ok h
          cases h
          have k := psEx_nm h2; exact k
        · split at h
          · obtain ⟨st1, h1, h⟩ := Pr.bind_ok h
            obtain ⟨st2, h2, h⟩ := Pr.bind_ok h
            cases h
            have k := psEx_nm h2; exact k
          · split at h
            · split at h
              · cases h
              · obtain ⟨st1, h1, h⟩ := Pr.bind_ok h
                obtain ⟨e, h2, h⟩ := Pr.bind_ok h
                obtain ⟨st3, h3, h⟩ := Pr.bind_ok h
                cases h
                have k := psEx_nm h3; exact k
            · cases h

theorem psNx_keeps {s : ByteArray} {pat : Bool} {most : Nat} {st st1 : Ps} (h : psNx s pat most st = .ok st1) : st1.nodes = st.nodes ∧ st1.brk = st.brk := by
  obtain ⟨t, _, h2⟩ := Pr.bind_ok h
  cases h2; exact ⟨rfl, rfl⟩
theorem psEx_keeps {s : ByteArray} {pat : Bool} {c : Int} {st st1 : Ps} (h : psEx s pat c st = .ok st1) : st1.nodes = st.nodes ∧ st1.brk = st.brk := by
  unfold psEx at h
  split at h
  · split at h
    · exact psNx_keeps h
    · cases h
  · cases h

/-- A state that the grammar comes to. -/
structure StN (s : ByteArray) (q : Ps) : Prop where
  st : StOk s q
  nm : NmOk mx63 q.now
  bk : q.brk ≤ 100
theorem run_n {s : ByteArray} {pat : Bool} {f : Nat} {q : Rl} {st : Ps} {r : Nat × Ps} (h : StN s st) (hq : q.ok st) (hl : q.lv) (hr : psRun s pat f q st = .ok r) : StN s r.2 := by
  have k := psRun_ok s pat f q st r h.st hq (Rl.lv_pos hl) hr
  exact ⟨k.ok, psRun_nm s pat f q st r h.nm hr, by rw [k.gr.brk]; exact h.bk⟩
theorem nx_n {s : ByteArray} {pat : Bool} {st st' : Ps} (h : StN s st) (he : st.now.err = 0) (hw : st.now.what ≠ 0) (hn : psNx s pat mx63 st = .ok st') : StN s st' := ⟨(psNx_ok h.st he hw hn).1, psNx_nm hn, by rw [(psNx_keeps hn).2]; exact h.bk⟩
theorem ex_n {s : ByteArray} {pat : Bool} {c : Int} {st st' : Ps} (h : StN s st) (hc : c ≠ 0) (hn : psEx s pat c st = .ok st') : StN s st' := ⟨(psEx_ok h.st hc hn).1, psEx_nm hn, by rw [(psEx_keeps hn).2]; exact h.bk⟩
end Go.Proofs.YtjmccobblpcbhaaDoor

set_option linter.unusedSimpArgs false
set_option linter.unusedVariables false
namespace Go.Proofs.YtjmccobblpcbhaaDoor
open Go.Lib

def shN (d : Nat) (x : Nd) : Nd := { x with kids := x.kids.map (· + (d : Int)) }
theorem shN_shN (d e : Nat) (x : Nd) : shN d (shN e x) = shN (e + d) x := by
  unfold shN
  simp [Int.add_assoc]
theorem map_shN (d e : Nat) (l : List Nd) : (l.map (shN e)).map (shN d) = l.map (shN (e + d)) := by
  rw [List.map_map]; exact List.map_congr_left fun x _ => shN_shN d e x
theorem shN_zero (l : List Nd) : l.map (shN 0) = l := by
  have : ∀ x ∈ l, shN 0 x = id x := fun x _ => by unfold shN; simp
  rw [List.map_congr_left this]; simp
def jn1 (op : Int) (a : List Nd) : List Nd := a ++ [⟨op, 0, ⟨#[]⟩, [((a.length - 1 : Nat) : Int)]⟩]
def jn2 (op : Int) (a b : List Nd) : List Nd := a ++ b.map (shN a.length) ++ [⟨op, 0, ⟨#[]⟩, [((a.length - 1 : Nat) : Int), ((a.length + b.length - 1 : Nat) : Int)]⟩]
def jn3 (op : Int) (a b c : List Nd) : List Nd := a ++ b.map (shN a.length) ++ c.map (shN (a.length + b.length)) ++ [⟨op, 0, ⟨#[]⟩, [((a.length - 1 : Nat) : Int), ((a.length + b.length - 1 : Nat) : Int), ((a.length + b.length + c.length - 1 : Nat) : Int)]⟩]

def skp (s : ByteArray) (p : Nat) : Nat := psSkip s s.size p
theorem psNx_eq (s : ByteArray) (pat : Bool) (most : Nat) (st : Ps) : psNx s pat most st = (psFrom s pat most (skp s st.now.to)).bind fun t => .ok { st with now := t } := rfl
theorem psFrom_here {s : ByteArray} {pat : Bool} {most p : Nat} {t : Tk} (h : psFrom s pat most p = .ok t) : psFrom s pat most t.from_ = .ok t := by
  unfold psFrom at h
  split at h
  · rename_i hp
    have e : t.from_ = p := by
      unfold psAt at h
      split at h
      · cases h; rfl
      · split at h
        · cases h; rfl
        · split at h
          · cases h; rfl
          · cases h
    unfold psFrom
    rw [e, if_pos hp]
    exact h
  · cases h
    unfold psFrom psEnd
    simp

inductive RdQ where
  | cond
  | level (lv : Nat)
  | loop (lv : Nat) (la : List Nd)
  | un
  | atom
def RdQ.rl (d : Nat) : RdQ → Rl
  | .cond => .cond
  | .level lv => .pair lv
  | .loop lv la => .loop lv (d + la.length - 1)
  | .un => .un
  | .atom => .atom
def RdQ.left : RdQ → List Nd
  | .loop _ la => la
  | _ => []

def rdLit (s : ByteArray) (v : Int) (t : Tk) : Pr (List Nd × Nat) := if t.what = 48 then (if t.err = 0 then .ok ([⟨1, v, ⟨#[]⟩, []⟩], skp s t.to) else .bad t.from_ t.err) else .bad t.from_ 6
def rdNamed (s : ByteArray) (op : Int) (t : Tk) : Pr (List Nd × Nat) := if t.what = 97 then (if t.err = 0 then .ok ([⟨op, 0, s.extract t.from_ t.to, []⟩], skp s t.to) else .bad t.from_ t.err) else .bad t.from_ 6

def rdRun (s : ByteArray) (pat : Bool) : Nat → RdQ → Tk → Nat → Pr (List Nd × Nat)
  | 0, _, _, _ => .out
  | f + 1, .cond, t, o => (rdRun s pat f (.level 1) t o).bind fun c => (psFrom s pat mx63 c.2).bind fun t1 =>
      if t1.what = 63 then
        (psFrom s pat mx63 (skp s t1.to)).bind fun t2 => (rdRun s pat f .cond t2 o).bind fun a => (psFrom s pat mx63 a.2).bind fun t3 =>
          if t3.what = 58 then (if t3.err = 0 then (psFrom s pat mx63 (skp s t3.to)).bind fun t4 => (rdRun s pat f .cond t4 o).bind fun b => .ok (jn3 17 c.1 a.1 b.1, b.2) else .bad t3.from_ t3.err) else .bad t3.from_ 6
      else .ok c
  | f + 1, .level lv, t, o => if 8 < lv then rdRun s pat f .un t o else (rdRun s pat f (.level (lv + 1)) t o).bind fun a => (psFrom s pat mx63 a.2).bind fun t1 => rdRun s pat f (.loop lv a.1) t1 o
  | f + 1, .loop lv la, t, o =>
      if (psOp t.what).2 = lv then
        (psFrom s pat mx63 (skp s t.to)).bind fun t1 => (rdRun s pat f (.level (lv + 1)) t1 o).bind fun b =>
          if (psOp t.what).1 = 15 ∨ (psOp t.what).1 = 16 then .ok (jn2 (psOp t.what).1 la b.1, b.2)
          else (psFrom s pat mx63 b.2).bind fun t2 => rdRun s pat f (.loop lv (jn2 (psOp t.what).1 la b.1)) t2 o
      else .ok (la, t.from_)
  | f + 1, .un, t, o =>
      if t.what = 45 then
        (if (numI s t.to).2.2 = 11 then (psFrom s pat mx63 (skp s t.to)).bind fun t1 => (rdRun s pat f .un t1 o).bind fun x => .ok (jn1 3 x.1, x.2)
         else (psFrom s pat (mx63 + 1) (skp s t.to)).bind fun t1 => rdLit s (-(t1.n : Int)) t1)
      else if t.what = 126 then (psFrom s pat mx63 (skp s t.to)).bind fun t1 => (rdRun s pat f .un t1 o).bind fun x => .ok (jn1 4 x.1, x.2)
      else rdRun s pat f .atom t o
  | f + 1, .atom, t, o =>
      if t.what = 48 then rdLit s t.n t
      else if t.what = 97 then rdNamed s 2 t
      else if t.what = 64 then (psFrom s pat mx63 (skp s t.to)).bind fun t1 => rdNamed s 18 t1
      else if t.what = 40 then
        (if o = 100 then .bad t.from_ 10
         else (psFrom s pat mx63 (skp s t.to)).bind fun t1 => (rdRun s pat f .cond t1 (o + 1)).bind fun e => (psFrom s pat mx63 e.2).bind fun t2 =>
          if t2.what = 41 then (if t2.err = 0 then .ok (e.1, skp s t2.to) else .bad t2.from_ t2.err) else .bad t2.from_ 6)
      else .bad t.from_ 6
end Go.Proofs.YtjmccobblpcbhaaDoor
