/-
  RrW, RrOpW, SgRel, SgWh, ExJoiW, RrCt, RdEnd, EmPure.
-/
import Derived.Shelf.Unicode.DecodeSlow
import Derived.Laws.RangeAny
import Derived.Shelf.Strings.Builder1
import Derived.Shelf.Small.Utf8
import Derived.Shelf.Small.Bits
import Derived.Shelf.Strings.BuilderF
import Derived.Shelf.Strings.BuilderK
import Derived.Shelf.Strings.BuilderRune
import Derived.Shelf.Utf8.AppendRune
import Derived.Shelf.Strconv.Itoa0
import Derived.Shelf.Strconv.Itoa1
import Derived.Shelf.LaysM
import Derived.Shelf.Strconv.Itoa2
import Derived.Shelf.Strconv.Itoa3
import Derived.Shelf.Strconv.Itoa4
import Derived.Shelf.Strings.Prefix
import Derived.Shelf.Unicode.DecodeAny
import Derived.Test.YtjmccobblpcbhaaDoorProg
import Derived.WalkKit
import Derived.Deep.DeepFit
import Derived.Lib.OthersKept
import Derived.Lib.RuneCountTail
import Derived.Lib.MapLaws
import Derived.Sort.Walk0
import Derived.Laws.DeepStrings4
import Derived.Lib.ItoaNum
import Derived.Deep.AppendLies
import Derived.Deep.OwnRows
import Derived.Laws.AppendOwnNone
import Derived.Deep.QuietTactic
import Derived.BigQuiet
import Derived.Deep.RegionWith
import Derived.Maps.OwnSet
import Derived.StringKeys
import Derived.Lib.QuietBelow
import Derived.StillTail
import Derived.Below
import Derived.Lib.Small
import Derived.Lib.Strings
import Derived.Deep.RegionHeld3
import Derived.Laws.ResultCell
import Derived.Deep.Heap
import Derived.Laws.Rows
import Derived.Deep.RegionLaw
import Derived.Laws.OwnMore
import Derived.Test.YtjmccobblpcbhaaDoorM01
import Derived.Test.YtjmccobblpcbhaaDoorM02
import Derived.Test.YtjmccobblpcbhaaDoorM03
import Derived.Test.YtjmccobblpcbhaaDoorM04
import Derived.Test.YtjmccobblpcbhaaDoorM05
import Derived.Test.YtjmccobblpcbhaaDoorM06
import Derived.Test.YtjmccobblpcbhaaDoorM07
import Derived.Test.YtjmccobblpcbhaaDoorM08
import Derived.Test.YtjmccobblpcbhaaDoorM09
import Derived.Test.YtjmccobblpcbhaaDoorM11
import Derived.Test.YtjmccobblpcbhaaDoorM12
import Derived.Test.YtjmccobblpcbhaaDoorM13
import Derived.Test.YtjmccobblpcbhaaDoorM15
import Derived.Test.YtjmccobblpcbhaaDoorM16
import Derived.Test.YtjmccobblpcbhaaDoorM17
import Derived.Test.YtjmccobblpcbhaaDoorM18
import Derived.Test.YtjmccobblpcbhaaDoorM19
import Derived.Test.YtjmccobblpcbhaaDoorM20
import Derived.Test.YtjmccobblpcbhaaDoorM21
import Derived.Test.YtjmccobblpcbhaaDoorM22
import Derived.Test.YtjmccobblpcbhaaDoorM23
import Derived.Test.YtjmccobblpcbhaaDoorM24
import Derived.Test.YtjmccobblpcbhaaDoorM25
import Derived.Test.YtjmccobblpcbhaaDoorM26
import Derived.Test.YtjmccobblpcbhaaDoorM27
import Derived.Test.YtjmccobblpcbhaaDoorM28
set_option linter.unusedSimpArgs false
set_option linter.unusedVariables false
namespace Go.Proofs.YtjmccobblpcbhaaDoor
open Go.RowKit Go.Lib Go.Sort

/-- Block R is a reader at the place a, o brackets open, with the fault e at ft. -/
structure RdM (w : World) (R : Nat) (s : ByteArray) (pat : Bool) (a o ft : Nat) (e : Int) : Prop where
  blk : w.heap[R]? = some (.cells #[.string s, .bool pat, .int .i64 (a : Int), .int .i64 (o : Int), .int .i64 (ft : Int), .int .i64 e] 134 (0, 0))
theorem RdM.lt {w : World} {R : Nat} {s : ByteArray} {pat : Bool} {a o ft : Nat} {e : Int} (h : RdM w R s pat a o ft e) : R < w.heap.size := lt_of_block h.blk
theorem RdM.below {w w' : World} {R : Nat} {s : ByteArray} {pat : Bool} {a o ft : Nat} {e : Int} (h : RdM w R s pat a o ft e) (hb : Below w.heap.size w w') : RdM w' R s pat a o ft e := ⟨(hb.block _ h.lt).trans h.blk⟩
theorem RdM.cells {w : World} {R : Nat} {s : ByteArray} {pat : Bool} {a o ft : Nat} {e : Int} (h : RdM w R s pat a o ft e) : w.cell? ⟨R, 0, none⟩ = some (.string s) ∧ w.cell? ⟨R, 1, none⟩ = some (.bool pat) ∧ w.cell? ⟨R, 2, none⟩ = some (.int .i64 (a : Int)) ∧ w.cell? ⟨R, 3, none⟩ = some (.int .i64 (o : Int)) ∧ w.cell? ⟨R, 4, none⟩ = some (.int .i64 (ft : Int)) ∧ w.cell? ⟨R, 5, none⟩ = some (.int .i64 e) := by simp [World.cell?, h.blk]
theorem RdM.frozen {w : World} {R : Nat} {s : ByteArray} {pat : Bool} {a o ft : Nat} {e : Int} (h : RdM w R s pat a o ft e) (i : Nat) : w.frozen? ⟨R, i, none⟩ = false := by simp [World.frozen?, h.blk]
theorem RdM.at_ {w : World} {R : Nat} {s : ByteArray} {pat : Bool} {a o ft : Nat} {e : Int} (h : RdM w R s pat a o ft e) (b : Nat) : RdM (w.setCell ⟨R, 2, none⟩ (.int .i64 (b : Int))) R s pat b o ft e := ⟨by simpa using heap_setCell_same w R 2 _ _ (.int .i64 (b : Int)) h.blk⟩
theorem RdM.err {w : World} {R : Nat} {s : ByteArray} {pat : Bool} {a o ft : Nat} {e : Int} (h : RdM w R s pat a o ft e) (p : Nat) (er : Int) : RdM ((w.setCell ⟨R, 4, none⟩ (.int .i64 (p : Int))).setCell ⟨R, 5, none⟩ (.int .i64 er)) R s pat a o p er := by
  have h1 : RdM (w.setCell ⟨R, 4, none⟩ (.int .i64 (p : Int))) R s pat a o p e := ⟨by simpa using heap_setCell_same w R 4 _ _ (.int .i64 (p : Int)) h.blk⟩
  exact ⟨by simpa using heap_setCell_same _ R 5 _ _ (.int .i64 er) h1.blk⟩

end Go.Proofs.YtjmccobblpcbhaaDoor

set_option linter.unusedSimpArgs false
set_option linter.unusedVariables false
namespace Go.Proofs.YtjmccobblpcbhaaDoor
open Go.RowKit Go.Lib Go.Sort

def bs (l : List UInt8) : ByteArray := ⟨l.toArray⟩
end Go.Proofs.YtjmccobblpcbhaaDoor

set_option linter.unusedSimpArgs false
set_option linter.unusedVariables false
namespace Go.Proofs.YtjmccobblpcbhaaDoor
open Go.RowKit Go.Lib

theorem kd4 {c : Int} (h : kd c = 4) : c ∈ signList := by
  rw [kd_eq] at h
  unfold kindR at h
  split at h
  · omega
  · split at h
    · omega
    · split at h
      · omega
      · split at h
        · omega
        · unfold sgnK at h
          split at h
          · rename_i hs
            unfold isSign at hs
            simpa using hs
          · omega
end Go.Proofs.YtjmccobblpcbhaaDoor

set_option linter.unusedSimpArgs false
set_option linter.unusedVariables false
namespace Go.Proofs.YtjmccobblpcbhaaDoor
open Go.RowKit Go.Lib

def whats : List Int := [0, 48, 97, 40, 41, 43, 45, 42, 47, 37, 38, 124, 94, 126, 60, 63, 58, 64, 8801, 8810, 8811]
end Go.Proofs.YtjmccobblpcbhaaDoor

set_option linter.unusedSimpArgs false
set_option linter.unusedVariables false
namespace Go.Proofs.YtjmccobblpcbhaaDoor
open Go.RowKit Go.Lib

/-- In the inner loop of behind: the new row, and the node's own block. -/
structure BhMid (wr : World) (op n by_ : Int) (nm : ByteArray) (ka : Option Addr) (kc : Nat) (kids : List Int) (k : Nat) (wq : World) : Prop where
  row : wq.rowIs (wr.heap.size + 1) 3 kids.length (fun j => .int .i64 (if j < k then kids.getD j 0 + by_ else 0))
  node : wq.heap[wr.heap.size]? = some (.cells #[.int .i64 op, .int .i64 n, .string nm, .slice ka kids.length kc] 60 (0, 0))
  below : Below wr.heap.size wr wq

theorem BhMid.set {wr : World} {op n by_ : Int} {nm : ByteArray} {ka : Option Addr} {kc : Nat} {kids : List Int} {k : Nat} {wq : World} (h : BhMid wr op n by_ nm ka kc kids k wq) (hk : k < kids.length) : BhMid wr op n by_ nm ka kc kids (k + 1) (wq.setCell ⟨wr.heap.size + 1, k, none⟩ (.int .i64 (kids.getD k 0 + by_))) := by
  refine ⟨(h.row.set k _).congr (fun j hj => ?_), (Deep.blk_setCell_other _ _ _ _ (by simp)).trans h.node, h.below.setCell (by simp) _⟩
  by_cases e : j = k
  · subst e
    rw [if_pos rfl, if_pos (by omega)]
  · rw [if_neg e]
    by_cases e2 : j < k
    · rw [if_pos e2, if_pos (by omega)]
    · rw [if_neg e2, if_neg (by omega)]

end Go.Proofs.YtjmccobblpcbhaaDoor

set_option linter.unusedSimpArgs false
set_option linter.unusedVariables false
namespace Go.Proofs.YtjmccobblpcbhaaDoor
open Go.RowKit Go.Lib Go.Sort

theorem own_gr {w w' : World} {base R : Nat} {e : TypeId} {sz n : Nat} {v : Value} {xs : List Value} (h : w.ownsRow base e sz v n xs) (hg : w.grownBy w' (some R)) (hR : R < base) : w'.ownsRow base e sz v n xs :=
  h.kept hg (by
    cases hk : v.ownBlock with
    | none => exact .inl rfl
    | some k =>
      right
      intro hh
      have h1 := (h.lt k hk).1
      injection hh with hh
      omega)
theorem OwnN.gr {w w' : World} {base R : Nat} {v : Value} {l : List Nd} (h : OwnN w base v l) (hg : w.grownBy w' (some R)) (hR : R < base) : OwnN w' base v l := by
  obtain ⟨p, h1, h2⟩ := h
  exact ⟨p, h1, ⟨own_gr h2.row hg hR, fun q hq => own_gr (h2.kids q hq) hg hR⟩⟩
/-- A list that is left where a fault was come to. -/
structure BadL (s : ByteArray) (a : Nat) (l : List Nd) : Prop where
  len : l.length + a ≤ s.size
  kids : ∀ x ∈ l, x.kids.length ≤ 3 ∧ ∀ k ∈ x.kids, 0 ≤ k ∧ k < (l.length : Int)
theorem BadL.nil {s : ByteArray} {a : Nat} (h : a ≤ s.size) : BadL s a [] := ⟨by simpa using h, by simp⟩
theorem BadL.from_ {s : ByteArray} {a b : Nat} {l : List Nd} (h : BadL s b l) (hab : a ≤ b) : BadL s a l := ⟨by have := h.len; omega, h.kids⟩
theorem BadL.of {s : ByteArray} {a : Nat} {l : List Nd} (h : KidsIn l) (hl : l.length + a ≤ s.size) : BadL s a l := ⟨hl, fun x hx => ⟨h.few x hx, h.kin x hx⟩⟩

def rdX (s : ByteArray) (pat : Bool) (f : Nat) (q : RdQ) (a o : Nat) : Pr (List Nd × Nat) := (psFrom s pat mx63 a).bind fun t => rdRun s pat f q t o

/-! ### Joined of lists that were just read -/
end Go.Proofs.YtjmccobblpcbhaaDoor

set_option linter.unusedSimpArgs false
set_option linter.unusedVariables false
namespace Go.Proofs.YtjmccobblpcbhaaDoor
open Go.Lib

theorem plain_nz : ∀ c ∈ signList, psPlain c ≠ 0 ∧ (psPlain c = 64 → c = 64) := by decide +kernel
theorem what_end {s : ByteArray} {pat : Bool} {m p : Nat} {t : Tk} (hp : p ≤ s.size) (h : psFrom s pat m p = .ok t) : t.what = 0 ↔ ¬ p < s.size := by
  unfold psFrom at h
  split at h
  · rename_i hlt
    refine ⟨fun h0 => ?_, fun c => absurd hlt c⟩
    unfold psAt at h
    split at h
    · cases h; exact absurd h0 (by simp)
    · split at h
      · cases h; exact absurd h0 (by simp)
      · split at h
        · rename_i k4
          cases h
          exfalso
          have k5 := k4.2
          simp only at h0
          unfold psSign at h0 k5
          revert h0 k5
          (repeat' split) <;> first | (intro a b; exact (plain_nz _ (kd4 k4.1)).1 a) | (intro a b; revert a; decide) | (intro a b; revert b; decide)
        · cases h
  · rename_i hlt
    cases h
    exact ⟨fun _ => hlt, fun _ => rfl⟩
theorem what_hole {s : ByteArray} {m p : Nat} {t : Tk} (h : psFrom s false m p = .ok t) : t.what ≠ 64 := by
  unfold psFrom at h
  split at h
  · rename_i hlt
    unfold psAt at h
    split at h
    · cases h; simp
    · split at h
      · cases h; simp
      · split at h
        · rename_i k4
          cases h
          simp only
          have k5 := k4.2
          unfold psSign at k5 ⊢
          revert k5
          (repeat' split) <;> first | (intro a b; simp at b; done) | (intro a; simp at a; done) | skip
          rename_i h1 h2 h3 h4 h5
          intro _ e
          exact h5 ⟨(plain_nz _ (kd4 k4.1)).2 e, rfl⟩
        · cases h
  · cases h; simp [psEnd]

/-- No holes. -/
def noH (l : List Nd) : Prop := ∀ x ∈ l, x.op ≠ 18
theorem noH_sh {l : List Nd} (h : noH l) (d : Nat) : noH (l.map (shN d)) := by
  intro x hx
  obtain ⟨y, hy, rfl⟩ := List.mem_map.1 hx
  exact h y hy
theorem noH_app {l m : List Nd} (h : noH l) (h2 : noH m) : noH (l ++ m) := by
  intro x hx
  rcases List.mem_append.1 hx with hx | hx
  · exact h x hx
  · exact h2 x hx
theorem noH_one {op n : Int} {nm : ByteArray} {ks : List Int} (h : op ≠ 18) : noH [⟨op, n, nm, ks⟩] := by
  intro x hx
  rw [List.mem_singleton.1 hx]; exact h
theorem psOp_18 (c : Int) : (psOp c).1 ≠ 18 := by
  by_cases h : c ∈ whats
  · have : ∀ c ∈ whats, (psOp c).1 ≠ 18 := by decide +kernel
    exact this c h
  · simp [whats] at h
    unfold psOp
    simp [h]
theorem rdLit_noH {s : ByteArray} {v : Int} {t : Tk} {r : List Nd × Nat} (h : rdLit s v t = .ok r) : noH r.1 := by
  unfold rdLit at h
  split at h
  · split at h
    · cases h; exact noH_one (by decide)
    · cases h
  · cases h
theorem rdNamed_noH {s : ByteArray} {t : Tk} {r : List Nd × Nat} (h : rdNamed s 2 t = .ok r) : noH r.1 := by
  unfold rdNamed at h
  split at h
  · split at h
    · cases h; exact noH_one (by decide)
    · cases h
  · cases h
def RdQ.noH (q : RdQ) : Prop := ∀ lv la, q = .loop lv la → Go.Proofs.YtjmccobblpcbhaaDoor.noH la
theorem rd_noH (s : ByteArray) : ∀ (f : Nat) (q : RdQ) (t : Tk) (o : Nat) (r : List Nd × Nat), q.noH → t.what ≠ 64 → rdRun s false f q t o = .ok r → noH r.1 := by
  intro f
  induction f with
  | zero => intro q t o r _ _ h; cases h
  | succ f ih =>
    intro q t o r hq ht h
    have hc : RdQ.cond.noH := fun _ _ e => by cases e
    have hu : RdQ.un.noH := fun _ _ e => by cases e
    have hat : RdQ.atom.noH := fun _ _ e => by cases e
    have hl : ∀ lv, (RdQ.level lv).noH := fun lv _ _ e => by cases e
    cases q with
    | cond =>
      simp only [rdRun] at h
      obtain ⟨c, h1, h⟩ := Pr.bind_ok h
      have n1 := ih _ _ _ _ (hl 1) ht h1
      obtain ⟨t1, h2, h⟩ := Pr.bind_ok h
      split at h
      · obtain ⟨t2, h3, h⟩ := Pr.bind_ok h
        obtain ⟨a, h4, h⟩ := Pr.bind_ok h
        have n2 := ih _ _ _ _ hc (what_hole h3) h4
        obtain ⟨t3, h5, h⟩ := Pr.bind_ok h
        split at h
        · split at h
          · obtain ⟨t4, h6, h⟩ := Pr.bind_ok h
            obtain ⟨b, h7, h⟩ := Pr.bind_ok h
            have n3 := ih _ _ _ _ hc (what_hole h6) h7
            cases h
            exact noH_app (noH_app (noH_app n1 (noH_sh n2 _)) (noH_sh n3 _)) (noH_one (by decide))
          · cases h
        · cases h
      · cases h; exact n1
    | level lv =>
      simp only [rdRun] at h
      split at h
      · exact ih _ _ _ _ hu ht h
      · obtain ⟨a, h1, h⟩ := Pr.bind_ok h
        have n1 := ih _ _ _ _ (hl (lv + 1)) ht h1
        obtain ⟨t1, h2, h⟩ := Pr.bind_ok h
        exact ih _ _ _ _ (fun _ _ e => by cases e; exact n1) (what_hole h2) h
    | loop lv la =>
      simp only [rdRun] at h
      have n0 := hq lv la rfl
      split at h
      · obtain ⟨t1, h2, h⟩ := Pr.bind_ok h
        obtain ⟨b, h3, h⟩ := Pr.bind_ok h
        have n1 := ih _ _ _ _ (hl (lv + 1)) (what_hole h2) h3
        have nj : noH (jn2 (psOp t.what).1 la b.1) := noH_app (noH_app n0 (noH_sh n1 _)) (noH_one (psOp_18 _))
        split at h
        · cases h; exact nj
        · obtain ⟨t2, h4, h⟩ := Pr.bind_ok h
          exact ih _ _ _ _ (fun _ _ e => by cases e; exact nj) (what_hole h4) h
      · cases h; exact n0
    | un =>
      simp only [rdRun] at h
      split at h
      · split at h
        · obtain ⟨t1, h2, h⟩ := Pr.bind_ok h
          obtain ⟨b, h3, h⟩ := Pr.bind_ok h
          have n1 := ih _ _ _ _ hu (what_hole h2) h3
          cases h
          exact noH_app n1 (noH_one (by decide))
        · obtain ⟨t1, h2, h⟩ := Pr.bind_ok h
          exact rdLit_noH h
      · split at h
        · obtain ⟨t1, h2, h⟩ := Pr.bind_ok h
          obtain ⟨b, h3, h⟩ := Pr.bind_ok h
          have n1 := ih _ _ _ _ hu (what_hole h2) h3
          cases h
          exact noH_app n1 (noH_one (by decide))
        · exact ih _ _ _ _ hat ht h
    | atom =>
      simp only [rdRun] at h
      split at h
      · exact rdLit_noH h
      · split at h
        · exact rdNamed_noH h
        · split at h
          · split at h
            · cases h
            · obtain ⟨t1, h2, h⟩ := Pr.bind_ok h
              obtain ⟨e, h3, h⟩ := Pr.bind_ok h
              have n1 := ih _ _ _ _ hc (what_hole h2) h3
              obtain ⟨t2, h4, h⟩ := Pr.bind_ok h
              split at h
              · split at h
                · cases h; exact n1
                · cases h
              · cases h
          · cases h
theorem noH_hls {l : List Nd} (h : noH l) : hlsL l = [] := by
  unfold hlsL
  suffices ∀ acc : List ByteArray, l.foldl addNm acc = acc from this []
  induction l with
  | nil => intro acc; rfl
  | cons x l ih =>
    intro acc
    rw [List.foldl_cons]
    have : addNm acc x = acc := by unfold addNm; rw [if_neg (h x (by simp))]
    rw [this]
    exact ih (fun y hy => h y (by simp [hy])) acc

/-- What the document's read comes to. -/
def rdWhole (s : ByteArray) (pat : Bool) (most : Nat) : Pr (List Nd) :=
  if 4096 < s.size then .bad 0 3 else if (chk s).2 = 0 then
    ((rdX s pat (psFuel s) .cond (skp s 0) 0).bind fun r => (psFrom s pat mx63 r.2).bind fun _ =>
      if r.2 < s.size then .bad r.2 6 else if most < r.1.length then .bad s.size 10 else if pat = true ∧ 6 < (hlsL r.1).length then .bad s.size 10 else .ok r.1)
  else .bad (chk s).1 (chk s).2

theorem read_eq (s : ByteArray) (pat : Bool) (most : Nat) : psRead s pat most = rdWhole s pat most := by
  unfold psRead rdWhole psOpen
  by_cases h4 : 4096 < s.size
  · rw [if_pos h4, if_pos h4]; rfl
  rw [if_neg h4, if_neg h4]
  rcases Decidable.em ((chk s).2 = 0) with hc | hc
  rotate_left
  · rw [if_neg hc, if_neg hc]; rfl
  rw [if_pos hc, if_pos hc]
  show ((psNx s pat mx63 st00).bind fun st1 => _) = _
  rw [psNx_eq]
  unfold rdX
  have e0 : skp s st00.now.to = skp s 0 := rfl
  rw [e0, Pr.bind_assoc, Pr.bind_assoc]
  cases h0 : psFrom s pat mx63 (skp s 0) with
  | out => rfl
  | bad p er => rfl
  | ok t =>
    simp only [Pr.bind]
    have hsk := skp_in (s := s) (p := 0) (by omega)
    have ht := from_at hsk.2 h0
    have hR := ps_rd s pat (psFuel s) .cond t 0 [] (by rw [ht.at_]; exact h0) (noq (fun _ _ e => by cases e))
    have e1 : RdQ.cond.rl ([] : List Nd).length = Rl.cond := rfl
    have e2 : (([] : List Nd) ++ RdQ.cond.left.map (shN ([] : List Nd).length)) = [] := rfl
    rw [e1, e2] at hR
    have e3 : ({ st00 with now := t } : Ps) = ⟨t, [], 0⟩ := rfl
    rw [e3, hR]
    unfold lz
    cases h1 : rdRun s pat (psFuel s) .cond t 0 with
    | out => rfl
    | bad p er => rfl
    | ok r =>
      simp only [Pr.bind]
      obtain ⟨l1, l2, l3⟩ := rd_len s pat _ .cond _ t 0 r ⟨(fun _ e => by cases e), (fun _ _ e => by cases e)⟩ ht h1
      cases h2 : psFrom s pat mx63 r.2 with
      | out => rfl
      | bad p er => rfl
      | ok t' =>
        simp only [Pr.bind, List.nil_append, List.length_nil]
        have ht' := from_at l3 h2
        have hw := what_end l3 h2
        rw [shN_zero]
        unfold psEx
        simp only
        by_cases hlt : r.2 < s.size
        · rw [if_neg (fun c => hw.1 c hlt), if_pos hlt, ht'.at_]
        · rw [if_pos (hw.2 hlt), if_neg hlt, if_pos (ht'.sign (by rw [hw.2 hlt]; decide) (by rw [hw.2 hlt]; decide))]
          have e5 : r.2 = s.size := by omega
          have et : t' = psEnd s := by
            unfold psFrom at h2
            rw [if_neg hlt] at h2
            cases h2; rfl
          have e6 : psNx s pat mx63 ⟨t', r.1, 0⟩ = .ok ⟨psEnd s, r.1, 0⟩ := by
            rw [psNx_eq, et]
            have : skp s (psEnd s).to = s.size := by
              have := skp_in (s := s) (p := s.size) (Nat.le_refl _)
              show skp s s.size = s.size
              omega
            simp only [this]
            unfold psFrom
            rw [if_neg (by omega)]
            rfl
          rw [e6]
          simp only [Pr.bind]
          by_cases hm : most < r.1.length
          · rw [if_pos hm, if_pos hm]
          · rw [if_neg hm, if_neg hm]
            cases pat with
            | true => simp
            | false =>
              have hn := noH_hls (rd_noH s _ .cond t 0 r (fun _ _ e => by cases e) (what_hole h0) h1)
              rw [hn]
              simp
end Go.Proofs.YtjmccobblpcbhaaDoor

set_option linter.unusedSimpArgs false
set_option linter.unusedVariables false
namespace Go.Proofs.YtjmccobblpcbhaaDoor
open Go.Lib

/-- s stands in S from d on; behind it a bracket that closes, or a blank. -/
structure Mid (S s : ByteArray) (d : Nat) : Prop where
  size : d + s.size < S.size
  get : ∀ i, i < s.size → S.get! (d + i) = s.get! i
  stop : S.get! (d + s.size) = 41 ∨ S.get! (d + s.size) = 32

theorem Mid.low {S s : ByteArray} {d : Nat} (h : Mid S s d) : (S.get! (d + s.size)).toNat < 64 := by
  rcases h.stop with e | e <;> rw [e] <;> decide
theorem dN1 (n b0 x1 x2 x3 y1 y2 y3 : Nat) (hx : x1 / 64 = 0) : decodeN n b0 x1 x2 x3 = decodeN 1 b0 y1 y2 y3 := by
  unfold decodeN
  by_cases h0 : b0 < 128
  · rw [if_pos h0, if_pos h0]
  · rw [if_neg h0, if_neg h0, if_neg (fun c => by omega), if_neg (fun c => by omega), if_neg (fun c => by omega), if_neg (fun c => by omega), if_neg (fun c => by omega), if_neg (fun c => by omega)]
theorem dN2 (n b0 b1 x2 x3 y2 y3 : Nat) (hn : 1 < n) (hx : x2 / 64 = 0) : decodeN n b0 b1 x2 x3 = decodeN 2 b0 b1 y2 y3 := by
  have a1 : (1 < n) = True := by simp; omega
  have a2 : (1 < 2) = True := by simp
  have a3 : ¬ (2 < n ∧ x2 / 64 = 2) := fun c => by omega
  have a4 : ¬ (2 < 2 ∧ y2 / 64 = 2) := fun c => by omega
  unfold decodeN
  simp only [a1, a2, a3, a4, false_and, and_false, if_false]
theorem dN3 (n b0 b1 b2 x3 y3 : Nat) (hn : 2 < n) (hx : x3 / 64 = 0) : decodeN n b0 b1 b2 x3 = decodeN 3 b0 b1 b2 y3 := by
  have a1 : (1 < n) = True := by simp; omega
  have a2 : (2 < n) = True := by simp; omega
  have a3 : (1 < 3) = True := by simp
  have a4 : (2 < 3) = True := by simp
  have a5 : ¬ (3 < n ∧ x3 / 64 = 2) := fun c => by omega
  have a6 : ¬ (3 < 3 ∧ y3 / 64 = 2) := fun c => by omega
  unfold decodeN
  simp only [a1, a2, a3, a4, a5, a6, false_and, and_false, if_false]
theorem dN4 (n m b0 b1 b2 b3 : Nat) (hn : 3 < n) (hm : 3 < m) : decodeN n b0 b1 b2 b3 = decodeN m b0 b1 b2 b3 := by
  unfold decodeN
  have a1 : (1 < n) = True := by simp; omega
  have a2 : (2 < n) = True := by simp; omega
  have a3 : (3 < n) = True := by simp; omega
  have c1 : (1 < m) = True := by simp; omega
  have c2 : (2 < m) = True := by simp; omega
  have c3 : (3 < m) = True := by simp; omega
  simp only [a1, a2, a3, c1, c2, c3]
theorem Mid.dec {S s : ByteArray} {d : Nat} (h : Mid S s d) {p : Nat} (hp : p < s.size) : Utf8.decode S (d + p) = Utf8.decode s p := by
  have hl := h.low
  have hz := h.size
  rw [decode_at, decode_at, h.get p hp]
  have g : ∀ i, p + i < s.size → S.get! (d + p + i) = s.get! (p + i) := fun i hi => by rw [Nat.add_assoc]; exact h.get (p + i) hi
  have e : ∀ i, p + i = s.size → (S.get! (d + p + i)).toNat / 64 = 0 := fun i hi => by
    have : d + p + i = d + s.size := by omega
    rw [this]; omega
  have c : s.size - p = 1 ∨ s.size - p = 2 ∨ s.size - p = 3 ∨ 4 ≤ s.size - p := by omega
  rcases c with c | c | c | c
  · rw [c]; exact dN1 _ _ _ _ _ _ _ _ (e 1 (by omega))
  · rw [c, g 1 (by omega)]; exact dN2 _ _ _ _ _ _ _ (by omega) (e 2 (by omega))
  · rw [c, g 1 (by omega), g 2 (by omega)]; exact dN3 _ _ _ _ _ _ (by omega) (e 3 (by omega))
  · rw [g 1 (by omega), g 2 (by omega), g 3 (by omega)]; exact dN4 _ _ _ _ _ _ (by omega) (by omega)
/-- What stands behind s. -/
theorem Mid.behind {S s : ByteArray} {d : Nat} (h : Mid S s d) : (Utf8.decode S (d + s.size)).1 = 41 ∨ (Utf8.decode S (d + s.size)).1 = 32 := by
  rcases h.stop with e | e
  · left; rw [decode_at, e]; unfold decodeN; rfl
  · right; rw [decode_at, e]; unfold decodeN; rfl
theorem ba_get (s : ByteArray) (k : Nat) (h : k < s.size) : s.data.toList[k]? = some (s.get! k) := by
  have hl : s.data.toList.length = s.size := (size_eq s).symm
  rw [List.getElem?_eq_getElem (by omega), Utf8W.get!_of_lt s k h]
  rfl
theorem Mid.ext {S s : ByteArray} {d : Nat} (h : Mid S s d) {p q : Nat} (hpq : p ≤ q) (hq : q ≤ s.size) : S.extract (d + p) (d + q) = s.extract p q := by
  have hz := h.size
  apply ByteArray.ext
  apply Array.ext'
  rw [extract_data, extract_data]
  apply List.ext_getElem?
  intro i
  rw [List.getElem?_take, List.getElem?_take, show d + q - (d + p) = q - p by omega]
  by_cases hi : i < q - p
  · rw [if_pos hi, if_pos hi, List.getElem?_drop, List.getElem?_drop, ba_get s (p + i) (by omega), show d + p + i = d + (p + i) by omega, ba_get S (d + (p + i)) (by omega), h.get (p + i) (by omega)]
  · rw [if_neg hi, if_neg hi]

theorem Mid.skip {S s : ByteArray} {d : Nat} (h : Mid S s d) : ∀ (f p : Nat), p ≤ s.size → s.size ≤ p + f → psSkip S (f + (S.size - s.size)) (d + p) = if psSkip s f p < s.size then d + psSkip s f p else psSkip S (S.size - s.size) (d + s.size) := by
  have hz := h.size
  have fuel : ∀ (f g p : Nat), S.size ≤ p + f → S.size ≤ p + g → psSkip S f p = psSkip S g p := by
    intro f
    induction f with
    | zero =>
      intro g p h1 h2
      cases g with
      | zero => rfl
      | succ g => simp only [psSkip]; rw [if_neg (by omega)]
    | succ f ih =>
      intro g p h1 h2
      cases g with
      | zero => simp only [psSkip]; rw [if_neg (by omega)]
      | succ g =>
        simp only [psSkip]
        by_cases hp : p < S.size
        · rw [if_pos hp, if_pos hp]
          by_cases hk : kd (Utf8.decode S p).1 = 3
          · rw [if_pos hk, if_pos hk]
            have := width_pos S p hp
            exact ih g _ (by omega) (by omega)
          · rw [if_neg hk, if_neg hk]
        · rw [if_neg hp, if_neg hp]
  intro f
  induction f with
  | zero =>
    intro p hp hf
    have e : p = s.size := by omega
    subst e
    have e0 : psSkip s 0 s.size = s.size := rfl
    rw [e0, if_neg (Nat.lt_irrefl _), Nat.zero_add]
  | succ f ih =>
    intro p hp hf
    by_cases hlt : p < s.size
    · rw [show f + 1 + (S.size - s.size) = (f + (S.size - s.size)) + 1 by omega]
      have hS : psSkip S ((f + (S.size - s.size)) + 1) (d + p) = if kd (Utf8.decode s p).1 = 3 then psSkip S (f + (S.size - s.size)) (d + p + (Utf8.decode s p).2) else d + p := by
        simp only [psSkip]
        rw [if_pos (by omega), h.dec hlt]
      have hs' : psSkip s (f + 1) p = if kd (Utf8.decode s p).1 = 3 then psSkip s f (p + (Utf8.decode s p).2) else p := by
        simp only [psSkip]
        rw [if_pos hlt]
      rw [hS, hs']
      by_cases hk : kd (Utf8.decode s p).1 = 3
      · rw [if_pos hk, if_pos hk]
        have hw := width_pos s p hlt
        have hw2 := dec_le s p hlt
        have := ih (p + (Utf8.decode s p).2) hw2 (by omega)
        rw [show d + p + (Utf8.decode s p).2 = d + (p + (Utf8.decode s p).2) by omega]
        exact this
      · rw [if_neg hk, if_neg hk, if_pos hlt]
    · have e : p = s.size := by omega
      subst e
      have e0 : psSkip s (f + 1) s.size = s.size := by simp only [psSkip]; rw [if_neg (Nat.lt_irrefl _)]
      rw [e0, if_neg (Nat.lt_irrefl _)]
      exact fuel _ _ _ (by omega) (by omega)
end Go.Proofs.YtjmccobblpcbhaaDoor
