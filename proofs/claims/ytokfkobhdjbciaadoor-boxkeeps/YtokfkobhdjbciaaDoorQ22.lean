/-
  BxKp.
-/
import Derived.Test.YtokfkobhdjbciaaDoorChecked
import GoSem.PinnedTables
import GoSem.Claim
import GoSem.ClaimJoined
import GoSem.ClaimMapViews
import Derived.JoinedTies
import Derived.KernelRfl
import Derived.Shelf.Unicode.DecodeSlow
import Derived.Laws.RangeAny
import Derived.Shelf.Small.Bits
import Derived.Shelf.Strconv.Itoa0
import Derived.Shelf.Unicode.Decode
import Derived.Shelf.Unicode.DecodeAny
import Derived.Shelf.Slices.CompactS
import Derived.Shelf.Slices.Cells
import Derived.Ground.SlsfProg
import Derived.Shelf.SlSortCmp.Insertion
import Derived.Shelf.SlSortCmp.SiftDown1
import Derived.Shelf.SlSortCmp.HeapSort1
import Derived.Shelf.SlSortCmp.Insertion1
import Derived.Shelf.SlSortCmp.Median1
import Derived.Shelf.SlSortCmp.Pivot1
import Derived.Shelf.SlSortCmp.ReverseRange1
import Derived.Shelf.SlSortCmp.PartialInsertion1
import Derived.Shelf.SlSortCmp.PartitionEqual1
import Derived.Shelf.SlSortCmp.Partition1
import Derived.Shelf.SlSortCmp.Pdq1
import Derived.Shelf.SlSortCmp.Whole1
import Derived.Test.YtokfkobhdjbciaaDoorProg
import Derived.WalkKit
import Derived.Deep.DeepFit
import Derived.Lib.OthersKept
import Derived.Lib.RuneCountTail
import Derived.Lib.LaidU8
import Derived.MakeChecks
import Derived.ProofKit
import Derived.OpenShut
import Derived.Deep.DeepHandedRow
import Derived.Deep.AppendLies
import Derived.Deep.OwnRows
import Derived.Laws.AppendOwnNone
import Derived.Deep.QuietTactic
import Derived.BigQuiet
import Derived.Deep.RegionWith
import Derived.Laws.DeepStrings4
import Derived.Deep.Slices
import Derived.SizedLaws
import Derived.Below
import Derived.Defers
import Derived.Lib.QuietBelow
import Derived.StillTail
import Derived.Deep.RegionLaw
import Derived.Laws.ResultCell
import Derived.Test.YtokfkobhdjbciaaDoorRows
import Derived.Test.YtokfkobhdjbciaaDoorQ01
import Derived.Test.YtokfkobhdjbciaaDoorQ02
import Derived.Test.YtokfkobhdjbciaaDoorQ03
import Derived.Test.YtokfkobhdjbciaaDoorQ04
import Derived.Test.YtokfkobhdjbciaaDoorQ05
import Derived.Test.YtokfkobhdjbciaaDoorQ06
import Derived.Test.YtokfkobhdjbciaaDoorQ07
import Derived.Test.YtokfkobhdjbciaaDoorQ08
import Derived.Test.YtokfkobhdjbciaaDoorQ09
import Derived.Test.YtokfkobhdjbciaaDoorQ10
import Derived.Test.YtokfkobhdjbciaaDoorQ11
import Derived.Test.YtokfkobhdjbciaaDoorQ12
import Derived.Test.YtokfkobhdjbciaaDoorQ13
import Derived.Test.YtokfkobhdjbciaaDoorQ14
import Derived.Test.YtokfkobhdjbciaaDoorQ15
import Derived.Test.YtokfkobhdjbciaaDoorQ16
import Derived.Test.YtokfkobhdjbciaaDoorQ17
import Derived.Test.YtokfkobhdjbciaaDoorQ18
import Derived.Test.YtokfkobhdjbciaaDoorQ19
import Derived.Test.YtokfkobhdjbciaaDoorQ20
import Derived.Test.YtokfkobhdjbciaaDoorQ21
set_option linter.unusedSimpArgs false
set_option linter.unusedVariables false
namespace Go.Proofs.YtokfkobhdjbciaaDoor
open Go.RowKit Go.Lib Go.Sort

structure SldX (p : Prop) : Prop where
  out : p
theorem five_parts {t : Tm} (h : Five t) : ∀ q ∈ partsT t, Five q := by
  cases t <;> simp [partsT, Five] at h ⊢ <;> simp_all
theorem five_eq (t : Tm) (h : Five t) (w : World) : (binOp .eql 45 (tv t) .nilIface).run Tryd.prog w = .ok (.bool false) w := by
  cases t with
  | lit => kernel_rfl
  | var => kernel_rfl
  | un => kernel_rfl
  | bin => kernel_rfl
  | ifs => kernel_rfl
  | _ => exact h.elim
theorem five_gd (t : Tm) (h : Five t) (w : World) : (eqGuard .eql 45 (.tmp 83) (.const .nilIface) (tv t) .nilIface).run Tryd.prog w = .ok () w := by
  cases t with
  | lit => kernel_rfl
  | var => kernel_rfl
  | un => kernel_rfl
  | bin => kernel_rfl
  | ifs => kernel_rfl
  | _ => exact h.elim
theorem partsAt_below {w w' : World} {g : Nat} {t : Tm} (h : PartsAt w g t) (hb : Below w.heap.size w w') : PartsAt w' g t := by
  rcases h with h | h
  · exact .inl h
  · exact .inr ((hb.block _ (lt_of_block h)).trans h)
/-- The room, its list handed out. -/
structure RmX (W : World) (R fb fc : Nat) (l : List Nd) (q : List (Nd × Value)) (base : Nat) : Prop where
  rd : ∃ wa wc fb' fc' ka kc, RoomRd W R l wa wc fb' fc' ka kc
  c : ∃ wa wc vk, W.heap[R]? = some (.cells #[.slice wa l.length wc, .slice (some ⟨fb, 0, none⟩) (l.length + 7) fc, vk] 103 (0, 0))
  b : l.length + 7 ≤ fc ∧ fc ≤ maxLen
  lt : R < W.heap.size
  own : OwnP W base (.slice (some ⟨fb, 0, none⟩) l.length fc) q
  ap : KdAp q
  nodes : q.map (·.1) = l
theorem RmX.below {W W' : World} {R fb fc : Nat} {l : List Nd} {q : List (Nd × Value)} {base : Nat} (h : RmX W R fb fc l q base) (hb : Below W.heap.size W W') : RmX W' R fb fc l q base := by
  obtain ⟨wa, wc, fb', fc', ka, kc, h1⟩ := h.rd
  obtain ⟨xa, xc, vk, h2⟩ := h.c
  exact ⟨⟨wa, wc, fb', fc', ka, kc, h1.below hb⟩, ⟨xa, xc, vk, (hb.block _ h.lt).trans h2⟩, h.b, Nat.lt_of_lt_of_le h.lt hb.size, h.own.below hb, h.ap, h.nodes⟩
theorem RoomOk.x {w w' : World} {R : Nat} {l : List Nd} {vw vf vk : Value} {p : List (Nd × Value)} {ks : List Value} (h : RoomOk w R l vw vf vk p ks w') : ∃ fb fc, RmX w' R fb fc l (p.take l.length) w.heap.size := by
  obtain ⟨fb, fc, hv, h1, h2, h3⟩ := h.exp
  obtain ⟨q, hq1, hq2⟩ := h.was
  obtain ⟨wa, wc, hw⟩ := rw_form hq2.row
  have hql : q.length = l.length := by have := congrArg List.length hq1; simpa using this
  rw [hql] at hw
  have hb : l.length + 7 ≤ fc ∧ fc ≤ maxLen := by
    have hpl : p.length = l.length + 7 := by have := congrArg List.length h.nodes; simp [exL_len] at this; exact this
    have hr := h.full.row
    rw [hv, hpl] at hr
    rcases hr.2 with ⟨e, _⟩ | ⟨g, cap, cur, e, _, _, h5, h6, _⟩
    · cases e
    · cases e; exact ⟨h5, h6⟩
  refine ⟨fb, fc, h.rd, ⟨wa, wc, vk, by rw [h.blk, hw, hv]⟩, hb, lt_of_block h.blk, ownP_low h1 (by have := h.lo; omega), kdAp_take h.ap _, h2⟩
theorem RmX.expr {W : World} {R fb fc : Nat} {l : List Nd} {q : List (Nd × Value)} {base : Nat} (h : RmX W R fb fc l q base) : Calls Tryd.prog 26 #[.pointer (some ⟨R, 0, none⟩)] W fun e w' => e = .returned (.slice (some ⟨fb, 0, none⟩) l.length fc) ∧ Below W.heap.size W w' := by
  obtain ⟨wa, wc, vk, h2⟩ := h.c
  exact roomExpr' W R fb fc l.length wc wa (.slice none 0 0) (by simp [World.cell?, h2]) (by simp [World.cell?, h2]) h.b.1 h.b.2
theorem RmX.exprK {W W' : World} {R fb fc : Nat} {l : List Nd} {q : List (Nd × Value)} {base : Nat} (h : RmX W R fb fc l q base) (k : BkK W W') : Calls Tryd.prog 26 #[.pointer (some ⟨R, 0, none⟩)] W' fun e w' => e = .returned (.slice (some ⟨fb, 0, none⟩) l.length fc) ∧ Below W'.heap.size W' w' := by
  obtain ⟨wa, wc, vk, h2⟩ := h.c
  have h3 := k R _ h2 (fun cs e fr he => by cases he; exact ⟨by decide, by decide, by decide⟩)
  exact roomExpr' W' R fb fc l.length wc wa (.slice none 0 0) (by simp [World.cell?, h3]) (by simp [World.cell?, h3]) h.b.1 h.b.2
theorem BkH.below {w w' : World} {base Q : Nat} {hn hi : Value} {VN VI : List Value} (h : BkH w base Q hn hi VN VI) (hb : Below w.heap.size w w') : BkH w' base Q hn hi VN VI := ⟨(hb.block _ (lt_of_block h.blk)).trans h.blk, ownsRow_below h.hN hb, ownsRow_below h.hI hb⟩
theorem RmX.read {W : World} {R fb fc : Nat} {l : List Nd} {q : List (Nd × Value)} {base : Nat} (h : RmX W R fb fc l q base) : Rd W (some ⟨fb, 0, none⟩) fc l := Nodes_of_own ⟨q, h.nodes, h.own⟩ (Nat.le_refl _)
theorem RmX.kept {W : World} {R fb fc : Nat} {l : List Nd} {q : List (Nd × Value)} {base : Nat} (h : RmX W R fb fc l q base) (hF : FitR l) : Calls Tryd.prog 27 #[.pointer (some ⟨R, 0, none⟩)] W fun e w' => e = .returned (.bool true) ∧ Below W.heap.size W w' := by
  obtain ⟨wa, wc, fb', fc', ka, kc, h1⟩ := h.rd
  exact kept_any h1 hF

def anR (A : List (Value × List (Nd × Value))) : List Rw := A.map fun a => (a.1, a.2.length, ndCells a.2)
def anK (A : List (Value × List (Nd × Value))) : List Rw := A.flatMap fun a => kR a.2
theorem bk3 (W : World) (A B : Obj) (cs : Array Value) (T : TypeId) : (((W.alloc A).alloc B).alloc (.cells cs T)).drew.heap[W.heap.size + 1 + 1]? = some (.cells cs T (0, 0)) := by
  have := Deep.blk_alloc_new ((W.alloc A).alloc B) (.cells cs T)
  simp only [World.size_alloc] at this
  exact this
theorem bp3 {w6 W : World} (h : Below w6.heap.size w6 W) (A B C : Obj) : Below w6.heap.size w6 (((W.alloc A).alloc B).alloc C).drew := by
  have hs := h.size
  exact (((h.alloc hs _).alloc (by rw [World.size_alloc]; omega) _).alloc (by rw [World.size_alloc, World.size_alloc]; omega) _).drew
theorem RwL.perm {w : World} {base : Nat} {e : TypeId} {s : Nat} {R R' : List Rw} (h : RwL w base e s R) (hp : R.Perm R') : RwL w base e s R' :=
  ⟨fun r hr => h.own r (hp.mem_iff.2 hr), (List.Perm.pairwise_iff (fun {x y} hxy b h1 h2 => hxy b h2 h1) hp).1 h.ap⟩
theorem snd_form {l : List Nd} {fr : List Nat} (h : begL l = some fr) : ∀ x ∈ l, formB x = true := by
  have key : ∀ (l : List Nd) (fr0 : List Nat) (r : List Nat), begR fr0 l = some r → ∀ x ∈ l, formB x = true := by
    intro l
    induction l with
    | nil => intro _ _ _ x hx; cases hx
    | cons y l ih =>
      intro fr0 r h x hx
      unfold begR at h
      cases hs : stp fr0 y with
      | none => rw [hs] at h; cases h
      | some f1 =>
        rw [hs] at h
        rcases List.mem_cons.1 hx with rfl | hx
        · unfold stp at hs
          split at hs
          · assumption
          · cases hs
        · exact ih f1 r h x hx
  unfold begL at h
  split at h
  · cases h
  · cases hr : begR [] l with
    | none => rw [hr] at h; cases h
    | some r => exact key l [] r hr

set_option maxRecDepth 20000 in
set_option maxHeartbeats 4000000 in
theorem boxKeeps_none (w : World) (ao : Option Addr) (cap : Nat) (l : List Nd) (hT : SpanCells w) (hR : Rd w ao cap l) (hF : FitX l) (h : begL l = none) :
    Calls Tryd.prog 5 #[.slice ao l.length cap] w fun e w' => e = .returned (.bool true) ∧ Below w.heap.size w w' := by
  have hFR : FitR l := ⟨hF.len, hF.kids, hF.name⟩
  have HR : SldX (∀ W, Below w.heap.size w W → Rd W ao cap l) := ⟨fun W hW => hR.below hW hW.size⟩
  have HT : SldX (∀ W, Below w.heap.size w W → SpanCells W) := ⟨fun W hW => hT.below hW⟩
  have CB : SldX (∀ V ao cap, SpanCells V → Rd V ao cap l → Calls Tryd.prog 25 #[.slice ao l.length cap] V fun e w' => e = .returned (.tuple #[.nilIface, .int .i64 1]) ∧ Below V.heap.size V w') := ⟨fun V ao cap hT hR => box_none hT hR h⟩
  have CK : SldX (∀ W, Below w.heap.size w W → Calls Tryd.prog 9 #[.slice ao l.length cap] W fun e w' => e = .returned (.int .i64 1) ∧ Below W.heap.size W w') := ⟨fun W hW => rchkR (HR.out W hW) hF.fit 1 (by unfold chkE sndB; rw [h]; rfl)⟩
  have CR : SldX (∀ W, Below w.heap.size w W → Calls Tryd.prog 24 #[.slice ao l.length cap] W fun e w' => ∃ R fb fc q, e = .returned (.pointer (some ⟨R, 0, none⟩)) ∧ RmX w' R fb fc l q W.heap.size ∧ Below W.heap.size W w') := ⟨fun W hW => (roomy_any ao cap l W (HR.out W hW) hFR).mono fun e w' ⟨R, vw, vf, vk, p, ks, he, hr⟩ => by obtain ⟨fb, fc, hx⟩ := hr.x; exact ⟨R, fb, fc, _, he, hx, hr.below⟩⟩
  have HFR : SldX (FitR l) := ⟨hFR⟩
  clear hT hR hF h hFR
  go_enter Tryd.func5, Tryd.ntmps5
  go_wp2_with fail
  refine (awk3_any _).mono ?_
  rintro e w1 ⟨rfl, hq⟩
  have B1 : SldX (Below w.heap.size w w1) := ⟨hq⟩
  clear hq
  go_wp2_with fail
  refine (CR.out w1 B1.out).mono ?_
  rintro e w2 ⟨R, fb, fc, q, rfl, hx, hq⟩
  have B2 : SldX (Below w.heap.size w w2) := ⟨B1.out.trans (hq.mono B1.out.size)⟩
  have X2 : SldX (RmX w2 R fb fc l q w1.heap.size) := ⟨hx⟩
  clear hx hq
  go_wp2_with fail
  refine X2.out.expr.mono ?_
  rintro e w3 ⟨rfl, hq⟩
  have B3 : SldX (Below w.heap.size w w3) := ⟨B2.out.trans (hq.mono B2.out.size)⟩
  have X3 : SldX (RmX w3 R fb fc l q w1.heap.size) := ⟨X2.out.below hq⟩
  clear hq X2
  go_wp2_with fail
  refine (CB.out w3 _ _ (HT.out w3 B3.out) X3.out.read).mono ?_
  rintro e w4 ⟨rfl, hq⟩
  have B4 : SldX (Below w.heap.size w w4) := ⟨B3.out.trans (hq.mono B3.out.size)⟩
  have X4 : SldX (RmX w4 R fb fc l q w1.heap.size) := ⟨X3.out.below hq⟩
  clear hq X3
  go_wp2_with fail
  refine (CK.out w4 B4.out).mono ?_
  rintro e w5 ⟨rfl, hq⟩
  have B5 : SldX (Below w.heap.size w w5) := ⟨B4.out.trans (hq.mono B4.out.size)⟩
  have X5 : SldX (RmX w5 R fb fc l q w1.heap.size) := ⟨X4.out.below hq⟩
  clear hq X4
  go_wp2_with fail
  refine (X5.out.kept HFR.out).mono ?_
  rintro e w6 ⟨rfl, hq⟩
  have B6 : SldX (Below w.heap.size w w6) := ⟨B5.out.trans (hq.mono B5.out.size)⟩
  clear hq
  go_wp2_with fail
  go_ret
  exact ⟨rfl, B6.out⟩
set_option maxRecDepth 20000 in
set_option maxHeartbeats 16000000 in
theorem boxKeeps_some (w : World) (ao : Option Addr) (cap : Nat) (l : List Nd) (fr : List Nat) (hT : SpanCells w) (hR : Rd w ao cap l) (hF : FitX l) (h : begL l = some fr) :
    Calls Tryd.prog 5 #[.slice ao l.length cap] w fun e w' => e = .returned (.bool true) ∧ Below w.heap.size w w' := by
  have hFR : FitR l := ⟨hF.len, hF.kids, hF.name⟩
  have hl0 := (begL_some h).1
  have h64 := (begL_some h).2.1
  have hb12 := hR.bound
  unfold maxLen at hb12
  obtain ⟨hbd1, hbd2⟩ := hb12
  have HK3 : SldX (∀ x ∈ l, x.kids.length ≤ 3) := ⟨fun x hx => formB_kids (snd_form h x hx)⟩
  have hFv : Five (tmA l (l.length - 1)) := five_tm h (by omega)
  have hWt : wantT (tmA l (l.length - 1)) = l ∧ sndB (flatT (tmA l (l.length - 1))) = true := by
    have e := flat_whole h
    have s : sndB (flatT (tmA l (l.length - 1))) = true := by rw [e]; simp [sndB, h]
    exact ⟨by unfold wantT; rw [if_pos s, e], s⟩
  have HR : SldX (∀ W, Below w.heap.size w W → Rd W ao cap l) := ⟨fun W hW => hR.below hW hW.size⟩
  have HT : SldX (∀ W, Below w.heap.size w W → SpanCells W) := ⟨fun W hW => hT.below hW⟩
  obtain ⟨t, ht⟩ : ∃ t, tmA l (l.length - 1) = t := ⟨_, rfl⟩
  have CB : SldX (∀ V ao cap, SpanCells V → Rd V ao cap l → Calls Tryd.prog 25 #[.slice ao l.length cap] V fun e w' => e = .returned (.tuple #[tv t, .int .i64 0]) ∧ Below V.heap.size V w') := ⟨fun V ao cap hT hR => by
    have := box_some hT hR h
    rw [ht] at this; exact this⟩
  rw [ht] at hFv hWt
  have CP : SldX (∀ V, SpanCells V → Calls Tryd.prog 23 #[tv t] V fun e w' => ∃ ao cap q, e = .returned (.tuple #[.slice ao l.length cap, .int .i64 0]) ∧ (q.map (·.1) = l ∧ OwnP w' V.heap.size (.slice ao l.length cap) q ∧ KdAp q) ∧ Below V.heap.size V w') := ⟨fun V hT => (open_own t (five_oth hFv) V hT).mono fun e w' ⟨v, ns, he, hN, hm, hb⟩ => by
    rw [hWt.1] at hm
    rw [hWt.2] at he
    obtain ⟨ao', cap', hv⟩ := rw_form hN.1.row
    have hnl : ns.length = l.length := by have := congrArg List.length hm; simpa using this
    rw [hnl] at hv
    subst hv
    exact ⟨ao', cap', ns, he, ⟨hm, hN.1, hN.2⟩, hb⟩⟩
  have CPa : SldX (∀ V, Calls Tryd.prog 28 #[tv t] V fun e w' => ∃ g, e = .returned (pvT g t) ∧ V.heap.size ≤ g ∧ PartsAt w' g t ∧ Below V.heap.size V w') := ⟨fun V => parts_any t (five_oth hFv).oth V⟩
  have HFP : SldX (∀ q ∈ partsT t, Five q) := ⟨five_parts hFv⟩
  have CR : SldX (∀ W, Below w.heap.size w W → Calls Tryd.prog 24 #[.slice ao l.length cap] W fun e w' => ∃ R fb fc q, e = .returned (.pointer (some ⟨R, 0, none⟩)) ∧ RmX w' R fb fc l q W.heap.size ∧ Below W.heap.size W w') := ⟨fun W hW => (roomy_any ao cap l W (HR.out W hW) hFR).mono fun e w' ⟨R, vw, vf, vk, p, ks, he, hr⟩ => by obtain ⟨fb, fc, hx⟩ := hr.x; exact ⟨R, fb, fc, _, he, hx, hr.below⟩⟩
  have HFR : SldX (FitR l) := ⟨hFR⟩
  obtain ⟨v, hv⟩ : ∃ v, tv t = v := ⟨_, rfl⟩
  rw [hv] at CB CP CPa
  obtain ⟨NP, hNP⟩ : ∃ n, (partsT t).length = n := ⟨_, rfl⟩
  have HNP : SldX ((partsT t).length = NP) := ⟨hNP⟩
  have hNP3 : NP ≤ 3 := by rw [← hNP]; cases t <;> simp [partsT]
  clear hT hR hF h hFR hFv hWt ht hv hNP
  go_enter Tryd.func5, Tryd.ntmps5
  go_wp2_with fail
  refine (awk3_any _).mono ?_
  rintro e w1 ⟨rfl, hq⟩
  have B1 : SldX (Below w.heap.size w w1) := ⟨hq⟩
  clear hq
  go_wp2_with fail
  refine (CR.out w1 B1.out).mono ?_
  rintro e w2 ⟨R, fb, fc, q, rfl, hx, hq⟩
  have B2 : SldX (Below w.heap.size w w2) := ⟨B1.out.trans (hq.mono B1.out.size)⟩
  have X2 : SldX (RmX w2 R fb fc l q w1.heap.size) := ⟨hx⟩
  have A2 : SldX (Anss w2 w1.heap.size w2.heap.size ([] ++ [(.slice (some ⟨fb, 0, none⟩) l.length fc, q)])) := ⟨(Anss.nil w2 _).snoc hx.own hx.ap hq.size⟩
  have M0 : SldX (q.map (·.1) = l) := ⟨hx.nodes⟩
  clear hx hq
  go_wp2_with fail
  refine X2.out.expr.mono ?_
  rintro e w3 ⟨rfl, hq⟩
  have B3 : SldX (Below w.heap.size w w3) := ⟨B2.out.trans (hq.mono B2.out.size)⟩
  have X3 : SldX (RmX w3 R fb fc l q w1.heap.size) := ⟨X2.out.below hq⟩
  have A3 : SldX (Anss w3 w1.heap.size w3.heap.size ([] ++ [(.slice (some ⟨fb, 0, none⟩) l.length fc, q)])) := ⟨(A2.out.below hq).wide hq.size⟩
  clear hq X2 A2
  go_wp2_with fail
  refine (CB.out w3 _ _ (HT.out w3 B3.out) X3.out.read).mono ?_
  rintro e w4 ⟨rfl, hq⟩
  have B4 : SldX (Below w.heap.size w w4) := ⟨B3.out.trans (hq.mono B3.out.size)⟩
  have X4 : SldX (RmX w4 R fb fc l q w1.heap.size) := ⟨X3.out.below hq⟩
  have A4 : SldX (Anss w4 w1.heap.size w4.heap.size ([] ++ [(.slice (some ⟨fb, 0, none⟩) l.length fc, q)])) := ⟨(A3.out.below hq).wide hq.size⟩
  clear hq X3 A3
  go_wp2_with fail
  refine (CP.out w4 (HT.out w4 B4.out)).mono ?_
  rintro e w5 ⟨ao1, cp1, q1, rfl, hq1, hq⟩
  have B5 : SldX (Below w.heap.size w w5) := ⟨B4.out.trans (hq.mono B4.out.size)⟩
  have X5 : SldX (RmX w5 R fb fc l q w1.heap.size) := ⟨X4.out.below hq⟩
  have A5 : SldX (Anss w5 w1.heap.size w5.heap.size ([] ++ [(.slice (some ⟨fb, 0, none⟩) l.length fc, q)] ++ [(.slice ao1 l.length cp1, q1)])) := ⟨(A4.out.below hq).snoc hq1.2.1 hq1.2.2 hq.size⟩
  have M1 : SldX (q1.map (·.1) = l) := ⟨hq1.1⟩
  clear hq X4 A4 hq1
  go_wp2_with fail
  refine (CP.out w5 (HT.out w5 B5.out)).mono ?_
  rintro e w6 ⟨ao2, cp2, q2, rfl, hq2, hq⟩
  have B6 : SldX (Below w.heap.size w w6) := ⟨B5.out.trans (hq.mono B5.out.size)⟩
  have X6 : SldX (RmX w6 R fb fc l q w1.heap.size) := ⟨X5.out.below hq⟩
  have A6 : SldX (Anss w6 w1.heap.size w6.heap.size ([] ++ [(.slice (some ⟨fb, 0, none⟩) l.length fc, q)] ++ [(.slice ao1 l.length cp1, q1)] ++ [(.slice ao2 l.length cp2, q2)])) := ⟨(A5.out.below hq).snoc hq2.2.1 hq2.2.2 hq.size⟩
  have M2 : SldX (q2.map (·.1) = l) := ⟨hq2.1⟩
  have Z6 : SldX (w1.heap.size ≤ w6.heap.size) := ⟨A6.out.le⟩
  clear hq X5 A5 hq2
  go_wp2_with fail
  refine (CPa.out w6).mono ?_
  rintro e w7 ⟨g1, rfl, hg1, hp1, hq⟩
  have D7 : SldX (Below w6.heap.size w6 w7) := ⟨hq⟩
  clear hq
  go_wp2_with fail
  refine (CPa.out w7).mono ?_
  rintro e w8 ⟨g2, rfl, hg2, hp2, hq⟩
  have D8 : SldX (Below w6.heap.size w6 w8) := ⟨D7.out.trans (hq.mono D7.out.size)⟩
  have HP : SldX (PartsAt w8 g1 t ∧ PartsAt w8 g2 t) := ⟨by
    refine ⟨?_, hp2⟩
    rcases hp1 with h | h
    · exact .inl h
    · exact .inr ((hq.block _ (lt_of_block h)).trans h)⟩
  have hg12 : NP = 0 ∨ g1 ≠ g2 := by
    rcases hp1 with h | h
    · left; have := HNP.out; rw [h] at this; simpa using this.symm
    · right; have := lt_of_block h; omega
  clear hq hp1 hp2 D7
  have RD : SldX (∀ W, Below w6.heap.size w6 W → Rd W ao1 cp1 l ∧ Rd W ao2 cp2 l ∧ Rd W ao cap l) := ⟨fun W hW => by
    have hA := A6.out.below hW
    exact ⟨Nodes_of_own ⟨q1, M1.out, hA.ownP (a := (.slice ao1 l.length cp1, q1)) (by simp)⟩ (Nat.le_refl _), Nodes_of_own ⟨q2, M2.out, hA.ownP (a := (.slice ao2 l.length cp2, q2)) (by simp)⟩ (Nat.le_refl _), HR.out W (B6.out.trans (hW.mono B6.out.size))⟩⟩
  obtain ⟨pv1, hpv1⟩ : ∃ pv, pvT g1 t = pv := ⟨_, rfl⟩
  obtain ⟨pv2, hpv2⟩ : ∃ pv, pvT g2 t = pv := ⟨_, rfl⟩
  rw [hpv1, hpv2]
  have hpf : (NP = 0 ∧ pv1 = .slice none 0 0 ∧ pv2 = .slice none 0 0) ∨ (0 < NP ∧ pv1 = .slice (some ⟨g1, 0, none⟩) NP NP ∧ pv2 = .slice (some ⟨g2, 0, none⟩) NP NP) := by
    have hn := HNP.out
    rcases Nat.eq_zero_or_pos NP with h0 | h0
    · exact .inl ⟨h0, by rw [← hpv1]; unfold pvT; rw [if_pos (by omega)], by rw [← hpv2]; unfold pvT; rw [if_pos (by omega)]⟩
    · exact .inr ⟨h0, by rw [← hpv1]; unfold pvT; rw [if_neg (by omega), hn], by rw [← hpv2]; unfold pvT; rw [if_neg (by omega), hn]⟩
  clear hpv1 hpv2
  have CBK : SldX (∀ (wb : World) (Q : Nat), Below w6.heap.size w6 wb → wb.heap[Q]? = some (.cells #[.slice none 0 0, .slice none 0 0, .slice none 0 0, .slice none 0 0, .slice none 0 0, .slice none 0 0] 61 (0, 0)) → w6.heap.size ≤ Q → Calls Tryd.prog 29 #[.pointer (some ⟨Q, 0, none⟩), .slice ao1 l.length cp1] wb fun e w' => e = .returned (.tuple #[]) ∧
      ∃ hn hi wb0, BkH w' w1.heap.size Q hn hi ([] ++ [.slice ao1 l.length cp1]) ([] ++ q1.map (·.2)) ∧ Below w1.heap.size wb0 w' ∧ BkK wb0 w' ∧ Below w6.heap.size w6 wb0 ∧ w1.heap.size ≤ Q) := ⟨fun wb Q h1 h2 h3 => by
    have hq1l : q1.length = l.length := by have := congrArg List.length M1.out; simpa using this
    have hz6 := Z6.out
    have hP : OwnP wb w1.heap.size (.slice ao1 q1.length cp1) q1 := by rw [hq1l]; exact (A6.out.below h1).ownP (a := (.slice ao1 l.length cp1, q1)) (by simp)
    have := bookExpr_any wb w1.heap.size Q (.slice none 0 0) (.slice none 0 0) [] [] ao1 cp1 q1 ⟨h2, World.ownsRow_nil _ _ _ _, World.ownsRow_nil _ _ _ _⟩ (by omega) hP (by simp) (by simp) (by omega)
    rw [hq1l] at this
    exact this.mono fun e w' ⟨he, hn, hi, g1, g2, g3⟩ => ⟨he, hn, hi, wb, g1, g2, g3, h1, by omega⟩⟩
  rcases hpf with ⟨h0, rfl, rfl⟩ | ⟨h0, rfl, rfl⟩
  · subst h0
    go_wp2_with fail
    refine (sameR (RD.out w8 D8.out).1 (RD.out w8 D8.out).2.2 true (by simp)).mono ?_
    rintro e w9 ⟨rfl, hq⟩
    have D9 : SldX (Below w6.heap.size w6 w9) := ⟨D8.out.trans (hq.mono D8.out.size)⟩
    have HP9 : SldX (PartsAt w9 g1 t ∧ PartsAt w9 g2 t) := ⟨partsAt_below HP.out.1 hq, partsAt_below HP.out.2 hq⟩
    clear hq HP
    go_wp2_with fail
    refine (sameR (RD.out w9 D9.out).2.1 (RD.out w9 D9.out).2.2 true (by simp)).mono ?_
    rintro e wa ⟨rfl, hq⟩
    have Da : SldX (Below w6.heap.size w6 wa) := ⟨D9.out.trans (hq.mono D9.out.size)⟩
    have HPa : SldX (PartsAt wa g1 t ∧ PartsAt wa g2 t) := ⟨partsAt_below HP9.out.1 hq, partsAt_below HP9.out.2 hq⟩
    clear hq HP9
    have CKp : SldX (Calls Tryd.prog 27 #[.pointer (some ⟨R, 0, none⟩)] wa fun e w' => e = .returned (.bool true) ∧ Below wa.heap.size wa w') := ⟨(X6.out.below Da.out).kept HFR.out⟩
    go_wp2_with fail
    refine CKp.out.mono ?_
    rintro e wk ⟨rfl, hq⟩
    have Dk : SldX (Below w6.heap.size w6 wk) := ⟨Da.out.trans (hq.mono Da.out.size)⟩
    have HPk : SldX (PartsAt wk g1 t ∧ PartsAt wk g2 t) := ⟨partsAt_below HPa.out.1 hq, partsAt_below HPa.out.2 hq⟩
    clear hq HPa CKp
    obtain ⟨iT, hiT, ht0, ht1, ht2⟩ := info_parts Tryd.infoTerm
    go_wp2_with fail
    go_loopw [12] (fun i wr => i = .int .i64 0 ∧ wr = wk) (fun _ _ => 0)
    case atStart => exact ⟨rfl, rfl⟩
    case round =>
      obtain ⟨rfl, rfl⟩ := hrel
      have HBr : SldX (Below w6.heap.size w6 wr) := ⟨Dk.out⟩
      go_wp2_with fail
      refine (CBK.out _ _ (bp3 HBr.out _ _ _) (bk3 _ _ _ _ _) (by have := HBr.out.size; omega)).mono ?_
      rintro e wd ⟨rfl, hn1', hi1, wb, hbk, hbl, hkk, hDb, hQ1⟩
      have Db : SldX (Below w6.heap.size w6 wb) := ⟨hDb⟩
      have HQ1 : SldX (w1.heap.size ≤ wr.heap.size + 1 + 1) := ⟨hQ1⟩
      have Ab : SldX (Anss wb w1.heap.size w6.heap.size ([] ++ [(.slice (some ⟨fb, 0, none⟩) l.length fc, q)] ++ [(.slice ao1 l.length cp1, q1)] ++ [(.slice ao2 l.length cp2, q2)])) := ⟨A6.out.below Db.out⟩
      have Xb : SldX (RmX wb R fb fc l q w1.heap.size) := ⟨X6.out.below Db.out⟩
      have HL : SldX (q.length = l.length ∧ q1.length = l.length ∧ q2.length = l.length) := ⟨by have := congrArg List.length M0.out; simpa using this, by have := congrArg List.length M1.out; simpa using this, by have := congrArg List.length M2.out; simpa using this⟩
      have P1 : SldX (OwnP wb w1.heap.size (.slice ao2 q2.length cp2) q2 ∧ OwnP wb w1.heap.size (.slice (some ⟨fb, 0, none⟩) q.length fc) q) := ⟨by
        rw [HL.out.1, HL.out.2.2]
        exact ⟨Ab.out.ownP (a := (.slice ao2 l.length cp2, q2)) (by simp), Ab.out.ownP (a := (.slice (some ⟨fb, 0, none⟩) l.length fc, q)) (by simp)⟩⟩
      have K1 : SldX (BkH wd w1.heap.size (wr.heap.size + 1 + 1) hn1' hi1 ([] ++ [.slice ao1 l.length cp1]) ([] ++ q1.map (·.2)) ∧ Below w1.heap.size wb wd ∧ BkK wb wd) := ⟨hbk, hbl, hkk⟩
      clear hbk hbl hkk hDb hQ1 CBK
      go_wp2_with fail
      have CB2 := bookExpr_any wd w1.heap.size (wr.heap.size + 1 + 1) _ _ _ _ ao2 cp2 q2 K1.out.1 HQ1.out (K1.out.2.2.ownP P1.out.1) (by simp) (by have := HL.out; simp; omega) (by have := HL.out; omega)
      rw [HL.out.2.2] at CB2
      refine CB2.mono ?_
      rintro e we ⟨rfl, hn2', hi2, hbk, hbl, hkk⟩
      have K2 : SldX (BkH we w1.heap.size (wr.heap.size + 1 + 1) hn2' hi2 ([] ++ [.slice ao1 l.length cp1] ++ [.slice ao2 l.length cp2]) ([] ++ q1.map (·.2) ++ q2.map (·.2)) ∧ Below w1.heap.size wb we ∧ BkK wb we) := ⟨hbk, K1.out.2.1.trans hbl, K1.out.2.2.trans hkk⟩
      clear CB2 hbk hbl hkk K1
      go_wp2_with fail
      refine (Xb.out.exprK K2.out.2.2).mono ?_
      rintro e wf ⟨rfl, hq⟩
      have K3 : SldX (BkH wf w1.heap.size (wr.heap.size + 1 + 1) hn2' hi2 ([] ++ [.slice ao1 l.length cp1] ++ [.slice ao2 l.length cp2]) ([] ++ q1.map (·.2) ++ q2.map (·.2)) ∧ Below w1.heap.size wb wf ∧ OwnP wf w1.heap.size (.slice (some ⟨fb, 0, none⟩) q.length fc) q ∧ RwL wf w1.heap.size 67 4 (anR ([] ++ [(.slice (some ⟨fb, 0, none⟩) l.length fc, q)] ++ [(.slice ao1 l.length cp1, q1)] ++ [(.slice ao2 l.length cp2, q2)])) ∧ RwL wf w1.heap.size 3 1 (anK ([] ++ [(.slice (some ⟨fb, 0, none⟩) l.length fc, q)] ++ [(.slice ao1 l.length cp1, q1)] ++ [(.slice ao2 l.length cp2, q2)]))) := ⟨K2.out.1.below hq, K2.out.2.1.trans (hq.mono (Nat.le_trans (Nat.le_trans Z6.out Db.out.size) K2.out.2.1.size)), (K2.out.2.2.ownP P1.out.2).below hq, (K2.out.2.2.rwl Ab.out.rows (by decide) (by decide) (by decide)).bel hq, (K2.out.2.2.rwl Ab.out.kids (by decide) (by decide) (by decide)).bel hq⟩
      clear hq K2
      go_wp2_with fail
      have CB3 := bookExpr_any wf w1.heap.size (wr.heap.size + 1 + 1) _ _ _ _ (some ⟨fb, 0, none⟩) fc q K3.out.1 HQ1.out K3.out.2.2.1 (by simp) (by have := HL.out; simp; omega) (by have := HL.out; omega)
      rw [HL.out.1] at CB3
      refine CB3.mono ?_
      rintro e wg ⟨rfl, hn3', hi3, hbk, hbl, hkk⟩
      have K4 : SldX (BkH wg w1.heap.size (wr.heap.size + 1 + 1) hn3' hi3 ([] ++ [.slice ao1 l.length cp1] ++ [.slice ao2 l.length cp2] ++ [.slice (some ⟨fb, 0, none⟩) l.length fc]) ([] ++ q1.map (·.2) ++ q2.map (·.2) ++ q.map (·.2)) ∧ Below w1.heap.size wb wg ∧ RwL wg w1.heap.size 67 4 (anR ([] ++ [(.slice (some ⟨fb, 0, none⟩) l.length fc, q)] ++ [(.slice ao1 l.length cp1, q1)] ++ [(.slice ao2 l.length cp2, q2)])) ∧ RwL wg w1.heap.size 3 1 (anK ([] ++ [(.slice (some ⟨fb, 0, none⟩) l.length fc, q)] ++ [(.slice ao1 l.length cp1, q1)] ++ [(.slice ao2 l.length cp2, q2)]))) := ⟨hbk, K3.out.2.1.trans hbl, hkk.rwl K3.out.2.2.2.1 (by decide) (by decide) (by decide), hkk.rwl K3.out.2.2.2.2 (by decide) (by decide) (by decide)⟩
      have Bg : SldX (Below w.heap.size w wg) := ⟨B6.out.trans ((Db.out.mono B6.out.size).trans (K4.out.2.1.mono B1.out.size))⟩
      clear CB3 hbk hbl hkk K3
      go_wp2_with fail
      refine (CP.out wg (HT.out wg Bg.out)).mono ?_
      rintro e wh ⟨ao5, cp5, q5, rfl, hq5, hq⟩
      have Bh : SldX (Below w.heap.size w wh) := ⟨Bg.out.trans (hq.mono Bg.out.size)⟩
      have K5 : SldX (BkH wh w1.heap.size (wr.heap.size + 1 + 1) hn3' hi3 ([] ++ [.slice ao1 l.length cp1] ++ [.slice ao2 l.length cp2] ++ [.slice (some ⟨fb, 0, none⟩) l.length fc]) ([] ++ q1.map (·.2) ++ q2.map (·.2) ++ q.map (·.2)) ∧ w1.heap.size ≤ wh.heap.size ∧ RwL wh w1.heap.size 67 4 (anR ([] ++ [(.slice (some ⟨fb, 0, none⟩) l.length fc, q)] ++ [(.slice ao1 l.length cp1, q1)] ++ [(.slice ao2 l.length cp2, q2)])) ∧ RwL wh w1.heap.size 3 1 (anK ([] ++ [(.slice (some ⟨fb, 0, none⟩) l.length fc, q)] ++ [(.slice ao1 l.length cp1, q1)] ++ [(.slice ao2 l.length cp2, q2)]))) := ⟨K4.out.1.below hq, Nat.le_trans (Nat.le_trans (Nat.le_trans Z6.out Db.out.size) K4.out.2.1.size) hq.size, K4.out.2.2.1.bel hq, K4.out.2.2.2.bel hq⟩
      have CSM : SldX (Calls Tryd.prog 12 #[.slice ao5 l.length cp5, .slice ao l.length cap] wh fun e w' => e = .returned (.bool true) ∧ Below wh.heap.size wh w') := ⟨sameR (Nodes_of_own ⟨q5, hq5.1, hq5.2.1⟩ (Nat.le_refl _)) (HR.out wh Bh.out) true (by simp)⟩
      clear hq hq5 K4 Bg
      go_wp2_with fail
      refine CSM.out.mono ?_
      rintro e wi ⟨rfl, hq⟩
      have Bi : SldX (Below w.heap.size w wi) := ⟨Bh.out.trans (hq.mono Bh.out.size)⟩
      have K6 : SldX (BkH wi w1.heap.size (wr.heap.size + 1 + 1) hn3' hi3 ([] ++ [.slice ao1 l.length cp1] ++ [.slice ao2 l.length cp2] ++ [.slice (some ⟨fb, 0, none⟩) l.length fc]) ([] ++ q1.map (·.2) ++ q2.map (·.2) ++ q.map (·.2)) ∧ w1.heap.size ≤ wi.heap.size ∧ RwL wi w1.heap.size 67 4 (anR ([] ++ [(.slice (some ⟨fb, 0, none⟩) l.length fc, q)] ++ [(.slice ao1 l.length cp1, q1)] ++ [(.slice ao2 l.length cp2, q2)])) ∧ RwL wi w1.heap.size 3 1 (anK ([] ++ [(.slice (some ⟨fb, 0, none⟩) l.length fc, q)] ++ [(.slice ao1 l.length cp1, q1)] ++ [(.slice ao2 l.length cp2, q2)]))) := ⟨K5.out.1.below hq, Nat.le_trans K5.out.2.1 hq.size, K5.out.2.2.1.bel hq, K5.out.2.2.2.bel hq⟩
      clear hq K5 CSM
      have CAP : SldX (Calls Tryd.prog 30 #[.pointer (some ⟨(wr.heap.size + 1 + 1), 0, none⟩)] wi fun e W' => e = .returned (.bool true) ∧ Below w1.heap.size wi W') := ⟨by
        have hkr : ∀ q' : List (Nd × Value), q'.map (·.1) = l → ∀ r ∈ kR q', r.2.1 ≤ 100000 := fun q' hq r hr => by
          obtain ⟨y, hy, rfl⟩ := List.mem_map.1 hr
          have hm := List.mem_map_of_mem (f := (·.1)) hy
          show y.1.kids.length ≤ 100000
          rw [hq] at hm; have := HK3.out _ hm; omega
        have hN := HL.out
        refine (bookIN_any wi w1.heap.size (wr.heap.size + 1 + 1) hn3' hi3 [(.slice ao1 l.length cp1, q1.length, ndCells q1), (.slice ao2 l.length cp2, q2.length, ndCells q2), (.slice (some ⟨fb, 0, none⟩) l.length fc, q.length, ndCells q)] (kR q1 ++ kR q2 ++ kR q)
          K6.out.2.1 ?_ ?_ ?_ ?_ (by simp) ?_ ?_).mono fun e w' h => ⟨h.1, h.2.1⟩
        · have := K6.out.1
          simp only [List.map_append, List.map_cons, List.map_nil, kR_v]
          exact this
        · refine RwL.perm K6.out.2.2.1 ?_
          unfold anR
          simp only [List.nil_append, List.cons_append, List.map_cons, List.map_nil]
          exact (List.perm_append_comm (l₁ := [((.slice (some ⟨fb, 0, none⟩) l.length fc, q.length, ndCells q) : Rw)]) (l₂ := [((.slice ao1 l.length cp1, q1.length, ndCells q1) : Rw), (.slice ao2 l.length cp2, q2.length, ndCells q2)]))
        · refine RwL.perm K6.out.2.2.2 ?_
          unfold anK
          simp only [List.nil_append, List.cons_append, List.flatMap_cons, List.flatMap_nil, List.append_nil]
          exact List.perm_append_comm
        · intro r hr
          simp only [List.mem_cons, List.not_mem_nil, or_false] at hr
          rcases hr with rfl | rfl | rfl
          · show q1.length ≤ 100000; omega
          · show q2.length ≤ 100000; omega
          · show q.length ≤ 100000; omega
        · intro r hr
          simp only [List.mem_append] at hr
          rcases hr with (hr | hr) | hr
          · exact hkr q1 M1.out r hr
          · exact hkr q2 M2.out r hr
          · exact hkr q M0.out r hr
        · simp [kR]; omega⟩
      clear K6
      go_wp2_with fail
      refine CAP.out.mono ?_
      rintro e wj ⟨rfl, hq⟩
      have Bj : SldX (Below w.heap.size w wj) := ⟨Bi.out.trans (hq.mono B1.out.size)⟩
      clear hq CAP
      go_wp2_with fail
      go_ret
      exact ⟨rfl, Bj.out⟩
  · go_wp2_with fail
    refine (sameR (RD.out w8 D8.out).1 (RD.out w8 D8.out).2.2 true (by simp)).mono ?_
    rintro e w9 ⟨rfl, hq⟩
    have D9 : SldX (Below w6.heap.size w6 w9) := ⟨D8.out.trans (hq.mono D8.out.size)⟩
    have HP9 : SldX (PartsAt w9 g1 t ∧ PartsAt w9 g2 t) := ⟨partsAt_below HP.out.1 hq, partsAt_below HP.out.2 hq⟩
    clear hq HP
    go_wp2_with fail
    refine (sameR (RD.out w9 D9.out).2.1 (RD.out w9 D9.out).2.2 true (by simp)).mono ?_
    rintro e wa ⟨rfl, hq⟩
    have Da : SldX (Below w6.heap.size w6 wa) := ⟨D9.out.trans (hq.mono D9.out.size)⟩
    have HPa : SldX (PartsAt wa g1 t ∧ PartsAt wa g2 t) := ⟨partsAt_below HP9.out.1 hq, partsAt_below HP9.out.2 hq⟩
    clear hq HP9
    have CKp : SldX (Calls Tryd.prog 27 #[.pointer (some ⟨R, 0, none⟩)] wa fun e w' => e = .returned (.bool true) ∧ Below wa.heap.size wa w') := ⟨(X6.out.below Da.out).kept HFR.out⟩
    go_wp2_with fail
    refine CKp.out.mono ?_
    rintro e wk ⟨rfl, hq⟩
    have Dk : SldX (Below w6.heap.size w6 wk) := ⟨Da.out.trans (hq.mono Da.out.size)⟩
    have HPk : SldX (PartsAt wk g1 t ∧ PartsAt wk g2 t) := ⟨partsAt_below HPa.out.1 hq, partsAt_below HPa.out.2 hq⟩
    clear hq HPa CKp
    obtain ⟨iT, hiT, ht0, ht1, ht2⟩ := info_parts Tryd.infoTerm
    go_wp2_with fail
    go_loopw [12] (fun i wr => ∃ k : Nat, k ≤ NP ∧ i = .int .i64 k ∧ SldX (Below w6.heap.size w6 wr) ∧ SldX ((∃ cs, wr.heap[g1]? = some (.cells cs 45 (0, 0)) ∧ cs.size = NP) ∧ wr.heap[g2]? = some (.cells ((partsT t).map tv).toArray 45 (0, 0)))) (fun i _ => NP - (RowKit.intOf i).toNat)
    case atStart =>
      refine ⟨0, Nat.zero_le _, rfl, Dk, ⟨?_, ?_⟩⟩
      · rcases HPk.out.1 with h | h
        · have := HNP.out; rw [h] at this; simp at this; omega
        · exact ⟨_, h, by rw [← HNP.out]; simp⟩
      · rcases HPk.out.2 with h | h
        · have := HNP.out; rw [h] at this; simp at this; omega
        · exact h
    case round =>
      obtain ⟨k, hk, rfl, HBr, HCr⟩ := hrel
      by_cases hkl : k < NP
      · obtain ⟨⟨cs, hc1, hcs⟩, hc2⟩ := HCr.out
        have hkp : k < (partsT t).length := by rw [HNP.out]; exact hkl
        have c1 : wr.cell? ⟨g1, k, none⟩ = some (cs[k]'(by omega)) := by simp [World.cell?, hc1, show k < cs.size by omega]
        have f1 : wr.frozen? ⟨g1, k, none⟩ = false := by simp [World.frozen?, hc1]
        have n1 := heap_setCell_same wr g1 k cs 45 .nilIface hc1
        have n2 : (wr.setCell ⟨g1, k, none⟩ .nilIface).heap[g2]? = _ := (Deep.blk_setCell_other _ _ _ _ (by show g2 ≠ g1; exact hg12.elim (fun h => absurd h (by omega)) (fun h e => h e.symm))).trans hc2
        obtain ⟨z, hz⟩ : ∃ z, tv ((partsT t)[k]) = z := ⟨_, rfl⟩
        have c2 : (wr.setCell ⟨g1, k, none⟩ .nilIface).cell? ⟨g2, k, none⟩ = some z := by simp [World.cell?, n2, hkp, hz]
        have eqg : ∀ V, (eqGuard .eql 45 (.tmp 83) (.const .nilIface) z .nilIface).run Tryd.prog V = .ok () V := fun V => by rw [← hz]; exact five_gd _ (HFP.out _ (List.getElem_mem hkp)) V
        have eqz : ∀ V, (binOp .eql 45 z .nilIface).run Tryd.prog V = .ok (.bool false) V := fun V => by rw [← hz]; exact five_eq _ (HFP.out _ (List.getElem_mem hkp)) V
        have HB2 : SldX (Below w6.heap.size w6 (wr.setCell ⟨g1, k, none⟩ .nilIface)) := ⟨HBr.out.setCell (p := ⟨g1, k, none⟩) (by show w6.heap.size ≤ g1; omega) _⟩
        have HC2 : SldX ((∃ cs, (wr.setCell ⟨g1, k, none⟩ .nilIface).heap[g1]? = some (.cells cs 45 (0, 0)) ∧ cs.size = NP) ∧ (wr.setCell ⟨g1, k, none⟩ .nilIface).heap[g2]? = some (.cells ((partsT t).map tv).toArray 45 (0, 0))) := ⟨⟨_, n1, by simp [hcs]⟩, n2⟩
        have hkI : (k : Int) < (NP : Int) := by omega
        clear hc1 hc2 n1 n2 hz HCr
        go_wp2_with fail
        exact ⟨⟨k + 1, by omega, by go_num, HB2, HC2⟩, by simp [RowKit.intOf]; omega⟩
      · have hkI : ¬ ((k : Int) < (NP : Int)) := by omega
        obtain ⟨⟨cs, hc1, hcs⟩, hc2⟩ := HCr.out
        have hwg := lt_of_block hc1
        have cks : ∀ i, i < NP → ∃ u, wr.cell? ⟨g1, i, none⟩ = some u := fun i hi => ⟨cs[i]'(by omega), by simp [World.cell?, hc1, show i < cs.size by omega]⟩
        clear hc1 hc2 HCr hkl
        obtain rfl | rfl | rfl : NP = 1 ∨ NP = 2 ∨ NP = 3 := by omega
        · obtain ⟨u0, cu0⟩ := cks 0 (by omega)
          go_wp2_with fail
          refine (CBK.out _ _ (bp3 HBr.out _ _ _) (bk3 _ _ _ _ _) (by have := HBr.out.size; omega)).mono ?_
          rintro e wd ⟨rfl, hn1', hi1, wb, hbk, hbl, hkk, hDb, hQ1⟩
          have Db : SldX (Below w6.heap.size w6 wb) := ⟨hDb⟩
          have HQ1 : SldX (w1.heap.size ≤ wr.heap.size + 1 + 1) := ⟨hQ1⟩
          have Ab : SldX (Anss wb w1.heap.size w6.heap.size ([] ++ [(.slice (some ⟨fb, 0, none⟩) l.length fc, q)] ++ [(.slice ao1 l.length cp1, q1)] ++ [(.slice ao2 l.length cp2, q2)])) := ⟨A6.out.below Db.out⟩
          have Xb : SldX (RmX wb R fb fc l q w1.heap.size) := ⟨X6.out.below Db.out⟩
          have HL : SldX (q.length = l.length ∧ q1.length = l.length ∧ q2.length = l.length) := ⟨by have := congrArg List.length M0.out; simpa using this, by have := congrArg List.length M1.out; simpa using this, by have := congrArg List.length M2.out; simpa using this⟩
          have P1 : SldX (OwnP wb w1.heap.size (.slice ao2 q2.length cp2) q2 ∧ OwnP wb w1.heap.size (.slice (some ⟨fb, 0, none⟩) q.length fc) q) := ⟨by
            rw [HL.out.1, HL.out.2.2]
            exact ⟨Ab.out.ownP (a := (.slice ao2 l.length cp2, q2)) (by simp), Ab.out.ownP (a := (.slice (some ⟨fb, 0, none⟩) l.length fc, q)) (by simp)⟩⟩
          have K1 : SldX (BkH wd w1.heap.size (wr.heap.size + 1 + 1) hn1' hi1 ([] ++ [.slice ao1 l.length cp1]) ([] ++ q1.map (·.2)) ∧ Below w1.heap.size wb wd ∧ BkK wb wd) := ⟨hbk, hbl, hkk⟩
          clear hbk hbl hkk hDb hQ1 CBK
          go_wp2_with fail
          have CB2 := bookExpr_any wd w1.heap.size (wr.heap.size + 1 + 1) _ _ _ _ ao2 cp2 q2 K1.out.1 HQ1.out (K1.out.2.2.ownP P1.out.1) (by simp) (by have := HL.out; simp; omega) (by have := HL.out; omega)
          rw [HL.out.2.2] at CB2
          refine CB2.mono ?_
          rintro e we ⟨rfl, hn2', hi2, hbk, hbl, hkk⟩
          have K2 : SldX (BkH we w1.heap.size (wr.heap.size + 1 + 1) hn2' hi2 ([] ++ [.slice ao1 l.length cp1] ++ [.slice ao2 l.length cp2]) ([] ++ q1.map (·.2) ++ q2.map (·.2)) ∧ Below w1.heap.size wb we ∧ BkK wb we) := ⟨hbk, K1.out.2.1.trans hbl, K1.out.2.2.trans hkk⟩
          clear CB2 hbk hbl hkk K1
          go_wp2_with fail
          refine (Xb.out.exprK K2.out.2.2).mono ?_
          rintro e wf ⟨rfl, hq⟩
          have K3 : SldX (BkH wf w1.heap.size (wr.heap.size + 1 + 1) hn2' hi2 ([] ++ [.slice ao1 l.length cp1] ++ [.slice ao2 l.length cp2]) ([] ++ q1.map (·.2) ++ q2.map (·.2)) ∧ Below w1.heap.size wb wf ∧ OwnP wf w1.heap.size (.slice (some ⟨fb, 0, none⟩) q.length fc) q ∧ RwL wf w1.heap.size 67 4 (anR ([] ++ [(.slice (some ⟨fb, 0, none⟩) l.length fc, q)] ++ [(.slice ao1 l.length cp1, q1)] ++ [(.slice ao2 l.length cp2, q2)])) ∧ RwL wf w1.heap.size 3 1 (anK ([] ++ [(.slice (some ⟨fb, 0, none⟩) l.length fc, q)] ++ [(.slice ao1 l.length cp1, q1)] ++ [(.slice ao2 l.length cp2, q2)]))) := ⟨K2.out.1.below hq, K2.out.2.1.trans (hq.mono (Nat.le_trans (Nat.le_trans Z6.out Db.out.size) K2.out.2.1.size)), (K2.out.2.2.ownP P1.out.2).below hq, (K2.out.2.2.rwl Ab.out.rows (by decide) (by decide) (by decide)).bel hq, (K2.out.2.2.rwl Ab.out.kids (by decide) (by decide) (by decide)).bel hq⟩
          clear hq K2
          go_wp2_with fail
          have CB3 := bookExpr_any wf w1.heap.size (wr.heap.size + 1 + 1) _ _ _ _ (some ⟨fb, 0, none⟩) fc q K3.out.1 HQ1.out K3.out.2.2.1 (by simp) (by have := HL.out; simp; omega) (by have := HL.out; omega)
          rw [HL.out.1] at CB3
          refine CB3.mono ?_
          rintro e wg ⟨rfl, hn3', hi3, hbk, hbl, hkk⟩
          have K4 : SldX (BkH wg w1.heap.size (wr.heap.size + 1 + 1) hn3' hi3 ([] ++ [.slice ao1 l.length cp1] ++ [.slice ao2 l.length cp2] ++ [.slice (some ⟨fb, 0, none⟩) l.length fc]) ([] ++ q1.map (·.2) ++ q2.map (·.2) ++ q.map (·.2)) ∧ Below w1.heap.size wb wg ∧ RwL wg w1.heap.size 67 4 (anR ([] ++ [(.slice (some ⟨fb, 0, none⟩) l.length fc, q)] ++ [(.slice ao1 l.length cp1, q1)] ++ [(.slice ao2 l.length cp2, q2)])) ∧ RwL wg w1.heap.size 3 1 (anK ([] ++ [(.slice (some ⟨fb, 0, none⟩) l.length fc, q)] ++ [(.slice ao1 l.length cp1, q1)] ++ [(.slice ao2 l.length cp2, q2)]))) := ⟨hbk, K3.out.2.1.trans hbl, hkk.rwl K3.out.2.2.2.1 (by decide) (by decide) (by decide), hkk.rwl K3.out.2.2.2.2 (by decide) (by decide) (by decide)⟩
          have Bg : SldX (Below w.heap.size w wg) := ⟨B6.out.trans ((Db.out.mono B6.out.size).trans (K4.out.2.1.mono B1.out.size))⟩
          clear CB3 hbk hbl hkk K3
          go_wp2_with fail
          refine (CP.out wg (HT.out wg Bg.out)).mono ?_
          rintro e wh ⟨ao5, cp5, q5, rfl, hq5, hq⟩
          have Bh : SldX (Below w.heap.size w wh) := ⟨Bg.out.trans (hq.mono Bg.out.size)⟩
          have K5 : SldX (BkH wh w1.heap.size (wr.heap.size + 1 + 1) hn3' hi3 ([] ++ [.slice ao1 l.length cp1] ++ [.slice ao2 l.length cp2] ++ [.slice (some ⟨fb, 0, none⟩) l.length fc]) ([] ++ q1.map (·.2) ++ q2.map (·.2) ++ q.map (·.2)) ∧ w1.heap.size ≤ wh.heap.size ∧ RwL wh w1.heap.size 67 4 (anR ([] ++ [(.slice (some ⟨fb, 0, none⟩) l.length fc, q)] ++ [(.slice ao1 l.length cp1, q1)] ++ [(.slice ao2 l.length cp2, q2)])) ∧ RwL wh w1.heap.size 3 1 (anK ([] ++ [(.slice (some ⟨fb, 0, none⟩) l.length fc, q)] ++ [(.slice ao1 l.length cp1, q1)] ++ [(.slice ao2 l.length cp2, q2)]))) := ⟨K4.out.1.below hq, Nat.le_trans (Nat.le_trans (Nat.le_trans Z6.out Db.out.size) K4.out.2.1.size) hq.size, K4.out.2.2.1.bel hq, K4.out.2.2.2.bel hq⟩
          have CSM : SldX (Calls Tryd.prog 12 #[.slice ao5 l.length cp5, .slice ao l.length cap] wh fun e w' => e = .returned (.bool true) ∧ Below wh.heap.size wh w') := ⟨sameR (Nodes_of_own ⟨q5, hq5.1, hq5.2.1⟩ (Nat.le_refl _)) (HR.out wh Bh.out) true (by simp)⟩
          clear hq hq5 K4 Bg
          go_wp2_with fail
          refine CSM.out.mono ?_
          rintro e wi ⟨rfl, hq⟩
          have Bi : SldX (Below w.heap.size w wi) := ⟨Bh.out.trans (hq.mono Bh.out.size)⟩
          have K6 : SldX (BkH wi w1.heap.size (wr.heap.size + 1 + 1) hn3' hi3 ([] ++ [.slice ao1 l.length cp1] ++ [.slice ao2 l.length cp2] ++ [.slice (some ⟨fb, 0, none⟩) l.length fc]) ([] ++ q1.map (·.2) ++ q2.map (·.2) ++ q.map (·.2)) ∧ w1.heap.size ≤ wi.heap.size ∧ RwL wi w1.heap.size 67 4 (anR ([] ++ [(.slice (some ⟨fb, 0, none⟩) l.length fc, q)] ++ [(.slice ao1 l.length cp1, q1)] ++ [(.slice ao2 l.length cp2, q2)])) ∧ RwL wi w1.heap.size 3 1 (anK ([] ++ [(.slice (some ⟨fb, 0, none⟩) l.length fc, q)] ++ [(.slice ao1 l.length cp1, q1)] ++ [(.slice ao2 l.length cp2, q2)]))) := ⟨K5.out.1.below hq, Nat.le_trans K5.out.2.1 hq.size, K5.out.2.2.1.bel hq, K5.out.2.2.2.bel hq⟩
          clear hq K5 CSM
          have CAP : SldX (Calls Tryd.prog 30 #[.pointer (some ⟨(wr.heap.size + 1 + 1), 0, none⟩)] wi fun e W' => e = .returned (.bool true) ∧ Below w1.heap.size wi W') := ⟨by
            have hkr : ∀ q' : List (Nd × Value), q'.map (·.1) = l → ∀ r ∈ kR q', r.2.1 ≤ 100000 := fun q' hq r hr => by
              obtain ⟨y, hy, rfl⟩ := List.mem_map.1 hr
              have hm := List.mem_map_of_mem (f := (·.1)) hy
              show y.1.kids.length ≤ 100000
              rw [hq] at hm; have := HK3.out _ hm; omega
            have hN := HL.out
            refine (bookIN_any wi w1.heap.size (wr.heap.size + 1 + 1) hn3' hi3 [(.slice ao1 l.length cp1, q1.length, ndCells q1), (.slice ao2 l.length cp2, q2.length, ndCells q2), (.slice (some ⟨fb, 0, none⟩) l.length fc, q.length, ndCells q)] (kR q1 ++ kR q2 ++ kR q)
              K6.out.2.1 ?_ ?_ ?_ ?_ (by simp) ?_ ?_).mono fun e w' h => ⟨h.1, h.2.1⟩
            · have := K6.out.1
              simp only [List.map_append, List.map_cons, List.map_nil, kR_v]
              exact this
            · refine RwL.perm K6.out.2.2.1 ?_
              unfold anR
              simp only [List.nil_append, List.cons_append, List.map_cons, List.map_nil]
              exact (List.perm_append_comm (l₁ := [((.slice (some ⟨fb, 0, none⟩) l.length fc, q.length, ndCells q) : Rw)]) (l₂ := [((.slice ao1 l.length cp1, q1.length, ndCells q1) : Rw), (.slice ao2 l.length cp2, q2.length, ndCells q2)]))
            · refine RwL.perm K6.out.2.2.2 ?_
              unfold anK
              simp only [List.nil_append, List.cons_append, List.flatMap_cons, List.flatMap_nil, List.append_nil]
              exact List.perm_append_comm
            · intro r hr
              simp only [List.mem_cons, List.not_mem_nil, or_false] at hr
              rcases hr with rfl | rfl | rfl
              · show q1.length ≤ 100000; omega
              · show q2.length ≤ 100000; omega
              · show q.length ≤ 100000; omega
            · intro r hr
              simp only [List.mem_append] at hr
              rcases hr with (hr | hr) | hr
              · exact hkr q1 M1.out r hr
              · exact hkr q2 M2.out r hr
              · exact hkr q M0.out r hr
            · simp [kR]; omega⟩
          clear K6
          go_wp2_with fail
          refine CAP.out.mono ?_
          rintro e wj ⟨rfl, hq⟩
          have Bj : SldX (Below w.heap.size w wj) := ⟨Bi.out.trans (hq.mono B1.out.size)⟩
          clear hq CAP
          go_wp2_with fail
          go_ret
          exact ⟨rfl, Bj.out⟩
        · obtain ⟨u0, cu0⟩ := cks 0 (by omega)
          obtain ⟨u1, cu1⟩ := cks 1 (by omega)
          go_wp2_with fail
          refine (CBK.out _ _ (bp3 HBr.out _ _ _) (bk3 _ _ _ _ _) (by have := HBr.out.size; omega)).mono ?_
          rintro e wd ⟨rfl, hn1', hi1, wb, hbk, hbl, hkk, hDb, hQ1⟩
          have Db : SldX (Below w6.heap.size w6 wb) := ⟨hDb⟩
          have HQ1 : SldX (w1.heap.size ≤ wr.heap.size + 1 + 1) := ⟨hQ1⟩
          have Ab : SldX (Anss wb w1.heap.size w6.heap.size ([] ++ [(.slice (some ⟨fb, 0, none⟩) l.length fc, q)] ++ [(.slice ao1 l.length cp1, q1)] ++ [(.slice ao2 l.length cp2, q2)])) := ⟨A6.out.below Db.out⟩
          have Xb : SldX (RmX wb R fb fc l q w1.heap.size) := ⟨X6.out.below Db.out⟩
          have HL : SldX (q.length = l.length ∧ q1.length = l.length ∧ q2.length = l.length) := ⟨by have := congrArg List.length M0.out; simpa using this, by have := congrArg List.length M1.out; simpa using this, by have := congrArg List.length M2.out; simpa using this⟩
          have P1 : SldX (OwnP wb w1.heap.size (.slice ao2 q2.length cp2) q2 ∧ OwnP wb w1.heap.size (.slice (some ⟨fb, 0, none⟩) q.length fc) q) := ⟨by
            rw [HL.out.1, HL.out.2.2]
            exact ⟨Ab.out.ownP (a := (.slice ao2 l.length cp2, q2)) (by simp), Ab.out.ownP (a := (.slice (some ⟨fb, 0, none⟩) l.length fc, q)) (by simp)⟩⟩
          have K1 : SldX (BkH wd w1.heap.size (wr.heap.size + 1 + 1) hn1' hi1 ([] ++ [.slice ao1 l.length cp1]) ([] ++ q1.map (·.2)) ∧ Below w1.heap.size wb wd ∧ BkK wb wd) := ⟨hbk, hbl, hkk⟩
          clear hbk hbl hkk hDb hQ1 CBK
          go_wp2_with fail
          have CB2 := bookExpr_any wd w1.heap.size (wr.heap.size + 1 + 1) _ _ _ _ ao2 cp2 q2 K1.out.1 HQ1.out (K1.out.2.2.ownP P1.out.1) (by simp) (by have := HL.out; simp; omega) (by have := HL.out; omega)
          rw [HL.out.2.2] at CB2
          refine CB2.mono ?_
          rintro e we ⟨rfl, hn2', hi2, hbk, hbl, hkk⟩
          have K2 : SldX (BkH we w1.heap.size (wr.heap.size + 1 + 1) hn2' hi2 ([] ++ [.slice ao1 l.length cp1] ++ [.slice ao2 l.length cp2]) ([] ++ q1.map (·.2) ++ q2.map (·.2)) ∧ Below w1.heap.size wb we ∧ BkK wb we) := ⟨hbk, K1.out.2.1.trans hbl, K1.out.2.2.trans hkk⟩
          clear CB2 hbk hbl hkk K1
          go_wp2_with fail
          refine (Xb.out.exprK K2.out.2.2).mono ?_
          rintro e wf ⟨rfl, hq⟩
          have K3 : SldX (BkH wf w1.heap.size (wr.heap.size + 1 + 1) hn2' hi2 ([] ++ [.slice ao1 l.length cp1] ++ [.slice ao2 l.length cp2]) ([] ++ q1.map (·.2) ++ q2.map (·.2)) ∧ Below w1.heap.size wb wf ∧ OwnP wf w1.heap.size (.slice (some ⟨fb, 0, none⟩) q.length fc) q ∧ RwL wf w1.heap.size 67 4 (anR ([] ++ [(.slice (some ⟨fb, 0, none⟩) l.length fc, q)] ++ [(.slice ao1 l.length cp1, q1)] ++ [(.slice ao2 l.length cp2, q2)])) ∧ RwL wf w1.heap.size 3 1 (anK ([] ++ [(.slice (some ⟨fb, 0, none⟩) l.length fc, q)] ++ [(.slice ao1 l.length cp1, q1)] ++ [(.slice ao2 l.length cp2, q2)]))) := ⟨K2.out.1.below hq, K2.out.2.1.trans (hq.mono (Nat.le_trans (Nat.le_trans Z6.out Db.out.size) K2.out.2.1.size)), (K2.out.2.2.ownP P1.out.2).below hq, (K2.out.2.2.rwl Ab.out.rows (by decide) (by decide) (by decide)).bel hq, (K2.out.2.2.rwl Ab.out.kids (by decide) (by decide) (by decide)).bel hq⟩
          clear hq K2
          go_wp2_with fail
          have CB3 := bookExpr_any wf w1.heap.size (wr.heap.size + 1 + 1) _ _ _ _ (some ⟨fb, 0, none⟩) fc q K3.out.1 HQ1.out K3.out.2.2.1 (by simp) (by have := HL.out; simp; omega) (by have := HL.out; omega)
          rw [HL.out.1] at CB3
          refine CB3.mono ?_
          rintro e wg ⟨rfl, hn3', hi3, hbk, hbl, hkk⟩
          have K4 : SldX (BkH wg w1.heap.size (wr.heap.size + 1 + 1) hn3' hi3 ([] ++ [.slice ao1 l.length cp1] ++ [.slice ao2 l.length cp2] ++ [.slice (some ⟨fb, 0, none⟩) l.length fc]) ([] ++ q1.map (·.2) ++ q2.map (·.2) ++ q.map (·.2)) ∧ Below w1.heap.size wb wg ∧ RwL wg w1.heap.size 67 4 (anR ([] ++ [(.slice (some ⟨fb, 0, none⟩) l.length fc, q)] ++ [(.slice ao1 l.length cp1, q1)] ++ [(.slice ao2 l.length cp2, q2)])) ∧ RwL wg w1.heap.size 3 1 (anK ([] ++ [(.slice (some ⟨fb, 0, none⟩) l.length fc, q)] ++ [(.slice ao1 l.length cp1, q1)] ++ [(.slice ao2 l.length cp2, q2)]))) := ⟨hbk, K3.out.2.1.trans hbl, hkk.rwl K3.out.2.2.2.1 (by decide) (by decide) (by decide), hkk.rwl K3.out.2.2.2.2 (by decide) (by decide) (by decide)⟩
          have Bg : SldX (Below w.heap.size w wg) := ⟨B6.out.trans ((Db.out.mono B6.out.size).trans (K4.out.2.1.mono B1.out.size))⟩
          clear CB3 hbk hbl hkk K3
          go_wp2_with fail
          refine (CP.out wg (HT.out wg Bg.out)).mono ?_
          rintro e wh ⟨ao5, cp5, q5, rfl, hq5, hq⟩
          have Bh : SldX (Below w.heap.size w wh) := ⟨Bg.out.trans (hq.mono Bg.out.size)⟩
          have K5 : SldX (BkH wh w1.heap.size (wr.heap.size + 1 + 1) hn3' hi3 ([] ++ [.slice ao1 l.length cp1] ++ [.slice ao2 l.length cp2] ++ [.slice (some ⟨fb, 0, none⟩) l.length fc]) ([] ++ q1.map (·.2) ++ q2.map (·.2) ++ q.map (·.2)) ∧ w1.heap.size ≤ wh.heap.size ∧ RwL wh w1.heap.size 67 4 (anR ([] ++ [(.slice (some ⟨fb, 0, none⟩) l.length fc, q)] ++ [(.slice ao1 l.length cp1, q1)] ++ [(.slice ao2 l.length cp2, q2)])) ∧ RwL wh w1.heap.size 3 1 (anK ([] ++ [(.slice (some ⟨fb, 0, none⟩) l.length fc, q)] ++ [(.slice ao1 l.length cp1, q1)] ++ [(.slice ao2 l.length cp2, q2)]))) := ⟨K4.out.1.below hq, Nat.le_trans (Nat.le_trans (Nat.le_trans Z6.out Db.out.size) K4.out.2.1.size) hq.size, K4.out.2.2.1.bel hq, K4.out.2.2.2.bel hq⟩
          have CSM : SldX (Calls Tryd.prog 12 #[.slice ao5 l.length cp5, .slice ao l.length cap] wh fun e w' => e = .returned (.bool true) ∧ Below wh.heap.size wh w') := ⟨sameR (Nodes_of_own ⟨q5, hq5.1, hq5.2.1⟩ (Nat.le_refl _)) (HR.out wh Bh.out) true (by simp)⟩
          clear hq hq5 K4 Bg
          go_wp2_with fail
          refine CSM.out.mono ?_
          rintro e wi ⟨rfl, hq⟩
          have Bi : SldX (Below w.heap.size w wi) := ⟨Bh.out.trans (hq.mono Bh.out.size)⟩
          have K6 : SldX (BkH wi w1.heap.size (wr.heap.size + 1 + 1) hn3' hi3 ([] ++ [.slice ao1 l.length cp1] ++ [.slice ao2 l.length cp2] ++ [.slice (some ⟨fb, 0, none⟩) l.length fc]) ([] ++ q1.map (·.2) ++ q2.map (·.2) ++ q.map (·.2)) ∧ w1.heap.size ≤ wi.heap.size ∧ RwL wi w1.heap.size 67 4 (anR ([] ++ [(.slice (some ⟨fb, 0, none⟩) l.length fc, q)] ++ [(.slice ao1 l.length cp1, q1)] ++ [(.slice ao2 l.length cp2, q2)])) ∧ RwL wi w1.heap.size 3 1 (anK ([] ++ [(.slice (some ⟨fb, 0, none⟩) l.length fc, q)] ++ [(.slice ao1 l.length cp1, q1)] ++ [(.slice ao2 l.length cp2, q2)]))) := ⟨K5.out.1.below hq, Nat.le_trans K5.out.2.1 hq.size, K5.out.2.2.1.bel hq, K5.out.2.2.2.bel hq⟩
          clear hq K5 CSM
          have CAP : SldX (Calls Tryd.prog 30 #[.pointer (some ⟨(wr.heap.size + 1 + 1), 0, none⟩)] wi fun e W' => e = .returned (.bool true) ∧ Below w1.heap.size wi W') := ⟨by
            have hkr : ∀ q' : List (Nd × Value), q'.map (·.1) = l → ∀ r ∈ kR q', r.2.1 ≤ 100000 := fun q' hq r hr => by
              obtain ⟨y, hy, rfl⟩ := List.mem_map.1 hr
              have hm := List.mem_map_of_mem (f := (·.1)) hy
              show y.1.kids.length ≤ 100000
              rw [hq] at hm; have := HK3.out _ hm; omega
            have hN := HL.out
            refine (bookIN_any wi w1.heap.size (wr.heap.size + 1 + 1) hn3' hi3 [(.slice ao1 l.length cp1, q1.length, ndCells q1), (.slice ao2 l.length cp2, q2.length, ndCells q2), (.slice (some ⟨fb, 0, none⟩) l.length fc, q.length, ndCells q)] (kR q1 ++ kR q2 ++ kR q)
              K6.out.2.1 ?_ ?_ ?_ ?_ (by simp) ?_ ?_).mono fun e w' h => ⟨h.1, h.2.1⟩
            · have := K6.out.1
              simp only [List.map_append, List.map_cons, List.map_nil, kR_v]
              exact this
            · refine RwL.perm K6.out.2.2.1 ?_
              unfold anR
              simp only [List.nil_append, List.cons_append, List.map_cons, List.map_nil]
              exact (List.perm_append_comm (l₁ := [((.slice (some ⟨fb, 0, none⟩) l.length fc, q.length, ndCells q) : Rw)]) (l₂ := [((.slice ao1 l.length cp1, q1.length, ndCells q1) : Rw), (.slice ao2 l.length cp2, q2.length, ndCells q2)]))
            · refine RwL.perm K6.out.2.2.2 ?_
              unfold anK
              simp only [List.nil_append, List.cons_append, List.flatMap_cons, List.flatMap_nil, List.append_nil]
              exact List.perm_append_comm
            · intro r hr
              simp only [List.mem_cons, List.not_mem_nil, or_false] at hr
              rcases hr with rfl | rfl | rfl
              · show q1.length ≤ 100000; omega
              · show q2.length ≤ 100000; omega
              · show q.length ≤ 100000; omega
            · intro r hr
              simp only [List.mem_append] at hr
              rcases hr with (hr | hr) | hr
              · exact hkr q1 M1.out r hr
              · exact hkr q2 M2.out r hr
              · exact hkr q M0.out r hr
            · simp [kR]; omega⟩
          clear K6
          go_wp2_with fail
          refine CAP.out.mono ?_
          rintro e wj ⟨rfl, hq⟩
          have Bj : SldX (Below w.heap.size w wj) := ⟨Bi.out.trans (hq.mono B1.out.size)⟩
          clear hq CAP
          go_wp2_with fail
          go_ret
          exact ⟨rfl, Bj.out⟩
        · obtain ⟨u0, cu0⟩ := cks 0 (by omega)
          obtain ⟨u1, cu1⟩ := cks 1 (by omega)
          obtain ⟨u2, cu2⟩ := cks 2 (by omega)
          go_wp2_with fail
          refine (CBK.out _ _ (bp3 HBr.out _ _ _) (bk3 _ _ _ _ _) (by have := HBr.out.size; omega)).mono ?_
          rintro e wd ⟨rfl, hn1', hi1, wb, hbk, hbl, hkk, hDb, hQ1⟩
          have Db : SldX (Below w6.heap.size w6 wb) := ⟨hDb⟩
          have HQ1 : SldX (w1.heap.size ≤ wr.heap.size + 1 + 1) := ⟨hQ1⟩
          have Ab : SldX (Anss wb w1.heap.size w6.heap.size ([] ++ [(.slice (some ⟨fb, 0, none⟩) l.length fc, q)] ++ [(.slice ao1 l.length cp1, q1)] ++ [(.slice ao2 l.length cp2, q2)])) := ⟨A6.out.below Db.out⟩
          have Xb : SldX (RmX wb R fb fc l q w1.heap.size) := ⟨X6.out.below Db.out⟩
          have HL : SldX (q.length = l.length ∧ q1.length = l.length ∧ q2.length = l.length) := ⟨by have := congrArg List.length M0.out; simpa using this, by have := congrArg List.length M1.out; simpa using this, by have := congrArg List.length M2.out; simpa using this⟩
          have P1 : SldX (OwnP wb w1.heap.size (.slice ao2 q2.length cp2) q2 ∧ OwnP wb w1.heap.size (.slice (some ⟨fb, 0, none⟩) q.length fc) q) := ⟨by
            rw [HL.out.1, HL.out.2.2]
            exact ⟨Ab.out.ownP (a := (.slice ao2 l.length cp2, q2)) (by simp), Ab.out.ownP (a := (.slice (some ⟨fb, 0, none⟩) l.length fc, q)) (by simp)⟩⟩
          have K1 : SldX (BkH wd w1.heap.size (wr.heap.size + 1 + 1) hn1' hi1 ([] ++ [.slice ao1 l.length cp1]) ([] ++ q1.map (·.2)) ∧ Below w1.heap.size wb wd ∧ BkK wb wd) := ⟨hbk, hbl, hkk⟩
          clear hbk hbl hkk hDb hQ1 CBK
          go_wp2_with fail
          have CB2 := bookExpr_any wd w1.heap.size (wr.heap.size + 1 + 1) _ _ _ _ ao2 cp2 q2 K1.out.1 HQ1.out (K1.out.2.2.ownP P1.out.1) (by simp) (by have := HL.out; simp; omega) (by have := HL.out; omega)
          rw [HL.out.2.2] at CB2
          refine CB2.mono ?_
          rintro e we ⟨rfl, hn2', hi2, hbk, hbl, hkk⟩
          have K2 : SldX (BkH we w1.heap.size (wr.heap.size + 1 + 1) hn2' hi2 ([] ++ [.slice ao1 l.length cp1] ++ [.slice ao2 l.length cp2]) ([] ++ q1.map (·.2) ++ q2.map (·.2)) ∧ Below w1.heap.size wb we ∧ BkK wb we) := ⟨hbk, K1.out.2.1.trans hbl, K1.out.2.2.trans hkk⟩
          clear CB2 hbk hbl hkk K1
          go_wp2_with fail
          refine (Xb.out.exprK K2.out.2.2).mono ?_
          rintro e wf ⟨rfl, hq⟩
          have K3 : SldX (BkH wf w1.heap.size (wr.heap.size + 1 + 1) hn2' hi2 ([] ++ [.slice ao1 l.length cp1] ++ [.slice ao2 l.length cp2]) ([] ++ q1.map (·.2) ++ q2.map (·.2)) ∧ Below w1.heap.size wb wf ∧ OwnP wf w1.heap.size (.slice (some ⟨fb, 0, none⟩) q.length fc) q ∧ RwL wf w1.heap.size 67 4 (anR ([] ++ [(.slice (some ⟨fb, 0, none⟩) l.length fc, q)] ++ [(.slice ao1 l.length cp1, q1)] ++ [(.slice ao2 l.length cp2, q2)])) ∧ RwL wf w1.heap.size 3 1 (anK ([] ++ [(.slice (some ⟨fb, 0, none⟩) l.length fc, q)] ++ [(.slice ao1 l.length cp1, q1)] ++ [(.slice ao2 l.length cp2, q2)]))) := ⟨K2.out.1.below hq, K2.out.2.1.trans (hq.mono (Nat.le_trans (Nat.le_trans Z6.out Db.out.size) K2.out.2.1.size)), (K2.out.2.2.ownP P1.out.2).below hq, (K2.out.2.2.rwl Ab.out.rows (by decide) (by decide) (by decide)).bel hq, (K2.out.2.2.rwl Ab.out.kids (by decide) (by decide) (by decide)).bel hq⟩
          clear hq K2
          go_wp2_with fail
          have CB3 := bookExpr_any wf w1.heap.size (wr.heap.size + 1 + 1) _ _ _ _ (some ⟨fb, 0, none⟩) fc q K3.out.1 HQ1.out K3.out.2.2.1 (by simp) (by have := HL.out; simp; omega) (by have := HL.out; omega)
          rw [HL.out.1] at CB3
          refine CB3.mono ?_
          rintro e wg ⟨rfl, hn3', hi3, hbk, hbl, hkk⟩
          have K4 : SldX (BkH wg w1.heap.size (wr.heap.size + 1 + 1) hn3' hi3 ([] ++ [.slice ao1 l.length cp1] ++ [.slice ao2 l.length cp2] ++ [.slice (some ⟨fb, 0, none⟩) l.length fc]) ([] ++ q1.map (·.2) ++ q2.map (·.2) ++ q.map (·.2)) ∧ Below w1.heap.size wb wg ∧ RwL wg w1.heap.size 67 4 (anR ([] ++ [(.slice (some ⟨fb, 0, none⟩) l.length fc, q)] ++ [(.slice ao1 l.length cp1, q1)] ++ [(.slice ao2 l.length cp2, q2)])) ∧ RwL wg w1.heap.size 3 1 (anK ([] ++ [(.slice (some ⟨fb, 0, none⟩) l.length fc, q)] ++ [(.slice ao1 l.length cp1, q1)] ++ [(.slice ao2 l.length cp2, q2)]))) := ⟨hbk, K3.out.2.1.trans hbl, hkk.rwl K3.out.2.2.2.1 (by decide) (by decide) (by decide), hkk.rwl K3.out.2.2.2.2 (by decide) (by decide) (by decide)⟩
          have Bg : SldX (Below w.heap.size w wg) := ⟨B6.out.trans ((Db.out.mono B6.out.size).trans (K4.out.2.1.mono B1.out.size))⟩
          clear CB3 hbk hbl hkk K3
          go_wp2_with fail
          refine (CP.out wg (HT.out wg Bg.out)).mono ?_
          rintro e wh ⟨ao5, cp5, q5, rfl, hq5, hq⟩
          have Bh : SldX (Below w.heap.size w wh) := ⟨Bg.out.trans (hq.mono Bg.out.size)⟩
          have K5 : SldX (BkH wh w1.heap.size (wr.heap.size + 1 + 1) hn3' hi3 ([] ++ [.slice ao1 l.length cp1] ++ [.slice ao2 l.length cp2] ++ [.slice (some ⟨fb, 0, none⟩) l.length fc]) ([] ++ q1.map (·.2) ++ q2.map (·.2) ++ q.map (·.2)) ∧ w1.heap.size ≤ wh.heap.size ∧ RwL wh w1.heap.size 67 4 (anR ([] ++ [(.slice (some ⟨fb, 0, none⟩) l.length fc, q)] ++ [(.slice ao1 l.length cp1, q1)] ++ [(.slice ao2 l.length cp2, q2)])) ∧ RwL wh w1.heap.size 3 1 (anK ([] ++ [(.slice (some ⟨fb, 0, none⟩) l.length fc, q)] ++ [(.slice ao1 l.length cp1, q1)] ++ [(.slice ao2 l.length cp2, q2)]))) := ⟨K4.out.1.below hq, Nat.le_trans (Nat.le_trans (Nat.le_trans Z6.out Db.out.size) K4.out.2.1.size) hq.size, K4.out.2.2.1.bel hq, K4.out.2.2.2.bel hq⟩
          have CSM : SldX (Calls Tryd.prog 12 #[.slice ao5 l.length cp5, .slice ao l.length cap] wh fun e w' => e = .returned (.bool true) ∧ Below wh.heap.size wh w') := ⟨sameR (Nodes_of_own ⟨q5, hq5.1, hq5.2.1⟩ (Nat.le_refl _)) (HR.out wh Bh.out) true (by simp)⟩
          clear hq hq5 K4 Bg
          go_wp2_with fail
          refine CSM.out.mono ?_
          rintro e wi ⟨rfl, hq⟩
          have Bi : SldX (Below w.heap.size w wi) := ⟨Bh.out.trans (hq.mono Bh.out.size)⟩
          have K6 : SldX (BkH wi w1.heap.size (wr.heap.size + 1 + 1) hn3' hi3 ([] ++ [.slice ao1 l.length cp1] ++ [.slice ao2 l.length cp2] ++ [.slice (some ⟨fb, 0, none⟩) l.length fc]) ([] ++ q1.map (·.2) ++ q2.map (·.2) ++ q.map (·.2)) ∧ w1.heap.size ≤ wi.heap.size ∧ RwL wi w1.heap.size 67 4 (anR ([] ++ [(.slice (some ⟨fb, 0, none⟩) l.length fc, q)] ++ [(.slice ao1 l.length cp1, q1)] ++ [(.slice ao2 l.length cp2, q2)])) ∧ RwL wi w1.heap.size 3 1 (anK ([] ++ [(.slice (some ⟨fb, 0, none⟩) l.length fc, q)] ++ [(.slice ao1 l.length cp1, q1)] ++ [(.slice ao2 l.length cp2, q2)]))) := ⟨K5.out.1.below hq, Nat.le_trans K5.out.2.1 hq.size, K5.out.2.2.1.bel hq, K5.out.2.2.2.bel hq⟩
          clear hq K5 CSM
          have CAP : SldX (Calls Tryd.prog 30 #[.pointer (some ⟨(wr.heap.size + 1 + 1), 0, none⟩)] wi fun e W' => e = .returned (.bool true) ∧ Below w1.heap.size wi W') := ⟨by
            have hkr : ∀ q' : List (Nd × Value), q'.map (·.1) = l → ∀ r ∈ kR q', r.2.1 ≤ 100000 := fun q' hq r hr => by
              obtain ⟨y, hy, rfl⟩ := List.mem_map.1 hr
              have hm := List.mem_map_of_mem (f := (·.1)) hy
              show y.1.kids.length ≤ 100000
              rw [hq] at hm; have := HK3.out _ hm; omega
            have hN := HL.out
            refine (bookIN_any wi w1.heap.size (wr.heap.size + 1 + 1) hn3' hi3 [(.slice ao1 l.length cp1, q1.length, ndCells q1), (.slice ao2 l.length cp2, q2.length, ndCells q2), (.slice (some ⟨fb, 0, none⟩) l.length fc, q.length, ndCells q)] (kR q1 ++ kR q2 ++ kR q)
              K6.out.2.1 ?_ ?_ ?_ ?_ (by simp) ?_ ?_).mono fun e w' h => ⟨h.1, h.2.1⟩
            · have := K6.out.1
              simp only [List.map_append, List.map_cons, List.map_nil, kR_v]
              exact this
            · refine RwL.perm K6.out.2.2.1 ?_
              unfold anR
              simp only [List.nil_append, List.cons_append, List.map_cons, List.map_nil]
              exact (List.perm_append_comm (l₁ := [((.slice (some ⟨fb, 0, none⟩) l.length fc, q.length, ndCells q) : Rw)]) (l₂ := [((.slice ao1 l.length cp1, q1.length, ndCells q1) : Rw), (.slice ao2 l.length cp2, q2.length, ndCells q2)]))
            · refine RwL.perm K6.out.2.2.2 ?_
              unfold anK
              simp only [List.nil_append, List.cons_append, List.flatMap_cons, List.flatMap_nil, List.append_nil]
              exact List.perm_append_comm
            · intro r hr
              simp only [List.mem_cons, List.not_mem_nil, or_false] at hr
              rcases hr with rfl | rfl | rfl
              · show q1.length ≤ 100000; omega
              · show q2.length ≤ 100000; omega
              · show q.length ≤ 100000; omega
            · intro r hr
              simp only [List.mem_append] at hr
              rcases hr with (hr | hr) | hr
              · exact hkr q1 M1.out r hr
              · exact hkr q2 M2.out r hr
              · exact hkr q M0.out r hr
            · simp [kR]; omega⟩
          clear K6
          go_wp2_with fail
          refine CAP.out.mono ?_
          rintro e wj ⟨rfl, hq⟩
          have Bj : SldX (Below w.heap.size w wj) := ⟨Bi.out.trans (hq.mono B1.out.size)⟩
          clear hq CAP
          go_wp2_with fail
          go_ret
          exact ⟨rfl, Bj.out⟩
theorem boxKeeps_walk (w : World) (ao : Option Addr) (cap : Nat) (l : List Nd) (hT : SpanCells w) (hR : Rd w ao cap l) (hF : FitX l) :
    Calls Tryd.prog 5 #[.slice ao l.length cap] w fun e w' => e = .returned (.bool true) ∧ Below w.heap.size w w' := by
  cases h : begL l with
  | none => exact boxKeeps_none w ao cap l hT hR hF h
  | some fr => exact boxKeeps_some w ao cap l fr hT hR hF h
end Go.Proofs.YtokfkobhdjbciaaDoor
