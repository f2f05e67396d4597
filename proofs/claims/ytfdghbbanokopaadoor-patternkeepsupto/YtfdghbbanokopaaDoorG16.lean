/-
  RmE, RmKpW, RmS, RmB, RmL.
-/
import Derived.Test.YtfdghbbanokopaaDoorChecked
import GoSem.PinnedTables
import GoSem.Claim
import GoSem.ClaimJoined
import GoSem.ClaimMapViews
import Derived.JoinedTies
import Derived.KernelRfl
import Derived.Shelf.Unicode.DecodeSlow
import Derived.Laws.RangeAny
import Derived.Shelf.Strconv.Itoa0
import Derived.Shelf.Unicode.DecodeAny
import Derived.Test.YtfdghbbanokopaaDoorProg
import Derived.WalkKit
import Derived.Deep.DeepFit
import Derived.Lib.OthersKept
import Derived.Lib.RuneCountTail
import Derived.Lib.LaidU8
import Derived.MakeChecks
import Derived.ProofKit
import Derived.OpenShut
import Derived.Deep.DeepHandedRow
import Derived.Deep.AppendLies
import Derived.Deep.OwnRows
import Derived.Laws.AppendOwnNone
import Derived.Deep.QuietTactic
import Derived.BigQuiet
import Derived.Deep.RegionWith
import Derived.Laws.DeepStrings4
import Derived.Deep.Slices
import Derived.SizedLaws
import Derived.Below
import Derived.Deep.RegionLaw
import Derived.Lib.SlBytesRow
import Derived.Lib.QuietBelow
import Derived.StillTail
import Derived.Test.YtfdghbbanokopaaDoorRows
import Derived.Test.YtfdghbbanokopaaDoorG01
import Derived.Test.YtfdghbbanokopaaDoorG02
import Derived.Test.YtfdghbbanokopaaDoorG03
import Derived.Test.YtfdghbbanokopaaDoorG04
import Derived.Test.YtfdghbbanokopaaDoorG05
import Derived.Test.YtfdghbbanokopaaDoorG06
import Derived.Test.YtfdghbbanokopaaDoorG07
import Derived.Test.YtfdghbbanokopaaDoorG08
import Derived.Test.YtfdghbbanokopaaDoorG09
import Derived.Test.YtfdghbbanokopaaDoorG10
import Derived.Test.YtfdghbbanokopaaDoorG11
import Derived.Test.YtfdghbbanokopaaDoorG12
import Derived.Test.YtfdghbbanokopaaDoorG13
import Derived.Test.YtfdghbbanokopaaDoorG14
import Derived.Test.YtfdghbbanokopaaDoorG15
set_option linter.unusedSimpArgs false
set_option linter.unusedVariables false
namespace Go.Proofs.YtfdghbbanokopaaDoor
open Go.RowKit Go.Lib

theorem own_pre {w : World} {base : Nat} {e : TypeId} {s n n' g cap : Nat} {xs : List Value} (h : w.ownsRow base e s (.slice (some ⟨g, 0, none⟩) n cap) n xs) (hn : n' ≤ n) : w.ownsRow base e s (.slice (some ⟨g, 0, none⟩) n' cap) n' (xs.take (n' * s)) := by
  obtain ⟨h1, h2⟩ := h
  have hm := Nat.mul_le_mul_right s hn
  refine ⟨by rw [List.length_take, h1]; exact Nat.min_eq_left hm, ?_⟩
  rcases h2 with ⟨h2, _⟩ | ⟨g', cap', cur, e1, hb, hg, hc, hx, hs, ht⟩
  · cases h2
  · cases e1
    exact .inr ⟨g, cap, cur, rfl, hb, hg, by omega, hx, hs, by rw [← ht, List.take_take, Nat.min_eq_left hm]⟩
theorem ndCells_take : ∀ (p : List (Nd × Value)) (n : Nat), (ndCells p).take (n * 4) = ndCells (p.take n)
  | [], n => by simp [ndCells]
  | y :: p, 0 => by simp [ndCells]
  | y :: p, n + 1 => by
    have ih := ndCells_take p n
    have e : (n + 1) * 4 = n * 4 + 4 := by omega
    rw [e]
    simp only [List.take_succ_cons, ndCells, List.flatMap_cons] at ih ⊢
    simp [ih]
theorem RoomOk.exp {w w' : World} {R : Nat} {l : List Nd} {vw vf vk : Value} {p : List (Nd × Value)} {ks : List Value} (h : RoomOk w R l vw vf vk p ks w') : ∃ fb fc, vf = .slice (some ⟨fb, 0, none⟩) (l.length + 7) fc ∧ OwnP w' (R + 1) (.slice (some ⟨fb, 0, none⟩) l.length fc) (p.take l.length) ∧ (p.take l.length).map (·.1) = l ∧ (p.take l.length).length = l.length := by
  have hpl : p.length = l.length + 7 := by have := congrArg List.length h.nodes; simp [exL_len] at this; exact this
  obtain ⟨fb, fc, hv, _, _⟩ := rw_some h.full.row (by omega)
  rw [hpl] at hv
  subst hv
  have hr := h.full.row
  rw [hpl] at hr
  have ht : (p.take l.length).length = l.length := by rw [List.length_take]; omega
  refine ⟨fb, fc, rfl, ⟨?_, fun y hy => h.full.kids y (List.mem_of_mem_take hy)⟩, by rw [List.map_take, h.nodes]; simp, ht⟩
  rw [ht, ← ndCells_take]
  exact own_pre hr (by omega)
set_option maxRecDepth 20000 in
set_option maxHeartbeats 1000000 in
/-- Room's Expr, of its block alone. -/
theorem roomExpr' (w : World) (R fb fc n wc : Nat) (wa : Option Addr) (vk : Value) (c0 : w.cell? ⟨R, 0, none⟩ = some (.slice wa n wc)) (c1 : w.cell? ⟨R, 1, none⟩ = some (.slice (some ⟨fb, 0, none⟩) (n + 7) fc)) (hf1 : n + 7 ≤ fc) (hf2 : fc ≤ maxLen) :
    Calls Tryd.prog 32 #[.pointer (some ⟨R, 0, none⟩)] w fun e w' => e = .returned (.slice (some ⟨fb, 0, none⟩) n fc) ∧ Below w.heap.size w w' := by
  unfold maxLen at hf2
  have hcut : (n : Int) ≤ (fc : Int) := by omega
  go_enter Tryd.func32, Tryd.ntmps32
  go_wp2_with fail
  go_quiet (fail)
  go_wp2_with fail
  go_ret
  exact ⟨rfl, below_drewN' (Below.refl _ _) _⟩
theorem kdAp_take {p : List (Nd × Value)} (h : KdAp p) (n : Nat) : KdAp (p.take n) := List.Pairwise.sublist (List.take_sublist n p) h
end Go.Proofs.YtfdghbbanokopaaDoor

set_option linter.unusedSimpArgs false
set_option linter.unusedVariables false
namespace Go.Proofs.YtfdghbbanokopaaDoor
open Go.RowKit Go.Lib Go.Sort

set_option maxRecDepth 20000 in
set_option maxHeartbeats 2000000 in
theorem kept_any {w : World} {R : Nat} {l : List Nd} {wa : Option Addr} {wc fb fc : Nat} {ka : Option Addr} {kc : Nat} (h : RoomRd w R l wa wc fb fc ka kc) (hF : FitR l) :
    Calls Tryd.prog 36 #[.pointer (some ⟨R, 0, none⟩)] w fun e w' => e = .returned (.bool true) ∧ Below w.heap.size w w' := by
  have c0 := h.c0
  have c1 := h.c1
  obtain ⟨hf1, hf2⟩ := h.full.bound
  rw [List.length_append, exL_len] at hf1
  unfold maxLen at hf2
  obtain ⟨hw1, hw2⟩ := h.was.bound
  unfold maxLen at hw2
  obtain ⟨hk1, hk2⟩ := h.kcap
  unfold maxLen at hk2
  have hfl := hF.len
  have hcut : (l.length : Int) ≤ (fc : Int) := by omega
  have HF : Hid (FitR l) := hF
  have HR : Hid (RoomRd w R l wa wc fb fc ka kc) := h
  have g0 := cell_regrown c0
  have g1 := cell_regrown c1
  have cS : Hid (∀ d os, Calls Tryd.prog 13 #[.slice (some ⟨fb, 0, none⟩) l.length fc, .slice wa l.length wc] (grow (redrawn w d) os) fun e w'' => e = .returned (.bool true) ∧ ∃ p : Regrown, w'' = grow (redrawn w p.d) p.os) := fun d os =>
    Calls.regrown_of (sameR ((HR.out.full.prefix).below (below_regrown w d os) (below_regrown w d os).size) (HR.out.was.below (below_regrown w d os) (below_regrown w d os).size) true (by simp))
  have hne : ((l.length : Int) + 7 != (l.length : Int) + 7) = false := by simp
  clear h hF
  go_enter Tryd.func36, Tryd.ntmps36
  go_wp2_with fail
  refine wp_region_quiet_below (by kernel_rfl) (by kernel_rfl) ?_
  iterate 22 (go_big_quiet_step ((go_at_call 13; exact cS.out _ _)))
  refine wpQuiet_nil ?_
  intro _ hw'
  obtain ⟨⟨ds, oss⟩, hw''⟩ := hw'
  subst hw''
  have hb2 := below_regrown w ds oss
  have HR2 : Hid (RoomRd (grow (redrawn w ds) oss) R l wa wc fb fc ka kc) := HR.out.below hb2
  have HB2 : Hid (Below w.heap.size w (grow (redrawn w ds) oss)) := hb2
  clear hb2 c0 c1 g0 g1 cS HR
  generalize grow (redrawn w ds) oss = w2 at *
  go_wp2_with fail
  go_loopw [4] (fun i wr => ∃ k : Nat, k ≤ l.length ∧ i = .int .i64 k ∧ Below w2.heap.size w2 wr) (fun i _ => l.length - (RowKit.intOf i).toNat)
  case atStart => exact ⟨0, by omega, rfl, Below.refl _ _⟩
  case round =>
    obtain ⟨k, hk, rfl, hbr⟩ := hrel
    obtain ⟨wo, hwo⟩ : ∃ wo, wo = wr := ⟨_, rfl⟩
    subst hwo
    have HRo : Hid (RoomRd wo R l wa wc fb fc ka kc) := HR2.out.below hbr
    have HBo : Hid (Below w2.heap.size w2 wo) := hbr
    clear hbr
    by_cases hlt : k < l.length
    · obtain ⟨b, o, kva, kvc, rfl, hbl, c3⟩ : ∃ b o kva kvc, wa = some ⟨b, o, none⟩ ∧ b < wo.heap.size ∧ wo.cell? ⟨b, o + k * 4 + 3, none⟩ = some (.slice kva (l.getD k nd0).kids.length kvc) := by
        obtain ⟨ao', cap', e1, _, _, hc⟩ := HRo.out.was
        cases e1
        rcases hc with h | ⟨b, o, e, hb, hc⟩
        · subst h; simp at hlt
        · obtain ⟨kv, hn⟩ := hc k hlt
          obtain ⟨kva, kvc, e2, _⟩ := hn.kids
          exact ⟨b, o, kva, kvc, e, hb, by rw [← e2]; exact hn.c3⟩
      obtain ⟨kb, gi, ci, rfl, hkb, hkc, hgi, hci1, hci2, hsp⟩ := HRo.out.kids k hlt
      unfold maxLen at hci2
      obtain ⟨K, hK⟩ : ∃ K, (l.getD k nd0).kids.length = K := ⟨_, rfl⟩
      rw [hK] at c3 hkc hci1 hsp
      have HSP : Hid (∀ j, j < 7 → wo.cell? ⟨gi, K + j, none⟩ = some (.int .i64 (7000 + (j : Int)))) := hsp
      have c0 := HRo.out.c0
      have c2 := HRo.out.c2
      have hRl := HRo.out.lt
      clear hsp hK
      go_wp2_with fail
      go_loopw [6] (fun i wq => ∃ j : Nat, j ≤ 7 ∧ i = .int .i64 j ∧ Below wo.heap.size wo wq) (fun i _ => 7 - (RowKit.intOf i).toNat)
      case atStart => exact ⟨0, by omega, rfl, Below.refl _ _⟩
      case round =>
        obtain ⟨j, hj, rfl, hbq⟩ := hrel
        by_cases hjl : j < 7
        · have d2 : wr.cell? ⟨R, 2, none⟩ = some (.slice (some ⟨kb, 0, none⟩) l.length kc) := (hbq.cell (p := ⟨R, 2, none⟩) hRl).trans c2
          have dk : wr.cell? ⟨kb, k, none⟩ = some (.slice (some ⟨gi, 0, none⟩) (K + 7) ci) := (hbq.cell (p := ⟨kb, k, none⟩) hkb).trans hkc
          have dg : wr.cell? ⟨gi, K + j, none⟩ = some (.int .i64 (7000 + (j : Int))) := (hbq.cell (p := ⟨gi, K + j, none⟩) hgi).trans (HSP.out j hjl)
          have HBQ : Hid (Below wo.heap.size wo wr) := hbq
          have hKj : (K : Int) + (j : Int) < (K : Int) + 7 := by omega
          clear hbq
          go_wp2_with fail
          exact ⟨⟨j + 1, by omega, by go_num, HBQ.out⟩, by simp [RowKit.intOf]; omega⟩
        · have hj7 : j = 7 := by omega
          subst hj7
          have HBQ : Hid (Below w2.heap.size w2 wr) := HBo.out.trans (hbq.mono HBo.out.size)
          clear hbq
          go_wp2_with fail
          exact ⟨⟨k + 1, by omega, by go_num, HBQ.out⟩, by simp [RowKit.intOf]; omega⟩
    · have hke : k = l.length := by omega
      subst hke
      go_wp2_with fail
      go_loopw [7] (fun i wq => ∃ j : Nat, j ≤ 7 ∧ i = .int .i64 j ∧ Below wo.heap.size wo wq) (fun i _ => 7 - (RowKit.intOf i).toNat)
      case atStart => exact ⟨0, by omega, rfl, Below.refl _ _⟩
      case round =>
        obtain ⟨j, hj, rfl, hbq⟩ := hrel
        have HRr : Hid (RoomRd wr R l wa wc fb fc ka kc) := HRo.out.below hbq
        have HBQ : Hid (Below w2.heap.size w2 wr) := HBo.out.trans (hbq.mono HBo.out.size)
        have HBq : Hid (Below wo.heap.size wo wr) := hbq
        clear hbq
        by_cases hjl : j < 7
        · have d1 := HRr.out.c1
          have dg : wr.cell? ⟨fb, (l.length + j) * 4, none⟩ = some (.int .i64 (7000 + (j : Int))) := by
            obtain ⟨ao', cap', e1, _, _, hc⟩ := HRr.out.full
            have hlen : (l ++ exL 7).length = l.length + 7 := by rw [List.length_append, exL_len]
            simp only [Value.slice.injEq] at e1
            obtain ⟨ea, _, _⟩ := e1
            rcases hc with h | ⟨b, o, e, hb, hc⟩
            · rw [h] at hlen; simp at hlen
            · rw [e] at ea
              cases ea
              obtain ⟨kv, hn⟩ := hc (l.length + j) (by omega)
              have e2 : (l ++ exL 7).getD (l.length + j) nd0 = ⟨7000 + (j : Int), 0, ⟨#[]⟩, []⟩ := by
                simp only [List.getD_eq_getElem?_getD]
                rw [List.getElem?_append_right (by omega)]
                simp [exL, hjl]
              rw [e2] at hn
              have := hn.c0
              rw [Nat.zero_add] at this
              exact this
          have hlj : (l.length : Int) + (j : Int) < (l.length : Int) + 7 := by omega
          go_wp2_with fail
          exact ⟨⟨j + 1, by omega, by go_num, HBq.out⟩, by simp [RowKit.intOf]; omega⟩
        · have hj7 : j = 7 := by omega
          subst hj7
          go_wp2_with fail
          go_ret
          exact ⟨rfl, HB2.out.trans (HBQ.out.mono HB2.out.size)⟩
end Go.Proofs.YtfdghbbanokopaaDoor

set_option linter.unusedSimpArgs false
set_option linter.unusedVariables false
namespace Go.Proofs.YtfdghbbanokopaaDoor
open Go.RowKit Go.Lib

structure SldX (p : Prop) : Prop where
  out : p
/-- The room, its list handed out. -/
structure RmX (W : World) (R fb fc : Nat) (l : List Nd) (q : List (Nd × Value)) (base : Nat) : Prop where
  rd : ∃ wa wc fb' fc' ka kc, RoomRd W R l wa wc fb' fc' ka kc
  c : ∃ wa wc vk, W.heap[R]? = some (.cells #[.slice wa l.length wc, .slice (some ⟨fb, 0, none⟩) (l.length + 7) fc, vk] 96 (0, 0))
  b : l.length + 7 ≤ fc ∧ fc ≤ maxLen
  lt : R < W.heap.size
  own : OwnP W base (.slice (some ⟨fb, 0, none⟩) l.length fc) q
  ap : KdAp q
  nodes : q.map (·.1) = l
theorem RmX.below {W W' : World} {R fb fc : Nat} {l : List Nd} {q : List (Nd × Value)} {base : Nat} (h : RmX W R fb fc l q base) (hb : Below W.heap.size W W') : RmX W' R fb fc l q base := by
  obtain ⟨wa, wc, fb', fc', ka, kc, h1⟩ := h.rd
  obtain ⟨xa, xc, vk, h2⟩ := h.c
  exact ⟨⟨wa, wc, fb', fc', ka, kc, h1.below hb⟩, ⟨xa, xc, vk, (hb.block _ h.lt).trans h2⟩, h.b, Nat.lt_of_lt_of_le h.lt hb.size, h.own.below hb, h.ap, h.nodes⟩
theorem RoomOk.x {w w' : World} {R : Nat} {l : List Nd} {vw vf vk : Value} {p : List (Nd × Value)} {ks : List Value} (h : RoomOk w R l vw vf vk p ks w') : ∃ fb fc, RmX w' R fb fc l (p.take l.length) w.heap.size := by
  obtain ⟨fb, fc, hv, h1, h2, h3⟩ := h.exp
  obtain ⟨q, hq1, hq2⟩ := h.was
  obtain ⟨wa, wc, hw⟩ := rw_form hq2.row
  have hql : q.length = l.length := by have := congrArg List.length hq1; simpa using this
  rw [hql] at hw
  have hb : l.length + 7 ≤ fc ∧ fc ≤ maxLen := by
    have hpl : p.length = l.length + 7 := by have := congrArg List.length h.nodes; simp [exL_len] at this; exact this
    have hr := h.full.row
    rw [hv, hpl] at hr
    rcases hr.2 with ⟨e, _⟩ | ⟨g, cap, cur, e, _, _, h5, h6, _⟩
    · cases e
    · cases e; exact ⟨h5, h6⟩
  refine ⟨fb, fc, h.rd, ⟨wa, wc, vk, by rw [h.blk, hw, hv]⟩, hb, lt_of_block h.blk, ownP_low h1 (by have := h.lo; omega), kdAp_take h.ap _, h2⟩
theorem RmX.expr {W : World} {R fb fc : Nat} {l : List Nd} {q : List (Nd × Value)} {base : Nat} (h : RmX W R fb fc l q base) : Calls Tryd.prog 32 #[.pointer (some ⟨R, 0, none⟩)] W fun e w' => e = .returned (.slice (some ⟨fb, 0, none⟩) l.length fc) ∧ Below W.heap.size W w' := by
  obtain ⟨wa, wc, vk, h2⟩ := h.c
  exact roomExpr' W R fb fc l.length wc wa (.slice none 0 0) (by simp [World.cell?, h2]) (by simp [World.cell?, h2]) h.b.1 h.b.2
theorem RmX.exprK {W W' : World} {R fb fc : Nat} {l : List Nd} {q : List (Nd × Value)} {base : Nat} (h : RmX W R fb fc l q base) (k : BkK W W') : Calls Tryd.prog 32 #[.pointer (some ⟨R, 0, none⟩)] W' fun e w' => e = .returned (.slice (some ⟨fb, 0, none⟩) l.length fc) ∧ Below W'.heap.size W' w' := by
  obtain ⟨wa, wc, vk, h2⟩ := h.c
  have h3 := k R _ h2 (fun cs e fr he => by cases he; exact ⟨by decide, by decide, by decide⟩)
  exact roomExpr' W' R fb fc l.length wc wa (.slice none 0 0) (by simp [World.cell?, h3]) (by simp [World.cell?, h3]) h.b.1 h.b.2
theorem RmX.read {W : World} {R fb fc : Nat} {l : List Nd} {q : List (Nd × Value)} {base : Nat} (h : RmX W R fb fc l q base) : Rd W (some ⟨fb, 0, none⟩) fc l := Nodes_of_own ⟨q, h.nodes, h.own⟩ (Nat.le_refl _)
theorem RmX.kept {W : World} {R fb fc : Nat} {l : List Nd} {q : List (Nd × Value)} {base : Nat} (h : RmX W R fb fc l q base) (hF : FitR l) : Calls Tryd.prog 36 #[.pointer (some ⟨R, 0, none⟩)] W fun e w' => e = .returned (.bool true) ∧ Below W.heap.size W w' := by
  obtain ⟨wa, wc, fb', fc', ka, kc, h1⟩ := h.rd
  exact kept_any h1 hF

theorem RwL.perm {w : World} {base : Nat} {e : TypeId} {s : Nat} {R R' : List Rw} (h : RwL w base e s R) (hp : R.Perm R') : RwL w base e s R' :=
  ⟨fun r hr => h.own r (hp.mem_iff.2 hr), (List.Perm.pairwise_iff (fun {x y} hxy b h1 h2 => hxy b h2 h1) hp).1 h.ap⟩

theorem RmX.low {W : World} {R fb fc : Nat} {l : List Nd} {q : List (Nd × Value)} {base base' : Nat} (h : RmX W R fb fc l q base) (hb : base' ≤ base) : RmX W R fb fc l q base' := ⟨h.rd, h.c, h.b, h.lt, ownP_low h.own hb, h.ap, h.nodes⟩
/-- The rooms, and what has been answered. -/
structure EkS (w W : World) (lo R1 f1 c1 R2 f2 c2 : Nat) (l m : List Nd) (q1 q2 : List (Nd × Value)) (A : List (Value × List (Nd × Value))) (T : List Rw) : Prop where
  b : Below w.heap.size w W
  x1 : RmX W R1 f1 c1 l q1 lo
  x2 : RmX W R2 f2 c2 m q2 lo
  an : Anss W lo W.heap.size A
  tx : RwL W lo 9 1 T
variable {w W W' : World} {lo R1 f1 c1 R2 f2 c2 : Nat} {l m : List Nd} {q1 q2 : List (Nd × Value)} {A : List (Value × List (Nd × Value))} {T : List Rw}
theorem EkS.below (h : EkS w W lo R1 f1 c1 R2 f2 c2 l m q1 q2 A T) (hb : Below W.heap.size W W') : EkS w W' lo R1 f1 c1 R2 f2 c2 l m q1 q2 A T :=
  ⟨h.b.trans (hb.mono h.b.size), h.x1.below hb, h.x2.below hb, (h.an.below hb).wide hb.size, h.tx.bel hb⟩
theorem EkS.ans (h : EkS w W lo R1 f1 c1 R2 f2 c2 l m q1 q2 A T) {v : Value} {q : List (Nd × Value)} {L : List Nd} (ho : q.map (·.1) = L ∧ OwnP W' W.heap.size v q ∧ KdAp q) (hb : Below W.heap.size W W') : EkS w W' lo R1 f1 c1 R2 f2 c2 l m q1 q2 (A ++ [(v, q)]) T :=
  ⟨h.b.trans (hb.mono h.b.size), h.x1.below hb, h.x2.below hb, (h.an.below hb).snoc ho.2.1 ho.2.2 hb.size, h.tx.bel hb⟩
theorem EkS.txt (h : EkS w W lo R1 f1 c1 R2 f2 c2 l m q1 q2 A T) {v : Value} {n : Nat} {xs : List Value} (ho : W'.ownsRow W.heap.size 9 1 v n xs) (hb : Below W.heap.size W W') : EkS w W' lo R1 f1 c1 R2 f2 c2 l m q1 q2 A (T ++ [(v, n, xs)]) :=
  ⟨h.b.trans (hb.mono h.b.size), h.x1.below hb, h.x2.below hb, (h.an.below hb).wide hb.size, (h.tx.bel hb).app ((RwL.one (r := (v, n, xs)) ho).low h.an.le) (fun r hr s hs g h1 h2 => by
    have e1 := (rw_block (h.tx.own r hr) h1).2.1
    rw [List.mem_singleton.1 hs] at h2
    have e2 := (rw_block ho h2).1
    omega)⟩
end Go.Proofs.YtfdghbbanokopaaDoor

set_option linter.unusedSimpArgs false
set_option linter.unusedVariables false
namespace Go.Proofs.YtfdghbbanokopaaDoor
open Go.RowKit Go.Lib

structure BkS (W3 W : World) (lo Q : Nat) (ht : Value) (VN VI : List Value) : Prop where
  ex : ∃ hn hi, BkG ht W lo Q hn hi VN VI ∧ Below lo W3 W ∧ BkK W3 W ∧ BkO Q (.slice none 0 0) (.slice none 0 0) hn hi W3 W
variable {W3 W W' : World} {lo Q : Nat} {ht : Value} {VN VI : List Value}
theorem BkS.start (h : W3.heap[Q]? = some (.cells #[.slice none 0 0, .slice none 0 0, ht, .slice none 0 0, .slice none 0 0, .slice none 0 0] 67 (0, 0))) : BkS W3 W3 lo Q ht [] [] :=
  ⟨_, _, ⟨h, World.ownsRow_nil _ _ _ _, World.ownsRow_nil _ _ _ _⟩, Below.refl _ _, BkK.refl _, BkO.refl _ _ _ _⟩
theorem BkS.below (h : BkS W3 W lo Q ht VN VI) (hlo : lo ≤ W3.heap.size) (hb : Below W.heap.size W W') : BkS W3 W' lo Q ht VN VI := by
  obtain ⟨hn, hi, h1, h2, h3, h4⟩ := h.ex
  have hs := h2.size
  refine ⟨hn, hi, ⟨(hb.block _ (lt_of_block h1.blk)).trans h1.blk, row_below h1.hN hb, row_below h1.hI hb⟩, h2.trans (hb.mono (by omega)), fun b o k1 k2 => ?_, ⟨fun b k1 k2 k3 k4 => ?_, h4.yn, h4.yi⟩⟩
  · have k3 := h3 b o k1 k2
    exact (hb.block b (lt_of_block k3)).trans k3
  · exact (hb.block b (by omega)).trans (h4.kp b k1 k2 k3 k4)
theorem BkS.six (h : BkS W3 W lo Q ht VN VI) {b : Nat} (hb : b < W3.heap.size) (hq : b ≠ Q) : W.heap[b]? = W3.heap[b]? := by
  obtain ⟨hn, hi, h1, h2, h3, h4⟩ := h.ex
  exact h4.kp b hb hq (by simp [Value.ownBlock]) (by simp [Value.ownBlock])
theorem BkS.expr (h : BkS W3 W lo Q ht VN VI) (hQ : lo ≤ Q) {vo : Option Addr} {cap n : Nat} {q : List (Nd × Value)} (hO : OwnP W3 lo (.slice vo n cap) q) (hn : q.length = n) (hVN : VN.length ≤ 100000000) (hVI : (VI.length + n) * 24 ≤ 140737488355328) :
    Calls Tryd.prog 37 #[.pointer (some ⟨Q, 0, none⟩), .slice vo n cap] W fun e w' => e = .returned (.tuple #[]) ∧ BkS W3 w' lo Q ht (VN ++ [.slice vo n cap]) (VI ++ q.map (·.2)) := by
  subst hn
  obtain ⟨hn, hi, h1, h2, h3, h4⟩ := h.ex
  refine (bookExprT_any ht W lo Q hn hi VN VI vo cap q h1 hQ (h3.ownP hO) hVN hVI).mono ?_
  rintro e w' ⟨he, hn', hi', k1, k2, k3, k4⟩
  exact ⟨he, hn', hi', k1, h2.trans k2, h3.trans k3, h4.trans h2.size k4⟩
theorem BkS.room (h : BkS W3 W lo Q ht VN VI) {R fb fc : Nat} {l : List Nd} {q : List (Nd × Value)} {base : Nat} (hx : RmX W3 R fb fc l q base) : Calls Tryd.prog 32 #[.pointer (some ⟨R, 0, none⟩)] W fun e w' => e = .returned (.slice (some ⟨fb, 0, none⟩) l.length fc) ∧ Below W.heap.size W w' := by
  obtain ⟨hn, hi, h1, h2, h3, h4⟩ := h.ex
  exact hx.exprK h3
theorem BkS.apart {RN RI RT : List Rw} (h : BkS W3 W lo Q ht (RN.map (·.1)) (RI.map (·.1))) (hlo : lo ≤ W3.heap.size) (hN : RwL W3 lo 50 4 RN) (hI : RwL W3 lo 3 1 RI) (hhT : W3.ownsRow lo 33 1 ht RT.length (RT.map (·.1))) (hT : RwL W3 lo 9 1 RT)
    (hlN : ∀ r ∈ RN, r.2.1 * 56 ≤ 140737488351232) (hnN : RN.length ≤ 1000) (hlI : ∀ r ∈ RI, r.2.1 * 8 ≤ 140737488351232) (hnI : RI.length * 24 ≤ 140737488355328) (hlT : ∀ r ∈ RT, r.2.1 ≤ 100000000) (hnT : RT.length ≤ 100000000) :
    Calls Tryd.prog 38 #[.pointer (some ⟨Q, 0, none⟩)] W fun e W' => e = .returned (.bool true) ∧ Below lo W3 W' := by
  obtain ⟨hn, hi, h1, h2, h3, h4⟩ := h.ex
  refine (bookINT_any W lo Q hn hi ht RN RI RT (by have := h2.size; omega) h1 (h3.rwl hN (by decide) (by decide) (by decide)) (h3.rwl hI (by decide) (by decide) (by decide)) (h3.row hhT (by decide) (by decide) (by decide)) (h3.rwl hT (by decide) (by decide) (by decide)) hlT hnT hlN hnN hlI hnI).mono ?_
  rintro e W' ⟨he, hb⟩
  exact ⟨he, h2.trans hb⟩
/-- A row of two. -/
theorem two_row {w : World} {a b : Value} {e : TypeId} {lo : Nat} (hlo : lo ≤ w.heap.size) : (w.alloc (.cells #[a, b] e)).ownsRow lo e 1 (.slice (some ⟨w.heap.size, 0, none⟩) 2 2) 2 [a, b] :=
  ⟨rfl, .inr ⟨w.heap.size, 2, #[a, b], rfl, hlo, Deep.blk_alloc_new _ _, Nat.le_refl _, by unfold maxLen; omega, rfl, rfl⟩⟩
end Go.Proofs.YtfdghbbanokopaaDoor

set_option linter.unusedSimpArgs false
set_option linter.unusedVariables false
namespace Go.Proofs.YtfdghbbanokopaaDoor
open Go.RowKit Go.Lib

/-- What is written: rows of headers and rows of rooms alone. -/
def BkJ (w w' : World) : Prop := ∀ (b : Nat) (o : Obj), w.heap[b]? = some o → (∀ cs e fr, o = .cells cs e fr → e ≠ 22 ∧ e ≠ 54) → w'.heap[b]? = some o
theorem BkJ.refl (w : World) : BkJ w w := fun _ _ h _ => h
theorem BkJ.trans {a b c : World} (h : BkJ a b) (k : BkJ b c) : BkJ a c := fun n o h1 h2 => k n o (h n o h1 h2) h2
theorem BkJ.alloc (w : World) (o : Obj) : BkJ w (w.alloc o) := fun b o' h _ => (Deep.blk_alloc_lt _ _ _ (lt_of_block h)).trans h
theorem BkJ.below {w w' : World} (hb : Below w.heap.size w w') : BkJ w w' := fun b o h _ => (hb.block b (lt_of_block h)).trans h
theorem BkJ.row {w w' : World} (h : BkJ w w') {base : Nat} {e : TypeId} {s n : Nat} {v : Value} {xs : List Value} (ho : w.ownsRow base e s v n xs) (h1 : e ≠ 22) (h2 : e ≠ 54) : w'.ownsRow base e s v n xs :=
  rw_same ho fun b hb => by
    obtain ⟨_, _, cap, cur, _, hc, _⟩ := rw_block ho hb
    rw [hc]
    exact h b _ hc fun cs e' fr he => by cases he; exact ⟨h1, h2⟩
theorem BkJ.ownP {w w' : World} (h : BkJ w w') {base : Nat} {v : Value} {q : List (Nd × Value)} (ho : OwnP w base v q) : OwnP w' base v q :=
  ⟨h.row ho.row (by decide) (by decide), fun y hy => h.row (ho.kids y hy) (by decide) (by decide)⟩
theorem BkJ.rwl {w w' : World} (h : BkJ w w') {base : Nat} {e : TypeId} {s : Nat} {R : List Rw} (ho : RwL w base e s R) (h1 : e ≠ 22) (h2 : e ≠ 54) : RwL w' base e s R :=
  ⟨fun r hr => h.row (ho.own r hr) h1 h2, ho.ap⟩
theorem BkJ.grown {w w7 : World} {o : Obj} {base : Nat} {e : TypeId} {s n : Nat} {v : Value} {xs : List Value} (ho : w.ownsRow base e s v n xs) (he : e = 22 ∨ e = 54) (hg : (w.alloc o).grownBy w7 v.ownBlock) : BkJ w w7 := fun b o' h hty => by
  have hl := lt_of_block h
  rw [hg.block b (by rw [World.size_alloc]; omega) (fun e' => ?_), Deep.blk_alloc_lt _ _ _ hl]
  · exact h
  · obtain ⟨_, _, cap, cur, _, hc, _⟩ := rw_block ho e'.symm
    rw [hc] at h
    injection h with h
    have := hty _ _ _ h.symm
    rcases he with rfl | rfl
    · exact this.1 rfl
    · exact this.2 rfl

/-- A room. -/
structure Rm where
  R : Nat
  fb : Nat
  fc : Nat
  l : List Nd
  vw : Value
  vk : Value
  p : List (Nd × Value)
  ks : List Value
def Rm.ptr (r : Rm) : Value := .pointer (some ⟨r.R, 0, none⟩)
def Rm.sl (r : Rm) : Value := .slice (some ⟨r.fb, 0, none⟩) r.l.length r.fc
def Rm.an (r : Rm) : Value × List (Nd × Value) := (r.sl, r.p.take r.l.length)
/-- The room r lies in W, made since w. -/
def RmO (w W : World) (r : Rm) : Prop := RoomOk w r.R r.l r.vw (.slice (some ⟨r.fb, 0, none⟩) (r.l.length + 7) r.fc) r.vk r.p r.ks W
theorem RmO.x {w W : World} {r : Rm} (h : RmO w W r) : RmX W r.R r.fb r.fc r.l (r.p.take r.l.length) w.heap.size := by
  obtain ⟨fb, fc, hv, h1, h2, h3⟩ := RoomOk.exp h
  cases hv
  obtain ⟨q, hq1, hq2⟩ := RoomOk.was h
  obtain ⟨wa, wc, hw⟩ := rw_form hq2.row
  have hql : q.length = r.l.length := by have := congrArg List.length hq1; simpa using this
  rw [hql] at hw
  have hb : r.l.length + 7 ≤ r.fc ∧ r.fc ≤ maxLen := by
    have hpl : r.p.length = r.l.length + 7 := by have := congrArg List.length (RoomOk.nodes h); simp [exL_len] at this; exact this
    have hr := (RoomOk.full h).row
    rw [hpl] at hr
    rcases hr.2 with ⟨e, _⟩ | ⟨g, cap, cur, e, _, _, h5, h6, _⟩
    · cases e
    · cases e; exact ⟨h5, h6⟩
  refine ⟨RoomOk.rd h, ⟨wa, wc, r.vk, by rw [RoomOk.blk h, hw]⟩, hb, lt_of_block (RoomOk.blk h), ownP_low h1 (by have := RoomOk.lo h; omega), kdAp_take (RoomOk.ap h) _, h2⟩
theorem RmO.keep {w W W' : World} {r : Rm} (h : RmO w W r) (k : BkJ W W') (hb : Below w.heap.size w W') : RmO w W' r := by
  obtain ⟨q, hq1, hq2⟩ := RoomOk.was h
  refine ⟨RoomOk.lo h, ?_, ⟨q, hq1, k.ownP hq2⟩, k.ownP (RoomOk.full h), RoomOk.nodes h, k.row (RoomOk.klist h) (by decide) (by decide), fun i hi => k.row (RoomOk.kids h i hi) (by decide) (by decide), hb, RoomOk.ap h⟩
  exact k _ _ (RoomOk.blk h) fun cs e fr he => by cases he; exact ⟨by decide, by decide⟩
theorem roomO {w1 W' : World} {R : Nat} {l : List Nd} {vw vf vk : Value} {p : List (Nd × Value)} {ks : List Value} (h : RoomOk w1 R l vw vf vk p ks W') : ∃ r : Rm, r.R = R ∧ r.l = l ∧ RmO w1 W' r ∧ OwnP W' w1.heap.size r.sl (r.p.take r.l.length) ∧ KdAp (r.p.take r.l.length) := by
  obtain ⟨fb, fc, hv, h1, h2, h3⟩ := h.exp
  subst hv
  exact ⟨⟨R, fb, fc, l, vw, vk, p, ks⟩, rfl, rfl, h, ownP_low h1 (by have := h.lo; omega), kdAp_take h.ap _⟩
theorem RmO.since {w w1 W : World} {r : Rm} (h : RmO w1 W r) (hb : Below w.heap.size w w1) : RmO w W r := by
  obtain ⟨q, hq1, hq2⟩ := RoomOk.was h
  have hs := hb.size
  exact ⟨Nat.le_trans hs (RoomOk.lo h), RoomOk.blk h, ⟨q, hq1, ownP_low hq2 hs⟩, RoomOk.full h, RoomOk.nodes h, RoomOk.klist h, RoomOk.kids h, hb.trans ((RoomOk.below h).mono hs), RoomOk.ap h⟩
theorem Anss.keepJ {W W' : World} {lo hi : Nat} {A : List (Value × List (Nd × Value))} (h : Anss W lo hi A) (k : BkJ W W') : Anss W' lo hi A :=
  ⟨k.rwl h.kids (by decide) (by decide), k.rwl h.rows (by decide) (by decide), h.lk, h.lr, h.le⟩

/-- The rooms that have been made since w. -/
structure Rms (w W : World) (rs : List Rm) : Prop where
  b : Below w.heap.size w W
  ok : ∀ r ∈ rs, RmO w W r
  an : Anss W w.heap.size W.heap.size (rs.map Rm.an)
theorem Rms.nil (w : World) : Rms w w [] := ⟨Below.refl _ _, by simp, Anss.nil _ _⟩
theorem Rms.keep {w W W' : World} {rs : List Rm} (h : Rms w W rs) (k : BkJ W W') (hb : Below w.heap.size w W') (hs : W.heap.size ≤ W'.heap.size) : Rms w W' rs :=
  ⟨hb, fun r hr => (h.ok r hr).keep k hb, (h.an.keepJ k).wide hs⟩
theorem Rms.below {w W W' : World} {rs : List Rm} (h : Rms w W rs) (hb : Below W.heap.size W W') : Rms w W' rs :=
  h.keep (BkJ.below hb) (h.b.trans (hb.mono h.b.size)) hb.size
theorem Rms.snoc {w W W' : World} {rs : List Rm} (h : Rms w W rs) {r : Rm} (ho : RmO W W' r) (hq : OwnP W' W.heap.size r.sl (r.p.take r.l.length)) (ha : KdAp (r.p.take r.l.length)) : Rms w W' (rs ++ [r]) := by
  have hb : Below W.heap.size W W' := RoomOk.below ho
  have h' := h.below hb
  refine ⟨h'.b, fun x hx => ?_, ?_⟩
  · rcases List.mem_append.1 hx with hx | hx
    · exact h'.ok x hx
    · rw [List.mem_singleton.1 hx]; exact ho.since h.b
  · rw [List.map_append]
    exact (h.an.below hb).snoc hq ha hb.size
theorem Rms.x {w W : World} {rs : List Rm} (h : Rms w W rs) {r : Rm} (hr : r ∈ rs) : RmX W r.R r.fb r.fc r.l (r.p.take r.l.length) w.heap.size := (h.ok r hr).x
/-- The rows of headers read as the rooms' lists. -/
theorem Rms.lst {w W : World} {rs : List Rm} (h : Rms w W rs) {base : Nat} {ao : Option Addr} {cap : Nat} (hr : W.ownsRow base 22 1 (.slice ao rs.length cap) rs.length (rs.map Rm.sl)) : Lst W W.heap.size (.slice ao (rs.map (·.l)).length cap) (rs.map (·.l)) := by
  rcases hr.2 with ⟨e, h0⟩ | ⟨g, cap', cur, e, hb, hg, h1, h2, h3, h4⟩
  · have : rs = [] := List.length_eq_zero_iff.1 h0
    subst this
    cases e
    exact ⟨none, 0, rfl, by simp, by unfold maxLen; omega, .inl rfl⟩
  · cases e
    refine ⟨_, _, rfl, by simpa using h1, h2, .inr ⟨g, 0, rfl, lt_of_block hg, fun i hi => ?_⟩⟩
    have hi' : i < rs.length := by simpa using hi
    refine ⟨rs[i].sl, ?_, ?_⟩
    · rw [Nat.zero_add]
      exact (rdr_own hr).cell (b := g) rfl (by simp [hi'])
    · have e1 : (rs.map (·.l)).getD i [] = rs[i].l := by simp [hi']
      rw [e1]
      exact (h.x (List.getElem_mem hi')).read
end Go.Proofs.YtfdghbbanokopaaDoor
