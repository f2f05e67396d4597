/-
  BkR, RmE, RmKpW.
-/
import Derived.Shelf.Unicode.DecodeSlow
import Derived.Laws.RangeAny
import Derived.Shelf.Small.Bits
import Derived.Shelf.Strconv.Itoa0
import Derived.Shelf.Unicode.Decode
import Derived.Shelf.Unicode.DecodeAny
import Derived.Shelf.Slices.CompactS
import Derived.Shelf.Slices.Cells
import Derived.Ground.SlsfProg
import Derived.Shelf.SlSortCmp.Insertion
import Derived.Shelf.SlSortCmp.SiftDown1
import Derived.Shelf.SlSortCmp.HeapSort1
import Derived.Shelf.SlSortCmp.Insertion1
import Derived.Shelf.SlSortCmp.Median1
import Derived.Shelf.SlSortCmp.Pivot1
import Derived.Shelf.SlSortCmp.ReverseRange1
import Derived.Shelf.SlSortCmp.PartialInsertion1
import Derived.Shelf.SlSortCmp.PartitionEqual1
import Derived.Shelf.SlSortCmp.Partition1
import Derived.Shelf.SlSortCmp.Pdq1
import Derived.Shelf.SlSortCmp.Whole1
import Derived.Test.YtokfkobhdjbciaaDoorProg
import Derived.WalkKit
import Derived.Deep.DeepFit
import Derived.Lib.OthersKept
import Derived.Lib.RuneCountTail
import Derived.Deep.AppendLies
import Derived.Deep.OwnRows
import Derived.Laws.AppendOwnNone
import Derived.Deep.QuietTactic
import Derived.BigQuiet
import Derived.Deep.RegionWith
import Derived.Laws.DeepStrings4
import Derived.Below
import Derived.Lib.QuietBelow
import Derived.StillTail
import Derived.Deep.RegionLaw
import Derived.Test.YtokfkobhdjbciaaDoorQ01
import Derived.Test.YtokfkobhdjbciaaDoorQ02
import Derived.Test.YtokfkobhdjbciaaDoorQ03
import Derived.Test.YtokfkobhdjbciaaDoorQ04
import Derived.Test.YtokfkobhdjbciaaDoorQ05
import Derived.Test.YtokfkobhdjbciaaDoorQ06
import Derived.Test.YtokfkobhdjbciaaDoorQ07
import Derived.Test.YtokfkobhdjbciaaDoorQ08
import Derived.Test.YtokfkobhdjbciaaDoorQ09
import Derived.Test.YtokfkobhdjbciaaDoorQ10
import Derived.Test.YtokfkobhdjbciaaDoorQ13
import Derived.Test.YtokfkobhdjbciaaDoorQ16
import Derived.Test.YtokfkobhdjbciaaDoorQ17
import Derived.Test.YtokfkobhdjbciaaDoorQ18
import Derived.Test.YtokfkobhdjbciaaDoorQ19
import Derived.Test.YtokfkobhdjbciaaDoorQ20
set_option linter.unusedSimpArgs false
set_option linter.unusedVariables false
namespace Go.Proofs.YtokfkobhdjbciaaDoor
open Go.RowKit Go.Lib Go.Sort

theorem own_low {w : World} {base base' : Nat} {e : TypeId} {s n : Nat} {v : Value} {xs : List Value} (h : w.ownsRow base e s v n xs) (hb : base' ≤ base) : w.ownsRow base' e s v n xs :=
  ⟨h.1, h.2.imp id fun ⟨g, cap, cur, h1, h2, h3⟩ => ⟨g, cap, cur, h1, by omega, h3⟩⟩
theorem ownP_low {w : World} {base base' : Nat} {v : Value} {q : List (Nd × Value)} (h : OwnP w base v q) (hb : base' ≤ base) : OwnP w base' v q := ⟨own_low h.row hb, fun y hy => own_low (h.kids y hy) hb⟩
/-- The rows of kids. -/
def kR (q : List (Nd × Value)) : List Rw := q.map fun y => (y.2, y.1.kids.length, y.1.kids.map (Value.int .i64))
theorem kR_v (q : List (Nd × Value)) : (kR q).map (·.1) = q.map (·.2) := by simp [kR]
/-- Rows one after the other. -/
def LiesR (R : List Rw) (lo hi : Nat) : Prop := ∀ r ∈ R, ∀ b, r.1.ownBlock = some b → lo ≤ b ∧ b < hi
theorem RwL.app {w : World} {base : Nat} {e : TypeId} {s : Nat} {R S : List Rw} (h : RwL w base e s R) (k : RwL w base e s S) (hd : ∀ r ∈ R, ∀ t ∈ S, ∀ b, r.1.ownBlock = some b → t.1.ownBlock ≠ some b) : RwL w base e s (R ++ S) :=
  ⟨fun r hr => (List.mem_append.1 hr).elim (h.own r) (k.own r), List.pairwise_append.2 ⟨h.ap, k.ap, hd⟩⟩
theorem lies_apart {R S : List Rw} {a b c d : Nat} (h : LiesR R a b) (k : LiesR S c d) (hbc : b ≤ c ∨ d ≤ a) : ∀ r ∈ R, ∀ t ∈ S, ∀ g, r.1.ownBlock = some g → t.1.ownBlock ≠ some g := fun r hr t ht g h1 h2 => by
  have := h r hr g h1; have := k t ht g h2; omega
theorem RwL.one {w : World} {base : Nat} {e : TypeId} {s : Nat} {r : Rw} (h : w.ownsRow base e s r.1 r.2.1 r.2.2) : RwL w base e s [r] := ⟨fun x hx => by simp at hx; subst hx; exact h, List.pairwise_singleton _ _⟩
theorem RwL.lies {w : World} {base : Nat} {e : TypeId} {s : Nat} {R : List Rw} (h : RwL w base e s R) : LiesR R base w.heap.size := fun r hr b hb => by
  obtain ⟨h1, h2, _⟩ := rw_block (h.own r hr) hb
  exact ⟨h1, h2⟩
theorem RwL.low {w : World} {base base' : Nat} {e : TypeId} {s : Nat} {R : List Rw} (h : RwL w base e s R) (hb : base' ≤ base) : RwL w base' e s R := ⟨fun r hr => own_low (h.own r hr) hb, h.ap⟩
theorem RwL.bel {w w' : World} {base : Nat} {e : TypeId} {s : Nat} {R : List Rw} (h : RwL w base e s R) (hb : Below w.heap.size w w') : RwL w' base e s R := h.keep fun r hr b hv => hb.block b (rw_block (h.own r hr) hv).2.1
theorem LiesR.app {R S : List Rw} {a b : Nat} (h : LiesR R a b) (k : LiesR S a b) : LiesR (R ++ S) a b := fun r hr => (List.mem_append.1 hr).elim (h r) (k r)
theorem LiesR.wide {R : List Rw} {a b a' b' : Nat} (h : LiesR R a b) (h1 : a' ≤ a) (h2 : b ≤ b') : LiesR R a' b' := fun r hr g hg => by have := h r hr g hg; omega
theorem kR_own {w : World} {base : Nat} {v : Value} {q : List (Nd × Value)} (h : OwnP w base v q) (ha : KdAp q) : RwL w base 3 1 (kR q) :=
  ⟨fun r hr => by
    obtain ⟨y, hy, rfl⟩ := List.mem_map.1 hr
    exact h.kids y hy, List.pairwise_map.2 ha⟩
/-- Answers: expressions that were made one after the other, from lo to hi. -/
structure Anss (W : World) (lo hi : Nat) (A : List (Value × List (Nd × Value))) : Prop where
  kids : RwL W lo 3 1 (A.flatMap fun a => kR a.2)
  rows : RwL W lo 67 4 (A.map fun a => (a.1, a.2.length, ndCells a.2))
  lk : LiesR (A.flatMap fun a => kR a.2) lo hi
  lr : LiesR (A.map fun a => (a.1, a.2.length, ndCells a.2)) lo hi
  le : lo ≤ hi
theorem Anss.nil (W : World) (z : Nat) : Anss W z z [] := ⟨⟨by simp, List.Pairwise.nil⟩, ⟨by simp, List.Pairwise.nil⟩, (by intro r hr; simp at hr), (by intro r hr; simp at hr), Nat.le_refl _⟩
theorem Anss.below {W W' : World} {lo hi : Nat} {A : List (Value × List (Nd × Value))} (h : Anss W lo hi A) (hb : Below W.heap.size W W') : Anss W' lo hi A :=
  ⟨h.kids.bel hb, h.rows.bel hb, h.lk, h.lr, h.le⟩
theorem Anss.wide {W : World} {lo hi hi' : Nat} {A : List (Value × List (Nd × Value))} (h : Anss W lo hi A) (hb : hi ≤ hi') : Anss W lo hi' A :=
  ⟨h.kids, h.rows, h.lk.wide (Nat.le_refl _) hb, h.lr.wide (Nat.le_refl _) hb, Nat.le_trans h.le hb⟩
theorem Anss.snoc {W : World} {lo hi : Nat} {A : List (Value × List (Nd × Value))} {v : Value} {q : List (Nd × Value)} (h : Anss W lo hi A) (ho : OwnP W hi v q) (ha : KdAp q) (hw : hi ≤ W.heap.size) : Anss W lo W.heap.size (A ++ [(v, q)]) := by
  have k1 := kR_own ho ha
  have r1 : RwL W hi 67 4 [((v, q.length, ndCells q) : Rw)] := RwL.one ho.row
  have e1 : ((A ++ [(v, q)]).flatMap fun a => kR a.2) = (A.flatMap fun a => kR a.2) ++ kR q := by simp
  have e2 : ((A ++ [(v, q)]).map fun a => ((a.1, a.2.length, ndCells a.2) : Rw)) = (A.map fun a => (a.1, a.2.length, ndCells a.2)) ++ [(v, q.length, ndCells q)] := by simp
  refine ⟨?_, ?_, ?_, ?_, Nat.le_trans h.le hw⟩
  · rw [e1]; exact h.kids.app (k1.low h.le) (lies_apart h.lk k1.lies (.inl (Nat.le_refl _)))
  · rw [e2]; exact h.rows.app (r1.low h.le) (lies_apart h.lr r1.lies (.inl (Nat.le_refl _)))
  · rw [e1]; exact (h.lk.wide (Nat.le_refl _) hw).app (k1.lies.wide h.le (Nat.le_refl _))
  · rw [e2]; exact (h.lr.wide (Nat.le_refl _) hw).app (r1.lies.wide h.le (Nat.le_refl _))
theorem Anss.ownP {W : World} {lo hi : Nat} {A : List (Value × List (Nd × Value))} (h : Anss W lo hi A) {a : Value × List (Nd × Value)} (ha : a ∈ A) : OwnP W lo a.1 a.2 :=
  ⟨h.rows.own _ (List.mem_map_of_mem ha), fun y hy => h.kids.own ((y.2, y.1.kids.length, y.1.kids.map (Value.int .i64)) : Rw) (List.mem_flatMap.2 ⟨a, ha, List.mem_map_of_mem (f := fun y : Nd × Value => ((y.2, y.1.kids.length, y.1.kids.map (Value.int .i64)) : Rw)) hy⟩)⟩
end Go.Proofs.YtokfkobhdjbciaaDoor

set_option linter.unusedSimpArgs false
set_option linter.unusedVariables false
namespace Go.Proofs.YtokfkobhdjbciaaDoor
open Go.RowKit Go.Lib Go.Sort

theorem own_pre {w : World} {base : Nat} {e : TypeId} {s n n' g cap : Nat} {xs : List Value} (h : w.ownsRow base e s (.slice (some ⟨g, 0, none⟩) n cap) n xs) (hn : n' ≤ n) : w.ownsRow base e s (.slice (some ⟨g, 0, none⟩) n' cap) n' (xs.take (n' * s)) := by
  obtain ⟨h1, h2⟩ := h
  have hm := Nat.mul_le_mul_right s hn
  refine ⟨by rw [List.length_take, h1]; exact Nat.min_eq_left hm, ?_⟩
  rcases h2 with ⟨h2, _⟩ | ⟨g', cap', cur, e1, hb, hg, hc, hx, hs, ht⟩
  · cases h2
  · cases e1
    exact .inr ⟨g, cap, cur, rfl, hb, hg, by omega, hx, hs, by rw [← ht, List.take_take, Nat.min_eq_left hm]⟩
theorem ndCells_take : ∀ (p : List (Nd × Value)) (n : Nat), (ndCells p).take (n * 4) = ndCells (p.take n)
  | [], n => by simp [ndCells]
  | y :: p, 0 => by simp [ndCells]
  | y :: p, n + 1 => by
    have ih := ndCells_take p n
    have e : (n + 1) * 4 = n * 4 + 4 := by omega
    rw [e]
    simp only [List.take_succ_cons, ndCells, List.flatMap_cons] at ih ⊢
    simp [ih]
theorem RoomOk.exp {w w' : World} {R : Nat} {l : List Nd} {vw vf vk : Value} {p : List (Nd × Value)} {ks : List Value} (h : RoomOk w R l vw vf vk p ks w') : ∃ fb fc, vf = .slice (some ⟨fb, 0, none⟩) (l.length + 7) fc ∧ OwnP w' (R + 1) (.slice (some ⟨fb, 0, none⟩) l.length fc) (p.take l.length) ∧ (p.take l.length).map (·.1) = l ∧ (p.take l.length).length = l.length := by
  have hpl : p.length = l.length + 7 := by have := congrArg List.length h.nodes; simp [exL_len] at this; exact this
  obtain ⟨fb, fc, hv, _, _⟩ := rw_some h.full.row (by omega)
  rw [hpl] at hv
  subst hv
  have hr := h.full.row
  rw [hpl] at hr
  have ht : (p.take l.length).length = l.length := by rw [List.length_take]; omega
  refine ⟨fb, fc, rfl, ⟨?_, fun y hy => h.full.kids y (List.mem_of_mem_take hy)⟩, by rw [List.map_take, h.nodes]; simp, ht⟩
  rw [ht, ← ndCells_take]
  exact own_pre hr (by omega)
set_option maxRecDepth 20000 in
set_option maxHeartbeats 1000000 in
/-- Room's Expr, of its block alone. -/
theorem roomExpr' (w : World) (R fb fc n wc : Nat) (wa : Option Addr) (vk : Value) (c0 : w.cell? ⟨R, 0, none⟩ = some (.slice wa n wc)) (c1 : w.cell? ⟨R, 1, none⟩ = some (.slice (some ⟨fb, 0, none⟩) (n + 7) fc)) (hf1 : n + 7 ≤ fc) (hf2 : fc ≤ maxLen) :
    Calls Tryd.prog 26 #[.pointer (some ⟨R, 0, none⟩)] w fun e w' => e = .returned (.slice (some ⟨fb, 0, none⟩) n fc) ∧ Below w.heap.size w w' := by
  unfold maxLen at hf2
  have hcut : (n : Int) ≤ (fc : Int) := by omega
  go_enter Tryd.func26, Tryd.ntmps26
  go_wp2_with fail
  go_quiet (fail)
  go_wp2_with fail
  go_ret
  exact ⟨rfl, below_drewN' (Below.refl _ _) _⟩
theorem kdAp_take {p : List (Nd × Value)} (h : KdAp p) (n : Nat) : KdAp (p.take n) := List.Pairwise.sublist (List.take_sublist n p) h
end Go.Proofs.YtokfkobhdjbciaaDoor

set_option linter.unusedSimpArgs false
set_option linter.unusedVariables false
namespace Go.Proofs.YtokfkobhdjbciaaDoor
open Go.RowKit Go.Lib Go.Sort

set_option maxRecDepth 20000 in
set_option maxHeartbeats 2000000 in
theorem kept_any {w : World} {R : Nat} {l : List Nd} {wa : Option Addr} {wc fb fc : Nat} {ka : Option Addr} {kc : Nat} (h : RoomRd w R l wa wc fb fc ka kc) (hF : FitR l) :
    Calls Tryd.prog 27 #[.pointer (some ⟨R, 0, none⟩)] w fun e w' => e = .returned (.bool true) ∧ Below w.heap.size w w' := by
  have c0 := h.c0
  have c1 := h.c1
  obtain ⟨hf1, hf2⟩ := h.full.bound
  rw [List.length_append, exL_len] at hf1
  unfold maxLen at hf2
  obtain ⟨hw1, hw2⟩ := h.was.bound
  unfold maxLen at hw2
  obtain ⟨hk1, hk2⟩ := h.kcap
  unfold maxLen at hk2
  have hfl := hF.len
  have hcut : (l.length : Int) ≤ (fc : Int) := by omega
  have HF : Hid (FitR l) := hF
  have HR : Hid (RoomRd w R l wa wc fb fc ka kc) := h
  have g0 := cell_regrown c0
  have g1 := cell_regrown c1
  have cS : Hid (∀ d os, Calls Tryd.prog 12 #[.slice (some ⟨fb, 0, none⟩) l.length fc, .slice wa l.length wc] (grow (redrawn w d) os) fun e w'' => e = .returned (.bool true) ∧ ∃ p : Regrown, w'' = grow (redrawn w p.d) p.os) := fun d os =>
    Calls.regrown_of (sameR ((HR.out.full.prefix).below (below_regrown w d os) (below_regrown w d os).size) (HR.out.was.below (below_regrown w d os) (below_regrown w d os).size) true (by simp))
  have hne : ((l.length : Int) + 7 != (l.length : Int) + 7) = false := by simp
  clear h hF
  go_enter Tryd.func27, Tryd.ntmps27
  go_wp2_with fail
  refine wp_region_quiet_below (by kernel_rfl) (by kernel_rfl) ?_
  iterate 22 (go_big_quiet_step ((go_at_call 12; exact cS.out _ _)))
  refine wpQuiet_nil ?_
  intro _ hw'
  obtain ⟨⟨ds, oss⟩, hw''⟩ := hw'
  subst hw''
  have hb2 := below_regrown w ds oss
  have HR2 : Hid (RoomRd (grow (redrawn w ds) oss) R l wa wc fb fc ka kc) := HR.out.below hb2
  have HB2 : Hid (Below w.heap.size w (grow (redrawn w ds) oss)) := hb2
  clear hb2 c0 c1 g0 g1 cS HR
  generalize grow (redrawn w ds) oss = w2 at *
  go_wp2_with fail
  go_loopw [4] (fun i wr => ∃ k : Nat, k ≤ l.length ∧ i = .int .i64 k ∧ Below w2.heap.size w2 wr) (fun i _ => l.length - (RowKit.intOf i).toNat)
  case atStart => exact ⟨0, by omega, rfl, Below.refl _ _⟩
  case round =>
    obtain ⟨k, hk, rfl, hbr⟩ := hrel
    obtain ⟨wo, hwo⟩ : ∃ wo, wo = wr := ⟨_, rfl⟩
    subst hwo
    have HRo : Hid (RoomRd wo R l wa wc fb fc ka kc) := HR2.out.below hbr
    have HBo : Hid (Below w2.heap.size w2 wo) := hbr
    clear hbr
    by_cases hlt : k < l.length
    · obtain ⟨b, o, kva, kvc, rfl, hbl, c3⟩ : ∃ b o kva kvc, wa = some ⟨b, o, none⟩ ∧ b < wo.heap.size ∧ wo.cell? ⟨b, o + k * 4 + 3, none⟩ = some (.slice kva (l.getD k nd0).kids.length kvc) := by
        obtain ⟨ao', cap', e1, _, _, hc⟩ := HRo.out.was
        cases e1
        rcases hc with h | ⟨b, o, e, hb, hc⟩
        · subst h; simp at hlt
        · obtain ⟨kv, hn⟩ := hc k hlt
          obtain ⟨kva, kvc, e2, _⟩ := hn.kids
          exact ⟨b, o, kva, kvc, e, hb, by rw [← e2]; exact hn.c3⟩
      obtain ⟨kb, gi, ci, rfl, hkb, hkc, hgi, hci1, hci2, hsp⟩ := HRo.out.kids k hlt
      unfold maxLen at hci2
      obtain ⟨K, hK⟩ : ∃ K, (l.getD k nd0).kids.length = K := ⟨_, rfl⟩
      rw [hK] at c3 hkc hci1 hsp
      have HSP : Hid (∀ j, j < 7 → wo.cell? ⟨gi, K + j, none⟩ = some (.int .i64 (7000 + (j : Int)))) := hsp
      have c0 := HRo.out.c0
      have c2 := HRo.out.c2
      have hRl := HRo.out.lt
      clear hsp hK
      go_wp2_with fail
      go_loopw [6] (fun i wq => ∃ j : Nat, j ≤ 7 ∧ i = .int .i64 j ∧ Below wo.heap.size wo wq) (fun i _ => 7 - (RowKit.intOf i).toNat)
      case atStart => exact ⟨0, by omega, rfl, Below.refl _ _⟩
      case round =>
        obtain ⟨j, hj, rfl, hbq⟩ := hrel
        by_cases hjl : j < 7
        · have d2 : wr.cell? ⟨R, 2, none⟩ = some (.slice (some ⟨kb, 0, none⟩) l.length kc) := (hbq.cell (p := ⟨R, 2, none⟩) hRl).trans c2
          have dk : wr.cell? ⟨kb, k, none⟩ = some (.slice (some ⟨gi, 0, none⟩) (K + 7) ci) := (hbq.cell (p := ⟨kb, k, none⟩) hkb).trans hkc
          have dg : wr.cell? ⟨gi, K + j, none⟩ = some (.int .i64 (7000 + (j : Int))) := (hbq.cell (p := ⟨gi, K + j, none⟩) hgi).trans (HSP.out j hjl)
          have HBQ : Hid (Below wo.heap.size wo wr) := hbq
          have hKj : (K : Int) + (j : Int) < (K : Int) + 7 := by omega
          clear hbq
          go_wp2_with fail
          exact ⟨⟨j + 1, by omega, by go_num, HBQ.out⟩, by simp [RowKit.intOf]; omega⟩
        · have hj7 : j = 7 := by omega
          subst hj7
          have HBQ : Hid (Below w2.heap.size w2 wr) := HBo.out.trans (hbq.mono HBo.out.size)
          clear hbq
          go_wp2_with fail
          exact ⟨⟨k + 1, by omega, by go_num, HBQ.out⟩, by simp [RowKit.intOf]; omega⟩
    · have hke : k = l.length := by omega
      subst hke
      go_wp2_with fail
      go_loopw [7] (fun i wq => ∃ j : Nat, j ≤ 7 ∧ i = .int .i64 j ∧ Below wo.heap.size wo wq) (fun i _ => 7 - (RowKit.intOf i).toNat)
      case atStart => exact ⟨0, by omega, rfl, Below.refl _ _⟩
      case round =>
        obtain ⟨j, hj, rfl, hbq⟩ := hrel
        have HRr : Hid (RoomRd wr R l wa wc fb fc ka kc) := HRo.out.below hbq
        have HBQ : Hid (Below w2.heap.size w2 wr) := HBo.out.trans (hbq.mono HBo.out.size)
        have HBq : Hid (Below wo.heap.size wo wr) := hbq
        clear hbq
        by_cases hjl : j < 7
        · have d1 := HRr.out.c1
          have dg : wr.cell? ⟨fb, (l.length + j) * 4, none⟩ = some (.int .i64 (7000 + (j : Int))) := by
            obtain ⟨ao', cap', e1, _, _, hc⟩ := HRr.out.full
            have hlen : (l ++ exL 7).length = l.length + 7 := by rw [List.length_append, exL_len]
            simp only [Value.slice.injEq] at e1
            obtain ⟨ea, _, _⟩ := e1
            rcases hc with h | ⟨b, o, e, hb, hc⟩
            · rw [h] at hlen; simp at hlen
            · rw [e] at ea
              cases ea
              obtain ⟨kv, hn⟩ := hc (l.length + j) (by omega)
              have e2 : (l ++ exL 7).getD (l.length + j) nd0 = ⟨7000 + (j : Int), 0, ⟨#[]⟩, []⟩ := by
                simp only [List.getD_eq_getElem?_getD]
                rw [List.getElem?_append_right (by omega)]
                simp [exL, hjl]
              rw [e2] at hn
              have := hn.c0
              rw [Nat.zero_add] at this
              exact this
          have hlj : (l.length : Int) + (j : Int) < (l.length : Int) + 7 := by omega
          go_wp2_with fail
          exact ⟨⟨j + 1, by omega, by go_num, HBq.out⟩, by simp [RowKit.intOf]; omega⟩
        · have hj7 : j = 7 := by omega
          subst hj7
          go_wp2_with fail
          go_ret
          exact ⟨rfl, HB2.out.trans (HBQ.out.mono HB2.out.size)⟩
end Go.Proofs.YtokfkobhdjbciaaDoor
