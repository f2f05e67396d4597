/-
  TbCut, TbAf.
-/
import Derived.Test.YtpacjofepiojdaaDoorChecked
import GoSem.PinnedTables
import GoSem.Claim
import GoSem.ClaimJoined
import GoSem.ClaimMapViews
import Derived.JoinedTies
import Derived.KernelRfl
import Derived.Shelf.Unicode.DecodeSlow
import Derived.Laws.RangeAny
import Derived.Shelf.Small.Bits
import Derived.Shelf.Strconv.Itoa0
import Derived.Shelf.LaysM
import Derived.Shelf.Strconv.Clone
import Derived.Shelf.Unicode.DecodeAny
import Derived.Shelf.Slices.CompactS
import Derived.Ground.SlsfProg
import Derived.Shelf.SlSortCmp.Insertion
import Derived.Shelf.SlSortCmp.SiftDown1
import Derived.Shelf.SlSortCmp.HeapSort1
import Derived.Shelf.SlSortCmp.Insertion1
import Derived.Shelf.SlSortCmp.Median1
import Derived.Shelf.SlSortCmp.Pivot1
import Derived.Shelf.SlSortCmp.ReverseRange1
import Derived.Shelf.SlSortCmp.PartialInsertion1
import Derived.Shelf.SlSortCmp.PartitionEqual1
import Derived.Shelf.SlSortCmp.Partition1
import Derived.Shelf.SlSortCmp.Pdq1
import Derived.Shelf.SlSortCmp.Whole1
import Derived.Test.YtpacjofepiojdaaDoorProg
import Derived.WalkKit
import Derived.Deep.DeepFit
import Derived.Lib.OthersKept
import Derived.Lib.RuneCountTail
import Derived.Lib.LaidU8
import Derived.MakeChecks
import Derived.ProofKit
import Derived.OpenShut
import Derived.Deep.DeepHandedRow
import Derived.Deep.AppendLies
import Derived.Deep.OwnRows
import Derived.Laws.AppendOwnNone
import Derived.Deep.QuietTactic
import Derived.BigQuiet
import Derived.Deep.RegionWith
import Derived.Laws.DeepStrings4
import Derived.Below
import Derived.Maps.OwnSet
import Derived.Maps.Keyed
import Derived.DeepKeys4
import Derived.Lib.QuietBelow
import Derived.StillTail
import Derived.Deep.RegionHeld3
import Derived.Laws.ResultCell
import Derived.Laws.CopyOwn
import Derived.Laws.OwnMore
import Derived.Lib.MapLaws
import Derived.Sort.Walk0
import Derived.Deep.Slices
import Derived.SizedLaws
import Derived.Lib.SliceRun
import Derived.Test.YtpacjofepiojdaaDoorRows
import Derived.Test.YtpacjofepiojdaaDoorP01
import Derived.Test.YtpacjofepiojdaaDoorP02
import Derived.Test.YtpacjofepiojdaaDoorP03
import Derived.Test.YtpacjofepiojdaaDoorP04
import Derived.Test.YtpacjofepiojdaaDoorP05
import Derived.Test.YtpacjofepiojdaaDoorP06
import Derived.Test.YtpacjofepiojdaaDoorP07
import Derived.Test.YtpacjofepiojdaaDoorP08
import Derived.Test.YtpacjofepiojdaaDoorP09
import Derived.Test.YtpacjofepiojdaaDoorP10
import Derived.Test.YtpacjofepiojdaaDoorP11
import Derived.Test.YtpacjofepiojdaaDoorP12
import Derived.Test.YtpacjofepiojdaaDoorP13
import Derived.Test.YtpacjofepiojdaaDoorP14
import Derived.Test.YtpacjofepiojdaaDoorP15
import Derived.Test.YtpacjofepiojdaaDoorP16
import Derived.Test.YtpacjofepiojdaaDoorP19
import Derived.Test.YtpacjofepiojdaaDoorP20
import Derived.Test.YtpacjofepiojdaaDoorP21
set_option linter.unusedSimpArgs false
set_option linter.unusedVariables false
namespace Go.Proofs.YtpacjofepiojdaaDoor
open Go.RowKit Go.Lib Go.Sort Go.Maps

/-- What the map tells when the first i entries of M are out. -/
def ixC (L M : List Nd) (i : Nat) (y : Nd) : Option Nat := if y ∈ M.take i then none else ixL (L ++ M) y
theorem ixC_end {L M : List Nd} (hn : (L ++ M).Nodup) (y : Nd) : ixC L M M.length y = ixL L y := by
  unfold ixC
  rw [List.take_length]
  by_cases hy : y ∈ M
  · rw [if_pos hy, eq_comm, ixL_none]
    intro hL
    exact (List.nodup_append.1 hn).2.2 y hL y hy rfl
  · rw [if_neg hy]
    unfold ixL
    by_cases hL : y ∈ L
    · rw [if_pos (List.mem_append_left _ hL), if_pos hL, List.idxOf_append, if_pos hL]
    · rw [if_neg (by simp [hL, hy]), if_neg hL]
theorem take_getD {M : List Nd} {i : Nat} (hi : i < M.length) : M.take (i + 1) = M.take i ++ [M.getD i nd0] := by
  rw [List.take_succ_eq_append_getElem hi]; simp [hi]
theorem ixC_next {L M : List Nd} {i : Nat} (hi : i < M.length) (y : Nd) : (if y = M.getD i nd0 then none else ixC L M i y) = ixC L M (i + 1) y := by
  unfold ixC
  rw [take_getD hi]
  by_cases e : y = M.getD i nd0
  · rw [if_pos e, if_pos (by simp [e])]
  · rw [if_neg e]
    by_cases h : y ∈ M.take i
    · rw [if_pos h, if_pos (by simp [h])]
    · rw [if_neg h, if_neg (by simp only [List.mem_append, List.mem_cons, List.not_mem_nil, or_false, not_or]; exact ⟨h, e⟩)]
theorem edA_behind {L M : List Nd} {i : Nat} (hi : i < M.length) : edA (L ++ M) (L.length + i) = M.getD i nd0 := by
  unfold edA
  rw [List.getD_eq_getElem?_getD, List.getD_eq_getElem?_getD, List.getElem?_append_right (by omega), Nat.add_sub_cancel_left]
theorem ixC_some {L M : List Nd} (hn : (L ++ M).Nodup) {i : Nat} (hi : i < M.length) : (ixC L M i (M.getD i nd0)).isSome = true := by
  have hM := (List.nodup_append.1 hn).2.1
  have hm : M.getD i nd0 ∈ M := by rw [List.getD_eq_getElem?_getD, List.getElem?_eq_getElem hi]; exact List.getElem_mem hi
  have hno : M.getD i nd0 ∉ M.take i := by
    intro h
    have e := take_getD hi
    have h2 : (M.take (i + 1)).Nodup := List.Nodup.sublist (List.take_sublist _ _) hM
    rw [e] at h2
    exact (List.nodup_append.1 h2).2.2 _ h _ (by simp) rfl
  unfold ixC
  rw [if_neg hno]
  cases h : ixL (L ++ M) (M.getD i nd0) with
  | some j => rfl
  | none => rw [ixL_none] at h; exact absurd (List.mem_append_right _ hm) h

/-- Between two rounds of cut. -/
structure CtM (W : World) (p g cap B : Nat) (L M : List Nd) (i : Nat) (wr : World) : Prop where
  r : TbR wr p (.slice (some ⟨g, 0, none⟩) (L ++ M).length cap) (.map (some B)) (L ++ M)
  ids : IdF wr B (ixC L M i) ((L ++ M).length - i)
  tk : Tk (fun b => b = B) W wr
theorem CtM.drop {W wr wd w' : World} {p g cap B : Nat} {L M : List Nd} {i : Nat} (h : CtM W p g cap B L M i wr) (hB : B ≠ p ∧ B ≠ g) (hi : i < M.length) (hb : Below wr.heap.size wr wd) (hf : IdF w' B (fun y => if y = M.getD i nd0 then none else ixC L M i y) ((L ++ M).length - i - 1)) (ht : wd.mapTurned w' B) : CtM W p g cap B L M (i + 1) w' := by
  have htk := Tk.turned ht (fun b => b = B) rfl
  have hr2 := h.r.below hb
  refine ⟨hr2.same fun b hl hb => htk.same b hl ?_, (hf.congr (fun y _ => ixC_next hi y) (by omega)), (h.tk.trans (Tk.of_below hb) fun b e => .inl e).trans htk fun b e => .inl e⟩
  rcases hb with rfl | hb
  · exact fun e => hB.1 e.symm
  · intro e
    subst e
    injection hb with hb
    exact hB.2 hb.symm

theorem zeroCells_len (z : Array Value) (m : Nat) : (Builtin.zeroCells z m).toList.length = m * z.size := by simp [Builtin.zeroCells]
theorem zeroE (w : World) : (zeroValue 118).run Tryd.prog w = .ok (.agg #[.int .i64 0, .int .i64 0, .string ⟨#[]⟩, .int .i64 0, .int .i64 0, .int .i64 0, .int .i64 0]) w := by kernel_rfl
theorem one7 (k : Nat) (h : k < 7) : (#[Value.int .i64 0, .int .i64 0, .string ⟨#[]⟩, .int .i64 0, .int .i64 0, .int .i64 0, .int .i64 0][k]!).oneCell' = true := by
  match k, h with
  | 0, _ => rfl
  | 1, _ => rfl
  | 2, _ => rfl
  | 3, _ => rfl
  | 4, _ => rfl
  | 5, _ => rfl
  | 6, _ => rfl
/-- What clear leaves. -/
theorem clear_en (w : World) (ty : TypeId) (g o m c : Nat) (cur : Array Value) (hg : w.heap[g]? = some (.cells cur 118 (0, 0))) (hl : o + m * 7 ≤ cur.size) :
    ∃ cs : Array Value, (Builtin.clear_ #[ 101 ] ty #[.slice (some ⟨g, o, none⟩) m c]).run Tryd.prog w = .ok (.tuple #[]) (w.setRow g cs) ∧ cs.size = cur.size ∧ ∀ j, j < o → cs[j]? = cur[j]? := by
  rcases Nat.eq_zero_or_pos m with rfl | hm
  · refine ⟨cur, ?_, rfl, fun _ _ => rfl⟩
    rw [setRow_self w g cur _ _ hg]
    simp [Builtin.clear_, run_underlying Tryd.underlying101 ]
  · obtain ⟨n, rfl⟩ : ∃ n, m = n + 1 := ⟨m - 1, by omega⟩
    have hlen := zeroCells_len #[Value.int .i64 0, .int .i64 0, .string ⟨#[]⟩, .int .i64 0, .int .i64 0, .int .i64 0, .int .i64 0] (n + 1)
    have hst := run_storeCells_at Tryd.prog g o 118 (Builtin.zeroCells #[Value.int .i64 0, .int .i64 0, .string ⟨#[]⟩, .int .i64 0, .int .i64 0, .int .i64 0, .int .i64 0] (n + 1)).toList 0 cur w hg (by rw [hlen]; exact hl) (by
      intro v hv
      simp only [Builtin.zeroCells, Array.toList_map, List.mem_map] at hv
      obtain ⟨k, _, rfl⟩ := hv
      exact one7 _ (Nat.mod_lt _ (by decide)))
    simp only [Nat.add_zero] at hst
    obtain ⟨cs, hcs⟩ : ∃ cs, (cur.toList.take o ++ (Builtin.zeroCells #[Value.int .i64 0, .int .i64 0, .string ⟨#[]⟩, .int .i64 0, .int .i64 0, .int .i64 0, .int .i64 0] (n + 1)).toList ++ cur.toList.drop (o + (Builtin.zeroCells #[Value.int .i64 0, .int .i64 0, .string ⟨#[]⟩, .int .i64 0, .int .i64 0, .int .i64 0, .int .i64 0] (n + 1)).toList.length)).toArray = cs := ⟨_, rfl⟩
    rw [hcs] at hst
    refine ⟨cs, by simp [Builtin.clear_, run_underlying Tryd.underlying101, zeroE, Value.cells, hst], ?_, fun j hj => ?_⟩
    all_goals rw [← hcs]
    · simp only [List.size_toArray, List.length_append, List.length_take, List.length_drop, Array.length_toList]
      rw [Array.length_toList] at hlen
      rw [hlen]
      simp only [show (#[Value.int .i64 0, .int .i64 0, .string ⟨#[]⟩, .int .i64 0, .int .i64 0, .int .i64 0, .int .i64 0] : Array Value).size = 7 from rfl]
      omega
    · rw [List.getElem?_toArray, List.append_assoc, List.getElem?_append_left (by simp; omega), List.getElem?_take, if_pos hj, Array.getElem?_toList]

set_option maxRecDepth 20000 in
set_option maxHeartbeats 4000000 in
theorem tcut_any (W : World) (p g cap B : Nat) (L M : List Nd) (h : TbM W p (.slice (some ⟨g, 0, none⟩) (L ++ M).length cap) (.map (some B)) (L ++ M)) (hI : TbI L) :
    Calls Tryd.prog 97 #[.pointer (some ⟨p, 0, none⟩), .int .i64 L.length] W fun e w' => e = .returned (.tuple #[]) ∧ TbM w' p (.slice (some ⟨g, 0, none⟩) L.length cap) (.map (some B)) L ∧ Tk (TbS p (.slice (some ⟨g, 0, none⟩) (L ++ M).length cap) (.map (some B))) W w' ∧ (∀ j u, j < L.length * 7 → W.cell? ⟨g, j, none⟩ = some u → w'.cell? ⟨g, j, none⟩ = some u) := by
  have hle := h.inv.le
  have hlen : (L ++ M).length = L.length + M.length := List.length_append
  obtain ⟨hpB, hids⟩ : p < B ∧ IdF W B (ixL (L ++ M)) (L ++ M).length := by
    rcases h.ids with ⟨h1, _⟩ | ⟨B', h1, h2, h3⟩
    · cases h1
    · cases h1; exact ⟨h2, h3⟩
  obtain ⟨_, _, cap', cur, _, hcur, _⟩ := rw_block h.on (b := g) rfl
  have hgB : B ≠ g := by
    rintro rfl
    obtain ⟨es, c, ho⟩ := hids.obj
    rw [hcur] at ho; cases ho
  have hgp : p + 1 ≤ g := (rw_block h.on (b := g) rfl).1
  have hcap : (L ++ M).length ≤ cap ∧ cap ≤ maxLen := by
    rcases h.on.2 with ⟨h1, _⟩ | ⟨g', cap2, cur2, h1, _, _, h8, h9, _⟩
    · cases h1
    · cases h1; exact ⟨h8, h9⟩
  have HNK : Sld (∀ i, i < M.length → NdK (M.getD i nd0)) := ⟨fun i hi => by rw [← edA_behind hi]; exact h.ndk (by rw [hlen]; omega)⟩
  have HND : Sld ((L ++ M).Nodup) := ⟨h.inv.nodup⟩
  have HM : Sld (TbM W p (.slice (some ⟨g, 0, none⟩) (L ++ M).length cap) (.map (some B)) (L ++ M)) := ⟨h⟩
  have H0 : Sld (CtM W p g cap B L M 0 W) := ⟨⟨h.r, by
    refine hids.congr (fun y _ => ?_) (by omega)
    unfold ixC; simp, Tk.refl _ _⟩⟩
  have c0 := h.c0
  obtain ⟨n0, hn0⟩ : ∃ n0, L.length = n0 := ⟨_, rfl⟩
  obtain ⟨m0, hm0⟩ : ∃ m0, M.length = m0 := ⟨_, rfl⟩
  have hnn : (L ++ M).length = n0 + m0 := by rw [hlen, hn0, hm0]
  unfold maxLen at hcap
  rw [hnn] at hcap hle
  have HN0 : Sld (L.length = n0) := ⟨hn0⟩
  have HM0 : Sld (M.length = m0) := ⟨hm0⟩
  have HNN : Sld ((L ++ M).length = n0 + m0) := ⟨hnn⟩
  have hB2 : Sld (B ≠ p ∧ B ≠ g) := ⟨by omega, hgB⟩
  have hcI : (n0 : Int) + (m0 : Int) ≤ (cap : Int) := by omega
  have hcM : (cap : Int) ≤ 9223372036854775807 := by omega
  have hleI : (n0 : Int) + (m0 : Int) ≤ 1048576 := by omega
  have hsb : (n0 : Int) + (m0 : Int) - (n0 : Int) = (m0 : Int) := by omega
  rw [hnn] at c0
  rw [hn0]
  clear h hids hcur hlen hn0 hm0 hnn
  go_enter Tryd.func97, Tryd.ntmps97
  go_wp2_with fail
  go_loopw [12] (fun q wr => ∃ i : Nat, i ≤ m0 ∧ q = .int .i64 i ∧ CtM W p g cap B L M i wr) (fun q _ => m0 - (RowKit.intOf q).toNat)
  case atStart => exact ⟨0, by omega, rfl, H0.out⟩
  case round =>
    obtain ⟨i, hi, rfl, hM⟩ := hrel
    have HMi : Sld (CtM W p g cap B L M i wr) := ⟨hM⟩
    have d0 := hM.r.c0
    have d1 : wr.cell? ⟨p, 1, none⟩ = some (.map (some B)) := by simp [World.cell?, hM.r.blk]
    rw [HNN.out] at d0
    clear hM H0 c0
    by_cases hlt : i < m0
    · have hltM : i < M.length := by rw [HM0.out]; exact hlt
      have hltI : (i : Int) < (m0 : Int) := by omega
      have hat := HMi.out.r.at_ (i := L.length + i) (by rw [HNN.out, HN0.out]; omega)
      rw [edA_behind hltM, HN0.out] at hat
      have hnk := HNK.out i hltM
      have hfd := HMi.out.ids
      have hsm := ixC_some HND.out hltM
      have HDR : Sld (∀ wd ty, Below wr.heap.size wr wd → ∃ w', (Builtin.delete_ #[102, 116 ] ty #[.map (some B), shV (M.getD i nd0)]).run Tryd.prog wd = .ok (.tuple #[]) w' ∧ CtM W p g cap B L M (i + 1) w') := ⟨fun wd ty hb => by
        obtain ⟨w', h1, h2, h3⟩ := (hfd.block (hb.block B hfd.lt)).drop hnk hsm ty
        exact ⟨w', h1, HMi.out.drop hB2.out hltM hb h2 h3⟩⟩
      generalize M.getD i nd0 = x at *
      obtain ⟨xo, xn, xm, xk⟩ := x
      obtain ⟨e0, e1, e2, e3, e4, e5, e6⟩ := hat
      simp only at e0 e1 e2 e3 e4 e5
      unfold shV at HDR
      simp only at HDR
      generalize xk.getD 0 0 = k0 at *
      generalize xk.getD 1 0 = k1 at *
      generalize xk.getD 2 0 = k2 at *
      have r0 := cell_regrown d0
      have r1 := cell_regrown d1
      have s0 := cell_regrown e0
      have s1 := cell_regrown e1
      have s2 := cell_regrown e2
      have s3 := cell_regrown e3
      have s4 := cell_regrown e4
      have s5 := cell_regrown e5
      clear hfd hsm hnk e6
      go_wp2_with fail
      refine wp_region_quiet_then 14 (by kernel_rfl) (by kernel_rfl) ?_
      simp only [List.take_succ_cons, List.take_zero]
      iterate 14 (go_big_quiet_step (fail))
      refine wpQuiet_nil ?_
      intro w' hw'
      obtain ⟨⟨dq, osq⟩, hw''⟩ := hw'
      subst hw''
      simp only [List.drop_succ_cons, List.drop_zero]
      obtain ⟨w5, hw5⟩ : ∃ w5, grow (redrawn wr dq) osq = w5 := ⟨_, rfl⟩
      rw [hw5]
      have hb5 : Below wr.heap.size wr w5 := by rw [← hw5]; exact below_regrown wr dq osq
      obtain ⟨w6, hdel, hC6⟩ := HDR.out w5 0 hb5
      have HC6 := Sld.mk hC6
      clear hb5 hC6 hw5
      go_wp2_with fail
      exact ⟨⟨i + 1, by omega, by go_num, HC6.out⟩, by simp [RowKit.intOf]; omega⟩
    · have hie : i = m0 := by omega
      subst hie
      obtain ⟨_, _, cap2, cur, hv2, hcur, hsz⟩ := rw_block HMi.out.r.on (b := g) rfl
      have hcs : i * 7 + n0 * 7 ≤ cur.size := by
        rcases HMi.out.r.on.2 with ⟨h1, _⟩ | ⟨g', cap2, cur2, h1, _, h7, h8, h9, h10, _⟩
        · cases h1
        · cases h1
          rw [hcur] at h7
          injection h7 with h7
          injection h7 with h7
          subst h7
          rw [HNN.out] at h8
          rw [h10]
          omega
      have FIN : Sld (∀ cs : Array Value, cs.size = cur.size → (∀ j, j < n0 * 7 → cs[j]? = cur[j]?) → ∀ W5, wr.setRow g cs = W5 → W5.cell? ⟨p, 0, none⟩ = some (.slice (some ⟨g, 0, none⟩) (n0 + i) cap) ∧ W5.frozen? ⟨p, 0, none⟩ = false ∧ TbM (W5.setCell ⟨p, 0, none⟩ (.slice (some ⟨g, 0, none⟩) n0 cap)) p (.slice (some ⟨g, 0, none⟩) L.length cap) (.map (some B)) L ∧ Tk (TbS p (.slice (some ⟨g, 0, none⟩) (L ++ M).length cap) (.map (some B))) W (W5.setCell ⟨p, 0, none⟩ (.slice (some ⟨g, 0, none⟩) n0 cap)) ∧ (∀ j u, j < L.length * 7 → W.cell? ⟨g, j, none⟩ = some u → (W5.setCell ⟨p, 0, none⟩ (.slice (some ⟨g, 0, none⟩) n0 cap)).cell? ⟨g, j, none⟩ = some u)) := ⟨fun cs hcs1 hcs2 W5 hW5 => by
        have q0 : W5.heap[p]? = some (.cells #[.slice (some ⟨g, 0, none⟩) (n0 + i) cap, .map (some B)] 104 (0, 0)) := by
          rw [← hW5, setRow_other _ _ _ _ (by omega), ← HNN.out]; exact HMi.out.r.blk
        refine ⟨by simp [World.cell?, q0], by simp [World.frozen?, q0], ?_⟩
        have hgp' : g ≠ p := by omega
        have hBp : B ≠ p := hB2.out.1
        have hBg : B ≠ g := hB2.out.2
        have b1 : ∀ b, b ≠ p → (W5.setCell ⟨p, 0, none⟩ (.slice (some ⟨g, 0, none⟩) n0 cap)).heap[b]? = W5.heap[b]? := fun b hb => Deep.blk_setCell_other _ _ _ _ hb
        have b2 : ∀ b, b ≠ g → W5.heap[b]? = wr.heap[b]? := fun b hb => by rw [← hW5]; exact setRow_other _ _ _ _ hb
        have b3 : W5.heap[g]? = some (.cells cs 118 (0, 0)) := by rw [← hW5]; exact setRow_heap _ _ _ _ _ _ hcur
        have hp8 := heap_setCell_same W5 p 0 _ _ (.slice (some ⟨g, 0, none⟩) n0 cap) q0
        refine ⟨⟨by rw [HN0.out]; simpa using hp8, ?_, ?_, hI, fun x hx => HM.out.nr x (List.mem_append_left _ hx)⟩, ?_, ?_⟩
        · rcases HMi.out.r.on.2 with ⟨h1, _⟩ | ⟨g', cap2, cur2, h1, h5, h7, h8, h9, h10, h11⟩
          · cases h1
          · cases h1
            rw [hcur] at h7
            injection h7 with h7
            injection h7 with h7
            subst h7
            refine ⟨by rw [enCells_length, enL_len], .inr ⟨g, cap, cs, rfl, h5, by rw [b1 g hgp', b3], by rw [HN0.out]; rw [HNN.out] at h8; omega, h9, by rw [hcs1, h10], ?_⟩⟩
            have e1 : enL (L ++ M) = enL L ++ (enL (L ++ M)).drop L.length := by
              have := enL_take (L ++ M) L.length
              rw [List.take_left] at this
              rw [this, List.take_append_drop]
            have e2 : (enCells (enL L)).length = L.length * 7 := by rw [enCells_length, enL_len]
            have e3 : (enCells (enL (L ++ M))).take (L.length * 7) = enCells (enL L) := by
              rw [e1, enCells_append, List.take_left' e2]
            rw [← e3, ← h11, List.take_take, Nat.min_eq_left (by rw [HNN.out, HN0.out]; omega)]
            apply List.ext_getElem?
            intro j
            rw [List.getElem?_take, List.getElem?_take]
            by_cases hj : j < L.length * 7
            · rw [if_pos hj, if_pos hj, Array.getElem?_toList, Array.getElem?_toList, hcs2 j (by rw [HN0.out] at hj; exact hj)]
            · rw [if_neg hj, if_neg hj]
        · refine .inr ⟨B, rfl, hpB, ?_⟩
          have hf := HMi.out.ids
          have e1 : ixC L M i = ixC L M M.length := by rw [HM0.out]
          rw [e1] at hf
          refine (hf.congr (fun y _ => ixC_end HND.out y) (by rw [HNN.out, HN0.out]; omega)).block ?_
          rw [b1 B hBp, b2 B hBg]
        · have t1 : Tk (TbS p (.slice (some ⟨g, 0, none⟩) (L ++ M).length cap) (.map (some B))) W wr := ⟨HMi.out.tk.os, HMi.out.tk.tape, HMi.out.tk.output, HMi.out.tk.size, fun b hb hs => HMi.out.tk.same b hb (fun e => hs (.inr (.inr (by rw [e]))))⟩
          refine ⟨?_, ?_, ?_, ?_, fun b hb hs => ?_⟩
          · show W5.os = _; rw [← hW5]; exact t1.os
          · show W5.tape = _; rw [← hW5]; exact t1.tape
          · show W5.output = _; rw [← hW5]; exact t1.output
          · have := t1.size; rw [← hW5]; simpa using this
          · rw [b1 b (fun e => hs (.inl e)), b2 b (fun e => hs (.inr (.inl (by rw [e]; rfl))))]
            exact t1.same b hb hs
        · intro j u hj hu
          have hw : wr.heap[g]? = W.heap[g]? := HMi.out.tk.same g (World.block_lt_of_cell? W _ hu) (fun e => hBg e.symm)
          have hu2 : wr.cell? ⟨g, j, none⟩ = some u := by
            simp only [World.cell?] at hu ⊢
            rw [hw]; exact hu
          have hu3 : cur[j]? = some u := by simpa [World.cell?, hcur] using hu2
          have : cs[j]? = some u := by rw [hcs2 j (by rw [HN0.out] at hj; exact hj)]; exact hu3
          simp [World.cell?, b1 g hgp', b3, this]⟩
      by_cases hcn : cap = n0
      · have hi0 : i = 0 := by omega
        subst hi0
        subst hcn
        have hclr : (Builtin.clear_ #[ 101 ] 0 #[.slice (some ⟨g, 0, none⟩) 0 0]).run Tryd.prog wr = .ok (.tuple #[]) wr := by simp [Builtin.clear_, run_underlying Tryd.underlying101 ]
        obtain ⟨p0, pf, hfin⟩ := FIN.out cur rfl (fun _ _ => rfl) wr (setRow_self _ _ _ _ _ hcur)
        have HFIN := Sld.mk hfin
        clear hcur hsz hcs FIN hfin
        go_wp2_with fail
        go_end0
        have e9 := HFIN.out
        rw [HN0.out] at e9
        exact ⟨rfl, e9⟩
      · have hcn2 : n0 < cap := by omega
        obtain ⟨cs, hclr, hcs1, hcs2⟩ := clear_en wr 0 g (n0 * 7) i (cap - n0) cur hcur (by omega)
        obtain ⟨W5, hW5⟩ : ∃ W5, wr.setRow g cs = W5 := ⟨_, rfl⟩
        obtain ⟨p0, pf, hfin⟩ := FIN.out cs hcs1 hcs2 W5 hW5
        rw [hW5] at hclr
        have HFIN := Sld.mk hfin
        clear hcur hsz hcs FIN hfin hcs1 hcs2 hW5
        go_wp2_with fail
        go_end0
        have e9 := HFIN.out
        rw [HN0.out] at e9
        exact ⟨rfl, e9⟩
end Go.Proofs.YtpacjofepiojdaaDoor

set_option linter.unusedSimpArgs false
set_option linter.unusedVariables false
namespace Go.Proofs.YtpacjofepiojdaaDoor
open Go.RowKit Go.Lib Go.Sort Go.Maps

theorem tAdd_all (w : World) (p : Nat) (ev mv : Value) (L l : List Nd) (base : Nat) (vs : Value) (h : TbM w p ev mv L) (hT : SpanCells w) (ho : OwnN w base vs l) (hx : ∀ x ∈ l, (Lit.int .i64 x.n).wf = true) :
    Calls Tryd.prog 61 #[.pointer (some ⟨p, 0, none⟩), vs] w fun e w' => e = .returned (.tuple #[.int .i64 ((adP L l).1 : Nat), .int .i64 (adP L l).2.1]) ∧ ∃ ev' mv', TbT w p ev mv ev' mv' (adP L l).2.2 w' := by
  cases hb : begL l with
  | none =>
    rw [adP_bad hb]
    exact (tAdd_bad w p l vs hT (Nodes_of_own ho (Nat.le_refl _)) hb).mono fun e w' ⟨h1, h2⟩ => ⟨h1, ev, mv, TbT.of_below h h2⟩
  | some fr =>
    obtain ⟨_, _, hbr, _⟩ := begL_some hb
    have hok := begOk_of hbr
    have hn6 : ∀ x ∈ l, N6 x.n ∧ x.name.size ≤ 281474976710656 := fun x hx' => by
      have e1 : IntKind.min .i64 = -9223372036854775808 := by decide
      have e2 : IntKind.max .i64 = 9223372036854775807 := by decide
      have hw := hx x hx'
      simp only [Lit.wf, e1, e2, Bool.and_eq_true, decide_eq_true_eq] at hw
      refine ⟨hw, ?_⟩
      obtain ⟨j, hj, rfl⟩ := List.mem_iff_getElem.1 hx'
      have := (hok.at_ j hj).1
      have := (form_name this).2
      simp [hj] at this
      omega
    refine tAdd_walk w p ev mv L l fr base vs h hT ho hb hn6 _ _ _ ?_ ?_
    · unfold adP
      rw [hb]
      cases hr : addR (L, []) l with
      | some s => exact .inl ⟨s.2, rfl, rfl, rfl⟩
      | none => exact .inr ⟨rfl, rfl, rfl, rfl⟩
    · rintro hnone W ev1 mv1 L1 hT1 ⟨M, rfl⟩ hpos
      obtain ⟨g, cap, rfl, hg1, hg2, hg3, hg4⟩ := hT1.tb.row hpos
      obtain ⟨B, rfl, hpB, hids⟩ : ∃ B, mv1 = .map (some B) ∧ p < B ∧ IdF W B (ixL (L ++ M)) (L ++ M).length := by
        rcases hT1.tb.ids with ⟨_, h1⟩ | h1
        · rw [h1] at hpos; simp at hpos
        · exact h1
      refine (tcut_any W p g cap B L M hT1.tb h.inv).mono ?_
      rintro e w' ⟨he, hM, hk, hst⟩
      obtain ⟨ao, ac, hev⟩ := h.form
      refine ⟨he, _, _, hM, hT1.tk.trans hk hT1.yo, fun b hb => hT1.yo b ?_, hT1.mp, by rw [hev]; exact Nat.le_refl _, fun g0 hg0 hpg j u hj hu => ?_⟩
      · rcases hb with h1 | h1 | h1
        · exact .inl h1
        · exact .inr (.inl h1)
        · exact .inr (.inr h1)
      · have h1 := hT1.st g0 hg0 hpg j u hj hu
        have hjL : j < L.length * 7 := by rw [hev] at hj; exact hj
        by_cases e : g0 = g
        · subst e; exact hst j u hjL h1
        · have hne : ¬ TbS p (.slice (some ⟨g, 0, none⟩) (L ++ M).length cap) (.map (some B)) g0 := by
            rintro (e1 | e1 | e1)
            · omega
            · injection e1 with e1; exact e e1.symm
            · cases e1
              obtain ⟨es, c, h4⟩ := hids.obj
              simp [World.cell?, h4] at h1
          have h2 := hk.same g0 (World.block_lt_of_cell? W _ h1) hne
          simp only [World.cell?] at h1 ⊢
          rw [h2]
          exact h1
end Go.Proofs.YtpacjofepiojdaaDoor
