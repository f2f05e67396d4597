/-
  What the document's Exprs makes of cells.
-/
import Derived.Test.YtdcfjopmddaemaaDoorMBxFlat
import Derived.Test.YtdcfjopmddaemaaDoorMBxValW
import Derived.Test.YtdcfjopmddaemaaDoorMBxPure
import Derived.Test.YtdcfjopmddaemaaDoorMExRMkW
import Derived.Test.YtdcfjopmddaemaaDoorMBxOpW
set_option linter.unusedSimpArgs false
set_option linter.unusedVariables false
namespace Go.Proofs.YtdcfjopmddaemaaDoor
open Go.RowKit Go.Lib

theorem Vals.all {P : Tm → Prop} {cs : List Cl} (hP : ∀ x ∈ cs, ∀ ts : List Tm, (∀ t ∈ ts, P t) → ∀ p, P (mkT x ts p)) {ts : List Tm} (h : Vals cs ts) : ∀ t ∈ ts, P t := by
  induction h with
  | nil => intro t ht; cases ht
  | snoc ts p h hl ih =>
    intro t ht
    rcases List.mem_append.1 ht with ht | ht
    · exact ih t ht
    · have e := List.mem_singleton.1 ht
      subst e
      exact hP _ (by simp [hl]) ts ih p
theorem getT_all {P : Tm → Prop} (h0 : P .nil) {ts : List Tm} (h : ∀ t ∈ ts, P t) (k : Int) : P (getT ts k) := by
  unfold getT
  split
  · rename_i hk
    have : k.toNat < ts.length := by omega
    simp only [List.getD_eq_getElem?_getD, List.getElem?_eq_getElem this]
    exact h _ (List.getElem_mem this)
  · exact h0
theorem mkT_othH (x : Cl) (ts : List Tm) (h : ∀ t ∈ ts, OthH t) (p : Addr) : OthH (mkT x ts p) := by
  have g := getT_all (P := OthH) trivial h
  have hk := (mkT_kn x ts p).oth
  unfold mkT at hk ⊢
  repeat' split
  all_goals first | trivial | exact g _ | exact ⟨g _, g _⟩ | exact ⟨g _, g _, g _⟩ | (simp_all [OthH])
theorem Vals.othH {cs : List Cl} {ts : List Tm} (h : Vals cs ts) : ∀ t ∈ ts, OthH t := h.all fun x _ ts ht p => mkT_othH x ts ht p

theorem nm0 : (⟨#[]⟩ : ByteArray).size ≤ maxLen := Nat.zero_le _
/-- No name is too long for the machine. -/
def NmOk (t : Tm) : Prop := ∀ x ∈ flatT t, x.name.size ≤ maxLen
theorem accS_names (ps : List (List Nd)) (h : ∀ p ∈ ps, ∀ x ∈ p, x.name.size ≤ maxLen) : ∀ x ∈ (accS ps).1, x.name.size ≤ maxLen := by
  induction ps using snocRec with
  | nil => intro x hx; simp [accS_nil] at hx
  | snoc ps p ih =>
    intro x hx
    rw [accS_snoc] at hx
    rcases List.mem_append.1 hx with hx | hx
    · exact ih (fun q hq => h q (by simp [hq])) x hx
    · obtain ⟨y, hy, rfl⟩ := List.mem_map.1 hx
      rw [mvN_name]; exact h p (by simp) y hy
theorem nmOk_of {t : Tm} (h : ∀ q ∈ partsT t, NmOk q) (hn : (nameT t).size ≤ maxLen) : NmOk t := by
  intro x hx
  rw [flatT_eq] at hx
  unfold joinL at hx
  rcases List.mem_append.1 hx with hx | hx
  · refine accS_names _ (fun p hp => ?_) x hx
    obtain ⟨q, hq, rfl⟩ := List.mem_map.1 hp
    exact h q hq
  · have e := List.mem_singleton.1 hx
    subst e
    exact hn
theorem mkT_name (x : Cl) (ts : List Tm) (p : Addr) : nameT (mkT x ts p) = if x.kind = 2 then x.name else ⟨#[]⟩ := by
  unfold mkT
  repeat' split
  all_goals first | rfl | (simp_all [nameT])
theorem Vals.nmOk {cs : List Cl} {ts : List Tm} (h : Vals cs ts) (hn : ∀ x ∈ cs, x.name.size ≤ maxLen) : ∀ t ∈ ts, NmOk t :=
  h.all fun x hx ts ht p => nmOk_of (fun q hq => by
    rw [mkT_parts] at hq
    obtain ⟨k, _, rfl⟩ := List.mem_map.1 hq
    exact getT_all (P := NmOk) (nmOk_of (fun q hq => by simp [partsT] at hq) nm0) ht k) (by
    rw [mkT_name]; split
    · exact hn x hx
    · exact nm0)
theorem want_fit {t : Tm} (h : NmOk t) : Fit (wantT t) := by
  unfold wantT
  split
  · rename_i hs
    obtain ⟨fr, hfr⟩ := snd_some hs
    exact fit_of_snd hfr h
  · exact ⟨by simp, by simp, by simp⟩
theorem want_nil : wantT .nil = [] := by
  have h : sndB (flatT .nil) = false := by decide +kernel
  unfold wantT; rw [h]; rfl

/-- Make of what the parts come to. -/
theorem make_want (t : Tm) (vs : Value) (w : World) (hN : Lst w w.heap.size vs ((partsT t).map wantT)) (hp : ∀ q ∈ partsT t, NmOk q) (hn : (nameT t).size ≤ maxLen) :
    Calls Tryd.prog 50 #[.int .i64 (opT t), .int .i64 (nT t), .string (nameT t), vs] w fun e w' => ∃ v' er, e = .returned (.tuple #[v', .int .i64 er]) ∧ OwnN w' w.heap.size v' (wantT t) ∧ Below w.heap.size w w' := by
  have h3 : (partsT t).length ≤ 3 := by cases t <;> simp [partsT]
  refine (refMake_any (opT t) (nT t) (nameT t) vs _ w _ (Nat.le_refl _) hN (by simp; omega) (fun l hl => ?_) hn).mono ?_
  · obtain ⟨q, hq, rfl⟩ := List.mem_map.1 hl
    exact want_fit (hp q hq)
  · rintro e w' ⟨hb, hw⟩
    obtain ⟨j1, j2⟩ := want_join t
    rcases hw with ⟨h1, rfl⟩ | ⟨h1, h2, rfl⟩ | ⟨h1, h2, h4, rfl⟩ | ⟨h1, h2, h4, v', rfl, hO⟩
    · exact ⟨_, _, rfl, by rw [j1 h1]; exact OwnN_nil _ _, hb⟩
    · exact ⟨_, _, rfl, by rw [(j2 h1).2 (fun hh => by rw [List.length_map] at h2; rw [h2] at hh; exact absurd hh.1 (by simp))]; exact OwnN_nil _ _, hb⟩
    · exact ⟨_, _, rfl, by rw [(j2 h1).2 (fun hh => by omega)]; exact OwnN_nil _ _, hb⟩
    · exact ⟨_, _, rfl, by rw [(j2 h1).1 ⟨by rw [List.length_map] at h2; exact h2, h4⟩]; exact hO, hb⟩

/-- In the loop over the kids. -/
structure PMid (w : World) (M g : Nat) (op n : Int) (nm : ByteArray) (ks : List Int) (lv : Value) (W : List (List Nd)) (lpvs : List Value) (pv : Value) (P : List (List Nd)) (ppvs : List Value) (wq : World) : Prop where
  l : OwnLs wq w.heap.size lv W lpvs
  p : OwnLs wq w.heap.size pv P ppvs
  hi : ∀ b, pv.ownBlock = some b → M < b
  lo : ∀ b, lv.ownBlock = some b → b < M
  node : wq.heap[M]? = some (.cells #[.int .i64 op, .int .i64 n, .string nm, .slice none 0 0] 62 (0, 0))
  kids : ∀ j, j < ks.length → wq.cell? ⟨g, j, none⟩ = some (.int .i64 (ks.getD j 0))
  gM : ks.length ≠ 0 → g < M
  below : Below w.heap.size w wq

theorem OwnLs.keptLs {w w' : World} {base : Nat} {v v2 : Value} {ps ps2 : List (List Nd)} {pvs pvs2 : List Value} (h : OwnLs w base v ps pvs) (h2 : OwnLs w base v2 ps2 pvs2) (hg : w.grownBy w' v2.ownBlock) (hne : v.ownBlock = none ∨ v.ownBlock ≠ v2.ownBlock) : OwnLs w' base v ps pvs :=
  ⟨h.len, World.ownsRow.kept h.row hg hne, fun i hi => (h.each i hi).kept hg h2.row (by decide) (by decide)⟩

theorem PMid.snoc {w wq w1 : World} {M g : Nat} {op n : Int} {nm : ByteArray} {ks : List Int} {lv : Value} {W : List (List Nd)} {lpvs : List Value} {pv pv' : Value} {P : List (List Nd)} {ppvs : List Value} {l : List Nd} {x : Value} {o : Obj}
    (h : PMid w M g op n nm ks lv W lpvs pv P ppvs wq) (hx : OwnN wq w.heap.size x l)
    (hown : w1.ownsRow w.heap.size 22 1 pv' (P.length + 1) (ppvs ++ [x])) (hg : (wq.alloc o).grownBy w1 pv.ownBlock) (hat : ∀ b, pv'.ownBlock = some b → pv.ownBlock = some b ∨ b = (wq.alloc o).heap.size) : PMid w M g op n nm ks lv W lpvs pv' (P ++ [l]) (ppvs ++ [x]) w1 := by
  have hb : Below wq.heap.size wq (wq.alloc o) := (Below.refl _ _).alloc (Nat.le_refl _) _
  have hM := lt_of_block h.node
  have hsz := h.below.size
  have hp := h.p.below hb
  have hl := h.l.below hb
  have hne : lv.ownBlock = none ∨ lv.ownBlock ≠ pv.ownBlock := by
    cases hv : lv.ownBlock with
    | none => exact .inl rfl
    | some b =>
      right
      intro e
      have h1 := h.lo b hv
      have h2 := h.hi b e.symm
      omega
  refine ⟨hl.keptLs hp hg hne, hp.snoc (hx.below hb) hown hg, fun b hb' => ?_, h.lo, ?_, fun j hj => ?_, h.gM, ?_⟩
  · rcases hat b hb' with h1 | h1
    · exact h.hi b h1
    · rw [h1, World.size_alloc]; omega
  · rw [hg.block M (by rw [World.size_alloc]; omega) (fun e => by have := h.hi M e.symm; omega), Deep.blk_alloc_lt _ _ _ hM]
    exact h.node
  · have hgM := h.gM (by omega)
    refine (World.cell?_of_block (a := ⟨g, j, none⟩) ?_).trans (h.kids j hj)
    show w1.heap[g]? = wq.heap[g]?
    rw [hg.block g (by rw [World.size_alloc]; omega) (fun e => by have := h.hi g e.symm; omega), Deep.blk_alloc_lt _ _ _ (by omega)]
  · exact (h.below.alloc hsz _).grown hg (by rw [World.size_alloc]; omega) (fun k hk => by have := (own_block h.p.row k hk).1; omega)

theorem OwnLs.cell {w : World} {base : Nat} {v : Value} {ps : List (List Nd)} {pvs : List Value} (h : OwnLs w base v ps pvs) {i : Nat} (hi : i < ps.length) : ∃ g cap, v = .slice (some ⟨g, 0, none⟩) ps.length cap ∧ g < w.heap.size ∧ w.cell? ⟨g, i, none⟩ = some (pvs.getD i (.slice none 0 0)) := by
  obtain ⟨h1, h2⟩ := h.row
  rcases h2 with ⟨rfl, h0⟩ | ⟨g, cap, cur, rfl, hb, hg, hn, hm, hs, ht⟩
  · omega
  · refine ⟨g, cap, rfl, lt_of_block hg, ?_⟩
    have hc : w.cell? ⟨g, i, none⟩ = cur[i]? := by simp [World.cell?, hg]
    have hl := h.len
    rw [hc, ← Array.getElem?_toList]
    have e : cur.toList[i]? = (cur.toList.take (ps.length * 1))[i]? := by rw [List.getElem?_take, if_pos (by omega)]
    rw [e, ht]
    simp [show i < pvs.length by omega]

theorem getT_in' (ts : List Tm) (k : Nat) (z : Int) (hk : k ≤ ts.length) (h0 : 0 ≤ z) (h1 : z < k) : getT (ts.take k) z = ts.getD z.toNat .nil := by
  have hl : (ts.take k).length = k := by simp; omega
  unfold getT
  rw [hl, if_pos ⟨h0, h1⟩]
  have : z.toNat < k := by omega
  simp [List.getElem?_take, this]
theorem getT_out' (ts : List Tm) (k : Nat) (z : Int) (hk : k ≤ ts.length) (h : z < 0 ∨ (k : Int) ≤ z) : getT (ts.take k) z = .nil := by
  have hl : (ts.take k).length = k := by simp; omega
  unfold getT
  rw [hl, if_neg (by omega)]

def wantL (ts : List Tm) (k : Nat) : List (List Nd) := (ts.take k).map wantT

set_option maxRecDepth 20000 in
set_option maxHeartbeats 4000000 in
theorem exprs_any (ao : Option Addr) (cap : Nat) (l : List Cl) (ts : List Tm) (w : World) (hN : Cls w ao cap l) (hV : Vals l ts) (htl : ts.length = l.length) (hnm : ∀ x ∈ l, x.name.size ≤ maxLen) (hlen : l.length * 24 ≤ 140737488355328) :
    Calls Tryd.prog 23 #[.slice ao l.length cap] w fun e w' => ∃ v pvs, e = .returned v ∧ OwnLs w' w.heap.size v (ts.map wantT) pvs ∧ Below w.heap.size w w' := by
  have hm := hN.2.1
  have hl := hN.1
  unfold maxLen at hm
  have HN : Hid (Cls w ao cap l) := hN
  have HO : Hid (∀ t ∈ ts, NmOk t) := hV.nmOk hnm
  have HNM : Hid (∀ x ∈ l, x.name.size ≤ maxLen) := hnm
  have HV : Hid (Vals l ts) := hV
  clear hN hV hnm
  obtain ⟨i0, hi, hz0, hz1, hz2⟩ := info_parts Tryd.infoNodes
  go_enter Tryd.func23, Tryd.ntmps23
  go_wp2_with fail
  go_loopw [3, 4] (fun x i wr => ∃ (k : Nat) (pvs : List Value), k ≤ l.length ∧ i = .int .i64 k ∧ OwnLs wr w.heap.size x (wantL ts k) pvs ∧ Below w.heap.size w wr) (fun _ i _ => l.length - (RowKit.intOf i).toNat)
  case atStart => exact ⟨0, [], by omega, rfl, ⟨rfl, World.ownsRow_nil _ _ _ _, fun i hi => by simp [wantL] at hi⟩, Below.refl _ _⟩
  case round =>
    obtain ⟨k, lpvs, hk, rfl, hown, hB⟩ := hrel
    obtain ⟨wo, hwo⟩ : ∃ wo, wo = wr := ⟨_, rfl⟩
    subst hwo
    have hlk : (wantL ts k).length = k := by unfold wantL; simp; omega
    obtain ⟨la, lc, hxv⟩ := row_form hown.row
    rw [hlk] at hxv
    subst hxv
    by_cases hlt : k < l.length
    · obtain ⟨b, o, rfl, hbl, hc⟩ := (HN.out.below hB).at_ hlt
      obtain ⟨c0, c1, c2, c3, c4, c5, c6⟩ := hc k hlt
      clear hc
      obtain ⟨p, hp⟩ := HV.out.at_ k (by omega)
      obtain ⟨t, ht⟩ : ∃ t, ts.getD k .nil = t := ⟨_, rfl⟩
      have HTM : Hid (t ∈ ts) := by rw [Hid, ← ht]; simp [htl, hlt]
      have HTK : Hid (ts.take (k + 1) = ts.take k ++ [t]) := by rw [Hid, List.take_succ_eq_append_getElem (by omega), ← ht]; simp [htl, hlt]
      rw [ht] at hp
      have HOP : Hid (opT t = hopC (l.getD k cl0)) := by rw [Hid, hp]; exact mkT_op _ _ _
      have HPA : Hid (partsT t = (hkidsC (l.getD k cl0)).map (getT (ts.take k))) := by rw [Hid, hp]; exact mkT_parts _ _ _
      have HNT : Hid (nT t = if (l.getD k cl0).kind = 1 then (l.getD k cl0).n else 0) := by rw [Hid, hp]; exact (mkT_lit _ _ _).2
      have HNA : Hid (nameT t = if (l.getD k cl0).kind = 2 then (l.getD k cl0).name else ⟨#[]⟩) := by rw [Hid, hp]; exact mkT_name _ _ _
      have HXN : Hid ((l.getD k cl0).name.size ≤ maxLen) := HNM.out _ (by simp [hlt])
      clear hp ht
      have cH := head_any (l.getD k cl0)
      have HOW : Hid (OwnLs wo w.heap.size (.slice la k lc) (wantL ts k) lpvs) := hown
      have HB : Hid (Below w.heap.size w wo) := hB
      have hwo := hB.size
      clear hown hB
      generalize l.getD k cl0 = y at *
      obtain ⟨kd, op, n, nm, a, bb, c⟩ := y
      simp only at c0 c1 c2 c3 c4 c5 c6 cH HNT HNA HXN
      obtain ⟨ks, hks0⟩ : ∃ ks, hkidsC ⟨kd, op, n, nm, a, bb, c⟩ = ks := ⟨_, rfl⟩
      obtain ⟨hop, hhop⟩ : ∃ z, hopC ⟨kd, op, n, nm, a, bb, c⟩ = z := ⟨_, rfl⟩
      rw [hks0] at HPA
      rw [hhop] at HOP
      have CH : Hid (∀ V, Calls Tryd.prog 49 #[.agg #[.int .i64 kd, .int .i64 op, .int .i64 n, .string nm, .int .i64 a, .int .i64 bb, .int .i64 c]] V fun e w' => ∃ ka kn kc, e = .returned (.tuple #[.int .i64 hop, .slice ka kn kc]) ∧ kn = ks.length ∧ kn ≤ 3 ∧ kn ≤ kc ∧ kc ≤ 3 ∧ (kn = 0 ∨ ∃ g, ka = some ⟨g, 0, none⟩ ∧ ∀ j, j < kn → w'.cell? ⟨g, j, none⟩ = some (.int .i64 (ks.getD j 0))) ∧ Below V.heap.size V w') := fun V => by
        have := cH V
        unfold HeadPost at this
        rw [hks0, hhop] at this
        exact this
      clear cH hks0 hhop
      go_wp2_with fail
      refine (CH.out _).mono ?_
      rintro e w3 ⟨ka, kn, kc, rfl, hkn, hk3, hkc, hkc3, hks, hb3⟩
      have hs3 := hb3.size
      have d0 : w3.cell? ⟨b, o + k * 7, none⟩ = some (.int .i64 kd) := (hb3.cell (p := ⟨b, o + k * 7, none⟩) hbl).trans c0
      have d2 : w3.cell? ⟨b, o + k * 7 + 2, none⟩ = some (.int .i64 n) := (hb3.cell (p := ⟨b, o + k * 7 + 2, none⟩) hbl).trans c2
      have d3 : w3.cell? ⟨b, o + k * 7 + 3, none⟩ = some (.string nm) := (hb3.cell (p := ⟨b, o + k * 7 + 3, none⟩) hbl).trans c3
      have hbne : b ≠ w3.heap.size := by omega
      obtain ⟨g, hga, hgM, hgc⟩ : ∃ g, (kn ≠ 0 → ka = some ⟨g, 0, none⟩) ∧ (ks.length ≠ 0 → g < w3.heap.size) ∧ ∀ j, j < ks.length → w3.cell? ⟨g, j, none⟩ = some (.int .i64 (ks.getD j 0)) := by
        rcases hks with h | ⟨g, h1, h2⟩
        · exact ⟨0, fun hh => absurd h hh, fun hh => by omega, fun j hj => by omega⟩
        · exact ⟨g, fun _ => h1, fun hh => World.block_lt_of_cell? _ _ (h2 0 (by omega)), fun j hj => h2 j (by omega)⟩
      have HGA : Hid (kn ≠ 0 → ka = some ⟨g, 0, none⟩) := hga
      have HOW3 : Hid (OwnLs w3 w.heap.size (.slice la k lc) (wantL ts k) lpvs) := HOW.out.below hb3
      have HB3 : Hid (Below w.heap.size w w3) := HB.out.trans (hb3.mono hwo)
      obtain ⟨M, hM⟩ : ∃ M, w3.heap.size = M := ⟨_, rfl⟩
      have HPM : Hid (∀ V N NM, V.heap[M]? = some (.cells #[.int .i64 hop, .int .i64 N, .string NM, .slice none 0 0] 62 (0, 0)) → Below w3.heap.size w3 V → PMid w M g hop N NM ks (.slice la k lc) (wantL ts k) lpvs (.slice none 0 0) (wantL (partsT t) 0) [] V) := fun V N NM hV hbV => by
        refine ⟨HOW3.out.below hbV, ⟨rfl, World.ownsRow_nil _ _ _ _, fun i hi => by simp [wantL] at hi⟩, fun b hb => (by cases hb), fun b hb => (by rw [← hM]; exact (own_block HOW3.out.row b hb).2), hV, fun j hj => (hbV.cell (p := ⟨g, j, none⟩) (hgM (by omega))).trans (hgc j hj), fun h => hM ▸ hgM h, HB3.out.trans (hbV.mono HB3.out.size)⟩
      have HMM : Hid (w3.heap.size = M) := hM
      have hbM : b ≠ M := by omega
      have D0 : ∀ o', (w3.alloc o').cell? ⟨b, o + k * 7, none⟩ = some (.int .i64 kd) := fun o' => (World.cell?_alloc_past _ _ _ (by show b < w3.heap.size; omega)).trans d0
      have D2 : ∀ o', (w3.alloc o').cell? ⟨b, o + k * 7 + 2, none⟩ = some (.int .i64 n) := fun o' => (World.cell?_alloc_past _ _ _ (by show b < w3.heap.size; omega)).trans d2
      have D3 : ∀ o', (w3.alloc o').cell? ⟨b, o + k * 7 + 3, none⟩ = some (.string nm) := fun o' => (World.cell?_alloc_past _ _ _ (by show b < w3.heap.size; omega)).trans d3
      have HKN : Hid (kn = ks.length) := hkn
      have HPN : Hid (∀ q ∈ partsT t, NmOk q) := fun q hq => by
        rw [HPA.out] at hq
        obtain ⟨z, _, rfl⟩ := List.mem_map.1 hq
        exact getT_all (P := NmOk) (nmOk_of (fun q hq => by simp [partsT] at hq) nm0) (fun t ht => HO.out t (List.mem_of_mem_take ht)) z
      have hcase : ∃ N NM, nT t = N ∧ nameT t = NM ∧ NM.size ≤ maxLen ∧ ((kd = 1 ∧ n = N ∧ NM = ⟨#[]⟩) ∨ (kd = 2 ∧ N = 0 ∧ nm = NM) ∨ (kd ≠ 1 ∧ kd ≠ 2 ∧ N = 0 ∧ NM = ⟨#[]⟩)) := by
        have h1 := HNT.out
        have h2 := HNA.out
        have h3 := HXN.out
        by_cases e1 : kd = 1
        · subst e1
          rw [if_pos rfl] at h1
          rw [if_neg (by omega)] at h2
          exact ⟨_, _, h1, h2, nm0, .inl ⟨rfl, rfl, rfl⟩⟩
        · rw [if_neg e1] at h1
          by_cases e2 : kd = 2
          · subst e2
            rw [if_pos rfl] at h2
            exact ⟨_, _, h1, h2, h3, .inr (.inl ⟨rfl, rfl, rfl⟩)⟩
          · rw [if_neg e2] at h2
            exact ⟨_, _, h1, h2, nm0, .inr (.inr ⟨e1, e2, rfl, rfl⟩)⟩
      obtain ⟨N, NM, hNT, hNA, hNS, hkc⟩ := hcase
      have CM : Hid (∀ V vs, Lst V V.heap.size vs ((partsT t).map wantT) → Calls Tryd.prog 50 #[.int .i64 hop, .int .i64 N, .string NM, vs] V fun e w' => ∃ v' er, e = .returned (.tuple #[v', .int .i64 er]) ∧ OwnN w' V.heap.size v' (wantT t) ∧ Below V.heap.size V w') := fun V vs h => by
        have := make_want t vs V h HPN.out (by rw [hNA]; exact hNS)
        rw [HOP.out, hNT, hNA] at this
        exact this
      clear c0 c1 c2 c3 c4 c5 c6 hga hgM hgc hks CH hb3 HOW hkn hNT hNA hNS HNT HNA HXN HPN
      rcases hkc with ⟨rfl, rfl, hNM⟩ | ⟨rfl, hN0, rfl⟩ | ⟨hk1, hk2, hN0, hNM⟩
      · have HNE : Hid (NM = ⟨#[]⟩) := hNM
        clear hNM
        go_wp2_with fail
        go_loopw [8, 9] (fun pv j wq => ∃ (q : Nat) (ppvs : List Value), q ≤ kn ∧ j = .int .i64 q ∧ PMid w M g hop n NM ks (.slice la k lc) (wantL ts k) lpvs pv (wantL (partsT t) q) ppvs wq) (fun _ j _ => kn - (RowKit.intOf j).toNat)
        case atStart =>
          refine ⟨0, [], by omega, rfl, HPM.out _ _ _ ?_ ?_⟩
          · have := Deep.blk_alloc_new w3 (.cells #[.int .i64 hop, .int .i64 n, .string ⟨#[]⟩, .slice none 0 0] 62)
            rw [HMM.out] at this
            rw [HNE.out]
            exact this
          · exact (Below.refl _ _).alloc (Nat.le_refl _) _
        case round =>
          obtain ⟨q, ppvs, hq, rfl, hP⟩ := hrel
          clear HPM D0 D2 D3
          have HP : Hid (PMid w M g hop n NM ks (.slice la k lc) (wantL ts k) lpvs _ (wantL (partsT t) q) ppvs wr) := hP
          obtain ⟨pa, pc, hpv⟩ := row_form hP.p.row
          have hpl : (partsT t).length = kn := by rw [HPA.out, List.length_map]; exact HKN.out.symm
          have hPl : (wantL (partsT t) q).length = q := by unfold wantL; simp; omega
          rw [hPl] at hpv
          subst hpv
          have hMr := lt_of_block hP.node
          have hwr := hP.below.size
          by_cases hql : q < kn
          · obtain rfl : ka = some ⟨g, 0, none⟩ := HGA.out (by omega)
            have hqk : q < ks.length := by have := HKN.out; omega
            have e1 := hP.kids q hqk
            obtain ⟨z, hz⟩ : ∃ z, ks.getD q 0 = z := ⟨_, rfl⟩
            rw [hz] at e1
            have hgl : g < wr.heap.size := World.block_lt_of_cell? _ _ e1
            have hgne : g ≠ wr.heap.size := by omega
            obtain ⟨pq, hpq⟩ : ∃ pq, (partsT t).getD q .nil = pq := ⟨_, rfl⟩
            have HPQ : Hid (pq = getT (ts.take k) z) := by
              rw [Hid, ← hpq, ← hz, HPA.out]; simp [hqk]
            have HTQ : Hid ((partsT t).take (q + 1) = (partsT t).take q ++ [pq]) := by
              rw [Hid, List.take_succ_eq_append_getElem (by omega), ← hpq]; simp [show q < (partsT t).length by omega]
            have hrow := hP.p.row
            rw [hPl] at hrow
            have HEND : Hid (∀ (o : Obj) (w1 : World) (g1 cap1 : Nat) (xv : Value), OwnN wr w.heap.size xv (wantT pq) → w1.ownsRow w.heap.size 22 1 (.slice (some ⟨g1, 0, none⟩) (q + 1) cap1) (q + 1) (ppvs ++ [xv]) → (wr.alloc o).grownBy w1 (Value.slice pa q pc).ownBlock → ((Value.slice pa q pc).ownBlock = some g1 ∨ g1 = (wr.alloc o).heap.size) →
                PMid w M g hop n NM ks (.slice la k lc) (wantL ts k) lpvs (.slice (some ⟨g1, 0, none⟩) (q + 1) cap1) (wantL (partsT t) (q + 1)) (ppvs ++ [xv]) w1) := fun o w1 g1 cap1 xv hx h1 h2 h3 => by
              have e : wantL (partsT t) (q + 1) = wantL (partsT t) q ++ [wantT pq] := by unfold wantL; rw [HTQ.out, List.map_append, List.map_cons, List.map_nil]
              rw [e]
              refine HP.out.snoc hx (by rw [hPl]; exact h1) h2 (fun b hb => ?_)
              simp [Value.ownBlock] at hb
              subst hb
              exact h3
            have HLC : Hid (∀ i, i < k → ∃ lg lcap, Value.slice la k lc = .slice (some ⟨lg, 0, none⟩) k lcap ∧ lg < wr.heap.size ∧ wr.cell? ⟨lg, i, none⟩ = some (lpvs.getD i (.slice none 0 0)) ∧ OwnN wr w.heap.size (lpvs.getD i (.slice none 0 0)) (wantT (ts.getD i .nil))) := fun i hi => by
              obtain ⟨lg, lcap, h1, h2, h3⟩ := HP.out.l.cell (i := i) (by omega)
              rw [hlk] at h1
              refine ⟨lg, lcap, h1, h2, h3, ?_⟩
              have := HP.out.l.each i (by omega)
              have e : (wantL ts k).getD i [] = wantT (ts.getD i .nil) := by
                unfold wantL; simp [List.getElem?_take, hi, show i < ts.length by omega]
              rw [e] at this
              exact this
            clear hP hz hpq
            by_cases hzn : 0 ≤ z
            · by_cases hzk : z < k
              · obtain ⟨zn, rfl⟩ : ∃ zn : Nat, z = (zn : Int) := ⟨z.toNat, by omega⟩
                obtain ⟨lg, lcap, hx, hlg, hcell, hxo⟩ := HLC.out zn (by omega)
                cases hx
                obtain ⟨xv, hxv⟩ : ∃ xv, lpvs.getD zn (.slice none 0 0) = xv := ⟨_, rfl⟩
                rw [hxv] at hcell hxo
                have hw : wantT (ts.getD zn .nil) = wantT pq := by
                  rw [HPQ.out, getT_in' ts k zn (by omega) (by omega) (by omega), Int.toNat_natCast]
                rw [hw] at hxo
                have HXO : Hid (OwnN wr w.heap.size xv (wantT pq)) := hxo
                obtain ⟨xa, xn, xc, rfl⟩ := hxo.form
                clear hxo hw hxv HLC
                go_wp2_with (at_builtin; refine wpList_append_lies _ rfl (.tmp 79) (.tmp 81) 41 rfl w.heap.size 22 i0 (.slice none 0 0) 1 24 Tryd.underlying41 hi hz0 hz1 hz2 rfl (by decide) _ _ _ rfl (hrow.alloc _) ⟨wr.heap.size, 0, none⟩ 1 1 [.slice xa xn xc] rfl rfl (cell_news_one _ _ _) (by simp [Value.oneCell']) (by omega) (by unfold maxLen; omega) (by omega) (by simp; omega) _ rfl ?_; intro g1 cap1 w1 hown1 hg1 hat1 hl1)
                have HF := HEND.out _ w1 g1 cap1 _ HXO.out hown1 hg1 hat1
                first | exact ⟨⟨q + 1, ppvs ++ [.slice xa xn xc], by omega, by go_num, HF⟩, by simp [RowKit.intOf]; omega⟩ | exact ⟨⟨q + 1, by omega, by go_num, _, HF⟩, by simp [RowKit.intOf]; omega⟩
              · have HXO : Hid (OwnN wr w.heap.size (.slice none 0 0) (wantT pq)) := by
                  rw [Hid, HPQ.out, getT_out' ts k z (by omega) (by omega), want_nil]; exact OwnN_nil _ _
                clear HLC
                go_wp2_with (at_builtin; refine wpList_append_lies _ rfl (.tmp 79) (.tmp 81) 41 rfl w.heap.size 22 i0 (.slice none 0 0) 1 24 Tryd.underlying41 hi hz0 hz1 hz2 rfl (by decide) _ _ _ rfl (hrow.alloc _) ⟨wr.heap.size, 0, none⟩ 1 1 [.slice none 0 0] rfl rfl (cell_news_one _ _ _) (by simp [Value.oneCell']) (by omega) (by unfold maxLen; omega) (by omega) (by simp; omega) _ rfl ?_; intro g1 cap1 w1 hown1 hg1 hat1 hl1)
                have HF := HEND.out _ w1 g1 cap1 _ HXO.out hown1 hg1 hat1
                first | exact ⟨⟨q + 1, ppvs ++ [.slice none 0 0], by omega, by go_num, HF⟩, by simp [RowKit.intOf]; omega⟩ | exact ⟨⟨q + 1, by omega, by go_num, _, HF⟩, by simp [RowKit.intOf]; omega⟩
            · have HXO : Hid (OwnN wr w.heap.size (.slice none 0 0) (wantT pq)) := by
                rw [Hid, HPQ.out, getT_out' ts k z (by omega) (by omega), want_nil]; exact OwnN_nil _ _
              clear HLC
              go_wp2_with (at_builtin; refine wpList_append_lies _ rfl (.tmp 79) (.tmp 81) 41 rfl w.heap.size 22 i0 (.slice none 0 0) 1 24 Tryd.underlying41 hi hz0 hz1 hz2 rfl (by decide) _ _ _ rfl (hrow.alloc _) ⟨wr.heap.size, 0, none⟩ 1 1 [.slice none 0 0] rfl rfl (cell_news_one _ _ _) (by simp [Value.oneCell']) (by omega) (by unfold maxLen; omega) (by omega) (by simp; omega) _ rfl ?_; intro g1 cap1 w1 hown1 hg1 hat1 hl1)
              have HF := HEND.out _ w1 g1 cap1 _ HXO.out hown1 hg1 hat1
              first | exact ⟨⟨q + 1, ppvs ++ [.slice none 0 0], by omega, by go_num, HF⟩, by simp [RowKit.intOf]; omega⟩ | exact ⟨⟨q + 1, by omega, by go_num, _, HF⟩, by simp [RowKit.intOf]; omega⟩
          · have hqe : q = kn := by omega
            subst hqe
            have m0 : wr.cell? ⟨M, 0, none⟩ = some (.int .i64 hop) := by simp [World.cell?, hP.node]
            have m1 : wr.cell? ⟨M, 1, none⟩ = some (.int .i64 n) := by simp [World.cell?, hP.node]
            have m2 : wr.cell? ⟨M, 2, none⟩ = some (.string NM) := by simp [World.cell?, hP.node]
            have hall : (partsT t).take q = partsT t := List.take_of_length_le (by omega)
            have hpp := hP.p
            have hel : wantL (partsT t) q = (partsT t).map wantT := by unfold wantL; rw [hall]
            rw [hel] at hpp
            have HLS : Hid (Lst wr wr.heap.size (.slice pa q pc) ((partsT t).map wantT)) := Lst_of_own hpp (Nat.le_refl _)
            clear hpp hall hP hel
            go_wp2_with fail
            refine (CM.out wr (.slice pa q pc) HLS.out).mono ?_
            rintro e w5 ⟨v5, er, rfl, hO5, hb5⟩
            obtain ⟨a5, n5, k5, rfl⟩ := hO5.form
            have hl5 := HP.out.l.below hb5
            have hrow5 := hl5.row
            rw [hlk] at hrow5
            have hs5 := hb5.size
            have HL5 : Hid (OwnLs w5 w.heap.size (.slice la k lc) (wantL ts k) lpvs) := hl5
            have HO5 : Hid (OwnN w5 w.heap.size (.slice a5 n5 k5) (wantT t)) := OwnN_mono hO5 hwr
            have HB5 : Hid (Below w.heap.size w w5) := HP.out.below.trans (hb5.mono hwr)
            clear hl5 hO5 hb5 HLS m0 m1 m2
            go_wp2_with (at_builtin; refine wpList_append_lies _ rfl (.tmp 94) (.tmp 96) 41 rfl w.heap.size 22 i0 (.slice none 0 0) 1 24 Tryd.underlying41 hi hz0 hz1 hz2 rfl (by decide) _ _ _ rfl (hrow5.alloc _) ⟨w5.heap.size, 0, none⟩ 1 1 [.slice a5 n5 k5] rfl rfl (cell_news_one _ _ _) (by simp [Value.oneCell']) (by omega) (by unfold maxLen; omega) (by omega) (by simp; omega) _ rfl ?_; intro g1 cap1 w1 hown1 hg1 hat1 hl1)
            refine ⟨⟨k + 1, lpvs ++ [.slice a5 n5 k5], by omega, by go_num, ?_, ?_⟩, by simp [RowKit.intOf]; omega⟩
            · have e : wantL ts (k + 1) = wantL ts k ++ [wantT t] := by unfold wantL; rw [HTK.out, List.map_append, List.map_cons, List.map_nil]
              rw [e]
              have hA := HL5.out.below ((Below.refl _ _).alloc (Nat.le_refl _) (.cells #[.slice a5 n5 k5] 22))
              exact hA.snoc (HO5.out.below ((Below.refl _ _).alloc (Nat.le_refl _) _)) (by rw [hlk]; exact hown1) hg1
            · exact (HB5.out.alloc HB5.out.size _).grown hg1 (by simp; omega) (fun k hk => (hrow5.lt k hk).1)
      · have HN0 : Hid (N = 0) := hN0
        clear hN0
        go_wp2_with fail
        go_loopw [8, 9] (fun pv j wq => ∃ (q : Nat) (ppvs : List Value), q ≤ kn ∧ j = .int .i64 q ∧ PMid w M g hop N nm ks (.slice la k lc) (wantL ts k) lpvs pv (wantL (partsT t) q) ppvs wq) (fun _ j _ => kn - (RowKit.intOf j).toNat)
        case atStart =>
          refine ⟨0, [], by omega, rfl, HPM.out _ _ _ ?_ ?_⟩
          · have := Deep.blk_alloc_new w3 (.cells #[.int .i64 hop, .int .i64 0, .string nm, .slice none 0 0] 62)
            rw [HMM.out] at this
            rw [HN0.out]
            exact this
          · exact (Below.refl _ _).alloc (Nat.le_refl _) _
        case round =>
          obtain ⟨q, ppvs, hq, rfl, hP⟩ := hrel
          clear HPM D0 D2 D3
          have HP : Hid (PMid w M g hop N nm ks (.slice la k lc) (wantL ts k) lpvs _ (wantL (partsT t) q) ppvs wr) := hP
          obtain ⟨pa, pc, hpv⟩ := row_form hP.p.row
          have hpl : (partsT t).length = kn := by rw [HPA.out, List.length_map]; exact HKN.out.symm
          have hPl : (wantL (partsT t) q).length = q := by unfold wantL; simp; omega
          rw [hPl] at hpv
          subst hpv
          have hMr := lt_of_block hP.node
          have hwr := hP.below.size
          by_cases hql : q < kn
          · obtain rfl : ka = some ⟨g, 0, none⟩ := HGA.out (by omega)
            have hqk : q < ks.length := by have := HKN.out; omega
            have e1 := hP.kids q hqk
            obtain ⟨z, hz⟩ : ∃ z, ks.getD q 0 = z := ⟨_, rfl⟩
            rw [hz] at e1
            have hgl : g < wr.heap.size := World.block_lt_of_cell? _ _ e1
            have hgne : g ≠ wr.heap.size := by omega
            obtain ⟨pq, hpq⟩ : ∃ pq, (partsT t).getD q .nil = pq := ⟨_, rfl⟩
            have HPQ : Hid (pq = getT (ts.take k) z) := by
              rw [Hid, ← hpq, ← hz, HPA.out]; simp [hqk]
            have HTQ : Hid ((partsT t).take (q + 1) = (partsT t).take q ++ [pq]) := by
              rw [Hid, List.take_succ_eq_append_getElem (by omega), ← hpq]; simp [show q < (partsT t).length by omega]
            have hrow := hP.p.row
            rw [hPl] at hrow
            have HEND : Hid (∀ (o : Obj) (w1 : World) (g1 cap1 : Nat) (xv : Value), OwnN wr w.heap.size xv (wantT pq) → w1.ownsRow w.heap.size 22 1 (.slice (some ⟨g1, 0, none⟩) (q + 1) cap1) (q + 1) (ppvs ++ [xv]) → (wr.alloc o).grownBy w1 (Value.slice pa q pc).ownBlock → ((Value.slice pa q pc).ownBlock = some g1 ∨ g1 = (wr.alloc o).heap.size) →
                PMid w M g hop N nm ks (.slice la k lc) (wantL ts k) lpvs (.slice (some ⟨g1, 0, none⟩) (q + 1) cap1) (wantL (partsT t) (q + 1)) (ppvs ++ [xv]) w1) := fun o w1 g1 cap1 xv hx h1 h2 h3 => by
              have e : wantL (partsT t) (q + 1) = wantL (partsT t) q ++ [wantT pq] := by unfold wantL; rw [HTQ.out, List.map_append, List.map_cons, List.map_nil]
              rw [e]
              refine HP.out.snoc hx (by rw [hPl]; exact h1) h2 (fun b hb => ?_)
              simp [Value.ownBlock] at hb
              subst hb
              exact h3
            have HLC : Hid (∀ i, i < k → ∃ lg lcap, Value.slice la k lc = .slice (some ⟨lg, 0, none⟩) k lcap ∧ lg < wr.heap.size ∧ wr.cell? ⟨lg, i, none⟩ = some (lpvs.getD i (.slice none 0 0)) ∧ OwnN wr w.heap.size (lpvs.getD i (.slice none 0 0)) (wantT (ts.getD i .nil))) := fun i hi => by
              obtain ⟨lg, lcap, h1, h2, h3⟩ := HP.out.l.cell (i := i) (by omega)
              rw [hlk] at h1
              refine ⟨lg, lcap, h1, h2, h3, ?_⟩
              have := HP.out.l.each i (by omega)
              have e : (wantL ts k).getD i [] = wantT (ts.getD i .nil) := by
                unfold wantL; simp [List.getElem?_take, hi, show i < ts.length by omega]
              rw [e] at this
              exact this
            clear hP hz hpq
            by_cases hzn : 0 ≤ z
            · by_cases hzk : z < k
              · obtain ⟨zn, rfl⟩ : ∃ zn : Nat, z = (zn : Int) := ⟨z.toNat, by omega⟩
                obtain ⟨lg, lcap, hx, hlg, hcell, hxo⟩ := HLC.out zn (by omega)
                cases hx
                obtain ⟨xv, hxv⟩ : ∃ xv, lpvs.getD zn (.slice none 0 0) = xv := ⟨_, rfl⟩
                rw [hxv] at hcell hxo
                have hw : wantT (ts.getD zn .nil) = wantT pq := by
                  rw [HPQ.out, getT_in' ts k zn (by omega) (by omega) (by omega), Int.toNat_natCast]
                rw [hw] at hxo
                have HXO : Hid (OwnN wr w.heap.size xv (wantT pq)) := hxo
                obtain ⟨xa, xn, xc, rfl⟩ := hxo.form
                clear hxo hw hxv HLC
                go_wp2_with (at_builtin; refine wpList_append_lies _ rfl (.tmp 79) (.tmp 81) 41 rfl w.heap.size 22 i0 (.slice none 0 0) 1 24 Tryd.underlying41 hi hz0 hz1 hz2 rfl (by decide) _ _ _ rfl (hrow.alloc _) ⟨wr.heap.size, 0, none⟩ 1 1 [.slice xa xn xc] rfl rfl (cell_news_one _ _ _) (by simp [Value.oneCell']) (by omega) (by unfold maxLen; omega) (by omega) (by simp; omega) _ rfl ?_; intro g1 cap1 w1 hown1 hg1 hat1 hl1)
                have HF := HEND.out _ w1 g1 cap1 _ HXO.out hown1 hg1 hat1
                first | exact ⟨⟨q + 1, ppvs ++ [.slice xa xn xc], by omega, by go_num, HF⟩, by simp [RowKit.intOf]; omega⟩ | exact ⟨⟨q + 1, by omega, by go_num, _, HF⟩, by simp [RowKit.intOf]; omega⟩
              · have HXO : Hid (OwnN wr w.heap.size (.slice none 0 0) (wantT pq)) := by
                  rw [Hid, HPQ.out, getT_out' ts k z (by omega) (by omega), want_nil]; exact OwnN_nil _ _
                clear HLC
                go_wp2_with (at_builtin; refine wpList_append_lies _ rfl (.tmp 79) (.tmp 81) 41 rfl w.heap.size 22 i0 (.slice none 0 0) 1 24 Tryd.underlying41 hi hz0 hz1 hz2 rfl (by decide) _ _ _ rfl (hrow.alloc _) ⟨wr.heap.size, 0, none⟩ 1 1 [.slice none 0 0] rfl rfl (cell_news_one _ _ _) (by simp [Value.oneCell']) (by omega) (by unfold maxLen; omega) (by omega) (by simp; omega) _ rfl ?_; intro g1 cap1 w1 hown1 hg1 hat1 hl1)
                have HF := HEND.out _ w1 g1 cap1 _ HXO.out hown1 hg1 hat1
                first | exact ⟨⟨q + 1, ppvs ++ [.slice none 0 0], by omega, by go_num, HF⟩, by simp [RowKit.intOf]; omega⟩ | exact ⟨⟨q + 1, by omega, by go_num, _, HF⟩, by simp [RowKit.intOf]; omega⟩
            · have HXO : Hid (OwnN wr w.heap.size (.slice none 0 0) (wantT pq)) := by
                rw [Hid, HPQ.out, getT_out' ts k z (by omega) (by omega), want_nil]; exact OwnN_nil _ _
              clear HLC
              go_wp2_with (at_builtin; refine wpList_append_lies _ rfl (.tmp 79) (.tmp 81) 41 rfl w.heap.size 22 i0 (.slice none 0 0) 1 24 Tryd.underlying41 hi hz0 hz1 hz2 rfl (by decide) _ _ _ rfl (hrow.alloc _) ⟨wr.heap.size, 0, none⟩ 1 1 [.slice none 0 0] rfl rfl (cell_news_one _ _ _) (by simp [Value.oneCell']) (by omega) (by unfold maxLen; omega) (by omega) (by simp; omega) _ rfl ?_; intro g1 cap1 w1 hown1 hg1 hat1 hl1)
              have HF := HEND.out _ w1 g1 cap1 _ HXO.out hown1 hg1 hat1
              first | exact ⟨⟨q + 1, ppvs ++ [.slice none 0 0], by omega, by go_num, HF⟩, by simp [RowKit.intOf]; omega⟩ | exact ⟨⟨q + 1, by omega, by go_num, _, HF⟩, by simp [RowKit.intOf]; omega⟩
          · have hqe : q = kn := by omega
            subst hqe
            have m0 : wr.cell? ⟨M, 0, none⟩ = some (.int .i64 hop) := by simp [World.cell?, hP.node]
            have m1 : wr.cell? ⟨M, 1, none⟩ = some (.int .i64 N) := by simp [World.cell?, hP.node]
            have m2 : wr.cell? ⟨M, 2, none⟩ = some (.string nm) := by simp [World.cell?, hP.node]
            have hall : (partsT t).take q = partsT t := List.take_of_length_le (by omega)
            have hpp := hP.p
            have hel : wantL (partsT t) q = (partsT t).map wantT := by unfold wantL; rw [hall]
            rw [hel] at hpp
            have HLS : Hid (Lst wr wr.heap.size (.slice pa q pc) ((partsT t).map wantT)) := Lst_of_own hpp (Nat.le_refl _)
            clear hpp hall hP hel
            go_wp2_with fail
            refine (CM.out wr (.slice pa q pc) HLS.out).mono ?_
            rintro e w5 ⟨v5, er, rfl, hO5, hb5⟩
            obtain ⟨a5, n5, k5, rfl⟩ := hO5.form
            have hl5 := HP.out.l.below hb5
            have hrow5 := hl5.row
            rw [hlk] at hrow5
            have hs5 := hb5.size
            have HL5 : Hid (OwnLs w5 w.heap.size (.slice la k lc) (wantL ts k) lpvs) := hl5
            have HO5 : Hid (OwnN w5 w.heap.size (.slice a5 n5 k5) (wantT t)) := OwnN_mono hO5 hwr
            have HB5 : Hid (Below w.heap.size w w5) := HP.out.below.trans (hb5.mono hwr)
            clear hl5 hO5 hb5 HLS m0 m1 m2
            go_wp2_with (at_builtin; refine wpList_append_lies _ rfl (.tmp 94) (.tmp 96) 41 rfl w.heap.size 22 i0 (.slice none 0 0) 1 24 Tryd.underlying41 hi hz0 hz1 hz2 rfl (by decide) _ _ _ rfl (hrow5.alloc _) ⟨w5.heap.size, 0, none⟩ 1 1 [.slice a5 n5 k5] rfl rfl (cell_news_one _ _ _) (by simp [Value.oneCell']) (by omega) (by unfold maxLen; omega) (by omega) (by simp; omega) _ rfl ?_; intro g1 cap1 w1 hown1 hg1 hat1 hl1)
            refine ⟨⟨k + 1, lpvs ++ [.slice a5 n5 k5], by omega, by go_num, ?_, ?_⟩, by simp [RowKit.intOf]; omega⟩
            · have e : wantL ts (k + 1) = wantL ts k ++ [wantT t] := by unfold wantL; rw [HTK.out, List.map_append, List.map_cons, List.map_nil]
              rw [e]
              have hA := HL5.out.below ((Below.refl _ _).alloc (Nat.le_refl _) (.cells #[.slice a5 n5 k5] 22))
              exact hA.snoc (HO5.out.below ((Below.refl _ _).alloc (Nat.le_refl _) _)) (by rw [hlk]; exact hown1) hg1
            · exact (HB5.out.alloc HB5.out.size _).grown hg1 (by simp; omega) (fun k hk => (hrow5.lt k hk).1)
      · have HNE : Hid (NM = ⟨#[]⟩) := hNM
        have HN0 : Hid (N = 0) := hN0
        clear hNM hN0
        go_wp2_with fail
        go_loopw [8, 9] (fun pv j wq => ∃ (q : Nat) (ppvs : List Value), q ≤ kn ∧ j = .int .i64 q ∧ PMid w M g hop N NM ks (.slice la k lc) (wantL ts k) lpvs pv (wantL (partsT t) q) ppvs wq) (fun _ j _ => kn - (RowKit.intOf j).toNat)
        case atStart =>
          refine ⟨0, [], by omega, rfl, HPM.out _ _ _ ?_ ?_⟩
          · have := Deep.blk_alloc_new w3 (.cells #[.int .i64 hop, .int .i64 0, .string ⟨#[]⟩, .slice none 0 0] 62)
            rw [HMM.out] at this
            rw [HN0.out, HNE.out]
            exact this
          · exact (Below.refl _ _).alloc (Nat.le_refl _) _
        case round =>
          obtain ⟨q, ppvs, hq, rfl, hP⟩ := hrel
          clear HPM D0 D2 D3
          have HP : Hid (PMid w M g hop N NM ks (.slice la k lc) (wantL ts k) lpvs _ (wantL (partsT t) q) ppvs wr) := hP
          obtain ⟨pa, pc, hpv⟩ := row_form hP.p.row
          have hpl : (partsT t).length = kn := by rw [HPA.out, List.length_map]; exact HKN.out.symm
          have hPl : (wantL (partsT t) q).length = q := by unfold wantL; simp; omega
          rw [hPl] at hpv
          subst hpv
          have hMr := lt_of_block hP.node
          have hwr := hP.below.size
          by_cases hql : q < kn
          · obtain rfl : ka = some ⟨g, 0, none⟩ := HGA.out (by omega)
            have hqk : q < ks.length := by have := HKN.out; omega
            have e1 := hP.kids q hqk
            obtain ⟨z, hz⟩ : ∃ z, ks.getD q 0 = z := ⟨_, rfl⟩
            rw [hz] at e1
            have hgl : g < wr.heap.size := World.block_lt_of_cell? _ _ e1
            have hgne : g ≠ wr.heap.size := by omega
            obtain ⟨pq, hpq⟩ : ∃ pq, (partsT t).getD q .nil = pq := ⟨_, rfl⟩
            have HPQ : Hid (pq = getT (ts.take k) z) := by
              rw [Hid, ← hpq, ← hz, HPA.out]; simp [hqk]
            have HTQ : Hid ((partsT t).take (q + 1) = (partsT t).take q ++ [pq]) := by
              rw [Hid, List.take_succ_eq_append_getElem (by omega), ← hpq]; simp [show q < (partsT t).length by omega]
            have hrow := hP.p.row
            rw [hPl] at hrow
            have HEND : Hid (∀ (o : Obj) (w1 : World) (g1 cap1 : Nat) (xv : Value), OwnN wr w.heap.size xv (wantT pq) → w1.ownsRow w.heap.size 22 1 (.slice (some ⟨g1, 0, none⟩) (q + 1) cap1) (q + 1) (ppvs ++ [xv]) → (wr.alloc o).grownBy w1 (Value.slice pa q pc).ownBlock → ((Value.slice pa q pc).ownBlock = some g1 ∨ g1 = (wr.alloc o).heap.size) →
                PMid w M g hop N NM ks (.slice la k lc) (wantL ts k) lpvs (.slice (some ⟨g1, 0, none⟩) (q + 1) cap1) (wantL (partsT t) (q + 1)) (ppvs ++ [xv]) w1) := fun o w1 g1 cap1 xv hx h1 h2 h3 => by
              have e : wantL (partsT t) (q + 1) = wantL (partsT t) q ++ [wantT pq] := by unfold wantL; rw [HTQ.out, List.map_append, List.map_cons, List.map_nil]
              rw [e]
              refine HP.out.snoc hx (by rw [hPl]; exact h1) h2 (fun b hb => ?_)
              simp [Value.ownBlock] at hb
              subst hb
              exact h3
            have HLC : Hid (∀ i, i < k → ∃ lg lcap, Value.slice la k lc = .slice (some ⟨lg, 0, none⟩) k lcap ∧ lg < wr.heap.size ∧ wr.cell? ⟨lg, i, none⟩ = some (lpvs.getD i (.slice none 0 0)) ∧ OwnN wr w.heap.size (lpvs.getD i (.slice none 0 0)) (wantT (ts.getD i .nil))) := fun i hi => by
              obtain ⟨lg, lcap, h1, h2, h3⟩ := HP.out.l.cell (i := i) (by omega)
              rw [hlk] at h1
              refine ⟨lg, lcap, h1, h2, h3, ?_⟩
              have := HP.out.l.each i (by omega)
              have e : (wantL ts k).getD i [] = wantT (ts.getD i .nil) := by
                unfold wantL; simp [List.getElem?_take, hi, show i < ts.length by omega]
              rw [e] at this
              exact this
            clear hP hz hpq
            by_cases hzn : 0 ≤ z
            · by_cases hzk : z < k
              · obtain ⟨zn, rfl⟩ : ∃ zn : Nat, z = (zn : Int) := ⟨z.toNat, by omega⟩
                obtain ⟨lg, lcap, hx, hlg, hcell, hxo⟩ := HLC.out zn (by omega)
                cases hx
                obtain ⟨xv, hxv⟩ : ∃ xv, lpvs.getD zn (.slice none 0 0) = xv := ⟨_, rfl⟩
                rw [hxv] at hcell hxo
                have hw : wantT (ts.getD zn .nil) = wantT pq := by
                  rw [HPQ.out, getT_in' ts k zn (by omega) (by omega) (by omega), Int.toNat_natCast]
                rw [hw] at hxo
                have HXO : Hid (OwnN wr w.heap.size xv (wantT pq)) := hxo
                obtain ⟨xa, xn, xc, rfl⟩ := hxo.form
                clear hxo hw hxv HLC
                go_wp2_with (at_builtin; refine wpList_append_lies _ rfl (.tmp 79) (.tmp 81) 41 rfl w.heap.size 22 i0 (.slice none 0 0) 1 24 Tryd.underlying41 hi hz0 hz1 hz2 rfl (by decide) _ _ _ rfl (hrow.alloc _) ⟨wr.heap.size, 0, none⟩ 1 1 [.slice xa xn xc] rfl rfl (cell_news_one _ _ _) (by simp [Value.oneCell']) (by omega) (by unfold maxLen; omega) (by omega) (by simp; omega) _ rfl ?_; intro g1 cap1 w1 hown1 hg1 hat1 hl1)
                have HF := HEND.out _ w1 g1 cap1 _ HXO.out hown1 hg1 hat1
                first | exact ⟨⟨q + 1, ppvs ++ [.slice xa xn xc], by omega, by go_num, HF⟩, by simp [RowKit.intOf]; omega⟩ | exact ⟨⟨q + 1, by omega, by go_num, _, HF⟩, by simp [RowKit.intOf]; omega⟩
              · have HXO : Hid (OwnN wr w.heap.size (.slice none 0 0) (wantT pq)) := by
                  rw [Hid, HPQ.out, getT_out' ts k z (by omega) (by omega), want_nil]; exact OwnN_nil _ _
                clear HLC
                go_wp2_with (at_builtin; refine wpList_append_lies _ rfl (.tmp 79) (.tmp 81) 41 rfl w.heap.size 22 i0 (.slice none 0 0) 1 24 Tryd.underlying41 hi hz0 hz1 hz2 rfl (by decide) _ _ _ rfl (hrow.alloc _) ⟨wr.heap.size, 0, none⟩ 1 1 [.slice none 0 0] rfl rfl (cell_news_one _ _ _) (by simp [Value.oneCell']) (by omega) (by unfold maxLen; omega) (by omega) (by simp; omega) _ rfl ?_; intro g1 cap1 w1 hown1 hg1 hat1 hl1)
                have HF := HEND.out _ w1 g1 cap1 _ HXO.out hown1 hg1 hat1
                first | exact ⟨⟨q + 1, ppvs ++ [.slice none 0 0], by omega, by go_num, HF⟩, by simp [RowKit.intOf]; omega⟩ | exact ⟨⟨q + 1, by omega, by go_num, _, HF⟩, by simp [RowKit.intOf]; omega⟩
            · have HXO : Hid (OwnN wr w.heap.size (.slice none 0 0) (wantT pq)) := by
                rw [Hid, HPQ.out, getT_out' ts k z (by omega) (by omega), want_nil]; exact OwnN_nil _ _
              clear HLC
              go_wp2_with (at_builtin; refine wpList_append_lies _ rfl (.tmp 79) (.tmp 81) 41 rfl w.heap.size 22 i0 (.slice none 0 0) 1 24 Tryd.underlying41 hi hz0 hz1 hz2 rfl (by decide) _ _ _ rfl (hrow.alloc _) ⟨wr.heap.size, 0, none⟩ 1 1 [.slice none 0 0] rfl rfl (cell_news_one _ _ _) (by simp [Value.oneCell']) (by omega) (by unfold maxLen; omega) (by omega) (by simp; omega) _ rfl ?_; intro g1 cap1 w1 hown1 hg1 hat1 hl1)
              have HF := HEND.out _ w1 g1 cap1 _ HXO.out hown1 hg1 hat1
              first | exact ⟨⟨q + 1, ppvs ++ [.slice none 0 0], by omega, by go_num, HF⟩, by simp [RowKit.intOf]; omega⟩ | exact ⟨⟨q + 1, by omega, by go_num, _, HF⟩, by simp [RowKit.intOf]; omega⟩
          · have hqe : q = kn := by omega
            subst hqe
            have m0 : wr.cell? ⟨M, 0, none⟩ = some (.int .i64 hop) := by simp [World.cell?, hP.node]
            have m1 : wr.cell? ⟨M, 1, none⟩ = some (.int .i64 N) := by simp [World.cell?, hP.node]
            have m2 : wr.cell? ⟨M, 2, none⟩ = some (.string NM) := by simp [World.cell?, hP.node]
            have hall : (partsT t).take q = partsT t := List.take_of_length_le (by omega)
            have hpp := hP.p
            have hel : wantL (partsT t) q = (partsT t).map wantT := by unfold wantL; rw [hall]
            rw [hel] at hpp
            have HLS : Hid (Lst wr wr.heap.size (.slice pa q pc) ((partsT t).map wantT)) := Lst_of_own hpp (Nat.le_refl _)
            clear hpp hall hP hel
            go_wp2_with fail
            refine (CM.out wr (.slice pa q pc) HLS.out).mono ?_
            rintro e w5 ⟨v5, er, rfl, hO5, hb5⟩
            obtain ⟨a5, n5, k5, rfl⟩ := hO5.form
            have hl5 := HP.out.l.below hb5
            have hrow5 := hl5.row
            rw [hlk] at hrow5
            have hs5 := hb5.size
            have HL5 : Hid (OwnLs w5 w.heap.size (.slice la k lc) (wantL ts k) lpvs) := hl5
            have HO5 : Hid (OwnN w5 w.heap.size (.slice a5 n5 k5) (wantT t)) := OwnN_mono hO5 hwr
            have HB5 : Hid (Below w.heap.size w w5) := HP.out.below.trans (hb5.mono hwr)
            clear hl5 hO5 hb5 HLS m0 m1 m2
            go_wp2_with (at_builtin; refine wpList_append_lies _ rfl (.tmp 94) (.tmp 96) 41 rfl w.heap.size 22 i0 (.slice none 0 0) 1 24 Tryd.underlying41 hi hz0 hz1 hz2 rfl (by decide) _ _ _ rfl (hrow5.alloc _) ⟨w5.heap.size, 0, none⟩ 1 1 [.slice a5 n5 k5] rfl rfl (cell_news_one _ _ _) (by simp [Value.oneCell']) (by omega) (by unfold maxLen; omega) (by omega) (by simp; omega) _ rfl ?_; intro g1 cap1 w1 hown1 hg1 hat1 hl1)
            refine ⟨⟨k + 1, lpvs ++ [.slice a5 n5 k5], by omega, by go_num, ?_, ?_⟩, by simp [RowKit.intOf]; omega⟩
            · have e : wantL ts (k + 1) = wantL ts k ++ [wantT t] := by unfold wantL; rw [HTK.out, List.map_append, List.map_cons, List.map_nil]
              rw [e]
              have hA := HL5.out.below ((Below.refl _ _).alloc (Nat.le_refl _) (.cells #[.slice a5 n5 k5] 22))
              exact hA.snoc (HO5.out.below ((Below.refl _ _).alloc (Nat.le_refl _) _)) (by rw [hlk]; exact hown1) hg1
            · exact (HB5.out.alloc HB5.out.size _).grown hg1 (by simp; omega) (fun k hk => (hrow5.lt k hk).1)
    · have hke : k = l.length := by omega
      subst hke
      go_wp2_with fail
      go_ret
      have e : wantL ts l.length = ts.map wantT := by unfold wantL; rw [List.take_of_length_le (by omega)]
      rw [e] at hown
      exact ⟨_, _, rfl, hown, hB⟩
end Go.Proofs.YtdcfjopmddaemaaDoor
