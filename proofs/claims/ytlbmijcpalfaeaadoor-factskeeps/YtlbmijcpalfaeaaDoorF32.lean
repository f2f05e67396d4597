/-
  DcQ, DcQP, DcR, DcS, DcT, PgE.
-/
import Derived.Shelf.Unicode.DecodeSlow
import Derived.Laws.RangeAny
import Derived.Shelf.Strconv.Itoa0
import Derived.Shelf.LaysM
import Derived.Shelf.Strconv.Clone
import Derived.Shelf.Unicode.DecodeAny
import Derived.Test.YtlbmijcpalfaeaaDoorProg
import Derived.WalkKit
import Derived.Deep.DeepFit
import Derived.Lib.OthersKept
import Derived.Lib.RuneCountTail
import Derived.Deep.AppendLies
import Derived.Deep.OwnRows
import Derived.Laws.AppendOwnNone
import Derived.Deep.QuietTactic
import Derived.BigQuiet
import Derived.Deep.RegionWith
import Derived.Laws.DeepStrings4
import Derived.Below
import Derived.Lib.MapLaws
import Derived.Sort.Walk0
import Derived.Lib.QuietBelow
import Derived.StillTail
import Derived.Deep.RegionHeld3
import Derived.Laws.AppendOwn
import Derived.Deep.DeepCutAuto
import Derived.Maps.OwnSet
import Derived.Maps.Keyed
import Derived.DeepKeys4
import Derived.Laws.ResultCell
import Derived.Laws.CopyOwn
import Derived.Laws.OwnMore
import Derived.Deep.RegionLaw
import Derived.Laws.IdiomStrings
import Derived.WalkSmall
import Derived.Lib.SlBytesRow
import Derived.StringKeys
import Derived.Test.YtlbmijcpalfaeaaDoorF01
import Derived.Test.YtlbmijcpalfaeaaDoorF02
import Derived.Test.YtlbmijcpalfaeaaDoorF03
import Derived.Test.YtlbmijcpalfaeaaDoorF04
import Derived.Test.YtlbmijcpalfaeaaDoorF05
import Derived.Test.YtlbmijcpalfaeaaDoorF06
import Derived.Test.YtlbmijcpalfaeaaDoorF07
import Derived.Test.YtlbmijcpalfaeaaDoorF08
import Derived.Test.YtlbmijcpalfaeaaDoorF09
import Derived.Test.YtlbmijcpalfaeaaDoorF10
import Derived.Test.YtlbmijcpalfaeaaDoorF11
import Derived.Test.YtlbmijcpalfaeaaDoorF12
import Derived.Test.YtlbmijcpalfaeaaDoorF13
import Derived.Test.YtlbmijcpalfaeaaDoorF14
import Derived.Test.YtlbmijcpalfaeaaDoorF15
import Derived.Test.YtlbmijcpalfaeaaDoorF16
import Derived.Test.YtlbmijcpalfaeaaDoorF17
import Derived.Test.YtlbmijcpalfaeaaDoorF18
import Derived.Test.YtlbmijcpalfaeaaDoorF19
import Derived.Test.YtlbmijcpalfaeaaDoorF20
import Derived.Test.YtlbmijcpalfaeaaDoorF21
import Derived.Test.YtlbmijcpalfaeaaDoorF22
import Derived.Test.YtlbmijcpalfaeaaDoorF23
import Derived.Test.YtlbmijcpalfaeaaDoorF24
import Derived.Test.YtlbmijcpalfaeaaDoorF25
import Derived.Test.YtlbmijcpalfaeaaDoorF26
import Derived.Test.YtlbmijcpalfaeaaDoorF27
import Derived.Test.YtlbmijcpalfaeaaDoorF28
import Derived.Test.YtlbmijcpalfaeaaDoorF29
import Derived.Test.YtlbmijcpalfaeaaDoorF30
import Derived.Test.YtlbmijcpalfaeaaDoorF31
set_option linter.unusedSimpArgs false
set_option linter.unusedVariables false
namespace Go.Proofs.YtlbmijcpalfaeaaDoor
open Go.RowKit Go.Lib

/-- A class in the making: its row's slice, its nodes with their kids' slices, its size. -/
abbrev Ac := Value × List (Nd × Value) × Int
def ac0 : Ac := (.slice none 0 0, [], 0)
def acCells : List Ac → List Value
  | [] => []
  | r :: l => r.1 :: .int .i64 r.2.2 :: acCells l
theorem acCells_at (l : List Ac) (i : Nat) (hi : i < l.length) : (acCells l)[i * 2]? = some (l.getD i ac0).1 ∧ (acCells l)[i * 2 + 1]? = some (.int .i64 (l.getD i ac0).2.2) := by
  induction l generalizing i with
  | nil => simp at hi
  | cons a r ih =>
    cases i with
    | zero => simp [acCells]
    | succ i =>
      have := ih i (by simpa using hi)
      have e : (i + 1) * 2 = i * 2 + 2 := by omega
      rw [e]
      simpa [acCells] using this
structure ArM (B n CB PB : Nat) (R : List Ac) (rv : Value) (rs : List Int) (w : World) : Prop where
  row : w.ownsRow B 106 2 (.slice (some ⟨CB, 0, none⟩) n n) n (acCells R)
  len : R.length = n
  own : ∀ i, i < n → OwnP w B (R.getD i ac0).1 (R.getD i ac0).2.1
  ap : ∀ i j, i < n → j < n → i ≠ j → ∀ b, (R.getD i ac0).1.ownBlock = some b → (R.getD j ac0).1.ownBlock ≠ some b
  pb : w.heap[PB]? = some (.cells #[.slice (some ⟨CB, 0, none⟩) n n, rv] 56 (0, 0))
  pbB : B ≤ PB
  rr : OwnI w B rv rs
  apk : ∀ i, i < n → ∀ r ∈ (R.getD i ac0).2.1, ∀ b, r.2.ownBlock = some b → rv.ownBlock ≠ some b
theorem ArM.below {B n CB PB : Nat} {R : List Ac} {rv : Value} {rs : List Int} {w w2 : World} (h : ArM B n CB PB R rv rs w) (hb : Below w.heap.size w w2) : ArM B n CB PB R rv rs w2 :=
  ⟨ownsRow_below h.row hb, h.len, fun i hi => (h.own i hi).below hb, h.ap, (hb.block _ (lt_of_block h.pb)).trans h.pb, h.pbB, h.rr.below hb, h.apk⟩
theorem neTy {w : World} {b : Nat} {cs : Array Value} {T e : TypeId} {fr : Nat × Nat} {base s n : Nat} {v : Value} {xs : List Value} (h : w.ownsRow base e s v n xs) (hR : w.heap[b]? = some (.cells cs T fr)) (hne : e ≠ T) : v.ownBlock ≠ some b := by
  intro hh
  obtain ⟨_, _, cap, cu, _, h4, _⟩ := rw_block h hh
  rw [h4] at hR
  injection hR with hR
  injection hR with _ hR _
  exact hne hR
theorem ownPset {w : World} {B b o : Nat} {v u : Value} {p : List (Nd × Value)} {cs : Array Value} {T : TypeId} {fr : Nat × Nat} (h : OwnP w B v p) (hR : w.heap[b]? = some (.cells cs T fr)) (h1 : 43 ≠ T) (h2 : 3 ≠ T) : OwnP (w.setCell ⟨b, o, none⟩ u) B v p :=
  ⟨ownSetO h.row (neTy h.row hR h1), fun q hq => ownSetO (h.kids q hq) (neTy (h.kids q hq) hR h2)⟩
theorem ArM.cb {B n CB PB : Nat} {R : List Ac} {rv : Value} {rs : List Int} {w : World} (h : ArM B n CB PB R rv rs w) : B ≤ CB ∧ ∃ cur, w.heap[CB]? = some (.cells cur 106 (0, 0)) := by
  obtain ⟨h1, _, cap, cur, _, h2, _⟩ := rw_block h.row (b := CB) rfl
  exact ⟨h1, cur, h2⟩
/-- A root more. -/
theorem ArM.root {B n CB PB : Nat} {R : List Ac} {rv : Value} {rs : List Int} {w w6 : World} (h : ArM B n CB PB R rv rs w) {v' : Value} {rs' : List Int} (hown : OwnI w6 B v' rs') (hg : w.grownBy w6 rv.ownBlock) (hat : v'.ownBlock = rv.ownBlock ∨ ∀ b, v'.ownBlock = some b → w.heap.size ≤ b) : ArM B n CB PB R v' rs' (w6.setCell ⟨PB, 1, none⟩ v') := by
  have hP : rv.ownBlock ≠ some PB := neTy h.rr h.pb (by decide)
  have hpb6 : w6.heap[PB]? = some (.cells #[.slice (some ⟨CB, 0, none⟩) n n, rv] 56 (0, 0)) := (hg.block PB (lt_of_block h.pb) (fun e => hP e.symm)).trans h.pb
  have hrow6 : w6.ownsRow B 106 2 (.slice (some ⟨CB, 0, none⟩) n n) n (acCells R) := World.ownsRow.kept h.row hg (ownBlock_ne h.row h.rr (by decide))
  have hown6 : ∀ i, i < n → OwnP w6 B (R.getD i ac0).1 (R.getD i ac0).2.1 := fun i hi => ⟨World.ownsRow.kept (h.own i hi).row hg (ownBlock_ne (h.own i hi).row h.rr (by decide)), fun r hr => World.ownsRow.kept ((h.own i hi).kids r hr) hg (by
    cases hb : r.2.ownBlock with
    | none => exact .inl rfl
    | some b => exact .inr (fun e => h.apk i hi r hr b hb e.symm))⟩
  refine ⟨ownSetO hrow6 (neTy hrow6 hpb6 (by decide)), h.len, fun i hi => ownPset (hown6 i hi) hpb6 (by decide) (by decide), h.ap, ?_, h.pbB, ownSetO hown (neTy hown hpb6 (by decide)), fun i hi r hr b hb e => ?_⟩
  · have := heap_setCell_same w6 PB 1 _ _ v' hpb6
    rw [this]; rfl
  · rcases hat with h1 | h1
    · exact h.apk i hi r hr b hb (by rw [← h1]; exact e)
    · have := h1 b e
      have h2 := (rw_block ((h.own i hi).kids r hr) hb).2.1
      omega
/-- As a picture that is read. -/
theorem ArM.clss {B n CB PB : Nat} {R : List Ac} {rv : Value} {rs : List Int} {w : World} (h : ArM B n CB PB R rv rs w) (hn : n ≤ 4096) : Clss w w.heap.size (.slice (some ⟨CB, 0, none⟩) n n) (R.map fun r => ⟨r.2.1.map (·.1), r.2.2⟩) := by
  have hl := h.len
  obtain ⟨_, cur, hcb⟩ := h.cb
  refine ⟨_, n, by rw [List.length_map, hl], by rw [List.length_map]; omega, by unfold maxLen; omega, .inr ⟨CB, 0, rfl, lt_of_block hcb, fun i hi => ?_⟩⟩
  rw [List.length_map] at hi
  obtain ⟨a0, a1⟩ := acCells_at R i hi
  have hr := rdr_own h.row
  have ho := h.own i (by omega)
  have e : (R.map fun r : Ac => (⟨r.2.1.map (·.1), r.2.2⟩ : Cls)).getD i cls0 = ⟨(R.getD i ac0).2.1.map (·.1), (R.getD i ac0).2.2⟩ := by
    simp only [List.getD_eq_getElem?_getD, List.getElem?_map]
    rw [List.getElem?_eq_getElem hi]; rfl
  rw [e, Nat.zero_add]
  obtain ⟨na, nc, e2, hN⟩ : ∃ na nc, (R.getD i ac0).1 = .slice na ((R.getD i ac0).2.1.map (·.1)).length nc ∧ Nodes w w.heap.size (.slice na ((R.getD i ac0).2.1.map (·.1)).length nc) ((R.getD i ac0).2.1.map (·.1)) := by
    have := Nodes_of_own (w := w) (base := B) (v := (R.getD i ac0).1) (l := (R.getD i ac0).2.1.map (·.1)) ⟨_, rfl, ho⟩ (Nat.le_refl _)
    obtain ⟨ao, cap, e, _⟩ := id this
    exact ⟨ao, cap, e, by rw [← e]; exact this⟩
  refine ⟨na, nc, ?_, hr.cell (b := CB) rfl a1, hN⟩
  rw [← e2]
  exact hr.cell (b := CB) rfl a0
end Go.Proofs.YtlbmijcpalfaeaaDoor

set_option linter.unusedSimpArgs false
set_option linter.unusedVariables false
namespace Go.Proofs.YtlbmijcpalfaeaaDoor
open Go.RowKit Go.Lib

theorem ArM.cell {B n CB PB : Nat} {R : List Ac} {rv : Value} {rs : List Int} {w : World} (h : ArM B n CB PB R rv rs w) {i : Nat} (hi : i < n) : w.cell? ⟨CB, i * 2, none⟩ = some (R.getD i ac0).1 ∧ w.cell? ⟨CB, i * 2 + 1, none⟩ = some (.int .i64 (R.getD i ac0).2.2) ∧ ∀ j, w.frozen? ⟨CB, j, none⟩ = false := by
  obtain ⟨a0, a1⟩ := acCells_at R i (by rw [h.len]; exact hi)
  have hr := rdr_own h.row
  exact ⟨hr.cell (b := CB) rfl a0, hr.cell (b := CB) rfl a1, fun j => rw_fro h.row j⟩
theorem ArM.pcell {B n CB PB : Nat} {R : List Ac} {rv : Value} {rs : List Int} {w : World} (h : ArM B n CB PB R rv rs w) : w.cell? ⟨PB, 0, none⟩ = some (.slice (some ⟨CB, 0, none⟩) n n) ∧ w.cell? ⟨PB, 1, none⟩ = some rv ∧ ∀ j, w.frozen? ⟨PB, j, none⟩ = false := by
  have := h.pb
  simp [World.cell?, World.frozen?, this]
theorem ArM.kept {B n CB PB : Nat} {R : List Ac} {rv : Value} {rs : List Int} {w w6 : World} (h : ArM B n CB PB R rv rs w) {q : Nat} (hq : q < n) (hg : w.grownBy w6 (R.getD q ac0).1.ownBlock) : w6.cell? ⟨PB, 0, none⟩ = some (.slice (some ⟨CB, 0, none⟩) n n) ∧ w6.cell? ⟨CB, q * 2, none⟩ = some (R.getD q ac0).1 ∧ w6.frozen? ⟨CB, q * 2, none⟩ = false := by
  obtain ⟨hB, cur, hcb⟩ := h.cb
  have hq0 := h.own q hq
  have hC := hg.block CB (lt_of_block hcb) (fun e => (neTy hq0.row hcb (by decide) : _ ≠ some CB) e.symm)
  have hP := hg.block PB (lt_of_block h.pb) (fun e => (neTy hq0.row h.pb (by decide) : _ ≠ some PB) e.symm)
  obtain ⟨c0, _, cf⟩ := h.cell hq
  exact ⟨(World.cell?_of_block (a := ⟨PB, 0, none⟩) hP).trans h.pcell.1, (World.cell?_of_block (a := ⟨CB, q * 2, none⟩) hC).trans c0, (World.frozen?_of_block (a := ⟨CB, q * 2, none⟩) hC).trans (cf _)⟩
theorem ArM.setO {B n CB PB : Nat} {R : List Ac} {rv : Value} {rs : List Int} {w : World} (h : ArM B n CB PB R rv rs w) {b o : Nat} {u : Value} {cs : Array Value} {fr : Nat × Nat} (hb : w.heap[b]? = some (.cells cs 56 fr)) (hne : PB ≠ b) : ArM B n CB PB R rv rs (w.setCell ⟨b, o, none⟩ u) :=
  ⟨ownSetO h.row (neTy h.row hb (by decide)), h.len, fun i hi => ownPset (h.own i hi) hb (by decide) (by decide), h.ap, (Deep.blk_setCell_other _ _ _ _ (by show PB ≠ b; exact hne)).trans h.pb, h.pbB, ownSetO h.rr (neTy h.rr hb (by decide)), h.apk⟩
/-- What the picture in the making says. -/
structure ArP (al : List Int) (n : Nat) (zs : List Int) (l : List (Nd × Int)) (j : Nat) (R : List Ac) : Prop where
  len : R.length = n
  nodes : R.map (fun r => r.2.1.map (·.1)) = (l.take j).foldl (arrS al) (List.replicate n [])
  sz : ∀ c, c < n → (R.getD c ac0).2.2 = szLs zs (al.getD c 0)
  le : ∀ c, (R.getD c ac0).2.1.length ≤ j
  form : ∀ c, ∀ q ∈ (R.getD c ac0).2.1, formB q.1 = true
theorem ArP.start {al : List Int} {n : Nat} {zs : List Int} {l : List (Nd × Int)} {R : List Ac} (hl : R.length = n) (h : ∀ c, (R.getD c ac0).1 = .slice none 0 0 ∧ (R.getD c ac0).2.1 = [] ∧ (c < n → (R.getD c ac0).2.2 = szLs zs (al.getD c 0))) : ArP al n zs l 0 R := by
  refine ⟨hl, ?_, fun c hc => (h c).2.2 hc, fun c => by rw [(h c).2.1]; simp, fun c q hq => by rw [(h c).2.1] at hq; cases hq⟩
  rw [List.take_zero, List.foldl_nil]
  apply List.ext_getElem?
  intro i
  rw [List.getElem?_map, List.getElem?_replicate]
  by_cases hi : i < n
  · rw [if_pos hi, List.getElem?_eq_getElem (by omega)]
    have := (h i).2.1
    rw [List.getD_eq_getElem?_getD, List.getElem?_eq_getElem (by omega)] at this
    simp only [Option.getD_some] at this
    simp [this]
  · rw [if_neg hi, List.getElem?_eq_none (by omega)]; rfl
theorem ArP.done {al : List Int} {n : Nat} {zs : List Int} {l : List (Nd × Int)} {R : List Ac} (h : ArP al n zs l l.length R) : (R.map fun r : Ac => (⟨r.2.1.map (·.1), r.2.2⟩ : Cls)) = arrC al n (szLs zs) l := by
  have hl := h.len
  unfold arrC arrF
  have hn := h.nodes
  rw [List.take_length] at hn
  rw [← hn]
  apply List.ext_getElem?
  intro i
  rw [List.getElem?_map, List.getElem?_map]
  by_cases hi : i < n
  · have hs := h.sz i hi
    rw [List.getD_eq_getElem?_getD, List.getElem?_eq_getElem (by omega)] at hs
    simp only [Option.getD_some] at hs
    rw [List.getElem?_eq_getElem (by omega), List.getElem?_range hi]
    simp only [Option.map_some]
    rw [hs]
    congr 2
    rw [List.getD_eq_getElem?_getD, List.getElem?_map, List.getElem?_eq_getElem (by omega)]; rfl
  · rw [List.getElem?_eq_none (by omega), List.getElem?_eq_none (by simp; omega)]; rfl
end Go.Proofs.YtlbmijcpalfaeaaDoor

set_option linter.unusedSimpArgs false
set_option linter.unusedVariables false
namespace Go.Proofs.YtlbmijcpalfaeaaDoor
open Go.RowKit Go.Lib Go.Sort

theorem Tryd.infoCls : (Tryd.prog.info? 106).map (fun i => (i.zero, i.size, i.bytes)) = some (some (.agg #[.slice none 0 0, .int .i64 0]), 2, 32) := by kernel_rfl
end Go.Proofs.YtlbmijcpalfaeaaDoor

set_option linter.unusedSimpArgs false
set_option linter.unusedVariables false
namespace Go.Proofs.YtlbmijcpalfaeaaDoor
open Go.RowKit Go.Lib Go.Maps

theorem txLaw : Keyed Tryd.prog 9 := string_keyed Tryd.underlying9
theorem txZero (w : World) : (zeroValue 4).run Tryd.prog w = .ok (.bool false) w := by kernel_rfl
def txK (s : ByteArray) : Lit := .string s.data.toList
theorem txK_inj {s t : ByteArray} (h : txK s = txK t) : s = t := by
  unfold txK at h
  injection h with h
  obtain ⟨⟨a⟩⟩ := s
  obtain ⟨⟨b⟩⟩ := t
  simp only at h
  rw [h]
theorem txKey {s : ByteArray} (h : s.size ≤ maxLen) : keyOf Tryd.prog 9 (.string s) = some (txK s) := Go.WideMaps.keyOf_string_mk Tryd.underlying9 h
theorem txIsKey (s : ByteArray) : WideAt.IsKeyLit (txK s) := trivial
/-- Block B is a map that holds just the texts acc, each with true. -/
def TxM (w : World) (B : Nat) (acc : List ByteArray) : Prop :=
  w.ownsMap Tryd.prog 9 (plainElem (H := Unit) Tryd.prog 4) B acc.length (setOf (.lit (.bool true)) (acc.map txK))
theorem TxM.made (w : World) : TxM (w.alloc (.map #[] 0)) w.heap.size [] := World.ownsMap_made _ _ _ _
theorem TxM.lt {w : World} {B : Nat} {acc : List ByteArray} (h : TxM w B acc) : B < w.heap.size := World.ownsMap.lt h
theorem TxM.kept {w w' : World} {B : Nat} {acc : List ByteArray} {row : Option Nat} (h : TxM w B acc) (hg : w.grownBy w' row) (hne : some B ≠ row) : TxM w' B acc := World.ownsMap.kept h hg hne
theorem TxM.below {w w' : World} {B : Nat} {acc : List ByteArray} (h : TxM w B acc) (hb : Below w.heap.size w w') : TxM w' B acc := h.kept (grown_of_below hb none) (by simp)
theorem TxM.obj {w : World} {B : Nat} {acc : List ByteArray} (h : TxM w B acc) : ∃ es c, w.heap[B]? = some (.map es c) := let ⟨es, c, hb, _⟩ := h; ⟨es, c, hb⟩
theorem TxM.put {w : World} {B : Nat} {acc : List ByteArray} (h : TxM w B acc) (hn : acc.length < maxLen) {s : ByteArray} (hs : s.size ≤ maxLen) :
    ∃ w', (Instr.mapUpdate 107 (.map (some B)) (.string s) (.bool true)).run Tryd.prog w = .ok () w' ∧ TxM w' B (acc ++ [s]) ∧ w.grownBy w' (some B) := by
  obtain ⟨w', h1, h2, h3⟩ := World.ownsMap.update h txLaw Tryd.underlying107 hn (txKey hs) (plainElem_bool Tryd.underlying4 true)
  refine ⟨w', h1, ?_, h3⟩
  unfold TxM
  rw [List.length_append, List.map_append, List.map_singleton, setOf_snoc]
  exact h2
theorem tx_fold (s : ByteArray) (z : DataW Unit) : ∀ (acc : List ByteArray) (m : DataW Unit), IsMap m → (s ∈ acc ∨ m.atKey (txK s) z = .lit (.bool true)) →
    ((acc.map txK).foldl (fun m x => m.put x (.lit (.bool true))) m).atKey (txK s) z = .lit (.bool true)
  | [], m, _, h => by
    rcases h with h | h
    · cases h
    · exact h
  | a :: r, m, hm, h => by
    rw [List.map_cons, List.foldl_cons]
    refine tx_fold s z r _ (hm.put _ _) ?_
    by_cases e : s = a
    · subst e; exact .inr (atKey_put_same hm (txIsKey s) _ _)
    · rcases h with h | h
      · rcases List.mem_cons.1 h with h | h
        · exact absurd h e
        · exact .inl h
      · right
        have hne : txK s ≠ txK a := fun e2 => e (txK_inj e2)
        rw [atKey_put_other hne]; exact h
theorem tx_not (s : ByteArray) (z : DataW Unit) : ∀ (acc : List ByteArray) (m : DataW Unit), IsMap m → s ∉ acc → m.atKey (txK s) z = z →
    ((acc.map txK).foldl (fun m x => m.put x (.lit (.bool true))) m).atKey (txK s) z = z
  | [], m, _, _, h => h
  | a :: r, m, hm, h, h2 => by
    rw [List.map_cons, List.foldl_cons]
    have hne : txK s ≠ txK a := fun e2 => h (by rw [txK_inj e2]; exact List.mem_cons_self ..)
    exact tx_not s z r _ (hm.put _ _) (fun hh => h (List.mem_cons_of_mem _ hh)) (by rw [atKey_put_other hne]; exact h2)
theorem plainElem_b {P : Program} {e : TypeId} (he : P.underlying e = some .bool) {v : Value} {ps : List MemPlace} {b : Bool} (h : plainElem (H := Unit) P e v = some (.lit (.bool b), ps)) : v = .bool b := by
  unfold plainElem at h
  rw [he] at h
  cases v <;> simp at h
  rw [h.1]
theorem TxM.look {w : World} {B : Nat} {acc : List ByteArray} (h : TxM w B acc) {s : ByteArray} (hs : s.size ≤ maxLen) {b : Bool} (hb : b = true ↔ s ∈ acc) :
    (Instr.lookup 107 (.map (some B)) (.string s) false).run Tryd.prog w = .ok (.bool b) w := by
  obtain ⟨v, ps, h1, h2⟩ := World.ownsMap.lookup h txLaw Tryd.underlying107 (txZero w) (plainElem_bool Tryd.underlying4 false) (txKey hs)
  by_cases hm : s ∈ acc
  · rw [show (setOf (H := Unit) (.lit (.bool true)) (acc.map txK)).atKey (txK s) (.lit (.bool false)) = .lit (.bool true) from tx_fold s _ acc _ isMap_empty (.inl hm)] at h2
    rw [h1, plainElem_b Tryd.underlying4 h2, hb.2 hm]
  · rw [show (setOf (H := Unit) (.lit (.bool true)) (acc.map txK)).atKey (txK s) (.lit (.bool false)) = .lit (.bool false) from tx_not s _ acc _ isMap_empty hm rfl] at h2
    have : b = false := by cases b with
      | false => rfl
      | true => exact absurd (hb.1 rfl) hm
    rw [h1, plainElem_b Tryd.underlying4 h2, this]
theorem Ints.same {w w' : World} {B B' : Nat} {v : Value} {ks : List Int} (h : Ints w B v ks) (hc : ∀ p v, w.cell? p = some v → w'.cell? p = some v) (hB : B ≤ B') : Ints w' B' v ks := by
  obtain ⟨ao, cap, h1, h2, h3, h4⟩ := h
  exact ⟨ao, cap, h1, h2, h3, h4.imp id fun ⟨b, o, e, hl, h5⟩ => ⟨b, o, e, by omega, fun i hi => hc _ _ (h5 i hi)⟩⟩
theorem NodeAt.same {w w' : World} {B B' b o : Nat} {x : Nd} {kv : Value} (h : NodeAt w B b o x kv) (hc : ∀ p v, w.cell? p = some v → w'.cell? p = some v) (hB : B ≤ B') : NodeAt w' B' b o x kv :=
  ⟨hc _ _ h.c0, hc _ _ h.c1, hc _ _ h.c2, hc _ _ h.c3, h.kids.same hc hB⟩
theorem Cels.same {w w' : World} {B B' : Nat} {v : Value} {l : List (Nd × Int)} (h : Cels w B v l) (hc : ∀ p v, w.cell? p = some v → w'.cell? p = some v) (hB : B ≤ B') : Cels w' B' v l := by
  obtain ⟨ao, cap, h1, h2, h3, h4⟩ := h
  refine ⟨ao, cap, h1, h2, h3, h4.imp id fun ⟨b, o, e, hl, h5⟩ => ⟨b, o, e, by omega, fun i hi => ?_⟩⟩
  obtain ⟨ka, kc, h6, h7⟩ := h5 i hi
  exact ⟨ka, kc, h6.same hc hB, hc _ _ h7⟩
end Go.Proofs.YtlbmijcpalfaeaaDoor

set_option linter.unusedSimpArgs false
set_option linter.unusedVariables false
namespace Go.Proofs.YtlbmijcpalfaeaaDoor
open Go.RowKit Go.Lib Go.Maps

theorem Nodes.same {w w' : World} {B B' : Nat} {v : Value} {l : List Nd} (h : Nodes w B v l) (hc : ∀ p v, w.cell? p = some v → w'.cell? p = some v) (hB : B ≤ B') : Nodes w' B' v l := by
  obtain ⟨ao, cap, h1, h2, h3, h4⟩ := h
  exact ⟨ao, cap, h1, h2, h3, h4.imp id fun ⟨b, o, e, hl, h5⟩ => ⟨b, o, e, by omega, fun i hi => let ⟨kv, hk⟩ := h5 i hi; ⟨kv, hk.same hc hB⟩⟩⟩
theorem Clss.same {w w' : World} {B B' : Nat} {v : Value} {cs : List Cls} (h : Clss w B v cs) (hc : ∀ p v, w.cell? p = some v → w'.cell? p = some v) (hB : B ≤ B') : Clss w' B' v cs := by
  obtain ⟨ao, cap, h1, h2, h3, h4⟩ := h
  refine ⟨ao, cap, h1, h2, h3, h4.imp id fun ⟨b, o, e, hl, h5⟩ => ⟨b, o, e, by omega, fun i hi => ?_⟩⟩
  obtain ⟨na, nc, h6, h7, h8⟩ := h5 i hi
  exact ⟨na, nc, hc _ _ h6, hc _ _ h7, h8.same hc hB⟩
/-- The cells that Check has gone through. -/
structure CkO (n : Nat) (l : List (Nd × Int)) (j : Nat) : Prop where
  form : ∀ c ∈ l.take j, formB c.1 = true
  kids : ∀ c ∈ l.take j, ∀ k ∈ c.1.kids, 0 ≤ k ∧ k < (n : Int)
  nodup : ((l.take j).map (·.1)).Nodup
theorem CkO.start (n : Nat) (l : List (Nd × Int)) : CkO n l 0 := ⟨by simp, by simp, by simp⟩
theorem CkO.step {n : Nat} {l : List (Nd × Int)} {j : Nat} (h : CkO n l j) (hj : j < l.length) (h1 : formB (l.getD j ce0).1 = true) (h2 : ∀ k ∈ (l.getD j ce0).1.kids, 0 ≤ k ∧ k < (n : Int)) (h3 : (l.getD j ce0).1 ∉ (l.take j).map (·.1)) : CkO n l (j + 1) := by
  have e : l.getD j ce0 = l[j] := by rw [List.getD_eq_getElem?_getD, List.getElem?_eq_getElem hj]; rfl
  rw [e] at h1 h2 h3
  have et : l.take (j + 1) = l.take j ++ [l[j]] := by rw [List.take_add_one, List.getElem?_eq_getElem hj]; rfl
  refine ⟨fun c hc => ?_, fun c hc => ?_, ?_⟩
  · rw [et, List.mem_append, List.mem_singleton] at hc
    rcases hc with hc | rfl
    · exact h.form c hc
    · exact h1
  · rw [et, List.mem_append, List.mem_singleton] at hc
    rcases hc with hc | rfl
    · exact h.kids c hc
    · exact h2
  · rw [et, List.map_append, List.nodup_append]
    refine ⟨h.nodup, by simp, fun a ha b hb e2 => ?_⟩
    simp at hb
    subst hb
    subst e2
    exact h3 ha
/-- What Check answers. -/
def CkQ (b : Bool) (e : Ending) : Prop := ∃ z : Int, e = .returned (.int .i64 z) ∧ (z = 0 ∧ b = true ∨ z = 1 ∧ b = false)
end Go.Proofs.YtlbmijcpalfaeaaDoor

set_option linter.unusedSimpArgs false
set_option linter.unusedVariables false
namespace Go.Proofs.YtlbmijcpalfaeaaDoor
open Go.RowKit Go.Lib Go.Sort

/-- A picture as a law may hand it over. -/
structure PicOk (cs : List Cls) (roots : List Int) : Prop where
  nodes : ∀ c ∈ cs, c.nodes.length * 56 ≤ 140737488351232
  roots : roots.length * 8 ≤ 140737488355328
  num : ∀ c ∈ cellsL cs, N6 c.1.n ∧ c.1.name.size ≤ 281474976710656 ∧ ∀ k ∈ c.1.kids, N6 k
  few : cs.length * 32 ≤ 140737488355328
  kids : ∀ c ∈ cs, ∀ x ∈ c.nodes, x.kids.length * 8 ≤ 140737488355328
set_option maxHeartbeats 2000000 in
theorem pCheck_any (cs : List Cls) (roots : List Int) (ca ra : Option Addr) (cc rc : Nat) (w : World) (T : Tabs w) (hc : Clss w w.heap.size (.slice ca cs.length cc) cs) (hr : Ints w w.heap.size (.slice ra roots.length rc) roots) (hp : PicOk cs roots) :
    Calls Tryd.prog 37 #[.agg #[.slice ca cs.length cc, .slice ra roots.length rc]] w fun e w' => CkQ (ofB cs roots) e ∧ Below w.heap.size w w' := by
  obtain ⟨W1, hW1⟩ : ∃ W1, w.alloc (.cells #[.slice ca cs.length cc, .slice ra roots.length rc] 56) = W1 := ⟨_, rfl⟩
  have hb1 : Below w.heap.size w W1 := by rw [← hW1]; exact (Below.refl _ _).alloc (Nat.le_refl _) _
  have hk1 : W1.heap[w.heap.size]? = some (.cells #[.slice ca cs.length cc, .slice ra roots.length rc] 56 (0, 0)) := by rw [← hW1, Deep.blk_alloc_new]
  have p0 : W1.cell? ⟨w.heap.size, 0, none⟩ = some (.slice ca cs.length cc) := by simp [World.cell?, hk1]
  have p1 : W1.cell? ⟨w.heap.size, 1, none⟩ = some (.slice ra roots.length rc) := by simp [World.cell?, hk1]
  have CO := Sld.mk (Gt.gOf_any cs roots ca ra cc rc W1 (T.below hb1) (hc.below hb1 hb1.size) (hr.below hb1 hb1.size) hp.nodes hp.roots (fun c hc => ⟨(hp.num c hc).1, (hp.num c hc).2.1⟩))
  have HW1 := Sld.mk hW1
  have HB1 := Sld.mk hb1
  generalize ofB cs roots = B at *
  clear hW1 hb1 hk1 hc hr T hp
  go_enter Tryd.func37, Tryd.ntmps37
  go_wp2_with fail
  rw [HW1.out]
  go_wp2_with fail
  refine CO.out.mono ?_
  rintro e w2 ⟨⟨v, z, rfl, hz⟩, hb2⟩
  have HZ := Sld.mk hz
  have HB2 := Sld.mk (HB1.out.trans (hb2.mono HB1.out.size))
  clear hb2 CO hz
  go_wp2_with fail
  go_ret
  exact ⟨⟨z, rfl, HZ.out⟩, HB2.out⟩
end Go.Proofs.YtlbmijcpalfaeaaDoor
