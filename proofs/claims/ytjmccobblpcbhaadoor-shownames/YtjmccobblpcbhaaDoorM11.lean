/-
  LfW, CntW.
-/
import Derived.Shelf.Unicode.DecodeSlow
import Derived.Laws.RangeAny
import Derived.Shelf.Strings.Builder1
import Derived.Shelf.Small.Utf8
import Derived.Shelf.Small.Bits
import Derived.Shelf.Strings.BuilderF
import Derived.Shelf.Strings.BuilderK
import Derived.Shelf.Strings.BuilderRune
import Derived.Shelf.Utf8.AppendRune
import Derived.Shelf.Strconv.Itoa0
import Derived.Shelf.Strconv.Itoa1
import Derived.Shelf.LaysM
import Derived.Shelf.Strconv.Itoa2
import Derived.Shelf.Strconv.Itoa3
import Derived.Shelf.Strconv.Itoa4
import Derived.Shelf.Strings.Prefix
import Derived.Shelf.Unicode.DecodeAny
import Derived.Test.YtjmccobblpcbhaaDoorProg
import Derived.WalkKit
import Derived.Deep.DeepFit
import Derived.Lib.OthersKept
import Derived.Lib.RuneCountTail
import Derived.Lib.MapLaws
import Derived.Sort.Walk0
import Derived.Laws.DeepStrings4
import Derived.Lib.ItoaNum
import Derived.Deep.AppendLies
import Derived.Deep.OwnRows
import Derived.Laws.AppendOwnNone
import Derived.Deep.QuietTactic
import Derived.BigQuiet
import Derived.Deep.RegionWith
import Derived.Lib.LaidTab
import Derived.BigCall
import Derived.Maps.OwnSet
import Derived.StringKeys
import Derived.Test.YtjmccobblpcbhaaDoorM01
import Derived.Test.YtjmccobblpcbhaaDoorM02
import Derived.Test.YtjmccobblpcbhaaDoorM03
import Derived.Test.YtjmccobblpcbhaaDoorM04
import Derived.Test.YtjmccobblpcbhaaDoorM05
import Derived.Test.YtjmccobblpcbhaaDoorM06
import Derived.Test.YtjmccobblpcbhaaDoorM07
import Derived.Test.YtjmccobblpcbhaaDoorM08
import Derived.Test.YtjmccobblpcbhaaDoorM09
import Derived.Test.YtjmccobblpcbhaaDoorM10
set_option linter.unusedSimpArgs false
set_option linter.unusedVariables false
namespace Go.Proofs.YtjmccobblpcbhaaDoor
open Go.RowKit Go.Lib
open Go.Sort (grow)

theorem take_enc (s : ByteArray) (pos : Nat) (hp : pos < s.size) (hb : bad s pos = false) : s.data.toList.take pos ++ encodeRune ((Utf8.decode s pos).1 : Int) = s.data.toList.take (pos + (Utf8.decode s pos).2) := by
  have hne : s.data.toList.drop pos ≠ [] := by
    intro e
    have := congrArg List.length e
    rw [List.length_drop, ← size_eq] at this
    simp at this; omega
  have he := encode_decode (s.data.toList.drop pos) hne (by
    rw [decodeL_drop]
    intro e
    exact (bad_false_iff s pos).1 hb (Prod.ext e.1 e.2))
  rw [decodeL_drop] at he
  rw [he, List.take_add]

/-- The numbers' table. -/
def Pows (w : World) : Prop := TabIs Tryd.prog w "internal/strconv.uint64pow10" .u64 pow10Tab
theorem gPow : Tryd.prog.globalNamed "internal/strconv.uint64pow10" = some 4 := by kernel_rfl
theorem Pows.below {w w' : World} (h : Pows w) (hb : Below w.heap.size w w') : Pows w' := by
  unfold Pows TabIs World.var? at *
  rw [gPow] at *
  simp only [Option.bind_eq_bind, Option.bind_some] at *
  cases hk : w.heap[ 4 ]? with
  | none => rw [hk] at h; cases h
  | some o =>
    rw [hb.block _ (lt_of_block hk), hk]
    rw [hk] at h
    exact h

theorem below_grow {w : World} (k : Nat) (os : Array Obj) : Below w.heap.size w (grow (w.drewN k) os) :=
  ⟨rfl, rfl, rfl, by simp [grow, World.drewN], fun i hi => by simp [grow, World.drewN, Array.getElem?_append_left hi]⟩

set_option maxRecDepth 100000 in
set_option maxHeartbeats 1000000 in
theorem leaf_lit (n : Int) (nm : ByteArray) (ks : List Int) (ka : Option Addr) (kn kc : Nat) (w : World) (hP : Pows w) (hn : num64 n) :
    Calls Tryd.prog 102 #[.agg #[.int .i64 1, .int .i64 n, .string nm, .slice ka kn kc] ] w fun e w' => e = .returned (.string (leafT ⟨1, n, nm, ks⟩)) ∧ Below w.heap.size w w' := by
  have hb1 : Below w.heap.size w (w.alloc (.cells #[.int .i64 1, .int .i64 n, .string nm, .slice ka kn kc] 60)) := (Below.refl _ _).alloc (Nat.le_refl _) _
  have HB1 : Hid (Below w.heap.size w (w.alloc (.cells #[.int .i64 1, .int .i64 n, .string nm, .slice ka kn kc] 60))) := hb1
  have hP1 := hP.below hb1
  clear hb1 hP
  go_enter Tryd.func102, Tryd.ntmps102
  go_wp2_with (go_at_call 131; refine (Tryd.strconv_FormatInt_10 n hn.1 hn.2 _ hP1).mono ?_; rintro e w2 ⟨rfl, k, os, rfl⟩)
  go_ret
  exact ⟨rfl, HB1.out.trans ((below_grow k os).mono HB1.out.size)⟩

set_option maxRecDepth 100000 in
set_option maxHeartbeats 2000000 in
theorem leaf_hole (n : Int) (nm : ByteArray) (ks : List Int) (ka : Option Addr) (kn kc : Nat) (w : World) (hc : (chk nm).2 = 0) (hs : nm.size ≤ 64) :
    Calls Tryd.prog 102 #[.agg #[.int .i64 18, .int .i64 n, .string nm, .slice ka kn kc] ] w fun e w' => e = .returned (.string (leafT ⟨18, n, nm, ks⟩)) ∧ Below w.heap.size w w' := by
  have HR : Hid (leafT ⟨18, n, nm, ks⟩ = ⟨([64] ++ nm.data.toList).toArray⟩) := by
    show leafT ⟨18, n, nm, ks⟩ = _
    unfold leafT
    rw [if_neg (by simp), if_pos rfl]
    simp only [txt]; apply ByteArray.ext; simp
  generalize leafT ⟨18, n, nm, ks⟩ = R at *
  have HG : Hid (Good nm 0) := good_start nm hc
  clear hc
  have hI0 : IsBuilderF 172 5 (w.heap.size + 1) (w.heap.size + 1) (byteCells []) ((w.alloc (.cells #[.int .i64 18, .int .i64 n, .string nm, .slice ka kn kc] 60)).alloc (.cells #[.pointer none, .slice none 0 0] 172)) := by
    have := IsBuilderF.of (fresh_isBuilder 172 5 (w.alloc (.cells #[.int .i64 18, .int .i64 n, .string nm, .slice ka kn kc] 60)))
    simpa [byteCells] using this
  have HB0 : Hid (Below w.heap.size w ((w.alloc (.cells #[.int .i64 18, .int .i64 n, .string nm, .slice ka kn kc] 60)).alloc (.cells #[.pointer none, .slice none 0 0] 172))) := ((Below.refl _ _).alloc (Nat.le_refl _) _).alloc (by simp) _
  go_enter Tryd.func102, Tryd.ntmps102
  have hl0 : (byteCells []).length + 4 ≤ 140737488355328 := by simp [byteCells]
  have hs0 : w.heap.size + 1 ≤ ((w.alloc (.cells #[.int .i64 18, .int .i64 n, .string nm, .slice ka kn kc] 60)).alloc (.cells #[.pointer none, .slice none 0 0] 172)).heap.size := by simp
  have cW := writeRune_k (w.heap.size + 1) (w.heap.size + 1) _ 64 (by omega) (by omega) _ hI0 hl0 hs0
  go_wp2_with (go_at_call 132; refine cW.mono ?_; rintro e W1 ⟨rfl, k1, k2, k3⟩; have c2 : W1.cell? ⟨w.heap.size, 2, none⟩ = some (.string nm) := (k2.cell (p := ⟨w.heap.size, 2, none⟩) (by show w.heap.size < w.heap.size + 1; omega)).trans (by simp))
  have hW1 : w.heap.size + 2 ≤ W1.heap.size := by have := k2.size; simpa using this
  go_loopw [] (fun wr => ∃ pos : Nat, IsBuilderF 172 5 (w.heap.size + 1) (w.heap.size + 1) (byteCells ([64] ++ nm.data.toList.take pos)) wr ∧ wr.heap[W1.heap.size]? = some (.stringIter nm pos) ∧ Below w.heap.size w wr ∧ Hid (Good nm pos) ∧ pos ≤ nm.size) (fun wr => nm.size - wr.iterPos (W1.heap.size))
  case atStart =>
    exact ⟨0, IsBuilderF.alloc (.inr (by simpa [byteCells, runeCells, encodeRuneZ] using k1)) _, World.iter_heap W1 nm 0, (HB0.out.trans (k2.mono (by omega))).alloc (by omega) _, HG.out, by omega⟩
  case round =>
    obtain ⟨pos, hI, hit, hbw, hgo, hpl⟩ := hrel
    have hsz : W1.heap.size < wr.heap.size := (Array.getElem?_eq_some_iff.1 hit).1
    by_cases hp : pos < nm.size
    · have hnx : ∀ ty, (Instr.next (.pointer (some ⟨W1.heap.size, 0, none⟩)) true ty).run Tryd.prog wr = _ := fun ty => run_next_any_at wr (W1.heap.size) nm pos ty hit hp
      have hwd := width_pos nm pos hp
      have hle := dec_le nm pos hp
      obtain ⟨hbad, hg2⟩ := good_step nm pos hp hgo.out
      have HE := take_enc nm pos hp hbad
      have hI2 := hI.iterAt hit (pos + (Utf8.decode nm pos).2)
      have hit2 := iterAt_heap wr (W1.heap.size) nm pos (pos + (Utf8.decode nm pos).2) hit
      have hbw2 := below_iterAt hbw (k := W1.heap.size) (by omega) nm (pos + (Utf8.decode nm pos).2)
      have hsz2 : w.heap.size + 1 ≤ (wr.iterAt (W1.heap.size) nm (pos + (Utf8.decode nm pos).2)).heap.size := by rw [iterAt_size]; omega
      have hr0 := rune_le nm pos
      have hll : (byteCells ([64] ++ nm.data.toList.take pos)).length + 4 ≤ 140737488355328 := by
        rw [byteCells_length, List.length_append, List.length_take]; simp; omega
      have HP : Hid (wr.iterPos (W1.heap.size) = pos) := by show wr.iterPos (W1.heap.size) = pos; simp [World.iterPos, hit]
      have HG2 : Hid (Good nm (pos + (Utf8.decode nm pos).2)) := hg2
      have HEE : Hid (nm.data.toList.take pos ++ encodeRune ((Utf8.decode nm pos).1 : Int) = nm.data.toList.take (pos + (Utf8.decode nm pos).2)) := HE
      have HBW2 : Hid (Below w.heap.size w (wr.iterAt (W1.heap.size) nm (pos + (Utf8.decode nm pos).2))) := hbw2
      clear hbad hg2 HE hgo hbw2
      go_wp2_with (go_at_call 132; refine (writeRune_k (w.heap.size + 1) (w.heap.size + 1) _ _ (by omega) (by omega) _ hI2 hll hsz2).mono ?_; rintro e W2 ⟨rfl, hq1, hq2, hq3⟩)
      have hx := hq3.iter hit2 (by omega)
      refine ⟨⟨pos + (Utf8.decode nm pos).2, ?_, hx, HBW2.out.trans (hq2.mono (by omega)), HG2.out, hle⟩, ?_⟩
      · have e : byteCells ([64] ++ nm.data.toList.take (pos + (Utf8.decode nm pos).2)) = byteCells ([64] ++ nm.data.toList.take pos) ++ runeCells ((Utf8.decode nm pos).1 : Int) := by
          rw [← HEE.out, ← List.append_assoc, byteCells_append _ (encodeRune _), byteCells_encodeRune]
        rw [e]; exact .inr hq1
      · rw [HP.out]
        simp only [World.iterPos, hx]
        omega
    · have hnx : ∀ ty, (Instr.next (.pointer (some ⟨W1.heap.size, 0, none⟩)) true ty).run Tryd.prog wr = _ := fun ty => run_next_end_at wr (W1.heap.size) nm pos ty hit hp
      have hBw : w.heap.size + 1 ≤ wr.heap.size := by omega
      have e0 : nm.data.toList.take pos = nm.data.toList := List.take_of_length_le (by rw [← size_eq]; omega)
      rw [e0] at hI
      have HBW : Hid (Below w.heap.size w wr) := hbw
      clear hbw e0
      go_wp2_with (go_at_call 133; refine (Tryd.Builder_String_any_k (w.heap.size + 1) (w.heap.size + 1) _ _ hI hBw).mono ?_; rintro e W2 ⟨rfl, _, hq2, _⟩)
      go_ret
      exact ⟨by rw [HR.out] <;> rfl, HBW.out.trans (hq2.mono (by omega))⟩

set_option maxRecDepth 100000 in
set_option maxHeartbeats 2000000 in
theorem leaf_name (op n : Int) (nm : ByteArray) (ks : List Int) (ka : Option Addr) (kn kc : Nat) (w : World) (h1 : op ≠ 1) (h18 : op ≠ 18) (hc : (chk nm).2 = 0) (hs : nm.size ≤ 64) :
    Calls Tryd.prog 102 #[.agg #[.int .i64 op, .int .i64 n, .string nm, .slice ka kn kc] ] w fun e w' => e = .returned (.string (leafT ⟨op, n, nm, ks⟩)) ∧ Below w.heap.size w w' := by
  have HR : Hid (leafT ⟨op, n, nm, ks⟩ = ⟨([] ++ nm.data.toList).toArray⟩) := by
    show leafT ⟨op, n, nm, ks⟩ = _
    unfold leafT
    rw [if_neg h1, if_neg h18]
    simp
  generalize leafT ⟨op, n, nm, ks⟩ = R at *
  have g1 : (op == 1) = false := by rw [beq_eq_false_iff_ne]; exact h1
  have g18 : (op == 18) = false := by rw [beq_eq_false_iff_ne]; exact h18
  have HG : Hid (Good nm 0) := good_start nm hc
  clear h1 hc
  have hI0 : IsBuilderF 172 5 (w.heap.size + 1) (w.heap.size + 1) (byteCells []) ((w.alloc (.cells #[.int .i64 op, .int .i64 n, .string nm, .slice ka kn kc] 60)).alloc (.cells #[.pointer none, .slice none 0 0] 172)) := by
    have := IsBuilderF.of (fresh_isBuilder 172 5 (w.alloc (.cells #[.int .i64 op, .int .i64 n, .string nm, .slice ka kn kc] 60)))
    simpa [byteCells] using this
  have HB0 : Hid (Below w.heap.size w ((w.alloc (.cells #[.int .i64 op, .int .i64 n, .string nm, .slice ka kn kc] 60)).alloc (.cells #[.pointer none, .slice none 0 0] 172))) := ((Below.refl _ _).alloc (Nat.le_refl _) _).alloc (by simp) _
  go_enter Tryd.func102, Tryd.ntmps102
  go_wp2_with fail
  go_loopw [] (fun wr => ∃ pos : Nat, IsBuilderF 172 5 (w.heap.size + 1) (w.heap.size + 1) (byteCells ([] ++ nm.data.toList.take pos)) wr ∧ wr.heap[w.heap.size + 2]? = some (.stringIter nm pos) ∧ Below w.heap.size w wr ∧ Hid (Good nm pos) ∧ pos ≤ nm.size) (fun wr => nm.size - wr.iterPos (w.heap.size + 2))
  case atStart =>
    have e0 : ([] ++ nm.data.toList.take 0 : List UInt8) = [] := by simp
    refine ⟨0, by rw [e0]; exact hI0.alloc _, ?_, HB0.out.alloc HB0.out.size _, HG.out, by omega⟩
    have := World.iter_heap ((w.alloc (.cells #[.int .i64 op, .int .i64 n, .string nm, .slice ka kn kc] 60)).alloc (.cells #[.pointer none, .slice none 0 0] 172)) nm 0
    simpa using this
  case round =>
    obtain ⟨pos, hI, hit, hbw, hgo, hpl⟩ := hrel
    have hsz : w.heap.size + 2 < wr.heap.size := (Array.getElem?_eq_some_iff.1 hit).1
    by_cases hp : pos < nm.size
    · have hnx : ∀ ty, (Instr.next (.pointer (some ⟨w.heap.size + 2, 0, none⟩)) true ty).run Tryd.prog wr = _ := fun ty => run_next_any_at wr (w.heap.size + 2) nm pos ty hit hp
      have hwd := width_pos nm pos hp
      have hle := dec_le nm pos hp
      obtain ⟨hbad, hg2⟩ := good_step nm pos hp hgo.out
      have HE := take_enc nm pos hp hbad
      have hI2 := hI.iterAt hit (pos + (Utf8.decode nm pos).2)
      have hit2 := iterAt_heap wr (w.heap.size + 2) nm pos (pos + (Utf8.decode nm pos).2) hit
      have hbw2 := below_iterAt hbw (k := w.heap.size + 2) (by omega) nm (pos + (Utf8.decode nm pos).2)
      have hsz2 : w.heap.size + 1 ≤ (wr.iterAt (w.heap.size + 2) nm (pos + (Utf8.decode nm pos).2)).heap.size := by rw [iterAt_size]; omega
      have hr0 := rune_le nm pos
      have hll : (byteCells ([] ++ nm.data.toList.take pos)).length + 4 ≤ 140737488355328 := by
        rw [byteCells_length, List.length_append, List.length_take]; simp; omega
      have HP : Hid (wr.iterPos (w.heap.size + 2) = pos) := by show wr.iterPos (w.heap.size + 2) = pos; simp [World.iterPos, hit]
      have HG2 : Hid (Good nm (pos + (Utf8.decode nm pos).2)) := hg2
      have HEE : Hid (nm.data.toList.take pos ++ encodeRune ((Utf8.decode nm pos).1 : Int) = nm.data.toList.take (pos + (Utf8.decode nm pos).2)) := HE
      have HBW2 : Hid (Below w.heap.size w (wr.iterAt (w.heap.size + 2) nm (pos + (Utf8.decode nm pos).2))) := hbw2
      clear hbad hg2 HE hgo hbw2
      go_wp2_with (go_at_call 132; refine (writeRune_k (w.heap.size + 1) (w.heap.size + 1) _ _ (by omega) (by omega) _ hI2 hll hsz2).mono ?_; rintro e W2 ⟨rfl, hq1, hq2, hq3⟩)
      have hx := hq3.iter hit2 (by omega)
      refine ⟨⟨pos + (Utf8.decode nm pos).2, ?_, hx, HBW2.out.trans (hq2.mono (by omega)), HG2.out, hle⟩, ?_⟩
      · have e : byteCells ([] ++ nm.data.toList.take (pos + (Utf8.decode nm pos).2)) = byteCells ([] ++ nm.data.toList.take pos) ++ runeCells ((Utf8.decode nm pos).1 : Int) := by
          rw [← HEE.out, ← List.append_assoc, byteCells_append _ (encodeRune _), byteCells_encodeRune]
        rw [e]; exact .inr hq1
      · rw [HP.out]
        simp only [World.iterPos, hx]
        omega
    · have hnx : ∀ ty, (Instr.next (.pointer (some ⟨w.heap.size + 2, 0, none⟩)) true ty).run Tryd.prog wr = _ := fun ty => run_next_end_at wr (w.heap.size + 2) nm pos ty hit hp
      have hBw : w.heap.size + 1 ≤ wr.heap.size := by omega
      have e0 : nm.data.toList.take pos = nm.data.toList := List.take_of_length_le (by rw [← size_eq]; omega)
      rw [e0] at hI
      have HBW : Hid (Below w.heap.size w wr) := hbw
      clear hbw e0
      go_wp2_with (go_at_call 133; refine (Tryd.Builder_String_any_k (w.heap.size + 1) (w.heap.size + 1) _ _ hI hBw).mono ?_; rintro e W2 ⟨rfl, _, hq2, _⟩)
      go_ret
      exact ⟨by rw [HR.out] <;> rfl, HBW.out.trans (hq2.mono (by omega))⟩

theorem leaf_any (x : Nd) (ka : Option Addr) (kn kc : Nat) (w : World) (hP : Pows w) (hn : num64 x.n) (hc : (chk x.name).2 = 0) (hs : x.name.size ≤ 64) :
    Calls Tryd.prog 102 #[.agg #[.int .i64 x.op, .int .i64 x.n, .string x.name, .slice ka kn kc] ] w fun e w' => e = .returned (.string (leafT x)) ∧ Below w.heap.size w w' := by
  obtain ⟨op, n, nm, ks⟩ := x
  by_cases h1 : op = 1
  · subst h1; exact leaf_lit n nm ks ka kn kc w hP hn
  · by_cases h18 : op = 18
    · subst h18; exact leaf_hole n nm ks ka kn kc w hc hs
    · exact leaf_name op n nm ks ka kn kc w h1 h18 hc hs
end Go.Proofs.YtjmccobblpcbhaaDoor

set_option linter.unusedSimpArgs false
set_option linter.unusedVariables false
namespace Go.Proofs.YtjmccobblpcbhaaDoor
open Go.RowKit Go.Lib Go.Maps

theorem cntLaw : Keyed Tryd.prog 9 := string_keyed Tryd.underlying9
theorem zeroInt (w : World) : (zeroValue 3).run Tryd.prog w = .ok (.int .i64 0) w := by kernel_rfl
def klB (s : ByteArray) : Lit := .string s.data.toList
theorem keyB {s : ByteArray} (h : s.size ≤ maxLen) : keyOf Tryd.prog 9 (.string s) = some (klB s) := Go.WideMaps.keyOf_string_mk Tryd.underlying9 h
theorem isKeyB (s : ByteArray) : WideAt.IsKeyLit (klB s) := trivial
theorem klB_inj {s t : ByteArray} (h : klB s = klB t) : s = t := by
  have : s.data.toList = t.data.toList := by simpa [klB] using h
  exact ByteArray.ext (by simpa using congrArg List.toArray this)

/-- Block B is a map of n stores whose keys are the texts ks. -/
def CntM (w : World) (B n : Nat) (ks : List ByteArray) : Prop :=
  ∃ D : DataW Unit, w.ownsMap Tryd.prog 9 (plainElem (H := Unit) Tryd.prog 3) B n D ∧ (∀ s, ∃ c : Nat, c ≤ n ∧ D.atKey (klB s) (.lit (.int .i64 0)) = .lit (.int .i64 (c : Int))) ∧ Maps.size D = ks.length ∧ (∀ s, has D (klB s) = ks.any (fun y => decide (y = s)))

theorem CntM.made (w : World) : CntM (w.alloc (.map #[] 0)) w.heap.size 0 [] :=
  ⟨.map [], World.ownsMap_made _ _ _ _, fun s => ⟨0, Nat.le_refl _, rfl⟩, rfl, fun s => rfl⟩
theorem CntM.lt {w : World} {B n : Nat} {ks : List ByteArray} (h : CntM w B n ks) : B < w.heap.size := let ⟨_, h, _⟩ := h; World.ownsMap.lt h
theorem CntM.kept {w w' : World} {B n : Nat} {ks : List ByteArray} {row : Option Nat} (h : CntM w B n ks) (hg : w.grownBy w' row) (hne : some B ≠ row) : CntM w' B n ks := let ⟨D, h, r⟩ := h; ⟨D, World.ownsMap.kept h hg hne, r⟩
theorem CntM.alloc {w : World} {B n : Nat} {ks : List ByteArray} (h : CntM w B n ks) (o : Obj) : CntM (w.alloc o) B n ks := let ⟨D, h, r⟩ := h; ⟨D, World.ownsMap.alloc h o, r⟩
theorem CntM.setCell {w : World} {B n : Nat} {ks : List ByteArray} (h : CntM w B n ks) {a : Addr} (ha : B ≠ a.block) (u : Value) : CntM (w.setCell a u) B n ks := let ⟨D, h, r⟩ := h; ⟨D, World.ownsMap.setCell h ha u, r⟩

/-- One more is counted: what is read, and what is laid. -/
theorem CntM.more {w : World} {B n : Nat} {ks : List ByteArray} (h : CntM w B n ks) (hn : n ≤ 1000) {s : ByteArray} (hs : s.size ≤ maxLen) :
    ∃ (c : Nat) (w' : World), c ≤ n ∧ (Instr.lookup 166 (.map (some B)) (.string s) false).run Tryd.prog w = .ok (.int .i64 (c : Int)) w ∧
      (Instr.mapUpdate 166 (.map (some B)) (.string s) (.int .i64 ((c : Int) + 1))).run Tryd.prog w = .ok () w' ∧ CntM w' B (n + 1) (if ks.any (fun y => decide (y = s)) = true then ks else ks ++ [s]) ∧ w.grownBy w' (some B) := by
  obtain ⟨D, hD, hc, hz, hh⟩ := h
  obtain ⟨c', hr, hat, hw⟩ := hD.lookup_int cntLaw Tryd.underlying166 Tryd.underlying3 (zeroInt w) (keyB hs)
  obtain ⟨c, hcn, hcs⟩ := hc s
  have e : c' = (c : Int) := by
    rw [hat] at hcs
    simpa using hcs
  subst e
  have hwf : (Lit.int .i64 ((c : Int) + 1)).wf = true := by
    have e1 : IntKind.min .i64 = -9223372036854775808 := by decide
    have e2 : IntKind.max .i64 = 9223372036854775807 := by decide
    simp only [Lit.wf, e1, e2, Bool.and_eq_true, decide_eq_true_eq]
    omega
  obtain ⟨w', h1, h2, h3⟩ := World.ownsMap.update hD cntLaw Tryd.underlying166 (by unfold maxLen; omega) (keyB hs) (plainElem_int Tryd.underlying3 hwf)
  refine ⟨c, w', hcn, hr, h1, ⟨_, h2, fun t => ?_, ?_, fun t => ?_⟩, h3⟩
  · by_cases e : t = s
    · subst e
      exact ⟨c + 1, by omega, by rw [atKey_put_same hD.isMap (isKeyB t)]; simp⟩
    · obtain ⟨ct, hct, hat'⟩ := hc t
      exact ⟨ct, by omega, by rw [atKey_put_other (fun e2 => e (klB_inj e2))]; exact hat'⟩
  · rw [size_put (hD.tidy cntLaw), hh s, hz]
    split
    · rfl
    · simp
  · by_cases e : t = s
    · subst e
      rw [has_put_same hD.isMap (isKeyB t)]
      split
      · rename_i h; rw [h]
      · simp
    · rw [has_put_other (fun e2 => e (klB_inj e2)), hh t]
      split
      · rfl
      · simp [Ne.symm e]
theorem CntM.len {w : World} {B n : Nat} {ks : List ByteArray} (h : CntM w B n ks) (ty : TypeId) :
    (Builtin.len_ #[166 ] ty #[.map (some B)]).run Tryd.prog w = .ok (.int .i64 (ks.length : Nat)) w := by
  obtain ⟨D, hD, _, hz, _⟩ := h
  rw [World.ownsMap.len hD Tryd.underlying166 ty, hz]
end Go.Proofs.YtjmccobblpcbhaaDoor
