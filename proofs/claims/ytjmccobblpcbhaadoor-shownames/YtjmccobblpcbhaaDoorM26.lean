/-
  PkReW, PsNam.
-/
import Derived.Shelf.Unicode.DecodeSlow
import Derived.Laws.RangeAny
import Derived.Shelf.Strings.Builder1
import Derived.Shelf.Small.Utf8
import Derived.Shelf.Small.Bits
import Derived.Shelf.Strings.BuilderF
import Derived.Shelf.Strings.BuilderK
import Derived.Shelf.Strings.BuilderRune
import Derived.Shelf.Utf8.AppendRune
import Derived.Shelf.Strconv.Itoa0
import Derived.Shelf.Strconv.Itoa1
import Derived.Shelf.LaysM
import Derived.Shelf.Strconv.Itoa2
import Derived.Shelf.Strconv.Itoa3
import Derived.Shelf.Strconv.Itoa4
import Derived.Shelf.Strings.Prefix
import Derived.Shelf.Unicode.DecodeAny
import Derived.Test.YtjmccobblpcbhaaDoorProg
import Derived.WalkKit
import Derived.Deep.DeepFit
import Derived.Lib.OthersKept
import Derived.Lib.RuneCountTail
import Derived.Lib.MapLaws
import Derived.Sort.Walk0
import Derived.Laws.DeepStrings4
import Derived.Lib.ItoaNum
import Derived.Deep.AppendLies
import Derived.Deep.OwnRows
import Derived.Laws.AppendOwnNone
import Derived.Deep.QuietTactic
import Derived.BigQuiet
import Derived.Deep.RegionWith
import Derived.Maps.OwnSet
import Derived.StringKeys
import Derived.Lib.QuietBelow
import Derived.StillTail
import Derived.Below
import Derived.Lib.Small
import Derived.Lib.Strings
import Derived.Deep.RegionHeld3
import Derived.Laws.ResultCell
import Derived.Deep.Heap
import Derived.Laws.Rows
import Derived.Deep.RegionLaw
import Derived.Laws.OwnMore
import Derived.Test.YtjmccobblpcbhaaDoorM01
import Derived.Test.YtjmccobblpcbhaaDoorM02
import Derived.Test.YtjmccobblpcbhaaDoorM03
import Derived.Test.YtjmccobblpcbhaaDoorM04
import Derived.Test.YtjmccobblpcbhaaDoorM05
import Derived.Test.YtjmccobblpcbhaaDoorM06
import Derived.Test.YtjmccobblpcbhaaDoorM07
import Derived.Test.YtjmccobblpcbhaaDoorM08
import Derived.Test.YtjmccobblpcbhaaDoorM09
import Derived.Test.YtjmccobblpcbhaaDoorM11
import Derived.Test.YtjmccobblpcbhaaDoorM12
import Derived.Test.YtjmccobblpcbhaaDoorM13
import Derived.Test.YtjmccobblpcbhaaDoorM15
import Derived.Test.YtjmccobblpcbhaaDoorM16
import Derived.Test.YtjmccobblpcbhaaDoorM17
import Derived.Test.YtjmccobblpcbhaaDoorM18
import Derived.Test.YtjmccobblpcbhaaDoorM19
import Derived.Test.YtjmccobblpcbhaaDoorM20
import Derived.Test.YtjmccobblpcbhaaDoorM21
import Derived.Test.YtjmccobblpcbhaaDoorM22
import Derived.Test.YtjmccobblpcbhaaDoorM23
import Derived.Test.YtjmccobblpcbhaaDoorM24
import Derived.Test.YtjmccobblpcbhaaDoorM25
set_option linter.unusedSimpArgs false
set_option linter.unusedVariables false
namespace Go.Proofs.YtjmccobblpcbhaaDoor
open Go.RowKit Go.Lib Go.Sort

theorem ta_nil (w : World) : (Instr.typeAssert .nilIface 20 112 true).run Tryd.prog w = .ok (.tuple #[.agg #[.int .i64 0, .int .i64 0], .bool false]) w := by kernel_rfl
theorem ta_flt (x : Value) (w : World) : (Instr.typeAssert (.iface 112 x) 20 112 true).run Tryd.prog w = .ok (.tuple #[x, .bool true]) w := by kernel_rfl

set_option maxHeartbeats 2000000 in
theorem re_idle (pn pa pe : Addr) (w : World) :
    CallsD Tryd.prog 89 #[.pointer (some pn), .pointer (some pa), .pointer (some pe)] .returning w fun e u' w' => e = .returned (.tuple #[]) ∧ u' = .returning ∧ Below w.heap.size w w' := by
  refine callsD_of_wpS Tryd.func89 rfl fun c₀ cs hu => ?_
  have hb : Below w.heap.size w (w.alloc (.cells #[.int .i64 0, .int .i64 0] 112)) := (Below.refl _ _).alloc (Nat.le_refl _) _
  apply wpS_seq
  apply wpS_region
  simp [wpOpsS, go_sem, recoverD, hu, Tryd.ntmps89, Exit.thenS, ta_nil, Array.replicate]
  apply wpS_seq
  apply wpS_region
  simp [wpOpsS, go_sem, Exit.thenS]
  refine wpS_cond (t := false) (by simp [Act.eval]) ?_
  simp only [Bool.false_eq_true, if_false]
  apply wpS_of_wp
  apply wp_skip
  simp [bodyPostS, results, Tryd.results89, go_sem]
  cases c₀
  simp_all

set_option maxHeartbeats 2000000 in
theorem re_panicking (bn ba be : Nat) (vn va ve : Value) (Tn Ta Te : TypeId) (p : Nat) (er : Int) (older : List PanicEntry) (w : World) (L : Nat)
    (hn : w.heap[bn]? = some (.cells #[vn] Tn (0, 0))) (ha : w.heap[ba]? = some (.cells #[va] Ta (0, 0))) (he : w.heap[be]? = some (.cells #[ve] Te (0, 0))) (hna : bn ≠ ba) (hne : bn ≠ be) (hae : ba ≠ be) (ln : L ≤ bn) (la : L ≤ ba) (le : L ≤ be) :
    CallsD Tryd.prog 89 #[.pointer (some ⟨bn, 0, none⟩), .pointer (some ⟨ba, 0, none⟩), .pointer (some ⟨be, 0, none⟩)] (.panicking ({ v := fltV p er, recovered := false } :: older)) w fun e u' w' => e = .returned (.tuple #[]) ∧ u' = (.panicking ({ v := fltV p er, recovered := true } :: older)) ∧ w'.cell? ⟨bn, 0, none⟩ = some (.slice none 0 0) ∧ w'.cell? ⟨ba, 0, none⟩ = some (.int .i64 p) ∧ w'.cell? ⟨be, 0, none⟩ = some (.int .i64 er) ∧ Below L w w' := by
  have zn := lt_of_block hn
  have za := lt_of_block ha
  have ze := lt_of_block he
  refine callsD_of_wpS Tryd.func89 rfl fun c₀ cs hu => ?_
  unfold fltV at *
  obtain ⟨W, hW⟩ : ∃ W, w.alloc (.cells #[.int .i64 (p : Int), .int .i64 er] 112) = W := ⟨_, rfl⟩
  have hbW : Below L w W := by rw [← hW]; exact (Below.refl _ _).alloc (by omega) _
  have hF : W.heap[w.heap.size]? = some (.cells #[.int .i64 (p : Int), .int .i64 er] 112 (0, 0)) := by rw [← hW, Deep.blk_alloc_new]
  have hn' : W.heap[bn]? = some (.cells #[vn] Tn (0, 0)) := by rw [← hW, alloc_old _ _ _ zn]; exact hn
  have ha' : W.heap[ba]? = some (.cells #[va] Ta (0, 0)) := by rw [← hW, alloc_old _ _ _ za]; exact ha
  have he' : W.heap[be]? = some (.cells #[ve] Te (0, 0)) := by rw [← hW, alloc_old _ _ _ ze]; exact he
  apply wpS_seq
  apply wpS_region
  simp [wpOpsS, go_sem, recoverD, hu, Tryd.ntmps89, Exit.thenS, ta_flt, Array.replicate]
  rw [hW]
  clear hW hn ha he
  apply wpS_seq
  apply wpS_region
  simp [wpOpsS, go_sem, Exit.thenS]
  refine wpS_cond (t := true) (by simp [Act.eval]) ?_
  simp only [if_true]
  apply wpS_of_wp
  have f0 : W.cell? ⟨w.heap.size, 0, none⟩ = some (.int .i64 (p : Int)) := by simp [World.cell?, hF]
  have f1 : W.cell? ⟨w.heap.size, 1, none⟩ = some (.int .i64 er) := by simp [World.cell?, hF]
  have n0 : W.cell? ⟨bn, 0, none⟩ = some vn := by simp [World.cell?, hn']
  have a0 : W.cell? ⟨ba, 0, none⟩ = some va := by simp [World.cell?, ha']
  have e0 : W.cell? ⟨be, 0, none⟩ = some ve := by simp [World.cell?, he']
  have n1 : W.frozen? ⟨bn, 0, none⟩ = false := by simp [World.frozen?, hn']
  have a1 : W.frozen? ⟨ba, 0, none⟩ = false := by simp [World.frozen?, ha']
  have e1 : W.frozen? ⟨be, 0, none⟩ = false := by simp [World.frozen?, he']
  have N0 := heap_setCell_same W bn 0 _ _ (.slice none 0 0) hn'
  have A0 : (W.setCell ⟨bn, 0, none⟩ (.slice none 0 0)).heap[ba]? = _ := (Deep.blk_setCell_other _ _ _ _ (by show ba ≠ bn; omega)).trans ha'
  have E0 : (W.setCell ⟨bn, 0, none⟩ (.slice none 0 0)).heap[be]? = _ := (Deep.blk_setCell_other _ _ _ _ (by show be ≠ bn; omega)).trans he'
  have A1 := heap_setCell_same _ ba 0 _ _ (.int .i64 (p : Int)) A0
  have N1 : ((W.setCell ⟨bn, 0, none⟩ (.slice none 0 0)).setCell ⟨ba, 0, none⟩ (.int .i64 (p : Int))).heap[bn]? = _ := (Deep.blk_setCell_other _ _ _ _ (by show bn ≠ ba; omega)).trans N0
  have E1 : ((W.setCell ⟨bn, 0, none⟩ (.slice none 0 0)).setCell ⟨ba, 0, none⟩ (.int .i64 (p : Int))).heap[be]? = _ := (Deep.blk_setCell_other _ _ _ _ (by show be ≠ ba; omega)).trans E0
  have E2 := heap_setCell_same _ be 0 _ _ (.int .i64 er) E1
  have N2 : (((W.setCell ⟨bn, 0, none⟩ (.slice none 0 0)).setCell ⟨ba, 0, none⟩ (.int .i64 (p : Int))).setCell ⟨be, 0, none⟩ (.int .i64 er)).heap[bn]? = _ := (Deep.blk_setCell_other _ _ _ _ (by show bn ≠ be; omega)).trans N1
  have A2 : (((W.setCell ⟨bn, 0, none⟩ (.slice none 0 0)).setCell ⟨ba, 0, none⟩ (.int .i64 (p : Int))).setCell ⟨be, 0, none⟩ (.int .i64 er)).heap[ba]? = _ := (Deep.blk_setCell_other _ _ _ _ (by show ba ≠ be; omega)).trans A1
  have HB : Below L w (((W.setCell ⟨bn, 0, none⟩ (.slice none 0 0)).setCell ⟨ba, 0, none⟩ (.int .i64 (p : Int))).setCell ⟨be, 0, none⟩ (.int .i64 er)).drew := by
    have h := ((hbW.setCell (p := ⟨bn, 0, none⟩) ln (.slice none 0 0)).setCell (p := ⟨ba, 0, none⟩) la (.int .i64 (p : Int))).setCell (p := ⟨be, 0, none⟩) le (.int .i64 er)
    exact ⟨h.os, h.tape, h.output, h.size, h.block⟩
  have HN2 : Hid _ := N2
  have HA2 : Hid _ := A2
  have HE2 : Hid _ := E2
  have HHB : Hid _ := HB
  clear N0 A0 E0 A1 N1 E1 E2 N2 A2 HB hbW
  go_region
  all_goals
    have c1 := HN2.out
    have c2 := HA2.out
    have c3 := HE2.out
    have c4 := HHB.out
    generalize ((W.setCell ⟨bn, 0, none⟩ (.slice none 0 0)).setCell ⟨ba, 0, none⟩ (.int .i64 (p : Int))).setCell ⟨be, 0, none⟩ (.int .i64 er) = X at *
    have k1 : X.drew.cell? ⟨bn, 0, none⟩ = some (.slice none 0 0) := by show X.cell? _ = _; simp [World.cell?, c1]
    have k2 : X.drew.cell? ⟨ba, 0, none⟩ = some (.int .i64 (p : Int)) := by show X.cell? _ = _; simp [World.cell?, c2]
    have k3 : X.drew.cell? ⟨be, 0, none⟩ = some (.int .i64 er) := by show X.cell? _ = _; simp [World.cell?, c3]
    generalize X.drew = Y at *
    simp [bodyPostS, results, Tryd.results89, go_sem]
    exact ⟨k1, k2, k3, c4⟩
end Go.Proofs.YtjmccobblpcbhaaDoor

set_option linter.unusedSimpArgs false
set_option linter.unusedVariables false
namespace Go.Proofs.YtjmccobblpcbhaaDoor
open Go.Lib

def SzOk (s : ByteArray) (st : Ps) : Prop := ∀ x ∈ st.nodes, x.name.size ≤ s.size
theorem ext_sz (s : ByteArray) (a b : Nat) : (s.extract a b).size ≤ s.size := by
  simp [ByteArray.size_extract]; omega
theorem SzOk.add {s : ByteArray} {st : Ps} {x : Nd} (h : SzOk s st) (hx : x.name.size ≤ s.size) : SzOk s (psAdd x st).2 := by
  intro y hy
  have hy : y ∈ st.nodes ++ [x] := hy
  rcases List.mem_append.1 hy with h1 | h1
  · exact h y h1
  · rw [List.mem_singleton.1 h1]; exact hx
theorem SzOk.nx {s : ByteArray} {pat : Bool} {most : Nat} {st st1 : Ps} (h : SzOk s st) (hn : psNx s pat most st = .ok st1) : SzOk s st1 := by
  obtain ⟨t, _, h2⟩ := Pr.bind_ok hn
  cases h2; exact h
theorem SzOk.ex {s : ByteArray} {pat : Bool} {c : Int} {st st1 : Ps} (h : SzOk s st) (hn : psEx s pat c st = .ok st1) : SzOk s st1 := by
  unfold psEx at hn
  split at hn
  · split at hn
    · exact h.nx hn
    · cases hn
  · cases hn
theorem psRun_sz (s : ByteArray) (pat : Bool) : ∀ (f : Nat) (q : Rl) (st : Ps) (r : Nat × Ps), SzOk s st → psRun s pat f q st = .ok r → SzOk s r.2 := by
  intro f
  induction f with
  | zero => intro q st r _ h; cases h
  | succ f ih =>
    intro q st r hst h
    cases q with
    | cond =>
      obtain ⟨c, h1, h2⟩ := Pr.bind_ok h
      have k1 := ih (.pair 1) _ _ hst h1
      split at h2
      · obtain ⟨st2, h3, h2⟩ := Pr.bind_ok h2
        obtain ⟨a, h4, h2⟩ := Pr.bind_ok h2
        obtain ⟨st4, h5, h2⟩ := Pr.bind_ok h2
        obtain ⟨b, h6, h2⟩ := Pr.bind_ok h2
        cases h2
        have k := ih .cond _ _ ((ih .cond _ _ (k1.nx h3) h4).ex h5) h6; exact k.add (Nat.zero_le _)
      · cases h2; exact k1
    | pair lv =>
      simp only [psRun] at h
      split at h
      · exact ih .un _ _ hst h
      · obtain ⟨a, h1, h2⟩ := Pr.bind_ok h
        exact ih (.loop lv a.1) _ _ (ih (.pair (lv + 1)) _ _ hst h1) h2
    | loop lv a =>
      simp only [psRun] at h
      split at h
      · obtain ⟨st1, h1, h⟩ := Pr.bind_ok h
        obtain ⟨b, h2, h⟩ := Pr.bind_ok h
        have k2 := ih (.pair (lv + 1)) _ _ (hst.nx h1) h2
        split at h
        · cases h; exact k2.add (Nat.zero_le _)
        · exact ih _ _ _ (show SzOk s (psJoin (psOp st.now.what).1 [a, b.1] b.2).2 from k2.add (Nat.zero_le _)) h
      · cases h; exact hst
    | un =>
      simp only [psRun] at h
      split at h
      · split at h
        · obtain ⟨st1, h1, h⟩ := Pr.bind_ok h
          obtain ⟨x, h2, h⟩ := Pr.bind_ok h
          cases h
          have k := ih .un _ _ (hst.nx h1) h2; exact k.add (Nat.zero_le _)
        · obtain ⟨st1, h1, h⟩ := Pr.bind_ok h
          obtain ⟨st2, h2, h⟩ := Pr.bind_ok h
          cases h
          exact ((hst.nx h1).ex h2).add (Nat.zero_le _)
      · split at h
        · obtain ⟨st1, h1, h⟩ := Pr.bind_ok h
          obtain ⟨x, h2, h⟩ := Pr.bind_ok h
          cases h
          have k := ih .un _ _ (hst.nx h1) h2; exact k.add (Nat.zero_le _)
        · exact ih .atom _ _ hst h
    | atom =>
      simp only [psRun] at h
      split at h
      · obtain ⟨st2, h2, h⟩ := Pr.bind_ok h
        cases h
        exact (hst.ex h2).add (Nat.zero_le _)
      · split at h
        · obtain ⟨st2, h2, h⟩ := Pr.bind_ok h
          cases h
          exact (hst.ex h2).add (ext_sz _ _ _)
        · split at h
          · obtain ⟨st1, h1, h⟩ := Pr.bind_ok h
            obtain ⟨st2, h2, h⟩ := Pr.bind_ok h
            cases h
            exact ((hst.nx h1).ex h2).add (ext_sz _ _ _)
          · split at h
            · split at h
              · cases h
              · obtain ⟨st1, h1, h⟩ := Pr.bind_ok h
                obtain ⟨e, h2, h⟩ := Pr.bind_ok h
                obtain ⟨st3, h3, h⟩ := Pr.bind_ok h
                cases h
                have k : SzOk s st3 := SzOk.ex (ih .cond _ _ (SzOk.nx (st := { st with brk := st.brk + 1 }) hst h1) h2) h3
                exact k
            · cases h

end Go.Proofs.YtjmccobblpcbhaaDoor
