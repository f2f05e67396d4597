/-
  What Vars answers.
-/
import Derived.Test.YtkdcjkhpbbcncaaDoorShelfB
import Derived.Test.YtkdcjkhpbbcncaaDoorVrPure
import Derived.Test.YtkdcjkhpbbcncaaDoorStrMem
import Derived.Test.YtkdcjkhpbbcncaaDoorMono
import Derived.Test.YtkdcjkhpbbcncaaDoorOrderW
import Derived.Test.YtkdcjkhpbbcncaaDoorExBegW
import Derived.Sort.OwnSorted
set_option linter.unusedSimpArgs false
set_option linter.unusedVariables false
namespace Go.Proofs.YtkdcjkhpbbcncaaDoor
open Go.RowKit Go.Lib

theorem Tryd.infoTxt : (Tryd.prog.info? 9).map (fun i => (i.zero, i.size, i.bytes)) = some (some (.string ⟨#[]⟩), 1, 16) := by kernel_rfl

/-! ### no names -/
set_option maxHeartbeats 2000000 in
theorem insert_nil (fv : Value) (w : World) :
    Calls Tryd.prog 111 #[.slice none 0 0, .int .i64 0, .int .i64 0, fv] w fun e w' => e = .returned (.tuple #[]) ∧ w' = w := by
  go_enter Tryd.func111, Tryd.ntmps111
  go_wp2
  refine wp_loop_rounds 1 ?_
  rw [rounds_succ]
  go_wp2
  go_end0
  exact ⟨rfl, rfl⟩
set_option maxHeartbeats 2000000 in
theorem pdq_nil (lim : Int) (fv : Value) (w : World) :
    Calls Tryd.prog 85 #[.slice none 0 0, .int .i64 0, .int .i64 0, .int .i64 lim, fv] w fun e w' => e = .returned (.tuple #[]) ∧ w' = w := by
  go_enter Tryd.func85, Tryd.ntmps85
  go_wp2
  refine wp_loop_rounds 1 ?_
  rw [rounds_succ]
  go_wp2_with (go_at_call 111; refine (insert_nil _ _).mono ?_; rintro e w' ⟨rfl, rfl⟩)
  (try simp only [Exit.inBlock, Exit.then]); refine bodyPost_ret (results_none rfl _ _ _) rfl ?_
  exact ⟨rfl, rfl⟩
set_option maxHeartbeats 2000000 in
theorem sort_nil (fv : Value) (w : World) :
    Calls Tryd.prog 52 #[.slice none 0 0, fv] w fun e w' => e = .returned (.tuple #[]) ∧ w' = w := by
  have hl : ∀ W, Calls Tryd.prog 86 #[.int .u64 0] W fun e w' => e = .returned (.int .i64 (Lib.bitLen 0 : Nat)) ∧ w' = W := fun W => Tryd.bits_Len 0 W (by omega) (by omega)
  go_enter Tryd.func52, Tryd.ntmps52
  go_wp2_with (first | (go_at_call 86; refine (hl _).mono ?_; rintro e w' ⟨rfl, rfl⟩) | (go_at_call 85; refine (pdq_nil _ _ _).mono ?_; rintro e w' ⟨rfl, rfl⟩))
  go_end0
  exact ⟨rfl, rfl⟩

/-! ### the sort, and Compact -/
theorem map_enc (ns : List ByteArray) : (ns.map bl).map encStr = ns.map Value.string := by
  rw [List.map_map]; apply List.map_congr_left; intro s _; exact encStr_bl s
theorem enters_order : ∀ args w, (callFunc 53 args).run Tryd.prog w = .ok (.enter 53 args) w := enters_of Tryd.func53 (by kernel_rfl) rfl

theorem sortNames (w0 w : World) (base : Nat) (v : Value) (ns : List ByteArray) (hT : Tabs w0) (hb0 : Below w0.heap.size w0 w) (hbase : w0.heap.size ≤ base) (hn : ∀ s ∈ ns, (chk s).2 = 0) (hsm : ns.length ≤ 64)
    (hown : w.ownsRow base 9 1 v ns.length (ns.map Value.string)) :
    Calls Tryd.prog 52 #[v, .func (.func 53) #[] #[]] w fun e w' => e = .returned (.tuple #[]) ∧ Below base w w' ∧
      Calls Tryd.prog 54 #[v] w' fun e w2 => ∃ ao cap vs, e = .returned (.slice ao vs.length cap) ∧ VrOf ns vs ∧ Strs w2 ao cap vs ∧ Below base w w2 := by
  rcases hown.2 with ⟨rfl, h0⟩ | ⟨g, cap, cur, rfl, hg, hb, h1, h2, h3, h4⟩
  · have : ns = [] := List.length_eq_zero_iff.1 h0
    subst this
    refine (sort_nil _ w).mono ?_
    rintro e w' ⟨rfl, rfl⟩
    refine ⟨rfl, Below.refl _ _, ?_⟩
    refine (Tryd.slices_Compact_string_empty none 0 w').mono ?_
    rintro e w2 ⟨rfl, rfl⟩
    exact ⟨none, 0, [], rfl, VrOf.nil, ⟨by simp, by simp, .inl rfl⟩, Below.refl _ _⟩
  · have hlt := lt_of_block hb
    have hH : Go.Sort.Holds encStr w g 0 (ns.map bl).toArray := holds_of_block hb (by rw [List.length_map, map_enc]; simpa using h4)
    have hbelow : ∀ (n : Nat) (d : Array (List UInt8)) (os : Array Obj), Below base w (Go.Sort.grow (Go.Sort.putRow encStr (Go.Sort.ahead w n) g 0 d) os) := fun n d os => by
      have hgr := grownBy_sorted (w := w) (g := g) (n := n) (os := os) d
      exact (Below.refl base w).grown hgr (by omega) (by intro k hk; cases hk; exact hg)
    have hcmp : CmpLays1 Tryd.prog 53 #[] encStr cfS g 0 (ns.map bl).toArray.size w := fun m os dk hs x y => by
      have hT' : Tabs (sortWorld encStr w g 0 m dk os) := hT.below (hb0.trans ((hbelow m dk os).mono hbase))
      exact calls_grown (order_any (ba x) (ba y) _ hT')
    have hsort := Tryd.slices_SortFunc encStr (fun _ => rfl) cfS cf_swo 53 #[] g 0 cap (ns.map bl).toArray w enters_order hcmp hH hlt (by simp; omega)
    have hsz : (ns.map bl).toArray.size = ns.length := by simp
    rw [hsz] at hsort
    refine hsort.mono ?_
    rintro e w' ⟨rfl, d, n, os, hp, hs, rfl⟩
    have hd : d.size = ns.length := by rw [hp.1]; simp
    refine ⟨rfl, hbelow n d os, ?_⟩
    have hb2 : (sortWorld encStr w g 0 n d os).heap[g]? = some (.cells (Go.Sort.putCells encStr 0 d cur) 9 (0, 0)) := heap_sorted d hb
    have hH2 : Go.Sort.Holds encStr (sortWorld encStr w g 0 n d os) g 0 d := by
      have := holds_of_block (ss := d.toList) hb2 (by
        have := take_putCells cur d.toList (by simp; omega)
        simpa using this)
      simpa using this
    have hcomp := Tryd.slices_Compact_string_arr g 0 cap d (sortWorld encStr w g 0 n d os) hH2 (by omega) (by omega)
    rw [hd] at hcomp
    refine hcomp.mono ?_
    rintro e w2 ⟨rfl, q, rfl⟩
    have hcl := compact_len d
    rw [hd] at hcl
    have hvr := sort_vr ns hn d (by simpa [hd] using hp) hs
    rw [hd] at hvr
    generalize hw1 : sortWorld encStr w g 0 n d os = w1 at *
    have hl1 := lt_of_block hb2
    generalize hcc : compactUpTo d ns.length = cc at *
    refine ⟨some ⟨g, 0, none⟩, cap, cc.map ba, by rw [List.length_map], hvr, ⟨by rw [List.length_map]; omega, h2, .inr ⟨g, 0, rfl, ?_, fun j hj => ?_⟩⟩, ?_⟩
    · simpa using hl1
    · rw [List.length_map] at hj
      have hc := Go.Sort.cell?_putRow encStr (Go.Sort.ahead w1 q) g 0 d (cc ++ List.replicate (ns.length - cc.length) []).toArray hH2 (by simp; omega) j (by simp; omega)
      rw [hc]
      have e1 : (cc ++ List.replicate (ns.length - cc.length) []).toArray[j]! = cc[j] := by
        rw [getElem!_pos _ j (by simp; omega)]
        simp [List.getElem_append_left hj]
      rw [e1]
      simp [ba, hj]
    · have hgr := grownBy_sorted (w := w1) (g := g) (n := q) (os := #[]) (cc ++ List.replicate (ns.length - cc.length) []).toArray
      rw [Go.Sort.grow_empty] at hgr
      have k1 := hbelow n d os
      rw [show Go.Sort.grow (Go.Sort.putRow encStr (Go.Sort.ahead w n) g 0 d) os = w1 from hw1] at k1
      exact k1.trans ((Below.refl base w1).grown hgr (by have := k1.size; omega) (by intro k hk; cases hk; exact hg))
end Go.Proofs.YtkdcjkhpbbcncaaDoor
