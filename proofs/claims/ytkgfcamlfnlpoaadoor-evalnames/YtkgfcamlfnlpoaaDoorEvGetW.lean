/-
  Get, copied, same, Get of the document, and awake, walked.
-/
import Derived.Test.YtkgfcamlfnlpoaaDoorEvLastW
import Derived.Test.YtkgfcamlfnlpoaaDoorQTail
import Derived.Test.YtkgfcamlfnlpoaaDoorKindW
set_option linter.unusedSimpArgs false
set_option linter.unusedVariables false
namespace Go.Proofs.YtkgfcamlfnlpoaaDoor
open Go.RowKit Go.Lib

theorem append_srcE {P : Program} (w : World) {ops : Array Oper} {rest : List Oper} {o : Oper} {a : Act} {Q : Exit → Act → World → Prop} (hgd : o.guard = none) (s x : Operand) (t : TypeId)
    (ho : o.op = .call { callee := .builtin .append, args := #[s, x], argTypes := #[t, t] })
    (base : Nat) (e : TypeId) (i : TypeInfo) (z : Value) (size bytes : Nat) (ht : P.underlying t = some (.slice e)) (hi : P.info? e = some i) (hz : i.zero = some z)
    (hsize : i.size = size) (hby : i.bytes = bytes) (hzs : z.cells.size = size) (hsz : 0 < size)
    (v : Value) (n : Nat) (xs : List Value) (hs : a.eval s = v) (hown : w.ownsRow base e size v n xs)
    (ao : Option Addr) (m c : Nat) (news : List Value) (hx : a.eval x = .slice ao m c) (hnone : ao = none → m = 0 ∧ c = 0) (hl : news.length = m * size) (hnews : ∀ ad, ao = some ad → ∀ j u, news[j]? = some u → w.cell? (ad.add j) = some u) (h1 : ∀ u ∈ news, u.oneCell' = true)
    (h63 : n + m ≤ maxLen) (hbytes : (n + m) * bytes ≤ 140737488355328) (hbase : base ≤ w.heap.size)
    (h : ∀ v' w', w'.ownsRow base e size v' (n + m) (xs ++ news) → w.grownBy w' v.ownBlock → wpList P ops Q rest (a.put o.dst v') w') : wpList P ops Q (o :: rest) a w := by
  cases ao with
  | none =>
    obtain ⟨rfl, rfl⟩ := hnone rfl
    have hn : news = [] := List.length_eq_zero_iff.1 (by omega)
    subst hn
    exact wpList_append_own_none hgd s x t ho base e i size ht hi v n xs hs hown hx (h v w (by simpa using hown) (World.grownBy.refl _ _))
  | some ad => exact wpList_append_own w hgd s x t ho base e i z size bytes ht hi hz hsize hby hzs hsz v n xs hs hown ad m c news hx hl (hnews ad rfl) h1 h63 hbytes hbase (fun v' w' h2 h3 _ => h v' w' h2 h3)

set_option maxHeartbeats 1000000 in
theorem get_any (ao : Option Addr) (cap : Nat) (l : List Bd) (nm : ByteArray) (hreach : l.length * 24 ≤ 140737488355328) (w : World) (hI : Bds w ao cap l) :
    Calls Tryd.prog 29 #[.slice ao l.length cap, .string nm] w fun e W' => e = .returned (.int .i64 (getB l nm)) ∧ Below w.heap.size w W' := by
  have c1 : Hid (∀ W, Bds W ao cap l → Calls Tryd.prog 50 #[.slice ao l.length cap, .string nm] W fun e W' => e = .returned (.int .i64 (lastB l nm)) ∧ Below W.heap.size W W') := fun W hW => last_any ao cap l nm hreach W hW
  have hr := lastB_range l nm
  rw [getB_last]
  by_cases h : lastB l nm < 0
  · have e : lastB l nm = -1 := by omega
    rw [e] at c1 ⊢
    rw [if_pos (by decide)]
    go_enter Tryd.func29, Tryd.ntmps29
    go_wp2_with (go_at_call 50; refine (c1.out _ (by assumption)).mono ?_; rintro e w2 ⟨rfl, b2⟩)
    go_ret
    exact ⟨rfl, b2⟩
  · obtain ⟨k, hk⟩ : ∃ k : Nat, lastB l nm = k := ⟨(lastB l nm).toNat, by omega⟩
    rw [hk] at c1 hr ⊢
    rw [if_neg (by omega), Int.toNat_natCast]
    have hkl : k < l.length := by omega
    have hkl2 : (k : Int) < (l.length : Int) := by omega
    obtain ⟨b, o, rfl, hb, hc⟩ := hI.at_ hkl
    obtain ⟨x, hx⟩ : ∃ x, l.getD k bd0 = x := ⟨_, rfl⟩
    rw [hx] at hc ⊢
    have HC : Hid (BdAt w b (o + k * 2) x) := hc
    clear hx hc h hr hkl
    go_enter Tryd.func29, Tryd.ntmps29
    go_wp2_with (go_at_call 50; refine (c1.out _ (by assumption)).mono ?_; rintro e w2 ⟨rfl, b2⟩; have cc := (HC.out.below hb b2).c1)
    go_ret
    exact ⟨rfl, b2⟩

set_option maxHeartbeats 1000000 in
theorem refGet_any (ao : Option Addr) (cap : Nat) (l : List Bd) (nm : ByteArray) (w : World) (hI : Bds w ao cap l) :
    Calls Tryd.prog 67 #[.slice ao l.length cap, .string nm] w fun e W' => e = .returned (.int .i64 (getB l nm)) ∧ W' = w := by
  obtain ⟨⟨hl, hm, _⟩, _⟩ := id hI
  unfold maxLen at hm
  have HI : Hid (Bds w ao cap l) := hI
  clear hI
  go_enter Tryd.func67, Tryd.ntmps67
  go_wp2
  go_loopw [5, 6] (fun n i wr => ∃ k : Nat, k ≤ l.length ∧ n = .int .i64 (getN l nm k) ∧ i = .int .i64 k ∧ wr = w) (fun _ i _ => l.length - (RowKit.intOf i).toNat)
  case atStart => exact ⟨0, by omega, rfl, rfl, rfl⟩
  case round =>
    obtain ⟨k, hk, rfl, rfl, rfl⟩ := hrel
    by_cases hlt : k < l.length
    · obtain ⟨b, o, rfl, hb, hc⟩ := HI.out.at_ hlt
      obtain ⟨c0, c1⟩ := hc
      have hkl2 : (k : Int) < (l.length : Int) := by omega
      have hq := eq_toList (l.getD k bd0).1 nm
      have hs : getN l nm (k + 1) = if (l.getD k bd0).1 = nm then (l.getD k bd0).2 else getN l nm k := rfl
      generalize l.getD k bd0 = x at *
      have HS : Hid (getN l nm (k + 1) = if x.1 = nm then x.2 else getN l nm k) := hs
      clear hs
      by_cases he : x.1 = nm
      · rw [decide_eq_true he] at hq
        have HN : Hid (getN l nm (k + 1) = x.2) := by show _ = _; rw [HS.out, if_pos he]
        go_wp2
        go_roundw
        case rel => exact ⟨k + 1, by omega, by rw [HN.out], by simp, by first | rfl | trivial⟩
        case measure => simp [RowKit.intOf]; omega
      · rw [decide_eq_false he] at hq
        have HN : Hid (getN l nm (k + 1) = getN l nm k) := by show _ = _; rw [HS.out, if_neg he]
        go_wp2
        go_roundw
        case rel => exact ⟨k + 1, by omega, by rw [HN.out], by simp, by first | rfl | trivial⟩
        case measure => simp [RowKit.intOf]; omega
    · obtain rfl : k = l.length := by omega
      have HG : Hid (getN l nm l.length = getB l nm) := rfl
      go_wp2
      go_ret
      exact ⟨by rw [HG.out]; rfl, rfl⟩

end Go.Proofs.YtkgfcamlfnlpoaaDoor
