/-
  PkAdW, PkLtW, PkJnW.
-/
import Derived.Shelf.Unicode.DecodeSlow
import Derived.Laws.RangeAny
import Derived.Shelf.Strings.Builder1
import Derived.Shelf.Small.Utf8
import Derived.Shelf.Small.Bits
import Derived.Shelf.Strings.BuilderF
import Derived.Shelf.Strings.BuilderK
import Derived.Shelf.Strings.BuilderRune
import Derived.Shelf.Utf8.AppendRune
import Derived.Shelf.Strconv.Itoa0
import Derived.Shelf.Strconv.Itoa1
import Derived.Shelf.LaysM
import Derived.Shelf.Strconv.Itoa2
import Derived.Shelf.Strconv.Itoa3
import Derived.Shelf.Strconv.Itoa4
import Derived.Shelf.Strings.Prefix
import Derived.Shelf.Unicode.DecodeAny
import Derived.Test.YtjmccobblpcbhaaDoorProg
import Derived.WalkKit
import Derived.Deep.DeepFit
import Derived.Lib.OthersKept
import Derived.Lib.RuneCountTail
import Derived.Laws.DeepStrings4
import Derived.Deep.AppendLies
import Derived.Deep.OwnRows
import Derived.Laws.AppendOwnNone
import Derived.Deep.QuietTactic
import Derived.BigQuiet
import Derived.Deep.RegionWith
import Derived.Lib.QuietBelow
import Derived.StillTail
import Derived.Below
import Derived.Lib.Small
import Derived.Lib.Strings
import Derived.Lib.MapLaws
import Derived.Deep.RegionHeld3
import Derived.Laws.ResultCell
import Derived.Deep.Heap
import Derived.Laws.Rows
import Derived.Deep.RegionLaw
import Derived.Laws.OwnMore
import Derived.Test.YtjmccobblpcbhaaDoorM01
import Derived.Test.YtjmccobblpcbhaaDoorM02
import Derived.Test.YtjmccobblpcbhaaDoorM03
import Derived.Test.YtjmccobblpcbhaaDoorM04
import Derived.Test.YtjmccobblpcbhaaDoorM05
import Derived.Test.YtjmccobblpcbhaaDoorM06
import Derived.Test.YtjmccobblpcbhaaDoorM07
import Derived.Test.YtjmccobblpcbhaaDoorM08
import Derived.Test.YtjmccobblpcbhaaDoorM09
import Derived.Test.YtjmccobblpcbhaaDoorM13
import Derived.Test.YtjmccobblpcbhaaDoorM15
import Derived.Test.YtjmccobblpcbhaaDoorM16
import Derived.Test.YtjmccobblpcbhaaDoorM17
import Derived.Test.YtjmccobblpcbhaaDoorM18
import Derived.Test.YtjmccobblpcbhaaDoorM19
import Derived.Test.YtjmccobblpcbhaaDoorM20
import Derived.Test.YtjmccobblpcbhaaDoorM21
set_option linter.unusedSimpArgs false
set_option linter.unusedVariables false
namespace Go.Proofs.YtjmccobblpcbhaaDoor
open Go.RowKit Go.Lib Go.Sort

set_option maxHeartbeats 2000000 in
theorem expect_any (w0 w : World) (B : Nat) (s : ByteArray) (pat : Bool) (st : Ps) (v : Value) (c : Int) (hE : PEnv w0 B w) (hM : PsM w B s pat st v) (hs : s.size ≤ 4096) (hto : st.now.err = 0 → st.now.to ≤ s.size) :
    Calls Tryd.prog 93 #[.pointer (some ⟨B, 0, none⟩), .int .i32 c] w fun e w' => ExP w B s pat v (psEx s pat c st) e w' := by
  have hpn : ∀ (x : Value) (w : World), (Instr.panic (.iface 112 x)).run Tryd.prog w = .halt (.panic (.iface 112 x)) w := fun _ _ => rfl
  have c2 : w.cell? ⟨B, 2, none⟩ = some (.int .i32 st.now.what) := hM.cell 2
  have c3 : w.cell? ⟨B, 3, none⟩ = some (.int .i64 (st.now.from_ : Int)) := hM.cell 3
  have c6 : w.cell? ⟨B, 6, none⟩ = some (.int .i64 st.now.err) := hM.cell 6
  unfold psEx
  by_cases hw : st.now.what = c
  · rw [if_pos hw]
    by_cases he : st.now.err = 0
    · rw [if_pos he]
      have hno := psNx_in s pat mx63 st
      have cN := next_any w0 w B s pat st v hE hM hs (hto he)
      have gw : (st.now.what != c) = false := by simp [hw]
      have ge : (st.now.err != 0) = false := by simp [he]
      generalize psNx s pat mx63 st = X at *
      generalize st.now.what = wh at *
      generalize st.now.err = er at *
      clear hw he hM hE hto
      cases X with
      | ok t =>
        have c' : Calls Tryd.prog 91 #[.pointer (some ⟨B, 0, none⟩)] w fun e w' => (e = .returned (.tuple #[]) ∧ PsM w' B s pat t v) ∧ w.grownBy w' (some B) := cN
        clear cN hno
        go_enter Tryd.func93, Tryd.ntmps93
        go_wp2_with (go_at_call 91; refine c'.mono ?_; rintro e w2 ⟨⟨rfl, h2⟩, hb2⟩)
        go_end0
        exact ⟨⟨rfl, h2⟩, hb2⟩
      | bad p er =>
        have c' : Calls Tryd.prog 91 #[.pointer (some ⟨B, 0, none⟩)] w fun e w' => e = .panicked [{ v := fltV p er, recovered := false }] ∧ w.grownBy w' (some B) := cN
        clear cN hno
        go_enter Tryd.func93, Tryd.ntmps93
        go_wp2_with (go_at_call 91; refine c'.mono ?_; rintro e w2 ⟨rfl, hb2⟩)
        exact ⟨rfl, rfl, hb2⟩
      | out => exact absurd rfl hno
    · rw [if_neg he]
      have gw : (st.now.what != c) = false := by simp [hw]
      have ge : (st.now.err != 0) = true := by simp [he]
      generalize st.now.what = wh at *
      generalize st.now.err = er at *
      generalize st.now.from_ = fr at *
      have g3 := cell_regrown c3
      have g6 := cell_regrown c6
      clear hw he hM hE hto
      go_enter Tryd.func93, Tryd.ntmps93
      go_wp2_with fail
      refine wp_region_quiet_then 14 (by kernel_rfl) (by kernel_rfl) ?_
      simp only [List.take_succ_cons, List.take_zero]
      iterate 14 (go_big_quiet_step (fail))
      refine wpQuiet_nil ?_
      intro w' hw'
      obtain ⟨⟨dq, osq⟩, hw''⟩ := hw'
      subst hw''
      simp only [List.drop_succ_cons, List.drop_zero]
      have hb5 : w.grownBy (grow (redrawn w dq) osq) (some B) := gr_of_below (below_regrown w dq osq) _
      go_wp2_with fail
      exact ⟨rfl, rfl, hb5⟩
  · rw [if_neg hw]
    have gw : (st.now.what != c) = true := by simp [hw]
    generalize st.now.what = wh at *
    generalize st.now.from_ = fr at *
    clear hw hM hE hto
    go_enter Tryd.func93, Tryd.ntmps93
    go_wp2_with fail
    exact ⟨rfl, rfl, World.grownBy.refl _ _⟩

/-- What a call that leaves a place and a state does. -/
def AdP (w : World) (B : Nat) (s : ByteArray) (pat : Bool) (x : Pr (Nat × Ps)) (e : Ending) (w' : World) : Prop :=
  Ends x e (fun r => e = .returned (.int .i64 (r.1 : Int)) ∧ ∃ v', PsM w' B s pat r.2 v') ∧ RowKit.Below B w w'

set_option maxRecDepth 20000 in
set_option maxHeartbeats 4000000 in
theorem padd_any (w0 w : World) (B : Nat) (s : ByteArray) (pat : Bool) (st : Ps) (v : Value) (x : Nd) (ka : Option Addr) (kc : Nat) (hM0 : PsM w0 B s pat st v) (hbw : RowKit.Below w0.heap.size w0 w) (hk0 : OwnI w w0.heap.size (.slice ka x.kids.length kc) x.kids) (hlen : st.nodes.length ≤ 100000) :
    Calls Tryd.prog 144 #[.pointer (some ⟨B, 0, none⟩), .agg #[.int .i64 x.op, .int .i64 x.n, .string x.name, .slice ka x.kids.length kc] ] w fun e w' => AdP w B s pat (.ok (psAdd x st)) e w' := by
  obtain ⟨i0, hi, hz0, hz1, hz2⟩ := info_parts Tryd.infoNode
  have hM := hM0.below hbw
  have hk : OwnI w (B + 1) (.slice ka x.kids.length kc) x.kids := ownsRow_mono hk0 hM0.lt
  obtain ⟨p, hp, hO0, hA0⟩ := hM0.own
  have hO := hO0.below hbw
  have HA6 : Hid (KdAp (p ++ [(x, .slice ka x.kids.length kc)])) := by
    show KdAp _
    unfold KdAp
    rw [List.pairwise_append]
    refine ⟨hA0, List.pairwise_singleton _ _, fun a ha b hb g h1 h2 => ?_⟩
    rw [List.mem_singleton.1 hb] at h2
    have := (own_block' (hO0.kids a ha) g h1).2
    have := (own_block' hk0 g h2).1
    omega
  clear hO0 hA0 hk0 hbw hM0
  have hpl : p.length = st.nodes.length := by rw [← hp]; simp
  obtain ⟨va, vc, hv⟩ := row_form' hO.row
  subst hv
  have hBl := hM.lt
  have c7 : w.cell? ⟨B, 7, none⟩ = some (.slice va p.length vc) := hM.cell 7
  have f7 : w.frozen? ⟨B, 7, none⟩ = false := hM.frozen 7
  have HM : Hid (PsM w B s pat st (.slice va p.length vc)) := hM
  have HO : Hid (OwnP w (B + 1) (.slice va p.length vc) p) := hO
  have HK : Hid (OwnI w (B + 1) (.slice ka x.kids.length kc) x.kids) := hk
  have HP : Hid (p.map (·.1) = st.nodes) := hp
  obtain ⟨op, n, nm, ks⟩ := x
  simp only at HK HA6
  obtain ⟨W1, hW1⟩ : ∃ W1, w.alloc (.cells #[.int .i64 op, .int .i64 n, .string nm, .slice ka ks.length kc] 60) = W1 := ⟨_, rfl⟩
  have hb1 : RowKit.Below w.heap.size w W1 := by rw [← hW1]; exact (Below.refl _ _).alloc (Nat.le_refl _) _
  have hz : W1.heap.size = w.heap.size + 1 := by rw [← hW1]; simp
  have e0 : W1.cell? ⟨w.heap.size, 0, none⟩ = some (.int .i64 op) := by rw [← hW1]; simp
  have e1 : W1.cell? ⟨w.heap.size, 1, none⟩ = some (.int .i64 n) := by rw [← hW1]; simp
  have e2 : W1.cell? ⟨w.heap.size, 2, none⟩ = some (.string nm) := by rw [← hW1]; simp
  have e3 : W1.cell? ⟨w.heap.size, 3, none⟩ = some (.slice ka ks.length kc) := by rw [← hW1]; simp
  have c7' : W1.cell? ⟨B, 7, none⟩ = some (.slice va p.length vc) := (hb1.cell (p := ⟨B, 7, none⟩) hBl).trans c7
  have f7' : W1.frozen? ⟨B, 7, none⟩ = false := (HM.out.below hb1).frozen 7
  have HW1 : Hid (w.alloc (.cells #[.int .i64 op, .int .i64 n, .string nm, .slice ka ks.length kc] 60) = W1) := hW1
  have z7 : ∀ o, (W1.alloc o).cell? ⟨B, 7, none⟩ = some (.slice va p.length vc) := fun o => (World.cell?_alloc_past _ _ _ (by show B < W1.heap.size; omega)).trans c7'
  have hrow := (hO.below hb1).row
  have HP6 : Hid (∀ (o : Obj) (w6 : World), (W1.alloc o).drew.grownBy w6 (Value.slice va p.length vc).ownBlock → w6.heap[B]? = W1.heap[B]?) := fun o w6 hg => by
    have h1 := hg.block B (by show B < (W1.alloc o).heap.size; rw [World.size_alloc]; omega) (fun e => by have := (own_block' hrow B e.symm).1; omega)
    exact h1.trans (alloc_old _ _ _ (by omega))
  have HB1 : Hid (RowKit.Below w.heap.size w W1) := hb1
  obtain ⟨PL, hPL⟩ : ∃ PL, p.length = PL := ⟨_, rfl⟩
  rw [hPL] at c7' z7 hrow
  have HPL : Hid (p.length = PL) := hPL
  have hPL2 : PL ≤ 100000 := by omega
  clear hM hO hk hp hW1 hb1 c7 f7
  go_enter Tryd.func144, Tryd.ntmps144
  go_wp2_with fail
  rw [HW1.out]
  go_region_law (refine step_append_lies _ rfl (.tmp 9) (.tmp 11) 22 rfl (B + 1) 60 i0 (.agg #[.int .i64 0, .int .i64 0, .string ⟨#[]⟩, .slice none 0 0]) 4 56 Tryd.underlying22 hi hz0 hz1 hz2 rfl (by decide) _ _ _ (by simp [Act.eval, Act.put]) (hrow.alloc _) ⟨W1.heap.size, 0, none⟩ 1 1 [.int .i64 op, .int .i64 n, .string nm, .slice ka ks.length kc] (by simp [Act.eval, Act.put]) rfl (cell_news4 W1 _ _ _ _ _ _ rfl) (by simp [Value.oneCell']) (by omega) (by unfold maxLen; omega) (by omega) (by simp; omega) _ rfl ?_; intro g6 cap6 w6 hown6 hg6 hat6 hl6; have hnd6 := HP6.out _ w6 (by rw [HPL.out]; exact hg6); have m6 : w6.cell? ⟨B, 7, none⟩ = some (.slice va PL vc) := (World.cell?_of_block (a := ⟨B, 7, none⟩) hnd6).trans c7'; have m6f : w6.frozen? ⟨B, 7, none⟩ = false := (World.frozen?_of_block (a := ⟨B, 7, none⟩) hnd6).trans f7')
  all_goals
    have hbA : RowKit.Below W1.heap.size W1 (W1.alloc (.cells #[.int .i64 op, .int .i64 n, .string nm, .slice ka ks.length kc] 60)).drew := ((Below.refl _ _).alloc (Nat.le_refl _) _).drew
    have hO1 := (HO.out.below HB1.out).below hbA
    have hK1 := (HK.out.below HB1.out).below hbA
    have hg6' := hg6
    rw [← HPL.out] at hown6 hg6'
    have hO6 := OwnP.snoc (x := ⟨op, n, nm, ks⟩) hO1 hK1 hown6 hg6'
    have hbB : w6.heap[B]? = w.heap[B]? := hnd6.trans (HB1.out.block B hBl)
    have hN6 : OwnA w6 (B + 1) (.slice (some ⟨g6, 0, none⟩) (p.length + 1) cap6) (st.nodes ++ [⟨op, n, nm, ks⟩]) := ⟨_, by rw [List.map_append, HP.out]; rfl, hO6, HA6.out⟩
    have hFin := HM.out.nds hbB hN6
    rw [HPL.out] at hFin
    have HFIN : Hid (PsM (w6.setCell ⟨B, 7, none⟩ (.slice (some ⟨g6, 0, none⟩) (PL + 1) cap6)) B s pat { st with nodes := st.nodes ++ [⟨op, n, nm, ks⟩] } (.slice (some ⟨g6, 0, none⟩) (PL + 1) cap6)) := hFin
    have q7 : (w6.setCell ⟨B, 7, none⟩ (.slice (some ⟨g6, 0, none⟩) (PL + 1) cap6)).cell? ⟨B, 7, none⟩ = some (.slice (some ⟨g6, 0, none⟩) (PL + 1) cap6) := hFin.cell 7
    have hB0 : RowKit.Below B w W1 := HB1.out.mono (by omega)
    have hB1 : RowKit.Below B w (W1.alloc (.cells #[.int .i64 op, .int .i64 n, .string nm, .slice ka ks.length kc] 60)).drew := hB0.trans (hbA.mono (by omega))
    have hB2 : RowKit.Below B w w6 := hB1.grown hg6 (by show B ≤ (W1.alloc _).heap.size; rw [World.size_alloc]; omega) (fun j hj => by have := (own_block' hrow j hj).1; omega)
    have HBF : Hid (RowKit.Below B w (w6.setCell ⟨B, 7, none⟩ (.slice (some ⟨g6, 0, none⟩) (PL + 1) cap6))) := hB2.setCell (p := ⟨B, 7, none⟩) (Nat.le_refl B) _
    clear hB0 hB1 hB2
    obtain ⟨w7, hw7⟩ : ∃ w7, w6.setCell ⟨B, 7, none⟩ (.slice (some ⟨g6, 0, none⟩) (PL + 1) cap6) = w7 := ⟨_, rfl⟩
    rw [hw7] at HFIN q7 HBF
    rw [hw7]
    have HLL : Hid ((psAdd ⟨op, n, nm, ks⟩ st).1 = PL) := by show st.nodes.length = PL; rw [← hpl, HPL.out]
    clear hbA hO1 hK1 hg6' hO6 hN6 hFin hw7 hown6 hg6 m6 m6f z7 c7' e0 e1 e2 e3
    go_wp2_with fail
    go_ret
    refine ⟨⟨?_, _, HFIN.out⟩, HBF.out⟩
    rw [HLL.out]
    first | rfl | (congr 2; omega)

set_option maxHeartbeats 1000000 in
theorem pjoin_any (w0 w : World) (B : Nat) (s : ByteArray) (pat : Bool) (st : Ps) (v : Value) (op : Int) (ks : List Nat) (ka : Option Addr) (kc : Nat) (hM : PsM w0 B s pat st v) (hbw : RowKit.Below w0.heap.size w0 w) (hk : OwnI w w0.heap.size (.slice ka ks.length kc) (ks.map Int.ofNat)) (hlen : st.nodes.length ≤ 100000) :
    Calls Tryd.prog 125 #[.pointer (some ⟨B, 0, none⟩), .int .i64 op, .slice ka ks.length kc] w fun e w' => AdP w B s pat (.ok (psJoin op ks st)) e w' := by
  have c := padd_any w0 w B s pat st v ⟨op, 0, ⟨#[]⟩, ks.map Int.ofNat⟩ ka kc hM hbw (by simpa using hk) hlen
  simp only [List.length_map] at c
  obtain ⟨r, hr⟩ : ∃ r, psAdd ⟨op, 0, ⟨#[]⟩, ks.map Int.ofNat⟩ st = r := ⟨_, rfl⟩
  show Calls _ _ _ _ fun e w' => AdP w B s pat (.ok (psAdd ⟨op, 0, ⟨#[]⟩, ks.map Int.ofNat⟩ st)) e w'
  rw [hr] at c ⊢
  have c' : Calls Tryd.prog 144 #[.pointer (some ⟨B, 0, none⟩), .agg #[.int .i64 op, .int .i64 0, .string ⟨#[]⟩, .slice ka ks.length kc] ] w fun e w' => (e = .returned (.int .i64 (r.1 : Int)) ∧ ∃ v', PsM w' B s pat r.2 v') ∧ RowKit.Below B w w' := c
  clear c hM hk hr hbw
  generalize ks.length = kl at *
  go_enter Tryd.func125, Tryd.ntmps125
  go_wp2_with (go_at_call 144; refine c'.mono ?_; rintro e w2 ⟨⟨rfl, h2⟩, hb2⟩)
  go_ret
  exact ⟨⟨rfl, h2⟩, hb2⟩
end Go.Proofs.YtjmccobblpcbhaaDoor

set_option linter.unusedSimpArgs false
set_option linter.unusedVariables false
namespace Go.Proofs.YtjmccobblpcbhaaDoor
open Go.RowKit Go.Lib Go.Sort

theorem psEx_what {s : ByteArray} {pat : Bool} {c : Int} {st st1 : Ps} (h : psEx s pat c st = .ok st1) : st.now.what = c ∧ st.now.err = 0 := by
  unfold psEx at h
  split at h
  · split at h
    · exact ⟨by assumption, by assumption⟩
    · cases h
  · cases h

set_option maxHeartbeats 2000000 in
theorem plit_any (w0 w : World) (B : Nat) (s : ByteArray) (pat : Bool) (st : Ps) (v : Value) (z vv : Int) (hE : PEnv w0 B w) (hM : PsM w B s pat st v) (hs : s.size ≤ 4096) (hto : st.now.err = 0 → st.now.to ≤ s.size) (hlen : st.nodes.length ≤ 100000) (hz : st.now.what = 48 → st.now.err = 0 → IntKind.i64.wrap z = vv) :
    Calls Tryd.prog 156 #[.pointer (some ⟨B, 0, none⟩), .int .u64 z] w fun e w' => AdP w B s pat (psLit s pat vv st) e w' := by
  have c := expect_any w0 w B s pat st v 48 hE hM hs hto
  have hno := psEx_in s pat 48 st
  have hkp := @psEx_keeps s pat 48 st
  have hwh := @psEx_what s pat 48 st
  have hBl := hM.lt
  unfold psLit
  generalize psEx s pat 48 st = X at *
  clear hM hE
  cases X with
  | ok st1 =>
    have c' : Calls Tryd.prog 93 #[.pointer (some ⟨B, 0, none⟩), .int .i32 48] w fun e w' => (e = .returned (.tuple #[]) ∧ PsM w' B s pat st1 v) ∧ w.grownBy w' (some B) := c
    have hn1 := (hkp rfl).1
    have hz := hz (hwh rfl).1 (hwh rfl).2
    have CA : Hid (∀ W, PsM W B s pat st1 v → Calls Tryd.prog 144 #[.pointer (some ⟨B, 0, none⟩), .agg #[.int .i64 1, .int .i64 vv, .string ⟨#[]⟩, .slice none 0 0] ] W fun e w' => (e = .returned (.int .i64 ((psAdd ⟨1, vv, ⟨#[]⟩, []⟩ st1).1 : Int)) ∧ ∃ v', PsM w' B s pat (psAdd ⟨1, vv, ⟨#[]⟩, []⟩ st1).2 v') ∧ RowKit.Below B W w') := fun W hW => padd_any W W B s pat st1 v ⟨1, vv, ⟨#[]⟩, []⟩ none 0 hW (Below.refl _ _) (OwnI_nil _ _) (by rw [hn1]; exact hlen)
    show Calls _ _ _ _ fun e w' => AdP w B s pat (.ok (psAdd ⟨1, vv, ⟨#[]⟩, []⟩ st1)) e w'
    generalize psAdd ⟨1, vv, ⟨#[]⟩, []⟩ st1 = r at *
    clear c hno hkp hn1 hwh
    go_enter Tryd.func156, Tryd.ntmps156
    go_wp2_with (first | (go_at_call 93; refine c'.mono ?_; rintro e w2 ⟨⟨rfl, h2⟩, hb2⟩) | (go_at_call 144; refine (CA.out _ h2).mono ?_; rintro e w3 ⟨⟨rfl, h3⟩, hb3⟩))
    go_ret
    exact ⟨⟨rfl, h3⟩, (below_of_gr hb2 (by omega)).trans hb3⟩
  | bad p er =>
    have c' : Calls Tryd.prog 93 #[.pointer (some ⟨B, 0, none⟩), .int .i32 48] w fun e w' => e = .panicked [{ v := fltV p er, recovered := false }] ∧ w.grownBy w' (some B) := c
    clear c hno hkp hwh hz
    go_enter Tryd.func156, Tryd.ntmps156
    go_wp2_with (go_at_call 93; refine c'.mono ?_; rintro e w2 ⟨rfl, hb2⟩)
    exact ⟨rfl, rfl, below_of_gr hb2 (by omega)⟩
  | out => exact absurd rfl hno

set_option maxRecDepth 20000 in
set_option maxHeartbeats 2000000 in
theorem pnamed_any (w0 w : World) (B : Nat) (s : ByteArray) (pat : Bool) (st : Ps) (v : Value) (op : Int) (hE : PEnv w0 B w) (hM : PsM w B s pat st v) (hs : s.size ≤ 4096) (hto : st.now.err = 0 → st.now.to ≤ s.size) (hnm : st.now.what = 97 → st.now.from_ < st.now.to ∧ st.now.to ≤ s.size) (hlen : st.nodes.length ≤ 100000) :
    Calls Tryd.prog 171 #[.pointer (some ⟨B, 0, none⟩), .int .i64 op] w fun e w' => AdP w B s pat (psNamed s pat op st) e w' := by
  have hBl := hM.lt
  have c2 : w.cell? ⟨B, 2, none⟩ = some (.int .i32 st.now.what) := hM.cell 2
  have c3 : w.cell? ⟨B, 3, none⟩ = some (.int .i64 (st.now.from_ : Int)) := hM.cell 3
  have c4 : w.cell? ⟨B, 4, none⟩ = some (.int .i64 (st.now.to : Int)) := hM.cell 4
  have c5 : w.cell? ⟨B, 5, none⟩ = some (.int .u64 (st.now.n : Int)) := hM.cell 5
  have c6 : w.cell? ⟨B, 6, none⟩ = some (.int .i64 st.now.err) := hM.cell 6
  obtain ⟨W1, hW1⟩ : ∃ W1, w.alloc (.cells #[.int .i32 st.now.what, .int .i64 (st.now.from_ : Int), .int .i64 (st.now.to : Int), .int .u64 (st.now.n : Int), .int .i64 st.now.err] 116) = W1 := ⟨_, rfl⟩
  have hb1 : RowKit.Below w.heap.size w W1 := by rw [← hW1]; exact (Below.refl _ _).alloc (Nat.le_refl _) _
  have F1 : Tk5 W1 w.heap.size (.int .i32 st.now.what) (.int .i64 (st.now.from_ : Int)) (.int .i64 (st.now.to : Int)) (.int .u64 (st.now.n : Int)) (.int .i64 st.now.err) := ⟨by rw [← hW1, Deep.blk_alloc_new]⟩
  have hM1 := hM.below hb1
  have hB1 : RowKit.Below B w W1 := hb1.mono (by omega)
  have c := expect_any w0 W1 B s pat st v 97 (hE.next hB1) hM1 hs hto
  have hno := psEx_in s pat 97 st
  have hkp := @psEx_keeps s pat 97 st
  have hzz : W1.heap.size = w.heap.size + 1 := by rw [← hW1]; simp
  have HW1 : Hid (w.alloc (.cells #[.int .i32 st.now.what, .int .i64 (st.now.from_ : Int), .int .i64 (st.now.to : Int), .int .u64 (st.now.n : Int), .int .i64 st.now.err] 116) = W1) := hW1
  have HB1 : Hid (RowKit.Below B w W1) := hB1
  have hwh : ∀ st1, psEx s pat 97 st = .ok st1 → st.now.what = 97 := by
    intro st1 h
    unfold psEx at h
    split at h
    · assumption
    · cases h
  unfold psNamed
  clear hM hE hM1 hb1 hB1 hW1
  cases X : psEx s pat 97 st with
  | ok st1 =>
    rw [X] at c
    have hn1 := (hkp X).1
    obtain ⟨hft, hts⟩ := hnm (hwh st1 X)
    clear hno hkp hwh X hnm hto
    generalize st.now.what = wh at *
    generalize st.now.from_ = fr at *
    generalize st.now.to = to at *
    generalize st.now.n = tn at *
    generalize st.now.err = er at *
    have c' : Calls Tryd.prog 93 #[.pointer (some ⟨B, 0, none⟩), .int .i32 97] W1 fun e w' => (e = .returned (.tuple #[]) ∧ PsM w' B s pat st1 v) ∧ W1.grownBy w' (some B) := c
    obtain ⟨nm, hnm⟩ : ∃ nm, s.extract fr to = nm := ⟨_, rfl⟩
    have CA : Hid (∀ W, PsM W B s pat st1 v → Calls Tryd.prog 144 #[.pointer (some ⟨B, 0, none⟩), .agg #[.int .i64 op, .int .i64 0, .string nm, .slice none 0 0] ] W fun e w' => (e = .returned (.int .i64 ((psAdd ⟨op, 0, nm, []⟩ st1).1 : Int)) ∧ ∃ v', PsM w' B s pat (psAdd ⟨op, 0, nm, []⟩ st1).2 v') ∧ RowKit.Below B W w') := fun W hW => padd_any W W B s pat st1 v ⟨op, 0, nm, []⟩ none 0 hW (Below.refl _ _) (OwnI_nil _ _) (by rw [hn1]; exact hlen)
    show Calls _ _ _ _ fun e w' => AdP w B s pat (.ok (psAdd ⟨op, 0, s.extract fr to, []⟩ st1)) e w'
    rw [hnm]
    generalize psAdd ⟨op, 0, nm, []⟩ st1 = r at *
    have HNM : Hid (s.extract fr to = nm) := hnm
    clear c hn1 hnm
    go_enter Tryd.func171, Tryd.ntmps171
    go_wp2_with fail
    rw [HW1.out]
    refine c'.mono ?_
    rintro e w2 ⟨⟨rfl, h2⟩, hb2⟩
    have hs2 := hb2.size
    have F2 : Tk5 w2 w.heap.size (.int .i32 wh) (.int .i64 (fr : Int)) (.int .i64 (to : Int)) (.int .u64 (tn : Int)) (.int .i64 er) := ⟨(hb2.block _ (by omega) (by intro e; cases e; omega)).trans F1.blk⟩
    obtain ⟨_, p1, p2, _, _⟩ := F2.cells
    have g0 := cell_regrown h2.tx.text
    have g1 := cell_regrown p1
    have g2 := cell_regrown p2
    have H2 : Hid (PsM w2 B s pat st1 v) := h2
    have HBB : Hid (RowKit.Below B w w2) := HB1.out.trans (below_of_gr hb2 (by omega))
    have hB2 := h2.lt
    clear F1 F2 hb2 h2 p1 p2
    go_wp2_with fail
    refine wp_region_quiet_then 13 (by kernel_rfl) (by kernel_rfl) ?_
    simp only [List.take_succ_cons, List.take_zero]
    iterate 13 (go_big_quiet_step (fail))
    refine wpQuiet_nil ?_
    intro w' hw'
    obtain ⟨⟨dq, osq⟩, hw''⟩ := hw'
    subst hw''
    simp only [List.drop_succ_cons, List.drop_zero]
    rw [HNM.out]
    obtain ⟨w5, hw5⟩ : ∃ w5, grow (redrawn w2 dq) osq = w5 := ⟨_, rfl⟩
    rw [hw5]
    have hb5 : RowKit.Below w2.heap.size w2 w5 := by rw [← hw5]; exact below_regrown w2 dq osq
    have h5 := H2.out.below hb5
    have HB5 : Hid (RowKit.Below B w w5) := HBB.out.trans (hb5.mono (by omega))
    clear hw5 g0 g1 g2 hb5
    go_wp2_with (go_at_call 144; refine (CA.out _ h5).mono ?_; rintro e w6 ⟨⟨rfl, h6⟩, hb6⟩)
    go_ret
    exact ⟨⟨rfl, h6⟩, HB5.out.trans hb6⟩
  | bad p er =>
    rw [X] at c
    have c' : Calls Tryd.prog 93 #[.pointer (some ⟨B, 0, none⟩), .int .i32 97] W1 fun e w' => e = .panicked [{ v := fltV p er, recovered := false }] ∧ W1.grownBy w' (some B) := c
    generalize st.now.what = wh at *
    generalize st.now.from_ = fr at *
    generalize st.now.to = to at *
    generalize st.now.n = tn at *
    generalize st.now.err = er at *
    clear c hno hkp hwh X hnm hto
    go_enter Tryd.func171, Tryd.ntmps171
    go_wp2_with fail
    rw [HW1.out]
    refine c'.mono ?_
    rintro e w2 ⟨rfl, hb2⟩
    exact ⟨rfl, rfl, HB1.out.trans (below_of_gr hb2 (by omega))⟩
  | out => exact absurd X hno
end Go.Proofs.YtjmccobblpcbhaaDoor

set_option linter.unusedSimpArgs false
set_option linter.unusedVariables false
namespace Go.Proofs.YtjmccobblpcbhaaDoor
open Go.RowKit Go.Lib Go.Sort

theorem own_new {W : World} {B : Nat} (hB : B ≤ W.heap.size) (ks : List Nat) (hk : ks.length ≤ 3) : OwnI (W.alloc (.cells (ks.map fun (k : Nat) => Value.int .i64 (k : Int)).toArray 3)) B (.slice (some ⟨W.heap.size, 0, none⟩) ks.length ks.length) (ks.map Int.ofNat) := by
  unfold OwnI
  have h := World.ownsRow_lit (base := B) (e := 3) (size := 1) W (ks.map fun (k : Nat) => Value.int .i64 (k : Int)).toArray ks.length (by omega) (by unfold maxLen; omega) (by simp)
  have e : ((ks.map Int.ofNat).map (Value.int .i64)) = (ks.map fun (k : Nat) => Value.int .i64 (k : Int)).toArray.toList := by simp
  rw [e, List.length_map]
  exact h
theorem join_new {W : World} {B : Nat} {s : ByteArray} {pat : Bool} {st : Ps} {v : Value} (op : Int) (ks : List Nat) (hk : ks.length ≤ 3) (hM : PsM W B s pat st v) (hlen : st.nodes.length ≤ 100000) :
    Calls Tryd.prog 125 #[.pointer (some ⟨B, 0, none⟩), .int .i64 op, .slice (some ⟨W.heap.size, 0, none⟩) ks.length ks.length] (W.alloc (.cells (ks.map fun (k : Nat) => Value.int .i64 (k : Int)).toArray 3)) fun e w' => (e = .returned (.int .i64 ((psJoin op ks st).1 : Int)) ∧ ∃ v', PsM w' B s pat (psJoin op ks st).2 v') ∧ RowKit.Below B W w' := by
  have hB := hM.lt
  have hb : RowKit.Below W.heap.size W (W.alloc (.cells (ks.map fun (k : Nat) => Value.int .i64 (k : Int)).toArray 3)) := (Below.refl _ _).alloc (Nat.le_refl _) _
  refine (pjoin_any W _ B s pat st v op ks (some ⟨W.heap.size, 0, none⟩) ks.length hM hb (own_new (Nat.le_refl _) ks hk) hlen).mono ?_
  rintro e w' ⟨h1, h2⟩
  exact ⟨h1, (hb.mono (by omega)).trans h2⟩

/-- What is known where a rule begins. -/
structure RB (w0 w : World) (B : Nat) (s : ByteArray) (pat : Bool) (st : Ps) (v : Value) : Prop where
  env : PEnv w0 B w
  mem : PsM w B s pat st v
  ok : StN s st
theorem RB.next {w0 w w' : World} {B : Nat} {s : ByteArray} {pat : Bool} {st st' : Ps} {v v' : Value} (h : RB w0 w B s pat st v) (hb : RowKit.Below B w w') (hm : PsM w' B s pat st' v') (ho : StN s st') : RB w0 w' B s pat st' v' := ⟨h.env.next hb, hm, ho⟩
theorem RB.to {w0 w : World} {B : Nat} {s : ByteArray} {pat : Bool} {st : Ps} {v : Value} (h : RB w0 w B s pat st v) (he : st.now.err = 0) : st.now.to ≤ s.size := (h.ok.st.tk.good he).2.1
theorem RB.len {w0 w : World} {B : Nat} {s : ByteArray} {pat : Bool} {st : Ps} {v : Value} (h : RB w0 w B s pat st v) (hs : s.size ≤ 4096) : st.nodes.length ≤ 100000 := by
  have := h.ok.st.few
  have := h.ok.st.tk.in_
  omega
def AdOk (w : World) (B : Nat) (s : ByteArray) (pat : Bool) (r : Nat × Ps) (e : Ending) (w' : World) : Prop := (e = .returned (.int .i64 (r.1 : Int)) ∧ ∃ v', PsM w' B s pat r.2 v') ∧ RowKit.Below B w w'
def AdBad (w : World) (B p : Nat) (er : Int) (e : Ending) (w' : World) : Prop := e = .panicked [{ v := fltV p er, recovered := false }] ∧ RowKit.Below B w w'
/-- What a rule's method does with fuel f. -/
structure RunC (s : ByteArray) (pat : Bool) (f : Nat) : Prop where
  cond : ∀ w0 w B st v, RB w0 w B s pat st v → psRun s pat f .cond st ≠ .out → Calls Tryd.prog 92 #[.pointer (some ⟨B, 0, none⟩)] w fun e w' => AdP w B s pat (psRun s pat f .cond st) e w'
  pair : ∀ w0 w B st v (lv : Nat), 0 < lv → lv ≤ 9 → RB w0 w B s pat st v → psRun s pat f (.pair lv) st ≠ .out → Calls Tryd.prog 124 #[.pointer (some ⟨B, 0, none⟩), .int .i64 lv] w fun e w' => AdP w B s pat (psRun s pat f (.pair lv) st) e w'
  un : ∀ w0 w B st v, RB w0 w B s pat st v → psRun s pat f .un st ≠ .out → Calls Tryd.prog 142 #[.pointer (some ⟨B, 0, none⟩)] w fun e w' => AdP w B s pat (psRun s pat f .un st) e w'
  atom : ∀ w0 w B st v, RB w0 w B s pat st v → psRun s pat f .atom st ≠ .out → Calls Tryd.prog 157 #[.pointer (some ⟨B, 0, none⟩)] w fun e w' => AdP w B s pat (psRun s pat f .atom st) e w'
end Go.Proofs.YtjmccobblpcbhaaDoor
