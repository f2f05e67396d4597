/-
  ExOrdW.
-/
import Derived.Shelf.Unicode.DecodeSlow
import Derived.Laws.RangeAny
import Derived.Shelf.Strconv.Itoa0
import Derived.Shelf.Unicode.DecodeAny
import Derived.Test.YtfdghbbanokopaaDoorProg
import Derived.WalkKit
import Derived.Deep.DeepFit
import Derived.Lib.OthersKept
import Derived.Lib.RuneCountTail
import Derived.Deep.AppendLies
import Derived.Deep.OwnRows
import Derived.Laws.AppendOwnNone
import Derived.Deep.QuietTactic
import Derived.BigQuiet
import Derived.Deep.RegionWith
import Derived.Laws.DeepStrings4
import Derived.Lib.QuietBelow
import Derived.StillTail
import Derived.Lib.MapLaws
import Derived.Sort.Walk0
import Derived.Deep.RegionHeld3
import Derived.Deep.DeepCutAuto
import Derived.Test.YtfdghbbanokopaaDoorG01
import Derived.Test.YtfdghbbanokopaaDoorG02
import Derived.Test.YtfdghbbanokopaaDoorG03
import Derived.Test.YtfdghbbanokopaaDoorG04
import Derived.Test.YtfdghbbanokopaaDoorG05
import Derived.Test.YtfdghbbanokopaaDoorG06
import Derived.Test.YtfdghbbanokopaaDoorG10
import Derived.Test.YtfdghbbanokopaaDoorG17
import Derived.Test.YtfdghbbanokopaaDoorG18
import Derived.Test.YtfdghbbanokopaaDoorG24
import Derived.Test.YtfdghbbanokopaaDoorG25
set_option linter.unusedSimpArgs false
set_option linter.unusedVariables false
namespace Go.Proofs.YtfdghbbanokopaaDoor
open Go.RowKit Go.Lib Go.Sort

set_option maxHeartbeats 400000 in
theorem node_ex (b o n cap i : Nat) (va : Option Addr) (vn vc : Nat) (op nn : Int) (nm : ByteArray) (ka : Option Addr) (kl kc : Nat) (w : World) (hi : i < n) (hn : n ≤ 64)
    (c0 : w.cell? ⟨b, o + i * 4, none⟩ = some (.int .i64 op)) (c1 : w.cell? ⟨b, o + i * 4 + 1, none⟩ = some (.int .i64 nn)) (c2 : w.cell? ⟨b, o + i * 4 + 2, none⟩ = some (.string nm)) (c3 : w.cell? ⟨b, o + i * 4 + 3, none⟩ = some (.slice ka kl kc)) :
    Calls Tryd.prog 127 #[.agg #[.slice (some ⟨b, o, none⟩) n cap, .slice va vn vc, .int .i64 i]] w fun e w' => e = .returned (.agg #[.int .i64 op, .int .i64 nn, .string nm, .slice ka kl kc]) ∧ w' = (w.alloc (.cells #[.slice (some ⟨b, o, none⟩) n cap, .slice va vn vc, .int .i64 i] 151)).alloc (.cells #[.int .i64 op, .int .i64 nn, .string nm, .slice ka kl kc] 50) := by
  have hgl := World.block_lt_of_cell? w _ c0
  simp only at hgl
  have hg2 : b ≠ w.heap.size := by omega
  have hg3 : b ≠ w.heap.size + 1 := by omega
  go_enter Tryd.func127, Tryd.ntmps127
  go_wp2
  exact bodyPost_ret (v := .agg #[.int .i64 op, .int .i64 nn, .string nm, .slice ka kl kc]) (by simp [results, Tryd.results127, go_sem]) rfl ⟨rfl, rfl⟩

/-- A sound list and its beginnings in memory. -/
structure CurOk (W : World) (b o cap g : Nat) (l : List Nd) (fr : List Nat) : Prop where
  nodes : ∀ q, q < l.length → ∃ kv, NodeAt W W.heap.size b (o + q * 4) (l.getD q nd0) kv
  lt : b < W.heap.size
  cells : FrAt W g l.length fr
  glt : g < W.heap.size
  ok : BegOk l fr
  len : l.length ≤ 64

theorem CurOk.below {W W' : World} {b o cap g : Nat} {l : List Nd} {fr : List Nat} (h : CurOk W b o cap g l fr) (hb : Below W.heap.size W W') : CurOk W' b o cap g l fr :=
  ⟨fun q hq => let ⟨kv, hk⟩ := h.nodes q hq; ⟨kv, hk.below hb hb.size h.lt⟩, Nat.lt_of_lt_of_le h.lt hb.size, fun j hj => (hb.cell (p := ⟨g, j, none⟩) h.glt).trans (h.cells j hj), Nat.lt_of_lt_of_le h.glt hb.size, h.ok, h.len⟩

theorem bel1 {w1 V : World} {o : Obj} (h : Below w1.heap.size w1 V) : Below w1.heap.size w1 (V.alloc o) := h.alloc h.size o
theorem bel5 {w1 V : World} {a : Addr} {v : Value} (ha : w1.heap.size ≤ a.block) (h : Below w1.heap.size w1 V) : Below w1.heap.size w1 (V.setCell a v) := h.setCell ha v
theorem bel4 {w1 V : World} (h : Below w1.heap.size w1 V) : Below w1.heap.size w1 V.drew := h.drew

def curV (b o n cap g : Nat) (i : Int) : Value := .agg #[.slice (some ⟨b, o, none⟩) n cap, .slice (some ⟨g, 0, none⟩) n n, .int .i64 i]

/-- Behind the first statement: the cursors in theirs, the two nodes in boxes of their own. -/
structure OrdMid (W : World) (ab ao an ac ag : Nat) (i : Int) (bb bo bn bc bg : Nat) (j : Int) (opa na : Int) (nma : ByteArray) (kva : Value) (opb nb : Int) (nmb : ByteArray) (kvb : Value) (bx by_ : Nat) (wc : World) : Prop where
  below : Below W.heap.size W wc
  lx : W.heap.size ≤ bx
  ly : W.heap.size ≤ by_
  a0 : wc.cell? ⟨W.heap.size, 0, none⟩ = some (.slice (some ⟨ab, ao, none⟩) an ac)
  a1 : wc.cell? ⟨W.heap.size, 1, none⟩ = some (.slice (some ⟨ag, 0, none⟩) an an)
  a2 : wc.cell? ⟨W.heap.size, 2, none⟩ = some (.int .i64 i)
  b0 : wc.cell? ⟨W.heap.size + 1, 0, none⟩ = some (.slice (some ⟨bb, bo, none⟩) bn bc)
  b1 : wc.cell? ⟨W.heap.size + 1, 1, none⟩ = some (.slice (some ⟨bg, 0, none⟩) bn bn)
  b2 : wc.cell? ⟨W.heap.size + 1, 2, none⟩ = some (.int .i64 j)
  x0 : wc.cell? ⟨bx, 0, none⟩ = some (.int .i64 opa)
  x1 : wc.cell? ⟨bx, 1, none⟩ = some (.int .i64 na)
  x2 : wc.cell? ⟨bx, 2, none⟩ = some (.string nma)
  x3 : wc.cell? ⟨bx, 3, none⟩ = some kva
  y0 : wc.cell? ⟨by_, 0, none⟩ = some (.int .i64 opb)
  y1 : wc.cell? ⟨by_, 1, none⟩ = some (.int .i64 nb)
  y2 : wc.cell? ⟨by_, 2, none⟩ = some (.string nmb)
  y3 : wc.cell? ⟨by_, 3, none⟩ = some kvb

theorem Calls.regrown_same {P : Program} {f : FuncId} {args : Array Value} {w : World} {d : Nat} {os : Array Obj} {v : Value}
    (h : Calls P f args (grow (redrawn w d) os) fun e w' => e = .returned v ∧ w' = grow (redrawn w d) os) : Calls P f args (grow (redrawn w d) os) fun e w'' => e = .returned v ∧ ∃ p : Regrown, w'' = grow (redrawn w p.d) p.os :=
  h.mono fun _ _ ⟨he, hw⟩ => ⟨he, ⟨d, os⟩, hw⟩

set_option maxRecDepth 20000 in
set_option maxHeartbeats 16000000 in
theorem order_cur (a : List Nd) (fa : List Nat) (b : List Nd) (fb : List Nat) (ab ao ac ag bb bo bc bg : Nat) : ∀ (f i j : Nat) (W : World), Tabs W → CurOk W ab ao ac ag a fa → CurOk W bb bo bc bg b fb → i < f → i < a.length → j < b.length →
    Calls Tryd.prog 107 #[curV ab ao a.length ac ag i, curV bb bo b.length bc bg j] W fun e w' => e = .returned (.int .i64 (ordF a fa b fb f i j)) ∧ Below W.heap.size W w' := by
  intro f
  induction f with
  | zero => intro i j W _ _ _ h; omega
  | succ f IH =>
    intro i j W T CA CB hif hi hj
    have HIH : Hid (∀ (i j : Nat) (W : World), Tabs W → CurOk W ab ao ac ag a fa → CurOk W bb bo bc bg b fb → i < f → i < a.length → j < b.length →
      Calls Tryd.prog 107 #[curV ab ao a.length ac ag i, curV bb bo b.length bc bg j] W fun e w' => e = .returned (.int .i64 (ordF a fa b fb f i j)) ∧ Below W.heap.size W w') := IH
    clear IH
    have HR : Hid (ordF a fa b fb (f + 1) i j = ordK (fun p q => ordF a fa b fb f p.toNat q.toNat) (headC (szA fa i) (szA fb j) (a.getD i nd0) (b.getD j nd0)) (a.getD i nd0).kids (b.getD j nd0).kids) := rfl
    generalize ordF a fa b fb (f + 1) i j = R at *
    have ha64 := CA.len
    have hb64 := CB.len
    obtain ⟨kva, hna⟩ := CA.nodes i hi
    obtain ⟨kvb, hnb⟩ := CB.nodes j hj
    have hforma := (CA.ok.at_ i hi).1
    have hformb := (CB.ok.at_ j hj).1
    have hkidsa := ok_kids CA.ok i hi
    have hla := CA.ok.low i
    have hlb := CB.ok.low j
    have hsza := CA.cells i hi
    have hszb := CB.cells j hj
    have hkla := formB_kids hforma
    have hklb := formB_kids hformb
    generalize hxa : a.getD i nd0 = xa at *
    generalize hxb : b.getD j nd0 = xb at *
    obtain ⟨opa, na, nma, ksa⟩ := xa
    obtain ⟨opb, nb, nmb, ksb⟩ := xb
    obtain ⟨c0, c1, c2, c3, hia⟩ := hna
    obtain ⟨d0, d1, d2, d3, hib⟩ := hnb
    simp only at c0 c1 c2 c3 d0 d1 d2 d3 hia hib hkla hklb hkidsa
    obtain ⟨kaa, kca, hkv, hia'⟩ := id hia
    subst hkv
    obtain ⟨kab, kcb, hkv, hib'⟩ := id hib
    subst hkv
    have cNa : Hid (∀ V, Below W.heap.size W V → Calls Tryd.prog 127 #[.agg #[.slice (some ⟨ab, ao, none⟩) a.length ac, .slice (some ⟨ag, 0, none⟩) a.length a.length, .int .i64 i]] V fun e w' => e = .returned (.agg #[.int .i64 opa, .int .i64 na, .string nma, .slice kaa ksa.length kca]) ∧ w' = (V.alloc (.cells #[.slice (some ⟨ab, ao, none⟩) a.length ac, .slice (some ⟨ag, 0, none⟩) a.length a.length, .int .i64 i] 151)).alloc (.cells #[.int .i64 opa, .int .i64 na, .string nma, .slice kaa ksa.length kca] 50)) := fun V hV =>
      node_ex ab ao _ ac i _ _ _ opa na nma _ _ kca V hi ha64 ((hV.cell (p := ⟨ab, ao + i * 4, none⟩) CA.lt).trans c0) ((hV.cell (p := ⟨ab, ao + i * 4 + 1, none⟩) CA.lt).trans c1) ((hV.cell (p := ⟨ab, ao + i * 4 + 2, none⟩) CA.lt).trans c2) ((hV.cell (p := ⟨ab, ao + i * 4 + 3, none⟩) CA.lt).trans c3)
    have cNb : Hid (∀ V, Below W.heap.size W V → Calls Tryd.prog 127 #[.agg #[.slice (some ⟨bb, bo, none⟩) b.length bc, .slice (some ⟨bg, 0, none⟩) b.length b.length, .int .i64 j]] V fun e w' => e = .returned (.agg #[.int .i64 opb, .int .i64 nb, .string nmb, .slice kab ksb.length kcb]) ∧ w' = (V.alloc (.cells #[.slice (some ⟨bb, bo, none⟩) b.length bc, .slice (some ⟨bg, 0, none⟩) b.length b.length, .int .i64 j] 151)).alloc (.cells #[.int .i64 opb, .int .i64 nb, .string nmb, .slice kab ksb.length kcb] 50)) := fun V hV =>
      node_ex bb bo _ bc j _ _ _ opb nb nmb _ _ kcb V hj hb64 ((hV.cell (p := ⟨bb, bo + j * 4, none⟩) CB.lt).trans d0) ((hV.cell (p := ⟨bb, bo + j * 4 + 1, none⟩) CB.lt).trans d1) ((hV.cell (p := ⟨bb, bo + j * 4 + 2, none⟩) CB.lt).trans d2) ((hV.cell (p := ⟨bb, bo + j * 4 + 3, none⟩) CB.lt).trans d3)
    have HCA : Hid (CurOk W ab ao ac ag a fa) := CA
    have HCB : Hid (CurOk W bb bo bc bg b fb) := CB
    have HT : Hid (Tabs W) := T
    have HFL : Hid (opa = opb → ksa.length = ksb.length) := fun h => form_len hforma hformb h
    have HKA : Hid (∀ k ∈ ksa, k.toNat < i ∧ k.toNat < a.length ∧ 0 ≤ k) := fun k hk => by
      have h1 := kid_lt CA.ok hi (k := k) (by rw [hxa]; exact hk)
      exact ⟨h1.1, h1.2, hkidsa k hk⟩
    have HKB : Hid (∀ k ∈ ksb, k.toNat < j ∧ k.toNat < b.length ∧ 0 ≤ k) := fun k hk => by
      have h1 := kid_lt CB.ok hj (k := k) (by rw [hxb]; exact hk)
      exact ⟨h1.1, h1.2, ok_kids CB.ok j hj k (by rw [hxb]; exact hk)⟩
    have HNA : Hid (NodeAt W W.heap.size ab (ao + i * 4) ⟨opa, na, nma, ksa⟩ (.slice kaa ksa.length kca)) := ⟨c0, c1, c2, c3, hia⟩
    have HNB : Hid (NodeAt W W.heap.size bb (bo + j * 4) ⟨opb, nb, nmb, ksb⟩ (.slice kab ksb.length kcb)) := ⟨d0, d1, d2, d3, hib⟩
    have HSA : Hid (W.cell? ⟨ag, i, none⟩ = some (.int .i64 (fa.getD i 0 : Nat))) := hsza
    have HSB : Hid (W.cell? ⟨bg, j, none⟩ = some (.int .i64 (fb.getD j 0 : Nat))) := hszb
    clear hia' hib' CA CB T c0 c1 c2 c3 d0 d1 d2 d3 hxa hxb hforma hformb hkidsa hia hib hsza hszb
    have HS : Hid (∀ V, Below ((W.alloc (.cells #[.slice (some ⟨ab, ao, none⟩) a.length ac, .slice (some ⟨ag, 0, none⟩) a.length a.length, .int .i64 i] 151)).alloc (.cells #[.slice (some ⟨bb, bo, none⟩) b.length bc, .slice (some ⟨bg, 0, none⟩) b.length b.length, .int .i64 j] 151)).heap.size ((W.alloc (.cells #[.slice (some ⟨ab, ao, none⟩) a.length ac, .slice (some ⟨ag, 0, none⟩) a.length a.length, .int .i64 i] 151)).alloc (.cells #[.slice (some ⟨bb, bo, none⟩) b.length bc, .slice (some ⟨bg, 0, none⟩) b.length b.length, .int .i64 j] 151)) V → (V.cell? ⟨W.heap.size, 0, none⟩ = some (.slice (some ⟨ab, ao, none⟩) a.length ac) ∧ V.cell? ⟨W.heap.size, 1, none⟩ = some (.slice (some ⟨ag, 0, none⟩) a.length a.length) ∧ V.cell? ⟨W.heap.size, 2, none⟩ = some (.int .i64 i)) ∧ V.cell? ⟨W.heap.size + 1, 0, none⟩ = some (.slice (some ⟨bb, bo, none⟩) b.length bc) ∧ V.cell? ⟨W.heap.size + 1, 1, none⟩ = some (.slice (some ⟨bg, 0, none⟩) b.length b.length) ∧ V.cell? ⟨W.heap.size + 1, 2, none⟩ = some (.int .i64 j)) := fun V hV => by
      have e : ∀ q, V.cell? ⟨W.heap.size, q, none⟩ = _ := fun q => hV.cell (p := ⟨W.heap.size, q, none⟩) (by simp <;> omega)
      have e2 : ∀ q, V.cell? ⟨W.heap.size + 1, q, none⟩ = _ := fun q => hV.cell (p := ⟨W.heap.size + 1, q, none⟩) (by simp <;> omega)
      rw [e, e, e, e2, e2, e2]
      have h1 : W.heap.size < W.heap.size + 1 := by omega
      simp
    unfold curV
    go_enter Tryd.func107, Tryd.ntmps107
    go_upto_region 1 with fail
    go_cut [5, 6] (fun t5 t6 wc => ∃ bx by_ : Nat, t5 = .pointer (some ⟨bx, 0, none⟩) ∧ t6 = .pointer (some ⟨by_, 0, none⟩) ∧ OrdMid W ab ao a.length ac ag i bb bo b.length bc bg j opa na nma (.slice kaa ksa.length kca) opb nb nmb (.slice kab ksb.length kcb) bx by_ wc)
    case first =>
      go_region_held3 (fun V => (V.cell? ⟨W.heap.size, 0, none⟩ = some (.slice (some ⟨ab, ao, none⟩) a.length ac) ∧ V.cell? ⟨W.heap.size, 1, none⟩ = some (.slice (some ⟨ag, 0, none⟩) a.length a.length) ∧ V.cell? ⟨W.heap.size, 2, none⟩ = some (.int .i64 i)) ∧ V.cell? ⟨W.heap.size + 1, 0, none⟩ = some (.slice (some ⟨bb, bo, none⟩) b.length bc) ∧ V.cell? ⟨W.heap.size + 1, 1, none⟩ = some (.slice (some ⟨bg, 0, none⟩) b.length b.length) ∧ V.cell? ⟨W.heap.size + 1, 2, none⟩ = some (.int .i64 j)) (first | (exact HS.out _ (by repeat (first | exact Below.refl _ _ | refine bel1 ?_ | refine bel4 ?_ | refine bel5 (by simp <;> omega) ?_))) | (go_keep; done)) (first | (go_at_call_of 127 (Value.agg #[Value.slice (some ⟨ab, ao, none⟩) a.length ac, Value.slice (some ⟨ag, 0, none⟩) a.length a.length, Value.int .i64 i]); refine (cNa.out _ (by repeat (first | exact Below.refl _ _ | refine bel1 ?_ | refine bel4 ?_ | refine bel5 (by simp <;> omega) ?_))).mono ?_; rintro e w3 ⟨rfl, rfl⟩) | (go_at_call_of 127 (Value.agg #[Value.slice (some ⟨bb, bo, none⟩) b.length bc, Value.slice (some ⟨bg, 0, none⟩) b.length b.length, Value.int .i64 j]); refine (cNb.out _ (by repeat (first | exact Below.refl _ _ | refine bel1 ?_ | refine bel4 ?_ | refine bel5 (by simp <;> omega) ?_))).mono ?_; rintro e w4 ⟨rfl, rfl⟩) | fail)
      all_goals (go_wp2_with fail; go_meet)
      all_goals (refine ⟨_, _, rfl, rfl, ?_⟩)
      all_goals (refine ⟨?_, ?_, ?_, (HS.out _ ?_).1.1, (HS.out _ ?_).1.2.1, (HS.out _ ?_).1.2.2, (HS.out _ ?_).2.1, (HS.out _ ?_).2.2.1, (HS.out _ ?_).2.2.2, ?_, ?_, ?_, ?_, ?_, ?_, ?_, ?_⟩)
      all_goals first
        | ((repeat (first | exact Below.refl _ _ | refine bel1 ?_ | refine bel4 ?_ | refine bel5 (by simp <;> omega) ?_)); done)
        | omega
        | (simp; omega)
        | (simp (disch := (first | (simp; done) | (simp; omega))) [World.cell?_alloc_past, World.cell?_alloc_at]; done)
    case rest =>
      obtain ⟨bx, by_, rfl, rfl, M⟩ := hcut
      clear cNa cNb HS
      obtain ⟨mbel, mlx, mly, ma0, ma1, ma2, mb0, mb1, mb2, mx0, mx1, mx2, mx3, my0, my1, my2, my3⟩ := M
      have hT : Tabs wc := HT.out.below mbel
      have cSa : Hid (∀ d os, Calls Tryd.prog 130 #[.agg #[.slice (some ⟨ab, ao, none⟩) a.length ac, .slice (some ⟨ag, 0, none⟩) a.length a.length, .int .i64 i]] (grow (redrawn wc d) os) fun e w'' => e = .returned (.int .i64 (szA fa i)) ∧ ∃ p : Regrown, w'' = grow (redrawn wc p.d) p.os) := fun d os =>
        Calls.regrown_of (size_any _ _ ac ag i (fa.getD i 0) _ hi ha64 (cell_regrown ((mbel.cell (p := ⟨ag, i, none⟩) HCA.out.glt).trans HSA.out) d os) hla)
      have cSb : Hid (∀ d os, Calls Tryd.prog 130 #[.agg #[.slice (some ⟨bb, bo, none⟩) b.length bc, .slice (some ⟨bg, 0, none⟩) b.length b.length, .int .i64 j]] (grow (redrawn wc d) os) fun e w'' => e = .returned (.int .i64 (szA fb j)) ∧ ∃ p : Regrown, w'' = grow (redrawn wc p.d) p.os) := fun d os =>
        Calls.regrown_of (size_any _ _ bc bg j (fb.getD j 0) _ hj hb64 (cell_regrown ((mbel.cell (p := ⟨bg, j, none⟩) HCB.out.glt).trans HSB.out) d os) hlb)
      have cC : Hid (∀ x y d os, Calls Tryd.prog 129 #[.int .i64 x, .int .i64 y] (grow (redrawn wc d) os) fun e w'' => e = .returned (.int .i64 (cmp3 x y)) ∧ ∃ p : Regrown, w'' = grow (redrawn wc p.d) p.os) := fun x y d os => Calls.regrown_same (compareInt_any x y _)
      have cD : Hid (∀ x y d os, Calls Tryd.prog 131 #[.int .i64 x, .int .i64 y] (grow (redrawn wc d) os) fun e w'' => e = .returned (.int .i64 (cmp3 x y)) ∧ ∃ p : Regrown, w'' = grow (redrawn wc p.d) p.os) := fun x y d os => Calls.regrown_same (compareI64_any x y _)
      have cO : Hid (∀ d os, Calls Tryd.prog 50 #[.string nma, .string nmb] (grow (redrawn wc d) os) fun e w'' => e = .returned (.int .i64 (ordI nma nmb)) ∧ ∃ p : Regrown, w'' = grow (redrawn wc p.d) p.os) := fun d os => Calls.regrown_of (order_any _ _ _ (hT.below (below_regrown wc d os)))
      have HM : Hid (OrdMid W ab ao a.length ac ag i bb bo b.length bc bg j opa na nma (.slice kaa ksa.length kca) opb nb nmb (.slice kab ksb.length kcb) bx by_ wc) := ⟨mbel, mlx, mly, ma0, ma1, ma2, mb0, mb1, mb2, mx0, mx1, mx2, mx3, my0, my1, my2, my3⟩
      have g0 := cell_regrown ma0
      have g1 := cell_regrown ma1
      have g2 := cell_regrown ma2
      have g3 := cell_regrown mb0
      have g4 := cell_regrown mb1
      have g5 := cell_regrown mb2
      have g6 := cell_regrown mx0
      have g7 := cell_regrown mx1
      have g8 := cell_regrown mx2
      have g9 := cell_regrown my0
      have g10 := cell_regrown my1
      have g11 := cell_regrown my2
      clear ma0 ma1 ma2 mb0 mb1 mb2 mx0 mx1 mx2 mx3 my0 my1 my2 my3 hT
      generalize szA fa i = sa at *
      generalize szA fb j = sb at *
      go_wp2_with fail
      refine wp_region_quiet_then 20 (by kernel_rfl) (by kernel_rfl) ?_
      simp only [List.take_succ_cons, List.take_zero]
      iterate 20 (go_big_quiet_step ((first | (go_at_call_of 130 (Value.agg #[Value.slice (some ⟨ab, ao, none⟩) a.length ac, Value.slice (some ⟨ag, 0, none⟩) a.length a.length, Value.int .i64 i]); exact cSa.out _ _) | (go_at_call 130; exact cSb.out _ _) | (go_at_call 129; exact cC.out _ _ _ _) | (go_at_call 131; exact cD.out _ _ _ _) | (go_at_call 50; exact cO.out _ _))))
      refine wpQuiet_nil ?_
      intro w' hw'
      obtain ⟨⟨dq, osq⟩, hw''⟩ := hw'
      subst hw''
      simp only [List.drop_succ_cons, List.drop_zero]
      clear cSa cSb cC cD cO g0 g1 g2 g3 g4 g5 g6 g7 g8 g9 g10 g11
      obtain ⟨w2, hw2⟩ : ∃ w2, grow (redrawn wc dq) osq = w2 := ⟨_, rfl⟩
      rw [hw2]
      have hb2 : Below wc.heap.size wc w2 := hw2 ▸ below_regrown wc dq osq
      clear hw2
      have HB2 : Hid (Below W.heap.size W w2) := mbel.trans (hb2.mono mbel.size)
      have cOr : Hid (∀ V, V.cell? ⟨w2.heap.size, 0, none⟩ = some (.int .i64 (cmp3 sa sb)) → V.cell? ⟨w2.heap.size, 1, none⟩ = some (.int .i64 (cmp3 opa opb)) → V.cell? ⟨w2.heap.size, 2, none⟩ = some (.int .i64 (cmp3 na nb)) → V.cell? ⟨w2.heap.size, 3, none⟩ = some (.int .i64 (ordI nma nmb)) →
          Calls Tryd.prog 128 #[.slice (some ⟨w2.heap.size, 0, none⟩) 4 4] V fun e w' => e = .returned (.int .i64 (headC sa sb ⟨opa, na, nma, ksa⟩ ⟨opb, nb, nmb, ksb⟩)) ∧ w' = V) := fun V h0 h1 h2 h3 =>
        or_any _ [cmp3 sa sb, cmp3 opa opb, cmp3 na nb, ordI nma nmb] V (w2.heap.size + 1) ⟨_, 4, rfl, by simp, ⟨by unfold maxLen; omega, by simp⟩, .inr ⟨w2.heap.size, 0, rfl, by omega, fun q hq => by
          simp at hq
          rcases (show q = 0 ∨ q = 1 ∨ q = 2 ∨ q = 3 by omega) with rfl | rfl | rfl | rfl
          · exact h0
          · exact h1
          · exact h2
          · exact h3⟩⟩
      go_wp2_with fail
      refine (cOr.out _ (by simp) (by simp) (by simp) (by simp)).mono ?_
      rintro e w3 ⟨rfl, hw3⟩
      have hb3 : Below wc.heap.size wc w3 := by rw [hw3]; exact hb2.alloc hb2.size _
      clear hw3 cOr HB2 hb2
      have HOP : Hid (headC sa sb ⟨opa, na, nma, ksa⟩ ⟨opb, nb, nmb, ksb⟩ = 0 → ksa.length = ksb.length) := fun h => HFL.out (head_zero h).2.1
      generalize headC sa sb ⟨opa, na, nma, ksa⟩ ⟨opb, nb, nmb, ksb⟩ = hc0 at *
      clear HFL HSA HSB
      go_wp2_with fail
      go_loopw [7, 8] (fun c q wr => ∃ (k : Nat) (cc : Int), k ≤ ksa.length ∧ q = .int .i64 k ∧ c = .int .i64 cc ∧ Hid (R = ordK (fun p q => ordF a fa b fb f p.toNat q.toNat) cc (ksa.drop k) (ksb.drop k)) ∧ Hid (cc = 0 → ksa.length = ksb.length) ∧ Below wc.heap.size wc wr) (fun _ q _ => ksa.length - (RowKit.intOf q).toNat)
      case atStart => exact ⟨0, _, by omega, rfl, rfl, HR, HOP, hb3⟩
      case round =>
        obtain ⟨k, cc, hk, rfl, rfl, HO, HL, hbr⟩ := hrel
        clear HR HOP hb3
        have hWr : Below W.heap.size W wr := mbel.trans (hbr.mono mbel.size)
        have x3 : wr.cell? ⟨bx, 3, none⟩ = some (.slice kaa ksa.length kca) := (hbr.cell (p := ⟨bx, 3, none⟩) (World.block_lt_of_cell? _ _ HM.out.x3)).trans HM.out.x3
        have HW : Hid (Below W.heap.size W wr) := hWr
        have HBR : Hid (Below wc.heap.size wc wr) := hbr
        clear hWr hbr
        by_cases hcc : cc = 0
        · subst hcc
          by_cases hkl : k < ksa.length
          · have hll := HL.out rfl
            have hkm : k < ksb.length := by omega
            have g0 := cell_regrown ((HBR.out.cell (p := ⟨W.heap.size, 0, none⟩) (World.block_lt_of_cell? _ _ HM.out.a0)).trans HM.out.a0)
            have g1 := cell_regrown ((HBR.out.cell (p := ⟨W.heap.size, 1, none⟩) (World.block_lt_of_cell? _ _ HM.out.a1)).trans HM.out.a1)
            have g2 := cell_regrown ((HBR.out.cell (p := ⟨W.heap.size, 2, none⟩) (World.block_lt_of_cell? _ _ HM.out.a2)).trans HM.out.a2)
            have g3 := cell_regrown ((HBR.out.cell (p := ⟨W.heap.size + 1, 0, none⟩) (World.block_lt_of_cell? _ _ HM.out.b0)).trans HM.out.b0)
            have g4 := cell_regrown ((HBR.out.cell (p := ⟨W.heap.size + 1, 1, none⟩) (World.block_lt_of_cell? _ _ HM.out.b1)).trans HM.out.b1)
            have g5 := cell_regrown ((HBR.out.cell (p := ⟨W.heap.size + 1, 2, none⟩) (World.block_lt_of_cell? _ _ HM.out.b2)).trans HM.out.b2)
            obtain ⟨z, hz⟩ : ∃ z : Nat, ksa.getD k 0 = (z : Int) := ⟨(ksa.getD k 0).toNat, by have := (HKA.out (ksa.getD k 0) (by simp [hkl])).2.2; omega⟩
            obtain ⟨y, hy⟩ : ∃ y : Nat, ksb.getD k 0 = (y : Int) := ⟨(ksb.getD k 0).toNat, by have := (HKB.out (ksb.getD k 0) (by simp [hkm])).2.2; omega⟩
            have hza := HKA.out (ksa.getD k 0) (by simp [hkl])
            have hyb := HKB.out (ksb.getD k 0) (by simp [hkm])
            rw [hz, Int.toNat_natCast] at hza
            rw [hy, Int.toNat_natCast] at hyb
            have HO' : Hid (R = ordK (fun p q => ordF a fa b fb f p.toNat q.toNat) (ordF a fa b fb f z y) (ksa.drop (k + 1)) (ksb.drop (k + 1))) := by
              have h := HO.out
              rw [List.drop_eq_getElem_cons hkl, List.drop_eq_getElem_cons hkm, ordK_zero] at h
              have e1 : ksa[k] = (z : Int) := by rw [← hz]; simp [hkl]
              have e2 : ksb[k] = (y : Int) := by rw [← hy]; simp [hkm]
              rw [e1, e2] at h
              exact h
            obtain ⟨kb, ko, rfl, hkb, hkc⟩ : ∃ b o, kaa = some ⟨b, o, none⟩ ∧ b < W.heap.size ∧ W.cell? ⟨b, o + k, none⟩ = some (.int .i64 z) := by
              obtain ⟨aa, cc, heq, _, _, hc⟩ := HNA.out.kids
              cases heq
              rcases hc with h | ⟨b, o, h1, h2, h3⟩
              · simp only at h; rw [h] at hkl; simp at hkl
              · exact ⟨b, o, h1, h2, by rw [← hz]; exact h3 k hkl⟩
            obtain ⟨lb, lo, rfl, hlb', hlc⟩ : ∃ b o, kab = some ⟨b, o, none⟩ ∧ b < W.heap.size ∧ W.cell? ⟨b, o + k, none⟩ = some (.int .i64 y) := by
              obtain ⟨aa, cc, heq, _, _, hc⟩ := HNB.out.kids
              cases heq
              rcases hc with h | ⟨b, o, h1, h2, h3⟩
              · simp only at h; rw [h] at hkm; simp at hkm
              · exact ⟨b, o, h1, h2, by rw [← hy]; exact h3 k hkm⟩
            have cPa : Hid (∀ d os, Calls Tryd.prog 132 #[.agg #[.slice (some ⟨ab, ao, none⟩) a.length ac, .slice (some ⟨ag, 0, none⟩) a.length a.length, .int .i64 i], .int .i64 k] (grow (redrawn wr d) os) fun e w'' => e = .returned (.agg #[.slice (some ⟨ab, ao, none⟩) a.length ac, .slice (some ⟨ag, 0, none⟩) a.length a.length, .int .i64 z]) ∧ ∃ p : Regrown, w'' = grow (redrawn wr p.d) p.os) := fun d os => by
              have N := HNA.out.below HW.out HW.out.size HCA.out.lt
              exact Calls.regrown_of (part_cur ab ao _ ac i ag k opa na nma kb ko ksa.length kca z _ hi ha64 hkl hkla (cell_regrown N.c0 d os) (cell_regrown N.c1 d os) (cell_regrown N.c2 d os) (cell_regrown N.c3 d os) (cell_regrown ((HW.out.cell (p := ⟨kb, ko + k, none⟩) hkb).trans hkc) d os))
            have cPb : Hid (∀ d os, Calls Tryd.prog 132 #[.agg #[.slice (some ⟨bb, bo, none⟩) b.length bc, .slice (some ⟨bg, 0, none⟩) b.length b.length, .int .i64 j], .int .i64 k] (grow (redrawn wr d) os) fun e w'' => e = .returned (.agg #[.slice (some ⟨bb, bo, none⟩) b.length bc, .slice (some ⟨bg, 0, none⟩) b.length b.length, .int .i64 y]) ∧ ∃ p : Regrown, w'' = grow (redrawn wr p.d) p.os) := fun d os => by
              have N := HNB.out.below HW.out HW.out.size HCB.out.lt
              exact Calls.regrown_of (part_cur bb bo _ bc j bg k opb nb nmb lb lo ksb.length kcb y _ hj hb64 hkm hklb (cell_regrown N.c0 d os) (cell_regrown N.c1 d os) (cell_regrown N.c2 d os) (cell_regrown N.c3 d os) (cell_regrown ((HW.out.cell (p := ⟨lb, lo + k, none⟩) hlb').trans hlc) d os))
            have cR : Hid (∀ d os, Calls Tryd.prog 107 #[.agg #[.slice (some ⟨ab, ao, none⟩) a.length ac, .slice (some ⟨ag, 0, none⟩) a.length a.length, .int .i64 z], .agg #[.slice (some ⟨bb, bo, none⟩) b.length bc, .slice (some ⟨bg, 0, none⟩) b.length b.length, .int .i64 y]] (grow (redrawn wr d) os) fun e w'' => e = .returned (.int .i64 (ordF a fa b fb f z y)) ∧ ∃ p : Regrown, w'' = grow (redrawn wr p.d) p.os) := fun d os =>
              Calls.regrown_of (HIH.out z y _ ((HT.out.below HW.out).below (below_regrown wr d os)) ((HCA.out.below HW.out).below (below_regrown wr d os)) ((HCB.out.below HW.out).below (below_regrown wr d os)) (by omega) hza.2.1 hyb.2.1)
            clear HIH HKA HKB HNA HNB HCA HCB hz hy hza hyb HO HL hkc hlc
            generalize ordF a fa b fb f z y = rr at *
            go_wp2_with fail
            refine wp_region_quiet_below (by kernel_rfl) (by kernel_rfl) ?_
            iterate 8 (go_big_quiet_step ((first | (go_at_call_of 132 (Value.agg #[Value.slice (some ⟨ab, ao, none⟩) a.length ac, Value.slice (some ⟨ag, 0, none⟩) a.length a.length, Value.int .i64 i]); exact cPa.out _ _) | (go_at_call 132; exact cPb.out _ _) | (go_at_call 107; exact cR.out _ _))))
            refine wpQuiet_nil ?_
            intro _ hw'
            obtain ⟨⟨dr, osr⟩, hw''⟩ := hw'
            subst hw''
            go_wp2_with fail
            refine ⟨⟨k + 1, _, by omega, by go_num, rfl, HO', fun _ => hll, HBR.out.trans ((below_regrown wr dr osr).mono HBR.out.size)⟩, by simp [RowKit.intOf]; omega⟩
          · have hke : k = ksa.length := by omega
            subst hke
            have HE : Hid (R = 0) := by
              have h := HO.out
              rw [List.drop_length, ordK_nil] at h
              exact h
            go_wp2_with fail
            go_ret
            exact ⟨ret_int HE.out.symm, HW.out⟩
        · have hne : (cc == 0) = false := by simpa using hcc
          have HE : Hid (R = cc) := by
            have h := HO.out
            rw [ordK_nz _ hcc] at h
            exact h
          go_wp2_with fail
          go_ret
          exact ⟨ret_int HE.out.symm, HW.out⟩
end Go.Proofs.YtfdghbbanokopaaDoor
