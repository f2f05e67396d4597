/-
  PaRd.
-/
import Derived.Shelf.Unicode.DecodeSlow
import Derived.Laws.RangeAny
import Derived.Shelf.Strconv.Itoa0
import Derived.Shelf.Unicode.DecodeAny
import Derived.Test.YtjkcbigmebbkkaaDoorProg
import Derived.WalkKit
import Derived.Deep.DeepFit
import Derived.Lib.OthersKept
import Derived.Lib.RuneCountTail
import Derived.Deep.AppendLies
import Derived.Deep.OwnRows
import Derived.Laws.AppendOwnNone
import Derived.Deep.QuietTactic
import Derived.BigQuiet
import Derived.Deep.RegionWith
import Derived.Laws.DeepStrings4
import Derived.Below
import Derived.Lib.MapLaws
import Derived.Sort.Walk0
import Derived.Lib.ItoaNum
import Derived.Maps.OwnSet
import Derived.StringKeys
import Derived.Deep.Slices
import Derived.Laws.ResultCell
import Derived.Test.YtjkcbigmebbkkaaDoorY01
import Derived.Test.YtjkcbigmebbkkaaDoorY02
import Derived.Test.YtjkcbigmebbkkaaDoorY03
import Derived.Test.YtjkcbigmebbkkaaDoorY04
import Derived.Test.YtjkcbigmebbkkaaDoorY05
import Derived.Test.YtjkcbigmebbkkaaDoorY07
import Derived.Test.YtjkcbigmebbkkaaDoorY08
import Derived.Test.YtjkcbigmebbkkaaDoorY13
import Derived.Test.YtjkcbigmebbkkaaDoorY14
import Derived.Test.YtjkcbigmebbkkaaDoorY15
set_option linter.unusedSimpArgs false
set_option linter.unusedVariables false
namespace Go.Proofs.YtjkcbigmebbkkaaDoor
open Go.RowKit Go.Lib Go.Maps Go.Deep

def patB (l : List Nd) : Bool := decide (l.length ≤ 16) && decide ((hlsL l).length ≤ 6) && sndB (l.map fillN)
theorem Tryd.infoStrP : (Tryd.prog.info? 9).map (fun i => (i.zero, i.size, i.bytes)) = some (some (.string ⟨#[]⟩), 1, 16) := by kernel_rfl
/-- What is read of a sound pattern. -/
structure RdO (w : World) (l : List Nd) (v nv : Value) (M : Nat) (w' : World) : Prop where
  p : ∃ p, p.map (·.1) = l.map fillN ∧ ClN w' w.heap.size w.heap.size v p
  row : w'.ownsRow w.heap.size 9 1 nv (hlsL l).length ((hlsL l).map Value.string)
  map : ∃ n, NumM w' M n (hlsL l)
  leM : w.heap.size ≤ M
def ReadQ (w : World) (l : List Nd) (e : Ending) (w' : World) : Prop :=
  Below w.heap.size w w' ∧ ((patB l = true ∧ ∃ v nv M, e = .returned (.tuple #[.agg #[v, nv, .map (some M)], .int .i64 0]) ∧ RdO w l v nv M w') ∨ (patB l = false ∧ e = .returned (.tuple #[.agg #[.slice none 0 0, .slice none 0 0, .map none], .int .i64 1])))
theorem blkS {w : World} {b o : Nat} {cs : Array Value} {T : TypeId} {v : Value} (h : w.heap[b]? = some (.cells cs T (0, 0))) : (w.setCell ⟨b, o, none⟩ v).heap[b]? = some (.cells (cs.setIfInBounds o v) T (0, 0)) := heap_setCell_same w b o cs T v h

theorem set3 {w : World} {b : Nat} {cs : Array Value} {T : TypeId} {x y z : Value} (h : w.heap[b]? = some (.cells cs T (0, 0))) (hc : cs.size = 3) : (((w.setCell ⟨b, 0, none⟩ x).setCell ⟨b, 1, none⟩ y).setCell ⟨b, 2, none⟩ z).heap[b]? = some (.cells #[x, y, z] T (0, 0)) := by
  have := blkS (o := 2) (v := z) (blkS (o := 1) (v := y) (blkS (o := 0) (v := x) h))
  obtain ⟨l⟩ := cs
  match l, hc with
  | [a, b, c], _ => simpa using this

set_option maxRecDepth 20000 in
set_option maxHeartbeats 4000000 in
theorem read_big {w : World} {ao : Option Addr} {cap : Nat} {l : List Nd} (hN : Rd w ao cap l) (h16 : 16 < l.length) :
    Calls Tryd.prog 83 #[.slice ao l.length cap] w fun e w' => ReadQ w l e w' := by
  obtain ⟨hb1, hb2⟩ := hN.bound
  unfold maxLen at hb2
  have HR : Hid (patB l = false) := by show patB l = false; unfold patB; simp; omega
  have g1 : (16 : Int) < (l.length : Int) := by omega
  clear hN
  go_enter Tryd.func83, Tryd.ntmps83
  have hr0 : (w.alloc (.cells #[.slice none 0 0, .slice none 0 0, .map none] 135)).heap[w.heap.size]? = some (.cells #[.slice none 0 0, .slice none 0 0, .map none] 135 (0, 0)) := (MapKept.heap_alloc w _).1
  have HB0 : Hid (Below w.heap.size w (w.alloc (.cells #[.slice none 0 0, .slice none 0 0, .map none] 135))) := (Below.refl _ _).alloc (Nat.le_refl _) _
  have HR0 : Hid (_) := hr0
  clear hr0
  go_wp2_with fail
  refine bodyPost_ret (v := .tuple #[.agg #[.slice none 0 0, .slice none 0 0, .map none], .int .i64 1]) ?_ rfl ⟨HB0.out, .inr ⟨HR.out, rfl⟩⟩
  rw [results_cell_tmp rfl]
  have hr1 := HR0.out
  clear HR0 HB0
  generalize w.alloc (.cells #[.slice none 0 0, .slice none 0 0, .map none] 135) = W at hr1 ⊢
  simp [go_sem, World.cell?, hr1]

theorem PrM.setOp' {w : World} {q : List Nd} {hs ms : List ByteArray} {n R M N : Nat} {g cap : Nat} {nv : Value} {wr : World} (hN : q.length = N) (h : PrM w q hs ms n R M (.slice (some ⟨g, 0, none⟩) N cap) nv wr) {k : Nat} (hk : k < q.length) (z : Int) :
    PrM w (q.set k { q.getD k nd0 with op := z }) hs ms n R M (.slice (some ⟨g, 0, none⟩) N cap) nv (wr.setCell ⟨g, k * 4, none⟩ (.int .i64 z)) := by
  subst hN; exact h.setOp hk z
/-- The answer is written. -/
theorem PrM.resSet {w : World} {l : List Nd} {n R M : Nat} {v nv : Value} {wr : World} (h : PrM w (l.map fillN) (hlsL l) (hlsL l) n R M v nv wr) (a b c : Value) :
    RdO w l v nv M (((wr.setCell ⟨w.heap.size, 0, none⟩ a).setCell ⟨w.heap.size, 1, none⟩ b).setCell ⟨w.heap.size, 2, none⟩ c) ∧ Below w.heap.size w (((wr.setCell ⟨w.heap.size, 0, none⟩ a).setCell ⟨w.heap.size, 1, none⟩ b).setCell ⟨w.heap.size, 2, none⟩ c) ∧
      (((wr.setCell ⟨w.heap.size, 0, none⟩ a).setCell ⟨w.heap.size, 1, none⟩ b).setCell ⟨w.heap.size, 2, none⟩ c).heap[w.heap.size]? = some (.cells #[a, b, c] 135 (0, 0)) := by
  obtain ⟨⟨p, hp, hc⟩, hr, hm, hR, hb, hM1, hR1, hres⟩ := h
  have n1 := row_ne_reading hc.row hres (by decide)
  have n2 := row_ne_reading hr hres (by decide)
  have n3 : M ≠ w.heap.size := by
    rintro rfl
    obtain ⟨D, ⟨es, c, h5, _⟩, _⟩ := hm
    rw [hres] at h5; cases h5
  have hbs : Below w.heap.size wr (((wr.setCell ⟨w.heap.size, 0, none⟩ a).setCell ⟨w.heap.size, 1, none⟩ b).setCell ⟨w.heap.size, 2, none⟩ c) := (((Below.refl _ _).setCell (p := ⟨w.heap.size, 0, none⟩) (Nat.le_refl _) _).setCell (p := ⟨w.heap.size, 1, none⟩) (Nat.le_refl _) _).setCell (p := ⟨w.heap.size, 2, none⟩) (Nat.le_refl _) _
  exact ⟨⟨⟨p, hp, own_set' (own_set' (own_set' hc.row n1) n1) n1, fun x hx => (hc.kids x hx).below hbs (Nat.le_refl _)⟩, own_set' (own_set' (own_set' hr n2) n2) n2, ⟨n, ((hm.setCell n3 _).setCell n3 _).setCell n3 _⟩, hM1⟩, hb.trans hbs, set3 hres rfl⟩

/-- Between two nodes. -/
def PrK (w : World) (l : List Nd) (R M : Nat) (v : Value) (k : Nat) (wr : World) : Prop := ∃ n nv, n ≤ k ∧ PrM w ((l.take k).map fillN ++ l.drop k) (hlsL (l.take k)) (hlsL (l.take k)) n R M v nv wr
theorem fill_set {l : List Nd} {k : Nat} (hk : k < l.length) (ho : (l.getD k nd0).op = 18) : ((l.take k).map fillN ++ l.drop k).set k { ((l.take k).map fillN ++ l.drop k).getD k nd0 with op := 2 } = (l.take (k + 1)).map fillN ++ l.drop (k + 1) := by
  have e : l.getD k nd0 = l[k] := by simp [hk]
  have hx : ((l.take k).map fillN ++ l.drop k).getD k nd0 = l[k] := by
    rw [List.getD_eq_getElem?_getD, List.getElem?_append_right (by simp; omega)]
    have : k - ((l.take k).map fillN).length = 0 := by simp; omega
    rw [this]; simp [hk]
  have hfl : fillN l[k] = { l[k] with op := 2 } := by rw [e] at ho; simp [fillN, ho]
  rw [hx, ← hfl, List.take_succ_eq_append_getElem hk, List.map_append, List.set_append_right _ _ (by simp; omega)]
  have : k - ((l.take k).map fillN).length = 0 := by simp; omega
  rw [this, List.drop_eq_getElem_cons hk, List.set_cons_zero, List.append_assoc]
  rfl
theorem fill_len (l : List Nd) (k : Nat) : ((l.take k).map fillN ++ l.drop k).length = l.length := by simp; omega
theorem hls_new {l : List Nd} {k : Nat} (hk : k < l.length) (ho : (l.getD k nd0).op = 18) : hlsL (l.take (k + 1)) = if (hlsL (l.take k)).any (fun y => decide (y = (l.getD k nd0).name)) = true then hlsL (l.take k) else hlsL (l.take k) ++ [(l.getD k nd0).name] := by
  have e : l.getD k nd0 = l[k] := by simp [hk]
  rw [List.take_succ_eq_append_getElem hk, hlsL_snoc, ← e]
  unfold addNm; rw [if_pos ho]
theorem hls_old {l : List Nd} {k : Nat} (hk : k < l.length) (ho : (l.getD k nd0).op ≠ 18) : hlsL (l.take (k + 1)) = hlsL (l.take k) := by
  have e : l.getD k nd0 = l[k] := by simp [hk]
  rw [List.take_succ_eq_append_getElem hk, hlsL_snoc, ← e]
  unfold addNm; rw [if_neg ho]

set_option maxRecDepth 20000 in
set_option maxHeartbeats 4000000 in
theorem read_small {w : World} {ao : Option Addr} {cap : Nat} {l : List Nd} (hT : SpanCells w) (hN : Rd w ao cap l) (hnm : ∀ x ∈ l, x.name.size ≤ maxLen) (h16 : l.length ≤ 16) :
    Calls Tryd.prog 83 #[.slice ao l.length cap] w fun e w' => ReadQ w l e w' := by
  obtain ⟨hb1, hb2⟩ := hN.bound
  unfold maxLen at hb2
  have g1 : ¬ (16 : Int) < (l.length : Int) := by omega
  have hr0 : (w.alloc (.cells #[.slice none 0 0, .slice none 0 0, .map none] 135)).heap[w.heap.size]? = some (.cells #[.slice none 0 0, .slice none 0 0, .map none] 135 (0, 0)) := (MapKept.heap_alloc w _).1
  have hB0 : Below w.heap.size w (w.alloc (.cells #[.slice none 0 0, .slice none 0 0, .map none] 135)) := (Below.refl _ _).alloc (Nat.le_refl _) _
  have hz0 : (w.alloc (.cells #[.slice none 0 0, .slice none 0 0, .map none] 135)).heap.size = w.heap.size + 1 := by simp
  have cC := clone_anyB (B := w.heap.size) (ao := ao) (cap := cap) (Nodes.below hN hB0 (Nat.le_refl _)) (by omega) (by omega)
  have HN : Hid (Rd w ao cap l) := hN
  have HT : Hid (SpanCells w) := hT
  have HM : Hid (∀ x ∈ l, x.name.size ≤ maxLen) := hnm
  have HR0 : Hid (_) := hr0
  have HB0 : Hid (_) := hB0
  obtain ⟨i0, hi, hzz0, hzz1, hzz2⟩ := info_parts Tryd.infoStrP
  clear hN hT hnm hr0 hB0
  have hmm := @run_makeMap Tryd.prog
  go_enter Tryd.func83, Tryd.ntmps83
  go_wp2_with (go_at_call 108; refine cC.mono ?_; rintro e w1 ⟨v, p, rfl, hp, hcl, hbl⟩; obtain ⟨va, vc, hv⟩ := row_form' hcl.row; have hpl : p.length = l.length := (by rw [← hp]; simp); rw [hpl] at hv; subst hv)
  have hs1 := hbl.size
  rw [hz0] at hs1
  have hpl : p.length = l.length := by rw [← hp]; simp
  have HS0 : Hid (PrK w l (w1.heap.size + 1) w1.heap.size (.slice va l.length vc) 0 ((w1.alloc (.map #[] 0)).alloc (.cells #[.slice va l.length vc, .slice none 0 0, .map (some w1.heap.size)] 135))) := by
    have hb3 : Below w1.heap.size w1 ((w1.alloc (.map #[] 0)).alloc (.cells #[.slice va l.length vc, .slice none 0 0, .map (some w1.heap.size)] 135)) := ((Below.refl _ _).alloc (Nat.le_refl _) _).alloc (by simp) _
    refine ⟨0, .slice none 0 0, Nat.le_refl _, ⟨p, by simpa using hp, ?_, fun x hx => (hcl.kids x hx).below (hb3.mono (by omega)) (Nat.le_refl _)⟩, by simpa [hlsL] using World.ownsRow_nil _ _ _ _, ?_, ?_, ?_, by omega, by omega, ?_⟩
    · exact ownsRow_mono (ownsRow_below hcl.row hb3) (by omega)
    · exact (NumM.made w1).alloc _
    · have := (MapKept.heap_alloc (w1.alloc (.map #[] 0)) (.cells #[.slice va l.length vc, .slice none 0 0, .map (some w1.heap.size)] 135)).1
      simpa using this
    · exact (HB0.out.trans (hbl.mono (by omega))).trans (hb3.mono (by omega))
    · exact (hb3.block _ (by omega)).trans ((hbl.block _ (by omega)).trans HR0.out)
  clear cC hp hcl
  go_loopw [19] (fun i wr => ∃ k : Nat, k ≤ l.length ∧ i = .int .i64 k ∧ PrK w l (w1.heap.size + 1) w1.heap.size (.slice va l.length vc) k wr) (fun i _ => l.length - (RowKit.intOf i).toNat)
  case atStart => exact ⟨0, by omega, rfl, HS0.out⟩
  case round =>
    obtain ⟨k, hk, rfl, n, nv, hn, hM⟩ := hrel
    have hbw := hM.below
    have hsw := hbw.size
    by_cases hlt : k < l.length
    · obtain ⟨b, o, kv, rfl, hbk, hna⟩ := Rd.cell (HN.out.below hbw hsw) hlt
      have HNM : Hid ((l.getD k nd0).name.size ≤ maxLen) := HM.out _ (by simp [hlt])
      obtain ⟨c0, c1, c2, c3, hki⟩ := hna
      obtain ⟨ka, kc, rfl, _⟩ := hki
      generalize hkl : (l.getD k nd0).kids.length = kl at *
      by_cases hop : (l.getD k nd0).op = 18
      · have h1 := hM.alloc (.cells #[.int .i64 18, .int .i64 (l.getD k nd0).n, .string (l.getD k nd0).name, .slice ka kl kc] 71)
        obtain ⟨g, cp, e, hg0, hgl, hgM, hgR, hg1, hg2, hcv, hfz⟩ := h1.at_ (k := k) (by rw [fill_len]; exact hlt)
        rw [fill_len] at e hg1
        simp only [Value.slice.injEq, true_and] at e
        obtain ⟨rfl, rfl⟩ := e
        have h2 := h1.setOp' (fill_len l k) (k := k) (by rw [fill_len]; exact hlt) 2
        rw [fill_set hlt hop] at h2
        have HLN : Hid (hlsL (l.take (k + 1)) = _) := hls_new hlt hop
        have hhl := hlsL_len (l.take k)
        have hhl2 : (hlsL (l.take k)).length ≤ k := by simp at hhl; omega
        clear hhl
        unfold maxLen at hg2
        obtain ⟨na, nc, rfl⟩ := row_form' hM.row
        obtain ⟨p0, p1, p2, pf⟩ := h1.cells
        obtain ⟨q0, q1, q2, qf⟩ := h2.cells
        have qf1 := qf 1
        have hgn : g ≠ wr.heap.size := by
          intro e
          subst e
          have : (wr.alloc (.cells #[.int .i64 18, .int .i64 (l.getD k nd0).n, .string (l.getD k nd0).name, .slice ka kl kc] 71)).heap[wr.heap.size]? = _ := (MapKept.heap_alloc wr _).1
          obtain ⟨⟨p, hp, hc⟩, _⟩ := hM
          rcases hc.row.2 with ⟨e, _⟩ | ⟨g', c', cur, e, _, hg', _⟩
          · cases e
          · simp only [Value.slice.injEq, Option.some.injEq, Addr.mk.injEq] at e
            have := lt_of_block hg'
            omega
        have n2 : ((wr.alloc (.cells #[.int .i64 18, .int .i64 (l.getD k nd0).n, .string (l.getD k nd0).name, .slice ka kl kc] 71)).setCell ⟨g, k * 4, none⟩ (.int .i64 2)).cell? ⟨wr.heap.size, 2, none⟩ = some (.string (l.getD k nd0).name) := by
          have e : ((wr.alloc (.cells #[.int .i64 18, .int .i64 (l.getD k nd0).n, .string (l.getD k nd0).name, .slice ka kl kc] 71)).setCell ⟨g, k * 4, none⟩ (.int .i64 2)).heap[wr.heap.size]? = some (.cells #[.int .i64 18, .int .i64 (l.getD k nd0).n, .string (l.getD k nd0).name, .slice ka kl kc] 71 (0, 0)) := by
            rw [Deep.blk_setCell_other _ _ _ _ (by show wr.heap.size ≠ g; omega)]; exact (MapKept.heap_alloc wr _).1
          rw [cell_of_heap e]; rfl
        have hlk := h2.map.look2 HNM.out
        rw [hop] at c0
        generalize hhs : hlsL (l.take k) = hs at *
        by_cases hkn : hs.any (fun y => decide (y = (l.getD k nd0).name)) = true
        · have HFI : Hid (PrK w l (w1.heap.size + 1) w1.heap.size (.slice (some ⟨g, 0, none⟩) l.length vc) (k + 1) ((wr.alloc (.cells #[.int .i64 18, .int .i64 (l.getD k nd0).n, .string (l.getD k nd0).name, .slice ka kl kc] 71)).setCell ⟨g, k * 4, none⟩ (.int .i64 2))) := ⟨n, _, by omega, by rw [HLN.out, if_pos hkn]; exact h2⟩
          rw [hkn] at hlk
          generalize numZ hs (l.getD k nd0).name = z at *
          clear hM h1 h2 HLN hhs hop hkl hkn HNM
          generalize (l.getD k nd0).name = nm at *
          generalize (l.getD k nd0).n = nn at *
          generalize (((l.take k).map fillN ++ l.drop k).getD k nd0).op = cv at *
          go_wp2_with fail
          exact ⟨⟨k + 1, by omega, by go_num, HFI.out⟩, by simp [RowKit.intOf]; omega⟩
        · have hkn' : hs.any (fun y => decide (y = (l.getD k nd0).name)) = false := Bool.eq_false_iff.2 hkn
          obtain ⟨W3, hup, hM3, hg3⟩ := h2.map.more (by omega) (by omega) HNM.out hkn'
          have h3 := h2.mapped hM3 hg3
          obtain ⟨r0, r1, r2, rf⟩ := h3.cells
          have n3 : W3.cell? ⟨wr.heap.size, 2, none⟩ = some (.string (l.getD k nd0).name) := by
            have e : W3.heap[wr.heap.size]? = _ := hg3.block wr.heap.size (by simp) (by
              have := hM.map.lt
              simp; omega)
            rw [World.cell?_of_block (a := ⟨wr.heap.size, 2, none⟩) e]; exact n2
          have h4 := h3.alloc (.cells #[.string (l.getD k nd0).name] 9)
          have HLN2 : Hid (hlsL (l.take (k + 1)) = hs ++ [(l.getD k nd0).name]) := by show _ = _; rw [HLN.out, if_neg hkn]
          have H4 : Hid (PrM _ _ _ _ _ _ _ _ _ _) := h4
          have hlo : w.heap.size ≤ W3.heap.size := h3.below.size
          have hrow4 := h4.row
          have HR4 : Hid (_) := hrow4
          have hlR := h4.ltR
          rw [hkn'] at hlk
          generalize numZ hs (l.getD k nd0).name = z at *
          clear hM h1 h2 h3 h4 HLN hhs hop hkl hkn hkn' HNM hM3 hg3 hrow4
          generalize (l.getD k nd0).name = nm at *
          generalize (l.getD k nd0).n = nn at *
          generalize (((l.take k).map fillN ++ l.drop k).getD k nd0).op = cv at *
          go_wp2_with (at_builtin; refine wpList_append_lies _ rfl (.tmp 50) (.tmp 53) 33 rfl w.heap.size 9 i0 (.string ⟨#[]⟩) 1 16 Tryd.underlying33 hi hzz0 hzz1 hzz2 rfl (by decide) _ _ _ rfl HR4.out ⟨W3.heap.size, 0, none⟩ 1 1 [.string nm] rfl rfl (cell_news_one _ _ _) (by simp [Value.oneCell']) (by omega) (by unfold maxLen; omega) (by omega) (by simp; omega) _ rfl ?_; intro g6 cap6 w6 hown6 hg6 hat6 hl6; have HOW6 : Hid (_) := hown6; have HG6 : Hid (_) := hg6; have e6 : w6.heap[w1.heap.size + 1]? = _ := (hg6.block (w1.heap.size + 1) hlR (Ne.symm (row_ne_reading HR4.out H4.out.blk (by decide)))).trans H4.out.blk; have s1 : w6.cell? ⟨w1.heap.size + 1, 1, none⟩ = some (.slice na hs.length nc) := (by rw [cell_of_heap e6]; rfl); have s2 : w6.frozen? ⟨w1.heap.size + 1, 1, none⟩ = false := frozen_of_heap e6 _; clear e6 hown6 hg6)
          refine ⟨⟨k + 1, by omega, by go_num, n + 1, .slice (some ⟨g6, 0, none⟩) (hs.length + 1) cap6, by omega, ?_⟩, by simp [RowKit.intOf]; omega⟩
          rw [HLN2.out]
          exact H4.out.named HOW6.out HG6.out
      · have HSK : Hid (PrK w l (w1.heap.size + 1) w1.heap.size (.slice va l.length vc) (k + 1) (wr.alloc (.cells #[.int .i64 (l.getD k nd0).op, .int .i64 (l.getD k nd0).n, .string (l.getD k nd0).name, .slice ka kl kc] 71))) := ⟨n, nv, by omega, by rw [fill_step hlt hop, hls_old hlt hop]; exact hM.alloc _⟩
        have g18 : ((l.getD k nd0).op == 18) = false := by rw [beq_eq_false_iff_ne]; exact hop
        clear hM hop hkl HNM
        generalize (l.getD k nd0).name = nm at *
        generalize (l.getD k nd0).n = nn at *
        generalize (l.getD k nd0).op = oo at *
        go_wp2_with fail
        exact ⟨⟨k + 1, by omega, by go_num, HSK.out⟩, by simp [RowKit.intOf]; omega⟩
    · have hke : k = l.length := by omega
      subst hke
      rw [List.take_length, List.drop_length, List.append_nil] at hM
      obtain ⟨q0, q1, q2, qf⟩ := hM.cells
      obtain ⟨na, nc, rfl⟩ := row_form' hM.row
      have u0 : wr.cell? ⟨w.heap.size, 0, none⟩ = some (.slice none 0 0) := by rw [cell_of_heap hM.res]; rfl
      have u1 : wr.cell? ⟨w.heap.size, 1, none⟩ = some (.slice none 0 0) := by rw [cell_of_heap hM.res]; rfl
      have u2 : wr.cell? ⟨w.heap.size, 2, none⟩ = some (.map none) := by rw [cell_of_heap hM.res]; rfl
      have f0 : wr.frozen? ⟨w.heap.size, 0, none⟩ = false := frozen_of_heap hM.res _
      have f1 : wr.frozen? ⟨w.heap.size, 1, none⟩ = false := frozen_of_heap hM.res _
      have f2 : wr.frozen? ⟨w.heap.size, 2, none⟩ = false := frozen_of_heap hM.res _
      obtain ⟨p, hp, hcl⟩ := hM.p
      have hNd := hcl.nodes (C := wr.heap.size) (Nat.le_refl _) hsw
      rw [hp] at hNd
      have hhl := hlsL_len l
      have cK := check_any _ (l.map fillN) wr wr.heap.size (Nat.le_refl _) (HT.out.below hbw) hNd
      have HMM : Hid (PrM _ _ _ _ _ _ _ _ _ _) := hM
      obtain ⟨RR, hRR⟩ : ∃ RR, patB l = RR := ⟨_, rfl⟩
      have HR : Hid (RR = (decide (l.length ≤ 16) && decide ((hlsL l).length ≤ 6) && sndB (l.map fillN))) := hRR.symm
      have HRR : Hid (patB l = RR) := hRR
      clear hM hp hcl hNd hRR
      generalize hnh : (hlsL l).length = nh at *
      have HNH : Hid (_) := hnh
      clear hnh
      by_cases h6 : 6 < nh
      · have gg : (6 : Int) < (nh : Int) := by omega
        have HR2 : Hid (patB l = false) := by show _ = _; rw [HRR.out, HR.out, show decide (nh ≤ 6) = false from decide_eq_false (by omega)]; simp
        obtain ⟨_, S2, S3⟩ := HMM.out.resSet (.slice none 0 0) (.slice none 0 0) (.map none)
        have HS2 : Hid (_) := S2
        have HS3 : Hid (_) := S3
        clear HR S2 S3 cK
        go_wp2_with fail
        have S3 := HS3.out
        have S2 := HS2.out
        clear HS2 HS3
        generalize (((wr.setCell ⟨w.heap.size, 0, none⟩ (.slice none 0 0)).setCell ⟨w.heap.size, 1, none⟩ (.slice none 0 0)).setCell ⟨w.heap.size, 2, none⟩ (.map none)) = W at S2 S3 ⊢
        refine bodyPost_ret (v := .tuple #[.agg #[.slice none 0 0, .slice none 0 0, .map none], .int .i64 1]) ?_ rfl ⟨S2, .inr ⟨HR2.out, rfl⟩⟩
        rw [results_cell_tmp rfl]
        simp [go_sem, World.cell?, S3]
      · have gg : ¬ (6 : Int) < (nh : Int) := by omega
        generalize hsb : sndB (l.map fillN) = sb at *
        cases sb
        · rw [if_neg (by decide)] at cK
          have HR2 : Hid (patB l = false) := by show _ = _; rw [HRR.out, HR.out]; simp
          clear HR hsb
          go_wp2_with (go_at_call 8; refine cK.mono ?_; rintro e w6 ⟨rfl, hb6⟩; have h6M := HMM.out.grow hb6; obtain ⟨_, S2, S3⟩ := h6M.resSet (.slice none 0 0) (.slice none 0 0) (.map none); have HS2 : Hid (_) := S2; have HS3 : Hid (_) := S3; have u0' : w6.cell? ⟨w.heap.size, 0, none⟩ = some (.slice none 0 0) := (by rw [cell_of_heap h6M.res]; rfl); have u1' : w6.cell? ⟨w.heap.size, 1, none⟩ = some (.slice none 0 0) := (by rw [cell_of_heap h6M.res]; rfl); have u2' : w6.cell? ⟨w.heap.size, 2, none⟩ = some (.map none) := (by rw [cell_of_heap h6M.res]; rfl); have f0' : w6.frozen? ⟨w.heap.size, 0, none⟩ = false := frozen_of_heap h6M.res _; have f1' : w6.frozen? ⟨w.heap.size, 1, none⟩ = false := frozen_of_heap h6M.res _; have f2' : w6.frozen? ⟨w.heap.size, 2, none⟩ = false := frozen_of_heap h6M.res _; clear h6M S2 S3 hb6)
          have S3 := HS3.out
          have S2 := HS2.out
          clear HS2 HS3
          generalize (((w6.setCell ⟨w.heap.size, 0, none⟩ (.slice none 0 0)).setCell ⟨w.heap.size, 1, none⟩ (.slice none 0 0)).setCell ⟨w.heap.size, 2, none⟩ (.map none)) = W at S2 S3 ⊢
          refine bodyPost_ret (v := .tuple #[.agg #[.slice none 0 0, .slice none 0 0, .map none], .int .i64 1]) ?_ rfl ⟨S2, .inr ⟨HR2.out, rfl⟩⟩
          rw [results_cell_tmp rfl]
          simp [go_sem, World.cell?, S3]
        · rw [if_pos rfl] at cK
          have HR2 : Hid (patB l = true) := by show _ = _; rw [HRR.out, HR.out]; simp; omega
          clear HR hsb
          go_wp2_with (go_at_call 8; refine cK.mono ?_; rintro e w6 ⟨rfl, hb6⟩; have h6M := HMM.out.grow hb6; obtain ⟨S1, S2, S3⟩ := h6M.resSet (.slice va l.length vc) (.slice na nh nc) (.map (some w1.heap.size)); obtain ⟨q0', q1', q2', _⟩ := h6M.cells; have HS1 : Hid (_) := S1; have HS2 : Hid (_) := S2; have HS3 : Hid (_) := S3; have u0' : w6.cell? ⟨w.heap.size, 0, none⟩ = some (.slice none 0 0) := (by rw [cell_of_heap h6M.res]; rfl); have u1' : w6.cell? ⟨w.heap.size, 1, none⟩ = some (.slice none 0 0) := (by rw [cell_of_heap h6M.res]; rfl); have u2' : w6.cell? ⟨w.heap.size, 2, none⟩ = some (.map none) := (by rw [cell_of_heap h6M.res]; rfl); have f0' : w6.frozen? ⟨w.heap.size, 0, none⟩ = false := frozen_of_heap h6M.res _; have f1' : w6.frozen? ⟨w.heap.size, 1, none⟩ = false := frozen_of_heap h6M.res _; have f2' : w6.frozen? ⟨w.heap.size, 2, none⟩ = false := frozen_of_heap h6M.res _; clear h6M S1 S2 S3 hb6)
          have S3 := HS3.out
          have S2 := HS2.out
          have S1 := HS1.out
          clear HS1 HS2 HS3
          generalize (((w6.setCell ⟨w.heap.size, 0, none⟩ (.slice va l.length vc)).setCell ⟨w.heap.size, 1, none⟩ (.slice na nh nc)).setCell ⟨w.heap.size, 2, none⟩ (.map (some w1.heap.size))) = W at S1 S2 S3 ⊢
          refine bodyPost_ret (v := .tuple #[.agg #[.slice va l.length vc, .slice na nh nc, .map (some w1.heap.size)], .int .i64 0]) ?_ rfl ⟨S2, .inl ⟨HR2.out, _, _, _, rfl, S1⟩⟩
          rw [results_cell_tmp rfl]
          simp [go_sem, World.cell?, S3]

theorem read_any {w : World} {ao : Option Addr} {cap : Nat} {l : List Nd} (hT : SpanCells w) (hN : Rd w ao cap l) (hnm : ∀ x ∈ l, x.name.size ≤ maxLen) :
    Calls Tryd.prog 83 #[.slice ao l.length cap] w fun e w' => ReadQ w l e w' := by
  by_cases h : 16 < l.length
  · exact read_big hN h
  · exact read_small hT hN hnm (by omega)
end Go.Proofs.YtjkcbigmebbkkaaDoor
