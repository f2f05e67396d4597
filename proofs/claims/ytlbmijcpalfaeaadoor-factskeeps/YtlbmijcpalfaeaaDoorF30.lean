/-
  DcB, DcD, DcE, DcF, PgC, DcG, DcH, DcI.
-/
import Derived.Shelf.Unicode.DecodeSlow
import Derived.Laws.RangeAny
import Derived.Shelf.Strconv.Itoa0
import Derived.Shelf.LaysM
import Derived.Shelf.Strconv.Clone
import Derived.Shelf.Unicode.DecodeAny
import Derived.Test.YtlbmijcpalfaeaaDoorProg
import Derived.WalkKit
import Derived.Deep.DeepFit
import Derived.Lib.OthersKept
import Derived.Lib.RuneCountTail
import Derived.Deep.AppendLies
import Derived.Deep.OwnRows
import Derived.Laws.AppendOwnNone
import Derived.Deep.QuietTactic
import Derived.BigQuiet
import Derived.Deep.RegionWith
import Derived.Laws.DeepStrings4
import Derived.Below
import Derived.Lib.MapLaws
import Derived.Sort.Walk0
import Derived.Lib.QuietBelow
import Derived.StillTail
import Derived.Deep.RegionHeld3
import Derived.Laws.AppendOwn
import Derived.Deep.DeepCutAuto
import Derived.Maps.OwnSet
import Derived.Maps.Keyed
import Derived.DeepKeys4
import Derived.Laws.ResultCell
import Derived.Laws.CopyOwn
import Derived.Laws.OwnMore
import Derived.Deep.RegionLaw
import Derived.Laws.IdiomStrings
import Derived.WalkSmall
import Derived.Test.YtlbmijcpalfaeaaDoorF01
import Derived.Test.YtlbmijcpalfaeaaDoorF02
import Derived.Test.YtlbmijcpalfaeaaDoorF03
import Derived.Test.YtlbmijcpalfaeaaDoorF04
import Derived.Test.YtlbmijcpalfaeaaDoorF05
import Derived.Test.YtlbmijcpalfaeaaDoorF06
import Derived.Test.YtlbmijcpalfaeaaDoorF07
import Derived.Test.YtlbmijcpalfaeaaDoorF08
import Derived.Test.YtlbmijcpalfaeaaDoorF09
import Derived.Test.YtlbmijcpalfaeaaDoorF10
import Derived.Test.YtlbmijcpalfaeaaDoorF11
import Derived.Test.YtlbmijcpalfaeaaDoorF12
import Derived.Test.YtlbmijcpalfaeaaDoorF13
import Derived.Test.YtlbmijcpalfaeaaDoorF14
import Derived.Test.YtlbmijcpalfaeaaDoorF15
import Derived.Test.YtlbmijcpalfaeaaDoorF16
import Derived.Test.YtlbmijcpalfaeaaDoorF17
import Derived.Test.YtlbmijcpalfaeaaDoorF18
import Derived.Test.YtlbmijcpalfaeaaDoorF19
import Derived.Test.YtlbmijcpalfaeaaDoorF20
import Derived.Test.YtlbmijcpalfaeaaDoorF21
import Derived.Test.YtlbmijcpalfaeaaDoorF22
import Derived.Test.YtlbmijcpalfaeaaDoorF23
import Derived.Test.YtlbmijcpalfaeaaDoorF24
import Derived.Test.YtlbmijcpalfaeaaDoorF25
import Derived.Test.YtlbmijcpalfaeaaDoorF26
import Derived.Test.YtlbmijcpalfaeaaDoorF27
import Derived.Test.YtlbmijcpalfaeaaDoorF28
import Derived.Test.YtlbmijcpalfaeaaDoorF29
set_option linter.unusedSimpArgs false
set_option linter.unusedVariables false
namespace Go.Proofs.YtlbmijcpalfaeaaDoor
open Go.RowKit Go.Lib Go.Sort

/-- A Shape, read. -/
structure ShR (w : World) (sh : Nat) (za : Option Addr) (zc : Nat) (la : Option Addr) (lc : Nat) (zs : List Int) (ll : List Nd) : Prop where
  z : w.cell? ⟨sh, 1, none⟩ = some (.slice za zs.length zc)
  l : w.cell? ⟨sh, 2, none⟩ = some (.slice la ll.length lc)
  zi : Ints w w.heap.size (.slice za zs.length zc) zs
  li : Nodes w w.heap.size (.slice la ll.length lc) ll
  len : ll.length = zs.length
theorem ShR.lt {w : World} {sh : Nat} {za : Option Addr} {zc : Nat} {la : Option Addr} {lc : Nat} {zs : List Int} {ll : List Nd} (h : ShR w sh za zc la lc zs ll) : sh < w.heap.size := World.block_lt_of_cell? w _ h.z
theorem ShR.below {w w' : World} {sh : Nat} {za : Option Addr} {zc : Nat} {la : Option Addr} {lc : Nat} {zs : List Int} {ll : List Nd} (h : ShR w sh za zc la lc zs ll) (hb : Below w.heap.size w w') : ShR w' sh za zc la lc zs ll :=
  ⟨(hb.cell (p := ⟨sh, 1, none⟩) h.lt).trans h.z, (hb.cell (p := ⟨sh, 2, none⟩) h.lt).trans h.l, h.zi.below hb hb.size, h.li.below hb hb.size, h.len⟩
theorem Nodes.cellN {w : World} {B : Nat} {ao : Option Addr} {n cap : Nat} {l : List Nd} (h : Nodes w B (.slice ao n cap) l) {i : Nat} (hi : i < l.length) : ∃ b o ka kc, ao = some ⟨b, o, none⟩ ∧ b < B ∧ NodeAt w B b (o + i * 4) (ndA l i) (.slice ka (ndA l i).kids.length kc) := by
  obtain ⟨ao', cap', h1, _, _, h2⟩ := h
  injection h1 with h1 _ _
  rcases h2 with h2 | ⟨b, o, h2, h3, h4⟩
  · subst h2; simp at hi
  · obtain ⟨kv, h5⟩ := h4 i hi
    obtain ⟨ka, kc, e, _⟩ := id h5.kids
    refine ⟨b, o, ka, kc, h1.trans h2, h3, ?_⟩
    rw [e] at h5
    exact h5
theorem Nodes.bnd {w : World} {B : Nat} {ao : Option Addr} {n cap : Nat} {l : List Nd} (h : Nodes w B (.slice ao n cap) l) : n = l.length ∧ l.length ≤ cap ∧ cap ≤ 9223372036854775807 := by
  obtain ⟨ao', cap', h1, h2, h3, _⟩ := h
  injection h1 with h1 h4 h5
  unfold maxLen at h3
  subst h5
  exact ⟨h4, h2, by omega⟩
end Go.Proofs.YtlbmijcpalfaeaaDoor

set_option linter.unusedSimpArgs false
set_option linter.unusedVariables false
namespace Go.Proofs.YtlbmijcpalfaeaaDoor
open Go.RowKit Go.Lib Go.Sort

theorem rowN_at {w : World} {base g n cap : Nat} {p : List (Nd × Value)} (h : w.ownsRow base 43 4 (.slice (some ⟨g, 0, none⟩) n cap) n (ndCells p)) {i : Nat} {x : Nd} {kv : Value} (hi : p[i]? = some (x, kv)) :
    w.cell? ⟨g, i * 4, none⟩ = some (.int .i64 x.op) ∧ w.cell? ⟨g, i * 4 + 1, none⟩ = some (.int .i64 x.n) ∧ w.cell? ⟨g, i * 4 + 2, none⟩ = some (.string x.name) ∧ w.cell? ⟨g, i * 4 + 3, none⟩ = some kv ∧ ∀ j, w.frozen? ⟨g, j, none⟩ = false := by
  obtain ⟨a0, a1, a2, a3⟩ := ndCells_at p i x kv hi
  have hr := rdr_own h
  exact ⟨hr.cell (b := g) rfl a0, hr.cell (b := g) rfl a1, hr.cell (b := g) rfl a2, hr.cell (b := g) rfl a3, fun j => rw_fro h j⟩
end Go.Proofs.YtlbmijcpalfaeaaDoor

set_option linter.unusedSimpArgs false
set_option linter.unusedVariables false
namespace Go.Proofs.YtlbmijcpalfaeaaDoor
open Go.RowKit Go.Lib Go.Sort

theorem grown_trans' {w w1 w2 : World} {r r' : Option Nat} (h : w.grownBy w1 r) (k : w1.grownBy w2 r') (hr : ∀ b, r' = some b → r = some b ∨ w.heap.size ≤ b) : w.grownBy w2 r := by
  obtain ⟨h1, h2, h3, h4, h5⟩ := h
  obtain ⟨k1, k2, k3, k4, k5⟩ := k
  refine ⟨k1.trans h1, k2.trans h2, k3.trans h3, Nat.le_trans h4 k4, fun b hb hne => (k5 b (by omega) (fun e => ?_)).trans (h5 b hb hne)⟩
  rcases hr b e.symm with e2 | e2
  · exact hne e2.symm
  · omega

end Go.Proofs.YtlbmijcpalfaeaaDoor

set_option linter.unusedSimpArgs false
set_option linter.unusedVariables false
namespace Go.Proofs.YtlbmijcpalfaeaaDoor
open Go.RowKit Go.Lib Go.Sort

/-- The numbers of zs, each once, rising. -/
structure RkOk (zs ys : List Int) : Prop where
  up : ys.Pairwise fun a b => a < b
  mem : ∀ z, z ∈ ys ↔ z ∈ zs
theorem Tryd.infoI3 : (Tryd.prog.info? 3).map (fun i => (i.zero, i.size, i.bytes)) = some (some (.int .i64 0), 1, 8) := by kernel_rfl

end Go.Proofs.YtlbmijcpalfaeaaDoor

set_option linter.unusedSimpArgs false
set_option linter.unusedVariables false
namespace Go.Proofs.YtlbmijcpalfaeaaDoor.Gt
open Go.RowKit Go.Lib

def G00 : Gs := ⟨.slice none 0 0, .map none, .slice none 0 0, .slice none 0 0, 0, 0, [], [], []⟩
theorem GrM.start (w : World) : GrM (w.alloc (.cells #[.slice none 0 0, .map none, .slice none 0 0, .int .i64 0, .int .i64 0, .slice none 0 0] 155)) w.heap.size G00 := by
  refine ⟨@TbM.mk G00.gr _ _ _ _ _ (Deep.blk_alloc_new _ _) (World.ownsRow_nil _ _ _ _) (.inl ⟨rfl, rfl⟩) TbI.nil (fun x hx => by cases hx), World.ownsRow_nil _ _ _ _, ?_, Nat.le_refl _⟩
  exact ⟨fun r hr => by
    simp [seRows, G00] at hr
    subst hr
    exact OwnI_nil _ _, by simp [seRows, G00]⟩
set_option maxHeartbeats 1000000 in
theorem gnew_any (w : World) : Calls Tryd.prog 96 #[] w fun e w' => e = .returned (.pointer (some ⟨w.heap.size, 0, none⟩)) ∧ w' = w.alloc (.cells #[.slice none 0 0, .map none, .slice none 0 0, .int .i64 0, .int .i64 0, .slice none 0 0] 155) := by
  go_enter Tryd.func96, Tryd.ntmps96
  go_wp2_with fail
  go_ret
  exact ⟨rfl, rfl⟩
set_option maxRecDepth 20000 in
set_option maxHeartbeats 2000000 in
theorem clone_any (w : World) (ra : Option Addr) (rc : Nat) (rs : List Int) (hr : Ints w w.heap.size (.slice ra rs.length rc) rs) (hrw : rs.length * 8 ≤ 140737488355328) : Calls Tryd.prog 99 #[.slice ra rs.length rc] w fun e w' => (∃ a n c, e = .returned (.slice a n c)) ∧ Below w.heap.size w w' := by
  obtain ⟨i0, hi0, hz0, hz1, hz2⟩ := info_parts Tryd.infoI3
  have hnil := eql_nil
  cases ra with
  | none =>
    go_enter Tryd.func99, Tryd.ntmps99
    go_wp2_with fail
    go_ret
    exact ⟨⟨_, _, _, rfl⟩, Below.refl _ _⟩
  | some ad =>
    have hb0 : Below w.heap.size w (w.alloc (.cells #[] 3)) := (Below.refl w.heap.size w).alloc (Nat.le_refl _) _
    have HR := Sld.mk (hr.below hb0 hb0.size)
    have HS : Sld (∀ j u, (rs.map (Value.int .i64))[j]? = some u → (w.alloc (.cells #[] 3)).cell? (ad.add j) = some u) := ⟨fun j u hu => by
      rw [List.getElem?_map] at hu
      obtain ⟨z, hz, rfl⟩ := Option.map_eq_some_iff.1 hu
      obtain ⟨hl', e'⟩ := List.getElem?_eq_some_iff.1 hz
      obtain ⟨b', o', e, _, hcell⟩ := HR.out.cellK hl'
      injection e with e
      subst e
      rw [Go.WideShapes.add_plain, hcell]
      simp [hl', e']⟩
    have HO : Sld ((w.alloc (.cells #[] 3)).ownsRow w.heap.size 3 1 (.slice (some ⟨w.heap.size, 0, none⟩) 0 0) 0 []) := ⟨World.ownsRow_made w #[] 0 (Nat.le_refl _) (Nat.zero_le _) (by simp)⟩
    have HL : Sld ((rs.map (Value.int .i64)).length = rs.length * 1) := ⟨by simp⟩
    have H1 : Sld (∀ u ∈ rs.map (Value.int .i64), u.oneCell' = true) := ⟨fun u hu => by
      obtain ⟨x, _, rfl⟩ := List.mem_map.1 hu; rfl⟩
    obtain ⟨_, hrc1, hrc2⟩ := hr.bnd
    have HM : Sld (0 + rs.length ≤ maxLen) := ⟨by unfold maxLen; omega⟩
    clear hr hb0
    go_enter Tryd.func99, Tryd.ntmps99
    go_wp2_with (at_builtin; refine wpList_append_own _ rfl _ _ 41 rfl w.heap.size 3 i0 (.int .i64 0) 1 8 Tryd.underlying41 hi0 hz0 hz1 hz2 rfl (by decide) _ _ _ rfl HO.out ad rs.length rc (rs.map (Value.int .i64)) rfl HL.out HS.out H1.out HM.out (by omega) (by simp) ?_; intro v' w1 hown hgrow _)
    obtain ⟨sa, sn, sc, rfl⟩ : ∃ a n c, v' = .slice a n c := by
      rcases hown.2 with ⟨rfl, _⟩ | ⟨g, cap, cur, rfl, _⟩
      · exact ⟨_, _, _, rfl⟩
      · exact ⟨_, _, _, rfl⟩
    go_ret
    exact ⟨⟨_, _, _, rfl⟩, ((Below.refl w.heap.size w).alloc (Nat.le_refl _) _).grown hgrow (by simp) (fun k hk => by have e : some w.heap.size = some k := hk; cases e; exact Nat.le_refl _)⟩
theorem Ints.far {w : World} {B : Nat} {ka : Option Addr} {n kc : Nat} {ks : List Int} (h : Ints w B (.slice ka n kc) ks) {b o : Nat} (hk : ka = some ⟨b, o, none⟩) (hn : ks ≠ []) : b < B := by
  obtain ⟨ao, cap, e, _, _, h2⟩ := h
  injection e with e _ _
  rcases h2 with h2 | ⟨b', o', h2, hl, _⟩
  · exact absurd h2 hn
  · rw [hk, h2] at e
    injection e with e
    injection e with e _ _
    omega
theorem seat_both {w : World} {p : Nat} {G : Gs} (h : GrM w p G) (hT : SpanCells w) (x : Nd) (ka : Option Addr) (kc : Nat) (hv : NdV w x ka kc) (hap : ∀ b o, ka = some ⟨b, o, none⟩ → x.kids ≠ [] → ¬ GrS p G b) (c : Int) (hc : c = -1 ∨ ∃ k : Nat, c = (k : Int) ∧ k < G.ss.length) (hB : GsB G) :
    Calls Tryd.prog 97 #[.pointer (some ⟨p, 0, none⟩), .agg #[.int .i64 x.op, .int .i64 x.n, .string x.name, .slice ka x.kids.length kc], .int .i64 c] w fun e w' => e = .returned (.tuple #[.int .i64 ((ptR G.L x).1 : Nat), .int .i64 (ptR G.L x).2.1]) ∧ ∃ G', GrT w p G G' w' ∧ SeatR G x c G' := by
  by_cases he : (ptR G.L x).2.1 = 0
  · cases hs : knG G.ss (ptR G.L x).1 with
    | true => exact seat_same h hT x ka kc hv c (.inr hs)
    | false => exact seat_new h hT x ka kc hv hap c hc hB he hs
  · exact seat_same h hT x ka kc hv c (.inl he)
end Go.Proofs.YtlbmijcpalfaeaaDoor.Gt

set_option linter.unusedSimpArgs false
set_option linter.unusedVariables false
namespace Go.Proofs.YtlbmijcpalfaeaaDoor
open Go.RowKit Go.Lib Go.Sort

/-- Sizes in the making. -/
structure FixP (n : Nat) (cells : List (Nd × Int)) (zs : List Int) : Prop where
  len : zs.length = n
  hit : ∀ q : Int, 0 ≤ q → q < (n : Int) → szLs zs q = 1073741824 ∨ ∃ c ∈ cells, c.2 = q ∧ sizeD (szLs zs) c.1.kids ≤ szLs zs q
  rng : ∀ z ∈ zs, 1 ≤ z ∧ z ≤ 1073741824
theorem FixP.at_ {n : Nat} {cells : List (Nd × Int)} {zs : List Int} (h : FixP n cells zs) {q : Int} (h0 : 0 ≤ q) (h1 : q < (n : Int)) : 1 ≤ szLs zs q ∧ szLs zs q ≤ 1073741824 := by
  have := h.len
  unfold szLs
  rw [List.getD_eq_getElem?_getD, List.getElem?_eq_getElem (by omega)]
  exact h.rng _ (List.getElem_mem _)
theorem FixP.start (n : Nat) (cells : List (Nd × Int)) : FixP n cells (List.replicate n 1073741824) :=
  ⟨by simp, fun q h0 h1 => .inl (by unfold szLs; rw [List.getD_eq_getElem?_getD, List.getElem?_eq_getElem (by simp; omega)]; simp), fun z hz => by rw [List.mem_replicate] at hz; omega⟩
theorem szLs_set {zs : List Int} {i : Nat} {z : Int} {q : Int} (h0 : 0 ≤ q) (hi : i < zs.length) : szLs (zs.set i z) q = if q = (i : Int) then z else szLs zs q := by
  unfold szLs
  by_cases e : q = (i : Int)
  · subst e; rw [if_pos rfl, Int.toNat_natCast]; simp [hi]
  · rw [if_neg e]; simp only [List.getD_eq_getElem?_getD]; rw [List.getElem?_set_ne (by omega)]
theorem sizeD_mono {sz sz' : Int → Int} {ks : List Int} (h : ∀ k ∈ ks, 0 ≤ sz k ∧ sz k ≤ sz' k) : sizeD sz ks ≤ sizeD sz' ks := by
  rw [sizeD_eq (fun k hk => (h k hk).1), sizeD_eq (fun k hk => by have := h k hk; omega)]
  have : sumK sz ks ≤ sumK sz' ks := by
    induction ks with
    | nil => simp [sumK]
    | cons k ks ih => have := h k (by simp); have := ih (fun x hx => h x (by simp [hx])); simp only [sumK]; omega
  omega
theorem FixP.put {n : Nat} {cells : List (Nd × Int)} {zs : List Int} (h : FixP n cells zs) (hc : InCs n cells) {c : Nd × Int} (hm : c ∈ cells) (hlt : sizeD (szLs zs) c.1.kids < szLs zs c.2) : FixP n cells (zs.set c.2.toNat (sizeD (szLs zs) c.1.kids)) := by
  have hcl := hc.cl c hm
  have hl := h.len
  have hk : ∀ d ∈ cells, ∀ k ∈ d.1.kids, 1 ≤ szLs zs k := fun d hd k hk => (h.at_ (hc.kids d hd k hk).1 (hc.kids d hd k hk).2).1
  have h1 : 1 ≤ sizeD (szLs zs) c.1.kids := by
    rw [sizeD_eq (fun k hk2 => by have := hk c hm k hk2; omega)]
    have := sumK_nonneg (sz := szLs zs) (ks := c.1.kids) (fun k hk2 => by have := hk c hm k hk2; omega)
    omega
  have hmx := (h.at_ hcl.1 hcl.2).2
  have hle : ∀ q : Int, 0 ≤ q → q < (n : Int) → 0 ≤ szLs (zs.set c.2.toNat (sizeD (szLs zs) c.1.kids)) q ∧ szLs (zs.set c.2.toNat (sizeD (szLs zs) c.1.kids)) q ≤ szLs zs q := fun q h0 hq => by
    have := h.at_ h0 hq
    rw [szLs_set h0 (by omega)]
    split
    · rename_i e; have e2 : q = c.2 := by omega
      subst e2; omega
    · omega
  refine ⟨by simpa using hl, fun q h0 hq => ?_, fun z hz => ?_⟩
  · have hmono : ∀ d ∈ cells, sizeD (szLs (zs.set c.2.toNat (sizeD (szLs zs) c.1.kids))) d.1.kids ≤ sizeD (szLs zs) d.1.kids := fun d hd => sizeD_mono fun k hk2 => hle k (hc.kids d hd k hk2).1 (hc.kids d hd k hk2).2
    have he := szLs_set (zs := zs) (i := c.2.toNat) (z := sizeD (szLs zs) c.1.kids) h0 (by omega)
    by_cases e : q = c.2
    · right
      refine ⟨c, hm, e.symm, ?_⟩
      have hv : szLs (zs.set c.2.toNat (sizeD (szLs zs) c.1.kids)) q = sizeD (szLs zs) c.1.kids := by rw [he, if_pos (by omega)]
      rw [hv]
      exact hmono c hm
    · have hv : szLs (zs.set c.2.toNat (sizeD (szLs zs) c.1.kids)) q = szLs zs q := by rw [he, if_neg (by omega)]
      rw [hv]
      rcases h.hit q h0 hq with h2 | ⟨d, hd, h2, h3⟩
      · exact .inl h2
      · exact .inr ⟨d, hd, h2, Int.le_trans (hmono d hd) h3⟩
  · rcases List.mem_or_eq_of_mem_set hz with hz | rfl
    · exact h.rng z hz
    · omega
theorem FixP.done {n : Nat} {cells : List (Nd × Int)} {zs : List Int} (h : FixP n cells zs) (hle : ∀ j, j < cells.length → szLs zs (cells.getD j ce0).2 ≤ sizeD (szLs zs) (cells.getD j ce0).1.kids) : FixS n cells (szLs zs) :=
  ⟨fun c hc => by
    obtain ⟨j, hj, e⟩ := List.getElem_of_mem hc
    have := hle j hj
    rw [List.getD_eq_getElem?_getD, List.getElem?_eq_getElem hj] at this
    simp only [Option.getD_some, e] at this
    exact this, h.hit, fun q h0 h1 => h.at_ h0 h1⟩
end Go.Proofs.YtlbmijcpalfaeaaDoor

set_option linter.unusedSimpArgs false
set_option linter.unusedVariables false
namespace Go.Proofs.YtlbmijcpalfaeaaDoor
open Go.RowKit Go.Lib

structure LayI (n : Nat) (cells : List (Nd × Int)) (sz : Int → Int) (F : Nat) (ls : Int → Nd) (fd : Int → Bool) (s : Int) (k : Nat) : Prop where
  low : ∀ q : Int, 0 ≤ q → q < (n : Int) → sz q < s → (ls q, q) ∈ cells ∧ sizeD sz (ls q).kids = sz q ∧ ∀ c ∈ cells, c.2 = q → sizeD sz c.1.kids = sz q → 0 ≤ nodC (ordO sz ls F) c.1 (ls q)
  now : ∀ q : Int, 0 ≤ q → q < (n : Int) → sz q = s → (fd q = true → (ls q, q) ∈ cells ∧ sizeD sz (ls q).kids = sz q) ∧ ∀ j, j < k → ∀ c, cells[j]? = some c → c.2 = q → sizeD sz c.1.kids = sz q → fd q = true ∧ 0 ≤ nodC (ordO sz ls F) c.1 (ls q)
  high : ∀ q : Int, 0 ≤ q → q < (n : Int) → s < sz q → fd q = false
/-- What the classes' sizes have to be. -/
structure SzOk (n : Nat) (cells : List (Nd × Int)) (sz : Int → Int) (F : Nat) : Prop where
  inc : InCs n cells
  fix : FixS n cells sz
  lt : ∀ q : Int, 0 ≤ q → q < (n : Int) → sz q < 1073741824
  big : 1073741824 ≤ F
theorem SzOk.kid {n : Nat} {cells : List (Nd × Int)} {sz : Int → Int} {F : Nat} (h : SzOk n cells sz F) {c : Nd × Int} (hm : c ∈ cells) {t : Int} (ht : sizeD sz c.1.kids = t) (hM : t < 1073741824) : ∀ k ∈ c.1.kids, 0 ≤ k ∧ k < (n : Int) ∧ sz k < t := fun k hk => by
  obtain ⟨a1, a2, _⟩ := h.fix.sum h.inc hm
  have := a2 k hk
  exact ⟨(h.inc.kids c hm k hk).1, (h.inc.kids c hm k hk).2, by omega⟩
theorem LayI.lay {n : Nat} {cells : List (Nd × Int)} {sz : Int → Int} {F : Nat} {ls : Int → Nd} {fd : Int → Bool} {s : Int} {k : Nat} (h : LayI n cells sz F ls fd s k) (hz : SzOk n cells sz F) : LayO n sz ls s :=
  ⟨fun q h0 h1 => by have := (hz.fix.rng q h0 h1).1; omega, fun q hq => hz.inc.form _ (h.low q hq.1 hq.2.1 hq.2.2).1, fun q hq k hk => hz.kid (c := (ls q, q)) (h.low q hq.1 hq.2.1 hq.2.2).1 (h.low q hq.1 hq.2.1 hq.2.2).2.1 (hz.lt q hq.1 hq.2.1) k hk, fun p q hp hq e => hz.inc.one _ (h.low p hp.1 hp.2.1 hp.2.2).1 _ (h.low q hq.1 hq.2.1 hq.2.2).1 e⟩
theorem nodC_congrL {n : Nat} {sz : Int → Int} {ls ls' : Int → Nd} {s : Int} {F : Nat} (h : LayO n sz ls s) (he : ∀ r, InS n sz s r → ls r = ls' r) (hF : ∀ q : Int, 0 ≤ q → q < (n : Int) → sz q < (F : Int)) {x y : Nd} (hx : ∀ k ∈ x.kids, InS n sz s k) (hy : ∀ k ∈ y.kids, InS n sz s k) : nodC (ordO sz ls F) x y = nodC (ordO sz ls' F) x y := by
  unfold nodC
  refine ordKC _ _ _ fun k hk m hm => ?_
  exact ordO_congr F F s k m h he (hx k hk) (hy m hm) (hF k (hx k hk).1 (hx k hk).2.1) (hF m (hy m hm).1 (hy m hm).2.1) (hF k (hx k hk).1 (hx k hk).2.1) (hF m (hy m hm).1 (hy m hm).2.1)
theorem LayI.start {n : Nat} {cells : List (Nd × Int)} {sz : Int → Int} {F : Nat} {ls : Int → Nd} {fd : Int → Bool} {s : Int} (h0 : ∀ q : Int, 0 ≤ q → q < (n : Int) → s ≤ sz q) (hf : ∀ q, fd q = false) : LayI n cells sz F ls fd s 0 :=
  ⟨fun q a b c => by have := h0 q a b; omega, fun q a b c => ⟨fun h => by (rw [hf] at h; cases h), fun j hj => by omega⟩, fun q _ _ _ => hf q⟩
/-- A cell that is taken. -/
theorem LayI.take {n : Nat} {cells : List (Nd × Int)} {sz : Int → Int} {F : Nat} {ls ls' : Int → Nd} {fd fd' : Int → Bool} {s : Int} {k : Nat} (h : LayI n cells sz F ls fd s k) (hz : SzOk n cells sz F) {c : Nd × Int} (hc : cells[k]? = some c) (h1 : sz c.2 = s) (h2 : sizeD sz c.1.kids = s) (hf : fd c.2 = false ∨ nodC (ordO sz ls F) c.1 (ls c.2) < 0)
    (hl : ∀ q : Int, 0 ≤ q → q < (n : Int) → ls' q = if q = c.2 then c.1 else ls q) (hd : ∀ q : Int, 0 ≤ q → q < (n : Int) → fd' q = if q = c.2 then true else fd q) : LayI n cells sz F ls' fd' s (k + 1) := by
  have hm : c ∈ cells := List.mem_of_getElem? hc
  have hcl := hz.inc.cl c hm
  have hL := h.lay hz
  have hF : ∀ q : Int, 0 ≤ q → q < (n : Int) → sz q < (F : Int) := fun q a b => by have := hz.lt q a b; have := hz.big; omega
  have hsM : s < 1073741824 := by rw [← h1]; exact hz.lt _ hcl.1 hcl.2
  have he : ∀ r, InS n sz s r → ls r = ls' r := fun r hr => by rw [hl r hr.1 hr.2.1, if_neg (by rintro rfl; have := hr.2.2; omega)]
  have hkid : ∀ d ∈ cells, ∀ t, sizeD sz d.1.kids = t → t ≤ s → ∀ k ∈ d.1.kids, InS n sz s k := fun d hd t ht hts k hk => by
    obtain ⟨a, b, e⟩ := hz.kid hd ht (by omega) k hk
    exact ⟨a, b, by omega⟩
  have hcg : ∀ d ∈ cells, ∀ e ∈ cells, sizeD sz d.1.kids ≤ s → sizeD sz e.1.kids ≤ s → nodC (ordO sz ls' F) d.1 e.1 = nodC (ordO sz ls F) d.1 e.1 := fun d hd e he2 h3 h4 => (nodC_congrL hL he hF (hkid d hd _ rfl h3) (hkid e he2 _ rfl h4)).symm
  refine ⟨fun q a b e => ?_, fun q a b e => ?_, fun q a b e => ?_⟩
  · obtain ⟨m1, m2, m3⟩ := h.low q a b e
    have hq : ls' q = ls q := by rw [hl q a b, if_neg (by rintro rfl; omega)]
    rw [hq]
    refine ⟨m1, m2, fun d hd h3 h4 => ?_⟩
    have e2 := hcg d hd (ls q, q) m1 (by omega) (by simp only; omega)
    simp only at e2
    rw [e2]; exact m3 d hd h3 h4
  · by_cases eq : q = c.2
    · subst eq
      have hq : ls' c.2 = c.1 := by rw [hl _ a b, if_pos rfl]
      have hq2 : fd' c.2 = true := by rw [hd _ a b, if_pos rfl]
      rw [hq, hq2]
      refine ⟨fun _ => ⟨hm, by omega⟩, fun j hj d hd2 h3 h4 => ⟨rfl, ?_⟩⟩
      have hdm : d ∈ cells := List.mem_of_getElem? hd2
      rw [hcg d hdm c hm (by omega) (by omega)]
      have hcm := cmp_nod (ordO_cmp F s hL)
      have pc : formB c.1 = true ∧ ∀ k ∈ c.1.kids, InS n sz s k := ⟨hz.inc.form c hm, hkid c hm _ rfl (by omega)⟩
      have pd : formB d.1 = true ∧ ∀ k ∈ d.1.kids, InS n sz s k := ⟨hz.inc.form d hdm, hkid d hdm _ rfl (by omega)⟩
      by_cases ej : j = k
      · subst ej
        rw [hc] at hd2
        injection hd2 with hd2
        subst hd2
        rw [hcm.self pc]; omega
      · obtain ⟨f1, f2⟩ := (h.now c.2 a b e).2 j (by omega) d hd2 h3 h4
        obtain ⟨g1, g2⟩ := (h.now c.2 a b e).1 f1
        rcases hf with hf | hf
        · rw [hf] at f1; cases f1
        · have pl : formB (ls c.2) = true ∧ ∀ k ∈ (ls c.2).kids, InS n sz s k := ⟨hz.inc.form _ g1, hkid _ g1 _ rfl (by simp only; omega)⟩
          have n1 := hcm.neg _ _ pd pl
          have n2 := hcm.neg _ _ pd pc
          have t := hcm.trans c.1 (ls c.2) d.1 pc pl pd (by omega) (by omega)
          omega
    · have hq : ls' q = ls q := by rw [hl q a b, if_neg eq]
      have hq2 : fd' q = fd q := by rw [hd q a b, if_neg eq]
      rw [hq, hq2]
      refine ⟨(h.now q a b e).1, fun j hj d hd2 h3 h4 => ?_⟩
      have hdm : d ∈ cells := List.mem_of_getElem? hd2
      by_cases ej : j = k
      · subst ej
        rw [hc] at hd2
        injection hd2 with hd2
        subst hd2
        exact absurd h3.symm eq
      · obtain ⟨f1, f2⟩ := (h.now q a b e).2 j (by omega) d hd2 h3 h4
        obtain ⟨g1, g2⟩ := (h.now q a b e).1 f1
        refine ⟨f1, ?_⟩
        have e2 := hcg d hdm (ls q, q) g1 (by omega) (by simp only; omega)
        simp only at e2
        rw [e2]; exact f2
  · rw [hd q a b, if_neg (by rintro rfl; omega)]
    exact h.high q a b e
/-- All cells have been looked at: the classes of this size have their least nodes. -/
theorem LayI.all {n : Nat} {cells : List (Nd × Int)} {sz : Int → Int} {F : Nat} {ls : Int → Nd} {fd : Int → Bool} {s : Int} (h : LayI n cells sz F ls fd s cells.length) (hz : SzOk n cells sz F) : ∀ q : Int, 0 ≤ q → q < (n : Int) → sz q ≤ s → (ls q, q) ∈ cells ∧ sizeD sz (ls q).kids = sz q ∧ ∀ c ∈ cells, c.2 = q → sizeD sz c.1.kids = sz q → 0 ≤ nodC (ordO sz ls F) c.1 (ls q) := fun q a b e => by
  by_cases e2 : sz q < s
  · exact h.low q a b e2
  · have e3 : sz q = s := by omega
    obtain ⟨n1, n2⟩ := h.now q a b e3
    have hM := hz.lt q a b
    obtain ⟨c, hc, h1, h2⟩ : ∃ c ∈ cells, c.2 = q ∧ sizeD sz c.1.kids = sz q := by
      rcases hz.fix.hit q a b with h1 | ⟨c, hc, h1, h2⟩
      · omega
      · exact ⟨c, hc, h1, by have := hz.fix.le c hc; rw [h1] at this; omega⟩
    have key : ∀ c ∈ cells, c.2 = q → sizeD sz c.1.kids = sz q → fd q = true ∧ 0 ≤ nodC (ordO sz ls F) c.1 (ls q) := fun c hc h1 h2 => by
      obtain ⟨j, hj, e4⟩ := List.getElem_of_mem hc
      exact n2 j hj c (by rw [List.getElem?_eq_getElem hj, e4]) h1 h2
    obtain ⟨g1, g2⟩ := n1 (key c hc h1 h2).1
    exact ⟨g1, g2, fun c hc h1 h2 => (key c hc h1 h2).2⟩
theorem LayI.next {n : Nat} {cells : List (Nd × Int)} {sz : Int → Int} {F : Nat} {ls : Int → Nd} {fd : Int → Bool} {s s' : Int} (h : LayI n cells sz F ls fd s cells.length) (hz : SzOk n cells sz F) (hs : s < s') (hno : ∀ q : Int, 0 ≤ q → q < (n : Int) → sz q ≤ s ∨ s' ≤ sz q) : LayI n cells sz F ls fd s' 0 :=
  ⟨fun q a b e => h.all hz q a b ((hno q a b).elim id (fun h1 => by omega)), fun q a b e => ⟨fun hf => by (rw [h.high q a b (by omega)] at hf; cases hf), fun j hj => by omega⟩, fun q a b e => h.high q a b (by omega)⟩
theorem LayI.done {n : Nat} {cells : List (Nd × Int)} {sz : Int → Int} {F : Nat} {ls : Int → Nd} {fd : Int → Bool} {s : Int} (h : LayI n cells sz F ls fd s cells.length) (hz : SzOk n cells sz F) (hs : ∀ q : Int, 0 ≤ q → q < (n : Int) → sz q ≤ s) : LstO n cells sz ls F :=
  ⟨fun q a b => ⟨(h.all hz q a b (hs q a b)).1, (h.all hz q a b (hs q a b)).2.1⟩, fun c hc e => by
    have hcl := hz.inc.cl c hc
    exact (h.all hz c.2 hcl.1 hcl.2 (hs _ hcl.1 hcl.2)).2.2 c hc rfl e⟩
end Go.Proofs.YtlbmijcpalfaeaaDoor

set_option linter.unusedSimpArgs false
set_option linter.unusedVariables false
namespace Go.Proofs.YtlbmijcpalfaeaaDoor
open Go.RowKit Go.Lib Go.Sort

theorem below_of_grown {W wr : World} {sh : Nat} (h : W.grownBy wr (some sh)) (hs : sh ≤ W.heap.size) : Below sh W wr := by
  obtain ⟨h1, h2, h3, h4, h5⟩ := h
  exact ⟨h1, h2, h3, h4, fun k hk => h5 k (by omega) (by simp; omega)⟩
theorem ownSetO {w : World} {base b o : Nat} {e : TypeId} {s n : Nat} {v u : Value} {xs : List Value} (h : w.ownsRow base e s v n xs) (hp : v.ownBlock ≠ some b) : (w.setCell ⟨b, o, none⟩ u).ownsRow base e s v n xs := by
  rcases h with ⟨h1, h2⟩
  refine ⟨h1, ?_⟩
  rcases h2 with h2 | ⟨g, cap, cur, rfl, hg, h3, r⟩
  · exact .inl h2
  · exact .inr ⟨g, cap, cur, rfl, hg, (Deep.blk_setCell_other _ _ _ _ (by show g ≠ b; rintro rfl; exact hp rfl)).trans h3, r⟩
theorem grownBelow {W wr w2 : World} {row : Option Nat} (h : W.grownBy wr row) (hb : Below wr.heap.size wr w2) : W.grownBy w2 row :=
  grown_trans' h (grown_of_below hb none) (fun b hb => by cases hb)

structure LyM (W : World) (sh n LB FB : Nat) (cv zv : Value) (p : List (Nd × Value)) (fd : List Bool) (wr : World) : Prop where
  row : wr.ownsRow W.heap.size 43 4 (.slice (some ⟨LB, 0, none⟩) n n) n (ndCells p)
  frow : wr.ownsRow W.heap.size 4 1 (.slice (some ⟨FB, 0, none⟩) n n) n (fd.map Value.bool)
  len : p.length = n
  flen : fd.length = n
  kids : ∀ q ∈ p, Ints W sh q.2 q.1.kids
  blk : wr.heap[sh]? = some (.cells #[cv, zv, .slice (some ⟨LB, 0, none⟩) n n] 146 (0, 0))
  gr : W.grownBy wr (some sh)
  shl : sh < W.heap.size
theorem LyM.c0 {W : World} {sh n LB FB : Nat} {cv zv : Value} {p : List (Nd × Value)} {fd : List Bool} {wr : World} (h : LyM W sh n LB FB cv zv p fd wr) : wr.cell? ⟨sh, 0, none⟩ = some cv := by simp [World.cell?, h.blk]
theorem LyM.c1 {W : World} {sh n LB FB : Nat} {cv zv : Value} {p : List (Nd × Value)} {fd : List Bool} {wr : World} (h : LyM W sh n LB FB cv zv p fd wr) : wr.cell? ⟨sh, 1, none⟩ = some zv := by simp [World.cell?, h.blk]
theorem LyM.c2 {W : World} {sh n LB FB : Nat} {cv zv : Value} {p : List (Nd × Value)} {fd : List Bool} {wr : World} (h : LyM W sh n LB FB cv zv p fd wr) : wr.cell? ⟨sh, 2, none⟩ = some (.slice (some ⟨LB, 0, none⟩) n n) := by simp [World.cell?, h.blk]
theorem LyM.below {W : World} {sh n LB FB : Nat} {cv zv : Value} {p : List (Nd × Value)} {fd : List Bool} {wr w2 : World} (h : LyM W sh n LB FB cv zv p fd wr) (hb : Below wr.heap.size wr w2) : LyM W sh n LB FB cv zv p fd w2 := by
  have hl : sh < wr.heap.size := World.block_lt_of_cell? wr _ h.c0
  exact ⟨ownsRow_below h.row hb, ownsRow_below h.frow hb, h.len, h.flen, h.kids, (hb.block sh hl).trans h.blk, grownBelow h.gr hb, h.shl⟩
theorem LyM.blw {W : World} {sh n LB FB : Nat} {cv zv : Value} {p : List (Nd × Value)} {fd : List Bool} {wr : World} (h : LyM W sh n LB FB cv zv p fd wr) : Below sh W wr := below_of_grown h.gr (by have := h.shl; omega)
theorem LyM.nodes {W : World} {sh n LB FB : Nat} {cv zv : Value} {p : List (Nd × Value)} {fd : List Bool} {wr : World} (h : LyM W sh n LB FB cv zv p fd wr) (hn : n ≤ 4096) : Nodes wr wr.heap.size (.slice (some ⟨LB, 0, none⟩) n n) (p.map (·.1)) := by
  have hl := h.len
  refine ⟨_, n, by rw [List.length_map, hl], by rw [List.length_map]; omega, by unfold maxLen; omega, ?_⟩
  by_cases h0 : p = []
  · left; rw [h0]; rfl
  · right
    have hb := (rw_block h.row (b := LB) rfl).2.1
    refine ⟨LB, 0, rfl, hb, fun i hi => ?_⟩
    rw [List.length_map] at hi
    obtain ⟨⟨x, kv⟩, hx⟩ : ∃ xk, p[i]? = some xk := ⟨p[i], List.getElem?_eq_getElem hi⟩
    obtain ⟨a0, a1, a2, a3, _⟩ := rowN_at h.row hx
    have e : (p.map (·.1)).getD i nd0 = x := by rw [List.getD_eq_getElem?_getD, List.getElem?_map, hx]; rfl
    rw [e, Nat.zero_add]
    exact ⟨kv, a0, a1, a2, a3, (h.kids _ (List.mem_of_getElem? hx)).below h.blw (by have := h.shl; have := h.blw.size; omega)⟩
theorem LyM.shr {W : World} {sh n LB FB : Nat} {cv : Value} {p : List (Nd × Value)} {fd : List Bool} {wr : World} {za : Option Addr} {zc : Nat} {zs : List Int} (h : LyM W sh n LB FB cv (.slice za n zc) p fd wr) (hn : n ≤ 4096) (hz : Ints W sh (.slice za n zc) zs) (hl : zs.length = n) : ShR wr sh za zc (some ⟨LB, 0, none⟩) n zs (p.map (·.1)) := by
  have hp := h.len
  refine ⟨by rw [hl]; exact h.c1, by rw [List.length_map, hp]; exact h.c2, by rw [hl]; exact hz.below h.blw (by have := h.shl; have := h.blw.size; omega), by rw [List.length_map, hp]; exact h.nodes hn, by rw [List.length_map, hp, hl]⟩
theorem LyM.ne {W : World} {sh n LB FB : Nat} {cv zv : Value} {p : List (Nd × Value)} {fd : List Bool} {wr : World} (h : LyM W sh n LB FB cv zv p fd wr) : FB ≠ LB ∧ W.heap.size ≤ FB ∧ W.heap.size ≤ LB := by
  refine ⟨fun e => ?_, (rw_block h.frow (b := FB) rfl).1, (rw_block h.row (b := LB) rfl).1⟩
  rcases ownBlock_ne h.frow h.row (by decide) with n1 | n1
  · simp [Value.ownBlock] at n1
  · exact n1 (by simp [Value.ownBlock, e])
end Go.Proofs.YtlbmijcpalfaeaaDoor
