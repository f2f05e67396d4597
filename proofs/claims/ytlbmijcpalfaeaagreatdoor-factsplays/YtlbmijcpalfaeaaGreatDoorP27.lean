/-
  GmT, TbA2, GmP, GmW.
-/
import Derived.Test.YtlbmijcpalfaeaaGreatDoorP26
import Derived.Laws.OwnMore
set_option linter.unusedSimpArgs false
set_option linter.unusedVariables false
namespace Go.Proofs.YtlbmijcpalfaeaaGreatDoor.Gt
open Go.RowKit Go.Lib

theorem OwR.turnAt {w w' : World} {base i : Nat} {v v' : Value} {l l' : List Int} {R : List (Value × List Int)} (h : OwR w base R) (hi : R[i]? = some (v, l)) (hg : w.grownBy w' v.ownBlock) (ho : OwnI w' base v' l') (hv : v'.ownBlock = v.ownBlock ∨ ∀ b, v'.ownBlock = some b → w.heap.size ≤ b) : OwR w' base (R.set i (v', l')) := by
  obtain ⟨hlt, he⟩ := List.getElem?_eq_some_iff.1 hi
  have e1 : R = R.take i ++ (v, l) :: R.drop (i + 1) := by rw [← he]; simp
  have e2 : R.set i (v', l') = R.take i ++ (v', l') :: R.drop (i + 1) := by rw [List.set_eq_take_append_cons_drop, if_pos hlt]
  rw [e2]
  rw [e1] at h
  exact ((h.perm List.perm_middle).turn hg ho hv).perm List.perm_middle.symm
theorem own_none (w : World) (base : Nat) : OwnI w base (.slice none 0 0) [] := ⟨rfl, .inl ⟨rfl, rfl⟩⟩
theorem OwR.snoc {w : World} {base : Nat} {R : List (Value × List Int)} (h : OwR w base R) : OwR w base (R ++ [(.slice none 0 0, [])]) :=
  (h.cons (own_none w base) (fun r hr b hb => by simp [Value.ownBlock])).perm (List.perm_append_comm (l₁ := [_]))
theorem OwR.drop {w : World} {base i : Nat} {R : List (Value × List Int)} (h : OwR w base R) (hi : i < R.length) : OwR w base (R.set i (.slice none 0 0, [])) := by
  have hs := List.set_eq_take_append_cons_drop (l := R) (i := i) (a := (Value.slice none 0 0, ([] : List Int)))
  rw [if_pos hi] at hs
  have e1 : R = R.take i ++ R[i] :: R.drop (i + 1) := by simp
  have h2 := h
  rw [e1] at h2
  have h3 := h2.perm List.perm_middle
  have h4 : OwR w base (R.take i ++ R.drop (i + 1)) := ⟨fun r hr => h3.own r (List.mem_cons_of_mem _ hr), (List.pairwise_cons.1 h3.ap).2⟩
  rw [hs]
  exact (h4.cons (own_none w base) (fun r hr b hb => by simp [Value.ownBlock])).perm List.perm_middle.symm

/-- A row that is none of the table's turns: the table stands. -/
theorem GrM.tbAny {w w' : World} {p base s n : Nat} {e : TypeId} {v : Value} {xs : List Value} {G : Gs} (h : GrM w p G) (ho : w.ownsRow base e s v n xs) (hg : w.grownBy w' v.ownBlock) (h1 : e ≠ 90) (h2 : e ≠ 159) : @TbM G.gr w' p G.ev G.mv G.L := by
  refine TbM.tail h.tb ((hg.block p h.lt fun e => row_ne_ty ho h.blk h1 e.symm).trans h.blk) fun b hb hne hs => hg.block b hb fun e => ?_
  obtain ⟨_, _, cap, cu, _, h4, _⟩ := rw_block ho e.symm
  exact @TbM.typed G.gr _ _ _ _ _ h.tb _ _ _ _ h4 h1 h2 hs
theorem seRows_get {ss : List Se} {i : Nat} (hi : i < ss.length) : (seRows ss)[i]? = some ((ss.getD i se0).uv, (ss.getD i se0).us) := by
  simp [seRows, hi]
theorem mem_rows {G : Gs} {i : Nat} (hi : i < G.ss.length) : ((G.ss.getD i se0).uv, (G.ss.getD i se0).us) ∈ (G.rv, G.rs) :: seRows G.ss :=
  List.mem_cons_of_mem _ (List.mem_of_getElem? (seRows_get hi))
/-- A seat more. -/
theorem GrM.grow {w w6 : World} {p g6 c6 n : Nat} {G : Gs} (h : GrM w p G) (hn : G.ss.length = n) (hown : w6.ownsRow (p + 1) 120 5 (.slice (some ⟨g6, 0, none⟩) (n + 1) c6) (n + 1) (seCells G.ss ++ seC se0)) (hg : w.grownBy w6 G.sv.ownBlock) (hat : G.sv.ownBlock = some g6 ∨ g6 = w.heap.size) (hl : n < G.L.length) :
    GrT w p G { G with sv := .slice (some ⟨g6, 0, none⟩) (n + 1) c6, ss := G.ss ++ [se0] } (w6.setCell ⟨p, 2, none⟩ (.slice (some ⟨g6, 0, none⟩) (n + 1) c6)) := by
  have htb := h.tbRow hg
  have hbk : w6.heap[p]? = _ := (hg.block p h.lt fun e => row_ne_ty h.row h.blk (by decide) e.symm).trans h.blk
  have hrs := h.rowsRow hg
  have hR : seRows (G.ss ++ [se0]) = seRows G.ss ++ [(.slice none 0 0, [])] := by simp [seRows, se0]
  refine ⟨⟨TbM.tail htb ?_ fun b _ hb _ => Deep.blk_setCell_other _ _ _ _ hb, ?_, ?_, by simp; omega⟩, Tk.trans (Tk.grown hg (GrS p G) fun b hb => .inr (.inl hb)) (Tk.set (GrS p G) (.inl (.inl rfl))) (fun b hb => .inl hb), fun b hb => ?_⟩
  · have := heap_setCell_same w6 p 2 _ _ (.slice (some ⟨g6, 0, none⟩) (n + 1) c6) hbk
    rw [this]; rfl
  · have h1 := own_set' (o := 2) (u := .slice (some ⟨g6, 0, none⟩) (n + 1) c6) hown (row_ne_ty hown hbk (by decide))
    simp only [seCells_app, List.length_append, hn]
    simpa [seCells] using h1
  · simp only [hR]
    refine (OwR.snoc hrs).kept (grown_set _ _ _ _) fun r hr b hb e => ?_
    cases e
    rw [List.cons_append, ← List.cons_append] at hr
    exact row_ne_ty ((OwR.snoc hrs).own r (by simpa using hr)) hbk (by decide) hb
  · rcases hb with hb | hb | ⟨r, hr, hb⟩
    · exact .inl (.inl hb)
    · simp only [Value.ownBlock] at hb
      rcases hat with hat | hat
      · left; right; left; rw [hat]; simpa using hb
      · right; simp at hb; omega
    · simp only [hR] at hr
      rw [← List.cons_append, List.mem_append] at hr
      rcases hr with hr | hr
      · exact .inl (.inr (.inr ⟨r, hr, hb⟩))
      · simp at hr; subst hr; simp [Value.ownBlock] at hb
/-- A seat's uses are none from now on. -/
theorem GrM.drop {w : World} {p sg cap i : Nat} {G : Gs} (h : GrM w p G) (hsv : G.sv = .slice (some ⟨sg, 0, none⟩) G.ss.length cap) (hi : i < G.ss.length) :
    GrT w p G { G with ss := G.ss.set i { (G.ss.getD i se0) with us := [], uv := .slice none 0 0 } } (w.setCell ⟨sg, i * 5 + 4, none⟩ (.slice none 0 0)) := by
  have hg : w.grownBy (w.setCell ⟨sg, i * 5 + 4, none⟩ (.slice none 0 0)) G.sv.ownBlock := by rw [hsv]; exact grown_set _ _ _ _
  have hR : seRows (G.ss.set i { (G.ss.getD i se0) with us := [], uv := .slice none 0 0 }) = (seRows G.ss).set i (.slice none 0 0, []) := by simp [seRows, List.map_set]
  have hlen : i < (seRows G.ss).length := by simpa [seRows] using hi
  refine ⟨⟨h.tbRow hg, ?_, ?_, by simpa using h.le⟩, Tk.set _ (.inr (.inl (by rw [hsv]; rfl))), fun b hb => .inl ?_⟩
  · have hr := h.row
    rw [hsv] at hr
    have := own_put hr (i := i * 5 + 4) (u := .slice none 0 0) (by rw [seCells_len]; omega)
    rw [seCells_set _ i 4 (.slice none 0 0) { (G.ss.getD i se0) with us := [], uv := .slice none 0 0 } hi (by omega) rfl] at this
    simp only [List.length_set]
    rw [hsv]
    exact this
  · simp only [hR]
    have := OwR.drop (h.rowsRow hg) (i := i + 1) (by simpa using hlen)
    simpa using this
  · rcases hb with hb | hb | ⟨r, hr, hb⟩
    · exact .inl hb
    · exact .inr (.inl hb)
    · simp only [hR] at hr
      rcases List.mem_cons.1 hr with hr | hr
      · exact .inr (.inr ⟨r, by rw [hr]; simp, hb⟩)
      · rcases List.mem_or_eq_of_mem_set hr with hr | hr
        · exact .inr (.inr ⟨r, List.mem_cons_of_mem _ hr, hb⟩)
        · rw [hr] at hb; simp [Value.ownBlock] at hb
/-- A use more. -/
theorem GrM.use {w w6 : World} {p sg cap i g6 c6 n : Nat} {z : Int} {G : Gs} (h : GrM w p G) (hsv : G.sv = .slice (some ⟨sg, 0, none⟩) G.ss.length cap) (hi : i < G.ss.length) {s : Se} (hs : G.ss.getD i se0 = s) (hn : s.us.length = n)
    (hown : w6.ownsRow (p + 1) 3 1 (.slice (some ⟨g6, 0, none⟩) (n + 1) c6) (n + 1) (s.us.map (Value.int .i64) ++ [.int .i64 z])) (hg : w.grownBy w6 s.uv.ownBlock) (hat : s.uv.ownBlock = some g6 ∨ g6 = w.heap.size) :
    GrT w p G { G with ss := G.ss.set i { s with us := s.us ++ [z], uv := .slice (some ⟨g6, 0, none⟩) (n + 1) c6 } } (w6.setCell ⟨sg, i * 5 + 4, none⟩ (.slice (some ⟨g6, 0, none⟩) (n + 1) c6)) := by
  have hm := mem_rows (G := G) hi
  rw [hs] at hm
  have hou := h.rows.own _ hm
  have htb := h.tbAny hou hg (by decide) (by decide)
  have hrow6 : w6.ownsRow (p + 1) 120 5 G.sv G.ss.length (seCells G.ss) := World.ownsRow.kept h.row hg (ownBlock_ne h.row hou (by decide))
  have ho6 : OwnI w6 (p + 1) (.slice (some ⟨g6, 0, none⟩) (n + 1) c6) (s.us ++ [z]) := by
    unfold OwnI
    rw [List.length_append, hn, List.map_append]; exact hown
  have hgi : ((G.rv, G.rs) :: seRows G.ss)[i + 1]? = some (s.uv, s.us) := by rw [List.getElem?_cons_succ, seRows_get hi, hs]
  have hrs6 := OwR.turnAt h.rows hgi hg ho6 (by
    rcases hat with hat | hat
    · exact .inl hat.symm
    · exact .inr fun b hb => by simp [Value.ownBlock] at hb; omega)
  have h6 : @TbM G.gr w6 p G.ev G.mv G.L := htb
  have hblk6 : w6.heap[p]? = some (.cells #[G.ev, G.mv, G.sv, .int .i64 G.cl, .int .i64 G.nd, G.rv] 90 (0, 0)) := @TbM.blk G.gr _ _ _ _ _ htb
  have hg2 : w6.grownBy (w6.setCell ⟨sg, i * 5 + 4, none⟩ (.slice (some ⟨g6, 0, none⟩) (n + 1) c6)) G.sv.ownBlock := by rw [hsv]; exact grown_set _ _ _ _
  have hR : seRows (G.ss.set i { s with us := s.us ++ [z], uv := .slice (some ⟨g6, 0, none⟩) (n + 1) c6 }) = (seRows G.ss).set i (.slice (some ⟨g6, 0, none⟩) (n + 1) c6, s.us ++ [z]) := by simp [seRows, List.map_set]
  refine ⟨⟨?_, ?_, ?_, by simpa using h.le⟩, Tk.trans (Tk.grown hg (GrS p G) fun b hb => .inr (.inr ⟨_, hm, hb⟩)) (Tk.set (GrS p G) (.inr (.inl (by rw [hsv]; rfl)))) (fun b hb => .inl hb), fun b hb => ?_⟩
  · refine TbM.tail htb ((hg2.block p (lt_of_block hblk6) fun e => row_ne_ty hrow6 hblk6 (by decide) e.symm).trans hblk6) fun b hb hne hs2 => hg2.block b hb fun e => ?_
    obtain ⟨_, _, cap', cu, _, h4, _⟩ := rw_block hrow6 e.symm
    exact @TbM.typed G.gr _ _ _ _ _ htb _ _ _ _ h4 (by decide) (by decide) hs2
  · have hr := hrow6
    rw [hsv] at hr
    have := own_put hr (i := i * 5 + 4) (u := .slice (some ⟨g6, 0, none⟩) (n + 1) c6) (by rw [seCells_len]; omega)
    rw [seCells_set _ i 4 (.slice (some ⟨g6, 0, none⟩) (n + 1) c6) { s with us := s.us ++ [z], uv := .slice (some ⟨g6, 0, none⟩) (n + 1) c6 } hi (by omega) (by rw [hs]; rfl)] at this
    simp only [List.length_set]
    rw [hsv]
    exact this
  · simp only [hR]
    refine OwR.kept (by simpa using hrs6) hg2 fun r hr b hb e => ?_
    rcases ownBlock_ne (hrs6.own r (by simpa using hr)) hrow6 (by decide) with n1 | n1
    · rw [n1] at hb; cases hb
    · exact n1 (by rw [hb, e])
  · rcases hb with hb | hb | ⟨r, hr, hb⟩
    · exact .inl (.inl hb)
    · exact .inl (.inr (.inl hb))
    · simp only [hR] at hr
      rcases List.mem_cons.1 hr with hr | hr
      · exact .inl (.inr (.inr ⟨r, by rw [hr]; simp, hb⟩))
      · rcases List.mem_or_eq_of_mem_set hr with hr | hr
        · exact .inl (.inr (.inr ⟨r, List.mem_cons_of_mem _ hr, hb⟩))
        · rw [hr] at hb
          simp [Value.ownBlock] at hb
          rcases hat with hat | hat
          · exact .inl (.inr (.inr ⟨_, hm, by rw [hat, hb]⟩))
          · right; omega
end Go.Proofs.YtlbmijcpalfaeaaGreatDoor.Gt

set_option linter.unusedSimpArgs false
set_option linter.unusedVariables false
namespace Go.Proofs.YtlbmijcpalfaeaaGreatDoor
open Go.RowKit Go.Lib Go.Sort Go.Maps

theorem TbM.typed {w : World} {p : Nat} {ev mv : Value} {L : List Nd} (h : TbM w p ev mv L) {b : Nat} {cur : Array Value} {e : TypeId} {fr : Nat × Nat} (hb : w.heap[b]? = some (.cells cur e fr)) (h1 : e ≠ 87) (h2 : e ≠ 159) : ¬ TbS p ev mv b := by
  rintro (rfl | hr | hm)
  · rw [h.blk] at hb
    injection hb with hb
    injection hb with _ hb
    exact h1 hb.symm
  · obtain ⟨_, _, cap, cu, _, h3, _⟩ := rw_block h.on hr
    rw [h3] at hb
    injection hb with hb
    injection hb with _ hb
    exact h2 hb.symm
  · rcases h.ids with ⟨h3, _⟩ | ⟨B, h3, _, h4⟩
    · rw [h3] at hm; cases hm
    · rw [h3] at hm
      cases hm
      obtain ⟨es, c, h5⟩ := h4.obj
      rw [h5] at hb; cases hb
theorem own_tb {w w' : World} {p : Nat} {ev mv : Value} {L : List Nd} (h : TbM w p ev mv L) (ht : Tk (TbS p ev mv) w w') {base : Nat} {e : TypeId} {s n : Nat} {v : Value} {xs : List Value} (ho : w.ownsRow base e s v n xs) (h1 : e ≠ 87) (h2 : e ≠ 159) : w'.ownsRow base e s v n xs :=
  rw_same ho (fun b hb => by
    obtain ⟨_, h3, cap, cu, _, h4, _⟩ := rw_block ho hb
    exact ht.same b h3 (h.typed h4 h1 h2))
theorem OwnI.tb {w w' : World} {p : Nat} {ev mv : Value} {L : List Nd} (h : TbM w p ev mv L) (ht : Tk (TbS p ev mv) w w') {base : Nat} {v : Value} {ks : List Int} (ho : OwnI w base v ks) : OwnI w' base v ks := own_tb h ht ho (by decide) (by decide)
theorem OwnP.tb {w w' : World} {p : Nat} {ev mv : Value} {L : List Nd} (h : TbM w p ev mv L) (ht : Tk (TbS p ev mv) w w') {base : Nat} {v : Value} {q : List (Nd × Value)} (ho : OwnP w base v q) : OwnP w' base v q :=
  ⟨own_tb h ht ho.row (by decide) (by decide), fun y hy => (ho.kids y hy).tb h ht⟩
theorem OwnN.tb {w w' : World} {p : Nat} {ev mv : Value} {L : List Nd} (h : TbM w p ev mv L) (ht : Tk (TbS p ev mv) w w') {base : Nat} {v : Value} {l : List Nd} (ho : OwnN w base v l) : OwnN w' base v l := let ⟨q, h1, h2⟩ := ho; ⟨q, h1, h2.tb h ht⟩
/-- The kids of a shape while they are turned into numbers. -/
def mixK (ids : List Nat) (ks : List Int) (k j : Nat) : Int := if j < k then ((ids.getD (ks.getD j 0).toNat 0 : Nat) : Int) else ks.getD j 0
def mixC (op n : Int) (nm : ByteArray) (ids : List Nat) (ks : List Int) (k : Nat) : Array Value := #[.int .i64 op, .int .i64 n, .string nm, .int .i64 (mixK ids ks k 0), .int .i64 (mixK ids ks k 1), .int .i64 (mixK ids ks k 2)]
theorem mixC_set (op n : Int) (nm : ByteArray) (ids : List Nat) (ks : List Int) (k : Nat) (hk : k < 3) : (mixC op n nm ids ks k).setIfInBounds (3 + k) (.int .i64 ((ids.getD (ks.getD k 0).toNat 0 : Nat) : Int)) = mixC op n nm ids ks (k + 1) := by
  match k, hk with
  | 0, _ => simp [mixC, mixK]
  | 1, _ => simp [mixC, mixK]
  | 2, _ => simp [mixC, mixK]
  | k + 3, h => omega
/-- The inner loop of Add. -/
structure MixM (wc : World) (sb : Nat) (op n : Int) (nm : ByteArray) (ids : List Nat) (ks : List Int) (k : Nat) (wk : World) : Prop where
  blk : wk.heap[sb]? = some (.cells (mixC op n nm ids ks k) 143 (0, 0))
  bel : Below sb wc wk
theorem MixM.step {wc : World} {sb : Nat} {op n : Int} {nm : ByteArray} {ids : List Nat} {ks : List Int} {k : Nat} {wk : World} (h : MixM wc sb op n nm ids ks k wk) (hk : k < 3) : MixM wc sb op n nm ids ks (k + 1) (wk.setCell ⟨sb, 3 + k, none⟩ (.int .i64 ((ids.getD (ks.getD k 0).toNat 0 : Nat) : Int))) := by
  refine ⟨?_, h.bel.setCell (p := ⟨sb, 3 + k, none⟩) (Nat.le_refl _) _⟩
  have := heap_setCell_same wk sb (3 + k) _ 143 (.int .i64 ((ids.getD (ks.getD k 0).toNat 0 : Nat) : Int)) h.blk
  rw [mixC_set _ _ _ _ _ _ hk] at this
  exact this
theorem MixM.cell {wc : World} {sb : Nat} {op n : Int} {nm : ByteArray} {ids : List Nat} {ks : List Int} {k : Nat} {wk : World} (h : MixM wc sb op n nm ids ks k wk) (hk : k < 3) : wk.cell? ⟨sb, 3 + k, none⟩ = some (.int .i64 (ks.getD k 0)) ∧ wk.frozen? ⟨sb, 3 + k, none⟩ = false := by
  have hb := h.blk
  refine ⟨?_, by simp [World.frozen?, hb]⟩
  match k, hk with
  | 0, _ => simp [World.cell?, hb, mixC, mixK]
  | 1, _ => simp [World.cell?, hb, mixC, mixK]
  | 2, _ => simp [World.cell?, hb, mixC, mixK]
  | k + 3, h => omega

/-- Nodes whose kids lie below a block. -/
def ArgO (z : Nat) (w : World) (base : Nat) (vs : Value) (l : List Nd) : Prop := ∃ q : List (Nd × Value), q.map (·.1) = l ∧ OwnP w base vs q ∧ ∀ y ∈ q, ∀ b, y.2.ownBlock = some b → b < z
theorem ArgO.of {w : World} {base : Nat} {vs : Value} {l : List Nd} (h : OwnN w base vs l) : ArgO w.heap.size w base vs l := by
  obtain ⟨q, h1, h2⟩ := h
  exact ⟨q, h1, h2, fun y hy b hb => (rw_block (h2.kids y hy) hb).2.1⟩
theorem ArgO.own {z : Nat} {w : World} {base : Nat} {vs : Value} {l : List Nd} (h : ArgO z w base vs l) : OwnN w base vs l := let ⟨q, h1, h2, _⟩ := h; ⟨q, h1, h2⟩
theorem ArgO.below {z : Nat} {w w' : World} {base : Nat} {vs : Value} {l : List Nd} (h : ArgO z w base vs l) (hb : Below w.heap.size w w') : ArgO z w' base vs l := let ⟨q, h1, h2, h3⟩ := h; ⟨q, h1, h2.below hb, h3⟩
theorem ArgO.tb {w w' : World} {p : Nat} {ev mv : Value} {L : List Nd} (h : TbM w p ev mv L) (ht : Tk (TbS p ev mv) w w') {z base : Nat} {v : Value} {l : List Nd} (ho : ArgO z w base v l) : ArgO z w' base v l := let ⟨q, h1, h2, h3⟩ := ho; ⟨q, h1, h2.tb h ht, h3⟩
/-- Add between two rounds. -/
structure AdMid (w : World) (p : Nat) (ev mv : Value) (L l : List Nd) (base : Nat) (vs : Value) (G : Nat) (k : Nat) (wr : World) (Lk : List Nd) (ids : List Nat) : Prop where
  run : addR (L, []) (l.take k) = some (Lk, ids)
  len : ids.length = k
  tb : ∃ ev' mv', TbT w p ev mv ev' mv' Lk wr
  arg : ArgO w.heap.size wr base vs l
  row : OwnI wr w.heap.size (.slice (some ⟨G, 0, none⟩) l.length l.length) (ids.map (fun i => ((i : Nat) : Int)) ++ List.replicate (l.length - k) 0)
theorem adm_set {ids : List Nat} {n k : Nat} (i : Nat) (hl : ids.length = k) (hk : k < n) : (ids.map (fun i => ((i : Nat) : Int)) ++ List.replicate (n - k) 0).set k ((i : Nat) : Int) = (ids ++ [i]).map (fun i => ((i : Nat) : Int)) ++ List.replicate (n - (k + 1)) 0 := by
  rw [List.set_append_right _ _ (by simp; omega)]
  have e : n - k = (n - (k + 1)) + 1 := by omega
  simp [hl, e, List.replicate_succ]
theorem adm_len {ids : List Nat} {n k : Nat} (hl : ids.length = k) (hk : k ≤ n) : (ids.map (fun i => ((i : Nat) : Int)) ++ List.replicate (n - k) 0).length = n := by simp; omega
/-- A round that put its node in. -/
theorem AdMid.next {w wr wk w' : World} {p : Nat} {ev mv : Value} {L l : List Nd} {base : Nat} {vs : Value} {G k : Nat} {Lk : List Nd} {ids : List Nat} {ev' mv' ev'' mv'' : Value} {L' : List Nd} {i : Nat} (h : AdMid w p ev mv L l base vs G k wr Lk ids) (hk : k < l.length) (ht : TbT w p ev mv ev' mv' Lk wr) (hb : Below wr.heap.size wr wk) (hp : TbT wk p ev' mv' ev'' mv'' L' w') (hs : stA (Lk, ids) (l.getD k nd0) = some (L', ids ++ [i])) :
    AdMid w p ev mv L l base vs G (k + 1) (w'.setCell ⟨G, k, none⟩ (.int .i64 (i : Nat))) L' (ids ++ [i]) := by
  have htk := ht.tb.below hb
  have hrow : OwnI w' w.heap.size (.slice (some ⟨G, 0, none⟩) l.length l.length) (ids.map (fun i => ((i : Nat) : Int)) ++ List.replicate (l.length - k) 0) := (h.row.below hb).tb htk hp.tk
  have hG := rw_block hrow (b := G) rfl
  obtain ⟨hG1, hG2, capG, curG, _, hG3, _⟩ := hG
  refine ⟨?_, by simp [h.len], ⟨ev'', mv'', ?_⟩, ?_, ?_⟩
  · rw [addR_snoc _ _ hk, h.run]; exact hs
  · have h1 := (ht.trans (TbT.of_below ht.tb hb)).trans hp
    refine ⟨h1.tb.same fun b hb' hs' => ?_, h1.tk.trans (Tk.set (S := fun b => b = G) (b := G) (o := k) rfl) (fun b e => .inr (by have : b = G := e; omega)), h1.yo, h1.mp, h1.gr, fun g hg hpg j u hj hu => by
      have h2 := h1.st g hg hpg j u hj hu
      have h3 := World.block_lt_of_cell? w _ hu
      have h4 : (w'.setCell ⟨G, k, none⟩ (.int .i64 (i : Nat))).heap[g]? = w'.heap[g]? := Deep.blk_setCell_other _ _ _ _ (by show g ≠ G; have : g < w.heap.size := h3; omega)
      simp only [World.cell?] at h2 ⊢
      rw [h4]
      exact h2⟩
    exact Deep.blk_setCell_other _ _ _ _ (fun e => by
      have e2 : b = G := e
      subst e2
      exact h1.tb.typed hG3 (by decide) (by decide) hs')
  · have h1 := (h.arg.below hb).tb htk hp.tk
    obtain ⟨q, hq1, hq2, hq3⟩ := h1
    refine ⟨q, hq1, ⟨rw_same hq2.row (fun b hb' => ?_), fun y hy => ?_⟩, hq3⟩
    · obtain ⟨_, _, c, cu, _, h3, _⟩ := rw_block hq2.row hb'
      exact Deep.blk_setCell_other _ _ _ _ (fun e => by
        have e2 : b = G := e
        subst e2
        rw [hG3] at h3
        simp at h3)
    · refine rw_same (hq2.kids y hy) (fun b hb' => Deep.blk_setCell_other _ _ _ _ (fun e => ?_))
      have e2 : b = G := e
      have := hq3 y hy b hb'
      omega
  · have := hrow.putT (adm_len h.len (by omega)) k ((i : Nat) : Int)
    rw [adm_set i h.len hk] at this
    exact this
end Go.Proofs.YtlbmijcpalfaeaaGreatDoor

namespace Go.Proofs.YtlbmijcpalfaeaaGreatDoor
open Go.RowKit Go.Lib Go.Sort Go.Maps

end Go.Proofs.YtlbmijcpalfaeaaGreatDoor

set_option linter.unusedSimpArgs false
set_option linter.unusedVariables false
namespace Go.Proofs.YtlbmijcpalfaeaaGreatDoor.Gt
open Go.RowKit Go.Lib

/-- A seat, plainly. -/
structure Sp where
  kn : Bool
  lv : Bool
  up : Int
  wt : Int
  us : List Int
def sp0 : Sp := ⟨false, false, 0, 0, []⟩
def Se.pl (s : Se) : Sp := ⟨s.kn, s.lv, s.up, s.wt, s.us⟩
def bumpP (l : List Sp) (k : Nat) : List Sp := l.set k { (l.getD k sp0) with wt := (l.getD k sp0).wt + 1 }
def useP (l : List Sp) (id k : Nat) : List Sp := l.set k { (l.getD k sp0) with wt := (l.getD k sp0).wt + 1, us := (l.getD k sp0).us ++ [(id : Int)] }
def padP (l : List Sp) (id : Nat) : List Sp := l ++ List.replicate (id + 1 - l.length) sp0
def usesP (l : List Sp) (id : Nat) (ks : List Int) : List Sp := ks.foldl (fun l k => useP l id k.toNat) l
def seatP (l : List Sp) (id c : Nat) (ks : List Int) : List Sp := usesP (bumpP ((padP l id).set id ⟨true, true, (c : Int), 0, []⟩) c) id ks
theorem bumpP_len (l : List Sp) (k : Nat) : (bumpP l k).length = l.length := by simp [bumpP]
theorem useP_len (l : List Sp) (id k : Nat) : (useP l id k).length = l.length := by simp [useP]
theorem pl_getD (ss : List Se) (k : Nat) : (ss.map Se.pl).getD k sp0 = (ss.getD k se0).pl := by
  simp only [List.getD_eq_getElem?_getD, List.getElem?_map]
  cases ss[k]? <;> rfl
/-- The numbers of a graph stay far below what a word holds. -/
structure GsB (G : Gs) : Prop where
  wt : ∀ s ∈ G.ss, 0 ≤ s.wt ∧ s.wt ≤ 4611686018427387000
  us : ∀ s ∈ G.ss, s.us.length ≤ 1000000000
  cl : 0 ≤ G.cl ∧ G.cl ≤ 4611686018427387000
  nd : 0 ≤ G.nd ∧ G.nd ≤ 4611686018427387000
theorem GsB.at_ {G : Gs} (h : GsB G) (k : Nat) : 0 ≤ (G.ss.getD k se0).wt ∧ (G.ss.getD k se0).wt ≤ 4611686018427387000 := by
  rcases Nat.lt_or_ge k G.ss.length with h1 | h1
  · exact h.wt _ (by simp [h1])
  · rw [List.getD_eq_getElem?_getD, List.getElem?_eq_none h1]; simp [se0]
/-- What seat leaves. -/
structure SeatR (G : Gs) (x : Nd) (c : Int) (G' : Gs) : Prop where
  L : G'.L = (ptR G.L x).2.2
  rs : G'.rs = G.rs
  same : (ptR G.L x).2.1 ≠ 0 ∨ knG G.ss (ptR G.L x).1 = true → G'.ss = G.ss ∧ G'.cl = G.cl ∧ G'.nd = G.nd
  more : (ptR G.L x).2.1 = 0 → knG G.ss (ptR G.L x).1 = false → G'.ss.map Se.pl = seatP (G.ss.map Se.pl) (ptR G.L x).1 (if c = -1 then (ptR G.L x).1 else c.toNat) x.kids ∧ G'.cl = (if c = -1 then G.cl + 1 else G.cl) ∧ G'.nd = G.nd + 1
theorem ptR_len (L : List Nd) (x : Nd) : L.length ≤ (ptR L x).2.2.length := by
  unfold ptR putS
  split
  · cases ixL L x with
    | some i => simp
    | none => simp only; split <;> simp
  · simp
end Go.Proofs.YtlbmijcpalfaeaaGreatDoor.Gt

set_option linter.unusedSimpArgs false
set_option linter.unusedVariables false
namespace Go.Proofs.YtlbmijcpalfaeaaGreatDoor.Gt
open Go.RowKit Go.Lib Go.Sort

set_option maxRecDepth 20000 in
set_option maxHeartbeats 4000000 in
theorem seat_same {w : World} {p : Nat} {G : Gs} (h : GrM w p G) (hT : SpanCells w) (x : Nd) (ka : Option Addr) (kc : Nat) (hv : NdV w x ka kc) (c : Int) (hs : (ptR G.L x).2.1 ≠ 0 ∨ knG G.ss (ptR G.L x).1 = true) :
    Calls Tryz.prog 41 #[.pointer (some ⟨p, 0, none⟩), .agg #[.int .i64 x.op, .int .i64 x.n, .string x.name, .slice ka x.kids.length kc], .int .i64 c] w fun e w' => e = .returned (.tuple #[.int .i64 ((ptR G.L x).1 : Nat), .int .i64 (ptR G.L x).2.1]) ∧ ∃ G', GrT w p G G' w' ∧ SeatR G x c G' := by
  have HPUT : Sld (∀ W, Below w.heap.size w W → Calls Tryz.prog 64 #[.pointer (some ⟨p, 0, none⟩), .agg #[.int .i64 x.op, .int .i64 x.n, .string x.name, .slice ka x.kids.length kc]] W fun e w' => e = .returned (.tuple #[.int .i64 ((ptR G.L x).1 : Nat), .int .i64 (ptR G.L x).2.1]) ∧ ∃ ev' mv', GrT w p G { G with ev := ev', mv := mv', L := (ptR G.L x).2.2 } w') := ⟨fun W hW => by
    have hm := h.below hW
    refine (@tPut_any G.gr W p G.ev G.mv G.L x ka kc hm.tb (hT.below hW) (hv.below hW)).mono fun e w' ⟨h1, ev', mv', h2⟩ => ⟨h1, ev', mv', ?_⟩
    exact (GrT.of_below h hW).trans (hm.put h2 (ptR_len _ _))⟩
  have HR : Hid (∀ ev' mv', SeatR G x c { G with ev := ev', mv := mv', L := (ptR G.L x).2.2 }) := fun ev' mv' => ⟨rfl, rfl, fun _ => ⟨rfl, rfl, rfl⟩, fun h1 h2 => by
    rcases hs with hs | hs
    · exact absurd h1 hs
    · rw [hs] at h2; cases h2⟩
  have HKN : Sld (∀ ev' mv' W, GrM W p { G with ev := ev', mv := mv', L := (ptR G.L x).2.2 } → Calls Tryz.prog 65 #[.pointer (some ⟨p, 0, none⟩), .int .i64 (ptR G.L x).1] W fun e w' => e = .returned (.bool (knG G.ss (ptR G.L x).1)) ∧ w' = W) := ⟨fun ev' mv' W hW => known_any hW _⟩
  obtain ⟨w1, hw1⟩ : ∃ w1, w.alloc (.cells #[.int .i64 x.op, .int .i64 x.n, .string x.name, .slice ka x.kids.length kc] 41) = w1 := ⟨_, rfl⟩
  have HB1 : Hid (Below w.heap.size w w1) := by rw [← hw1]; exact (Below.refl _ _).alloc (Nat.le_refl _) _
  have hb : w1.heap[w.heap.size]? = some (.cells #[.int .i64 x.op, .int .i64 x.n, .string x.name, .slice ka x.kids.length kc] 41 (0, 0)) := by rw [← hw1, Deep.blk_alloc_new]
  obtain ⟨b0, b1, b2, b3, _⟩ := blk4 hb
  have HW : Hid (w.alloc (.cells #[.int .i64 x.op, .int .i64 x.n, .string x.name, .slice ka x.kids.length kc] 41) = w1) := hw1
  clear hw1 hb h hv hT
  generalize ptR G.L x = r at *
  obtain ⟨id, E, L'⟩ := r
  simp only at *
  generalize x.op = op at *
  generalize x.n = n at *
  generalize x.name = nm at *
  generalize x.kids.length = kl at *
  go_enter Tryz.func41, Tryz.ntmps41
  go_wp2_with fail
  rw [HW.out]
  go_region_with (go_at_call 64; refine (HPUT.out _ (HB1.out.drew)).mono ?_; rintro e w6 ⟨rfl, ev', mv', hg6⟩)
  all_goals
    have HG6 : Hid (_) := hg6
    have CK := HKN.out ev' mv' w6 hg6.gr
    clear hg6 HKN
    by_cases hE : E = 0
    · subst hE
      have hk : knG G.ss id = true := by rcases hs with hs | hs; exact absurd rfl hs; exact hs
      rw [hk] at CK
      clear hs hk
      go_wp2_with fail
      refine CK.mono ?_
      rintro e w7 ⟨rfl, rfl⟩
      go_wp2_with fail
      go_ret2
      exact ⟨rfl, _, HG6.out, HR.out _ _⟩
    · have hE2 : (E != 0) = true := by rw [bne_iff_ne]; exact hE
      clear hs CK
      go_wp2_with fail
      go_ret2
      exact ⟨rfl, _, HG6.out, HR.out _ _⟩
end Go.Proofs.YtlbmijcpalfaeaaGreatDoor.Gt
