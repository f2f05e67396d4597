/-
  GpR1, DcS, DcT.
-/
import Derived.Test.YtlbmijcpalfaeaaGreatDoorP42
import Derived.StringKeys
set_option linter.unusedSimpArgs false
set_option linter.unusedVariables false
namespace Go.Proofs.YtlbmijcpalfaeaaGreatDoor
open Go.RowKit Go.Lib

theorem mnyL_bound {cs : List Cls} (hw : ∀ c ∈ cs, c.nodes.length * 56 ≤ 140737488351232) : mnyL cs * 56 ≤ cs.length * 140737488351232 := by
  induction cs with
  | nil => simp [mnyL]
  | cons c cs ih =>
    have h1 := hw c (by simp)
    have h2 := ih (fun d hd => hw d (by simp [hd]))
    simp only [mnyL, List.map_cons, List.sum_cons, List.length_cons] at *
    omega

set_option maxRecDepth 20000 in
set_option maxHeartbeats 4000000 in
theorem countNodes_any (cs : List Cls) (rv : Value) (ca : Option Addr) (cc : Nat) (w : World) (hc : Clss w w.heap.size (.slice ca cs.length cc) cs) (hl : cs.length ≤ 4096) (hw : ∀ c ∈ cs, c.nodes.length * 56 ≤ 140737488351232) :
    Calls Tryz.prog 30 #[.agg #[.slice ca cs.length cc, rv]] w fun e w' => e = .returned (.int .i64 (mnyL cs : Nat)) ∧ Below w.heap.size w w' := by
  obtain ⟨W1, hW1⟩ : ∃ W1, w.alloc (.cells #[.slice ca cs.length cc, rv] 26) = W1 := ⟨_, rfl⟩
  have hb1 : Below w.heap.size w W1 := by rw [← hW1]; exact (Below.refl _ _).alloc (Nat.le_refl _) _
  have hk1 : W1.heap[w.heap.size]? = some (.cells #[.slice ca cs.length cc, rv] 26 (0, 0)) := by rw [← hW1, Deep.blk_alloc_new]
  have p0 : W1.cell? ⟨w.heap.size, 0, none⟩ = some (.slice ca cs.length cc) := by simp [World.cell?, hk1]
  have HW1 := Sld.mk hW1
  have HB1 := Sld.mk hb1
  have HC := Sld.mk (hc.below hb1 hb1.size)
  have HWT := Sld.mk hw
  obtain ⟨_, _, d1, hm1, hm2, _⟩ := hc
  injection d1 with d1 d2 d3
  rw [← d3] at hm1 hm2
  unfold maxLen at hm2
  clear hW1 hb1 hk1 d1 d2 d3 hw
  go_enter Tryz.func30, Tryz.ntmps30
  go_wp2_with fail
  rw [HW1.out]
  go_loopw [3, 4] (fun m i wr => ∃ j : Nat, j ≤ cs.length ∧ i = .int .i64 j ∧ wr = W1 ∧ m = .int .i64 (mnyL (cs.take j) : Nat)) (fun _ i _ => cs.length - (RowKit.intOf i).toNat)
  case atStart => exact ⟨0, Nat.zero_le _, rfl, rfl, by simp [mnyL]⟩
  case round =>
    obtain ⟨j, hj, rfl, hwr, rfl⟩ := hrel
    subst hwr
    by_cases hlt : j < cs.length
    · obtain ⟨b, o, na, nc, hca, c0⟩ : ∃ b o na nc, ca = some ⟨b, o, none⟩ ∧ wr.cell? ⟨b, o + j * 2, none⟩ = some (.slice na (cs.getD j cls0).nodes.length nc) := by
        obtain ⟨ao, cap, h1, _, _, h2⟩ := HC.out
        injection h1 with h1 _ _
        rcases h2 with h2 | ⟨b, o, h2, hbl, h3⟩
        · subst h2; simp at hlt
        · obtain ⟨na, nc, h4, _⟩ := h3 j hlt
          exact ⟨b, o, na, nc, h1.trans h2, h4⟩
      subst hca
      have hmt := mnyL_take j cs hlt
      have hbd := mnyL_bound (cs := cs.take (j + 1)) (fun c hc => HWT.out c (List.mem_of_mem_take hc))
      simp only [List.length_take] at hbd
      have HMT := Sld.mk hmt
      rw [hmt] at hbd
      clear hmt
      generalize mnyL (cs.take j) = mj at *
      generalize (cs.getD j cls0).nodes.length = nl at *
      have hltI : (j : Int) < (cs.length : Int) := by omega
      have hs1 : (mj : Int) + (nl : Int) ≤ 9223372036854775807 := by omega
      have hs0 : (0 : Int) ≤ (mj : Int) + (nl : Int) := by omega
      clear hbd
      go_wp2_with fail
      exact ⟨⟨j + 1, by omega, by go_num, trivial, by rw [HMT.out]; go_num⟩, by simp [RowKit.intOf]; omega⟩
    · have hje : j = cs.length := by omega
      subst hje
      have HE : Sld (mnyL (cs.take cs.length) = mnyL cs) := ⟨by rw [List.take_length]⟩
      go_wp2_with fail
      go_ret
      exact ⟨by rw [← HE.out]; rfl, HB1.out⟩
end Go.Proofs.YtlbmijcpalfaeaaGreatDoor

set_option linter.unusedSimpArgs false
set_option linter.unusedVariables false
namespace Go.Proofs.YtlbmijcpalfaeaaGreatDoor
open Go.RowKit Go.Lib Go.Maps

theorem txLaw : Keyed Tryz.prog 9 := string_keyed Tryz.underlying9
theorem txZero (w : World) : (zeroValue 4).run Tryz.prog w = .ok (.bool false) w := by kernel_rfl
def txK (s : ByteArray) : Lit := .string s.data.toList
theorem txK_inj {s t : ByteArray} (h : txK s = txK t) : s = t := by
  unfold txK at h
  injection h with h
  obtain ⟨⟨a⟩⟩ := s
  obtain ⟨⟨b⟩⟩ := t
  simp only at h
  rw [h]
theorem txKey {s : ByteArray} (h : s.size ≤ maxLen) : keyOf Tryz.prog 9 (.string s) = some (txK s) := Go.WideMaps.keyOf_string_mk Tryz.underlying9 h
theorem txIsKey (s : ByteArray) : WideAt.IsKeyLit (txK s) := trivial
/-- Block B is a map that holds just the texts acc, each with true. -/
def TxM (w : World) (B : Nat) (acc : List ByteArray) : Prop :=
  w.ownsMap Tryz.prog 9 (plainElem (H := Unit) Tryz.prog 4) B acc.length (setOf (.lit (.bool true)) (acc.map txK))
theorem TxM.made (w : World) : TxM (w.alloc (.map #[] 0)) w.heap.size [] := World.ownsMap_made _ _ _ _
theorem TxM.lt {w : World} {B : Nat} {acc : List ByteArray} (h : TxM w B acc) : B < w.heap.size := World.ownsMap.lt h
theorem TxM.kept {w w' : World} {B : Nat} {acc : List ByteArray} {row : Option Nat} (h : TxM w B acc) (hg : w.grownBy w' row) (hne : some B ≠ row) : TxM w' B acc := World.ownsMap.kept h hg hne
theorem TxM.below {w w' : World} {B : Nat} {acc : List ByteArray} (h : TxM w B acc) (hb : Below w.heap.size w w') : TxM w' B acc := h.kept (grown_of_below hb none) (by simp)
theorem TxM.obj {w : World} {B : Nat} {acc : List ByteArray} (h : TxM w B acc) : ∃ es c, w.heap[B]? = some (.map es c) := let ⟨es, c, hb, _⟩ := h; ⟨es, c, hb⟩
theorem TxM.put {w : World} {B : Nat} {acc : List ByteArray} (h : TxM w B acc) (hn : acc.length < maxLen) {s : ByteArray} (hs : s.size ≤ maxLen) :
    ∃ w', (Instr.mapUpdate 64 (.map (some B)) (.string s) (.bool true)).run Tryz.prog w = .ok () w' ∧ TxM w' B (acc ++ [s]) ∧ w.grownBy w' (some B) := by
  obtain ⟨w', h1, h2, h3⟩ := World.ownsMap.update h txLaw Tryz.underlying64 hn (txKey hs) (plainElem_bool Tryz.underlying4 true)
  refine ⟨w', h1, ?_, h3⟩
  unfold TxM
  rw [List.length_append, List.map_append, List.map_singleton, setOf_snoc]
  exact h2
theorem tx_fold (s : ByteArray) (z : DataW Unit) : ∀ (acc : List ByteArray) (m : DataW Unit), IsMap m → (s ∈ acc ∨ m.atKey (txK s) z = .lit (.bool true)) →
    ((acc.map txK).foldl (fun m x => m.put x (.lit (.bool true))) m).atKey (txK s) z = .lit (.bool true)
  | [], m, _, h => by
    rcases h with h | h
    · cases h
    · exact h
  | a :: r, m, hm, h => by
    rw [List.map_cons, List.foldl_cons]
    refine tx_fold s z r _ (hm.put _ _) ?_
    by_cases e : s = a
    · subst e; exact .inr (atKey_put_same hm (txIsKey s) _ _)
    · rcases h with h | h
      · rcases List.mem_cons.1 h with h | h
        · exact absurd h e
        · exact .inl h
      · right
        have hne : txK s ≠ txK a := fun e2 => e (txK_inj e2)
        rw [atKey_put_other hne]; exact h
theorem tx_not (s : ByteArray) (z : DataW Unit) : ∀ (acc : List ByteArray) (m : DataW Unit), IsMap m → s ∉ acc → m.atKey (txK s) z = z →
    ((acc.map txK).foldl (fun m x => m.put x (.lit (.bool true))) m).atKey (txK s) z = z
  | [], m, _, _, h => h
  | a :: r, m, hm, h, h2 => by
    rw [List.map_cons, List.foldl_cons]
    have hne : txK s ≠ txK a := fun e2 => h (by rw [txK_inj e2]; exact List.mem_cons_self ..)
    exact tx_not s z r _ (hm.put _ _) (fun hh => h (List.mem_cons_of_mem _ hh)) (by rw [atKey_put_other hne]; exact h2)
theorem plainElem_b {P : Program} {e : TypeId} (he : P.underlying e = some .bool) {v : Value} {ps : List MemPlace} {b : Bool} (h : plainElem (H := Unit) P e v = some (.lit (.bool b), ps)) : v = .bool b := by
  unfold plainElem at h
  rw [he] at h
  cases v <;> simp at h
  rw [h.1]
theorem TxM.look {w : World} {B : Nat} {acc : List ByteArray} (h : TxM w B acc) {s : ByteArray} (hs : s.size ≤ maxLen) {b : Bool} (hb : b = true ↔ s ∈ acc) :
    (Instr.lookup 64 (.map (some B)) (.string s) false).run Tryz.prog w = .ok (.bool b) w := by
  obtain ⟨v, ps, h1, h2⟩ := World.ownsMap.lookup h txLaw Tryz.underlying64 (txZero w) (plainElem_bool Tryz.underlying4 false) (txKey hs)
  by_cases hm : s ∈ acc
  · rw [show (setOf (H := Unit) (.lit (.bool true)) (acc.map txK)).atKey (txK s) (.lit (.bool false)) = .lit (.bool true) from tx_fold s _ acc _ isMap_empty (.inl hm)] at h2
    rw [h1, plainElem_b Tryz.underlying4 h2, hb.2 hm]
  · rw [show (setOf (H := Unit) (.lit (.bool true)) (acc.map txK)).atKey (txK s) (.lit (.bool false)) = .lit (.bool false) from tx_not s _ acc _ isMap_empty hm rfl] at h2
    have : b = false := by cases b with
      | false => rfl
      | true => exact absurd (hb.1 rfl) hm
    rw [h1, plainElem_b Tryz.underlying4 h2, this]
/-- Where a map alone has turned, the cells are as they were. -/
theorem cell_keptM {w w' : World} {B : Nat} {es : Array MapEntry} {c : Nat} (hm : w.heap[B]? = some (.map es c)) (hg : w.grownBy w' (some B)) {p : Addr} {v : Value} (h : w.cell? p = some v) : w'.cell? p = some v := by
  have hlt := World.block_lt_of_cell? w p h
  have hne : p.block ≠ B := by
    intro e
    unfold World.cell? at h
    rw [e, hm] at h
    simp at h
  exact (World.cell?_of_block (hg.block p.block hlt (fun e => hne (by injection e)))).trans h
theorem Ints.same {w w' : World} {B B' : Nat} {v : Value} {ks : List Int} (h : Ints w B v ks) (hc : ∀ p v, w.cell? p = some v → w'.cell? p = some v) (hB : B ≤ B') : Ints w' B' v ks := by
  obtain ⟨ao, cap, h1, h2, h3, h4⟩ := h
  exact ⟨ao, cap, h1, h2, h3, h4.imp id fun ⟨b, o, e, hl, h5⟩ => ⟨b, o, e, by omega, fun i hi => hc _ _ (h5 i hi)⟩⟩
theorem NodeAt.same {w w' : World} {B B' b o : Nat} {x : Nd} {kv : Value} (h : NodeAt w B b o x kv) (hc : ∀ p v, w.cell? p = some v → w'.cell? p = some v) (hB : B ≤ B') : NodeAt w' B' b o x kv :=
  ⟨hc _ _ h.c0, hc _ _ h.c1, hc _ _ h.c2, hc _ _ h.c3, h.kids.same hc hB⟩
theorem Cels.same {w w' : World} {B B' : Nat} {v : Value} {l : List (Nd × Int)} (h : Cels w B v l) (hc : ∀ p v, w.cell? p = some v → w'.cell? p = some v) (hB : B ≤ B') : Cels w' B' v l := by
  obtain ⟨ao, cap, h1, h2, h3, h4⟩ := h
  refine ⟨ao, cap, h1, h2, h3, h4.imp id fun ⟨b, o, e, hl, h5⟩ => ⟨b, o, e, by omega, fun i hi => ?_⟩⟩
  obtain ⟨ka, kc, h6, h7⟩ := h5 i hi
  exact ⟨ka, kc, h6.same hc hB, hc _ _ h7⟩
end Go.Proofs.YtlbmijcpalfaeaaGreatDoor

set_option linter.unusedSimpArgs false
set_option linter.unusedVariables false
namespace Go.Proofs.YtlbmijcpalfaeaaGreatDoor
open Go.RowKit Go.Lib Go.Maps

theorem Nodes.same {w w' : World} {B B' : Nat} {v : Value} {l : List Nd} (h : Nodes w B v l) (hc : ∀ p v, w.cell? p = some v → w'.cell? p = some v) (hB : B ≤ B') : Nodes w' B' v l := by
  obtain ⟨ao, cap, h1, h2, h3, h4⟩ := h
  exact ⟨ao, cap, h1, h2, h3, h4.imp id fun ⟨b, o, e, hl, h5⟩ => ⟨b, o, e, by omega, fun i hi => let ⟨kv, hk⟩ := h5 i hi; ⟨kv, hk.same hc hB⟩⟩⟩
theorem Clss.same {w w' : World} {B B' : Nat} {v : Value} {cs : List Cls} (h : Clss w B v cs) (hc : ∀ p v, w.cell? p = some v → w'.cell? p = some v) (hB : B ≤ B') : Clss w' B' v cs := by
  obtain ⟨ao, cap, h1, h2, h3, h4⟩ := h
  refine ⟨ao, cap, h1, h2, h3, h4.imp id fun ⟨b, o, e, hl, h5⟩ => ⟨b, o, e, by omega, fun i hi => ?_⟩⟩
  obtain ⟨na, nc, h6, h7, h8⟩ := h5 i hi
  exact ⟨na, nc, hc _ _ h6, hc _ _ h7, h8.same hc hB⟩
theorem keyB_size {x : Nd} (h : x.kids.length ≤ 3) : (keyB x).size ≤ x.name.size + 40 := by
  have e := congrArg List.length (keyB_list x)
  simp only [List.length_append, numU_len, kidsU_len] at e
  have h0 : ∀ s : ByteArray, s.size = s.data.toList.length := fun s => by rw [Array.length_toList]; rfl
  have h1 := h0 (keyB x)
  have h2 := h0 x.name
  omega
/-- The cells that Check has gone through. -/
structure CkO (n : Nat) (l : List (Nd × Int)) (j : Nat) : Prop where
  form : ∀ c ∈ l.take j, formB c.1 = true
  kids : ∀ c ∈ l.take j, ∀ k ∈ c.1.kids, 0 ≤ k ∧ k < (n : Int)
  nodup : ((l.take j).map (·.1)).Nodup
theorem CkO.start (n : Nat) (l : List (Nd × Int)) : CkO n l 0 := ⟨by simp, by simp, by simp⟩
theorem CkO.step {n : Nat} {l : List (Nd × Int)} {j : Nat} (h : CkO n l j) (hj : j < l.length) (h1 : formB (l.getD j ce0).1 = true) (h2 : ∀ k ∈ (l.getD j ce0).1.kids, 0 ≤ k ∧ k < (n : Int)) (h3 : (l.getD j ce0).1 ∉ (l.take j).map (·.1)) : CkO n l (j + 1) := by
  have e : l.getD j ce0 = l[j] := by rw [List.getD_eq_getElem?_getD, List.getElem?_eq_getElem hj]; rfl
  rw [e] at h1 h2 h3
  have et : l.take (j + 1) = l.take j ++ [l[j]] := by rw [List.take_add_one, List.getElem?_eq_getElem hj]; rfl
  refine ⟨fun c hc => ?_, fun c hc => ?_, ?_⟩
  · rw [et, List.mem_append, List.mem_singleton] at hc
    rcases hc with hc | rfl
    · exact h.form c hc
    · exact h1
  · rw [et, List.mem_append, List.mem_singleton] at hc
    rcases hc with hc | rfl
    · exact h.kids c hc
    · exact h2
  · rw [et, List.map_append, List.nodup_append]
    refine ⟨h.nodup, by simp, fun a ha b hb e2 => ?_⟩
    simp at hb
    subst hb
    subst e2
    exact h3 ha
theorem key_seen {l : List (Nd × Int)} {j : Nat} {n : Nat} (h : CkO n l j) (hj : j < l.length) (hf : formB (l.getD j ce0).1 = true) (hN : ∀ c ∈ l, N6 c.1.n ∧ ∀ k ∈ c.1.kids, N6 k) : keyB (l.getD j ce0).1 ∈ (l.take j).map (fun c => keyB c.1) ↔ (l.getD j ce0).1 ∈ (l.take j).map (·.1) := by
  have hm : l.getD j ce0 ∈ l := by rw [List.getD_eq_getElem?_getD, List.getElem?_eq_getElem hj]; exact List.getElem_mem _
  constructor
  · intro hh
    obtain ⟨c, hc, e⟩ := List.mem_map.1 hh
    have hcl := List.mem_of_mem_take hc
    have := keyB_inj (h.form c hc) hf (hN c hcl).1 (hN _ hm).1 (hN c hcl).2 (hN _ hm).2 e
    exact List.mem_map.2 ⟨c, hc, this⟩
  · intro hh
    obtain ⟨c, hc, e⟩ := List.mem_map.1 hh
    exact List.mem_map.2 ⟨c, hc, by rw [e]⟩
theorem seen_dup {l : List (Nd × Int)} {j : Nat} (hj : j < l.length) (h : (l.getD j ce0).1 ∈ (l.take j).map (·.1)) : ¬ (l.map (·.1)).Nodup := fun hn => by
  have e : l.getD j ce0 = l[j] := by rw [List.getD_eq_getElem?_getD, List.getElem?_eq_getElem hj]; rfl
  rw [e] at h
  rw [List.mem_map] at h
  obtain ⟨c, hc, e2⟩ := h
  obtain ⟨i, hi, e3⟩ := List.getElem_of_mem hc
  rw [List.length_take] at hi
  rw [List.getElem_take] at e3
  have := List.pairwise_iff_getElem.1 hn i j (by simp; omega) (by simp; omega) (by omega)
  simp only [List.getElem_map] at this
  rw [e3] at this
  exact this e2
/-- What Check answers. -/
def CkQ (b : Bool) (e : Ending) : Prop := ∃ z : Int, e = .returned (.int .i64 z) ∧ (z = 0 ∧ b = true ∨ z = 1 ∧ b = false)
theorem cells_fst_take (l : List (Nd × Int)) (j : Nat) (hj : j < l.length) : (l.take (j + 1)).map (fun c => keyB c.1) = (l.take j).map (fun c => keyB c.1) ++ [keyB (l.getD j ce0).1] := by
  rw [List.take_add_one, List.map_append, List.getD_eq_getElem?_getD, List.getElem?_eq_getElem hj]; rfl
end Go.Proofs.YtlbmijcpalfaeaaGreatDoor
