/-
  RdEnd, HlW, DcW, DcPlW.
-/
import Derived.Test.YtaennaoakopgfaaDoorMGPa
import Derived.Test.YtaennaoakopgfaaDoorMGUn
import Derived.Test.YtaennaoakopgfaaDoorMExRdW
import Derived.Test.YtaennaoakopgfaaDoorMSwPure
import Derived.Test.YtaennaoakopgfaaDoorMGSh
import Derived.BigQuiet
import Derived.Test.YtaennaoakopgfaaDoorMGLv
import Derived.Test.YtaennaoakopgfaaDoorMFrame
set_option linter.unusedSimpArgs false
set_option linter.unusedVariables false
namespace Go.Proofs.YtaennaoakopgfaaDoor
open Go.Lib

theorem plain_nz : ∀ c ∈ signList, psPlain c ≠ 0 ∧ (psPlain c = 64 → c = 64) := by decide +kernel
theorem what_end {s : ByteArray} {pat : Bool} {m p : Nat} {t : Tk} (hp : p ≤ s.size) (h : psFrom s pat m p = .ok t) : t.what = 0 ↔ ¬ p < s.size := by
  unfold psFrom at h
  split at h
  · rename_i hlt
    refine ⟨fun h0 => ?_, fun c => absurd hlt c⟩
    unfold psAt at h
    split at h
    · cases h; exact absurd h0 (by simp)
    · split at h
      · cases h; exact absurd h0 (by simp)
      · split at h
        · rename_i k4
          cases h
          exfalso
          have k5 := k4.2
          simp only at h0
          unfold psSign at h0 k5
          revert h0 k5
          (repeat' split) <;> first | (intro a b; exact (plain_nz _ (kd4 k4.1)).1 a) | (intro a b; revert a; decide) | (intro a b; revert b; decide)
        · cases h
  · rename_i hlt
    cases h
    exact ⟨fun _ => hlt, fun _ => rfl⟩
theorem what_hole {s : ByteArray} {m p : Nat} {t : Tk} (h : psFrom s false m p = .ok t) : t.what ≠ 64 := by
  unfold psFrom at h
  split at h
  · rename_i hlt
    unfold psAt at h
    split at h
    · cases h; simp
    · split at h
      · cases h; simp
      · split at h
        · rename_i k4
          cases h
          simp only
          have k5 := k4.2
          unfold psSign at k5 ⊢
          revert k5
          (repeat' split) <;> first | (intro a b; simp at b; done) | (intro a; simp at a; done) | skip
          rename_i h1 h2 h3 h4 h5
          intro _ e
          exact h5 ⟨(plain_nz _ (kd4 k4.1)).2 e, rfl⟩
        · cases h
  · cases h; simp [psEnd]

/-- No holes. -/
def noH (l : List Nd) : Prop := ∀ x ∈ l, x.op ≠ 18
theorem noH_sh {l : List Nd} (h : noH l) (d : Nat) : noH (l.map (shN d)) := by
  intro x hx
  obtain ⟨y, hy, rfl⟩ := List.mem_map.1 hx
  exact h y hy
theorem noH_app {l m : List Nd} (h : noH l) (h2 : noH m) : noH (l ++ m) := by
  intro x hx
  rcases List.mem_append.1 hx with hx | hx
  · exact h x hx
  · exact h2 x hx
theorem noH_one {op n : Int} {nm : ByteArray} {ks : List Int} (h : op ≠ 18) : noH [⟨op, n, nm, ks⟩] := by
  intro x hx
  rw [List.mem_singleton.1 hx]; exact h
theorem psOp_18 (c : Int) : (psOp c).1 ≠ 18 := by
  by_cases h : c ∈ whats
  · have : ∀ c ∈ whats, (psOp c).1 ≠ 18 := by decide +kernel
    exact this c h
  · simp [whats] at h
    unfold psOp
    simp [h]
theorem rdLit_noH {s : ByteArray} {v : Int} {t : Tk} {r : List Nd × Nat} (h : rdLit s v t = .ok r) : noH r.1 := by
  unfold rdLit at h
  split at h
  · split at h
    · cases h; exact noH_one (by decide)
    · cases h
  · cases h
theorem rdNamed_noH {s : ByteArray} {t : Tk} {r : List Nd × Nat} (h : rdNamed s 2 t = .ok r) : noH r.1 := by
  unfold rdNamed at h
  split at h
  · split at h
    · cases h; exact noH_one (by decide)
    · cases h
  · cases h
def RdQ.noH (q : RdQ) : Prop := ∀ lv la, q = .loop lv la → Go.Proofs.YtaennaoakopgfaaDoor.noH la
theorem rd_noH (s : ByteArray) : ∀ (f : Nat) (q : RdQ) (t : Tk) (o : Nat) (r : List Nd × Nat), q.noH → t.what ≠ 64 → rdRun s false f q t o = .ok r → noH r.1 := by
  intro f
  induction f with
  | zero => intro q t o r _ _ h; cases h
  | succ f ih =>
    intro q t o r hq ht h
    have hc : RdQ.cond.noH := fun _ _ e => by cases e
    have hu : RdQ.un.noH := fun _ _ e => by cases e
    have hat : RdQ.atom.noH := fun _ _ e => by cases e
    have hl : ∀ lv, (RdQ.level lv).noH := fun lv _ _ e => by cases e
    cases q with
    | cond =>
      simp only [rdRun] at h
      obtain ⟨c, h1, h⟩ := Pr.bind_ok h
      have n1 := ih _ _ _ _ (hl 1) ht h1
      obtain ⟨t1, h2, h⟩ := Pr.bind_ok h
      split at h
      · obtain ⟨t2, h3, h⟩ := Pr.bind_ok h
        obtain ⟨a, h4, h⟩ := Pr.bind_ok h
        have n2 := ih _ _ _ _ hc (what_hole h3) h4
        obtain ⟨t3, h5, h⟩ := Pr.bind_ok h
        split at h
        · split at h
          · obtain ⟨t4, h6, h⟩ := Pr.bind_ok h
            obtain ⟨b, h7, h⟩ := Pr.bind_ok h
            have n3 := ih _ _ _ _ hc (what_hole h6) h7
            cases h
            exact noH_app (noH_app (noH_app n1 (noH_sh n2 _)) (noH_sh n3 _)) (noH_one (by decide))
          · cases h
        · cases h
      · cases h; exact n1
    | level lv =>
      simp only [rdRun] at h
      split at h
      · exact ih _ _ _ _ hu ht h
      · obtain ⟨a, h1, h⟩ := Pr.bind_ok h
        have n1 := ih _ _ _ _ (hl (lv + 1)) ht h1
        obtain ⟨t1, h2, h⟩ := Pr.bind_ok h
        exact ih _ _ _ _ (fun _ _ e => by cases e; exact n1) (what_hole h2) h
    | loop lv la =>
      simp only [rdRun] at h
      have n0 := hq lv la rfl
      split at h
      · obtain ⟨t1, h2, h⟩ := Pr.bind_ok h
        obtain ⟨b, h3, h⟩ := Pr.bind_ok h
        have n1 := ih _ _ _ _ (hl (lv + 1)) (what_hole h2) h3
        have nj : noH (jn2 (psOp t.what).1 la b.1) := noH_app (noH_app n0 (noH_sh n1 _)) (noH_one (psOp_18 _))
        split at h
        · cases h; exact nj
        · obtain ⟨t2, h4, h⟩ := Pr.bind_ok h
          exact ih _ _ _ _ (fun _ _ e => by cases e; exact nj) (what_hole h4) h
      · cases h; exact n0
    | un =>
      simp only [rdRun] at h
      split at h
      · split at h
        · obtain ⟨t1, h2, h⟩ := Pr.bind_ok h
          obtain ⟨b, h3, h⟩ := Pr.bind_ok h
          have n1 := ih _ _ _ _ hu (what_hole h2) h3
          cases h
          exact noH_app n1 (noH_one (by decide))
        · obtain ⟨t1, h2, h⟩ := Pr.bind_ok h
          exact rdLit_noH h
      · split at h
        · obtain ⟨t1, h2, h⟩ := Pr.bind_ok h
          obtain ⟨b, h3, h⟩ := Pr.bind_ok h
          have n1 := ih _ _ _ _ hu (what_hole h2) h3
          cases h
          exact noH_app n1 (noH_one (by decide))
        · exact ih _ _ _ _ hat ht h
    | atom =>
      simp only [rdRun] at h
      split at h
      · exact rdLit_noH h
      · split at h
        · exact rdNamed_noH h
        · split at h
          · split at h
            · cases h
            · obtain ⟨t1, h2, h⟩ := Pr.bind_ok h
              obtain ⟨e, h3, h⟩ := Pr.bind_ok h
              have n1 := ih _ _ _ _ hc (what_hole h2) h3
              obtain ⟨t2, h4, h⟩ := Pr.bind_ok h
              split at h
              · split at h
                · cases h; exact n1
                · cases h
              · cases h
          · cases h
theorem noH_hls {l : List Nd} (h : noH l) : hlsL l = [] := by
  unfold hlsL
  suffices ∀ acc : List ByteArray, l.foldl addNm acc = acc from this []
  induction l with
  | nil => intro acc; rfl
  | cons x l ih =>
    intro acc
    rw [List.foldl_cons]
    have : addNm acc x = acc := by unfold addNm; rw [if_neg (h x (by simp))]
    rw [this]
    exact ih (fun y hy => h y (by simp [hy])) acc

/-- What the document's read comes to. -/
def rdWhole (s : ByteArray) (pat : Bool) (most : Nat) : Pr (List Nd) :=
  if 4096 < s.size then .bad 0 3 else if (chk s).2 = 0 then
    ((rdX s pat (psFuel s) .cond (skp s 0) 0).bind fun r => (psFrom s pat mx63 r.2).bind fun _ =>
      if r.2 < s.size then .bad r.2 6 else if most < r.1.length then .bad s.size 10 else if pat = true ∧ 6 < (hlsL r.1).length then .bad s.size 10 else .ok r.1)
  else .bad (chk s).1 (chk s).2

theorem read_eq (s : ByteArray) (pat : Bool) (most : Nat) : psRead s pat most = rdWhole s pat most := by
  unfold psRead rdWhole psOpen
  by_cases h4 : 4096 < s.size
  · rw [if_pos h4, if_pos h4]; rfl
  rw [if_neg h4, if_neg h4]
  rcases Decidable.em ((chk s).2 = 0) with hc | hc
  rotate_left
  · rw [if_neg hc, if_neg hc]; rfl
  rw [if_pos hc, if_pos hc]
  show ((psNx s pat mx63 st00).bind fun st1 => _) = _
  rw [psNx_eq]
  unfold rdX
  have e0 : skp s st00.now.to = skp s 0 := rfl
  rw [e0, Pr.bind_assoc, Pr.bind_assoc]
  cases h0 : psFrom s pat mx63 (skp s 0) with
  | out => rfl
  | bad p er => rfl
  | ok t =>
    simp only [Pr.bind]
    have hsk := skp_in (s := s) (p := 0) (by omega)
    have ht := from_at hsk.2 h0
    have hR := ps_rd s pat (psFuel s) .cond t 0 [] (by rw [ht.at_]; exact h0) (noq (fun _ _ e => by cases e))
    have e1 : RdQ.cond.rl ([] : List Nd).length = Rl.cond := rfl
    have e2 : (([] : List Nd) ++ RdQ.cond.left.map (shN ([] : List Nd).length)) = [] := rfl
    rw [e1, e2] at hR
    have e3 : ({ st00 with now := t } : Ps) = ⟨t, [], 0⟩ := rfl
    rw [e3, hR]
    unfold lz
    cases h1 : rdRun s pat (psFuel s) .cond t 0 with
    | out => rfl
    | bad p er => rfl
    | ok r =>
      simp only [Pr.bind]
      obtain ⟨l1, l2, l3⟩ := rd_len s pat _ .cond _ t 0 r ⟨(fun _ e => by cases e), (fun _ _ e => by cases e)⟩ ht h1
      cases h2 : psFrom s pat mx63 r.2 with
      | out => rfl
      | bad p er => rfl
      | ok t' =>
        simp only [Pr.bind, List.nil_append, List.length_nil]
        have ht' := from_at l3 h2
        have hw := what_end l3 h2
        rw [shN_zero]
        unfold psEx
        simp only
        by_cases hlt : r.2 < s.size
        · rw [if_neg (fun c => hw.1 c hlt), if_pos hlt, ht'.at_]
        · rw [if_pos (hw.2 hlt), if_neg hlt, if_pos (ht'.sign (by rw [hw.2 hlt]; decide) (by rw [hw.2 hlt]; decide))]
          have e5 : r.2 = s.size := by omega
          have et : t' = psEnd s := by
            unfold psFrom at h2
            rw [if_neg hlt] at h2
            cases h2; rfl
          have e6 : psNx s pat mx63 ⟨t', r.1, 0⟩ = .ok ⟨psEnd s, r.1, 0⟩ := by
            rw [psNx_eq, et]
            have : skp s (psEnd s).to = s.size := by
              have := skp_in (s := s) (p := s.size) (Nat.le_refl _)
              show skp s s.size = s.size
              omega
            simp only [this]
            unfold psFrom
            rw [if_neg (by omega)]
            rfl
          rw [e6]
          simp only [Pr.bind]
          by_cases hm : most < r.1.length
          · rw [if_pos hm, if_pos hm]
          · rw [if_neg hm, if_neg hm]
            cases pat with
            | true => simp
            | false =>
              have hn := noH_hls (rd_noH s _ .cond t 0 r (fun _ _ e => by cases e) (what_hole h0) h1)
              rw [hn]
              simp
end Go.Proofs.YtaennaoakopgfaaDoor

set_option linter.unusedSimpArgs false
set_option linter.unusedVariables false
namespace Go.Proofs.YtaennaoakopgfaaDoor
open Go.RowKit Go.Lib

theorem Tryd.infoStr : (Tryd.prog.info? 9).map (fun i => (i.zero, i.size, i.bytes)) = some (some (.string ⟨#[]⟩), 1, 16) := by kernel_rfl
theorem ba_ext {a b : ByteArray} (h : a.data.toList = b.data.toList) : a = b := by
  apply ByteArray.ext
  exact Array.ext' h

structure HlMid (w : World) (v : Value) (hs : List ByteArray) (wr : World) : Prop where
  row : wr.ownsRow w.heap.size 9 1 v hs.length (hs.map Value.string)
  below : Below w.heap.size w wr
/-- Is it known already? -/
def knwn (x : Nd) (hs : List ByteArray) : Bool := decide (x.op ≠ 18) || hs.any (fun y => decide (y = x.name))
theorem addNm_knwn (hs : List ByteArray) (x : Nd) : addNm hs x = if knwn x hs = true then hs else hs ++ [x.name] := by
  unfold addNm knwn
  by_cases h : x.op = 18
  · have e : decide (x.op ≠ 18) = false := by simp [h]
    rw [if_pos h, e, Bool.false_or]
  · have e : decide (x.op ≠ 18) = true := by simp [h]
    rw [if_neg h, e, Bool.true_or, if_pos rfl]
theorem beq_toList (a b : ByteArray) : (a.toList == b.toList) = decide (a = b) := by
  rw [toList_data, toList_data]
  by_cases h : a = b
  · subst h; simp
  · have : a.data.toList ≠ b.data.toList := fun e => h (ba_ext e)
    rw [beq_eq_false_iff_ne.2 this]
    simp [h]
theorem any_take (hs : List ByteArray) (nm : ByteArray) (k : Nat) (hk : k < hs.length) : (hs.take (k + 1)).any (fun y => decide (y = nm)) = ((hs.take k).any (fun y => decide (y = nm)) || decide (hs.getD k ⟨#[]⟩ = nm)) := by
  rw [List.take_succ_eq_append_getElem hk, List.any_append]
  simp [hk]

set_option maxRecDepth 20000 in
set_option maxHeartbeats 4000000 in
theorem refHoles_any {w : World} {ao : Option Addr} {cap : Nat} {l : List Nd} (hN : Rd w ao cap l) (hlen : l.length * 56 ≤ 140737488355328) :
    Calls Tryd.prog 29 #[.slice ao l.length cap] w fun e w' => ∃ va vc, e = .returned (.slice va (hlsL l).length vc) ∧ Below w.heap.size w w' := by
  obtain ⟨hb1, hb2⟩ := hN.bound
  unfold maxLen at hb2
  obtain ⟨i0, hi, hz0, hz1, hz2⟩ := info_parts Tryd.infoStr
  have HN : Hid (Rd w ao cap l) := hN
  have HE : Hid (hlsL (l.take l.length) = hlsL l) := by show _ = _; rw [List.take_length]
  clear hN
  go_enter Tryd.func29, Tryd.ntmps29
  go_wp2_with fail
  go_loopw [3, 4] (fun v i wr => ∃ k : Nat, k ≤ l.length ∧ i = .int .i64 k ∧ HlMid w v (hlsL (l.take k)) wr) (fun _ i _ => l.length - (RowKit.intOf i).toNat)
  case atStart => exact ⟨0, by omega, rfl, by simpa [hlsL] using World.ownsRow_nil _ _ _ _, Below.refl _ _⟩
  case round =>
    obtain ⟨k, hk, rfl, hM⟩ := hrel
    obtain ⟨wa, hwa⟩ : ∃ wa, wa = wr := ⟨_, rfl⟩
    subst hwa
    have hbw := hM.below
    have hsw := hbw.size
    obtain ⟨va, vc, hv⟩ := row_form' hM.row
    subst hv
    by_cases hlt : k < l.length
    · obtain ⟨b, o, kv, rfl, hbk, hna⟩ := Rd.cell (HN.out.below hbw hsw) hlt
      have HX : Hid (hlsL (l.take (k + 1)) = if knwn (l.getD k nd0) (hlsL (l.take k)) = true then hlsL (l.take k) else hlsL (l.take k) ++ [(l.getD k nd0).name]) := by
        show _ = _
        rw [List.take_succ_eq_append_getElem hlt, hlsL_snoc, addNm_knwn]
        simp [hlt]
      have hhl := hlsL_len (l.take k)
      have hhl2 : (hlsL (l.take k)).length ≤ k := by simp at hhl; omega
      clear hhl
      generalize hlsL (l.take k) = hs at *
      obtain ⟨c0, c1, c2, c3, hki⟩ := hna
      generalize hx : l.getD k nd0 = x at *
      obtain ⟨op, n, nm, kids⟩ := x
      simp only at c0 c2 HX
      have HM : Hid (HlMid w (.slice va hs.length vc) hs wa) := hM
      obtain ⟨kw, hkw⟩ : ∃ kw, decide (op ≠ 18) = kw := ⟨_, rfl⟩
      have hkw' : (op != 18) = kw := by rw [← hkw]; by_cases e : op = 18 <;> simp [e]
      have HKW : Hid (decide (op ≠ 18) = kw) := hkw
      clear hM hx hki c1 c3 hkw
      have cell : Hid (∀ j, j < hs.length → ∃ g c, va = some ⟨g, 0, none⟩ ∧ vc = c ∧ g < wa.heap.size ∧ hs.length ≤ c ∧ c ≤ maxLen ∧ wa.cell? ⟨g, j, none⟩ = some (.string (hs.getD j ⟨#[]⟩))) := fun j hj => by
        obtain ⟨g, c, e, h1, h2, h3, h4⟩ := row_cell HM.out.row hj (d := .string ⟨#[]⟩)
        cases e
        refine ⟨g, vc, rfl, rfl, h1, h2, h3, ?_⟩
        rw [h4]; simp [hj]
      go_wp2_with fail
      go_loopw [5, 6] (fun v i wq => ∃ (j : Nat) (q : Bool), j ≤ hs.length ∧ i = .int .i64 j ∧ v = .bool q ∧ Hid (q = (kw || (hs.take j).any (fun y => decide (y = nm)))) ∧ Below wa.heap.size wa wq) (fun _ i _ => hs.length - (RowKit.intOf i).toNat)
      case atStart => exact ⟨0, kw, by omega, rfl, by first | rfl | (rw [hkw'] <;> rfl) | simp [hkw'], by show kw = _; simp, Below.refl _ _⟩
      case round =>
        obtain ⟨j, q, hj, rfl, rfl, hq, hbq⟩ := hrel
        by_cases hjl : j < hs.length
        · obtain ⟨g, c, rfl, rfl, hgl, hg1, hg2, hcj⟩ := cell.out j hjl
          unfold maxLen at hg2
          have e1 := (hbq.cell (p := ⟨g, j, none⟩) hgl).trans hcj
          have e2 := (hbq.cell (p := ⟨b, o + k * 4 + 2, none⟩) hbk).trans c2
          have HQ : Hid (_) := hq
          have HA := any_take hs nm j hjl
          have HAH : Hid (_) := HA
          have HBQ : Hid (Below wa.heap.size wa wr) := hbq
          generalize hs.getD j ⟨#[]⟩ = y at *
          clear hcj hq HA hbq
          cases q with
          | true =>
            go_wp2_with fail
            go_quiet (fail)
            go_wp2_with fail
            refine ⟨⟨j + 1, true, by omega, by go_num, rfl, ?_, below_drewN' HBQ.out _⟩, by simp [RowKit.intOf]; omega⟩
            show true = _
            rw [HAH.out, ← Bool.or_assoc, ← HQ.out]; rfl
          | false =>
            obtain ⟨ee, hee⟩ : ∃ e, decide (y = nm) = e := ⟨_, rfl⟩
            go_wp2_with fail
            go_quiet (fail)
            go_wp2_with fail
            refine ⟨⟨j + 1, decide (y = nm), by omega, by go_num, ?_, ?_, below_drewN' HBQ.out _⟩, by simp [RowKit.intOf]; omega⟩
            · rw [← beq_toList] <;> rfl
            · show decide (y = nm) = _
              rw [HAH.out, ← Bool.or_assoc, ← HQ.out]; rfl
        · have hje : j = hs.length := by omega
          subst hje
          rw [List.take_length] at hq
          have HQ : Hid (q = knwn ⟨op, n, nm, kids⟩ hs) := by show q = _; rw [hq.out, ← HKW.out]; rfl
          have e2 := (hbq.cell (p := ⟨b, o + k * 4 + 2, none⟩) hbk).trans c2
          have HBQ : Hid (Below wa.heap.size wa wr) := hbq
          have HM2 : Hid (HlMid w (.slice va hs.length vc) hs wr) := ⟨ownsRow_below HM.out.row hbq, HM.out.below.trans (hbq.mono HM.out.below.size)⟩
          have hs2 := HM2.out.below.size
          clear hq hbq
          cases q with
          | true =>
            have HE2 : Hid (hlsL (l.take (k + 1)) = hs) := by show _ = _; rw [HX.out, ← HQ.out]; rfl
            go_wp2_with fail
            exact ⟨⟨k + 1, by omega, by go_num, by rw [HE2.out]; exact HM2.out⟩, by simp [RowKit.intOf]; omega⟩
          | false =>
            have HE2 : Hid (hlsL (l.take (k + 1)) = hs ++ [nm]) := by show _ = _; rw [HX.out, ← HQ.out]; rfl
            go_wp2_with (at_builtin; refine wpList_append_lies _ rfl (.tmp 40) (.tmp 46) 33 rfl w.heap.size 9 i0 (.string ⟨#[]⟩) 1 16 Tryd.underlying33 hi hz0 hz1 hz2 rfl (by decide) _ _ _ rfl (HM2.out.row.alloc _) ⟨wr.heap.size, 0, none⟩ 1 1 [.string nm] rfl rfl (cell_news_one _ _ _) (by simp [Value.oneCell']) (by omega) (by unfold maxLen; omega) (by omega) (by simp; omega) _ rfl ?_; intro g6 cap6 w6 hown6 hg6 hat6 hl6)
            refine ⟨⟨k + 1, by omega, by go_num, ?_⟩, by simp [RowKit.intOf]; omega⟩
            rw [HE2.out]
            refine ⟨?_, (HM2.out.below.alloc (by omega) _).grown hg6 (by simp; omega) (fun j hj => (own_block' HM2.out.row j hj).1)⟩
            have e3 : (hs ++ [nm]).length = hs.length + 1 := by simp
            rw [e3, List.map_append]; exact hown6
    · have hke : k = l.length := by omega
      subst hke
      rw [HE.out]
      go_wp2_with fail
      go_ret
      exact ⟨va, vc, rfl, hbw⟩
end Go.Proofs.YtaennaoakopgfaaDoor

set_option linter.unusedSimpArgs false
set_option linter.unusedVariables false
namespace Go.Proofs.YtaennaoakopgfaaDoor
open Go.RowKit Go.Lib Go.Sort

/-- What the document's read leaves. -/
def DocP (w : World) (x : Pr (List Nd)) (e : Ending) (w' : World) : Prop :=
  (match x with
   | .ok l => ∃ v, e = .returned (.tuple #[v, .int .i64 0, .int .i64 0]) ∧ OwnN w' w.heap.size v l
   | .bad p er => e = .returned (.tuple #[.slice none 0 0, .int .i64 (p : Int), .int .i64 er])
   | .out => False) ∧ Below w.heap.size w w'
theorem ret_d {v : Value} {a b c d : Int} (h : a = b) (h2 : c = d) : Ending.returned (.tuple #[v, .int .i64 a, .int .i64 c]) = .returned (.tuple #[v, .int .i64 b, .int .i64 d]) := by rw [h, h2]
theorem below_new {w w' : World} {R : Nat} (hg : w.grownBy w' (some R)) (hR : w.heap.size ≤ R) : Below w.heap.size w w' := ⟨hg.os, hg.tape, hg.output, hg.size, fun k hk => hg.block k hk (by intro e; injection e; omega)⟩

theorem below_drew {w w' : World} (h : Below w.heap.size w w') (m : Nat) : Below w.heap.size w (w'.drewN m) := ⟨h.os, h.tape, h.output, h.size, h.block⟩

set_option maxRecDepth 20000 in
set_option maxHeartbeats 16000000 in
theorem docRead_any (w : World) (s : ByteArray) (pat : Bool) (most : Nat) (hz : s.size ≤ maxLen) (hmo : (pat = false ∧ most = 64) ∨ (pat = true ∧ most = 16)) :
    Calls Tryd.prog 49 #[.string s, .bool pat] w fun e w' => DocP w (rdWhole s pat most) e w' := by
  have hz' := hz
  unfold maxLen at hz'
  obtain ⟨X, hX⟩ : ∃ X, rdWhole s pat most = X := ⟨_, rfl⟩
  rw [hX]
  have HX : Hid (X = rdWhole s pat most) := hX.symm
  clear hX
  by_cases h4 : 4096 < s.size
  · have HE : Hid (X = .bad 0 3) := by show X = _; rw [HX.out]; unfold rdWhole; rw [if_pos h4]
    clear HX
    go_enter Tryd.func49, Tryd.ntmps49
    go_wp2_with fail
    go_ret3
    rw [HE.out]
    exact ⟨rfl, Below.refl _ _⟩
  have hs : s.size ≤ 4096 := by omega
  have cCk : Hid (Calls Tryd.prog 75 #[.string s] w fun e w' => e = .returned (.tuple #[.int .i64 (chk s).1, .int .i64 (chk s).2]) ∧ Below w.heap.size w w') := refUtf_any s w hz
  by_cases hc : (chk s).2 = 0
  rotate_left
  · have HE : Hid (X = .bad (chk s).1 (chk s).2) := by show X = _; rw [HX.out]; unfold rdWhole; rw [if_neg h4, if_neg hc]
    have hc' : ((chk s).2 != 0) = true := by simpa using hc
    clear HX hc
    generalize chk s = q at *
    go_enter Tryd.func49, Tryd.ntmps49
    go_wp2_with (go_at_call 75; refine cCk.out.mono ?_; rintro x w1 ⟨rfl, hb1⟩)
    go_ret3
    rw [HE.out]
    exact ⟨rfl, hb1⟩
  have HXW : Hid (X = (rdX s pat (psFuel s) .cond (skp s 0) 0).bind fun r => (psFrom s pat mx63 r.2).bind fun _ =>
      if r.2 < s.size then .bad r.2 6 else if most < r.1.length then .bad s.size 10 else if pat = true ∧ 6 < (hlsL r.1).length then .bad s.size 10 else .ok r.1) := by
    show X = _
    rw [HX.out]; unfold rdWhole; rw [if_neg h4, if_pos hc]
  have HN : Hid (X ≠ .out) := by show X ≠ _; rw [HX.out, ← read_eq]; exact psRead_in s pat most
  rw [hc] at cCk
  have hsk := skp_in (s := s) (p := 0) (by omega)
  have hno : rdX s pat (psFuel s) .cond (skp s 0) 0 ≠ .out := fun e => HN.out (by rw [HXW.out, e]; rfl)
  have cCo : Hid (∀ W R, RdM W R s pat (skp s 0) 0 0 0 → Calls Tryd.prog 77 #[.pointer (some ⟨R, 0, none⟩)] W fun e w' => RRes W R s pat (skp s 0) 0 0 (rdX s pat (psFuel s) .cond (skp s 0) 0) e w') := fun W R h' => (rdc_any s pat hs (psFuel s)).cond W R _ 0 0 h' hsk.2 (by omega) hno
  have cSk : Hid (∀ W R, RdM W R s pat 0 0 0 0 → Calls Tryd.prog 76 #[.pointer (some ⟨R, 0, none⟩)] W fun x w' => x = .returned (.tuple #[]) ∧ RdM w' R s pat (skp s 0) 0 0 0 ∧ W.grownBy w' (some R)) := fun W R h' => rskip_any W R s pat 0 0 0 0 h' hs (by omega)
  have hlen : ∀ r, rdX s pat (psFuel s) .cond (skp s 0) 0 = .ok r → r.1.length + skp s 0 ≤ r.2 ∧ skp s 0 ≤ r.2 ∧ r.2 ≤ s.size ∧ KidsIn r.1 := fun r hr => rdX_len ⟨(fun _ e => by cases e), (fun _ _ e => by cases e)⟩ (fun _ _ e => by cases e) hsk.2 hr
  generalize (chk s).1 = q0 at *
  clear HX h4 hc hno
  go_enter Tryd.func49, Tryd.ntmps49
  go_wp2_with (go_at_call 75; refine cCk.out.mono ?_; rintro x w1 ⟨rfl, hb1⟩)
  have M2 : Hid (RdM (w1.alloc (.cells #[.string s, .bool pat, .int .i64 0, .int .i64 0, .int .i64 0, .int .i64 0] 110)) w1.heap.size s pat 0 0 0 0) := ⟨by
    show (w1.heap.push _)[w1.heap.size]? = _
    simp⟩
  have B2 : Hid (Below w1.heap.size w1 (w1.alloc (.cells #[.string s, .bool pat, .int .i64 0, .int .i64 0, .int .i64 0, .int .i64 0] 110))) := (Below.refl _ _).alloc (Nat.le_refl _) _
  refine (cSk.out _ _ M2.out).mono ?_
  rintro x w3 ⟨rfl, hm3, hg3⟩
  have M3 : Hid (RdM w3 w1.heap.size s pat (skp s 0) 0 0 0) := hm3
  have G3 : Hid (w1.grownBy w3 (some w1.heap.size)) := (gr_of_below B2.out _).trans hg3
  have h13 : w1.heap.size < w3.heap.size := hm3.lt
  clear hm3 hg3 M2 B2 cSk
  go_wp2_with fail
  go_at_call 77
  refine (cCo.out _ _ M3.out).mono ?_
  clear cCo M3
  intro x w4 hR4
  have hb1s := hb1.size
  cases h1 : rdX s pat (psFuel s) .cond (skp s 0) 0 with
  | out => rw [h1] at hR4; cases hR4
  | bad p er =>
    rw [h1] at hR4
    obtain ⟨v, l, a', o', rfl, hO4, hBL, hm4, her, hg4⟩ := hR4
    obtain ⟨vo, vn, vc, rfl⟩ := hO4.form
    obtain ⟨d0, d1, d2, d3, d4, d5⟩ := hm4.cells
    have hne : (er == 0) = false := by rw [beq_eq_false_iff_ne]; exact her
    have HE : Hid (X = .bad p er) := by show X = _; rw [HXW.out, h1]; rfl
    have HB : Hid (Below w.heap.size w w4) := hb1.trans ((below_new (G3.out.trans hg4) (Nat.le_refl _)).mono hb1s)
    clear hO4 hBL hm4 hg4 h1 HXW HN her
    go_wp2_with fail
    go_quiet (fail)
    go_wp2_with fail
    go_ret3
    rw [HE.out]
    exact ⟨rfl, below_drew HB.out _⟩
  | ok r =>
    rw [h1] at hR4
    obtain ⟨v, rfl, hO4, hm4, hg4⟩ := hR4
    obtain ⟨vo, vcap, rfl, hRd4⟩ := Rd_of_own hO4
    obtain ⟨d0, d1, d2, d3, d4, d5⟩ := hm4.cells
    obtain ⟨k1, k2, k3, k4⟩ := hlen r h1
    have M4 : Hid (RdM w4 w1.heap.size s pat r.2 0 0 0) := hm4
    have G4 : Hid (w1.grownBy w4 (some w1.heap.size)) := G3.out.trans hg4
    have R4 : Hid (Rd w4 vo vcap r.1) := hRd4
    have hk8 : ∀ x ∈ r.1, x.kids.length * 8 ≤ 140737488355328 := fun x hx => by have := k4.few x hx; omega
    have HK8 : Hid (∀ x ∈ r.1, x.kids.length * 8 ≤ 140737488355328) := hk8
    have hbnd := hRd4.bound
    unfold maxLen at hbnd
    have hrl : r.1.length ≤ 4096 := by omega
    clear hO4 hm4 hg4 hRd4 hlen k4 hk8
    cases h2 : psFrom s pat mx63 r.2 with
    | out => exact absurd h2 (psFrom_in _ _ _ _)
    | bad p er =>
      obtain ⟨rfl, rfl, hsg⟩ := sg_bad h2
      have HE : Hid (X = .bad r.2 5) := by show X = _; rw [HXW.out, h1]; simp only [Pr.bind, h2]
      have cS : Hid (Calls Tryd.prog 78 #[.pointer (some ⟨w1.heap.size, 0, none⟩)] w4 fun x w' => x = .returned (.tuple #[.string ⟨#[]⟩, .int .i64 0]) ∧ RdM w' w1.heap.size s pat r.2 0 r.2 5 ∧ w4.grownBy w' (some w1.heap.size)) := sign_no s pat hs w4 _ r.2 0 0 M4.out k3 hsg
      clear h1 h2 HXW HN hsg
      go_wp2_with fail
      go_at_call 78
      refine cS.out.mono ?_
      rintro x w5 ⟨rfl, hm5, hg5⟩
      obtain ⟨e0, e1, e2, e3, e4, e5⟩ := hm5.cells
      have HB : Hid (Below w.heap.size w w5) := hb1.trans ((below_new (G4.out.trans hg5) (Nat.le_refl _)).mono hb1s)
      clear hm5 hg5 d0 d1 d2 d3 d4 d5
      go_wp2_with fail
      go_quiet (fail)
      go_wp2_with fail
      go_ret3
      rw [HE.out]
      exact ⟨rfl, below_drew HB.out _⟩
    | ok t =>
      have cS : Hid (Calls Tryd.prog 78 #[.pointer (some ⟨w1.heap.size, 0, none⟩)] w4 fun x w' => x = .returned (.tuple #[.string (sgW t.what), .int .i64 ((if t.what = 0 ∨ t.what = 48 ∨ t.what = 97 then 0 else t.to - r.2 : Nat) : Int)]) ∧ Below w4.heap.size w4 w') := sign_ok s pat hs w4 _ r.2 0 0 M4.out k3 t h2
      have HX2 : Hid (X = if r.2 < s.size then .bad r.2 6 else if most < r.1.length then .bad s.size 10 else if pat = true ∧ 6 < (hlsL r.1).length then .bad s.size 10 else .ok r.1) := by show X = _; rw [HXW.out, h1]; simp only [Pr.bind, h2]
      generalize (if t.what = 0 ∨ t.what = 48 ∨ t.what = 97 then 0 else t.to - r.2 : Nat) = nn at *
      generalize sgW t.what = T at *
      clear h1 h2 HXW HN
      go_wp2_with fail
      go_at_call 78
      refine cS.out.mono ?_
      rintro x w5 ⟨rfl, hb5⟩
      have M5 : Hid (RdM w5 w1.heap.size s pat r.2 0 0 0) := M4.out.below hb5
      have G5 : Hid (w1.grownBy w5 (some w1.heap.size)) := G4.out.trans (gr_of_below hb5 _)
      have R5 : Hid (Rd w5 vo vcap r.1) := R4.out.below hb5 hb5.size
      obtain ⟨e0, e1, e2, e3, e4, e5⟩ := M5.out.cells
      have B5 : Hid (Below w.heap.size w w5) := hb1.trans ((below_new G5.out (Nat.le_refl _)).mono hb1s)
      clear hb5 cS M4 G4 R4 d0 d1 d2 d3 d4 d5
      by_cases hlt : r.2 < s.size
      · have HE : Hid (X = .bad r.2 6) := by show X = _; rw [HX2.out, if_pos hlt]
        have cF : Hid (Calls Tryd.prog 79 #[.pointer (some ⟨w1.heap.size, 0, none⟩), .int .i64 (r.2 : Int), .int .i64 6] w5 fun x w' => x = .returned (.slice none 0 0) ∧ RdM w' w1.heap.size s pat r.2 0 r.2 6 ∧ w5.grownBy w' (some w1.heap.size)) := rfail_any w5 _ s pat r.2 0 0 0 M5.out r.2 6
        clear HX2
        go_wp2_with fail
        go_at_call 79
        refine cF.out.mono ?_
        rintro x w6 ⟨rfl, hm6, hg6⟩
        obtain ⟨f0, f1, f2, f3, f4, f5⟩ := hm6.cells
        have HB : Hid (Below w.heap.size w w6) := hb1.trans ((below_new (G5.out.trans hg6) (Nat.le_refl _)).mono hb1s)
        clear hm6 hg6 e0 e1 e2 e3 e4 e5
        go_wp2_with fail
        go_quiet (fail)
        go_wp2_with fail
        go_ret3
        rw [HE.out]
        exact ⟨rfl, below_drew HB.out _⟩
      · have HX3 : Hid (X = if most < r.1.length then .bad s.size 10 else if pat = true ∧ 6 < (hlsL r.1).length then .bad s.size 10 else .ok r.1) := by show X = _; rw [HX2.out, if_neg hlt]
        clear HX2
        have cC : Hid (∀ W', Rd W' vo vcap r.1 → Calls Tryd.prog 11 #[.slice vo r.1.length vcap] W' fun e w' => ∃ v', e = .returned v' ∧ OwnN w' W'.heap.size v' r.1 ∧ Below W'.heap.size W' w') := fun W' h' => copy_any _ r.1 W' _ (Nat.le_refl _) h' (by omega) HK8.out
        have cH : Hid (∀ W', Rd W' vo vcap r.1 → Calls Tryd.prog 29 #[.slice vo r.1.length vcap] W' fun e w' => ∃ va vc, e = .returned (.slice va (hlsL r.1).length vc) ∧ Below W'.heap.size W' w') := fun W' h' => refHoles_any h' (by omega)
        have hhl := hlsL_len r.1
        generalize hlsL r.1 = H at *
        rcases hmo with ⟨rfl, rfl⟩ | ⟨rfl, rfl⟩
        · by_cases hm : 64 < r.1.length
          · have HE : Hid (X = .bad s.size 10) := by show X = _; rw [HX3.out, if_pos hm]
            clear HX3
            go_wp2_with fail
            go_ret3
            rw [HE.out]
            exact ⟨rfl, B5.out⟩
          · have HE : Hid (X = .ok r.1) := by show X = _; rw [HX3.out, if_neg hm]; simp
            clear HX3
            go_wp2_with fail
            go_at_call 11
            refine (cC.out _ R5.out).mono ?_
            rintro x w6 ⟨v', rfl, hO6, hb6⟩
            have HP : Hid (OwnN w6 w.heap.size v' r.1 ∧ Below w.heap.size w w6) := ⟨hO6.lower B5.out.size, B5.out.trans (hb6.mono B5.out.size)⟩
            clear hO6 hb6
            go_wp2_with fail
            go_ret3
            rw [HE.out]
            exact ⟨⟨_, rfl, HP.out.1⟩, HP.out.2⟩
        · by_cases hm : 16 < r.1.length
          · have HE : Hid (X = .bad s.size 10) := by show X = _; rw [HX3.out, if_pos hm]
            clear HX3
            go_wp2_with fail
            go_ret3
            rw [HE.out]
            exact ⟨rfl, B5.out⟩
          · by_cases h6 : 6 < H.length
            · have HE : Hid (X = .bad s.size 10) := by show X = _; rw [HX3.out, if_neg hm, if_pos ⟨rfl, h6⟩]
              clear HX3
              go_wp2_with fail
              go_at_call 29
              refine (cH.out _ R5.out).mono ?_
              rintro x w6 ⟨va, vc', rfl, hb6⟩
              have HB : Hid (Below w.heap.size w w6) := B5.out.trans (hb6.mono B5.out.size)
              clear hb6
              go_wp2_with fail
              go_ret3
              rw [HE.out]
              exact ⟨rfl, HB.out⟩
            · have HE : Hid (X = .ok r.1) := by show X = _; rw [HX3.out, if_neg hm, if_neg (by rintro ⟨_, h⟩; exact h6 h)]
              clear HX3
              go_wp2_with fail
              go_at_call 29
              refine (cH.out _ R5.out).mono ?_
              rintro x w6 ⟨va, vc', rfl, hb6⟩
              have R6 : Hid (Rd w6 vo vcap r.1) := R5.out.below hb6 hb6.size
              have B6 : Hid (Below w.heap.size w w6) := B5.out.trans (hb6.mono B5.out.size)
              clear hb6
              go_wp2_with fail
              go_at_call 11
              refine (cC.out _ R6.out).mono ?_
              rintro x w7 ⟨v', rfl, hO7, hb7⟩
              have HP : Hid (OwnN w7 w.heap.size v' r.1 ∧ Below w.heap.size w w7) := ⟨hO7.lower B6.out.size, B6.out.trans (hb7.mono B6.out.size)⟩
              clear hO7 hb7
              go_wp2_with fail
              go_ret3
              rw [HE.out]
              exact ⟨⟨_, rfl, HP.out.1⟩, HP.out.2⟩
end Go.Proofs.YtaennaoakopgfaaDoor

set_option linter.unusedSimpArgs false
set_option linter.unusedVariables false
namespace Go.Proofs.YtaennaoakopgfaaDoor
open Go.RowKit Go.Lib Go.Sort

/-- The three results. -/
def pl3 (x : Pr (List Nd)) : List Nd × Nat × Int := match x with
  | .ok l => (l, 0, 0)
  | .bad p er => ([], p, er)
  | .out => ([], 0, 0)
def Tri (w : World) (x : Pr (List Nd)) (e : Ending) (w' : World) : Prop := ∃ ao cap, e = .returned (.tuple #[.slice ao (pl3 x).1.length cap, .int .i64 ((pl3 x).2.1 : Int), .int .i64 (pl3 x).2.2]) ∧ Rd w' ao cap (pl3 x).1 ∧ Below w.heap.size w w'
theorem rd_nil (w : World) : Rd w none 0 [] := ⟨none, 0, rfl, by simp, by simp [maxLen], .inl rfl⟩
theorem ReadP.tri {w : World} {x : Pr (List Nd)} {e : Ending} {w' : World} (h : ReadP w x e w') : Tri w x e w' := by
  obtain ⟨h1, h2⟩ := h
  cases x with
  | ok l => obtain ⟨ao, cap, he, hr⟩ := h1; exact ⟨ao, cap, he, hr, h2⟩
  | bad p er => exact ⟨none, 0, h1, rd_nil _, h2⟩
  | out => cases h1
theorem DocP.tri {w : World} {x : Pr (List Nd)} {e : Ending} {w' : World} (h : DocP w x e w') : Tri w x e w' := by
  obtain ⟨h1, h2⟩ := h
  cases x with
  | ok l =>
    obtain ⟨v, he, hr⟩ := h1
    obtain ⟨ao, cap, rfl, hrd⟩ := Rd_of_own hr
    exact ⟨ao, cap, he, hrd, h2⟩
  | bad p er => exact ⟨none, 0, h1, rd_nil _, h2⟩
  | out => cases h1

theorem parseT (w : World) (s : ByteArray) (hz : s.size ≤ maxLen) (hT : Tabs w) : Calls Tryd.prog 24 #[.string s] w fun e w' => Tri w (psRead s false 64) e w' := (parse_any w s hz hT).mono fun _ _ h => h.tri
theorem patternT (w : World) (s : ByteArray) (hz : s.size ≤ maxLen) (hT : Tabs w) : Calls Tryd.prog 26 #[.string s] w fun e w' => Tri w (psRead s true 16) e w' := (pattern_any w s hz hT).mono fun _ _ h => h.tri
theorem docParseT (w : World) (s : ByteArray) (hz : s.size ≤ maxLen) : Calls Tryd.prog 25 #[.string s] w fun e w' => Tri w (psRead s false 64) e w' := by
  have cR : Hid (Calls Tryd.prog 49 #[.string s, .bool false] w fun e w' => Tri w (psRead s false 64) e w') := by
    show Calls _ _ _ _ _
    rw [read_eq]
    exact (docRead_any w s false 64 hz (.inl ⟨rfl, rfl⟩)).mono fun _ _ h => h.tri
  generalize psRead s false 64 = X at *
  go_enter Tryd.func25, Tryd.ntmps25
  go_wp2_with fail
  go_at_call 49
  refine cR.out.mono ?_
  rintro x w1 ⟨ao, cap, rfl, h2, h3⟩
  have HP : Hid (Rd w1 ao cap (pl3 X).1 ∧ Below w.heap.size w w1) := ⟨h2, h3⟩
  clear h2 h3
  go_wp2_with fail
  go_ret3
  exact ⟨ao, cap, rfl, HP.out⟩
theorem docPatternT (w : World) (s : ByteArray) (hz : s.size ≤ maxLen) : Calls Tryd.prog 27 #[.string s] w fun e w' => Tri w (psRead s true 16) e w' := by
  have cR : Hid (Calls Tryd.prog 49 #[.string s, .bool true] w fun e w' => Tri w (psRead s true 16) e w') := by
    show Calls _ _ _ _ _
    rw [read_eq]
    exact (docRead_any w s true 16 hz (.inr ⟨rfl, rfl⟩)).mono fun _ _ h => h.tri
  generalize psRead s true 16 = X at *
  go_enter Tryd.func27, Tryd.ntmps27
  go_wp2_with fail
  go_at_call 49
  refine cR.out.mono ?_
  rintro x w1 ⟨ao, cap, rfl, h2, h3⟩
  have HP : Hid (Rd w1 ao cap (pl3 X).1 ∧ Below w.heap.size w w1) := ⟨h2, h3⟩
  clear h2 h3
  go_wp2_with fail
  go_ret3
  exact ⟨ao, cap, rfl, HP.out⟩

theorem awk_read : (pl3 (psRead ⟨#[97, 43, 49]⟩ false 64)).1.length = 3 ∧ (pl3 (psRead ⟨#[97, 43, 49]⟩ false 64)).2 = (0, 0) := by decide +kernel

set_option maxRecDepth 20000 in
set_option maxHeartbeats 8000000 in
theorem pawake_any (w : World) (hT : Tabs w) :
    Calls Tryd.prog 23 #[] w fun e w' => e = .returned (.bool true) ∧ Below w.heap.size w w' := by
  have cP : Hid (Calls Tryd.prog 24 #[.string ⟨#[97, 43, 49]⟩] w fun e w' => ∃ ao cap, e = .returned (.tuple #[.slice ao 3 cap, .int .i64 0, .int .i64 0]) ∧ Below w.heap.size w w') := by
    refine (parseT w ⟨#[97, 43, 49]⟩ (by decide) hT).mono ?_
    rintro e w' ⟨ao, cap, he, _, hb⟩
    rw [awk_read.1, awk_read.2] at he
    exact ⟨ao, cap, he, hb⟩
  go_enter Tryd.func23, Tryd.ntmps23
  go_wp2_with fail
  go_at_call 24
  refine cP.out.mono ?_
  rintro x w1 ⟨ao, cap, rfl, hb⟩
  go_wp2_with fail
  go_ret
  exact ⟨rfl, hb⟩

set_option maxRecDepth 20000 in
set_option maxHeartbeats 8000000 in
theorem pplays.walk (s : ByteArray) (w : World) (hT : Tabs w) (hz : s.size ≤ maxLen) :
    Calls Tryd.prog 4 #[.string s] w fun e w' => e = .returned (.bool true) ∧ Below w.heap.size w w' := by
  have cA : Hid (∀ W, Tabs W → Calls Tryd.prog 23 #[] W fun e w' => e = .returned (.bool true) ∧ Below W.heap.size W w') := pawake_any
  have c1 : Hid (∀ W, Tabs W → Calls Tryd.prog 24 #[.string s] W fun e w' => Tri W (psRead s false 64) e w') := fun W h => parseT W s hz h
  have c2 : Hid (∀ W, Calls Tryd.prog 25 #[.string s] W fun e w' => Tri W (psRead s false 64) e w') := fun W => docParseT W s hz
  have c3 : Hid (∀ W, Tabs W → Calls Tryd.prog 26 #[.string s] W fun e w' => Tri W (psRead s true 16) e w') := fun W h => patternT W s hz h
  have c4 : Hid (∀ W, Calls Tryd.prog 27 #[.string s] W fun e w' => Tri W (psRead s true 16) e w') := fun W => docPatternT W s hz
  have cS : Hid (∀ W ao cap bo cb (l : List Nd), Rd W ao cap l → Rd W bo cb l → Calls Tryd.prog 15 #[.slice ao l.length cap, .slice bo l.length cb] W fun e w' => e = .returned (.bool true) ∧ Below W.heap.size W w') := fun W ao cap bo cb l h1 h2 => sameR h1 h2 true (by simp)
  generalize psRead s false 64 = X at *
  generalize psRead s true 16 = Y at *
  unfold Tri at c1 c2 c3 c4
  generalize pl3 X = x3 at *
  generalize pl3 Y = y3 at *
  obtain ⟨xl, xp, xe⟩ := x3
  obtain ⟨yl, yp, ye⟩ := y3
  simp only at c1 c2 c3 c4
  have HT : Hid (∀ W, Below w.heap.size w W → Tabs W) := fun W h => hT.below h
  have hb : Below w.heap.size w w := Below.refl _ _
  obtain ⟨XL, hXL⟩ : ∃ n, xl.length = n := ⟨_, rfl⟩
  obtain ⟨YL, hYL⟩ : ∃ n, yl.length = n := ⟨_, rfl⟩
  have cSx : Hid (∀ W ao cap bo cb, Rd W ao cap xl → Rd W bo cb xl → Calls Tryd.prog 15 #[.slice ao XL cap, .slice bo XL cb] W fun e w' => e = .returned (.bool true) ∧ Below W.heap.size W w') := fun W ao cap bo cb h1 h2 => by have := cS.out W ao cap bo cb xl h1 h2; rw [hXL] at this; exact this
  have cSy : Hid (∀ W ao cap bo cb, Rd W ao cap yl → Rd W bo cb yl → Calls Tryd.prog 15 #[.slice ao YL cap, .slice bo YL cb] W fun e w' => e = .returned (.bool true) ∧ Below W.heap.size W w') := fun W ao cap bo cb h1 h2 => by have := cS.out W ao cap bo cb yl h1 h2; rw [hYL] at this; exact this
  rw [hXL] at c1 c2
  rw [hYL] at c3 c4
  clear hT hXL hYL cS
  go_enter Tryd.func4, Tryd.ntmps4
  go_wp2_with fail
  go_at_call 23
  refine (cA.out _ (HT.out _ hb)).mono ?_
  rintro x w1 ⟨rfl, hc⟩
  replace hb := hb.trans (hc.mono hb.size)
  clear hc
  go_wp2_with fail
  go_at_call 24
  refine (c1.out _ (HT.out _ hb)).mono ?_
  rintro x w2 ⟨ao, acap, rfl, hra, hc⟩
  have Ra : Hid (Rd w2 ao acap xl) := hra
  replace hb := hb.trans (hc.mono hb.size)
  clear hc hra
  go_wp2_with fail
  go_at_call 25
  refine (c2.out _).mono ?_
  rintro x w3 ⟨bo, bcap, rfl, hrb, hc⟩
  have Ra3 : Hid (Rd w3 ao acap xl) := Ra.out.below hc hc.size
  have Rb : Hid (Rd w3 bo bcap xl) := hrb
  replace hb := hb.trans (hc.mono hb.size)
  clear hc hrb Ra
  go_wp2_with fail
  go_at_call 26
  refine (c3.out _ (HT.out _ hb)).mono ?_
  rintro x w4 ⟨co, ccap, rfl, hrc, hc⟩
  have Ra4 : Hid (Rd w4 ao acap xl) := Ra3.out.below hc hc.size
  have Rb4 : Hid (Rd w4 bo bcap xl) := Rb.out.below hc hc.size
  have Rc : Hid (Rd w4 co ccap yl) := hrc
  replace hb := hb.trans (hc.mono hb.size)
  clear hc hrc Ra3 Rb
  go_wp2_with fail
  go_at_call 27
  refine (c4.out _).mono ?_
  rintro x w5 ⟨eo, ecap, rfl, hre, hc⟩
  have Ra5 : Hid (Rd w5 ao acap xl) := Ra4.out.below hc hc.size
  have Rb5 : Hid (Rd w5 bo bcap xl) := Rb4.out.below hc hc.size
  have Rc5 : Hid (Rd w5 co ccap yl) := Rc.out.below hc hc.size
  have Re5 : Hid (Rd w5 eo ecap yl) := hre
  replace hb := hb.trans (hc.mono hb.size)
  clear hc hre Ra4 Rb4 Rc
  go_wp2_with fail
  go_at_call 15
  refine (cSx.out _ _ _ _ _ Ra5.out Rb5.out).mono ?_
  rintro x w6 ⟨rfl, hc⟩
  have Rc6 : Hid (Rd w6 co ccap yl) := Rc5.out.below hc hc.size
  have Re6 : Hid (Rd w6 eo ecap yl) := Re5.out.below hc hc.size
  replace hb := hb.trans (hc.mono hb.size)
  clear hc Ra5 Rb5 Rc5 Re5
  go_wp2_with fail
  go_at_call 15
  refine (cSy.out _ _ _ _ _ Rc6.out Re6.out).mono ?_
  rintro x w7 ⟨rfl, hc⟩
  replace hb := hb.trans (hc.mono hb.size)
  clear hc
  go_wp2_with fail
  go_ret
  exact ⟨rfl, hb⟩
end Go.Proofs.YtaennaoakopgfaaDoor
