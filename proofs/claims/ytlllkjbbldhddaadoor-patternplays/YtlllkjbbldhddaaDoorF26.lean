/-
  PgW.
-/
import Derived.Test.YtlllkjbbldhddaaDoorChecked
import GoSem.PinnedTables
import GoSem.Claim
import GoSem.ClaimJoined
import GoSem.ClaimMapViews
import Derived.JoinedTies
import Derived.KernelRfl
import Derived.Shelf.Unicode.DecodeSlow
import Derived.Laws.RangeAny
import Derived.Shelf.Unicode.DecodeAny
import Derived.Test.YtlllkjbbldhddaaDoorProg
import Derived.WalkKit
import Derived.Deep.DeepFit
import Derived.Lib.OthersKept
import Derived.Lib.RuneCountTail
import Derived.Lib.LaidU8
import Derived.MakeChecks
import Derived.ProofKit
import Derived.OpenShut
import Derived.Deep.DeepHandedRow
import Derived.Deep.AppendLies
import Derived.Deep.OwnRows
import Derived.Laws.AppendOwnNone
import Derived.Deep.QuietTactic
import Derived.BigQuiet
import Derived.Deep.RegionWith
import Derived.Laws.DeepStrings4
import Derived.Deep.Slices
import Derived.SizedLaws
import Derived.Lib.MapLaws
import Derived.Sort.Walk0
import Derived.Lib.ItoaNum
import Derived.Maps.OwnSet
import Derived.StringKeys
import Derived.Below
import Derived.Laws.ResultCell
import Derived.Deep.RegionHeld3
import Derived.Deep.RegionLaw
import Derived.Lib.QuietBelow
import Derived.StillTail
import Derived.Deep.DeepCutAuto
import Derived.Laws.IdiomStrings
import Derived.WalkSmall
import Derived.Laws.OwnMore
import Derived.Test.YtlllkjbbldhddaaDoorRows
import Derived.Test.YtlllkjbbldhddaaDoorF01
import Derived.Test.YtlllkjbbldhddaaDoorF02
import Derived.Test.YtlllkjbbldhddaaDoorF03
import Derived.Test.YtlllkjbbldhddaaDoorF04
import Derived.Test.YtlllkjbbldhddaaDoorF05
import Derived.Test.YtlllkjbbldhddaaDoorF06
import Derived.Test.YtlllkjbbldhddaaDoorF07
import Derived.Test.YtlllkjbbldhddaaDoorF08
import Derived.Test.YtlllkjbbldhddaaDoorF09
import Derived.Test.YtlllkjbbldhddaaDoorF10
import Derived.Test.YtlllkjbbldhddaaDoorF11
import Derived.Test.YtlllkjbbldhddaaDoorF12
import Derived.Test.YtlllkjbbldhddaaDoorF13
import Derived.Test.YtlllkjbbldhddaaDoorF14
import Derived.Test.YtlllkjbbldhddaaDoorF15
import Derived.Test.YtlllkjbbldhddaaDoorF16
import Derived.Test.YtlllkjbbldhddaaDoorF17
import Derived.Test.YtlllkjbbldhddaaDoorF18
import Derived.Test.YtlllkjbbldhddaaDoorF19
import Derived.Test.YtlllkjbbldhddaaDoorF20
import Derived.Test.YtlllkjbbldhddaaDoorF21
import Derived.Test.YtlllkjbbldhddaaDoorF22
import Derived.Test.YtlllkjbbldhddaaDoorF23
import Derived.Test.YtlllkjbbldhddaaDoorF24
import Derived.Test.YtlllkjbbldhddaaDoorF25
set_option linter.unusedSimpArgs false
set_option linter.unusedVariables false
namespace Go.Proofs.YtlllkjbbldhddaaDoor
open Go.RowKit Go.Lib

/-- Young, or one of those that were there. -/
def FilR (w : World) (base B : Nat) (v : Value) (l : List Nd) : Prop := OwnN w base v l ∨ Nodes w B v l
theorem FilR.below {w w' : World} {base B : Nat} {v : Value} {l : List Nd} (h : FilR w base B v l) (hB : B ≤ w.heap.size) (hb : Below w.heap.size w w') : FilR w' base B v l :=
  h.imp (fun h => h.below hb) (fun h => h.below (hb.mono hB) (Nat.le_refl _))
theorem FilR.mono {w : World} {base base' B : Nat} {v : Value} {l : List Nd} (h : FilR w base B v l) (hb : base' ≤ base) : FilR w base' B v l := h.imp (fun h => h.monoP hb) id
theorem FilR.nodes {w : World} {base B : Nat} {v : Value} {l : List Nd} (h : FilR w base B v l) (hB : B ≤ w.heap.size) : Nodes w w.heap.size v l := by
  rcases h with h | h
  · exact Nodes_of_own h (Nat.le_refl _)
  · exact h.below (Below.refl _ _) hB
/-- Lists of such lists; pvs: the slices. -/
structure OwnLf (w : World) (base B : Nat) (v : Value) (ps : List (List Nd)) (pvs : List Value) : Prop where
  len : pvs.length = ps.length
  row : w.ownsRow base 22 1 v ps.length pvs
  each : ∀ i, i < ps.length → FilR w base B (pvs.getD i (.slice none 0 0)) (ps.getD i [])
theorem OwnLf.lst {w : World} {base B : Nat} {v : Value} {ps : List (List Nd)} {pvs : List Value} (h : OwnLf w base B v ps pvs) (hB : B ≤ w.heap.size) : Lst w w.heap.size v ps := by
  obtain ⟨h1, h2⟩ := h.row
  rcases h2 with ⟨rfl, h0⟩ | ⟨g, cap, cur, rfl, hb, hg, hn, hmx, hs, ht⟩
  · have : ps = [] := List.length_eq_zero_iff.1 h0
    subst this
    exact ⟨none, 0, rfl, by simp, by simp, .inl rfl⟩
  · refine ⟨_, cap, rfl, hn, hmx, .inr ⟨g, 0, rfl, lt_of_block hg, fun i hi => ?_⟩⟩
    refine ⟨pvs.getD i (.slice none 0 0), ?_, (h.each i hi).nodes hB⟩
    have hc : w.cell? ⟨g, 0 + i, none⟩ = cur[i]? := by simp [World.cell?, hg]
    have hl := h.len
    rw [hc, ← Array.getElem?_toList]
    have e : cur.toList[i]? = (cur.toList.take (ps.length * 1))[i]? := by rw [List.getElem?_take, if_pos (by omega)]
    rw [e, ht]
    simp [show i < pvs.length by omega]
theorem OwnLf.below {w w' : World} {base B : Nat} {v : Value} {ps : List (List Nd)} {pvs : List Value} (h : OwnLf w base B v ps pvs) (hB : B ≤ w.heap.size) (hb : Below w.heap.size w w') : OwnLf w' base B v ps pvs :=
  ⟨h.len, ownsRow_below h.row hb, fun i hi => (h.each i hi).below hB hb⟩
theorem OwnLf.snoc {w w1 : World} {base B : Nat} {v v' : Value} {ps : List (List Nd)} {pvs : List Value} {l : List Nd} {pv : Value} (h : OwnLf w base B v ps pvs) (hl : FilR w base B pv l) (hbb : B ≤ base) (hbs : base ≤ w.heap.size)
    (hown : w1.ownsRow base 22 1 v' (ps.length + 1) (pvs ++ [pv])) (hg : w.grownBy w1 v.ownBlock) : OwnLf w1 base B v' (ps ++ [l]) (pvs ++ [pv]) := by
  have hlen := h.len
  have hbl : Below B w w1 := ((Below.refl base w).grown hg hbs (fun k hk => (own_block' h.row k hk).1)).mono hbb
  have hk : ∀ {v : Value} {l : List Nd}, FilR w base B v l → FilR w1 base B v l := fun hp => hp.imp (fun hp => hp.kept hg h.row (by decide) (by decide)) (fun hp => hp.below hbl (Nat.le_refl _))
  refine ⟨by simp [hlen], by simpa using hown, fun i hi => ?_⟩
  by_cases hlt : i < ps.length
  · have e1 : (pvs ++ [pv]).getD i (.slice none 0 0) = pvs.getD i (.slice none 0 0) := by simp only [List.getD_eq_getElem?_getD]; rw [List.getElem?_append_left (by omega)]
    have e2 : (ps ++ [l]).getD i [] = ps.getD i [] := by simp only [List.getD_eq_getElem?_getD]; rw [List.getElem?_append_left (by omega)]
    rw [e1, e2]
    exact hk (h.each i hlt)
  · have he : i = ps.length := by simp at hi; omega
    have e1 : (pvs ++ [pv]).getD i (.slice none 0 0) = pv := by rw [he, ← hlen]; simp
    have e2 : (ps ++ [l]).getD i [] = l := by rw [he]; simp
    rw [e1, e2]
    exact hk hl
/-- What filled is handed. -/
structure FiIn (B : Nat) (ao na pa : Option Addr) (cap nc pc : Nat) (l : List Nd) (ps : List (List Nd)) (W : World) : Prop where
  le : B ≤ W.heap.size
  rl : Rd W ao cap l
  ns : Strs W na nc (hlsL l)
  rp : Lst W B (.slice pa ps.length pc) ps
theorem FiIn.below {B : Nat} {ao na pa : Option Addr} {cap nc pc : Nat} {l : List Nd} {ps : List (List Nd)} {W W' : World} (h : FiIn B ao na pa cap nc pc l ps W) (hb : Below W.heap.size W W') : FiIn B ao na pa cap nc pc l ps W' :=
  ⟨Nat.le_trans h.le hb.size, h.rl.below hb hb.size, h.ns.below hb, h.rp.below (hb.mono h.le) (Nat.le_refl _)⟩
theorem fil_len {l : List Nd} {ps : List (List Nd)} (hok : FlOk l ps) {k : Nat} (hk : k < l.length) : (fil l ps k).length ≤ 1024 := by
  obtain ⟨fr, hfr⟩ := Option.isSome_iff_exists.1 (patB_snd hok.pat)
  have h1 := fil_heads (begOk_of (begL_some hfr).2.2.1) ps (k + 1) k (by omega) hk
  have h2 := size_le (l := l) hok.snd ((l.take (k + 1)).drop (fr.getD k 0))
  have h3 := (patB_len hok.pat).2
  rw [← h1, hds_len] at h2
  simp at h2
  omega

set_option maxRecDepth 20000 in
set_option maxHeartbeats 4000000 in
theorem filled_any (B : Nat) (ao na pa : Option Addr) (cap nc pc : Nat) (l : List Nd) (ps : List (List Nd)) (hok : FlOk l ps) : ∀ (i : Nat), i < l.length → ∀ (w : World), FiIn B ao na pa cap nc pc l ps w →
    Calls Tryd.prog 96 #[.slice ao l.length cap, .int .i64 i, .slice na (hlsL l).length nc, .slice pa ps.length pc] w fun e w' => ∃ v', e = .returned v' ∧ FilR w' w.heap.size B v' (fil l ps i) ∧ Below w.heap.size w w' := by
  intro i
  induction i using Nat.strongRecOn with
  | ind i IH =>
    intro hi w hM
    obtain ⟨i0, hi0, hz0, hz1, hz2⟩ := info_parts Tryd.infoNodes
    obtain ⟨fr, hfr⟩ := Option.isSome_iff_exists.1 (patB_snd hok.pat)
    have hb := begOk_of (begL_some hfr).2.2.1
    have hl16 := (patB_len hok.pat).2
    have hiI : (i : Int) < (l.length : Int) := by omega
    have hi00 : (0 : Int) ≤ (i : Int) := by omega
    obtain ⟨hcb1, hcb2⟩ := hM.rl.bound
    unfold maxLen at hcb2
    have HM : Sld (FiIn B ao na pa cap nc pc l ps w) := ⟨hM⟩
    obtain ⟨bb, oo, kv, rfl, hbk, hna⟩ := Rd.cell hM.rl hi
    obtain ⟨e0, e1, e2, e3, e4⟩ := hna
    by_cases ho : (l.getD i nd0).op = 18
    · have hxm : l.getD i nd0 ∈ l := getD_mem hi
      have hmem : (l.getD i nd0).name ∈ hlsL l := mem_hls hxm ho
      have hzl : numL (hlsL l) (l.getD i nd0).name < ps.length := by rw [hok.len]; exact numL_lt hmem
      have cN := number_any (s := (l.getD i nd0).name) hM.ns
      rw [numW_mem hmem] at cN
      have hF := fil_hole (ps := ps) ho
      rw [hF]
      have HPP : Hid (∀ W, Below w.heap.size w W → ∃ b o qa qc, pa = some ⟨b, o, none⟩ ∧ W.cell? ⟨b, o + numL (hlsL l) (l.getD i nd0).name, none⟩ = some (.slice qa (ps.getD (numL (hlsL l) (l.getD i nd0).name) []).length qc) ∧ Nodes W B (.slice qa (ps.getD (numL (hlsL l) (l.getD i nd0).name) []).length qc) (ps.getD (numL (hlsL l) (l.getD i nd0).name) [])) := fun W hbW => by
        obtain ⟨pa', pc', e, hl', hm', hc'⟩ := (HM.out.below hbW).rp
        cases e
        rcases hc' with h | ⟨b, o, rfl, hlt, hc⟩
        · subst h; simp at hzl
        · obtain ⟨pv, h1, h2⟩ := hc _ hzl
          obtain ⟨qa, qc, rfl, _⟩ := id h2
          exact ⟨b, o, qa, qc, rfl, h1, h2⟩
      have hpl : ps.length ≤ pc ∧ pc ≤ maxLen := by
        obtain ⟨_, _, e, h1, h2, _⟩ := hM.rp
        cases e; exact ⟨h1, h2⟩
      obtain ⟨hpl1, hpl2⟩ := hpl
      unfold maxLen at hpl2
      rw [ho] at e0
      clear hM hxm hmem ho hF e1 e3 e4 IH HM hb hfr
      generalize numL (hlsL l) (l.getD i nd0).name = z at *
      generalize ps.getD z [] = r at *
      generalize (l.getD i nd0).name = nm at *
      have hz0' : (0 : Int) ≤ (z : Int) := by omega
      have hz1' : (z : Int) < (ps.length : Int) := by omega
      go_enter Tryd.func96, Tryd.ntmps96
      go_wp2_with (go_at_call 43; refine cN.mono ?_; rintro e w7 ⟨rfl, hb7⟩; have HB7 : Hid (_) := hb7; obtain ⟨pb, po', qa, qc, epo, hpc, hpn⟩ := HPP.out w7 hb7; have HPN : Hid (_) := hpn; cases epo; clear hb7 hpn)
      go_ret
      exact ⟨_, rfl, .inr HPN.out, HB7.out⟩
    · have hF := fil_node (ps := ps) hb hi ho
      obtain ⟨hk3, hkk⟩ := pat_kids hb hi
      have HKS : Sld (∀ k ∈ (l.getD i nd0).kids, (fil l ps k.toNat).length ≤ 1024 ∧ KInP (fil l ps k.toNat)) := ⟨fun k hk => by
        have := hkk k hk
        exact ⟨fil_len hok (by omega), (fil_ok hok (k.toNat + 1) k.toNat (by omega) (by omega)).1⟩⟩
      have HIH : Sld (∀ (k : Nat), (k : Int) ∈ (l.getD i nd0).kids → ∀ (W : World), Below w.heap.size w W → Calls Tryd.prog 96 #[.slice (some ⟨bb, oo, none⟩) l.length cap, .int .i64 k, .slice na (hlsL l).length nc, .slice pa ps.length pc] W fun e w' => ∃ ao' cap', e = .returned (.slice ao' (fil l ps k).length cap') ∧ FilR w' W.heap.size B (.slice ao' (fil l ps k).length cap') (fil l ps k) ∧ Below W.heap.size W w') := ⟨fun k hk W hW => by
        have h1 := hkk (k : Int) hk
        refine (IH k (by omega) (by omega) W (HM.out.below hW)).mono fun e w' ⟨v', h1, h2, h3⟩ => ?_
        have hsz := (HM.out.below hW).le
        obtain ⟨ao', cap', rfl, _⟩ := id (h2.nodes (Nat.le_trans hsz h3.size))
        exact ⟨ao', cap', h1, h2, h3⟩⟩
      have HBW : Sld (B ≤ w.heap.size) := ⟨hM.le⟩
      obtain ⟨ka, kc, rfl, hK1, hK2, hkc⟩ := e4
      have hkm := hK2.1
      unfold maxLen at hkm
      obtain ⟨R, hR⟩ : ∃ R, fil l ps i = R := ⟨_, rfl⟩
      rw [hR] at hF ⊢
      have g18 : ((l.getD i nd0).op == 18) = false := by rw [beq_eq_false_iff_ne]; exact ho
      generalize l.getD i nd0 = x at *
      obtain ⟨op, n, nm, kids⟩ := x
      simp only at e0 e1 e2 e3 hkk hk3 hF HKS HIH hkc hK1 g18 ho
      have HKC : Sld (kids = [] ∨ ∃ b o, ka = some ⟨b, o, none⟩ ∧ b < w.heap.size ∧ ∀ j, j < kids.length → w.cell? ⟨b, o + j, none⟩ = some (.int .i64 (kids.getD j 0))) := ⟨hkc⟩
      have HND : Sld (R = joinL op n nm (kids.map fun q => fil l ps q.toNat)) := ⟨hF⟩
      have HKK : Sld (∀ q ∈ kids, 0 ≤ q ∧ q < (i : Int)) := ⟨hkk⟩
      have HTOP : Sld (∀ w', Below w.heap.size w w' → w'.cell? ⟨bb, oo + i * 4, none⟩ = some (.int .i64 op) ∧ w'.cell? ⟨bb, oo + i * 4 + 1, none⟩ = some (.int .i64 n) ∧ w'.cell? ⟨bb, oo + i * 4 + 2, none⟩ = some (.string nm) ∧ w'.cell? ⟨bb, oo + i * 4 + 3, none⟩ = some (.slice ka kids.length kc)) := ⟨fun w' hb =>
        ⟨(hb.cell (p := ⟨bb, _, none⟩) hbk).trans e0, (hb.cell (p := ⟨bb, _, none⟩) hbk).trans e1, (hb.cell (p := ⟨bb, _, none⟩) hbk).trans e2, (hb.cell (p := ⟨bb, _, none⟩) hbk).trans e3⟩⟩
      have hkI : (kids.length : Int) ≤ (kc : Int) := by omega
      have hkM : (kc : Int) ≤ 9223372036854775807 := by omega
      have t0 := (HTOP.out w (Below.refl _ _)).1
      clear hkc hF hkk e0 e1 e2 e3 IH hR hM HM hb hfr ho
      go_enter Tryd.func96, Tryd.ntmps96
      go_wp2_with fail
      clear t0
      go_loopw [9, 10] (fun v q wr => ∃ (j : Nat) (pvs : List Value), j ≤ kids.length ∧ q = .int .i64 j ∧ OwnLf wr w.heap.size B v ((kids.take j).map fun q => fil l ps q.toNat) pvs ∧ Below w.heap.size w wr) (fun _ q _ => kids.length - (RowKit.intOf q).toNat)
      case atStart => exact ⟨0, [], by omega, rfl, ⟨rfl, World.ownsRow_nil _ _ _ _, by simp⟩, Below.refl _ _⟩
      case round =>
        obtain ⟨j, pvs, hj, rfl, hL, hB⟩ := hrel
        obtain ⟨c0, c1, c2, c3⟩ := HTOP.out wr hB
        have hsz := hB.size
        have hln : ((kids.take j).map fun q => fil l ps q.toNat).length = j := by simp; omega
        have HL : Sld (OwnLf wr w.heap.size B _ ((kids.take j).map fun q => fil l ps q.toNat) pvs) := ⟨hL⟩
        obtain ⟨va, vc, hv⟩ := row_form' hL.row
        rw [hln] at hv
        have HB : Sld (Below w.heap.size w wr) := ⟨hB⟩
        clear hL hB
        subst hv
        by_cases hjl : j < kids.length
        · have hjlI : (j : Int) < (kids.length : Int) := by omega
          obtain ⟨kb, ko, rfl, hkb, hkc⟩ : ∃ b o, ka = some ⟨b, o, none⟩ ∧ b < w.heap.size ∧ ∀ j, j < kids.length → w.cell? ⟨b, o + j, none⟩ = some (.int .i64 (kids.getD j 0)) := by
            rcases HKC.out with h | h
            · subst h; simp at hjl
            · exact h
          have hcj : wr.cell? ⟨kb, ko + j, none⟩ = some (.int .i64 (kids.getD j 0)) := (HB.out.cell (p := ⟨kb, ko + j, none⟩) hkb).trans (hkc j hjl)
          obtain ⟨hy0, hy1⟩ := HKK.out (kids.getD j 0) (by simp [hjl])
          have hymem : kids.getD j 0 ∈ kids := by simp [hjl]
          have HTK : Sld (((kids.take (j + 1)).map fun q => fil l ps q.toNat) = ((kids.take j).map fun q => fil l ps q.toNat) ++ [fil l ps (kids.getD j 0).toNat]) := ⟨by rw [List.take_succ_eq_append_getElem hjl, List.map_append]; simp [hjl]⟩
          clear hkc
          generalize kids.getD j 0 = y at *
          obtain ⟨y, rfl⟩ : ∃ z : Nat, y = (z : Int) := ⟨y.toNat, by omega⟩
          rw [Int.toNat_natCast] at HTK
          have CI : Sld _ := ⟨HIH.out y hymem wr HB.out⟩
          have HLN : Sld (((kids.take j).map fun q => fil l ps q.toNat).length = j) := ⟨hln⟩
          clear hln hymem
          generalize fil l ps y = P at *
          go_wp2_with fail
          refine CI.out.mono ?_
          rintro e w2 ⟨ao2, cap2, rfl, hP2, hb2⟩
          have hL2 := HL.out.below (Nat.le_trans HBW.out hsz) hb2
          have hP2' : FilR w2 w.heap.size B (.slice ao2 P.length cap2) P := hP2.mono hsz
          have HB2 : Sld (Below w.heap.size w w2) := ⟨HB.out.trans (hb2.mono hsz)⟩
          have hz2' := HB2.out.size
          have hrow := hL2.row
          rw [HLN.out] at hrow
          have HL2 : Sld _ := ⟨hL2⟩
          have HP2 : Sld _ := ⟨hP2'⟩
          clear hL2 hP2 hP2' CI hb2
          go_wp2_with (at_builtin; refine wpList_append_lies _ rfl (.tmp 37) (.tmp 50) 46 rfl w.heap.size 22 i0 (.slice none 0 0) 1 24 Tryd.underlying46 hi0 hz0 hz1 hz2 rfl (by decide) _ _ _ rfl (hrow.alloc _) ⟨w2.heap.size, 0, none⟩ 1 1 [.slice ao2 P.length cap2] rfl rfl (cell_news_one _ _ _) (by simp [Value.oneCell']) (by omega) (by unfold maxLen; omega) (by omega) (by simp; omega) _ rfl ?_; intro g3 cap3 w3 hown3 hg3 hat hl3)
          refine ⟨⟨j + 1, pvs ++ [.slice ao2 P.length cap2], by omega, by go_num, ?_, ?_⟩, by simp [RowKit.intOf]; omega⟩
          · rw [HTK.out]
            have hB2 : B ≤ w2.heap.size := Nat.le_trans HBW.out hz2'
            refine (HL2.out.below hB2 ((Below.refl _ _).alloc (Nat.le_refl _) _)).snoc (HP2.out.below hB2 ((Below.refl _ _).alloc (Nat.le_refl _) _)) HBW.out (by simp; omega) ?_ hg3
            rw [HLN.out]; exact hown3
          · exact (HB2.out.alloc hz2' _).grown hg3 (by simp; omega) (fun k hk => (own_block' hrow k hk).1)
        · have hje : j = kids.length := by omega
          subst hje
          have e : kids.take kids.length = kids := List.take_length
          have hL := HL.out
          rw [e] at hL
          have CJ : Sld _ := ⟨joined_any op n nm ka kids.length kc (.slice va kids.length vc) (kids.map fun q => fil l ps q.toNat) wr wr.heap.size (Nat.le_refl _) (hL.lst (Nat.le_trans HBW.out hsz)) (by simpa using hk3) (fun p hp => by
            obtain ⟨q, hq, rfl⟩ := List.mem_map.1 hp
            obtain ⟨h2, h3⟩ := HKS.out q hq
            refine ⟨by omega, fun x hx => ?_⟩
            obtain ⟨h4, h5⟩ := h3 x hx
            refine ⟨by omega, fun z hz => ?_⟩
            have := h5 z hz
            omega)⟩
          clear hL HL
          go_wp2_with fail
          refine CJ.out.mono ?_
          rintro e w2 ⟨v', rfl, hO, hb2⟩
          rw [← HND.out] at hO
          go_wp2_with fail
          go_ret
          exact ⟨v', rfl, .inl (hO.monoP hsz), HB.out.trans (hb2.mono hsz)⟩
end Go.Proofs.YtlllkjbbldhddaaDoor
