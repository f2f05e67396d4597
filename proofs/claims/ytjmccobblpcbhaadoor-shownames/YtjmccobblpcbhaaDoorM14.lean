/-
  TlW, ShW, ShFrame.
-/
import Derived.Test.YtjmccobblpcbhaaDoorChecked
import GoSem.PinnedTables
import GoSem.Claim
import GoSem.ClaimJoined
import GoSem.ClaimMapViews
import Derived.JoinedTies
import Derived.KernelRfl
import Derived.Shelf.Unicode.DecodeSlow
import Derived.Laws.RangeAny
import Derived.Shelf.Strings.Builder1
import Derived.Shelf.Small.Utf8
import Derived.Shelf.Small.Bits
import Derived.Shelf.Strings.BuilderF
import Derived.Shelf.Strings.BuilderK
import Derived.Shelf.Strings.BuilderRune
import Derived.Shelf.Utf8.AppendRune
import Derived.Shelf.Strconv.Itoa0
import Derived.Shelf.Strconv.Itoa1
import Derived.Shelf.LaysM
import Derived.Shelf.Strconv.Itoa2
import Derived.Shelf.Strconv.Itoa3
import Derived.Shelf.Strconv.Itoa4
import Derived.Shelf.Strings.Prefix
import Derived.Shelf.Unicode.DecodeAny
import Derived.Test.YtjmccobblpcbhaaDoorProg
import Derived.WalkKit
import Derived.Deep.DeepFit
import Derived.Lib.OthersKept
import Derived.Lib.RuneCountTail
import Derived.Lib.LaidU8
import Derived.MakeChecks
import Derived.ProofKit
import Derived.OpenShut
import Derived.Deep.DeepHandedRow
import Derived.Lib.MapLaws
import Derived.Sort.Walk0
import Derived.Laws.DeepStrings4
import Derived.Lib.ItoaNum
import Derived.Deep.AppendLies
import Derived.Deep.OwnRows
import Derived.Laws.AppendOwnNone
import Derived.Deep.QuietTactic
import Derived.BigQuiet
import Derived.Deep.RegionWith
import Derived.BigCall
import Derived.Lib.LaidTab
import Derived.Maps.OwnSet
import Derived.StringKeys
import Derived.Deep.Slices
import Derived.Lib.QuietBelow
import Derived.StillTail
import Derived.Laws.OwnMore
import Derived.Test.YtjmccobblpcbhaaDoorRows
import Derived.Test.YtjmccobblpcbhaaDoorM01
import Derived.Test.YtjmccobblpcbhaaDoorM02
import Derived.Test.YtjmccobblpcbhaaDoorM03
import Derived.Test.YtjmccobblpcbhaaDoorM04
import Derived.Test.YtjmccobblpcbhaaDoorM05
import Derived.Test.YtjmccobblpcbhaaDoorM06
import Derived.Test.YtjmccobblpcbhaaDoorM07
import Derived.Test.YtjmccobblpcbhaaDoorM08
import Derived.Test.YtjmccobblpcbhaaDoorM09
import Derived.Test.YtjmccobblpcbhaaDoorM10
import Derived.Test.YtjmccobblpcbhaaDoorM11
import Derived.Test.YtjmccobblpcbhaaDoorM12
import Derived.Test.YtjmccobblpcbhaaDoorM13
set_option linter.unusedSimpArgs false
set_option linter.unusedVariables false
namespace Go.Proofs.YtjmccobblpcbhaaDoor
open Go.RowKit Go.Lib Go.Sort

theorem madeLen (z : Value) (n : Nat) (h : z.cells.size = 5) : (madeCells z.cells (n * 5)).toList.length = n * 5 := by
  rw [Array.length_toList, size_madeCells]

def tellV (J : JT) (l : List Nd) : Value := .tuple #[.string (if okSh l = true then shF J l else ⟨#[]⟩), .int .i64 (if okSh l = true then 0 else 1)]
/-- What a way to join must do. -/
def JoinC (f : FuncId) (J : JT) : Prop := ∀ (op : Nat) (n : Int) (nm : ByteArray) (ks : List Int) (ka : Option Addr) (kn kc : Nat) (ao : Option Addr) (cap : Nat) (ps : List (Nd × ByteArray)) (w : World), WrCells w → op < 19 → Pts w ao cap ps → szs ps ≤ 1000000 → 1 ≤ ps.length → ps.length ≤ 3 → (∀ k, k < ps.length → 0 ≤ (ps.getD k pt0).1.op ∧ (ps.getD k pt0).1.op < 19) →
  Calls Tryd.prog f #[.agg #[.int .i64 op, .int .i64 n, .string nm, .slice ka kn kc], .slice ao ps.length cap] w fun e w' => e = .returned (.string (J ⟨op, n, nm, ks⟩ ps)) ∧ Below w.heap.size w w'
theorem join_bet : JoinC 69 betT := fun op n nm ks ka kn kc ao cap ps w h1 h2 h3 h4 h5 h6 h7 => betw_any op n nm ks ka kn kc ao cap ps w h1 h2 h3 h4 h5 h6 h7
theorem tl_ops (J : JT) (l : List Nd) (fr : List Nat) (hb : begL (l.map fillN) = some fr) : ∀ k, k ≤ l.length → ∀ j, j < k → 0 ≤ ((tlL J (l.take k)).getD j pt0).1.op ∧ ((tlL J (l.take k)).getD j pt0).1.op < 19
  | 0, _, j, hj => by omega
  | k + 1, hk, j, hj => by
    rw [tlL_take (by omega)]
    have hl : (tlL J (l.take k)).length = k := by rw [tlL_len]; simp; omega
    by_cases e : j < k
    · rw [getD_append_left _ _ _ _ (by omega)]
      exact tl_ops J l fr hb k (by omega) j e
    · have : j = k := by omega
      subst this
      have := op_of_form (ndAt_of hb (show j < l.length by omega)).form
      simp [List.getD_eq_getElem?_getD, List.getElem?_append_right, hl]
      simp [List.getD_eq_getElem?_getD] at this
      omega

theorem kids_getD (told : List (Nd × ByteArray)) (ks : List Int) (j : Nat) (hj : j < ks.length) : (kidsP told ks).getD j pt0 = told.getD (ks.getD j 0).toNat pt0 := by
  unfold kidsP
  simp [hj]
theorem mem_getD (ks : List Int) (j : Nat) (hj : j < ks.length) : ks.getD j 0 ∈ ks := by simp [hj]

/-- The facts at one node. -/
structure NdF (J : JT) (l : List Nd) (k : Nat) : Prop where
  op : 1 ≤ (l.getD k nd0).op ∧ (l.getD k nd0).op ≤ 18
  kids : ∀ q ∈ (l.getD k nd0).kids, 0 ≤ q ∧ q < (k : Int)
  three : (l.getD k nd0).kids.length ≤ 3
  sz : szs (kidsP (tlL J (l.take k)) (l.getD k nd0).kids) ≤ 1000000
  ops : ∀ j, j < (l.getD k nd0).kids.length → 0 ≤ ((kidsP (tlL J (l.take k)) (l.getD k nd0).kids).getD j pt0).1.op ∧ ((kidsP (tlL J (l.take k)) (l.getD k nd0).kids).getD j pt0).1.op < 19
  chk : (chk (l.getD k nd0).name).2 = 0
  name : (l.getD k nd0).name.size ≤ 64
theorem ndF_of {J : JT} (hJ : JOk J) {l : List Nd} {fr : List Nat} (hb : begL (l.map fillN) = some fr) (hn : ∀ x ∈ l, num64 x.n) {k : Nat} (hk : k < l.length) : NdF J l k := by
  have hA := ndAt_of hb hk
  have hT := tl_ok hJ hb hn k (by omega)
  have hl : (tlL J (l.take k)).length = k := by rw [tlL_len]; simp; omega
  have h64 : l.length ≤ 64 := by have := (snd_bounds hb).1; simpa using this
  have hs := szs_le hT (l.getD k nd0).kids (by rw [hl]; exact hA.kids)
  have hw := wgt_le fr k
  have hsum := hA.sum
  have hf := form_name hA.form
  rw [fillN_name] at hf
  refine ⟨op_of_form hA.form, hA.kids, hA.three, by omega, fun j hj => ?_, hf.1, hf.2⟩
  rw [kids_getD _ _ _ hj]
  have hq := hA.kids _ (mem_getD _ _ hj)
  exact tl_ops J l fr hb k (by omega) _ (by omega)

set_option maxRecDepth 100000 in
set_option maxHeartbeats 8000000 in
theorem tell_bet {w : World} {ao : Option Addr} {cap : Nat} {l : List Nd} (hT : Tb5 w) (hN : Rd w ao cap l) (hnm : ∀ x ∈ l, x.name.size ≤ maxLen) (hnum : ∀ x ∈ l, num64 x.n) :
    Calls Tryd.prog 68 #[.slice ao l.length cap, .func (.func 69) #[] #[] ] w fun e w' => e = .returned (tellV betT l) ∧ Below w.heap.size w w' := by
  have cS := sound_any hT.sp hN hnm
  cases hok : okSh l with
  | false =>
    rw [hok] at cS
    have HV : Hid (tellV betT l = .tuple #[.string ⟨#[]⟩, .int .i64 1]) := by show tellV betT l = _; unfold tellV; rw [hok]; rfl
    generalize tellV betT l = V at *
    clear hT hN hnm hnum hok
    go_enter Tryd.func68, Tryd.ntmps68
    go_wp2_with (go_at_call 101; refine cS.mono ?_; rintro e w1 ⟨rfl, hb1⟩)
    go_ret2
    exact ⟨by rw [HV.out] <;> rfl, hb1⟩
  | true =>
    rw [hok] at cS
    have HV : Hid (tellV betT l = .tuple #[.string (shF betT l), .int .i64 0]) := by show tellV betT l = _; unfold tellV; rw [hok]; rfl
    generalize tellV betT l = V at *
    obtain ⟨fr, hbeg⟩ : ∃ fr, begL (l.map fillN) = some fr := by
      unfold okSh at hok
      simp only [Bool.and_eq_true] at hok
      have := hok.2
      unfold sndB at this
      exact Option.isSome_iff_exists.1 this
    have h64 : l.length ≤ 64 := by have := (snd_bounds hbeg).1; simpa using this
    have hl0 : 0 < l.length := by have := (begL_some hbeg).1; simp at this; omega
    obtain ⟨i0, hi, hz0, hz1, hz2⟩ := info_parts Tryd.infoPart
    obtain ⟨hc1, hc2⟩ := hN.bound
    unfold maxLen at hc2
    have HF : Hid (∀ k, k < l.length → NdF betT l k) := fun k hk => ndF_of bet_ok hbeg hnum hk
    have HN : Hid (Rd w ao cap l) := hN
    have HT : Hid (Tb5 w) := hT
    have HU : Hid (∀ x ∈ l, num64 x.n) := hnum
    have hmk := fun (W : World) => run_make_full (P := Tryd.prog) W W.heap.size 139 141 i0 (.agg #[.int .i64 0, .int .i64 0, .string ⟨#[]⟩, .slice none 0 0, .string ⟨#[]⟩]) 5 Tryd.underlying139 hi hz0 hz1 .i64 .i64 l.length (by rw [hz2]; omega) (by unfold maxLen; omega) (Nat.le_refl _)
    have HMK : Hid (∀ W : World, ∃ w', (Instr.makeSlice 139 (.int .i64 (l.length : Int)) (.int .i64 (l.length : Int))).run Tryd.prog W = .ok (.slice (some ⟨W.heap.size, 0, none⟩) l.length l.length) w' ∧ w'.ownsRow W.heap.size 141 5 (.slice (some ⟨W.heap.size, 0, none⟩) l.length l.length) l.length (madeCells (Value.agg #[.int .i64 0, .int .i64 0, .string ⟨#[]⟩, .slice none 0 0, .string ⟨#[]⟩]).cells (l.length * 5)).toList ∧ W.grownBy w' none) := hmk
    clear hmk hT hN hnm hnum hok hbeg
    go_enter Tryd.func68, Tryd.ntmps68
    go_wp2_with (go_at_call 101; refine cS.mono ?_; rintro e w1 ⟨rfl, hb1⟩; obtain ⟨w3, hmk, hown3, hg3⟩ := HMK.out w1)
    have hs1 := hb1.size
    have HB1 : Hid (Below w.heap.size w w1) := hb1
    have HM0 : Hid (TlMid w1 betT l 0 w3) := ⟨⟨[], _, by simp [tlL], ⟨by simpa [ptCells] using hown3, by simp⟩, by rw [madeLen _ _ rfl]; omega⟩, (Below.refl _ _).grown hg3 (Nat.le_refl _) (by simp)⟩
    clear cS HMK hmk hown3 hg3 hb1
    go_loopw [20] (fun i wr => ∃ k : Nat, k ≤ l.length ∧ i = .int .i64 k ∧ TlMid w1 betT l k wr) (fun i _ => l.length - (RowKit.intOf i).toNat)
    case atStart => exact ⟨0, by omega, rfl, HM0.out⟩
    case round =>
      obtain ⟨k, hk, rfl, hM⟩ := hrel
      obtain ⟨wa, hwa⟩ : ∃ wa, wa = wr := ⟨_, rfl⟩
      subst hwa
      have hG := hM.lt hl0
      have hbw := hM.below
      have hbww : Below w.heap.size w wa := HB1.out.trans (hbw.mono hs1)
      by_cases hlt : k < l.length
      · obtain ⟨b, o, kv, rfl, hbk, hna⟩ := Rd.cell (HN.out.below hbww hbww.size) hlt
        obtain ⟨hop, hkk, hk3, hsz, hops, hck, hns⟩ := HF.out k hlt
        have hun := HU.out (l.getD k nd0) (by simp [hlt])
        obtain ⟨c0, c1, c2, c3, hki⟩ := hna
        obtain ⟨ka, kc, rfl, hkl, ⟨hkm, _⟩, hkc⟩ := hki
        unfold maxLen at hkm
        obtain ⟨x, hx⟩ : ∃ x, l.getD k nd0 = x := ⟨_, rfl⟩
        have HST : Hid (∀ W ka kn kc, TlMid w1 betT l k W → TlMid w1 betT l (k + 1) (set5T W w1.heap.size (k * 5) (.int .i64 x.op) (.int .i64 x.n) (.string x.name) (.slice ka kn kc) (.string (ndT betT (tlL betT (l.take k)) x)))) := fun W ka kn kc hW => by rw [← hx]; exact hW.store hlt ka kn kc
        rw [hx] at hop hkk hk3 hsz hops hck hns hun c0 c1 c2 c3 hkl hkc
        clear hx
        obtain ⟨op, n, nm, kids⟩ := x
        simp only at hop hkk hk3 hsz hops hck hns hun c0 c1 c2 c3 hkl hkc HST
        obtain ⟨oq, rfl⟩ : ∃ q : Nat, op = (q : Int) := ⟨op.toNat, by omega⟩
        have HPT : Hid (∀ j, j < k → PtAt wa w1.heap.size (j * 5) ((tlL betT (l.take k)).getD j pt0)) := fun j hj => (hM.pt hk hj).2
        generalize htold : tlL betT (l.take k) = told at *
        have HKC : Hid (kids = [] ∨ ∃ b o, ka = some ⟨b, o, none⟩ ∧ b < wa.heap.size ∧ ∀ j, j < kids.length → wa.cell? ⟨b, o + j, none⟩ = some (.int .i64 (kids.getD j 0))) := hkc
        have HKK : Hid (∀ q ∈ kids, 0 ≤ q ∧ q < (k : Int)) := hkk
        have HOPS : Hid (∀ j, j < kids.length → 0 ≤ ((kidsP told kids).getD j pt0).1.op ∧ ((kidsP told kids).getD j pt0).1.op < 19) := hops
        have hwo : (wa.alloc (.cells #[.int .i64 (oq : Int), .int .i64 n, .string nm, .slice ka kids.length kc] 60)).heap.size = wa.heap.size + 1 := by simp
        have HWO : Hid (Below wa.heap.size wa (wa.alloc (.cells #[.int .i64 (oq : Int), .int .i64 n, .string nm, .slice ka kids.length kc] 60))) := (Below.refl _ _).alloc (Nat.le_refl _) _
        have HM : Hid (TlMid w1 betT l k wa) := hM
        clear hM hkc hkk hops htold
        go_wp2_with fail
        go_loopw [9, 28] (fun v i wq => ∃ j : Nat, j ≤ kids.length ∧ i = .int .i64 j ∧ KdMid (wa.alloc (.cells #[.int .i64 (oq : Int), .int .i64 n, .string nm, .slice ka kids.length kc] 60)) told kids j v wq) (fun _ i _ => kids.length - (RowKit.intOf i).toNat)
        case atStart => exact ⟨0, by omega, rfl, KdMid.start _ _ _⟩
        case round =>
          obtain ⟨j, hj, rfl, hK⟩ := hrel
          obtain ⟨wo, hWO⟩ : ∃ wo, wo = (wa.alloc (.cells #[.int .i64 (oq : Int), .int .i64 n, .string nm, .slice ka kids.length kc] 60)) := ⟨_, rfl⟩
          have HWE : Hid (wo = (wa.alloc (.cells #[.int .i64 (oq : Int), .int .i64 n, .string nm, .slice ka kids.length kc] 60))) := hWO
          rw [← hWO] at hK hwo HWO
          clear hWO
          have hbq := hK.below
          have hbq' : Below wa.heap.size wa wr := HWO.out.trans (hbq.mono (by omega))
          have hsq : wa.heap.size + 1 ≤ wr.heap.size := by have := hbq.size; omega
          by_cases hjl : j < kids.length
          · obtain ⟨kb, ko, rfl, hkb, hkcc⟩ : ∃ b o, ka = some ⟨b, o, none⟩ ∧ b < wa.heap.size ∧ ∀ j, j < kids.length → wa.cell? ⟨b, o + j, none⟩ = some (.int .i64 (kids.getD j 0)) := by
              rcases HKC.out with h | h
              · subst h; simp at hjl
              · exact h
            have hyc := (hbq'.cell (p := ⟨kb, ko + j, none⟩) hkb).trans (hkcc j hjl)
            have hy := HKK.out _ (mem_getD kids j hjl)
            have HY : Hid (told.getD (kids.getD j 0).toNat pt0 = told.getD (kids.getD j 0).toNat pt0) := rfl
            obtain ⟨m, hm⟩ : ∃ m : Nat, kids.getD j 0 = (m : Int) := ⟨(kids.getD j 0).toNat, by omega⟩
            have hpa := (HPT.out m (by omega)).below hG hbq'
            obtain ⟨pp, hpp⟩ : ∃ p, told.getD m pt0 = p := ⟨_, rfl⟩
            have HXX : Hid (told.getD (kids.getD j 0).toNat pt0 = pp) := by show _ = _; rw [hm, Int.toNat_natCast]; exact hpp
            rw [hpp] at hpa
            rw [hm] at hyc hy
            clear hpp HY hkcc hm
            obtain ⟨⟨yop, yn, ynm, yks⟩, ys⟩ := pp
            obtain ⟨e0, e1, e2, ⟨kka, kkn, kkc, e3⟩, e4⟩ := hpa
            simp only at e0 e1 e2 e4
            obtain ⟨q, hq, hO, hql⟩ := hK.own
            obtain ⟨va, vc, hv⟩ := row_form' hO.1
            subst hv
            have HQ : Hid (q.map (·.1) = kidsP told (kids.take j)) := hq
            have HBQ : Hid (Below wo.heap.size wo wr) := hbq
            have hml : (m : Int) < (l.length : Int) := by omega
            clear hK hq hbq hbq' HPT HKK HOPS HKC HST HM
            go_wp2_with (at_builtin; refine wpList_append_lies _ rfl (.tmp 32) (.tmp 37) 139 rfl wo.heap.size 141 i0 (.agg #[.int .i64 0, .int .i64 0, .string ⟨#[]⟩, .slice none 0 0, .string ⟨#[]⟩]) 5 72 Tryd.underlying139 hi hz0 hz1 hz2 rfl (by decide) _ _ _ rfl (hO.1.alloc _) ⟨wr.heap.size, 0, none⟩ 1 1 [.int .i64 yop, .int .i64 yn, .string ynm, .slice kka kkn kkc, .string ys] rfl rfl (cell_news5 _ _ _ _ _ _ _ _ rfl) (by simp [Value.oneCell']) (by omega) (by unfold maxLen; omega) (by omega) (by simp; omega) _ rfl ?_; intro g6 cap6 w6 hown6 hg6 hat6 hl6)
            refine ⟨⟨j + 1, by omega, by go_num, ?_⟩, by simp [RowKit.intOf]; omega⟩
            have := KdMid.app HBQ.out hjl HQ.out hO hql HXX.out hown6 hg6
            rw [← HWE.out, ← hql]
            rw [← hql] at this
            exact this
          · have hje : j = kids.length := by omega
            subst hje
            obtain ⟨pa, pc, hv, hPts⟩ := hK.read
            subst hv
            have d0 : wr.cell? ⟨wa.heap.size, 0, none⟩ = some (.int .i64 (oq : Int)) := by rw [hbq.cell (p := ⟨wa.heap.size, 0, none⟩) (by show wa.heap.size < _; omega), HWE.out]; simp
            have d1 : wr.cell? ⟨wa.heap.size, 1, none⟩ = some (.int .i64 n) := by rw [hbq.cell (p := ⟨wa.heap.size, 1, none⟩) (by show wa.heap.size < _; omega), HWE.out]; simp
            have d2 : wr.cell? ⟨wa.heap.size, 2, none⟩ = some (.string nm) := by rw [hbq.cell (p := ⟨wa.heap.size, 2, none⟩) (by show wa.heap.size < _; omega), HWE.out]; simp
            have d3 : wr.cell? ⟨wa.heap.size, 3, none⟩ = some (.slice ka kids.length kc) := by rw [hbq.cell (p := ⟨wa.heap.size, 3, none⟩) (by show wa.heap.size < _; omega), HWE.out]; simp
            have g0 := cell_regrown d0
            have g1 := cell_regrown d1
            have g2 := cell_regrown d2
            have g3 := cell_regrown d3
            have HM2 : Hid (TlMid w1 betT l k wr) := HM.out.up hbq'
            have HTr : Hid (Tb5 wr) := HT.out.below (hbww.trans (hbq'.mono hbww.size))
            have HPts : Hid (Pts wr pa pc (kidsP told kids)) := hPts
            have hkcap := hPts.2.1
            unfold maxLen at hkcap
            have hkcap2 := hPts.1
            have hpl : (kidsP told kids).length = kids.length := by simp [kidsP]
            rw [hpl] at hkcap2
            have hk64 : kids.length ≤ 3 := hk3
            have HPL : Hid ((kidsP told kids).length = kids.length) := hpl
            have HK3 : Hid (kids.length ≤ 3) := hk3
            have HSZ : Hid (szs (kidsP told kids) ≤ 1000000) := hsz
            have HCK : Hid ((chk nm).2 = 0) := hck
            have HNS : Hid (nm.size ≤ 64) := hns
            have HUN : Hid (num64 n) := hun
            clear hK hPts hbq hbq' HWE HWO hpl hsz hck hun hns HPT HKK
            by_cases hk0 : kids.length = 0
            · have HND : Hid (ndT betT told ⟨(oq : Int), n, nm, kids⟩ = leafT ⟨(oq : Int), n, nm, kids⟩) := by show _ = _; unfold ndT; rw [if_pos hk0]
              have cL : Hid (∀ d os, Calls Tryd.prog 102 #[.agg #[.int .i64 (oq : Int), .int .i64 n, .string nm, .slice ka kids.length kc] ] (grow (redrawn wr d) os) fun e w'' => e = .returned (.string (leafT ⟨(oq : Int), n, nm, kids⟩)) ∧ ∃ p : Regrown, w'' = grow (redrawn wr p.d) p.os) := fun d os =>
                Calls.regrown_of (leaf_any ⟨(oq : Int), n, nm, kids⟩ ka kids.length kc _ (HTr.out.pw.below (below_regrown wr d os)) HUN.out HCK.out HNS.out)
              have hkz : ((kids.length : Int) == 0) = true := by rw [beq_iff_eq]; omega
              have HFIN : Hid (∀ W, TlMid w1 betT l k W → TlMid w1 betT l (k + 1) (set5T W w1.heap.size (k * 5) (.int .i64 (oq : Int)) (.int .i64 n) (.string nm) (.slice ka kids.length kc) (.string (leafT ⟨(oq : Int), n, nm, kids⟩)))) := fun W hW => by rw [← HND.out]; exact HST.out W ka kids.length kc hW
              generalize leafT ⟨(oq : Int), n, nm, kids⟩ = R at *
              clear hk0 HND HST HK3 hk64 hk3
              go_wp2_with fail
              refine wp_region_quiet_then 7 (by kernel_rfl) (by kernel_rfl) ?_
              simp only [List.take_succ_cons, List.take_zero]
              iterate 7 (go_big_quiet_step ((go_at_call 102; exact cL.out _ _)))
              refine wpQuiet_nil ?_
              intro w' hw'
              obtain ⟨⟨dq, osq⟩, hw''⟩ := hw'
              subst hw''
              simp only [List.drop_succ_cons, List.drop_zero]
              obtain ⟨w5, hw5⟩ : ∃ w5, grow (redrawn wr dq) osq = w5 := ⟨_, rfl⟩
              rw [hw5]
              have hb5 : Below wr.heap.size wr w5 := by rw [← hw5]; exact below_regrown wr dq osq
              have hM5 := HM2.out.up hb5
              obtain ⟨hfree, hfz⟩ := hM5.free hlt
              obtain ⟨u0, q0⟩ := hfree 0 (by omega)
              obtain ⟨u1, q1⟩ := hfree 1 (by omega)
              obtain ⟨u2, q2⟩ := hfree 2 (by omega)
              obtain ⟨u3, q3⟩ := hfree 3 (by omega)
              obtain ⟨u4, q4⟩ := hfree 4 (by omega)
              rw [Nat.add_zero] at q0
              have f0 := hfz (k * 5)
              have f1 := hfz (k * 5 + 1)
              have f2 := hfz (k * 5 + 2)
              have f3 := hfz (k * 5 + 3)
              have f4 := hfz (k * 5 + 4)
              have HFI : Hid (TlMid w1 betT l (k + 1) (set5T w5 w1.heap.size (k * 5) (.int .i64 (oq : Int)) (.int .i64 n) (.string nm) (.slice ka kids.length kc) (.string R))) := HFIN.out w5 hM5
              clear hfree hfz hM5 hw5 g0 g1 g2 g3 d0 d1 d2 d3 cL HFIN hb5
              go_wp2_with fail
              exact ⟨⟨k + 1, by omega, by go_num, HFI.out⟩, by simp [RowKit.intOf]; omega⟩
            · have HND : Hid (ndT betT told ⟨(oq : Int), n, nm, kids⟩ = betT ⟨(oq : Int), n, nm, kids⟩ (kidsP told kids)) := by show _ = _; unfold ndT; rw [if_neg hk0]
              have cL : Hid (∀ d os, Calls Tryd.prog 69 #[.agg #[.int .i64 (oq : Int), .int .i64 n, .string nm, .slice ka kids.length kc], .slice pa kids.length pc] (grow (redrawn wr d) os) fun e w'' => e = .returned (.string (betT ⟨(oq : Int), n, nm, kids⟩ (kidsP told kids))) ∧ ∃ p : Regrown, w'' = grow (redrawn wr p.d) p.os) := fun d os => by
                have := join_bet oq n nm kids ka kids.length kc pa pc (kidsP told kids) (grow (redrawn wr d) os) (HTr.out.wr.below (below_regrown wr d os)) (by omega) (HPts.out.below (below_regrown wr d os)) HSZ.out (by rw [HPL.out]; omega) (by rw [HPL.out]; exact HK3.out) (fun k hk => HOPS.out k (by rw [HPL.out] at hk; exact hk))
                rw [HPL.out] at this
                exact Calls.regrown_of this
              have hkz : ((kids.length : Int) == 0) = false := by rw [beq_eq_false_iff_ne]; omega
              have HFIN : Hid (∀ W, TlMid w1 betT l k W → TlMid w1 betT l (k + 1) (set5T W w1.heap.size (k * 5) (.int .i64 (oq : Int)) (.int .i64 n) (.string nm) (.slice ka kids.length kc) (.string (betT ⟨(oq : Int), n, nm, kids⟩ (kidsP told kids))))) := fun W hW => by rw [← HND.out]; exact HST.out W ka kids.length kc hW
              generalize betT ⟨(oq : Int), n, nm, kids⟩ (kidsP told kids) = R at *
              clear hk0 HND HST HK3 hk64 hk3
              go_wp2_with fail
              refine wp_region_quiet_then 9 (by kernel_rfl) (by kernel_rfl) ?_
              simp only [List.take_succ_cons, List.take_zero]
              iterate 9 (go_big_quiet_step ((go_at_call 69; exact cL.out _ _)))
              refine wpQuiet_nil ?_
              intro w' hw'
              obtain ⟨⟨dq, osq⟩, hw''⟩ := hw'
              subst hw''
              simp only [List.drop_succ_cons, List.drop_zero]
              obtain ⟨w5, hw5⟩ : ∃ w5, grow (redrawn wr dq) osq = w5 := ⟨_, rfl⟩
              rw [hw5]
              have hb5 : Below wr.heap.size wr w5 := by rw [← hw5]; exact below_regrown wr dq osq
              have hM5 := HM2.out.up hb5
              obtain ⟨hfree, hfz⟩ := hM5.free hlt
              obtain ⟨u0, q0⟩ := hfree 0 (by omega)
              obtain ⟨u1, q1⟩ := hfree 1 (by omega)
              obtain ⟨u2, q2⟩ := hfree 2 (by omega)
              obtain ⟨u3, q3⟩ := hfree 3 (by omega)
              obtain ⟨u4, q4⟩ := hfree 4 (by omega)
              rw [Nat.add_zero] at q0
              have f0 := hfz (k * 5)
              have f1 := hfz (k * 5 + 1)
              have f2 := hfz (k * 5 + 2)
              have f3 := hfz (k * 5 + 3)
              have f4 := hfz (k * 5 + 4)
              have HFI : Hid (TlMid w1 betT l (k + 1) (set5T w5 w1.heap.size (k * 5) (.int .i64 (oq : Int)) (.int .i64 n) (.string nm) (.slice ka kids.length kc) (.string R))) := HFIN.out w5 hM5
              clear hfree hfz hM5 hw5 g0 g1 g2 g3 d0 d1 d2 d3 cL HFIN hb5
              go_wp2_with fail
              exact ⟨⟨k + 1, by omega, by go_num, HFI.out⟩, by simp [RowKit.intOf]; omega⟩
      · have hke : k = l.length := by omega
        subst hke
        have e4 := (hM.pt hk (j := l.length - 1) (by omega)).2.c4
        rw [List.take_length] at e4
        have HE : Hid (((tlL betT l).getD (l.length - 1) pt0).2 = shF betT l) := rfl
        rw [HE.out] at e4
        generalize shF betT l = R at *
        clear hM HF HN HT HU
        go_wp2_with fail
        go_ret2
        exact ⟨by rw [HV.out] <;> rfl, hbww⟩

end Go.Proofs.YtjmccobblpcbhaaDoor

set_option linter.unusedSimpArgs false
set_option linter.unusedVariables false
namespace Go.Proofs.YtjmccobblpcbhaaDoor
open Go.RowKit Go.Lib

/-- Within the reach of Show and Lisp. -/
structure Fit5 (l : List Nd) : Prop where
  name : ∀ x ∈ l, x.name.size ≤ maxLen
  num : ∀ x ∈ l, num64 x.n

def shS (J : JT) (l : List Nd) : ByteArray := if okSh l = true then shF J l else ⟨#[]⟩
def shE (l : List Nd) : Int := if okSh l = true then 0 else 1

set_option maxHeartbeats 1000000 in
theorem show_any {w : World} {ao : Option Addr} {cap : Nat} {l : List Nd} (hT : Tb5 w) (hN : Rd w ao cap l) (hF : Fit5 l) :
    Calls Tryd.prog 31 #[.slice ao l.length cap] w fun e w' => e = .returned (.tuple #[.string (shS betT l), .int .i64 (shE l)]) ∧ Below w.heap.size w w' := by
  have c := tell_bet hT hN hF.name hF.num
  have HV : Hid (tellV betT l = .tuple #[.string (shS betT l), .int .i64 (shE l)]) := rfl
  rw [HV.out] at c
  generalize shS betT l = S at *
  generalize shE l = E at *
  clear hT hN hF HV
  go_enter Tryd.func31, Tryd.ntmps31
  go_wp2_with (go_at_call 68; refine c.mono ?_; rintro e w1 ⟨rfl, hb1⟩)
  go_ret2
  exact ⟨rfl, hb1⟩
def seven : List Nd := [⟨1, 7, ⟨#[]⟩, []⟩]
theorem seven_ok : okSh seven = true := by
  have h := empty_yes ⟨#[]⟩ rfl
  simp [okSh, seven, hlsL, addNm, sndB, begL, begR, stp, formB, fitB, aritI, chainL, fillN, h]
theorem seven_shF : shF betT seven = ⟨#[55]⟩ := by
  have h : itoa 7 = [55] := by simp [itoa, decDigits]
  simp [shF, seven, tlL, tlS, ndT, leafT, txt, h]
set_option maxHeartbeats 1000000 in
theorem awake_any {w : World} (hT : Tb5 w) :
    Calls Tryd.prog 30 #[] w fun e w' => e = .returned (.bool true) ∧ Below w.heap.size w w' := by
  have hb : Below w.heap.size w (w.alloc (.cells #[.int .i64 1, .int .i64 7, .string ⟨#[]⟩, .slice none 0 0] 60)) := (Below.refl _ _).alloc (Nat.le_refl _) _
  have hR : Rd (w.alloc (.cells #[.int .i64 1, .int .i64 7, .string ⟨#[]⟩, .slice none 0 0] 60)) (some ⟨w.heap.size, 0, none⟩) 1 seven := by
    refine ⟨_, 1, rfl, by simp [seven], by simp [maxLen], .inr ⟨w.heap.size, 0, rfl, by simp, fun i hi => ?_⟩⟩
    have : i = 0 := by simp [seven] at hi; omega
    subst this
    exact ⟨.slice none 0 0, by simp [seven], by simp [seven], by simp [seven], by simp, ⟨none, 0, by simp [seven], by simp [seven], ⟨by simp [maxLen], fun _ => rfl⟩, .inl (by simp [seven])⟩⟩
  have c := show_any (hT.below hb) hR ⟨fun x hx => by simp [seven] at hx; subst hx; show 0 ≤ maxLen; exact Nat.zero_le _, by simp [seven, num64]⟩
  have e1 : shS betT seven = ⟨#[55]⟩ := by unfold shS; rw [seven_ok, if_pos rfl, seven_shF]
  have e2 : shE seven = 0 := by unfold shE; rw [seven_ok, if_pos rfl]
  have e3 : seven.length = 1 := rfl
  rw [e1, e2, e3] at c
  have HB : Hid (Below w.heap.size w (w.alloc (.cells #[.int .i64 1, .int .i64 7, .string ⟨#[]⟩, .slice none 0 0] 60))) := hb
  clear hT hR e1 e2 e3 hb
  go_enter Tryd.func30, Tryd.ntmps30
  go_wp2_with (go_at_call 31; refine c.mono ?_; rintro e w1 ⟨rfl, hb1⟩)
  go_ret
  exact ⟨rfl, HB.out.trans (hb1.mono HB.out.size)⟩
end Go.Proofs.YtjmccobblpcbhaaDoor

set_option linter.unusedSimpArgs false
set_option linter.unusedVariables false
namespace Go.Proofs.YtjmccobblpcbhaaDoor
open Go.RowKit Go.Lib

theorem c_writing : Tryd.prog.cellsOf 143 = 3 := by kernel_rfl
theorem c_string : Tryd.prog.cellsOf 9 = 1 := by kernel_rfl
theorem gWrit : Tryd.prog.globalNamed "sorrel/show.writings" = some 0 := by kernel_rfl
theorem gWritType : (Tryd.prog.globals[ 0 ]?).map (·.type) = some 144 := by kernel_rfl
theorem gPowType : (Tryd.prog.globals[ 4 ]?).map (·.type) = some 215 := by kernel_rfl
theorem c_pow : Tryd.prog.cellsOf 215 = 20 := by kernel_rfl
theorem c_u64 : Tryd.prog.cellsOf 114 = 1 := by kernel_rfl

def writData : DataW Unit := .agg (wrTab.map fun p => .agg [.lit (.string p.1), .lit (.string p.2.1), .lit (.int .i64 p.2.2)])
theorem writData_eq : Rows.laid_sorrel_show_writings = writData := rfl
theorem powData_eq : Rows.laid_internal_strconv_uint64pow10 = (tabData .u64 pow10Tab : DataW Unit) := by kernel_rfl
theorem wrTab_length : wrTab.length = 19 := rfl

theorem str_of {s : ByteArray} {l : List UInt8} (h : s.data.toList = l) : s = txt l := by subst h; exact (txt_data s).symm

theorem writ_of_reads {w : World} (h : VarReads Tryd.prog w "sorrel/show.writings" writData) : WrCells w := by
  intro k hk
  obtain ⟨g, t, cs, fuel, p, hg, hty, hvar, hd⟩ := h
  obtain rfl := Option.some.inj (gWrit.symm.trans hg)
  obtain rfl := Option.some.inj (gWritType.symm.trans hty)
  obtain ⟨fuel', d, q, hdi, he⟩ := array_elem Tryd.underlying144 hd k hk
  have hkl : k < wrTab.length := by rw [wrTab_length]; exact hk
  have e : wrTab.getD k ([], [], 0) = wrTab[k] := by simp [hkl]
  rw [List.getElem?_map, List.getElem?_eq_getElem hkl, Option.map_some, Option.some.injEq] at hdi
  rw [← e] at hdi
  generalize wrTab.getD k ([], [], 0) = P at *
  obtain ⟨a, b, c⟩ := P
  simp only at hdi ⊢
  subst hdi
  rw [c_writing] at he
  obtain ⟨xs, n, _, hx, hl, hxl, hall⟩ := DataW.trod_struct Tryd.underlying143 he
  have hxs : xs.map (·.1) = [.lit (.string a), .lit (.string b), .lit (.int .i64 c)] := by
    have := congrArg Prod.fst hx
    simpa using this.symm
  have g0 : DataW.trod (fun _ => ()) Tryd.prog w 0 (fun _ => true) false n 9 ((((cs.toList.drop (k * 3)).take 3).drop 0).take (Tryd.prog.cellsOf 9)) = xs[0]? := hall 0 _ rfl
  have g1 : DataW.trod (fun _ => ()) Tryd.prog w 0 (fun _ => true) false n 9 ((((cs.toList.drop (k * 3)).take 3).drop 1).take (Tryd.prog.cellsOf 9)) = xs[1]? := hall 1 _ rfl
  have g2 : DataW.trod (fun _ => ()) Tryd.prog w 0 (fun _ => true) false n 3 ((((cs.toList.drop (k * 3)).take 3).drop 2).take (Tryd.prog.cellsOf 3)) = xs[2]? := hall 2 _ rfl
  rw [c_string] at g0 g1
  rw [c_kind] at g2
  match xs, hxs with
  | [x0, x1, x2], hxs =>
    simp only [List.map_cons, List.map_nil, List.cons.injEq, and_true] at hxs
    obtain ⟨x0e, x1e, x2e⟩ := hxs
    simp only [List.getElem?_cons_zero, List.getElem?_cons_succ] at g0 g1 g2
    obtain ⟨z0, k0, d0, _⟩ := DataW.trod_string Tryd.underlying9 g0
    obtain ⟨z1, k1, d1, _⟩ := DataW.trod_string Tryd.underlying9 g1
    obtain ⟨z2, k2, d2, _⟩ := DataW.trod_int Tryd.underlying3 g2
    rw [d0] at x0e
    rw [d1] at x1e
    rw [d2] at x2e
    simp only [DataW.lit.injEq, Lit.int.injEq, Lit.string.injEq, true_and] at x0e x1e x2e
    rw [str_of x0e] at k0
    rw [str_of x1e] at k1
    subst x2e
    have f0 := congrArg (·[0]?) k0
    have f1 := congrArg (·[0]?) k1
    have f2 := congrArg (·[0]?) k2
    simp only [List.getElem?_take, List.getElem?_drop] at f0 f1 f2
    refine ⟨?_, ?_, ?_⟩
    · rw [World.var?_cell hg hvar (k * 3), ← Array.getElem?_toList]; simpa using f0
    · rw [World.var?_cell hg hvar (k * 3 + 1), ← Array.getElem?_toList]; simpa using f1
    · rw [World.var?_cell hg hvar (k * 3 + 2), ← Array.getElem?_toList]; simpa using f2

theorem pows_of_reads {w : World} (h : VarReads Tryd.prog w "internal/strconv.uint64pow10" (tabData .u64 pow10Tab)) : Pows w := by
  obtain ⟨g, t, cs, fuel, p, hg, hty, hvar, hd⟩ := h
  obtain rfl := Option.some.inj (gPow.symm.trans hg)
  obtain rfl := Option.some.inj (gPowType.symm.trans hty)
  unfold Pows TabIs
  rw [hvar, ← cells_of_tab Tryd.underlying215 Tryd.underlying114 c_u64 c_pow hd]

def deVals (d : DataW Unit) : Array Value := match d with
  | .agg l => (l.map fun x => match x with | .lit (.int k z) => Value.int k z | _ => Value.int .u8 0).toArray
  | _ => #[]
def writVals : Array Value := (wrTab.flatMap fun p => [Value.string (txt p.1), Value.string (txt p.2.1), Value.int .i64 p.2.2]).toArray
def powVals : Array Value := (pow10Tab.map fun z => Value.int .u64 z).toArray
end Go.Proofs.YtjmccobblpcbhaaDoor
