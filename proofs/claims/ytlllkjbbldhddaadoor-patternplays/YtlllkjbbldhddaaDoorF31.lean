/-
  PhU, PhT.
-/
import Derived.Test.YtlllkjbbldhddaaDoorChecked
import GoSem.PinnedTables
import GoSem.Claim
import GoSem.ClaimJoined
import GoSem.ClaimMapViews
import Derived.JoinedTies
import Derived.KernelRfl
import Derived.Shelf.Unicode.DecodeSlow
import Derived.Laws.RangeAny
import Derived.Shelf.Unicode.DecodeAny
import Derived.Test.YtlllkjbbldhddaaDoorProg
import Derived.WalkKit
import Derived.Deep.DeepFit
import Derived.Lib.OthersKept
import Derived.Lib.RuneCountTail
import Derived.Lib.LaidU8
import Derived.MakeChecks
import Derived.ProofKit
import Derived.OpenShut
import Derived.Deep.DeepHandedRow
import Derived.Deep.AppendLies
import Derived.Deep.OwnRows
import Derived.Laws.AppendOwnNone
import Derived.Deep.QuietTactic
import Derived.BigQuiet
import Derived.Deep.RegionWith
import Derived.Laws.DeepStrings4
import Derived.Deep.Slices
import Derived.SizedLaws
import Derived.Lib.MapLaws
import Derived.Sort.Walk0
import Derived.Lib.ItoaNum
import Derived.Maps.OwnSet
import Derived.StringKeys
import Derived.Below
import Derived.Laws.ResultCell
import Derived.Deep.RegionHeld3
import Derived.Deep.RegionLaw
import Derived.Lib.QuietBelow
import Derived.StillTail
import Derived.Deep.DeepCutAuto
import Derived.Laws.IdiomStrings
import Derived.WalkSmall
import Derived.Laws.OwnMore
import Derived.Test.YtlllkjbbldhddaaDoorRows
import Derived.Test.YtlllkjbbldhddaaDoorF01
import Derived.Test.YtlllkjbbldhddaaDoorF02
import Derived.Test.YtlllkjbbldhddaaDoorF03
import Derived.Test.YtlllkjbbldhddaaDoorF04
import Derived.Test.YtlllkjbbldhddaaDoorF05
import Derived.Test.YtlllkjbbldhddaaDoorF06
import Derived.Test.YtlllkjbbldhddaaDoorF07
import Derived.Test.YtlllkjbbldhddaaDoorF08
import Derived.Test.YtlllkjbbldhddaaDoorF09
import Derived.Test.YtlllkjbbldhddaaDoorF10
import Derived.Test.YtlllkjbbldhddaaDoorF11
import Derived.Test.YtlllkjbbldhddaaDoorF12
import Derived.Test.YtlllkjbbldhddaaDoorF13
import Derived.Test.YtlllkjbbldhddaaDoorF14
import Derived.Test.YtlllkjbbldhddaaDoorF15
import Derived.Test.YtlllkjbbldhddaaDoorF16
import Derived.Test.YtlllkjbbldhddaaDoorF17
import Derived.Test.YtlllkjbbldhddaaDoorF18
import Derived.Test.YtlllkjbbldhddaaDoorF19
import Derived.Test.YtlllkjbbldhddaaDoorF20
import Derived.Test.YtlllkjbbldhddaaDoorF21
import Derived.Test.YtlllkjbbldhddaaDoorF22
import Derived.Test.YtlllkjbbldhddaaDoorF23
import Derived.Test.YtlllkjbbldhddaaDoorF24
import Derived.Test.YtlllkjbbldhddaaDoorF25
import Derived.Test.YtlllkjbbldhddaaDoorF26
import Derived.Test.YtlllkjbbldhddaaDoorF27
import Derived.Test.YtlllkjbbldhddaaDoorF28
import Derived.Test.YtlllkjbbldhddaaDoorF29
import Derived.Test.YtlllkjbbldhddaaDoorF30
set_option linter.unusedSimpArgs false
set_option linter.unusedVariables false
namespace Go.Proofs.YtlllkjbbldhddaaDoor
open Go.RowKit Go.Lib Go.Sort

set_option maxRecDepth 20000 in
set_option maxHeartbeats 4000000 in
theorem fit_at {w2 : World} {ao bo na : Option Addr} {cap cb nc n m h : Nat} {l e : List Nd} {fr fe : List Nat} (hI : AtIn w2 ao bo na cap cb nc l e fr fe) (hn : l.length = n) (hm : e.length = m) (hh : (hlsL l).length = h) {F P : Nat} :
    ∀ (i : Nat), i < n → ∀ (j : Nat), j < m → ∀ (W : World) (ps : List (List Nd)) (bad : Bool), Below w2.heap.size w2 W → DtM W w2.heap.size F P na h nc ps bad →
    Calls Tryd.prog 73 #[.pointer (some ⟨F, 0, none⟩), .slice ao n cap, .slice bo m cb, .int .i64 i, .int .i64 j] W fun en w' => AtQ w2 W F P na h nc l e fr fe i j ps bad en w' := by
  intro i
  induction i using Nat.strongRecOn with
  | ind i IH =>
    intro hi j hj W ps bad hB hD
    by_cases ho : (l.getD i nd0).op = 18
    · exact at_hole hI hn hm hh hi hj ho hB hD
    have hil : i < l.length := by omega
    have hjl : j < e.length := by omega
    have hbl := begOk_of (begL_some hI.hl).2.2.1
    have hbe := begOk_of (begL_some hI.he).2.2.1
    have hkk := pat_kids hbl hil
    have hke := kids_low hbe j hjl
    have hf1 := (hbl.at_ i (by simpa using hil)).1
    rw [fillN_at hil] at hf1
    have efl : fillN (l.getD i nd0) = l.getD i nd0 := by unfold fillN; rw [if_neg ho]
    rw [efl] at hf1
    have hf2 := (hbe.at_ j hjl).1
    have hsx := (form_name hf1).2
    have hsy := (form_name hf2).2
    have ha1 := form_ar hf1
    have ha2 := form_ar hf2
    have HIH : Sld (∀ (a b : Nat), a < i → b < m → ∀ (W' : World) (ps1 : List (List Nd)) (b1 : Bool), Below w2.heap.size w2 W' → DtM W' w2.heap.size F P na h nc ps1 b1 → Calls Tryd.prog 73 #[.pointer (some ⟨F, 0, none⟩), .slice ao n cap, .slice bo m cb, .int .i64 a, .int .i64 b] W' fun en w' => AtQ w2 W' F P na h nc l e fr fe a b ps1 b1 en w') := ⟨fun a b ha hb W' ps1 b1 h1 h2 => IH a ha (by omega) b hb W' ps1 b1 h1 h2⟩
    have HDIF : Sld (hd (l.getD i nd0) ≠ hd (e.getD j nd0) → AtP l e fr fe i j ps ps bad true) := ⟨fun hne => AtP.differ bad hbl hbe hil hjl ho hne⟩
    have HEND : Sld (hd (l.getD i nd0) = hd (e.getD j nd0) → (l.getD i nd0).kids.length = (e.getD j nd0).kids.length → ∀ ps' bad', AtK l e fr fe (l.getD i nd0).kids (e.getD j nd0).kids (l.getD i nd0).kids.length ps ps' bad bad' → AtP l e fr fe i j ps ps' bad bad') := ⟨fun heq hkl ps' bad' hk => AtK.end_ hbl hI.he hil hjl ho heq hk hkl⟩
    have HKL : Sld (hd (l.getD i nd0) = hd (e.getD j nd0) → (l.getD i nd0).kids.length = (e.getD j nd0).kids.length) := ⟨fun heq => by
      have : (l.getD i nd0).op = (e.getD j nd0).op := congrArg (fun t : Hd => t.1) heq
      rw [this] at ha1
      omega⟩
    have hi0 : (0 : Int) ≤ (i : Int) := by omega
    have hi1 : (i : Int) < (n : Int) := by omega
    have hj0 : (0 : Int) ≤ (j : Int) := by omega
    have hj1 : (j : Int) < (m : Int) := by omega
    have hbd := hI.rl.bound
    have hbd2 := hI.re.bound
    rw [hn] at hbd
    rw [hm] at hbd2
    unfold maxLen at hbd hbd2
    obtain ⟨bb, oo, kv, rfl, hbk, hna⟩ := Rd.cell hI.rl hil
    obtain ⟨xb, xo, xkv, rfl, hxbk, hxna⟩ := Rd.cell hI.re hjl
    obtain ⟨q0, q1, q2, q3, q4⟩ := hna
    obtain ⟨y0, y1, y2, y3, y4⟩ := hxna
    obtain ⟨ka, kc, rfl, hk1, hk2, hkc⟩ := q4
    obtain ⟨xa, xc, rfl, hx1, hx2, hxc⟩ := y4
    have hkm := hk2.1
    have hxm := hx2.1
    unfold maxLen at hkm hxm
    have HTOP : Sld (∀ w', Below w2.heap.size w2 w' → (w'.cell? ⟨bb, oo + i * 4, none⟩ = some (.int .i64 (l.getD i nd0).op) ∧ w'.cell? ⟨bb, oo + i * 4 + 1, none⟩ = some (.int .i64 (l.getD i nd0).n) ∧ w'.cell? ⟨bb, oo + i * 4 + 2, none⟩ = some (.string (l.getD i nd0).name) ∧ w'.cell? ⟨bb, oo + i * 4 + 3, none⟩ = some (.slice ka (l.getD i nd0).kids.length kc)) ∧ w'.cell? ⟨xb, xo + j * 4, none⟩ = some (.int .i64 (e.getD j nd0).op) ∧ w'.cell? ⟨xb, xo + j * 4 + 1, none⟩ = some (.int .i64 (e.getD j nd0).n) ∧ w'.cell? ⟨xb, xo + j * 4 + 2, none⟩ = some (.string (e.getD j nd0).name) ∧ w'.cell? ⟨xb, xo + j * 4 + 3, none⟩ = some (.slice xa (e.getD j nd0).kids.length xc)) := ⟨fun w' hb =>
      ⟨⟨(hb.cell (p := ⟨bb, _, none⟩) hbk).trans q0, (hb.cell (p := ⟨bb, _, none⟩) hbk).trans q1, (hb.cell (p := ⟨bb, _, none⟩) hbk).trans q2, (hb.cell (p := ⟨bb, _, none⟩) hbk).trans q3⟩, (hb.cell (p := ⟨xb, _, none⟩) hxbk).trans y0, (hb.cell (p := ⟨xb, _, none⟩) hxbk).trans y1, (hb.cell (p := ⟨xb, _, none⟩) hxbk).trans y2, (hb.cell (p := ⟨xb, _, none⟩) hxbk).trans y3⟩⟩
    have HKC : Sld ((l.getD i nd0).kids = [] ∨ ∃ b o, ka = some ⟨b, o, none⟩ ∧ b < w2.heap.size ∧ ∀ j', j' < (l.getD i nd0).kids.length → w2.cell? ⟨b, o + j', none⟩ = some (.int .i64 ((l.getD i nd0).kids.getD j' 0))) := ⟨hkc⟩
    have HXC : Sld ((e.getD j nd0).kids = [] ∨ ∃ b o, xa = some ⟨b, o, none⟩ ∧ b < w2.heap.size ∧ ∀ j', j' < (e.getD j nd0).kids.length → w2.cell? ⟨b, o + j', none⟩ = some (.int .i64 ((e.getD j nd0).kids.getD j' 0))) := ⟨hxc⟩
    have HKB : Sld (∀ q ∈ (l.getD i nd0).kids, 0 ≤ q ∧ q < (i : Int)) := ⟨hkk.2⟩
    have HXB : Sld (∀ q ∈ (e.getD j nd0).kids, 0 ≤ q ∧ q < (j : Int)) := ⟨hke⟩
    have HD : Sld (DtM W w2.heap.size F P na h nc ps bad) := ⟨hD⟩
    have HB : Sld (Below w2.heap.size w2 W) := ⟨hB⟩
    have HWW : Sld (w2.heap.size ≤ W.heap.size) := ⟨hB.size⟩
    have hk3 := hkk.1
    have g18 : ((l.getD i nd0).op == 18) = false := by rw [beq_eq_false_iff_ne]; exact ho
    obtain ⟨⟨t0, t1, t2, t3⟩, t4, t5, t6, t7⟩ := HTOP.out W hB
    have cH := fun W' => heads_any (l.getD i nd0) (e.getD j nd0) (.slice ka (l.getD i nd0).kids.length kc) (.slice xa (e.getD j nd0).kids.length xc) ka xa (l.getD i nd0).kids.length kc (e.getD j nd0).kids.length xc rfl rfl W' hsx hsy
    have HFB := hD.leF
    obtain ⟨f0, f1, f2, f3⟩ := hD.cells
    have hzH := fun he : hd (l.getD i nd0) = hd (e.getD j nd0) => heads_same he
    have hzD := fun (hne : hd (l.getD i nd0) ≠ hd (e.getD j nd0)) h0 => heads_diff hne h0
    clear hI hbl hbe hkk hke hf1 hf2 efl hsx hsy ha1 ha2 IH hbk hxbk q0 q1 q2 q3 y0 y1 y2 y3 hkc hxc hD hB ho
    obtain ⟨H, hHe⟩ : ∃ H, heads (l.getD i nd0) (e.getD j nd0) = H := ⟨_, rfl⟩
    rw [hHe] at cH hzH hzD
    clear hHe
    generalize l.getD i nd0 = x at *
    generalize e.getD j nd0 = y at *
    by_cases heq : hd x = hd y
    · obtain rfl := hzH heq
      have hnm : x.name = y.name := congrArg (fun t : Hd => t.2.2) heq
      have hkl := HKL.out heq
      have HEN := HEND.out heq hkl
      have HEN : Sld (∀ ps' bad', AtK l e fr fe x.kids y.kids x.kids.length ps ps' bad bad' → AtP l e fr fe i j ps ps' bad bad') := ⟨HEN⟩
      have HKL2 : Sld (x.kids.length = y.kids.length) := ⟨hkl⟩
      have cH2 : Hid (∀ d os, Calls Tryd.prog 97 #[.agg #[.int .i64 x.op, .int .i64 x.n, .string x.name, .slice ka x.kids.length kc], .agg #[.int .i64 y.op, .int .i64 y.n, .string y.name, .slice xa y.kids.length xc] ] (grow (redrawn W d) os) fun e w'' => e = .returned (.int .i64 0) ∧ ∃ p : Regrown, w'' = grow (redrawn W p.d) p.os) := fun d os => Calls.regrown_of (cH _)
      have r0 := cell_regrown t0
      have r1 := cell_regrown t1
      have r2 := cell_regrown t2
      have r3 := cell_regrown t3
      have s0 := cell_regrown t4
      have s1 := cell_regrown t5
      have s2 := cell_regrown t6
      have s3 := cell_regrown t7
      rw [hnm] at r2 cH2
      have HNM : Sld (x.name = y.name) := ⟨hnm⟩
      clear heq hzH hzD HKL HEND HDIF cH hnm hkl t1 t2 t3 t4 t5 t6 t7 f0 f1 f2 f3
      generalize hkl : x.kids.length = kl at *
      have HKLx : Sld (x.kids.length = kl) := ⟨hkl⟩
      clear hkl
      have hyl : y.kids.length = kl := HKL2.out.symm
      rw [hyl] at s3 cH2 hx1
      have HYL : Sld (y.kids.length = kl) := ⟨hyl⟩
      clear hyl HKL2
      obtain ⟨nm, hnm⟩ : ∃ nm, y.name = nm := ⟨_, rfl⟩
      rw [hnm] at r2 s2 cH2
      clear hnm
      generalize x.op = xop at *
      generalize x.n = xn at *
      generalize y.op = yop at *
      generalize y.n = yn at *
      go_enter Tryd.func73, Tryd.ntmps73
      go_wp2_with fail
      refine wp_region_quiet_below (by kernel_rfl) (by kernel_rfl) ?_
      iterate 23 (go_big_quiet_step ((go_at_call 97; exact cH2.out _ _)))
      refine wpQuiet_nil ?_
      intro _ hw'
      obtain ⟨⟨ds, oss⟩, hw''⟩ := hw'
      subst hw''
      have hb := below_regrown W ds oss
      generalize grow (redrawn W ds) oss = w4 at *
      have HD4 : Sld (DtM w4 w2.heap.size F P na h nc ps bad) := ⟨HD.out.below hb⟩
      have HB4 : Sld (Below w2.heap.size W w4) := ⟨hb.mono HWW.out⟩
      clear hb r0 r1 r2 r3 s0 s1 s2 s3 cH2 t0
      go_wp2_with fail
      go_loopw [12] (fun q wr => ∃ (t : Nat) (ps1 : List (List Nd)) (b1 : Bool), t ≤ kl ∧ q = .int .i64 t ∧ Sld (DtM wr w2.heap.size F P na h nc ps1 b1) ∧ Sld (AtK l e fr fe x.kids y.kids t ps ps1 bad b1) ∧ Below w2.heap.size W wr) (fun q _ => kl - (RowKit.intOf q).toNat)
      case atStart => exact ⟨0, ps, bad, by omega, rfl, HD4, ⟨AtK.start _ _ _ _ _ _ _ _⟩, HB4.out⟩
      case round =>
        obtain ⟨t, ps1, b1, ht, rfl, hD1, hK1, hbw⟩ := hrel
        have hb2w := HB.out.trans hbw
        obtain ⟨⟨c0, c1, c2, c3⟩, d0, d1, d2, d3⟩ := HTOP.out wr hb2w
        have HBW : Sld (Below w2.heap.size W wr) := ⟨hbw⟩
        have HB2 : Sld (Below w2.heap.size w2 wr) := ⟨hb2w⟩
        have hszr : w2.heap.size ≤ wr.heap.size := hb2w.size
        by_cases htl : t < kl
        · have htx : t < x.kids.length := by rw [HKLx.out]; exact htl
          have hty : t < y.kids.length := by rw [HYL.out]; exact htl
          obtain ⟨kb, ko, rfl, hkb, hkc⟩ : ∃ b o, ka = some ⟨b, o, none⟩ ∧ b < w2.heap.size ∧ ∀ j', j' < kl → w2.cell? ⟨b, o + j', none⟩ = some (.int .i64 (x.kids.getD j' 0)) := by
            rcases HKC.out with h | h
            · rw [h] at htx; simp at htx
            · exact h
          obtain ⟨yb, yo, rfl, hyb, hyc⟩ : ∃ b o, xa = some ⟨b, o, none⟩ ∧ b < w2.heap.size ∧ ∀ j', j' < y.kids.length → w2.cell? ⟨b, o + j', none⟩ = some (.int .i64 (y.kids.getD j' 0)) := by
            rcases HXC.out with h | h
            · rw [h] at hty; simp at hty
            · exact h
          have e1 := (hb2w.cell (p := ⟨kb, ko + t, none⟩) hkb).trans (hkc t htl)
          have e2 := (hb2w.cell (p := ⟨yb, yo + t, none⟩) hyb).trans (hyc t hty)
          obtain ⟨z1, z2⟩ := HKB.out _ (getD_mem (d := 0) htx)
          obtain ⟨z3, z4⟩ := HXB.out _ (getD_mem (d := 0) hty)
          obtain ⟨a, hae⟩ : ∃ a : Nat, x.kids.getD t 0 = (a : Int) := ⟨(x.kids.getD t 0).toNat, by omega⟩
          obtain ⟨b, hbe⟩ : ∃ b : Nat, y.kids.getD t 0 = (b : Int) := ⟨(y.kids.getD t 0).toNat, by omega⟩
          rw [hae] at e1 z2
          rw [hbe] at e2 z4
          have HAE : Sld (x.kids.getD t 0 = (a : Int) ∧ y.kids.getD t 0 = (b : Int) ∧ t < x.kids.length ∧ t < y.kids.length) := ⟨⟨hae, hbe, htx, hty⟩⟩
          have hai : a < i := by omega
          have hbm : b < m := by omega
          have g3 := cell_regrown c3
          have hd3 : wr.cell? ⟨xb, xo + j * 4 + 3, none⟩ = some (.slice (some ⟨yb, yo, none⟩) kl xc) := by rw [← HYL.out]; exact d3
          have g7 := cell_regrown hd3
          have ge1 := cell_regrown e1
          have ge2 := cell_regrown e2
          have ht0 : (0 : Int) ≤ (t : Int) := by omega
          have ht1 : (t : Int) < (kl : Int) := by omega
          clear hkc hyc hae hbe htx hty z1 z3 hbw hb2w c0 c1 c2 d0 d1 d2 d3 hd3
          go_wp2_with fail
          refine wp_region_quiet_then 19 (by kernel_rfl) (by kernel_rfl) ?_
          simp only [List.take_succ_cons, List.take_zero]
          iterate 19 (go_big_quiet_step (fail))
          refine wpQuiet_nil ?_
          intro _ hw'
          obtain ⟨⟨ds2, oss2⟩, hw''⟩ := hw'
          subst hw''
          simp only [List.drop_succ_cons, List.drop_zero]
          have hbq := below_regrown wr ds2 oss2
          generalize grow (redrawn wr ds2) oss2 = w5 at *
          have D5 := hD1.out.below hbq
          have HBQ : Sld (Below w2.heap.size wr w5) := ⟨hbq.mono hszr⟩
          have CI : Sld _ := ⟨HIH.out a b hai hbm w5 ps1 b1 (HB2.out.trans HBQ.out) D5⟩
          clear hbq D5 g3 g7 ge1 ge2 e1 e2 c3
          go_wp2_with fail
          refine CI.out.mono ?_
          rintro en w6 ⟨rfl, hb6, ps2, b2, D6, A6⟩
          have HB6 : Sld (Below w2.heap.size W w6) := ⟨HBW.out.trans (HBQ.out.trans hb6)⟩
          have HD6 : Sld (DtM w6 w2.heap.size F P na h nc ps2 b2) := ⟨D6⟩
          have HK6 : Sld (AtK l e fr fe x.kids y.kids (t + 1) ps ps2 bad b2) := ⟨hK1.out.step HAE.out.2.2.1 HAE.out.2.2.2 (by rw [HAE.out.1, HAE.out.2.1, Int.toNat_natCast, Int.toNat_natCast]; exact A6)⟩
          clear hb6 D6 A6 CI
          go_wp2_with fail
          exact ⟨⟨t + 1, ps2, b2, by omega, by go_num, HD6, HK6, HB6.out⟩, by simp [RowKit.intOf]; omega⟩
        · have hte : t = kl := by omega
          subst hte
          have HA : Hid (AtP l e fr fe i j ps ps1 bad b1) := HEN.out _ _ hK1.out
          clear hbw hb2w
          go_wp2_with fail
          go_end0
          exact ⟨rfl, HBW.out, _, _, hD1.out, HA.out⟩
    · have HA : Hid (AtP l e fr fe i j ps ps bad true) := HDIF.out heq
      have hzD2 := hzD heq
      have HND : Hid (H = 0 → x.name ≠ y.name) := hzD2
      have cH2 : Hid (∀ d os, Calls Tryd.prog 97 #[.agg #[.int .i64 x.op, .int .i64 x.n, .string x.name, .slice ka x.kids.length kc], .agg #[.int .i64 y.op, .int .i64 y.n, .string y.name, .slice xa y.kids.length xc] ] (grow (redrawn W d) os) fun e w'' => e = .returned (.int .i64 H) ∧ ∃ p : Regrown, w'' = grow (redrawn W p.d) p.os) := fun d os => Calls.regrown_of (cH _)
      have r0 := cell_regrown t0
      have r1 := cell_regrown t1
      have r2 := cell_regrown t2
      have r3 := cell_regrown t3
      have s0 := cell_regrown t4
      have s1 := cell_regrown t5
      have s2 := cell_regrown t6
      have s3 := cell_regrown t7
      clear heq hzH hzD hzD2 HKL HEND HDIF cH t1 t2 t3 t4 t5 t6 t7 f0 f1 f2 f3 HTOP HKC HXC HKB HXB HIH
      generalize x.kids.length = kl at *
      generalize y.kids.length = yl at *
      by_cases hH : H = 0
      · have hnq : (x.name.toList == y.name.toList) = false := by rw [beq_toLisO]; exact decide_eq_false (HND.out hH)
        subst hH
        clear HND
        generalize x.name = xnm at *
        generalize y.name = ynm at *
        generalize x.op = xop at *
        generalize x.n = xn at *
        generalize y.op = yop at *
        generalize y.n = yn at *
        go_enter Tryd.func73, Tryd.ntmps73
        go_wp2_with fail
        refine wp_region_quiet_below (by kernel_rfl) (by kernel_rfl) ?_
        iterate 23 (go_big_quiet_step ((go_at_call 97; exact cH2.out _ _)))
        refine wpQuiet_nil ?_
        intro _ hw'
        obtain ⟨⟨ds, oss⟩, hw''⟩ := hw'
        subst hw''
        have hb := below_regrown W ds oss
        generalize grow (redrawn W ds) oss = w4 at *
        have D4 := HD.out.below hb
        obtain ⟨_, _, f2, f3⟩ := D4.cells
        have HD5 : Hid (DtM (w4.setCell ⟨F, 2, none⟩ (.bool true)) w2.heap.size F P na h nc ps true) := D4.setBad
        have HB5 : Hid (Below w2.heap.size W (w4.setCell ⟨F, 2, none⟩ (.bool true))) := (hb.mono HWW.out).setCell (p := ⟨F, 2, none⟩) HFB _
        clear hb r0 r1 r2 r3 s0 s1 s2 s3 cH2 t0 D4
        go_wp2_with fail
        go_end0
        exact ⟨rfl, HB5.out, _, _, HD5.out, HA.out⟩
      · have hHn : (H != 0) = true := by simpa using hH
        clear HND hH
        generalize x.name = xnm at *
        generalize y.name = ynm at *
        generalize x.op = xop at *
        generalize x.n = xn at *
        generalize y.op = yop at *
        generalize y.n = yn at *
        go_enter Tryd.func73, Tryd.ntmps73
        go_wp2_with fail
        refine wp_region_quiet_below (by kernel_rfl) (by kernel_rfl) ?_
        iterate 23 (go_big_quiet_step ((go_at_call 97; exact cH2.out _ _)))
        refine wpQuiet_nil ?_
        intro _ hw'
        obtain ⟨⟨ds, oss⟩, hw''⟩ := hw'
        subst hw''
        have hb := below_regrown W ds oss
        generalize grow (redrawn W ds) oss = w4 at *
        have D4 := HD.out.below hb
        obtain ⟨_, _, f2, f3⟩ := D4.cells
        have HD5 : Hid (DtM (w4.setCell ⟨F, 2, none⟩ (.bool true)) w2.heap.size F P na h nc ps true) := D4.setBad
        have HB5 : Hid (Below w2.heap.size W (w4.setCell ⟨F, 2, none⟩ (.bool true))) := (hb.mono HWW.out).setCell (p := ⟨F, 2, none⟩) HFB _
        clear hb r0 r1 r2 r3 s0 s1 s2 s3 cH2 t0 D4
        go_wp2_with fail
        go_end0
        exact ⟨rfl, HB5.out, _, _, HD5.out, HA.out⟩
end Go.Proofs.YtlllkjbbldhddaaDoor

set_option linter.unusedSimpArgs false
set_option linter.unusedVariables false
namespace Go.Proofs.YtlllkjbbldhddaaDoor
open Go.RowKit Go.Lib Go.Sort

set_option maxRecDepth 20000 in
set_option maxHeartbeats 4000000 in
theorem refFits_any {w : World} {ao bo : Option Addr} {cap cb : Nat} {l x : List Nd} (L : List (List Nd)) (c : Int) (hC : FtC l x L c) (hL : Rd w ao cap l) (hX : Rd w bo cb x) (FL : Fit l) (FX : FitX x) :
    Calls Tryd.prog 41 #[.slice ao l.length cap, .slice bo x.length cb] w fun e w' => ∃ a t, e = .returned (.tuple #[.slice a L.length t, .int .i64 c]) ∧ RdP w' a t L ∧ Below w.heap.size w w' := by
  have HL : Hid (Rd w ao cap l) := hL
  have HX : Hid (Rd w bo cb x) := hX
  have HFL : Hid (Fit l) := FL
  have HFX : Hid (FitX x) := FX
  have HC : Hid (FtC l x L c) := hC
  have cK := rchk14_any hL FL
  unfold pkC at cK
  have HNIL : Hid (∀ W : World, RdP W none 0 []) := fun W => ⟨none, 0, rfl, by simp, by simp, .inl rfl⟩
  clear hL hX FL FX hC
  cases hpat : patB l with
  | false =>
    have hcc : c = 1 ∧ L = [] := by
      rcases HC.out.ways with ⟨_, h, _⟩ | ⟨h1, h2, _⟩ | ⟨_, _, h, _⟩
      · rw [hpat] at h; cases h
      · exact ⟨h1, h2⟩
      · rw [hpat] at h; cases h
    obtain ⟨rfl, rfl⟩ := hcc
    rw [if_neg (by rw [hpat]; decide)] at cK
    clear hpat HC
    go_enter Tryd.func41, Tryd.ntmps41
    go_wp2_with fail
    refine cK.mono ?_
    rintro e w2 ⟨rfl, hb2⟩
    have HB2 : Hid (_) := hb2
    clear hb2 cK
    go_wp2_with fail
    go_ret2
    exact ⟨none, 0, rfl, HNIL.out _, HB2.out⟩
  | true =>
    rw [if_pos hpat] at cK
    cases hsx : sndB x with
    | false =>
      have hcc : c = 1 ∧ L = [] := by
        rcases HC.out.ways with ⟨_, _, h, _⟩ | ⟨h1, h2, _⟩ | ⟨_, _, _, h, _⟩
        · rw [hsx] at h; cases h
        · exact ⟨h1, h2⟩
        · rw [hsx] at h; cases h
      obtain ⟨rfl, rfl⟩ := hcc
      have HSX : Hid (sndB x = false) := hsx
      clear hpat HC hsx
      go_enter Tryd.func41, Tryd.ntmps41
      go_wp2_with fail
      refine cK.mono ?_
      rintro e w2 ⟨rfl, hb2⟩
      have HB2 : Hid (Below w.heap.size w w2) := hb2
      have cX := rchkR (HX.out.below hb2 hb2.size) HFX.out.fit 1 (chkE_no HSX.out)
      clear hb2 cK
      go_wp2_with fail
      refine cX.mono ?_
      rintro e w3 ⟨rfl, hb3⟩
      have HB3 : Hid (Below w.heap.size w w3) := HB2.out.trans (hb3.mono HB2.out.size)
      clear hb3 cX
      go_wp2_with fail
      go_ret2
      exact ⟨none, 0, rfl, HNIL.out _, HB3.out⟩
    | true =>
      have HSX : Hid (sndB x = true) := hsx
      have HPAT : Hid (patB l = true) := hpat
      obtain ⟨n, hn⟩ : ∃ n, l.length = n + 1 := ⟨l.length - 1, by have := (patB_len hpat).1; omega⟩
      obtain ⟨m, hm⟩ : ∃ m, x.length = m + 1 := ⟨x.length - 1, by have := (snd_len hsx).1; omega⟩
      have h16 := (patB_len hpat).2
      have h64 := (snd_len hsx).2
      have hk6 := patB_hls hpat
      obtain ⟨fr, hfr⟩ := Option.isSome_iff_exists.1 (patB_snd hpat)
      obtain ⟨fe, hfe⟩ := Option.isSome_iff_exists.1 hsx
      have HFR : Hid (begL (l.map fillN) = some fr) := hfr
      have HFE : Hid (begL x = some fe) := hfe
      rw [hn] at h16 cK
      rw [hm] at h64
      have hn15 : n ≤ 15 := by omega
      have hm63 : m ≤ 63 := by omega
      have HN : Hid (l.length = n + 1) := hn
      have HM : Hid (x.length = m + 1) := hm
      rw [hn, hm]
      clear hpat hsx hfr hfe h16 h64 hn hm
      obtain ⟨h, hh⟩ : ∃ h, (hlsL l).length = h := ⟨_, rfl⟩
      have HH : Hid ((hlsL l).length = h) := hh
      rw [hh] at hk6
      clear hh
      have hmk := run_make_row' (P := Tryd.prog) 46 22 (.slice none 0 0) 24 Tryd.underlying46 Tryd.infoNodes rfl .i64 .i64 h (by omega) (by omega)
      go_enter Tryd.func41, Tryd.ntmps41
      go_wp2_with fail
      refine cK.mono ?_
      rintro e w2 ⟨rfl, hb2⟩
      have HB2 : Hid (Below w.heap.size w w2) := hb2
      have cX := rchkR (HX.out.below hb2 hb2.size) HFX.out.fit 0 (chkE_yes HSX.out)
      rw [HM.out] at cX
      clear hb2 cK
      go_wp2_with fail
      refine cX.mono ?_
      rintro e w3 ⟨rfl, hb3⟩
      have HB3 : Hid (Below w.heap.size w w3) := HB2.out.trans (hb3.mono HB2.out.size)
      have cH := refHolesO_any (HL.out.below HB3.out HB3.out.size) HFL.out.len
      rw [HH.out, HN.out] at cH
      clear hb3 cX
      go_wp2_with fail
      refine cH.mono ?_
      rintro e w4 ⟨u4, t4, rfl, hM⟩
      have HB4 : Hid (Below w.heap.size w w4) := HB3.out.trans (hM.below.mono HB3.out.size)
      have hrow := hM.row
      rw [← HH.out] at hrow
      obtain ⟨u4', t4', e1, hSt⟩ := Strs_of_own hrow
      rw [HH.out] at e1
      cases e1
      have HSt : Hid (Strs w4 u4 t4 (hlsL l)) := hSt
      have HIN : Hid (AtIn w4 ao bo u4 cap cb t4 l x fr fe) := ⟨HL.out.below HB4.out HB4.out.size, HX.out.below HB4.out HB4.out.size, hSt, HFR.out, HFE.out, HFX.out, HFL.out.name⟩
      have HBA : Hid (Below w4.heap.size w4 ((w4.alloc (.cells (madeCells #[.slice none 0 0] h) 22)).alloc (.cells #[.slice u4 h t4, .slice (some ⟨w4.heap.size, 0, none⟩) h h, .bool false] 102))) := ((Below.refl _ _).alloc (Nat.le_refl _) _).alloc (by simp) _
      have HDM : Hid (DtM ((w4.alloc (.cells (madeCells #[.slice none 0 0] h) 22)).alloc (.cells #[.slice u4 h t4, .slice (some ⟨w4.heap.size, 0, none⟩) h h, .bool false] 102)) w4.heap.size (w4.heap.size + 1) w4.heap.size u4 h t4 (List.replicate h []) false) := by
        refine ⟨?_, ⟨List.replicate h (.slice none 0 0), by simp, ?_, fun i hi => ?_⟩, by omega⟩
        · have := (MapKept.heap_alloc (w4.alloc (.cells (madeCells #[.slice none 0 0] h) 22)) (.cells #[.slice u4 h t4, .slice (some ⟨w4.heap.size, 0, none⟩) h h, .bool false] 102)).1
          have hsz : (w4.alloc (.cells (madeCells #[.slice none 0 0] h) 22)).heap.size = w4.heap.size + 1 := by simp
          rw [hsz] at this
          exact this
        · have hr : (w4.alloc (.cells (madeCells #[.slice none 0 0] h) 22)).ownsRow w4.heap.size 22 1 (.slice (some ⟨w4.heap.size, 0, none⟩) h h) h (List.replicate h (.slice none 0 0)) :=
            ⟨by simp, .inr ⟨w4.heap.size, h, _, rfl, Nat.le_refl _, heap_alloc_new w4 _, Nat.le_refl _, by unfold maxLen; omega, by rw [size_madeCells]; omega, by rw [toList_madeCells_one]; simp⟩⟩
          have e2 : (List.replicate h ([] : List Nd)).length = h := by simp
          rw [e2]
          exact hr.alloc _
        · have hi' : i < h := by simpa using hi
          have e2 : (List.replicate h (Value.slice none 0 0)).getD i (.slice none 0 0) = .slice none 0 0 := by simp [hi']
          have e3 : (List.replicate h ([] : List Nd)).getD i [] = [] := by simp [hi']
          rw [e2, e3]
          exact ⟨[], rfl, OwnP_nil _ _⟩
      have CA : Sld _ := ⟨fit_at HIN.out HN.out HM.out HH.out (F := w4.heap.size + 1) (P := w4.heap.size) n (by omega) m (by omega) _ _ _ HBA.out HDM.out⟩
      clear hM cH hrow hSt HSt HIN HDM
      go_wp2_with fail
      refine CA.out.mono ?_
      rintro e w5 ⟨rfl, hb5, ps', bad', D5, A5⟩
      have HB5 : Hid (Below w.heap.size w w5) := HB4.out.trans ((HBA.out.trans hb5).mono HB4.out.size)
      have htop : (bad' = false → FtOk l x ps') ∧ (∀ qs, FtOk l x qs → bad' = false) := by
        have e1 : n = l.length - 1 := by rw [HN.out]; omega
        have e2 : m = x.length - 1 := by rw [HM.out]; omega
        rw [e1, e2, ← HH.out] at A5
        exact A5.top HPAT.out HFR.out HFE.out
      have HTOP : Hid (_) := htop
      have HD5 : Hid (DtM w5 w4.heap.size (w4.heap.size + 1) w4.heap.size u4 h t4 ps' bad') := D5
      obtain ⟨_, f1, f2, _⟩ := D5.cells
      clear hb5 D5 A5 CA htop HBA hmk
      cases bad' with
      | true =>
        have hcc : c = 11 ∧ L = [] := by
          rcases HC.out.ways with ⟨_, _, _, hk⟩ | ⟨_, _, hk | hk⟩ | ⟨h1, h2, _⟩
          · have := HTOP.out.2 _ hk; cases this
          · rw [HPAT.out] at hk; cases hk
          · rw [HSX.out] at hk; cases hk
          · exact ⟨h1, h2⟩
        obtain ⟨rfl, rfl⟩ := hcc
        clear HC HTOP
        go_wp2_with fail
        go_ret2
        exact ⟨none, 0, rfl, HNIL.out _, HB5.out⟩
      | false =>
        have hok := HTOP.out.1 rfl
        have hcc : c = 0 ∧ ps' = L := by
          rcases HC.out.ways with ⟨h1, _, _, hk⟩ | ⟨_, _, hk | hk⟩ | ⟨_, _, _, _, hk⟩
          · exact ⟨h1, hok.one HFE.out hk⟩
          · rw [HPAT.out] at hk; cases hk
          · rw [HSX.out] at hk; cases hk
          · exact absurd hok (hk _)
        obtain ⟨rfl, rfl⟩ := hcc
        have hlen := HD5.out.len
        have HRD : Hid (RdP w5 (some ⟨w4.heap.size, 0, none⟩) h ps') := by
          obtain ⟨pvs, ho⟩ := HD5.out.own
          show Lst _ _ (.slice _ ps'.length h) _
          rw [hlen]
          exact Lst_of_own ho (Nat.le_refl _)
        have HLE : Hid (ps'.length = h) := hlen
        clear HC HTOP hok hlen
        go_wp2_with fail
        go_ret2
        exact ⟨some ⟨w4.heap.size, 0, none⟩, h, by rw [HLE.out] <;> rfl, HRD.out, HB5.out⟩
end Go.Proofs.YtlllkjbbldhddaaDoor
