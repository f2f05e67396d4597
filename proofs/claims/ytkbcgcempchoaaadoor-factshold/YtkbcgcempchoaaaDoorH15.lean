/-
  Mono, OrderW.
-/
import Derived.Shelf.Unicode.DecodeSlow
import Derived.Laws.RangeAny
import Derived.Shelf.Small.Bits
import Derived.Shelf.Strconv.Itoa0
import Derived.Shelf.LaysM
import Derived.Shelf.Strconv.Clone
import Derived.Shelf.Unicode.DecodeAny
import Derived.Ground.SlsfProg
import Derived.Shelf.SlSortCmp.Insertion
import Derived.Shelf.SlSortCmp.SiftDown1
import Derived.Shelf.SlSortCmp.HeapSort1
import Derived.Shelf.SlSortCmp.Insertion1
import Derived.Shelf.SlSortCmp.Median1
import Derived.Shelf.SlSortCmp.Pivot1
import Derived.Shelf.SlSortCmp.ReverseRange1
import Derived.Shelf.SlSortCmp.PartitionEqual1
import Derived.Test.YtkbcgcempchoaaaDoorProg
import Derived.WalkKit
import Derived.Deep.DeepFit
import Derived.Lib.OthersKept
import Derived.Lib.RuneCountTail
import Derived.Calls
import Derived.RunT
import Derived.Lib.QuietBelow
import Derived.Deep.Draws
import Derived.Test.YtkbcgcempchoaaaDoorH01
namespace Go.Proofs.YtkbcgcempchoaaaDoor.Up
open Go

def rwd {α : Type} : Result α → World
  | .ok _ w => w
  | .halt _ w => w

theorem ask_up {α : Type} (a : Ask α) : ∀ w : World, w.drawn ≤ (w.ask a).2.drawn := by
  induction a with
  | done a => intro w; exact Nat.le_refl _
  | ask what range k ih =>
    intro w
    simp only [World.ask]
    split
    · exact ih _ w
    · exact Nat.le_trans (Nat.le_succ _) (ih _ { w with drawn := w.drawn + 1 })

theorem sys_up (w : World) (c : Sys) : w.drawn ≤ (w.sys c).2.drawn := by
  have h := ask_up (Kernel.perform c w.os) w
  simp only [World.sys]
  split
  · exact Nat.le_refl _
  · rename_i heq; rw [heq] at h; exact h

theorem view_up {p : Program} {w : World} {at_ : Addr} {u : TypeId} {a : Addr} {v : Value} {b : Bool} {r : World × List Addr} (h : w.viewStore p at_ u a v b = .ok r) : r.1.drawn = w.drawn := by
  simp only [World.viewStore, bind, Except.bind, pure, Except.pure] at h
  repeat' split at h
  all_goals first | cases h; done | (cases h; rfl)

theorem far_up {p : Program} {w : World} {a : Addr} {v : Value} {b : Bool} {r : World × List Addr} (h : w.farStore p a v b = .ok r) : r.1.drawn = w.drawn := by
  simp only [World.farStore] at h
  split at h
  · split at h
    · rename_i h2; cases h; exact view_up h2
    · cases h
  · cases h

theorem freeze_up (w : World) (a : Addr) (n : Nat) : (w.freeze a n).drawn = w.drawn := by
  simp only [World.freeze]; split <;> rfl

theorem run_up {α : Type} (p : Program) (s : Sem α) : ∀ w : World, w.drawn ≤ (rwd (s.run p w)).drawn := by
  induction s with
  | pure a => intro w; exact Nat.le_refl _
  | load m a k ih =>
    intro w; simp only [Sem.run]
    split
    · exact ih _ w
    · split
      · exact ih _ w
      · exact Nat.le_refl _
  | store m a v k ih =>
    intro w
    have key : w.drawn ≤ (rwd (match w.cell? a with
      | some _ => if w.frozen? a then .halt (.unsupported (.unsafePointer "a write to bytes that a string shares")) w else k.run p (w.setCell a v)
      | none => match w.farStore p a v (m == .atomic) with
        | .ok (w, _) => k.run p w
        | .error h => .halt h w)).drawn := by
      split
      · split
        · exact Nat.le_refl _
        · exact ih (w.setCell a v)
      · split
        · rename_i h; have := far_up h; simp only at this; exact this ▸ ih _
        · exact Nat.le_refl _
    cases v <;> first | exact key | exact Nat.le_refl _
  | new o k ih => intro w; exact ih _ { w with heap := w.heap.push o }
  | shape r k ih => intro w; exact ih _ w
  | freeze a n k ih => intro w; exact Nat.le_trans (Nat.le_of_eq (freeze_up w a n).symm) (ih (w.freeze a n))
  | frozen a k ih => intro w; exact ih _ w
  | getObj r k ih =>
    intro w; simp only [Sem.run]
    split
    · exact Nat.le_refl _
    · exact ih _ w
    · exact Nat.le_refl _
  | setObj r o k ih =>
    intro w; simp only [Sem.run]
    split
    · exact Nat.le_refl _
    · exact ih { w with heap := w.heap.setIfInBounds r o }
    · exact Nat.le_refl _
  | choose q k ih =>
    intro w; simp only [Sem.run]
    split
    · exact ih _ w
    · exact Nat.le_trans (Nat.le_succ _) (ih _ { w with drawn := w.drawn + 1 })
  | sys c k ih => intro w; exact Nat.le_trans (sys_up w c) (ih _ _)
  | program k ih => intro w; exact ih _ w
  | mark m k ih => intro w; exact ih w
  | halt h => intro w; exact Nat.le_refl _

theorem runT_up {α : Type} (p : Program) (s : Sem α) (w : World) (es : Array Event) : w.drawn ≤ (rwd (s.runT p w es).1).drawn := by
  rw [Sem.runT_fst]; exact run_up p s w

theorem run_ok {α : Type} {p : Program} {s : Sem α} {w w' : World} {a : α} (h : s.run p w = .ok a w') : w.drawn ≤ w'.drawn := by
  have := run_up p s w; rw [h] at this; exact this
theorem run_no {α : Type} {p : Program} {s : Sem α} {w w' : World} {a : Halt} (h : s.run p w = .halt a w') : w.drawn ≤ w'.drawn := by
  have := run_up p s w; rw [h] at this; exact this

def gw : GStep → World
  | .go _ w _ | .comm _ _ _ _ w _ | .spawn _ _ w _ | .count _ w _ | .timer _ _ w _ | .alone _ _ w _ | .newcoro _ _ _ w _ | .coroswitch _ _ _ w _ | .collect _ w _ | .watch _ w _ | .ended _ w _ => w

theorem gw_after (es : Array Event) (s : GStep) : gw (s.after es) = gw s := by cases s <;> rfl

def Up (w : World) (s : GStep) : Prop := w.drawn ≤ (gw s).drawn

theorem up_refl {w : World} {s : GStep} (h : gw s = w) : Up w s := by unfold Up; rw [h]; exact Nat.le_refl _

theorem up_after {w : World} {s : GStep} {es : Array Event} (h : Up w s) : Up w (s.after es) := by unfold Up; rw [gw_after]; exact h
theorem up_trans {w w' : World} {s : GStep} (h : w.drawn ≤ w'.drawn) (k : Up w' s) : Up w s := Nat.le_trans h k

theorem doReturn_up (p : Program) (main : Bool) (fr : Frame) (cs : List Frame) (dy : Option Dying) (v : Value) (w : World) : Up w (doReturn p main fr cs dy v w) := by
  apply up_refl
  unfold doReturn
  repeat' split
  all_goals rfl

theorem endThrow_up (fr : Frame) (m : String) (w : World) : Up w (endThrow fr m w) := up_refl rfl

theorem endPrinting_up (p : Program) (fr : Frame) (v : Value) (w : World) : Up w (endPrinting p fr v w) := by
  apply up_refl
  simp only [endPrinting]
  split
  · rfl
  · rfl

theorem endFatal_up (p : Program) (fr : Frame) (cs : List Frame) (dy : Option Dying) (m : String) (w : World) : Up w (endFatal p fr cs dy m w) := by
  simp only [endFatal]
  split
  all_goals (rename_i h; first | exact up_trans (run_ok h) (up_refl rfl) | exact up_trans (run_no h) (up_refl rfl) | (rename_i h2; exact up_trans (run_no h2) (up_refl rfl)))

theorem endWith_up (w : World) (fd : Nat) (t : ByteArray) (o : Outcome) : Up w (endWith w fd t o) := by
  have h := sys_up w (.write fd t)
  simp only [endWith]
  split
  · rename_i heq; rw [heq] at h
    split
    · exact h
    · exact h
  · rename_i heq; rw [heq] at h; exact h
  · rename_i heq; rw [heq] at h; exact h

theorem runT_ok {α : Type} {p : Program} {s : Sem α} {w w' : World} {a : α} {es es' : Array Event} (h : s.runT p w es = (.ok a w', es')) : w.drawn ≤ w'.drawn := by
  have := runT_up p s w es; rw [h] at this; exact this
theorem runT_no {α : Type} {p : Program} {s : Sem α} {w w' : World} {a : Halt} {es es' : Array Event} (h : s.runT p w es = (.halt a w', es')) : w.drawn ≤ w'.drawn := by
  have := runT_up p s w es; rw [h] at this; exact this

theorem writeOn_up (p : Program) (fr : Frame) (d : Dying) (f : Fatal) (w : World) : Up w (writeOn p fr d f w) := by
  simp only [writeOn]
  split
  · exact up_refl rfl
  · generalize hs : (_ : Sem Unit) = s
    split
    all_goals rename_i h
    · exact runT_ok h
    · exact runT_no h
    · exact runT_no h
    · exact runT_no h


theorem run1_ok {α : Type} {p : Program} {s : Sem α} {w w' : World} {a : α} {es : Array Event} (h : (s.runT p w es).1 = .ok a w') : w.drawn ≤ w'.drawn := by
  rw [Sem.runT_fst] at h; exact run_ok h
theorem run1_no {α : Type} {p : Program} {s : Sem α} {w w' : World} {a : Halt} {es : Array Event} (h : (s.runT p w es).1 = .halt a w') : w.drawn ≤ w'.drawn := by
  rw [Sem.runT_fst] at h; exact run_no h
theorem up_ok {α : Type} {p : Program} {s : Sem α} {w w' : World} {a : α} {es : Array Event} {g : GStep} (h : (s.runT p w es).1 = .ok a w') (k : Up w' g) : Up w g := up_trans (run1_ok h) k
theorem up_no {α : Type} {p : Program} {s : Sem α} {w w' : World} {a : Halt} {es : Array Event} {g : GStep} (h : (s.runT p w es).1 = .halt a w') (k : Up w' g) : Up w g := up_trans (run1_no h) k
theorem up_ok' {α : Type} {p : Program} {s : Sem α} {w w' : World} {a : α} {g : GStep} (h : s.run p w = .ok a w') (k : Up w' g) : Up w g := up_trans (run_ok h) k
theorem up_no' {α : Type} {p : Program} {s : Sem α} {w w' : World} {a : Halt} {g : GStep} (h : s.run p w = .halt a w') (k : Up w' g) : Up w g := up_trans (run_no h) k

theorem up_ite {w : World} {c : Prop} [Decidable c] {a b : GStep} (h : Up w a) (k : Up w b) : Up w (if c then a else b) := by split <;> assumption

theorem die_up (p : Program) (fr : Frame) (d : Dying) (w : World) : Up w (die p fr d w) := by
  simp only [die]
  split
  · exact writeOn_up ..
  · split
    · split
      · exact up_refl rfl
      · exact endWith_up ..
    · split
      · exact up_refl rfl
      · split
        · rename_i h; exact run_ok h
        · rename_i h; exact run_no h
      · apply up_after
        split
        all_goals first | exact up_ok (by assumption) (up_refl rfl) | exact up_no (by assumption) (up_refl rfl) | exact up_no (by assumption) (endPrinting_up ..) | exact up_refl rfl
      · exact up_refl rfl

theorem callDeferred_up (p : Program) (fr : Frame) (cs : List Frame) (dy : Option Dying) (d : Deferred) (w : World) : Up w (callDeferred p fr cs dy d w) := by
  simp only [callDeferred]
  refine up_ite (up_refl rfl) ?_
  apply up_after
  split
  all_goals first | exact up_ok (by assumption) (up_refl rfl) | exact up_no (by assumption) (up_refl rfl) | exact up_no (by assumption) (endFatal_up ..) | exact up_no (by assumption) (endThrow_up ..) | skip
  refine up_ok (by assumption) ?_
  split
  · exact up_refl rfl
  · exact up_refl rfl

theorem unwind_up (p : Program) (main : Bool) (fr : Frame) (cs : List Frame) (dy : Option Dying) (w : World) : Up w (unwind p main fr cs dy w) := by
  simp only [unwind]
  split
  · apply up_after
    split
    all_goals first | exact up_ok (by assumption) (up_refl rfl) | exact up_no (by assumption) (up_refl rfl)
  · exact callDeferred_up ..
  · split
    · exact up_refl rfl
    · split
      · exact up_refl rfl
      · split
        · exact up_refl rfl
        · split
          · split
            · exact up_refl rfl
            · split
              all_goals first | exact up_ok' (by assumption) (up_refl rfl) | exact up_no' (by assumption) (up_refl rfl)
          · split
            · exact endPrinting_up ..
            · exact up_refl rfl
    · split
      · exact doReturn_up ..
      · apply up_after
        split
        all_goals first | exact up_ok (by assumption) (doReturn_up ..) | exact up_no (by assumption) (up_refl rfl)

theorem early_up (p : Program) (fr : Frame) (cs : List Frame) (dy : Option Dying) (g : Nat) (w : World) : Up w (early p fr cs dy g w) := by
  have nY : ∀ w : World, Up w (match w.heap[g]? with
    | some (.pending c elem) => .go { frame := fr, callers := cs, status := .running, dying := dy } { w with heap := w.heap.setIfInBounds g (.cells c elem) }
    | _ => .ended (.stuck "early: the variable does not wait" (fr.pos p)) w) := by
    intro w
    split
    · exact Nat.le_refl _
    · exact Nat.le_refl _
  simp only [early]
  split
  · exact nY w
  · split
    · exact up_refl rfl
    · split
      · exact nY w
      · split
        · exact nY w
        · split
          · exact up_refl rfl
          · exact up_refl rfl
          · exact up_refl rfl
          · exact nY w
          · split
            · exact up_refl rfl
            · split
              · exact nY w
              · split
                · exact up_ok' (by assumption) (nY _)
                · exact up_ok' (by assumption) (up_refl rfl)
                · exact up_no' (by assumption) (up_refl rfl)

theorem apply_up (p : Program) (listen : Bool) (fr : Frame) (cs : List Frame) (dy : Option Dying) (s : Sem Next) (w : World) : Up w (stepG.apply p listen fr cs dy s w) := by
  have hr : ∀ r : Result Next, r = (if listen then s.runT p w #[] else (s.run p w, #[])).1 → w.drawn ≤ (rwd r).drawn := by
    intro r hr
    rw [hr]
    split
    · exact runT_up ..
    · exact run_up ..
  simp only [stepG.apply]
  apply up_after
  generalize hx : (if listen then s.runT p w #[] else (s.run p w, #[])).1 = r at *
  have h := hr r rfl
  clear hr hx
  cases r with
  | ok a w' =>
    refine up_trans h ?_
    cases a with
    | callThen d r s b => simp only; split <;> exact up_refl rfl
    | row r a => simp only; split <;> exact up_refl rfl
    | stack r s => simp only; split <;> exact up_refl rfl
    | recover =>
      simp only
      split <;> exact up_refl rfl
    | spawn d => exact up_ite (endThrow_up ..) (up_refl rfl)
    | _ => exact up_refl rfl
  | halt a w' =>
    refine up_trans h ?_
    cases a with
    | fatal m => exact endFatal_up ..
    | throw m => exact endThrow_up ..
    | unsupported u => cases u <;> first | exact early_up .. | exact up_refl rfl
    | _ => exact up_refl rfl

theorem oper_up (p : Program) (listen : Bool) (fr : Frame) (cs : List Frame) (dy : Option Dying) (w : World) : Up w (stepG.oper p listen fr cs dy w) := by
  simp only [stepG.oper]
  split
  · exact up_refl rfl
  · split
    · exact apply_up ..
    · exact apply_up ..

theorem leave_up (p : Program) (main : Bool) (fr : Frame) (cs : List Frame) (dy : Option Dying) (w : World) (jump : Option Code) {g : GStep} (hg : gw g = w) : Up w (match fr.roundOf with
      | none => g
      | some l =>
        let (r, es) := (Instr.endRound l jump).runT p w #[]
        GStep.after (seen p fr.fn es) <| match r with
        | .ok v w => doReturn p main fr cs dy v w
        | .halt _ w => .ended (.stuck "range over a function: no such loop" (fr.pos p)) w) := by
  split
  · exact up_refl hg
  · simp only
    apply up_after
    split
    · exact up_ok (by assumption) (doReturn_up ..)
    · exact up_no (by assumption) (up_refl rfl)

theorem exec_up (p : Program) (main listen : Bool) (fr : Frame) (cs : List Frame) (dy : Option Dying) (w : World) : Up w (stepG.exec p main listen fr cs dy w) := by
  simp only [stepG.exec]
  split
  all_goals first
    | exact up_refl rfl
    | exact apply_up ..
    | exact leave_up p main fr cs dy w none rfl
    | exact leave_up p main fr cs dy w (some .ret) rfl
    | skip
  · split <;> exact up_refl rfl
  · rename_i id k _
    cases exitTo id k with
    | none => exact leave_up p main fr cs dy w (some (.exit id)) rfl
    | some x => exact up_refl rfl
  · rename_i id k _
    cases gotoIn id k with
    | none => exact leave_up p main fr cs dy w (some (.goto id)) rfl
    | some x => exact up_refl rfl
  · apply up_after
    split
    · exact up_ok (by assumption) (apply_up ..)
    · exact up_no (by assumption) (up_refl rfl)
  · apply up_after
    split
    · exact up_ok (by assumption) (up_refl rfl)
    · exact up_no (by assumption) (up_refl rfl)
    · exact up_no (by assumption) (up_refl rfl)
  · rename_i row args k _
    cases Extern.next row with
    | none => exact up_refl rfl
    | some e => exact apply_up ..
  · split
    · exact up_refl rfl
    · split
      · exact up_ok' (by assumption) (up_refl rfl)
      · exact up_no' (by assumption) (up_refl rfl)
  · split
    · exact oper_up ..
    · exact up_refl rfl

theorem stepG_up (p : Program) (main : Bool) (g : Goroutine) (w : World) (listen : Bool) : Up w (stepG p main g w listen) := by
  simp only [stepG]
  split
  · exact die_up ..
  · exact exec_up ..
  · exact unwind_up ..

def sw : Stepped → World → Prop
  | .next m, w => w.drawn ≤ m.world.drawn
  | _, _ => True

theorem look_up (p : Program) (gs : Array Goroutine) (rest : Rest) (w : World) : sw (look p gs rest w) w := by
  simp only [look]
  split
  · split
    · trivial
    · split
      · trivial
      · split
        · rename_i h; have k := run_ok h; exact k
        · trivial
        · trivial
  · trivial

theorem wait_up {rest : Rest} {cases : Array CommCase} {w w' : World} (h : waitingAt rest cases w = some w') : w.drawn ≤ w'.drawn := by
  simp only [waitingAt] at h
  split at h
  · split at h
    · cases h; exact Nat.le_refl _
    · cases h
  · cases h; exact Nat.le_refl _

theorem sw_trans {s : Stepped} {w w' : World} (h : w.drawn ≤ w'.drawn) (k : sw s w') : sw s w := by
  cases s with
  | next m => exact Nat.le_trans h k
  | _ => trivial

theorem comm_up (p : Program) (rest : Rest) (gs : Array Goroutine) (i : Nat) (g : Goroutine) (cases : Array CommCase) (b : Bool) (sh : CommShape) (w : World) : sw (communicate p rest gs i g cases b sh w).1 w := by
  simp only [communicate]
  split
  · trivial
  · split
    · split
      · split
        · rename_i h; have k := wait_up h; exact k
        · trivial
      · exact Nat.le_refl _
    · split
      · trivial
      · rename_i h
        refine sw_trans (run_ok h) ?_
        clear h
        split
        · split
          · rename_i h; have k := run_no h; exact k
          · trivial
        · exact Nat.le_refl _
        · exact Nat.le_refl _
        · split
          · exact Nat.le_refl _
          · split
            · rename_i h; have k := run_ok h; exact k
            · trivial
        · exact Nat.le_refl _
        · exact Nat.le_refl _
        · trivial

theorem drain_up (w : World) (c : Nat) : (drain w c).2.drawn = w.drawn := by
  simp only [drain]; split <;> rfl

theorem retime_up (m : Machine) (k : Nat) (t : Timer) (a b : Nat) : (retime m k t a b).2.world.drawn = m.world.drawn := by
  simp only [retime]
  split
  · exact drain_up ..
  · rfl

theorem named_up {m : Machine} {m0 : Machine} {var : Addr} {f : Nat → Timer → Value × Machine} {r : Value × Machine} (hf : ∀ k t, (f k t).2.world.drawn = m0.world.drawn) (h : timerOp.named m var f = .ok r) : r.2.world.drawn = m0.world.drawn := by
  simp only [timerOp.named] at h
  split at h
  · cases h; exact hf _ _
  · cases h

theorem opened_up {m m' : Machine} {var : Addr} (h : timerOp.opened m var = some m') : m'.world.drawn = m.world.drawn := by
  simp only [timerOp.opened] at h
  split at h
  · split at h
    · cases h; rfl
    · cases h
  · cases h; rfl

theorem timer_up {m : Machine} {op : TimerOp} {r : Value × Machine} (h : timerOp m op = .ok r) : r.2.world.drawn = m.world.drawn := by
  cases op with
  | new t =>
    simp only [timerOp] at h
    split at h
    · cases h; rfl
    · split at h
      · split at h
        · cases h
        · cases h; rfl
      · cases h
  | stop v =>
    simp only [timerOp] at h
    exact named_up (fun k t => retime_up m k t _ _) h
  | reset v a b =>
    simp only [timerOp] at h
    split at h
    · rename_i m' hm
      exact named_up (fun k t => (retime_up m' k t _ _).trans (opened_up hm)) h
    · cases h
  | deadline c r w a =>
    simp only [timerOp] at h
    cases h; rfl

theorem serve_up (p : Program) (m : Machine) (k : Nat) : sw (serve p m k) m.world := by
  simp only [serve]
  split
  · trivial
  · exact Nat.le_refl _
  · split
    · trivial
    · exact Nat.le_refl _

theorem throw_go {fr : Frame} {m : String} {w w' : World} {g : Goroutine} {es : Array Event} (h : endThrow fr m w = .go g w' es) : w.drawn ≤ w'.drawn := by
  have k := endThrow_up fr m w
  rw [h] at k; exact k

theorem runS_up (p : Program) (m : Machine) (i : Nat) (listen : Bool) : sw (runT p m i listen).1 m.world := by
  have hu := stepG_up p (i == 0) (m.gs.swapAt! i { (default : Goroutine) with status := .finished }).1 m.world listen
  simp only [runT]
  generalize hs : stepG p (i == 0) (m.gs.swapAt! i { (default : Goroutine) with status := .finished }).1 m.world listen = s at hu ⊢
  clear hs
  cases s with
  | ended o w es => trivial
  | comm g cs b sh w es => exact sw_trans hu (comm_up ..)
  | go g w es => exact hu
  | spawn g c w es => exact hu
  | count g w es =>
    simp only
    split
    · trivial
    · exact hu
  | alone g on w es => exact hu
  | collect g w es => exact sw_trans hu (look_up ..)
  | watch g w es => exact hu
  | newcoro g c d w es => exact hu
  | coroswitch g c e w es =>
    refine sw_trans hu ?_
    simp only [gw]
    split
    · exact Nat.le_refl _
    · split
      · rename_i h; have k := throw_go h; exact k
      · trivial
    · trivial
  | timer g op w es =>
    refine sw_trans hu ?_
    simp only [gw]
    split
    · rename_i h; have k := timer_up h; exact Nat.le_of_eq k.symm
    · split
      · rename_i h; have k := throw_go h; exact k
      · trivial
    · trivial
    · trivial

def mw : Move → World → Prop
  | .goroutine m _, w => w.drawn ≤ m.world.drawn
  | .machine s _, w => sw s w

theorem mw_trans {s : Move} {w w' : World} (h : w.drawn ≤ w'.drawn) (k : mw s w') : mw s w := by
  cases s with
  | goroutine m i => exact Nat.le_trans h k
  | machine s => exact sw_trans h k

theorem pick_up (p : Program) (rs : List Nat) (m : Machine) : mw (match (choose (.sched rs.length)).run p m.world with
      | .halt _ w => .machine (.ended (.stuck "sched" "") w)
      | .ok k world =>
        if rs.length ≤ 1 then .goroutine { m with world } (rs.getD k 0) else
        match (choose (.extern "sched.slice" 65536)).run p world with
        | .halt _ w => .machine (.ended (.stuck "sched.slice" "") w)
        | .ok n world => .goroutine { m with world, rest := { m.rest with slice := if n = 0 then none else some (rs.getD k 0, n) } } (rs.getD k 0)) m.world := by
  split
  · trivial
  · rename_i h
    have k := run_ok h
    split
    · exact k
    · split
      · trivial
      · rename_i h2; exact Nat.le_trans k (run_ok h2)

theorem askOn_up (p : Program) (m : Machine) : mw (askOn p m) m.world := by
  simp only [askOn]
  split
  · trivial
  · rename_i w1 h
    have k := run_ok h
    split
    · exact sw_trans k (serve_up p { m with world := w1 } _)
    · split
      · split
        · exact k
        · split
          · exact k
          · split
            · trivial
            · trivial
      · split
        · exact mw_trans k (pick_up p _ { m with world := w1 })
        · split
          · trivial
          · rename_i w2 h2; exact mw_trans (Nat.le_trans k (run_ok h2)) (pick_up p _ { m with world := w2 })
          · rename_i w2 h2; have l := run_ok h2; exact Nat.le_trans k l
          · rename_i t _ _ j w2 h2
            have r := run_ok h2
            refine mw_trans (w' := (Machine.advanceTo { m with world := w2 } (t - (j + 1))).world) (Nat.le_trans k r) ?_
            have l := pick_up p (runnable m.gs m.world.os.mono) (Machine.advanceTo { m with world := w2 } (t - (j + 1)))
            exact l

theorem ask_up2 (p : Program) (m : Machine) : mw (ask p m) m.world := by
  simp only [ask]
  split
  · split
    · trivial
    · rename_i w1 h
      have k := run_ok h
      have l := look_up p m.gs m.rest w1
      split
      · rename_i h2
        rw [h2] at l
        exact mw_trans (Nat.le_trans k l) (askOn_up ..)
      · exact sw_trans k l
    · rename_i h
      have k := run_ok h
      exact mw_trans k (askOn_up p { m with world := _ })
  · exact askOn_up ..

theorem move_up (p : Program) (m : Machine) : mw (move p m) m.world := by
  simp only [move]
  split
  · split
    · exact Nat.le_refl _
    · trivial
  · split
    · split
      · exact Nat.le_refl _
      · exact ask_up2 p { m with rest := _ }
    · exact ask_up2 ..

theorem step_up {p : Program} {m m' : Machine} (h : step p m = .next m') : m.world.drawn ≤ m'.world.drawn := by
  have k := move_up p m
  simp only [step, stepT] at h
  split at h
  · rename_i m1 i h1
    rw [h1] at k
    have l := runS_up p m1 i true
    rw [h] at l
    exact Nat.le_trans k l
  · rename_i s ops h1
    rw [h1] at k
    simp only at h
    subst h
    exact k

theorem steps_up {p : Program} {m m' : Machine} (h : Steps p m m') : m.world.drawn ≤ m'.world.drawn := by
  obtain ⟨n, hn⟩ := h
  induction n generalizing m with
  | zero => simp only [runN] at hn; cases hn; exact Nat.le_refl _
  | succ n ih =>
    simp only [runN] at hn
    split at hn
    · rename_i m1 h1
      exact Nat.le_trans (step_up h1) (ih hn)
    · rename_i h1
      exact absurd hn (h1 _)

/-- A call never lowers the number of what was drawn. -/
theorem calls_up {P : Program} {f : FuncId} {args : Array Value} {w : World} {R : Ending → World → Prop} (h : Calls P f args w R) :
    Calls P f args w fun e w' => R e w' ∧ (e ≠ .outgrown → w.drawn ≤ w'.drawn) := by
  intro cs
  obtain ⟨e, w', fr, hr, hc, hf, hl⟩ := h cs
  refine ⟨e, w', fr, ⟨hr, ?_⟩, hc, hf, hl⟩
  intro hne
  cases e with
  | returned v => exact steps_up hc
  | panicked c => exact steps_up hc
  | outgrown => exact absurd rfl hne
end Go.Proofs.YtkbcgcempchoaaaDoor.Up
namespace Go.Proofs.YtkbcgcempchoaaaDoor
open Go Go.Sort Go.RowKit

/-- What a call leaves that turned nothing old: the world, more drawn, and blocks behind. -/
theorem drewn_of_below {w w' : World} (h : Below w.heap.size w w') (hd : w.drawn ≤ w'.drawn) : ∃ (q : Nat) (os : Array Obj), w' = grow (w.drewN q) os := by
  obtain ⟨p, hp⟩ := regrown_of_below h
  refine ⟨p.d - w.drawn, p.os, ?_⟩
  have e : w'.drawn = p.d := by rw [hp]; rfl
  rw [hp]
  unfold World.drewN redrawn
  rw [show w.drawn + (p.d - w.drawn) = p.d by omega]

theorem calls_grown {P : Program} {f : FuncId} {args : Array Value} {w : World} {v : Value} (h : Calls P f args w fun e w' => e = .returned v ∧ Below w.heap.size w w') :
    Calls P f args w fun e w' => e = .returned v ∧ ∃ (q : Nat) (os : Array Obj), w' = grow (w.drewN q) os :=
  (Up.calls_up h).mono fun _ _ ⟨⟨he, hb⟩, hu⟩ => ⟨he, drewn_of_below hb (hu (by rw [he]; intro h; cases h))⟩
end Go.Proofs.YtkbcgcempchoaaaDoor

set_option linter.unusedSimpArgs false
namespace Go.Proofs.YtkbcgcempchoaaaDoor
open Go.RowKit Go.Lib

theorem compare_any (a b : Int) (w : World) :
    Calls Tryd.prog 71 #[.int .i32 a, .int .i32 b] w fun e w' => e = .returned (.int .i64 (cmp3 a b)) ∧ w' = w := by
  go_enter Tryd.func71, Tryd.ntmps71
  go_wp2
  all_goals go_ret
  all_goals exact ⟨ret_int (by unfold cmp3; simp_all; try omega), rfl⟩

set_option maxHeartbeats 1000000 in
theorem order_any (s t : ByteArray) (w : World) (hT : Tabs w) :
    Calls Tryd.prog 48 #[.string s, .string t] w fun e w' => e = .returned (.int .i64 (ordI s t)) ∧ Below w.heap.size w w' := by

  go_enter Tryd.func48, Tryd.ntmps48
  go_wp2
  go_loopw [1] (fun c w' => ∃ (pos f : Nat) (t' : ByteArray), It w s pos w' ∧ c = .string t' ∧ t'.size ≤ t.size ∧ Hid (cmpL (runesFrom s f pos) (rl t') = ordI s t) ∧ s.size ≤ pos + f) (fun _ w' => s.size - w'.iterPos w.heap.size)
  case atStart => exact ⟨0, s.size, t, It.start w s, rfl, Nat.le_refl _, rfl, by omega⟩
  case round =>
    obtain ⟨pos, f, t', hI, rfl, hle, HN, hf⟩ := hrel
    have hm := hI.pos
    by_cases hp : pos < s.size
    · have hnx : ∀ ty, (Instr.next (.pointer (some ⟨w.heap.size, 0, none⟩)) true ty).run Tryd.prog wr = _ := fun ty => run_next_any_at wr w.heap.size s pos ty hI.at_ hp
      obtain ⟨f, rfl⟩ : ∃ g, f = g + 1 := ⟨f - 1, by omega⟩
      have hw := width_pos s pos hp
      have HX := runesFrom_cons s f pos hp
      generalize (Utf8.decode s pos).2 = v at *
      generalize ((Utf8.decode s pos).1 : Int) = r at *
      have hI1 := hI.next (pos + v)
      have hT1 := (hI1.tabs hT)
      have HY : Hid (runesFrom s (f + 1) pos = r :: runesFrom s f (pos + v)) := HX
      clear HX
      by_cases h0 : t'.size = 0
      · have he := empty_yes t' h0
        go_wp2
        go_ret
        exact ⟨ret_int (by rw [← HN.out, HY.out, rl_nil t' h0]; rfl), hI1.below⟩
      · have he := empty_no t' h0
        have hd := width_pos t' 0 (by omega)
        have hd2 := dec_le t' 0 (by omega)
        have HC := rl_cons t' h0
        rw [← decGo t' h0] at hd hd2
        have cF : Hid (∀ W, Tabs W → Calls Tryd.prog 72 #[.string t'] W fun e w' => e = .returned (.int .i32 (decodeGo t').1) ∧ Below W.heap.size W w') := first_any t'
        have cW : Hid (∀ W, Tabs W → Calls Tryd.prog 73 #[.string t'] W fun e w' => e = .returned (.int .i64 (decodeGo t').2) ∧ Below W.heap.size W w') := width_any t'
        have HD : Hid (rl t' = ((decodeGo t').1 : Int) :: rl (t'.extract (decodeGo t').2 t'.size)) := HC
        clear HC
        generalize (decodeGo t').2 = k at *
        generalize ((decodeGo t').1 : Int) = q at *
        cases hc : (cmp3 r q == 0)
        · have hc' : (cmp3 r q != 0) = true := by simpa using hc
          have hc2 : ¬ cmp3 r q = 0 := by simpa using hc
          have HC2 : Hid (¬ cmp3 r q = 0) := hc2
          clear hc2
          go_wp2_with (first | (go_at_call 72; refine (cF.out _ hT1).mono ?_; rintro e w2 ⟨rfl, hb2⟩) | (go_at_call 71; refine (compare_any _ _ _).mono ?_; rintro e w3 ⟨rfl, hw3⟩; obtain rfl := hw3.symm))
          go_ret
          exact ⟨ret_int (by rw [← HN.out, HY.out, HD.out, cmpL, if_neg HC2.out]), (hI1.call hb2).below⟩
        · have hc' : (cmp3 r q != 0) = false := by simpa using hc
          have hc2 : cmp3 r q = 0 := by simpa using hc
          have HC2 : Hid (cmp3 r q = 0) := hc2
          clear hc2
          have hk : (k : Int) ≤ (t'.size : Int) := by omega
          go_wp2_with (first | (go_at_call 72; refine (cF.out _ hT1).mono ?_; rintro e w2 ⟨rfl, hb2⟩; have hT2 := hT1.below hb2) | (go_at_call 71; refine (compare_any _ _ _).mono ?_; rintro e w3 ⟨rfl, hw3⟩; obtain rfl := hw3.symm) | (go_at_call 73; refine (cW.out _ hT2).mono ?_; rintro e w4 ⟨rfl, hb4⟩))
          have hI4 := (hI1.call hb2).call hb4
          refine ⟨⟨pos + v, f, _, hI4, rfl, by rw [tail_size]; omega, ?_, by omega⟩, ?_⟩
          · show cmpL (runesFrom s f (pos + v)) (rl (t'.extract k t'.size)) = ordI s t
            rw [← HN.out, HY.out, HD.out, cmpL, if_pos HC2.out]
          · rw [hI4.pos, hm]; omega
    · have hnx : ∀ ty, (Instr.next (.pointer (some ⟨w.heap.size, 0, none⟩)) true ty).run Tryd.prog wr = _ := fun ty => run_next_end_at wr w.heap.size s pos ty hI.at_ hp
      by_cases h0 : t'.size = 0
      · have he := empty_yes t' h0
        go_wp2
        go_ret
        exact ⟨ret_int (by rw [← HN.out, runesFrom_end s f pos hp, rl_nil t' h0]; rfl), hI.below⟩
      · have he := empty_no t' h0
        go_wp2
        go_ret
        exact ⟨ret_int (by rw [← HN.out, runesFrom_end s f pos hp, rl_cons t' h0]; rfl), hI.below⟩
end Go.Proofs.YtkbcgcempchoaaaDoor
