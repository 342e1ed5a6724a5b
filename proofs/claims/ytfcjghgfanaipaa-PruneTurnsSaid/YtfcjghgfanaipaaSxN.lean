/-
  The calculus (SxA): what is walked outside a round of a range over a function holds in one, where nothing is deferred.
-/
import Derived.OrdersIn
import Derived.LoopNIn
import Derived.RangeFuncCalls
namespace Go.Sx
open Go

/-- Any function, any depth; in a round of a loop, or in none. -/
def rnd (ro : Option Nat) : Fence := { Fence.wide with round := ro }

def defers (o : Op) : Bool := match o with | .defer _ => true | _ => false

/-- Nothing is deferred. -/
def noDef : Code → Bool
  | .region _ ops _ => ops.all fun o => !defers o.op
  | .seq a b | .cond _ a b => noDef a && noDef b
  | .rangeFunc _ _ _ _ => false
  | .block _ c | .loop c | .scope c => noDef c
  | _ => true

section
variable {P : Program} {ro : Option Nat} {n : Nat} {Q : Exit → Act → World → Prop}

theorem sem_rnd {o : Oper} (h : ro = none ∨ defers o.op = false) (ρ : Operand → Value) : Oper.semAt ro ρ o = execOp ρ o := by
  rcases h with rfl | h
  · rfl
  · exact Oper.semAt_eq _ _ _ fun c hc => by rw [hc] at h; cases h

theorem noDepth : ¬ (rnd ro).depth.isSome = true := by simp [rnd, Fence.wide]

theorem op_rnd {o : Oper} (hd : ro = none ∨ defers o.op = false) {a : Act} {w : World} {K K' : Act → World → Prop} (hK : ∀ a w, K a w → K' a w) (h : o.wp P a w K Q) : o.wpIn (rnd ro) n P a w K' Q := by
  unfold Oper.wp at h
  refine ⟨fun _ _ => trivial, ?_⟩
  show o.uponIn (rnd ro) n P a K' Q ((o.semAt ro a.eval).run P w)
  rw [sem_rnd hd]
  generalize (execOp a.eval o).run P w = r at h
  cases r with
  | ok x w' =>
    cases x with
    | value v => exact hK _ _ h
    | skip => exact hK _ _ h
    | defer d => exact hK _ _ h
    | enter f args =>
      refine ⟨fun e => absurd e noDepth, (callsIn_wide (n := n - 1)).2 (Calls.mono h fun e w'' he => ?_)⟩
      cases e with
      | returned v => exact hK _ _ he
      | panicked c => exact he
      | outgrown => exact he
    | row row args => exact ⟨fun e => absurd e noDepth, fun c cs _ => let ⟨v, w', r, s⟩ := h c cs; ⟨v, w', hK _ _ r, stepsIn_wide.2 s⟩⟩
    | _ => exact h.elim
  | halt x w' => cases x <;> exact h

theorem wpOp_rnd {ops : Array Oper} (hd : ro = none ∨ (ops.all fun o => !defers o.op) = true) (hO : ¬ LetsOut Q) {i : Nat} {a : Act} {w : World} {K K' : Act → World → Prop} (hK : ∀ a w, K a w → K' a w) (h : wpOp P ops Q i K a w) : wpOpIn (rnd ro) n P ops Q i K' a w := by
  unfold wpOp at h
  unfold wpOpIn
  cases ho : ops[i]? with
  | none =>
    rw [ho] at h
    exact hK _ _ h
  | some o =>
    rw [ho] at h
    have hdo : ro = none ∨ defers o.op = false := hd.imp id fun hall => by
      obtain ⟨hlt, rfl⟩ := Array.getElem?_eq_some_iff.1 ho
      have := Array.all_eq_true.1 hall i hlt
      simpa using this
    by_cases hw : Region.wanted o (yielded ops a.tmps) = true
    · simp only [hw, if_true] at h ⊢
      exact op_rnd hdo hK (h.resolve_right fun hx => hO hx.2)
    · simp only [hw] at h ⊢
      exact ⟨fun _ _ => trivial, hK _ _ h⟩

theorem wpOps_rnd {ops : Array Oper} (hd : ro = none ∨ (ops.all fun o => !defers o.op) = true) (hO : ¬ LetsOut Q) : ∀ (l : List Nat) (a : Act) (w : World), wpOps P ops Q l a w → wpOpsIn (rnd ro) n P ops Q l a w
  | [], _, _, h => h
  | i :: l, a, w, h => by
    rw [wpOps_cons] at h
    rw [wpOpsIn_cons]
    exact wpOp_rnd hd hO (wpOps_rnd hd hO l) h

theorem wpAny_rnd {ops : Array Oper} {md : Region.Mode} (hd : ro = none ∨ (ops.all fun o => !defers o.op) = true) (hO : ¬ LetsOut Q) : ∀ (fuel : Nat) (listed : Array Bool) (a : Act) (w : World), wpAny P md ops Q fuel listed a w → wpAnyIn (rnd ro) n P md ops Q fuel listed a w
  | 0, _, _, _, h => h
  | fuel + 1, listed, _, _, h => ⟨h.1, fun i hi => wpOp_rnd hd hO (wpAny_rnd hd hO fuel (listed.setIfInBounds i true)) (h.2 i hi)⟩

end
end Go.Sx
