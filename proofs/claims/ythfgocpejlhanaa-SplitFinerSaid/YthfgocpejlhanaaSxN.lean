/-
  The calculus (SxA): what is walked outside a round of a range over a function holds in one, where nothing is deferred.
-/
import Derived.OrdersIn
import Derived.LoopNIn
import Derived.RangeFuncCalls
import Derived.Scope
namespace Go.Sx
open Go

/-- Any function, any depth; in a round of a loop, or in none. -/
def rnd (ro : Option Nat) : Fence := { Fence.wide with round := ro }

def defers (o : Op) : Bool := match o with | .defer _ => true | _ => false

/-- Nothing is deferred. -/
def noDef : Code → Bool
  | .region _ ops _ => ops.all fun o => !defers o.op
  | .seq a b | .cond _ a b => noDef a && noDef b
  | .rangeFunc _ _ _ _ => false
  | .block _ c | .loop c | .scope c => noDef c
  | _ => true

section
variable {P : Program} {ro : Option Nat} {n : Nat} {Q : Exit → Act → World → Prop}

theorem sem_rnd {o : Oper} (h : ro = none ∨ defers o.op = false) (ρ : Operand → Value) : Oper.semAt ro ρ o = execOp ρ o := by
  rcases h with rfl | h
  · rfl
  · exact Oper.semAt_eq _ _ _ fun c hc => by rw [hc] at h; cases h

theorem noDepth : ¬ (rnd ro).depth.isSome = true := by simp [rnd, Fence.wide]

theorem op_rnd {o : Oper} (hd : ro = none ∨ defers o.op = false) {a : Act} {w : World} {K K' : Act → World → Prop} (hK : ∀ a w, K a w → K' a w) (h : o.wp P a w K Q) : o.wpIn (rnd ro) n P a w K' Q := by
  unfold Oper.wp at h
  refine ⟨fun _ _ => trivial, ?_⟩
  show o.uponIn (rnd ro) n P a K' Q ((o.semAt ro a.eval).run P w)
  rw [sem_rnd hd]
  generalize (execOp a.eval o).run P w = r at h
  cases r with
  | ok x w' =>
    cases x with
    | value v => exact hK _ _ h
    | skip => exact hK _ _ h
    | defer d => exact hK _ _ h
    | enter f args =>
      refine ⟨fun e => absurd e noDepth, (callsIn_wide (n := n - 1)).2 (Calls.mono h fun e w'' he => ?_)⟩
      cases e with
      | returned v => exact hK _ _ he
      | panicked c => exact he
      | outgrown => exact he
    | row row args => exact ⟨fun e => absurd e noDepth, fun c cs _ => let ⟨v, w', r, s⟩ := h c cs; ⟨v, w', hK _ _ r, stepsIn_wide.2 s⟩⟩
    | _ => exact h.elim
  | halt x w' => cases x <;> exact h

theorem wpOp_rnd {ops : Array Oper} (hd : ro = none ∨ (ops.all fun o => !defers o.op) = true) (hO : ¬ LetsOut Q) {i : Nat} {a : Act} {w : World} {K K' : Act → World → Prop} (hK : ∀ a w, K a w → K' a w) (h : wpOp P ops Q i K a w) : wpOpIn (rnd ro) n P ops Q i K' a w := by
  unfold wpOp at h
  unfold wpOpIn
  cases ho : ops[i]? with
  | none =>
    rw [ho] at h
    exact hK _ _ h
  | some o =>
    rw [ho] at h
    have hdo : ro = none ∨ defers o.op = false := hd.imp id fun hall => by
      obtain ⟨hlt, rfl⟩ := Array.getElem?_eq_some_iff.1 ho
      have := Array.all_eq_true.1 hall i hlt
      simpa using this
    by_cases hw : Region.wanted o (yielded ops a.tmps) = true
    · simp only [hw, if_true] at h ⊢
      exact op_rnd hdo hK (h.resolve_right fun hx => hO hx.2)
    · simp only [hw] at h ⊢
      exact ⟨fun _ _ => trivial, hK _ _ h⟩

theorem wpOps_rnd {ops : Array Oper} (hd : ro = none ∨ (ops.all fun o => !defers o.op) = true) (hO : ¬ LetsOut Q) : ∀ (l : List Nat) (a : Act) (w : World), wpOps P ops Q l a w → wpOpsIn (rnd ro) n P ops Q l a w
  | [], _, _, h => h
  | i :: l, a, w, h => by
    rw [wpOps_cons] at h
    rw [wpOpsIn_cons]
    exact wpOp_rnd hd hO (wpOps_rnd hd hO l) h

theorem wpAny_rnd {ops : Array Oper} {md : Region.Mode} (hd : ro = none ∨ (ops.all fun o => !defers o.op) = true) (hO : ¬ LetsOut Q) : ∀ (fuel : Nat) (listed : Array Bool) (a : Act) (w : World), wpAny P md ops Q fuel listed a w → wpAnyIn (rnd ro) n P md ops Q fuel listed a w
  | 0, _, _, _, h => h
  | fuel + 1, listed, _, _, h => ⟨h.1, fun i hi => wpOp_rnd hd hO (wpAny_rnd hd hO fuel (listed.setIfInBounds i true)) (h.2 i hi)⟩

end
section
variable {P : Program} {F : Fence} {n : Nat} {Q : Exit → Act → World → Prop} {b : Frame} {a : Act} {k : List Item} {cs : List Frame} {w : World}

theorem stepR_scope {c : Code} : step P (lone (b.atR a (.code (.scope c) :: k)) cs w) = .next (lone (b.atR a (.code c :: .inScope c :: k)) cs w) :=
  step_lone_go (by simp [stepG, stepG.exec, Frame.atR])

theorem stepR_inScope {c : Code} : step P (lone (b.atR a (.inScope c :: k)) cs w) = .next (lone (b.atR a k) cs w) :=
  step_lone_go (by simp [stepG, stepG.exec, Frame.atR])

/-- Passes through a scope: at most so many, each but the first from a label. -/
def passesIn (F : Fence) (n : Nat) (P : Program) (body : Code) (Q : Exit → Act → World → Prop) : Nat → Code → Act → World → Prop
  | 0, _, _, _ => False
  | m + 1, c, a, w => c.wpIn F n P (fun e a w => match e with
      | .goto l => ∃ d, findLabel body l = some d ∧ passesIn F n P body Q m d a w
      | e => Q e a w) a w

theorem wpIn_scope {body : Code} (m : Nat) (h : passesIn F n P body Q m body a w) : (Code.scope body).wpIn F n P Q a w := by
  intro b k cs hro hb hr
  have key : ∀ m c a w, passesIn F n P body Q m c a w →
      ∃ e a' w', Q e a' w' ∧ ArrivesIn (Machine.fenced P F) P (lone (b.atR a (.code c :: .inScope body :: k)) cs w) b k cs e a' w' := by
    intro m
    induction m with
    | zero => intro c a w h; exact h.elim
    | succ m ih =>
      intro c a w h
      obtain ⟨e, a₁, w₁, hq, harr⟩ := h b (.inScope body :: k) cs hro hb hr
      cases e with
      | normal => exact ⟨.normal, a₁, w₁, hq, StepsIn.trans harr (.one (fenced_calm hb hr rfl) stepR_inScope)⟩
      | exit id => exact ⟨.exit id, a₁, w₁, hq, fun k' hk => harr.1 k' (by simp [exitTo, hk]), fun hr' hk => harr.2 hr' (by simp [exitTo, hk])⟩
      | goto l =>
        obtain ⟨d, hd, hp⟩ := hq
        obtain ⟨e₂, a₂, w₂, hq₂, harr₂⟩ := ih d a₁ w₁ hp
        exact ⟨e₂, a₂, w₂, hq₂, .of_steps (harr.1 _ (by simp [gotoIn, hd])) harr₂⟩
      | ret => exact ⟨_, a₁, w₁, hq, harr⟩
      | panic ch => exact ⟨_, a₁, w₁, hq, harr⟩
      | outgrown => exact ⟨_, a₁, w₁, hq, harr⟩
  obtain ⟨e, a', w', hq, harr⟩ := key m body a w h
  exact ⟨e, a', w', hq, .of_steps (.one (fenced_calm hb hr rfl) stepR_scope) harr⟩

end
end Go.Sx
