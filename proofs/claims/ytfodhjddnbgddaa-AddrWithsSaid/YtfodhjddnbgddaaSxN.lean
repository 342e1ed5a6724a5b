/-
  The calculus (SxA): a function's loops, each by a way of its own.
-/
import Derived.Test.YtfodhjddnbgddaaSxK
namespace Go.Sx
open Go.RowKit

/-- A way to deal with a loop. -/
abbrev LH := Code → St → List Hint → (Ex → St → List Hint → Prop) → Prop

def evG (C : Call) (P : Program) (n0 : Nat) : Code → St → List Hint → List LH → (Ex → St → List Hint → List LH → Prop) → Prop
  | .skip, st, hs, Ls, K => K .normal st hs Ls
  | .label _, st, hs, Ls, K => K .normal st hs Ls
  | .region _ ops draw, st, hs, Ls, K => evRegion C P ops draw st hs fun st hs => K .normal st hs Ls
  | .seq a b, st, hs, Ls, K => evG C P n0 a st hs Ls fun e st hs Ls => match e with
    | .normal => evG C P n0 b st hs Ls K
    | e => K e st hs Ls
  | .cond c a b, st, hs, Ls, K => test (st.op c) hs fun p hs => match p with
    | true => evG C P n0 a st hs Ls K
    | false => evG C P n0 b st hs Ls K
  | .block id body, st, hs, Ls, K => evG C P n0 body st hs Ls fun e st hs Ls => match e with
    | .exit id' => match decide (id' = id) with
      | true => K .normal st hs Ls
      | false => K (.exit id') st hs Ls
    | e => K e st hs Ls
  | .loop body, st, hs, Ls, K => match Ls with
    | L :: Ls => L body st hs fun e st hs => K e st hs Ls
    | [] => False
  | .exit id, st, hs, Ls, K => K (.exit id) st hs Ls
  | .ret, st, hs, Ls, K => K .ret st hs Ls
  | _, _, _, _, _ => False

def evFnG (Ls : List LH) (C : Call) (P : Program) : Call := fun f args h hs K =>
  match P.funcs[f]? with
  | none => False
  | some fn => match fn.body with
    | none => False
    | some c => match decide (args.length ≤ fn.ntmps) with
      | false => False
      | true => evG C P h.length c ⟨args ++ List.replicate (fn.ntmps - args.length) (.lit undef), h⟩ hs Ls fun e st hs _ => match e with
        | .exit _ => False
        | _ => match resAll P st fn.results.toList with
          | some v => K v st.h hs
          | none => False

/-- The loop is done with; it has come to this. -/
def passed (e : Ex) (st : St) (hs : List Hint) : LH := fun _ _ _ K => K e st hs

/-- As the calculus deals with it. -/
def std (C : Call) (P : Program) (n0 : Nat) : LH := fun body st hs K => ev C P n0 (.loop body) st hs K

/-- The loops of a piece of code, in order. -/
def loopsOf : Code → List Code
  | .seq a b => loopsOf a ++ loopsOf b
  | .cond _ a b => loopsOf a ++ loopsOf b
  | .block _ b => loopsOf b
  | .loop b => [b]
  | _ => []

/-- Loop number n of function f. -/
def bodyOf (P : Program) (f : FuncId) (n : Nat) : Code :=
  match P.funcs[f]? with
  | some fn => match fn.body with
    | some c => match (loopsOf c)[n]? with | some b => b | none => .skip
    | none => .skip
  | none => .skip

section
variable {P : Program}

def LOK (P : Program) (n0 : Nat) (L : LH) : Prop := ∀ (body : Code) (st : St) (hs : List Hint) (K : Ex → St → List Hint → Prop), L body st hs K → ∀ {B : Nat} {ρ0 ρ1 : List Loc} {a : Act} {w : World},
  ρ0.length = n0 → HpR B (ρ0 ++ ρ1) st.h w → TmpsR (ρ0 ++ ρ1) st.t a → (Code.loop body).wp P (LeftE ρ0 B w a.defers K) a w

theorem std_ok {C : Call} (hC : COK P false C) (hm : P.follows .mixedOrders = true) (n0 : Nat) : LOK P n0 (std C P n0) :=
  fun body _ _ _ h _ _ _ _ _ hl hH hT => ev_sound hC hm (.loop body) hl h hH hT

theorem evG_sound {C : Call} (hC : COK P false C) (hm : P.follows .mixedOrders = true) {n0 : Nat} : ∀ (c : Code) {B : Nat} {ρ0 ρ1 : List Loc} {st : St} {hs : List Hint} {Ls : List LH} {K : Ex → St → List Hint → List LH → Prop} {a : Act} {w : World},
    ρ0.length = n0 → (∀ L ∈ Ls, LOK P n0 L) → evG C P n0 c st hs Ls K → HpR B (ρ0 ++ ρ1) st.h w → TmpsR (ρ0 ++ ρ1) st.t a → c.wp P (LeftE ρ0 B w a.defers (fun e st hs => ∃ Ls', (∀ L ∈ Ls', LOK P n0 L) ∧ K e st hs Ls')) a w := by
  intro c
  induction c with
  | skip => intro B ρ0 ρ1 st hs Ls K a w hl hLs h hH hT; exact wp_skip ⟨.normal, ρ1, st, hs, trivial, ⟨Ls, hLs, h⟩, hT, hH, rfl, Below.refl _ _⟩
  | label l => intro B ρ0 ρ1 st hs Ls K a w hl hLs h hH hT; exact wp_label ⟨.normal, ρ1, st, hs, trivial, ⟨Ls, hLs, h⟩, hT, hH, rfl, Below.refl _ _⟩
  | ret => intro B ρ0 ρ1 st hs Ls K a w hl hLs h hH hT; exact wp_ret ⟨.ret, ρ1, st, hs, trivial, ⟨Ls, hLs, h⟩, hT, hH, rfl, Below.refl _ _⟩
  | exit id => intro B ρ0 ρ1 st hs Ls K a w hl hLs h hH hT; exact wp_exit ⟨.exit id, ρ1, st, hs, rfl, ⟨Ls, hLs, h⟩, hT, hH, rfl, Below.refl _ _⟩
  | region id ops draw =>
    intro B ρ0 ρ1 st hs Ls K a w hl hLs h hH hT
    refine evRegion_sound (K := fun st hs => K .normal st hs Ls) hC hm h hH hT (fun c a w hx => ?_) fun a' w' hx => ?_
    · obtain ⟨x, _, _, _, he, _⟩ := hx; cases x <;> exact he
    · obtain ⟨ρ', st', hs', k, t, hh, d, b, _⟩ := hx
      exact ⟨.normal, ρ1 ++ ρ', st', hs', trivial, ⟨Ls, hLs, k⟩, by simpa using t, by simpa using hh, d, b⟩
  | seq x y ihx ihy =>
    intro B ρ0 ρ1 st hs Ls K a w hl hLs h hH hT
    refine wp_seq (wp_mono (ihx hl hLs h hH hT) fun e a' w' he => ?_)
    obtain ⟨x', ρ1', st', hs', hex, ⟨Ls', hLs', hk⟩, hT', hH', hd, hb⟩ := he
    cases e with
    | normal =>
      cases x' with
      | normal =>
        have := ihy hl hLs' hk hH' hT'
        exact wp_mono this fun e2 a2 w2 h2 => (by rw [hd] at h2; exact h2.below hb)
      | exit _ => exact hex.elim
      | ret => exact hex.elim
    | exit i => cases x' with
      | exit j => exact ⟨.exit j, ρ1', st', hs', hex, ⟨Ls', hLs', hk⟩, hT', hH', hd, hb⟩
      | normal => exact hex.elim
      | ret => exact hex.elim
    | ret => cases x' with
      | ret => exact ⟨.ret, ρ1', st', hs', hex, ⟨Ls', hLs', hk⟩, hT', hH', hd, hb⟩
      | normal => exact hex.elim
      | exit _ => exact hex.elim
    | goto l => cases x' <;> exact hex.elim
    | panic c => cases x' <;> exact hex.elim
    | outgrown => cases x' <;> exact hex.elim
  | cond c x y ihx ihy =>
    intro B ρ0 ρ1 st hs Ls K a w hl hLs h hH hT
    obtain ⟨s, p, hs', hb, hk⟩ := test_iff h
    have hc := asBool_rel (hT.op c) hb
    cases p with
    | true => exact wp_cond_true hc (ihx hl hLs hk hH hT)
    | false => exact wp_cond_false hc (ihy hl hLs hk hH hT)
  | block id body ih =>
    intro B ρ0 ρ1 st hs Ls K a w hl hLs h hH hT
    refine wp_block (wp_mono (ih hl hLs h hH hT) fun e a' w' he => ?_)
    obtain ⟨x', ρ1', st', hs', hex, ⟨Ls', hLs', hk⟩, hT', hH', hd, hb⟩ := he
    cases e with
    | normal => cases x' with
      | normal => exact ⟨.normal, ρ1', st', hs', hex, ⟨Ls', hLs', hk⟩, hT', hH', hd, hb⟩
      | exit _ => exact hex.elim
      | ret => exact hex.elim
    | exit i => cases x' with
      | exit j =>
        have hij : i = j := hex
        subst hij
        dsimp only at hk
        show (if i = id then _ else _)
        split at hk
        · rename_i hd'; rw [if_pos (of_decide_eq_true hd')]; exact ⟨.normal, ρ1', st', hs', trivial, ⟨Ls', hLs', hk⟩, hT', hH', hd, hb⟩
        · rename_i hd'; rw [if_neg (of_decide_eq_false hd')]; exact ⟨.exit i, ρ1', st', hs', rfl, ⟨Ls', hLs', hk⟩, hT', hH', hd, hb⟩
      | normal => exact hex.elim
      | ret => exact hex.elim
    | ret => cases x' with
      | ret => exact ⟨.ret, ρ1', st', hs', hex, ⟨Ls', hLs', hk⟩, hT', hH', hd, hb⟩
      | normal => exact hex.elim
      | exit _ => exact hex.elim
    | goto l => cases x' <;> exact hex.elim
    | panic c => cases x' <;> exact hex.elim
    | outgrown => cases x' <;> exact hex.elim
  | loop body ih =>
    intro B ρ0 ρ1 st hs Ls K a w hl hLs h hH hT
    unfold evG at h
    split at h
    · rename_i L Ls'
      refine wp_mono (hLs L (by simp) body st hs _ h hl hH hT) fun e a' w' he => ?_
      obtain ⟨x', ρ1', st', hs', hex, hk, rest⟩ := he
      exact ⟨x', ρ1', st', hs', hex, ⟨Ls', fun L' hL' => hLs L' (by simp [hL']), hk⟩, rest⟩
    · exact h.elim
  | rangeFunc f ps x y _ _ => intro B ρ0 ρ1 st hs Ls K a w hl hLs h; exact h.elim
  | scope b _ => intro B ρ0 ρ1 st hs Ls K a w hl hLs h; exact h.elim
  | goto l => intro B ρ0 ρ1 st hs Ls K a w hl hLs h; exact h.elim
  | refuse r => intro B ρ0 ρ1 st hs Ls K a w hl hLs h; exact h.elim


/-- A call whose loops are dealt with one by one. -/
def loopy (C : Call) (P : Program) : Call := fun f args h hs K => ∃ Ls, (∀ L ∈ Ls, LOK P h.length L) ∧ evFnG Ls C P f args h hs K

theorem loopy_ok {C : Call} (hC : COK P false C) (hm : P.follows .mixedOrders = true) (hg : noNG P = true) : COK P false (loopy C P) := by
  intro f args h hs K hK B ρ w vs hH hv
  obtain ⟨Ls, hLs, hK⟩ := hK
  unfold evFnG at hK
  split at hK
  · exact hK.elim
  · rename_i fn hfn
    split at hK
    · exact hK.elim
    · rename_i c hbody
      split at hK
      · exact hK.elim
      · rename_i hle
        have hle := of_decide_eq_true hle
        refine .inl ⟨?_, ?_⟩
        · have hname : ¬ fn.name = "runtime.NumGoroutine" := by
            have hmem : fn ∈ P.funcs.toList := List.mem_of_getElem? (i := f) (by simpa using hfn)
            have := List.all_eq_true.1 hg fn hmem
            simpa [bne] using this
          simp [callFunc, hfn, hname, hbody]
        · refine calls_of_wp hfn hbody ?_
          have hT : TmpsR (ρ ++ []) (args ++ List.replicate (fn.ntmps - args.length) (.lit undef)) { tmps := vs.toArray ++ Array.replicate (fn.ntmps - vs.toArray.size) undef, defers := [] } := by
            rw [List.append_nil]
            have hl := hv.length
            refine ⟨by simp [hl], fun i x hx => ?_⟩
            by_cases hi : i < args.length
            · rw [List.getElem?_append_left hi] at hx
              obtain ⟨v, hv', hr⟩ := hv.get hx
              exact ⟨v, by simp only; rw [Array.getElem?_append_left (by simpa [← hl] using hi)]; simpa using hv', hr⟩
            · have hlt := (List.getElem?_eq_some_iff.1 hx).1
              rw [List.getElem?_append_right (by omega)] at hx
              rw [List.getElem?_replicate] at hx
              split at hx
              · rename_i h2
                cases hx
                refine ⟨undef, ?_, .lit _⟩
                simp only
                rw [Array.getElem?_append_right (by simp; omega), Array.getElem?_replicate, if_pos (by simp; omega)]
              · simp at hx
          refine wp_mono (evG_sound hC hm c hH.len hLs hK (by simpa using hH) hT) fun e a' w' he => ?_
          obtain ⟨x, ρ1, st', hs', hex, ⟨Ls', _, hk⟩, hT', hH', hd, hb⟩ := he
          have fin : (match resAll P st' fn.results.toList with | some v => K v st'.h hs' | none => False) → a'.defers = [] ∧ ∃ v, (results fn a'.tmps).run P w' = .ok v w' ∧ (match (Ending.returned v) with
              | .returned v => ∃ ρ' x h' hs', K x h' hs' ∧ AVR (ρ ++ ρ') x v ∧ HpR B (ρ ++ ρ') h' w' ∧ Below (if false = true then w.heap.size else B) w w' ∧ (false = true → h <+: h')
              | _ => False) := by
            intro hk
            split at hk
            · rename_i v hv'
              obtain ⟨u, hu, hr⟩ := resAll_sound hv' hH' hT'
              exact ⟨hd, u, hr, ρ1, v, _, hs', hk, hu, hH', by simpa using hb, by simp⟩
            · exact hk.elim
          cases e with
          | normal => cases x with
            | normal => exact fin hk
            | exit _ => exact hex.elim
            | ret => exact hex.elim
          | ret => cases x with
            | ret => exact fin hk
            | normal => exact hex.elim
            | exit _ => exact hex.elim
          | exit i => cases x with
            | exit j => exact hk.elim
            | normal => exact hex.elim
            | ret => exact hex.elim
          | goto l => cases x <;> exact hex.elim
          | panic c => cases x <;> exact hex.elim
          | outgrown => cases x <;> exact hex.elim


end

/-- The rule of a loop. -/
theorem std_inv {C : Call} {P : Program} {n0 : Nat} {body : Code} {st : St} {hs : List Hint} {K : Ex → St → List Hint → Prop} (I : St → Prop) (μ : St → Nat) (h0 : ∃ M T, weakSt n0 M st = some T ∧ I T)
    (hr : ∀ s, I s → ∃ hs' M T, ev C P n0 body s hs' (roundEnd n0 M T (I T ∧ μ T < μ s) K hs)) : std C P n0 body st (.inv :: hs) K := ⟨I, μ, h0, hr⟩

end Go.Sx
