/-
  The calculus (SxA): iterators: code that calls a yield, carried out; what it comes to is what a range over it goes by. A program of no laid variables.
-/
import Derived.Test.YtfpofdlpgocnlaaSxL
namespace Go.Sx
open Go.RowKit

/-- How many have come, as a hint says. -/
def cntH : List Hint → Nat
  | .ix n :: _ => n
  | _ => 0

/-- Nothing is known of the rows. -/
def noH (h : Hp) : Hp := List.replicate h.length none
/-- Those that are read, alone. -/
def onlyH (hK h : Hp) : Hp := hK ++ List.replicate (h.length - hK.length) none

def evOpsY (C : Call) (P : Program) (l : Nat) (hK : Hp) (xs : List AV) (It : FuncId → List AV → Hp → List AV → Prop) (ops : List Oper) : List Oper → St → Nat → Nat → List Hint → (St → Nat → Nat → List Hint → Prop) → Prop
  | [], st, i, s, hs, K => K st i s hs
  | o :: rest, st, i, s, hs, K => match o.op with
    | .call { callee := .value (.tmp t), args, argTypes := _ } => wanted ops o st hs fun w st hs => match w with
      | false => fSt (st.put o.dst (.lit undef)) fun st => evOpsY C P l hK xs It ops rest st i s hs K
      | true => match st.op (.tmp t), s, args.toList.map st.op with
        | .func (.yield l') [] [], 0, [y] => l' = l ∧ (canon y).pure2 = true ∧ xs[i]? = some (canon y) ∧ (match hs with
            | .fork h1 h2 :: _ => (fSt (({ st with h := onlyH hK st.h } : St).put o.dst (.lit (.bool true))) fun st => evOpsY C P l hK xs It ops rest st (i + 1) 0 h1 K) ∧
                (fSt (({ st with h := noH st.h } : St).put o.dst (.lit (.bool false))) fun st => evOpsY C P l hK xs It ops rest st (i + 1) 1 h2 K)
            | hs => (fSt (({ st with h := onlyH hK st.h } : St).put o.dst (.lit (.bool true))) fun st => evOpsY C P l hK xs It ops rest st (i + 1) 0 hs K) ∧
                (fSt (({ st with h := noH st.h } : St).put o.dst (.lit (.bool false))) fun st => evOpsY C P l hK xs It ops rest st (i + 1) 1 hs K))
        | .func (.func g) [] caps, 0, [.func (.yield l') [] []] => l' = l ∧ i = 0 ∧ It g caps (onlyH hK st.h) xs ∧
            (fSt (({ st with h := noH st.h } : St).put o.dst .any) fun st => evOpsY C P l hK xs It ops rest st xs.length 2 hs K) ∧
            (∀ j, j ≤ xs.length → fSt (({ st with h := noH st.h } : St).put o.dst .any) fun st => evOpsY C P l hK xs It ops rest st j 1 hs K)
        | _, _, _ => False
    | .binOp .neq t x y _ => (match o.guard, st.op x, st.op y with
      | none, .func (.yield _) [] [], .lit .nilFunc => (match P.underlying t with
        | some (.func ..) => fSt (st.put o.dst (.lit (.bool true))) fun st => evOpsY C P l hK xs It ops rest st i s hs K
        | _ => False)
      | _, _, _ => evOne C P ops o st hs fun st hs => evOpsY C P l hK xs It ops rest st i s hs K)
    | _ => evOne C P ops o st hs fun st hs => evOpsY C P l hK xs It ops rest st i s hs K

def evIt (C : Call) (P : Program) (l n0 : Nat) (hK : Hp) (xs : List AV) (It : FuncId → List AV → Hp → List AV → Prop) : Code → St → Nat → Nat → List Hint → (Ex → St → Nat → Nat → List Hint → Prop) → Prop
  | .skip, st, i, s, hs, K => K .normal st i s hs
  | .region _ ops draw, st, i, s, hs, K => match draw with
    | true => splits 6 hs fun hs => evRegion C P ops true st hs fun st hs => K .normal ⟨st.t, freeze st.h⟩ i s hs
    | false => splits 6 hs fun hs => evOpsY C P l hK xs It ops.toList ops.toList st i s hs fun st i s hs => K .normal ⟨st.t, freeze st.h⟩ i s hs
  | .seq a b, st, i, s, hs, K => evIt C P l n0 hK xs It a st i s hs fun e st i s hs => match e with
    | .normal => evIt C P l n0 hK xs It b st i s hs K
    | e => K e st i s hs
  | .cond c a b, st, i, s, hs, K => test (st.op c) hs fun p hs => match p with
    | true => evIt C P l n0 hK xs It a st i s hs K
    | false => evIt C P l n0 hK xs It b st i s hs K
  | .block id body, st, i, s, hs, K => evIt C P l n0 hK xs It body st i s hs fun e st i s hs => match e with
    | .exit id' => match decide (id' = id) with
      | true => K .normal st i s hs
      | false => K (.exit id') st i s hs
    | e => K e st i s hs
  | .loop body, st, i, s, hs, K => match hs, s with
    | .linv _ p0 Φ I μ M0 M _ af hs' :: hs, 0 => (match weakSt n0 M0 st with | some T => T = Φ p0 ∧ I p0 ∧ cntH (af p0) = i | none => False) ∧
        ∀ p, I p → evIt C P l n0 hK xs It body (Φ p) (cntH (af p)) 0 (hs' p) fun e st2 i2 s2 hs2 => match e, s2 with
          | .normal, 0 => (match weakSt n0 (endM M hs2) st2 with
            | some T => ∃ p', T = Φ p' ∧ I p' ∧ cntH (af p') = i2 ∧ μ p' < μ p
            | none => False)
          | .normal, _ + 1 => False
          | e, s2 => K e st2 i2 s2 hs
    | _, _ => False
  | .exit id, st, i, s, hs, K => K (.exit id) st i s hs
  | .ret, st, i, s, hs, K => K .ret st i s hs
  | _, _, _, _, _, _ => False

/-- The iterator g over rows h: it goes through xs. -/
def evFnIt (C : Call) (P : Program) (It : FuncId → List AV → Hp → List AV → Prop) (g : FuncId) (caps : List AV) (h : Hp) (xs : List AV) (l : Nat) (hs : List Hint) : Prop :=
  match P.funcs[g]? with
  | none => False
  | some fn => match fn.body with
   | none => False
   | some c => match decide (fn.results.toList.length = 0), noDef c with
    | true, true => match decide ((AV.func (.yield l) [] [] :: caps).length ≤ fn.ntmps) with
      | false => False
      | true => evIt C P l h.length (freeze h) xs It c ⟨(AV.func (.yield l) [] [] :: caps) ++ List.replicate (fn.ntmps - (AV.func (.yield l) [] [] :: caps).length) (.lit undef), freeze h⟩ 0 0 hs fun e _ i s _ => match e with
        | .exit _ => False
        | _ => s = 0 → i = xs.length
    | _, _ => False

theorem pure1_fun {x : AV} {u v : Value} {ρ ρ' : List Loc} (hp : x.pure1 = true) (h : AVR ρ x u) (h' : AVR ρ' x v) : u = v := by
  cases h <;> first | (cases h'; rfl) | cases hp

theorem pures_fun {ρ ρ' : List Loc} : ∀ {xs : List AV} {us vs : List Value}, xs.all AV.pure1 = true → AVRs ρ xs us → AVRs ρ' xs vs → us = vs
  | _, _, _, _, .nil, h => by cases h; rfl
  | _, _, _, hp, .cons a b, h => by
    rw [List.all_cons, Bool.and_eq_true] at hp
    cases h with
    | cons c d => rw [pure1_fun hp.1 a c, pures_fun hp.2 b d]

theorem pure2_fun {x : AV} {u v : Value} {ρ ρ' : List Loc} (hp : x.pure2 = true) (h : AVR ρ x u) (h' : AVR ρ' x v) : u = v := by
  cases h with
  | agg h => cases h' with | agg h' => rw [pures_fun hp h h']
  | lit => exact pure1_fun (x := .lit _) rfl (ρ := ρ) (ρ' := ρ') (.lit _) h'
  | int => cases h'; rfl
  | w64 => cases h'; rfl
  | bool => cases h'; rfl
  | val => cases h'; rfl
  | _ => cases hp

theorem noH_row {h : Hp} {r : Nat} {k : Blk} (hk : (noH h)[r]? = some (some k)) : False := by
  unfold noH at hk
  rw [List.getElem?_replicate] at hk
  split at hk <;> cases hk

section
variable {P : Program} {C : Call} {β : Type} {f : β → Value} {zs : List β} {J Jx : List β → World → Prop} {G : Gd} {ρ0 : List Loc} {hK : Hp} {w0 : World} {xs : List AV} {It : FuncId → List AV → Hp → List AV → Prop}

/-- How far it is. -/
def JI (J Jx : List β → World → Prop) (zs : List β) (i : Nat) (s : Nat) (w : World) : Prop := i ≤ zs.length ∧ (match s with | 0 => J (zs.take i) w | 1 => Jx (zs.take i) w | _ => J zs w)

/-- What is known between two operations: since world wS nothing of what was there then was touched. -/
structure RgY (J Jx : List β → World → Prop) (zs : List β) (G : Gd) (w0 wS : World) (ρ : List Loc) (st : St) (i : Nat) (s : Nat) (a : Act) (w : World) : Prop where
  ji : JI J Jx zs i s wS
  kp : s = 0 → KpG G w0 wS
  hp : HpR (bl wS.heap.size) ρ st.h w
  tm : TmpsR ρ st.t a
  bel : Bel (bl wS.heap.size) wS w
  df : a.defers = []

def LeftY (J Jx : List β → World → Prop) (zs : List β) (G : Gd) (w0 : World) (ρ0 : List Loc) (K : Ex → St → Nat → Nat → List Hint → Prop) (e : Exit) (a' : Act) (w' : World) : Prop :=
  ∃ x ρ1 st' i s hs', ExR e x ∧ K x st' i s hs' ∧ RgY J Jx zs G w0 w' (ρ0 ++ ρ1) st' i s a' w'

theorem bel_grown {w w' : World} (h : Bel (bl w.heap.size) w w') : w.grownBy w' none := ⟨h.os, h.tape, h.output, h.size, fun k hk _ => h.block k hk⟩

theorem RgY.close (hJ : ∀ s W W', J s W → W.grownBy W' none → J s W') (hJx : ∀ s W W', Jx s W → W.grownBy W' none → Jx s W') (hG : ∀ b, G b → b < w0.heap.size) {wS : World} {ρ : List Loc} {st : St} {i : Nat} {s : Nat} {a : Act} {w : World} (h : RgY J Jx zs G w0 wS ρ st i s a w) :
    RgY J Jx zs G w0 w ρ ⟨st.t, freeze st.h⟩ i s a w := by
  refine ⟨⟨h.ji.1, ?_⟩, fun hs => ?_, h.hp.freeze, h.tm, Bel.refl _ _, h.df⟩
  · have := h.ji.2
    match s, this with
    | 0, this => exact hJ _ _ _ this (bel_grown h.bel)
    | 1, this => exact hJx _ _ _ this (bel_grown h.bel)
    | _ + 2, this => exact hJ _ _ _ this (bel_grown h.bel)
  · have := h.kp hs
    exact ⟨Nat.le_trans this.1 h.bel.size, fun b hb hlt => (h.bel.block b (Nat.lt_of_lt_of_le (hG b hb) this.1)).trans (this.2 b hb hlt)⟩

theorem HpR.nones (hg : ∀ B w, GlobOK B w) {B : Gd} {ρ : List Loc} {h : Hp} {w w' : World} (hH : HpR B ρ h w) : HpR (bl w'.heap.size) ρ (noH h) w' :=
  ⟨by unfold noH; rw [List.length_replicate]; exact hH.len, .refl _, fun r k l hk => (noH_row (get_row.1 hk).1).elim, fun r r' k k' l l' hk => (noH_row (get_row.1 hk).1).elim, hg _ _, .none fun r k hk => noH_row (get_obj.1 hk).1⟩

theorem onlyH_get {h : Hp} {r : Nat} {k : Blk} (hk : (onlyH hK h)[r]? = some (some k)) : hK[r]? = some (some k) := by
  unfold onlyH at hk
  rcases Nat.lt_or_ge r hK.length with hr | hr
  · rwa [List.getElem?_append_left hr] at hk
  · rw [List.getElem?_append_right hr, List.getElem?_replicate] at hk
    split at hk <;> cases hk

/-- What the iterator reads stands where those blocks do. -/
theorem HpR.onlyK (hg : ∀ B w, GlobOK B w) (hK0 : HpK G ρ0 hK w0) {w' : World} (hkp : KpG G w0 w') {B : Gd} {ρ1 : List Loc} {h : Hp} {w : World} (hH : HpR B (ρ0 ++ ρ1) h w) (hwr : ∀ (r : Nat) (k : Blk), hK[r]? = some (some k) → k.wr = false) : HpR (bl w'.heap.size) (ρ0 ++ ρ1) (onlyH hK h) w' := by
  obtain ⟨B0, o, h0, hO, hoG⟩ := hK0.hp
  have hlen : hK.length ≤ h.length := by
    have := hH.len
    rw [List.length_append, h0.len] at this; omega
  have at0 : ∀ {r : Nat} {l : Loc} {k : Blk}, hK[r]? = some (some k) → At (ρ0 ++ ρ1) r l → At ρ0 r l := fun {r l k} hk ⟨hl, hp⟩ => ⟨by
    rw [List.getElem?_append_left (by rw [h0.len]; exact (List.getElem?_eq_some_iff.1 hk).1)] at hl; exact hl, hp⟩
  have rw0 : ∀ {r : Nat} {k : Blk}, (onlyH hK h).row r = some k → hK[r]? = some (some k) ∧ hK.row r = some k := fun hk => ⟨onlyH_get (get_row.1 hk).1, get_row.2 ⟨onlyH_get (get_row.1 hk).1, (get_row.1 hk).2⟩⟩
  have ob0 : ∀ {r : Nat} {k : Blk}, (onlyH hK h).obj r = some k → hK[r]? = some (some k) ∧ hK.obj r = some k := fun hk => ⟨onlyH_get (get_obj.1 hk).1, get_obj.2 ⟨onlyH_get (get_obj.1 hk).1, (get_obj.1 hk).2⟩⟩
  refine ⟨?_, .refl _, fun r k l hk hl => ?_, fun r r' k k' l l' hk hk' hw => ?_, hg _ _, o, fun r k l hk hl => ?_, fun r r' k k' l l' hk hk' hl hl' => ?_, fun r r' k k' l l' hk hk' hne hl hl' => ?_, fun r k hk => ?_⟩
  · have := hH.len
    unfold onlyH
    simp only [List.length_append, List.length_replicate] at this ⊢
    omega
  · obtain ⟨hk0, hr⟩ := rw0 hk
    have hl0 := at0 hk0 hl
    have hb := h0.blk r k l hr hl0
    obtain ⟨e, cur, ty, fr, h1, h2, _⟩ := (hb.same (hkp.2 _ (hK0.row r k l hr hl0) hb.lt)).app ρ1
    exact ⟨e, cur, ty, fr, h1, h2, fun hw => by rw [hwr r k hk0] at hw; cases hw⟩
  · rw [hwr r k (rw0 hk).1] at hw; cases hw
  · obtain ⟨hk0, hr⟩ := ob0 hk
    have hl0 := at0 hk0 hl
    obtain ⟨a, b, _, d⟩ := hO.is r k l hr hl0
    exact ⟨a.frame w' hkp.1 fun b' hb' => hkp.2 b' (hoG r k l hr hl0 b' hb') (b b' hb'), fun b' hb' => Nat.lt_of_lt_of_le (b b' hb') hkp.1, fun hw => (by rw [hwr r k hk0] at hw; cases hw), d⟩
  · exact hO.row r r' k k' l l' (ob0 hk).2 (rw0 hk').2 (at0 (ob0 hk).1 hl) (at0 (rw0 hk').1 hl')
  · exact hO.obj r r' k k' l l' (ob0 hk).2 (ob0 hk').2 hne (at0 (ob0 hk).1 hl) (at0 (ob0 hk').1 hl')
  · obtain ⟨l, hl⟩ := hO.here r k (ob0 hk).2
    exact ⟨l, getElem?_app ρ1 hl⟩

theorem HpR.onlyK2 (hg : ∀ B w, GlobOK B w) (hK0 : HpK G ρ0 hK w0) {w' : World} (hkp : KpG G w0 w') {B : Gd} {ρ1 : List Loc} {h : Hp} {w : World} (hH : HpR B (ρ0 ++ ρ1) h w) (hwr : ∀ (r : Nat) (k : Blk), hK[r]? = some (some k) → k.wr = false) : HpK G (ρ0 ++ ρ1) (onlyH hK h) w' := by
  have h1 := hH.onlyK hg hK0 hkp hwr
  obtain ⟨B0, o, h0, hO, hoG⟩ := hK0.hp
  have at0 : ∀ {r : Nat} {l : Loc} {k : Blk}, hK[r]? = some (some k) → At (ρ0 ++ ρ1) r l → At ρ0 r l := fun {r l k} hk ⟨hl, hp⟩ => ⟨by
    rw [List.getElem?_append_left (by rw [h0.len]; exact (List.getElem?_eq_some_iff.1 hk).1)] at hl; exact hl, hp⟩
  have ob0 : ∀ {r : Nat} {k : Blk}, (onlyH hK h).obj r = some k → hK[r]? = some (some k) ∧ hK.obj r = some k := fun hk => ⟨onlyH_get (get_obj.1 hk).1, get_obj.2 ⟨onlyH_get (get_obj.1 hk).1, (get_obj.1 hk).2⟩⟩
  refine ⟨⟨bl w'.heap.size, o, h1, ⟨fun r k l hk hl => ?_, fun r r' k k' l l' hk hk' hl hl' => ?_, fun r r' k k' l l' hk hk' hne hl hl' => ?_, fun r k hk => ?_⟩, fun r k l hk hl => ?_⟩, fun r k l hk hl => ?_, fun b hb => Nat.lt_of_lt_of_le (hK0.low b hb) hkp.1⟩
  · obtain ⟨hk0, hr⟩ := ob0 hk
    obtain ⟨a, b, _, d⟩ := hO.is r k l hr (at0 hk0 hl)
    exact ⟨a.frame w' hkp.1 fun b' hb' => hkp.2 b' (hoG r k l hr (at0 hk0 hl) b' hb') (b b' hb'), fun b' hb' => Nat.lt_of_lt_of_le (b b' hb') hkp.1, fun hw => (by rw [hwr r k hk0] at hw; cases hw), d⟩
  · have e' := onlyH_get (get_row.1 hk').1
    exact hO.row r r' k k' l l' (ob0 hk).2 (get_row.2 ⟨e', (get_row.1 hk').2⟩) (at0 (ob0 hk).1 hl) (at0 e' hl')
  · exact hO.obj r r' k k' l l' (ob0 hk).2 (ob0 hk').2 hne (at0 (ob0 hk).1 hl) (at0 (ob0 hk').1 hl')
  · obtain ⟨l, hl⟩ := hO.here r k (ob0 hk).2
    exact ⟨l, getElem?_app ρ1 hl⟩
  · exact hoG r k l (ob0 hk).2 (at0 (ob0 hk).1 hl)
  · have e := onlyH_get (get_row.1 hk).1
    exact hK0.row r k l (get_row.2 ⟨e, (get_row.1 hk).2⟩) (at0 e hl)

/-- What the walk goes by. -/
structure EnvY (P : Program) (C : Call) (β : Type) (f : β → Value) (zs : List β) (J Jx : List β → World → Prop) (G : Gd) (ρ0 : List Loc) (hK : Hp) (w0 : World) (xs : List AV) (It : FuncId → List AV → Hp → List AV → Prop) (n l : Nat) : Prop where
  call : COK P false C
  follows : P.follows .mixedOrders = true
  glob : ∀ B w, GlobOK B w
  hk : HpK G ρ0 hK w0
  wr : ∀ (r : Nat) (k : Blk), hK[r]? = some (some k) → k.wr = false
  vals : AVRs [] xs (zs.map f)
  j : ∀ s W W', J s W → W.grownBy W' none → J s W'
  jx : ∀ s W W', Jx s W → W.grownBy W' none → Jx s W'
  yield : ∀ pre x W, J pre W → pre.length < zs.length → YieldAt (rnd none) (n - 1) P l #[f x] W fun e W' => (e = .returned (.bool true) ∧ J (pre ++ [x]) W' ∧ KpG G W W') ∨ (e = .returned (.bool false) ∧ Jx (pre ++ [x]) W')
  it : ∀ g caps h ρ w vs, It g caps h xs → HpK G ρ h w → KpG G w0 w → AVRs ρ caps vs → J [] w → (∀ args w, (callFunc g args).run P w = .ok (.enter g args) w) ∧ CallsIn (rnd none) (n - 1) P g (#[.func (.yield l) #[] #[]] ++ vs.toArray) w fun e W' => (∃ v, e = .returned v) ∧ ((∃ ys, ys = zs ∧ J ys W') ∨ (∃ pre, pre <+: zs ∧ Jx pre W'))

theorem neq_nil {t : TypeId} {p q : Array TypeId} {c : Bool} (hu : P.underlying t = some (.func p q c)) {l : Nat} {x y : Operand} {a : Act} {w : World} (hx : a.eval x = .func (.yield l) #[] #[]) (hy : a.eval y = .nilFunc) {dst : Option Tmp} {type yt : TypeId} {pos : String} {after : Array Edge} {guard : Option (Nat × Bool)} :
    (execOp a.eval ⟨dst, Op.binOp .neq t x y yt, type, pos, after, guard⟩).run P w = .ok (.value (.bool true)) w := by
  have h0 : ∀ D : Nat, (Op.equalIn (D + 1) t (.func (.yield l) #[] #[]) .nilFunc).run P w = .ok false w := fun D => by
    simp [Op.equalIn, run_und hu]
  have he : (Op.equalIn Op.maxDepth t (.func (.yield l) #[] #[]) .nilFunc).run P w = .ok false w := h0 _
  have hb : (_root_.Go.binOp .neq t (.func (.yield l) #[] #[]) .nilFunc).run P w = .ok (.bool true) w := by
    simp [_root_.Go.binOp, Op.equal, he]
  have hg := eqGuard_other (P := P) .neq t x y (.func (.yield l) #[] #[]) .nilFunc w rfl
  simp only [execOp, Sem.run_bind, hx, hy, hg, hb, Result.andThen_ok]
  rfl

theorem evOpsY_sound {n l : Nat} (E : EnvY P C β f zs J Jx G ρ0 hK w0 xs It n l) {ops : Array Oper} (hdf : (ops.all fun o => !defers o.op) = true) {Q : Exit → Act → World → Prop} (hO : ¬ LetsOut Q) : ∀ (rest : List Oper) (i : Nat), ops.toList.drop i = rest →
    ∀ {ρ1 : List Loc} {wS : World} {st : St} {c : Nat} {s : Nat} {hs : List Hint} {K : St → Nat → Nat → List Hint → Prop} {a : Act} {w : World}, evOpsY C P l hK xs It ops.toList rest st c s hs K → RgY J Jx zs G w0 wS (ρ0 ++ ρ1) st c s a w →
    (∀ a' w' ρ1 wS st c s hs, K st c s hs → RgY J Jx zs G w0 wS (ρ0 ++ ρ1) st c s a' w' → Q .normal a' w') → wpOpsIn (rnd none) n P ops Q (List.range' i rest.length) a w
  | [], i, hd, ρ1, wS, st, c, s, hs, K, a, w, h, hR, hn => by
    simp only [List.length_nil, List.range'_zero, wpOpsIn]
    exact hn _ _ _ _ _ _ _ _ h hR
  | o :: rest, i, hd, ρ1, wS, st, c, s, hs, K, a, w, h, hR, hn => by
    have ho : ops[i]? = some o := by
      have : (ops.toList.drop i)[0]? = some o := by rw [hd]; rfl
      rw [List.getElem?_drop] at this
      simpa using this
    have hrest : ops.toList.drop (i + 1) = rest := by rw [← List.tail_drop, hd]; rfl
    rw [List.length_cons, List.range'_succ, wpOpsIn_cons]
    have plain : ∀ {hs : List Hint}, (evOne C P ops.toList o st hs fun st hs => evOpsY C P l hK xs It ops.toList rest st c s hs K) → wpOpIn (rnd none) n P ops Q i (wpOpsIn (rnd none) n P ops Q (List.range' (i + 1) rest.length)) a w := by
      intro hs h
      refine wpOp_rnd (.inl rfl) hO (K := wpOpsIn (rnd none) n P ops Q (List.range' (i + 1) rest.length)) (fun _ _ h => h) (evOne_sound ho E.call (by simp) h hR.hp hR.tm fun a' w' hl => ?_)
      obtain ⟨ρ', st', hs', hk, hT', hH', hd', hb, _⟩ := hl
      rw [List.append_assoc] at hT' hH'
      exact evOpsY_sound E hdf hO rest (i + 1) hrest hk ⟨hR.ji, hR.kp, hH', hT', hR.bel.trans hb, hd'.trans hR.df⟩ hn
    have clo := hR.close E.j E.jx E.hk.low
    have run : ∀ {u : Value} {w' : World}, (execOp a.eval o).run P w = .ok (.value u) w' → Region.wanted o (yielded ops a.tmps) = true → wpOpsIn (rnd none) n P ops Q (List.range' (i + 1) rest.length) (a.put o.dst u) w' → wpOpIn (rnd none) n P ops Q i (wpOpsIn (rnd none) n P ops Q (List.range' (i + 1) rest.length)) a w := by
      intro u w' hr hw hk
      unfold wpOpIn
      simp only [ho, hw, if_true]
      refine ⟨fun _ _ => trivial, ?_⟩
      show o.uponIn (rnd none) n P a _ Q ((o.semAt none a.eval).run P w)
      rw [sem_rnd (.inl rfl), hr]
      exact hk
    unfold evOpsY at h
    split at h
    · rename_i t args tys hop
      obtain ⟨b, st', hs', hk, hw, hT', hh⟩ := wanted_sound h hR.tm
      cases b with
      | false =>
        simp only [fSt_eq] at hk
        unfold wpOpIn
        simp only [ho, hw]
        refine ⟨fun _ _ => trivial, evOpsY_sound E hdf hO rest (i + 1) hrest hk ⟨hR.ji, hR.kp, ?_, hT'.putSt o.dst (.lit _), hR.bel, by rw [put_defers]; exact hR.df⟩ hn⟩
        rw [St.put_h, hh]; exact hR.hp
      | true =>
        simp only [fSt_eq] at hk
        have hfv := hT'.op (.tmp t)
        have hav := hT'.ops args.toList
        generalize hfe : a.eval (.tmp t) = fv at hfv
        have hhp : HpR (bl wS.heap.size) (ρ0 ++ ρ1) st'.h w := by rw [hh]; exact hR.hp
        split at hk
        · rename_i l' y hf hargs
          obtain ⟨rfl, hp2, hx, hk⟩ := hk
          rw [hf] at hfv
          cases hfv with
          | func hn1 hn2 =>
          cases hn1; cases hn2
          rw [hargs] at hav
          obtain ⟨x0, hx0⟩ : ∃ x0, args = #[x0] := by
            have : args.toList.length = 1 := by have := congrArg List.length hargs; simpa using this
            obtain ⟨x0, e⟩ := List.length_eq_one_iff.1 this
            exact ⟨x0, by cases args; simp at e; rw [e]⟩
          subst hx0
          have hav : AVRs (ρ0 ++ ρ1) [y] [a.eval x0] := hav
          cases hav with
          | cons hy _ =>
          obtain ⟨u, hu, hyu⟩ := E.vals.get hx
          have e := pure2_fun hp2 (canon_rel hy) hyu
          rw [List.getElem?_map] at hu
          obtain ⟨z, hz, hzu⟩ := Option.map_eq_some_iff.1 hu
          have hc : c < zs.length := (List.getElem?_eq_some_iff.1 hz).1
          have htake : zs.take c ++ [z] = zs.take (c + 1) := by rw [List.take_add_one, hz]; rfl
          obtain ⟨fn, tmps, asg, body, hyr, hrd⟩ := E.yield (zs.take c) z w clo.ji.2 (by rw [List.length_take]; omega)
          have hex : (execOp a.eval o).run P w = .ok (.round l' fn tmps asg body) w := by
            rw [← hyr, hzu, ← e]
            obtain ⟨dst, op, type, pos, after, guard⟩ := o
            dsimp only at hop
            subst hop
            simp [execOp, resolve, hfe, Deferred.ofValue, invoke]
          have hk : ∃ l1 l2, (evOpsY C P l' hK xs It ops.toList rest (({ st' with h := onlyH hK st'.h } : St).put o.dst (.lit (.bool true))) (c + 1) 0 l1 K) ∧ (evOpsY C P l' hK xs It ops.toList rest (({ st' with h := noH st'.h } : St).put o.dst (.lit (.bool false))) (c + 1) 1 l2 K) := by
            split at hk
            · exact ⟨_, _, hk⟩
            · exact ⟨_, _, hk⟩
          obtain ⟨l1, l2, hk1, hk2⟩ := hk
          unfold wpOpIn
          simp only [ho, hw, if_true]
          refine ⟨fun _ _ => trivial, ?_⟩
          show o.uponIn (rnd none) n P a _ Q ((o.semAt none a.eval).run P w)
          rw [sem_rnd (.inl rfl), hex, Oper.uponIn_round]
          refine ⟨fun e => absurd e noDepth, hrd.mono ?_⟩
          rintro e W' (⟨rfl, hj, hkp⟩ | ⟨rfl, hj⟩)
          · have hkp' : KpG G w0 W' := ⟨Nat.le_trans (clo.kp rfl).1 hkp.1, fun b hb hlt => (hkp.2 b hb (Nat.lt_of_lt_of_le hlt (clo.kp rfl).1)).trans ((clo.kp rfl).2 b hb hlt)⟩
            refine evOpsY_sound (ρ1 := ρ1) E hdf hO rest (i + 1) hrest hk1 ⟨⟨hc, by show J _ _; rw [← htake]; exact hj⟩, fun _ => hkp', ?_, ?_, Bel.refl _ _, by rw [put_defers]; exact hR.df⟩ hn
            · rw [St.put_h]; exact hhp.onlyK E.glob E.hk hkp' E.wr
            · exact TmpsR.putSt (st := { st' with h := onlyH hK st'.h }) hT' o.dst (.lit _)
          · refine evOpsY_sound (ρ1 := ρ1) E hdf hO rest (i + 1) hrest hk2 (wS := W') ⟨⟨hc, by show Jx _ _; rw [← htake]; exact hj⟩, fun h => (by cases h), ?_, ?_, Bel.refl _ _, by rw [put_defers]; exact hR.df⟩ hn
            · rw [St.put_h]; exact hhp.nones E.glob
            · exact TmpsR.putSt (st := { st' with h := noH st'.h }) hT' o.dst (.lit _)
        · rename_i g caps l' hf hargs
          obtain ⟨rfl, rfl, hit, hk1, hk2⟩ := hk
          rw [hf] at hfv
          cases hfv with
          | func hn1 hcaps =>
          rename_i va vcaps
          cases hn1
          rw [hargs] at hav
          have hvy : (args.toList.map a.eval) = [.func (.yield l') #[] #[]] := by
            generalize args.toList.map a.eval = vs at hav
            cases hav with
            | cons h1 h2 =>
              cases h2
              cases h1 with
              | func a1 a2 => cases a1; cases a2; rfl
          obtain ⟨hent, hcall⟩ := E.it g caps (onlyH hK st'.h) (ρ0 ++ ρ1) w vcaps hit (hhp.onlyK2 E.glob E.hk (clo.kp rfl) E.wr) (clo.kp rfl) hcaps clo.ji.2
          have hex : (execOp a.eval o).run P w = .ok (.enter g (#[.func (.yield l') #[] #[]] ++ vcaps.toArray)) w := by
            rw [← hent (#[(Value.func (.yield l') #[] #[] : Value)] ++ vcaps.toArray) w]
            obtain ⟨dst, op, type, pos, after, guard⟩ := o
            dsimp only at hop
            subst hop
            obtain ⟨al⟩ := args
            have hvy : al.map a.eval = _ := hvy
            simp [execOp, resolve, hfe, Deferred.ofValue, invoke, hvy]
          unfold wpOpIn
          simp only [ho, hw, if_true]
          refine ⟨fun _ _ => trivial, ?_⟩
          show o.uponIn (rnd none) n P a _ Q ((o.semAt none a.eval).run P w)
          rw [sem_rnd (.inl rfl), hex, Oper.uponIn_enter]
          refine ⟨fun e => absurd e noDepth, hcall.mono ?_⟩
          have hlen : xs.length = zs.length := by have := E.vals.length; simpa using this
          rintro e W' ⟨⟨v, rfl⟩, (⟨ys, hys, hj⟩ | ⟨pre, hpre, hj⟩)⟩
          · rw [hys] at hj
            refine evOpsY_sound (ρ1 := ρ1) E hdf hO rest (i + 1) hrest hk1 (wS := W') ⟨⟨Nat.le_of_eq hlen, hj⟩, fun h => (by cases h), ?_, ?_, Bel.refl _ _, by rw [put_defers]; exact hR.df⟩ hn
            · rw [St.put_h]; exact hhp.nones E.glob
            · exact TmpsR.putSt (st := { st' with h := noH st'.h }) hT' o.dst (.any _)
          · have hpl : pre.length ≤ zs.length := hpre.length_le
            refine evOpsY_sound (ρ1 := ρ1) E hdf hO rest (i + 1) hrest (hk2 pre.length (by omega)) (wS := W') ⟨⟨hpl, by show Jx _ _; rw [← List.prefix_iff_eq_take.1 hpre]; exact hj⟩, fun h => (by cases h), ?_, ?_, Bel.refl _ _, by rw [put_defers]; exact hR.df⟩ hn
            · rw [St.put_h]; exact hhp.nones E.glob
            · exact TmpsR.putSt (st := { st' with h := noH st'.h }) hT' o.dst (.any _)
        · exact hk.elim
    · rename_i t x y yt hop
      split at h
      · rename_i l' hg hfx hfy
        split at h
        · rename_i hu
          simp only [fSt_eq] at h
          have hxv := hR.tm.op x
          have hyv := hR.tm.op y
          rw [hfx] at hxv
          rw [hfy] at hyv
          generalize hex : a.eval x = xv at hxv
          generalize hey : a.eval y = yv at hyv
          cases hyv
          cases hxv with
          | func a1 a2 =>
          cases a1; cases a2
          refine run (u := .bool true) (w' := w) ?_ (by simp [Region.wanted, hg]) (evOpsY_sound (ρ1 := ρ1) E hdf hO rest (i + 1) hrest h ⟨hR.ji, hR.kp, ?_, hR.tm.putSt o.dst (.lit _), hR.bel, by rw [put_defers]; exact hR.df⟩ hn)
          · obtain ⟨dst, op, type, pos, after, guard⟩ := o
            dsimp only at hop
            subst hop
            exact neq_nil hu hex hey
          · rw [St.put_h]; exact hR.hp
        · exact h.elim
      · exact plain h
    · exact plain h

theorem evIt_sound {n l n0 : Nat} (E : EnvY P C β f zs J Jx G ρ0 hK w0 xs It n l) (hn0 : ρ0.length = n0) : ∀ (code : Code), noDef code = true → ∀ {ρ1 : List Loc} {st : St} {c : Nat} {s : Nat} {hs : List Hint} {K : Ex → St → Nat → Nat → List Hint → Prop} {a : Act} {w : World},
    evIt C P l n0 hK xs It code st c s hs K → RgY J Jx zs G w0 w (ρ0 ++ ρ1) st c s a w → code.wpIn (rnd none) n P (LeftY J Jx zs G w0 ρ0 K) a w := by
  have nopanic : ∀ {K : Ex → St → Nat → Nat → List Hint → Prop} c a w, ¬ LeftY J Jx zs G w0 ρ0 K (.panic c) a w := by
    rintro K c a w ⟨x, _, _, _, _, _, hx, _⟩; cases x <;> exact hx
  have noout : ∀ {K : Ex → St → Nat → Nat → List Hint → Prop} a w, ¬ LeftY J Jx zs G w0 ρ0 K .outgrown a w := by
    rintro K a w ⟨x, _, _, _, _, _, hx, _⟩; cases x <;> exact hx
  intro code
  induction code with
  | skip => intro _ ρ1 st c s hs K a w h hR; exact wpIn_skip ⟨.normal, ρ1, st, c, s, hs, trivial, h, hR⟩
  | ret => intro _ ρ1 st c s hs K a w h hR; exact wpIn_ret ⟨.ret, ρ1, st, c, s, hs, trivial, h, hR⟩
  | exit id => intro _ ρ1 st c s hs K a w h hR; exact wpIn_exit ⟨.exit id, ρ1, st, c, s, hs, rfl, h, hR⟩
  | region id ops draw =>
    intro hnd ρ1 st c s hs K a w h hR
    have hdf : (ops.all fun o => !defers o.op) = true := hnd
    unfold evIt at h
    split at h
    · obtain ⟨hs, h⟩ := splits_iff h
      refine evRegion_sound (ro := none) (B := bl w.heap.size) E.call E.follows (.inl rfl) h hR.hp hR.tm (fun c a w hx => nopanic c a w hx) (fun a w hx => noout a w hx) fun a' w' hx => ?_
      obtain ⟨ρ', st', hs', k, t, hh, d, b, _⟩ := hx
      rw [List.append_assoc] at t hh
      exact ⟨.normal, ρ1 ++ ρ', _, c, s, hs', trivial, k, RgY.close E.j E.jx E.hk.low ⟨hR.ji, hR.kp, hh, t, b, d.trans hR.df⟩⟩
    · obtain ⟨hs, h⟩ := splits_iff h
      refine wpIn_region ?_
      rw [List.range_eq_range']
      have hO : ¬ LetsOut (LeftY J Jx zs G w0 ρ0 K) := fun ⟨_, _, hx⟩ => noout _ _ hx
      have := evOpsY_sound (Q := LeftY J Jx zs G w0 ρ0 K) E hdf hO ops.toList 0 (by simp) h hR fun a' w' ρ2 wS st' c' s' hs' hk hR' => ⟨.normal, ρ2, _, c', s', hs', trivial, hk, hR'.close E.j E.jx E.hk.low⟩
      simpa using this
  | seq x y ihx ihy =>
    intro hnd ρ1 st c s hs K a w h hR
    have hnd : noDef x = true ∧ noDef y = true := Bool.and_eq_true _ _ ▸ hnd
    refine wpIn_seq (wpIn_mono (ihx hnd.1 h hR) fun e a' w' he => ?_)
    obtain ⟨x', ρ1', st', c', s', hs', hex, hk, hR'⟩ := he
    cases e with
    | normal => cases x' with
      | normal => exact ihy hnd.2 hk hR'
      | exit _ => exact hex.elim
      | ret => exact hex.elim
    | exit i => cases x' with
      | exit j => exact ⟨.exit j, ρ1', st', c', s', hs', hex, hk, hR'⟩
      | normal => exact hex.elim
      | ret => exact hex.elim
    | ret => cases x' with
      | ret => exact ⟨.ret, ρ1', st', c', s', hs', hex, hk, hR'⟩
      | normal => exact hex.elim
      | exit _ => exact hex.elim
    | goto l => cases x' <;> exact hex.elim
    | panic c => cases x' <;> exact hex.elim
    | outgrown => cases x' <;> exact hex.elim
  | cond cd x y ihx ihy =>
    intro hnd ρ1 st c s hs K a w h hR
    have hnd : noDef x = true ∧ noDef y = true := Bool.and_eq_true _ _ ▸ hnd
    obtain ⟨sb, p, hs', hb, hk⟩ := test_iff h
    have hc := asBool_rel (hR.tm.op cd) hb
    cases p with
    | true => exact wpIn_cond_true hc (ihx hnd.1 hk hR)
    | false => exact wpIn_cond_false hc (ihy hnd.2 hk hR)
  | block id body ih =>
    intro hnd ρ1 st c s hs K a w h hR
    refine wpIn_block (wpIn_mono (ih hnd h hR) fun e a' w' he => ?_)
    obtain ⟨x', ρ1', st', c', s', hs', hex, hk, hR'⟩ := he
    cases e with
    | normal => cases x' with
      | normal => exact ⟨.normal, ρ1', st', c', s', hs', hex, hk, hR'⟩
      | exit _ => exact hex.elim
      | ret => exact hex.elim
    | exit i => cases x' with
      | exit j =>
        have hij : i = j := hex
        subst hij
        dsimp only at hk
        show (if i = id then _ else _)
        split at hk
        · rename_i hd'; rw [if_pos (of_decide_eq_true hd')]; exact ⟨.normal, ρ1', st', c', s', hs', trivial, hk, hR'⟩
        · rename_i hd'; rw [if_neg (of_decide_eq_false hd')]; exact ⟨.exit i, ρ1', st', c', s', hs', rfl, hk, hR'⟩
      | normal => exact hex.elim
      | ret => exact hex.elim
    | ret => cases x' with
      | ret => exact ⟨.ret, ρ1', st', c', s', hs', hex, hk, hR'⟩
      | normal => exact hex.elim
      | exit _ => exact hex.elim
    | goto l => cases x' <;> exact hex.elim
    | panic c => cases x' <;> exact hex.elim
    | outgrown => cases x' <;> exact hex.elim
  | loop body ih =>
    intro hnd ρ1 st c s hs K a w h hR
    unfold evIt at h
    split at h
    · rename_i α p0 Φ I μ M0 M M' af hs' hs
      obtain ⟨h0, hround⟩ := h
      split at h0
      · rename_i T0 hsub
        obtain ⟨rfl, hI0, hc0⟩ := h0
        obtain ⟨ρ2, hH2, hT2⟩ := weak_rel hsub hn0 hR.hp hR.tm
        refine wpIn_loop_rounds (μ p0 + 1) ?_
        have key : ∀ (m : Nat) {ρ1 : List Loc} {p : α} {a1 : Act} {w1 : World}, μ p < m → I p → RgY J Jx zs G w0 w1 (ρ0 ++ ρ1) (Φ p) (cntH (af p)) 0 a1 w1 → Code.roundsIn (rnd none) n P body (LeftY J Jx zs G w0 ρ0 K) m a1 w1 := by
          intro m
          induction m with
          | zero => intro ρ1 p a1 w1 h; omega
          | succ m ihm =>
            intro ρ1 p a1 w1 hμ hI hR1
            rw [roundsIn_succ]
            refine wpIn_mono (ih hnd (hround p hI) hR1) fun e a' w' he => ?_
            obtain ⟨x', ρ1', st', c', s', hs'', hex, hk, hR'⟩ := he
            cases e with
            | normal => cases x' with
              | normal =>
                cases s' with
                | zero =>
                  dsimp only at hk
                  split at hk
                  · rename_i T hwk
                    obtain ⟨p', rfl, hI', hc', hlt⟩ := hk
                    obtain ⟨ρ3, hH3, hT3⟩ := weak_rel hwk hn0 hR'.hp hR'.tm
                    subst hc'; exact ihm (by omega) hI' ⟨hR'.ji, hR'.kp, hH3, hT3, hR'.bel, hR'.df⟩
                  · exact hk.elim
                | succ s' => exact hk.elim
              | exit _ => exact hex.elim
              | ret => exact hex.elim
            | exit i => cases x' with
              | exit j => exact ⟨.exit j, ρ1', st', c', s', hs, hex, by cases s' <;> exact hk, hR'⟩
              | normal => exact hex.elim
              | ret => exact hex.elim
            | ret => cases x' with
              | ret => exact ⟨.ret, ρ1', st', c', s', hs, hex, by cases s' <;> exact hk, hR'⟩
              | normal => exact hex.elim
              | exit _ => exact hex.elim
            | goto l => cases x' <;> exact hex.elim
            | panic c => cases x' <;> exact hex.elim
            | outgrown => cases x' <;> exact hex.elim
        subst hc0; exact key _ (Nat.lt_succ_self _) hI0 ⟨hR.ji, hR.kp, hH2, hT2, hR.bel, hR.df⟩
      · exact h0.elim
    · exact h.elim
  | _ => intro _ ρ1 st c s hs K a w h; exact h.elim

theorem HpK.frozen (hst : strict = false) {ρ : List Loc} {h : Hp} {w W : World} (hK : HpK G ρ h w) (hW : Below w.heap.size w W) : HpK G ρ (freeze h) W ∧ KpG G w W ∧ HpR (bl W.heap.size) ρ (freeze h) W := by
  obtain ⟨B, o, hH, hO, hoG⟩ := hK.hp
  have hb : Bel (bl w.heap.size) w W := ⟨⟨hW.os, hW.tape, hW.output, hW.size, fun j hj => hW.block j hj⟩, fun e => by rw [hst] at e; cases e⟩
  have hH2 := (hH.below hb).freeze
  have hO2 : ObjsO o B ρ h W := hO.change hb.size fun _ _ _ hk hl b hbm => hb.block _ (hO.lt hk hl b hbm)
  refine ⟨⟨⟨bl W.heap.size, o, hH2, hO2.via id (fun _ _ _ _ _ _ h => h) (fun r k l hk hl => ?_) (fun r k l hk hl => ?_) (fun r k hk => ?_), fun r k l hk hl => ?_⟩, fun r k l hk hl => ?_, fun b hb' => Nat.lt_of_lt_of_le (hK.low b hb') hW.size⟩, ⟨hW.size, fun b _ hlt => hW.block b hlt⟩, hH2⟩
  · obtain ⟨k', hk', rfl⟩ := freeze_obj hk
    exact ⟨hl, k', hk', rfl, rfl, fun h => by simp at h⟩
  · obtain ⟨k', hk', rfl⟩ := freeze_row hk
    exact ⟨hl, k', hk'⟩
  · obtain ⟨k', hk', _⟩ := freeze_obj hk
    exact hO2.here r k' hk'
  · obtain ⟨k', hk', rfl⟩ := freeze_obj hk
    exact hoG r k' l hk' hl
  · obtain ⟨k', hk', rfl⟩ := freeze_row hk
    exact hK.row r k' l hk' hl

theorem tmps_start {ρ : List Loc} {args : List AV} {vs : List Value} {m : Nat} (hv : AVRs ρ args vs) (hle : args.length ≤ m) : TmpsR ρ (args ++ List.replicate (m - args.length) (.lit undef)) { tmps := vs.toArray ++ Array.replicate (m - vs.toArray.size) undef, defers := [] } := by
  have hl := hv.length
  refine ⟨by simp [hl], fun i x hx => ?_⟩
  by_cases hi : i < args.length
  · rw [List.getElem?_append_left hi] at hx
    obtain ⟨v, hv', hr⟩ := hv.get hx
    exact ⟨v, by simp only; rw [Array.getElem?_append_left (by simpa [← hl] using hi)]; simpa using hv', hr⟩
  · have hlt := (List.getElem?_eq_some_iff.1 hx).1
    rw [List.getElem?_append_right (by omega)] at hx
    rw [List.getElem?_replicate] at hx
    split at hx
    · rename_i h2
      cases hx
      refine ⟨undef, ?_, .lit _⟩
      simp only
      rw [Array.getElem?_append_right (by simp; omega), Array.getElem?_replicate, if_pos (by simp; omega)]
    · simp at hx

theorem pure2s_fun {ρ ρ' : List Loc} : ∀ {xs : List AV} {us vs : List Value}, (∀ x ∈ xs, x.pure2 = true) → AVRs ρ xs us → AVRs ρ' xs vs → us = vs
  | _, _, _, _, .nil, h => by cases h; rfl
  | _, _, _, hp, .cons a b, h => by
    cases h with
    | cons c d => rw [pure2_fun (hp _ (.head _)) a c, pure2s_fun (fun x hx => hp x (.tail _ hx)) b d]

theorem yield_deep {m m' : Nat} {l : Nat} {args : Array Value} {W : World} {R : Ending → World → Prop} (h : YieldAt (rnd none) m P l args W R) : YieldAt (rnd none) m' P l args W R := by
  obtain ⟨fn, tmps, asg, body, h1, h2, h3⟩ := h
  exact ⟨fn, tmps, asg, body, h1, h2, fun c cs _ => h3 c cs fun d hd => by simp [rnd, Fence.wide] at hd⟩

theorem abides_le {γ : Type} {A B : Nat} (h : A ≤ B) {X : γ → World → Prop} (hX : AbidesFrom A X) : AbidesFrom B X :=
  fun s W W' row hs hg hr => hX s W W' row hs hg fun r e => ⟨Nat.le_trans h (hr r e).1, (hr r e).2⟩

/-- An iterator is what its code comes to. -/
theorem itOK_of (hC : COK P false C) (hm : P.follows .mixedOrders = true) (hg : noNG P = true) (hgl : ∀ B w, GlobOK B w) (hst : strict = false) (hIt : ∀ g caps h xs, It g caps h xs → ItOK P g caps h xs) {g : FuncId} {caps : List AV} {h : Hp} {xs : List AV} (hpu : ∀ x ∈ xs, x.pure2 = true) (hus : ∃ us, AVRs [] xs us)
    (H : ∀ l, ∃ hs, evFnIt C P It g caps h xs l hs) : ItOK P g caps h xs := by
  intro G ρ w vs hK hv
  obtain ⟨fn, c, hfn, hbody, hres, hnd⟩ : ∃ fn c, P.funcs[g]? = some fn ∧ fn.body = some c ∧ fn.results.toList.length = 0 ∧ noDef c = true := by
    obtain ⟨hs, hx⟩ := H 0
    unfold evFnIt at hx
    split at hx
    · exact hx.elim
    · rename_i fn hfn
      split at hx
      · exact hx.elim
      · rename_i c hb
        split at hx
        · rename_i hr hn
          exact ⟨fn, c, hfn, hb, of_decide_eq_true hr, hn⟩
        · exact hx.elim
  have hname : ¬ fn.name = "runtime.NumGoroutine" := by
    have hmem : fn ∈ P.funcs.toList := List.mem_of_getElem? (i := g) (by simpa using hfn)
    have := List.all_eq_true.1 hg fn hmem
    simpa [bne] using this
  refine ⟨fun args w => by simp [callFunc, hfn, hname, hbody], ?_⟩
  obtain ⟨us, hus⟩ := hus
  refine ⟨us, hus, fun n β f zs hz l J Jx W hW hJ hJx hY h0 => ?_⟩
  subst hz
  obtain ⟨hK2, hkp, hH⟩ := hK.frozen hst hW
  obtain ⟨hs, hx⟩ := H l
  unfold evFnIt at hx
  simp only [hfn, hbody, hres, hnd, decide_true] at hx
  split at hx
  · exact hx.elim
  · rename_i hle
    have hle := of_decide_eq_true hle
    have hT := tmps_start (m := fn.ntmps) (AVRs.cons (.func (fn := .yield l) .nil .nil) hv) hle
    have hlen : xs.length = zs.length := by have := hus.length; simpa using this
    have E : EnvY P C β f zs J Jx G ρ (freeze h) W xs It n l := by
      refine ⟨hC, hm, hgl, hK2, fun r k hk => ?_, hus, fun s W1 W2 h1 h2 => hJ s W1 W2 none h1 h2 (by simp), fun s W1 W2 h1 h2 => hJx s W1 W2 none h1 h2 (by simp), fun pre x W1 h1 h2 => hY pre x W1 h1 h2, fun g' caps' h' ρ' w' vs' hit hK' hkp' hv' h0' => ?_⟩
      · obtain ⟨k', _, rfl⟩ := freeze_get hk
        rfl
      · obtain ⟨hent, us', hus', hseq⟩ := hIt _ _ _ _ hit G ρ' w' vs' hK' hv'
        have hu := pure2s_fun hpu hus hus'
        refine ⟨hent, hseq (n - 1) β f zs hu l J Jx w' (Below.refl _ _) (abides_le hkp'.1 hJ) (abides_le hkp'.1 hJx) (fun pre x W1 h1 h2 => yield_deep (hY pre x W1 h1 h2)) h0'⟩
    refine callsIn_of_wp hfn hbody trivial ?_ rfl
    refine wpIn_mono (evIt_sound (l := l) E (n0 := h.length) (by have := hH.len; unfold freeze at this; simpa using this) c hnd (ρ1 := []) hx ⟨⟨Nat.zero_le _, h0⟩, fun _ => ⟨Nat.le_refl _, fun _ _ _ => rfl⟩, by simpa using hH, ?_, Bel.refl _ _, ?_⟩) fun e a' w' he => ?_
    · rw [List.append_nil]
      simpa using hT
    · rfl
    · obtain ⟨x', ρ1', st', i', s', hs', hex, hk, hR'⟩ := he
      have fin : (s' = 0 → i' = xs.length) → (∃ v, Ending.returned (.tuple #[]) = .returned v) ∧ ((∃ ys, ys = zs ∧ J ys w') ∨ (∃ pre, pre <+: zs ∧ Jx pre w')) := fun hk => by
        refine ⟨⟨_, rfl⟩, ?_⟩
        have hj := hR'.ji.2
        match s', hk, hj with
        | 0, hk, hj =>
          refine .inl ⟨zs, rfl, ?_⟩
          have : i' = zs.length := by rw [hk rfl, hlen]
          subst this
          simpa using hj
        | 1, _, hj => exact .inr ⟨_, List.take_prefix _ _, hj⟩
        | _ + 2, _, hj => exact .inl ⟨zs, rfl, hj⟩
      have hr0 : fn.results = #[] := by
        have := hres
        simpa using this
      cases e with
      | normal => cases x' with
        | normal => exact bodyPost_end (results_none hr0 _ _ _) hR'.df (fin hk)
        | exit _ => exact hex.elim
        | ret => exact hex.elim
      | ret => cases x' with
        | ret => exact bodyPost_ret (results_none hr0 _ _ _) hR'.df (fin hk)
        | normal => exact hex.elim
        | exit _ => exact hex.elim
      | exit i => cases x' with
        | exit j => exact hk.elim
        | normal => exact hex.elim
        | ret => exact hex.elim
      | goto l => cases x' <;> exact hex.elim
      | panic c => cases x' <;> exact hex.elim
      | outgrown => cases x' <;> exact hex.elim

/-- What may be written is read as what may not. -/
theorem itOK_thaw (hst : strict = false) {g : FuncId} {caps : List AV} {h : Hp} {xs : List AV} (hI : ItOK P g caps (freeze h) xs) : ItOK P g caps h xs :=
  fun G ρ w vs hK hv => hI G ρ w vs (hK.frozen hst (Below.refl _ _)).1 hv

end
end Go.Sx
