/-
  The calculus (SxA): code, loops, functions; what is said of an iterator.
-/
import Derived.Test.YthfgocpejlhanaaSxB
import Derived.Test.YthfgocpejlhanaaSxN
import Derived.RangeFuncNested
namespace Go.Sx
open Go.RowKit

/-- Rows and objects that an iterator reads: what they take is among the blocks of G. -/
structure HpK (G : Gd) (ρ : List Loc) (h : Hp) (w : World) : Prop where
  hp : ∃ B o, HpR B ρ h w ∧ ObjsO o B ρ h w ∧ ∀ r k l, h.obj r = some k → At ρ r l → ∀ b ∈ o r, G b
  row : ∀ r k l, h.row r = some k → At ρ r l → G l.b
  low : ∀ b, G b → b < w.heap.size

/-- Those blocks are as they were. -/
def KpG (G : Gd) (w w' : World) : Prop := w.heap.size ≤ w'.heap.size ∧ ∀ b, G b → b < w.heap.size → w'.heap[b]? = w.heap[b]?

/-- The iterator g, with what it has captured, goes through xs, as long as what it reads stands. -/
def ItOK (P : Program) (g : FuncId) (caps : List AV) (h : Hp) (xs : List AV) : Prop :=
  ∀ G ρ w vs, HpK G ρ h w → AVRs ρ caps vs → (∀ args w, (callFunc g args).run P w = .ok (.enter g args) w) ∧
    ∃ us : List Value, AVRs [] xs us ∧ ∀ (n : Nat) (β : Type) (f : β → Value) (zs : List β), zs.map f = us → SeqStopsK (rnd none) n P g vs.toArray (fun z : β => #[f z]) (KpG G) (fun ys => ys = zs) (fun pre => pre <+: zs) zs.length w

/-- Of a heap those rows alone. -/
def selH (rd : List Nat) (h : Hp) : Hp := h.mapIdx fun i x => match rd.contains i with | true => x | false => none

/-- Those rows, and all objects, may be written no more. -/
def frzH (rd : List Nat) (h : Hp) : Hp := h.mapIdx fun i x => match x with
  | some k => (match rd.contains i, k.esz with | true, _ => some { k with wr := false } | false, 0 => some { k with wr := false } | false, _ + 1 => some k)
  | none => none

/-- The rows of a round's end: those that were there, in order, and those that they name. -/
def weakR (n0 : Nat) (rm : List Nat) (h : Hp) : Option Hp :=
  let a := seenR n0 h (List.range n0) []
  let a := seenR n0 h a a
  let σ := List.range n0 ++ a
  match decide σ.Nodup with
  | true => weakH σ h σ (σ.map fun r => (match h[r]? with | some (some _) => (match rm with | [] => 1 | m :: _ => m) | _ => 0))
  | false => none

/-- A round's end. -/
def rngEnd {α : Type} (n0 : Nat) (t : List AV) (xs : List α) (H : List α → Hp) (I : List α → Prop) (rm : List Nat) (pre : List α) (K : Ex → St → List Hint → Prop) : Ex → St → List Hint → Prop := fun e s hs => match e with
  | .normal => match weakR n0 rm s.h with
    | some h => frzH [] h = H pre ∧ I pre
    | none => False
  | .goto _ => False
  | e => pre <+: xs → K e ⟨t, frzH [] s.h⟩ hs

/-- A range over a function: by what is said of its iterator. -/
def evRng (n0 : Nat) (asg body : St → List Hint → (Ex → St → List Hint → Prop) → Prop) (It : List AV → Hp → List AV → Prop) (ps : List Tmp) (caps : List AV) (st : St) (hs : List Hint) (K : Ex → St → List Hint → Prop) : Prop :=
  match hs, ps, strict with
  | .rng _ E xs rd bx H I m0 m rs :: hs, [p], false => (match addBx bx (frzH rd st.h) with
      | some h => (match weakR n0 m0 h with | some h => frzH [] h = H [] ∧ I [] | none => False)
      | none => False) ∧ It caps (selH rd st.h) (xs.map E) ∧
      (∀ pre x, pre.length < xs.length → I pre → asg ⟨st.t.set p (E x), H pre⟩ (rs pre x) fun e s1 hs1 => match e with
        | .normal => body ⟨s1.t, frzH [] s1.h⟩ hs1 (rngEnd n0 st.t xs H I m (pre ++ [x]) K)
        | _ => False) ∧
      (I xs → K .normal ⟨st.t, H xs⟩ hs)
  | _, _, _ => False

/-- Objects may all be written. -/
def objsWr (h : Hp) : Bool := h.all fun x => match x with
  | some ⟨w, _, 0, _, _⟩ => w
  | _ => true

def putTs : List AV → List (Nat × AV) → List AV
  | t, [] => t
  | t, (p, y) :: l => putTs (t.set p y) l

/-- Is the loop to go on? -/
def goOn : Option Ex → Bool
  | none => true
  | some _ => false

/-- A round of a range over a function, carried out where its iterator calls it: what it tells is whether (and how) the loop is left. -/
def roundI (asg body : Nat → St → List Hint → (Ex → St → List Hint → Prop) → Prop) (t : List AV) (ps : List Tmp) (ys : List AV) (h : Hp) (hs : List Hint) (K : Option Ex → Hp → List Hint → Prop) : Prop :=
  match decide (ys.length = ps.length) with
  | true => asg h.length ⟨putTs t (ps.zip ys), h⟩ hs fun e s1 hs1 => match e with
    | .normal => (match objsWr s1.h with
      | true => body s1.h.length s1 hs1 fun e s2 hs2 => match e with
        | .normal => (match objsWr s2.h with
          | true => K none s2.h hs2
          | false => False)
        | .goto _ => False
        | .ret => (match objsWr s2.h with
          | true => K (some .ret) s2.h hs2
          | false => False)
        | .exit id => (match objsWr s2.h with
          | true => K (some (.exit id)) s2.h hs2
          | false => False)
      | false => False)
    | _ => False
  | false => False

abbrev Rnd := List AV → Hp → List Hint → (Option Ex → Hp → List Hint → Prop) → Prop

/-- An iterator's operations: a call of yield is a round; 'm': how the loop was left. -/
def evOpsI (C : Call) (P : Program) (l : Nat) (Rd : Rnd) (ops : List Oper) : List Oper → St → Option Ex → List Hint → (St → Option Ex → List Hint → Prop) → Prop
  | [], st, m, hs, K => K st m hs
  | o :: rest, st, m, hs, K => match o.op with
    | .call { callee := .value (.tmp t), args, argTypes := _ } => wanted ops o st hs fun w st hs => match w with
      | false => fSt (st.put o.dst (.lit undef)) fun st => evOpsI C P l Rd ops rest st m hs K
      | true => match st.op (.tmp t), m with
        | .func (.yield l') [] [], none => l' = l ∧ Rd (args.toList.map st.op) st.h hs fun m h hs => fSt (({ st with h := h } : St).put o.dst (.lit (.bool (goOn m)))) fun st => evOpsI C P l Rd ops rest st m hs K
        | _, _ => False
    | _ => evOne C P ops o st hs fun st hs => evOpsI C P l Rd ops rest st m hs K

/-- A round's end in an iterator's loop. -/
def roundEndI (n0 : Nat) (M M' : Modes) (N : St → Prop) (K : Ex → St → Option Ex → List Hint → Prop) (hs : List Hint) : Ex → St → Option Ex → List Hint → Prop := fun e s m hs2 => match e, m with
  | .normal, some _ => False
  | e, m => roundEnd n0 M M' N (fun e st hs => K e st m hs) hs e s hs2

def evItI (C : Call) (P : Program) (l n0 : Nat) (Rd : Rnd) : Code → St → Option Ex → List Hint → (Ex → St → Option Ex → List Hint → Prop) → Prop
  | .skip, st, m, hs, K => K .normal st m hs
  | .region _ ops draw, st, m, hs, K => match draw with
    | true => splits 6 hs fun hs => evRegion C P ops true st hs fun st hs => K .normal st m hs
    | false => splits 6 hs fun hs => evOpsI C P l Rd ops.toList ops.toList st m hs fun st m hs => K .normal st m hs
  | .seq a b, st, m, hs, K => evItI C P l n0 Rd a st m hs fun e st m hs => match e with
    | .normal => evItI C P l n0 Rd b st m hs K
    | e => K e st m hs
  | .cond c a b, st, m, hs, K => test (st.op c) hs fun p hs => match p with
    | true => evItI C P l n0 Rd a st m hs K
    | false => evItI C P l n0 Rd b st m hs K
  | .block id body, st, m, hs, K => evItI C P l n0 Rd body st m hs fun e st m hs => match e with
    | .exit id' => match decide (id' = id) with
      | true => K .normal st m hs
      | false => K (.exit id') st m hs
    | e => K e st m hs
  | .loop body, st, m, hs, K => match m, hs with
    | none, .linv _ p0 Φ I μ M0 M M' af hs' :: hs => (match weakSt n0 M0 st with | some T => T = Φ p0 ∧ I p0 | none => False) ∧
        ∀ p, I p → evItI C P l n0 Rd body (Φ p) none (hs' p) (roundEndI n0 M M' (fun T => ∃ p', T = Φ p' ∧ I p' ∧ μ p' < μ p) K (af p ++ hs))
    | none, .linw _ _ p0 Φ Ψ I J μ ν M0 M M' af ag hs' gs' :: hs => (match weakSt n0 M0 st with | some T => T = Φ p0 ∧ I p0 | none => False) ∧
        (∀ p, I p → evItI C P l n0 Rd body (Φ p) none (hs' p) (roundEndI n0 M M' (fun T => (∃ p', T = Φ p' ∧ I p' ∧ μ p' < μ p) ∨ ∃ q, T = Ψ q ∧ J q ∧ ν q < μ p) K (af p ++ hs))) ∧
        ∀ q, J q → evItI C P l n0 Rd body (Ψ q) none (gs' q) (roundEndI n0 M M' (fun T => (∃ p, T = Φ p ∧ I p ∧ μ p < ν q) ∨ ∃ q', T = Ψ q' ∧ J q' ∧ ν q' < ν q) K (ag q ++ hs))
    | _, _ => False
  | .exit id, st, m, hs, K => K (.exit id) st m hs
  | .ret, st, m, hs, K => K .ret st m hs
  | _, _, _, _, _ => False

/-- How the loop is left. -/
def exOf : Option Ex → Ex
  | none => .normal
  | some e => e

/-- A range over a function whose iterator is carried out on the spot, its rounds where it calls yield. -/
def evInl (C : Call) (P : Program) (gf : FuncId) (caps : List AV) (Rd : Rnd) (st : St) (H : Nat → List Hint) (hs : List Hint) (K : Ex → St → List Hint → Prop) : Prop :=
  match P.funcs[gf]? with
  | none => False
  | some fn => match fn.body with
    | none => False
    | some c => match decide (fn.results.toList.length = 0), noDef c && (fn.name != "runtime.NumGoroutine"), decide (caps.length + 1 ≤ fn.ntmps) with
      | true, true, true => ∀ l, evItI C P l st.h.length Rd c ⟨(AV.func (.yield l) [] [] :: caps) ++ List.replicate (fn.ntmps - (caps.length + 1)) (.lit undef), st.h⟩ none (H l) fun e s2 m _ => match e with
        | .exit _ => False
        | .goto _ => False
        | _ => (match objsWr s2.h with
          | true => K (exOf m) ⟨st.t, s2.h⟩ hs
          | false => False)
      | _, _, _ => False

def ev (C : Call) (P : Program) (n0 : Nat) : Code → Md → St → List Hint → (Ex → St → List Hint → Prop) → Prop
  | .seq a b, m, st, hs, K => match m with
    | .all => ev C P n0 a .all st hs fun e st hs => match e with
      | .normal => ev C P n0 b .all st hs K
      | e => K e st hs
    | .til l => match onSpine a l with
      | true => ev C P n0 a (.til l) st hs K
      | false => ev C P n0 a .all st hs fun e st hs => match e with
        | .normal => ev C P n0 b (.til l) st hs K
        | e => K e st hs
    | .beh l => match onSpine a l with
      | true => ev C P n0 a (.beh l) st hs fun e st hs => match e with
        | .normal => ev C P n0 b .all st hs K
        | e => K e st hs
      | false => ev C P n0 b (.beh l) st hs K
  | .label l', m, st, hs, K => match m with
    | .all => K .normal st hs
    | .til l => match decide (l' = l) with
      | true => K .normal st hs
      | false => False
    | .beh l => match decide (l' = l) with
      | true => K .normal st hs
      | false => False
  | .skip, .all, st, hs, K => K .normal st hs
  | .region _ ops draw, .all, st, hs, K => match draw with
    | true => mrg n0 true (fun hs K => splits 6 hs fun hs => match hs with
      | .dag css M Φ :: hs => evDag n0 C P ops css M Φ st hs fun st hs => K .normal st hs
      | hs => evRegion C P ops true st hs fun st hs => K .normal st hs) hs K
    | false => splits 6 hs fun hs => evRegion C P ops false st hs fun st hs => K .normal st hs
  | .cond c a b, .all, st, hs, K => mrg n0 false (fun hs K => test (st.op c) hs fun p hs => match p with
    | true => ev C P n0 a .all st hs K
    | false => ev C P n0 b .all st hs K) hs K
  | .block id body, .all, st, hs, K => mrg n0 false (fun hs K => ev C P n0 body .all st hs fun e st hs => match e with
    | .exit id' => match decide (id' = id) with
      | true => K .normal st hs
      | false => K (.exit id') st hs
    | e => K e st hs) hs K
  | .loop body, .all, st, hs, K => match hs with
    | .loop n :: hs => loopN (ev C P n0 body .all) n st hs K
    | .linv _ p0 Φ I μ M0 M M' af hs' :: hs => (match weakSt n0 M0 st with | some T => T = Φ p0 ∧ I p0 | none => False) ∧
        ∀ p, I p → ev C P n0 body .all (Φ p) (hs' p) (roundEnd n0 M M' (fun T => ∃ p', T = Φ p' ∧ I p' ∧ μ p' < μ p) K (af p ++ hs))
    | .linw _ _ p0 Φ Ψ I J μ ν M0 M M' af ag hs' gs' :: hs => (match weakSt n0 M0 st with | some T => T = Φ p0 ∧ I p0 | none => False) ∧
        (∀ p, I p → ev C P n0 body .all (Φ p) (hs' p) (roundEnd n0 M M' (fun T => (∃ p', T = Φ p' ∧ I p' ∧ μ p' < μ p) ∨ ∃ q, T = Ψ q ∧ J q ∧ ν q < μ p) K (af p ++ hs))) ∧
        ∀ q, J q → ev C P n0 body .all (Ψ q) (gs' q) (roundEnd n0 M M' (fun T => (∃ p, T = Φ p ∧ I p ∧ μ p < ν q) ∨ ∃ q', T = Ψ q' ∧ J q' ∧ ν q' < ν q) K (ag q ++ hs))
    | _ => False
  | .exit id, .all, st, hs, K => K (.exit id) st hs
  | .ret, .all, st, hs, K => K .ret st hs
  | .goto l, .all, st, hs, K => K (.goto l) st hs
  | .scope body, .all, st, hs, K => match hs with
    | .jmp l _ p0 Φ I μ M0 M hs' :: hs => ev C P n0 body (.til l) st hs fun e st hs => match e with
      | .normal => (match weakSt n0 M0 st with | some T => T = Φ p0 ∧ I p0 | none => False) ∧
          ∀ p, I p → ev C P n0 body (.beh l) (Φ p) (hs' p) (jmpEnd n0 l M (fun T => ∃ p', T = Φ p' ∧ I p' ∧ μ p' < μ p) (noJmp K))
      | e => noJmp K e st hs
    | hs => ev C P n0 body .all st hs (noJmp K)
  | .rangeFunc g ps a b, .all, st, hs, K => match noDef a && noDef b, st.op g with
    | true, .func (.func gf) [] caps => (match hs with
      | .inl H :: hs => evInl C P gf caps (roundI (fun n => ev C P n a .all) (fun n => ev C P n b .all) st.t ps.toList) st H hs K
      | hs => evRng st.h.length (ev C P st.h.length a .all) (ev C P st.h.length b .all) (ItOK P gf) ps.toList caps st hs K)
    | _, _ => False
  | _, _, _, _, _ => False

def resOne (P : Program) (st : St) : ResultVar → Option AV
  | .tmp t => some (st.t.getD t .any)
  | .cell a t => match st.t.getD a .any with
    | .ptr r i o true => match st.h.row r with
      | some k => k.read P t i o
      | none => none
    | _ => none

def resAll (P : Program) (st : St) (rs : List ResultVar) : Option AV :=
  match allSome (rs.map (resOne P st)) with
  | some [v] => some v
  | some vs => some (.tuple vs)
  | none => none

def evFn (C : Call) (P : Program) : Call := fun f args h hs K =>
  match P.funcs[f]? with
  | none => False
  | some fn => match fn.body with
    | none => False
    | some c => match decide (args.length ≤ fn.ntmps) with
      | false => False
      | true => ev C P h.length c .all ⟨args ++ List.replicate (fn.ntmps - args.length) (.lit undef), h⟩ hs fun e st hs => match e with
        | .exit _ => False
        | .goto _ => False
        | _ => match resAll P st fn.results.toList with
          | some v => K v st.h hs
          | none => False

abbrev Spec := List AV → Hp → (AV → Hp → Prop) → Prop

def callN (O : FuncId → Option Spec) (P : Program) : Nat → Call
  | 0 => fun _ _ _ _ _ => False
  | n + 1 => fun f args h hs K => match O f with
    | some sp => sp args h fun v h => K v h hs
    | none => evFn (callN O P n) P f args h hs K

end Go.Sx
