/-
  The calculus (SxA): arguments of plain types as it sees them; what a law's row asks.
-/
import Derived.Test.YthfgocpejlhanaaSxK
import Derived.ProofKit
import Derived.OpenShut
import Derived.Carry
namespace Go.Sx
open Go.RowKit Go.WideShapes

/-- The kind of a cell. -/
inductive CK where
  | int (k : IntKind)
  | bool
  | str
  deriving DecidableEq

def CK.fits : CK → Value → Prop
  | .int k, v => ∃ n, v = .int k n ∧ (Lit.int k n).wf = true
  | .bool, v => ∃ b, v = .bool b
  | .str, v => ∃ s : ByteArray, v = .string s ∧ s.size ≤ maxLen

def fitsAll : List CK → List Value → Prop
  | [], [] => True
  | k :: ks, v :: vs => k.fits v ∧ fitsAll ks vs
  | _, _ => False

theorem wf_u64 {n : Int} (h : (Lit.int .u64 n).wf = true) : 0 ≤ n ∧ n < 18446744073709551616 := by
  simp [Lit.wf] at h
  have h1 : IntKind.u64.min = 0 := by decide
  have h2 : IntKind.u64.max = 18446744073709551615 := by decide
  omega

theorem fits_u64 {v : Value} (h : CK.fits (.int .u64) v) : ∃ x : BitVec 64, v = .int .u64 (x.toNat : Int) := by
  obtain ⟨n, rfl, hw⟩ := h
  obtain ⟨h0, h1⟩ := wf_u64 hw
  exact ⟨BitVec.ofInt 64 n, by rw [toNat_ofInt h0 h1]⟩

theorem fits_cons {k : CK} {ks : List CK} {cs : List Value} (h : fitsAll (k :: ks) cs) : ∃ v vs, cs = v :: vs ∧ k.fits v ∧ fitsAll ks vs := by
  cases cs with
  | nil => exact h.elim
  | cons v vs => exact ⟨v, vs, rfl, h.1, h.2⟩

theorem fits_nil {cs : List Value} (h : fitsAll [] cs) : cs = [] := by
  cases cs with
  | nil => rfl
  | cons v vs => exact h.elim

theorem fitsAll_append : ∀ {ks ls : List CK} {vs us : List Value}, fitsAll ks vs → fitsAll ls us → fitsAll (ks ++ ls) (vs ++ us)
  | [], _, [], _, _, h => h
  | _ :: _, _, _ :: _, _, h, h' => ⟨h.1, fitsAll_append h.2 h'⟩
  | [], _, _ :: _, _, h, _ => h.elim
  | _ :: _, _, [], _, h, _ => h.elim

def kindsF (P : Program) (kd : TypeId → Option (List CK)) : Nat → List Field → Option (List CK)
  | _, [] => some []
  | off, f :: fs => match kd f.type with
    | some ks => match decide (f.offset = off ∧ ks.length = P.cellsOf f.type) with
      | true => match kindsF P kd (off + ks.length) fs with
        | some r => some (ks ++ r)
        | none => none
      | false => none
    | none => none

/-- The kinds of a type's cells, where all of them are numbers, bools, strings. -/
def kinds (P : Program) : Nat → TypeId → Option (List CK)
  | 0, _ => none
  | d + 1, t => match P.underlying t with
    | some .bool => some [.bool]
    | some (.int k) => some [.int k]
    | some .string => some [.str]
    | some (.struct fs) => match kindsF P (kinds P d) 0 fs.toList with
      | some ks => match decide (ks.length = P.cellsOf t) with | true => some ks | false => none
      | none => none
    | some (.array n e) => match kinds P d e with
      | some ks => match decide (ks.length = P.cellsOf e ∧ n * ks.length = P.cellsOf t) with
        | true => some ((List.replicate n ks).flatten)
        | false => none
      | none => none
    | _ => none

section
variable {P : Program} {H : Type} {enc : TypeId × Value → H} {w : World} {base : Nat} {spare : Nat → Bool} {held : Bool}

theorem kindsF_fit {kd : TypeId → Option (List CK)} (ih : ∀ t ks, kd t = some ks → ∀ (fuel : Nat) (cs : List Value) (x : DataW H × List MemPlace), DataW.trod enc P w base spare held fuel t cs = some x → fitsAll ks cs) :
    ∀ (fs : List Field) (off : Nat) {ks : List CK}, kindsF P kd off fs = some ks → ∀ {cs : List Value} {fuel : Nat}, (∀ f ∈ fs, ∃ b, DataW.trod enc P w base spare held fuel f.type ((cs.drop f.offset).take (P.cellsOf f.type)) = some b) → cs.length = off + ks.length → fitsAll ks (cs.drop off)
  | [], off, ks, h, cs, fuel, _, hl => by
    simp [kindsF] at h; subst h
    rw [List.drop_eq_nil_of_le (by simp at hl; omega)]; trivial
  | f :: fs, off, ks, h, cs, fuel, hall, hl => by
    unfold kindsF at h
    split at h
    · rename_i ks1 hk
      split at h
      · rename_i hd
        obtain ⟨hoff, hsz⟩ := of_decide_eq_true hd
        split at h
        · rename_i r hr
          simp at h; subst h
          obtain ⟨b, hb⟩ := hall f (by simp)
          have h1 := ih _ _ hk _ _ _ hb
          rw [List.length_append] at hl
          have h2 := kindsF_fit ih fs (off + ks1.length) hr (cs := cs) (fuel := fuel) (fun g hg => hall g (by simp [hg])) (by omega)
          rw [hoff, ← hsz] at h1
          rw [← List.drop_drop] at h2
          have := fitsAll_append h1 h2
          rwa [List.take_append_drop] at this
        · simp at h
      · simp at h
    · simp at h

theorem kinds_fit : ∀ (D : Nat) {t : TypeId} {ks : List CK}, kinds P D t = some ks → ∀ {fuel : Nat} {cs : List Value} {x : DataW H × List MemPlace}, DataW.trod enc P w base spare held fuel t cs = some x → fitsAll ks cs
  | 0, _, _, h, _, _, _, _ => by simp [kinds] at h
  | D + 1, t, ks, h, fuel, cs, x, hx => by
    unfold kinds at h
    split at h
    · rename_i hu
      simp at h; subst h
      obtain ⟨b, rfl, _⟩ := DataW.trod_bool hu hx
      exact ⟨⟨b, rfl⟩, trivial⟩
    · rename_i k hu
      simp at h; subst h
      obtain ⟨n, rfl, _, hw⟩ := DataW.trod_int hu hx
      exact ⟨⟨n, rfl, hw⟩, trivial⟩
    · rename_i hu
      simp at h; subst h
      obtain ⟨s, rfl, _, hs⟩ := DataW.trod_string hu hx
      exact ⟨⟨s, rfl, hs⟩, trivial⟩
    · rename_i fs hu
      split at h
      · rename_i ks' hk
        split at h
        · rename_i hlen
          have hlen := of_decide_eq_true hlen
          simp at h; subst h
          obtain ⟨xs, n, rfl, _, hcl, hxl, hall⟩ := DataW.trod_struct hu hx
          have := kindsF_fit (fun t ks hk fuel cs x hx => kinds_fit D hk hx) fs.toList 0 hk (cs := cs) (fuel := n) (fun f hf => by
            obtain ⟨i, hi⟩ := List.mem_iff_getElem?.1 hf
            have hi' : fs[i]? = some f := by simpa using hi
            have hlt : i < xs.length := by rw [hxl]; exact (Array.getElem?_eq_some_iff.1 hi').1
            exact ⟨_, (hall i f hi').trans (List.getElem?_eq_getElem hlt)⟩) (by omega)
          simpa using this
        · simp at h
      · simp at h
    · rename_i n e hu
      split at h
      · rename_i ks' hk
        split at h
        · rename_i hlen
          have hlen := of_decide_eq_true hlen
          simp at h; subst h
          obtain ⟨xs, m, rfl, _, hcl, hxl, hall⟩ := DataW.trod_array hu hx
          have each : ∀ i, i < n → fitsAll ks' ((cs.drop (i * P.cellsOf e)).take (P.cellsOf e)) := fun i hi =>
            kinds_fit D hk ((hall i hi).trans (List.getElem?_eq_getElem (by omega)))
          have hsz : cs.length = n * P.cellsOf e := by rw [hcl, ← hlen.2, hlen.1]
          have key : ∀ (m : Nat), m ≤ n → fitsAll ((List.replicate m ks').flatten) (cs.drop ((n - m) * P.cellsOf e)) := by
            intro m
            induction m with
            | zero => intro _; simp only [List.replicate_zero, List.flatten_nil, Nat.sub_zero]; rw [List.drop_eq_nil_of_le (by omega)]; trivial
            | succ m ih =>
              intro hm
              rw [List.replicate_succ, List.flatten_cons]
              have h1 := each (n - (m + 1)) (by omega)
              have h2 := ih (by omega)
              have e1 : n - m = (n - (m + 1)) + 1 := by omega
              rw [e1, Nat.add_mul, Nat.one_mul, ← List.drop_drop] at h2
              have := fitsAll_append h1 h2
              rwa [List.take_append_drop] at this
          have := key n (Nat.le_refl _)
          simpa using this
        · simp at h
      · simp at h
    · simp at h

/-- An argument of a plain type: it reads as its cells say. -/
theorem open_flat {t : TypeId} {D : Nat} {ks : List CK} (hk : kinds P D t = some ks) {r : Reach} {b0 : Nat} {v : Value} {d : DataW H} {p : List MemPlace} (_hv : Value.okWide P w r b0 t v) (h : DataW.Trod enc P w base spare held t v d p) :
    fitsAll ks v.cells.toList := by
  obtain ⟨fuel, hf⟩ := h
  exact kinds_fit D hk hf

theorem open_agg {t : TypeId} (ht : isAggT P t = some true) {r : Reach} {b0 : Nat} {v : Value} (hv : Value.okWide P w r b0 t v) : ∃ cs : List Value, v = .agg cs.toArray := by
  unfold isAggT at ht
  unfold Value.okWide at hv
  split at ht <;> simp_all
  · obtain ⟨cs, rfl, _⟩ := hv; exact ⟨cs.toList, by simp⟩
  · obtain ⟨cs, rfl, _⟩ := hv; exact ⟨cs.toList, by simp⟩

end

theorem HpR.nil {w : World} (hG : GlobOK w.heap.size w) : HpR w.heap.size [] [] w := ⟨rfl, .refl _, fun r k l h => by simp [Hp.row] at h, fun r r' k k' l l' h => by simp [Hp.row] at h, hG, .none fun r k h => by simp [Hp.obj] at h⟩

/-- From a run of the calculus to a call, of arguments that name no row. -/
theorem calls_of {P : Program} {C : Call} (hC : COK P false C) {f : FuncId} {args : List AV} {hs : List Hint} {K : AV → Hp → List Hint → Prop} (h : C f args [] hs K) {w : World} (hG : GlobOK w.heap.size w) {vs : List Value} (hv : AVRs [] args vs) (hg : noNG P = true) {fn : Func} (hf : P.funcs[f]? = some fn) (hb : fn.body.isSome = true) :
    Calls P f vs.toArray w fun e w' => ∃ u, e = .returned u ∧ ∃ ρ x h' hs', K x h' hs' ∧ AVR ρ x u ∧ HpR w.heap.size ρ h' w' ∧ Bel (bl w.heap.size) w w' := by
  have := hC f args [] hs K h w.heap.size [] w vs (HpR.nil hG) hv
  rcases this with ⟨hr, hc⟩ | ⟨v, w', hr, _⟩
  · refine hc.mono fun e w' he => ?_
    cases e with
    | returned u =>
      obtain ⟨ρ', x, h', hs', k, r, hh, b, _⟩ := he
      exact ⟨u, rfl, ρ', x, h', hs', k, by simpa using r, by simpa using hh, by simpa using b⟩
    | panicked c => exact he.elim
    | outgrown => exact he.elim
  · have hname : ¬ fn.name = "runtime.NumGoroutine" := by
      have hmem : fn ∈ P.funcs.toList := List.mem_of_getElem? (i := f) (by simpa using hf)
      have := List.all_eq_true.1 hg fn hmem
      simpa [bne] using this
    obtain ⟨c, hc⟩ := Option.isSome_iff_exists.1 hb
    simp [callFunc, hf, hc, hname] at hr

/-- What a law's last line comes to. -/
def isTrue (v : AV) (_ : Hp) (_ : List Hint) : Prop := match v.asBool with | some (_, b) => b = true | none => False

theorem calls_true {P : Program} {C : Call} (hC : COK P false C) {f : FuncId} {args : List AV} {hs : List Hint} (h : C f args [] hs isTrue) {w : World} (hG : GlobOK w.heap.size w) {vs : List Value} (hv : AVRs [] args vs) (hg : noNG P = true) {fn : Func} (hf : P.funcs[f]? = some fn) (hb : fn.body.isSome = true) :
    Calls P f vs.toArray w fun e w' => e = .returned (.bool true) ∧ Below w.heap.size w w' := by
  refine (calls_of hC h hG hv hg hf hb).mono fun e w' he => ?_
  obtain ⟨u, rfl, ρ, x, h', hs', hk, hr, _, hbl⟩ := he
  refine ⟨?_, hbl.below⟩
  unfold isTrue at hk
  split at hk
  · rename_i s b hxb
    rw [asBool_rel hr hxb, hk]
  · exact hk.elim

/-- It names no row. -/
def AV.pure1 : AV → Bool
  | .lit _ | .int _ _ | .w64 _ | .bool _ | .val _ | .func (.func _) [] [] => true
  | _ => false

theorem pureF_any {ρ ρ' : List Loc} {fn : Fn} {a b : List AV} {v : Value} (hp : (AV.func fn a b).pure1 = true) (h : AVR ρ (.func fn a b) v) : AVR ρ' (.func fn a b) v := by
  cases h with
  | func h1 h2 => cases fn <;> cases a <;> cases b <;> first | (simp [AV.pure1] at hp; done) | (cases h1; cases h2; exact .func .nil .nil)

def AV.pure2 : AV → Bool
  | .agg cs => cs.all AV.pure1
  | x => x.pure1

def AV.pure3 : AV → Bool
  | .tuple cs => cs.all AV.pure2
  | x => x.pure2

theorem pure1_any {ρ ρ' : List Loc} {x : AV} {v : Value} (hp : x.pure1 = true) (h : AVR ρ x v) : AVR ρ' x v := by
  cases h with
  | lit v => exact .lit v
  | int k n => exact .int k n
  | w64 x => exact .w64 x
  | bool b => exact .bool b
  | val v => exact .val v
  | func h1 h2 => exact pureF_any hp (.func h1 h2)
  | _ => simp [AV.pure1] at hp

theorem pures_any {p : AV → Bool} {ρ ρ' : List Loc} (hp : ∀ {x : AV} {v : Value}, p x = true → AVR ρ x v → AVR ρ' x v) : ∀ {xs : List AV} {vs : List Value}, xs.all p = true → AVRs ρ xs vs → AVRs ρ' xs vs
  | _, _, _, .nil => .nil
  | _, _, hh, .cons h0 h1 => by
    simp only [List.all_cons, Bool.and_eq_true] at hh
    exact .cons (hp hh.1 h0) (pures_any hp hh.2 h1)

theorem pure2_any {ρ ρ' : List Loc} {x : AV} {v : Value} (hp : x.pure2 = true) (h : AVR ρ x v) : AVR ρ' x v := by
  cases h with
  | agg h => exact .agg (pures_any pure1_any hp h)
  | lit v => exact .lit v
  | int k n => exact .int k n
  | w64 x => exact .w64 x
  | bool b => exact .bool b
  | val v => exact .val v
  | func h1 h2 => exact pureF_any hp (.func h1 h2)
  | _ => simp [AV.pure2, AV.pure1] at hp

theorem pure3_any {ρ ρ' : List Loc} {x : AV} {v : Value} (hp : x.pure3 = true) (h : AVR ρ x v) : AVR ρ' x v := by
  cases h with
  | tuple h => exact .tuple (pures_any pure2_any hp h)
  | agg h => exact pure2_any (x := .agg _) hp (.agg h)
  | lit v => exact .lit v
  | int k n => exact .int k n
  | w64 x => exact .w64 x
  | bool b => exact .bool b
  | val v => exact .val v
  | func h1 h2 => exact pureF_any hp (.func h1 h2)
  | _ => simp [AV.pure3, AV.pure2, AV.pure1] at hp

/-- A function of plain values: F says what must hold, and what comes out. -/
def pureSpec (F : List AV → Option (Prop × AV)) : Spec := fun args h K => match (args.map canon).all AV.pure2 with
  | true => match F (args.map canon) with
    | some (p, x) => p ∧ K x h
    | none => False
  | false => False

/-- What a function of plain values is to come to. -/
def comesTo (x : AV) (v : AV) (_ : Hp) (_ : List Hint) : Prop := canon2 v = x

theorem pureSpec_ok {P : Program} {C : Call} (hC : COK P false C) {f : FuncId} {F : List AV → Option (Prop × AV)}
    (h : ∀ args p x, F args = some (p, x) → p → x.pure3 = true ∧ ∃ hs, C f args [] hs (comesTo x)) : SpecOK P f (pureSpec F) := by
  intro args h' K hK B ρ w vs hH hv
  unfold pureSpec at hK
  split at hK
  · rename_i hall
    split at hK
    · rename_i p x hF
      obtain ⟨hp, hk⟩ := hK
      obtain ⟨hx, hs, hc⟩ := h _ _ _ hF hp
      have hargs : AVRs [] (args.map canon) vs := pures_any pure2_any hall (canon_rels hv)
      have conv : ∀ u w', (∃ ρ' y h' hs', comesTo x y h' hs' ∧ AVR ([] ++ ρ') y u ∧ HpR w.heap.size ([] ++ ρ') h' w' ∧ Bel (if false = true then bl w.heap.size else bl w.heap.size) w w' ∧ (false = true → ([] : Hp) <+: h')) →
          ∃ ρ' x h', K x h' ∧ AVR (ρ ++ ρ') x u ∧ HpR B (ρ ++ ρ') h' w' ∧ Bel B w w' := by
        rintro u w' ⟨ρ', y, h2, hs', hy, hr, _, hb, _⟩
        have hb : Bel (bl w.heap.size) w w' := by simpa using hb
        have := canon2_rel hr
        rw [show canon2 y = x from hy] at this
        exact ⟨[], x, h', hk, by simpa using pure3_any (ρ' := ρ) hx this, by simpa using hH.below hb, hb.mono hH.base⟩
      rcases hC f (args.map canon) [] hs _ hc w.heap.size [] w vs (HpR.nil (hH.glob.mono hH.base)) hargs with ⟨hr, hcl⟩ | ⟨v, w', hr, hl⟩
      · exact .inl ⟨hr, hcl.mono fun e w' he => by cases e with
          | returned v => exact conv v w' he
          | panicked c => exact he
          | outgrown => exact he⟩
      · exact .inr ⟨v, w', hr, conv v w' hl⟩
    · exact hK.elim
  · exact hK.elim

/-- Contracts, by the functions' numbers. -/
def specOf : List (FuncId × Spec) → FuncId → Option Spec
  | [], _ => none
  | (g, s) :: l, f => match decide (f = g) with
    | true => some s
    | false => specOf l f

theorem specOf_ok {P : Program} : ∀ {l : List (FuncId × Spec)}, (∀ p ∈ l, SpecOK P p.1 p.2) → ∀ f sp, specOf l f = some sp → SpecOK P f sp
  | [], _, f, sp, h => by simp [specOf] at h
  | (g, s) :: l, hl, f, sp, h => by
    unfold specOf at h
    split at h
    · rename_i hd
      have hd := of_decide_eq_true hd
      simp at h; subst h; subst hd
      exact hl (f, s) (by simp)
    · exact specOf_ok (fun p hp => hl p (by simp [hp])) f sp h

/-- A function of no arguments that is true. -/
def awakeSpec : Spec := pureSpec fun args => match args with
  | [] => some (True, .bool true)
  | _ => none

theorem awake_ok {P : Program} {C : Call} (hC : COK P false C) {f : FuncId} {hs : List Hint} (h : C f [] [] hs (comesTo (.bool true))) : SpecOK P f awakeSpec := by
  refine pureSpec_ok hC fun args p x hF _ => ?_
  split at hF
  · simp at hF
    obtain ⟨_, rfl⟩ := hF
    exact ⟨rfl, hs, h⟩
  · simp at hF

/-- The contracts in hand. -/
def run (l : List (FuncId × Spec)) (P : Program) : Call := callN (specOf l) P 12

theorem run_ok {P : Program} {l : List (FuncId × Spec)} (hl : ∀ p ∈ l, SpecOK P p.1 p.2) (hm : Fol P) (hg : noNG P = true) : COK P false (run l P) :=
  callN_ok (specOf_ok hl) hm hg 12

end Go.Sx
