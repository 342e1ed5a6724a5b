/-
  The calculus (SxA): contracts of functions that take and hand back slices.
-/
import Derived.Test.YtfodhjddnbgddaaSxL
import Derived.Test.YtfodhjddnbgddaaSxN
namespace Go.Sx
open Go.RowKit

/-- An argument: a plain value, or the elements of a slice. -/
inductive Arg where
  | v (x : AV)
  | row (ty : TypeId) (esz : Nat) (elems : List AV) (st : Bool)

/-- A result. -/
inductive Res where
  | v (x : AV)
  | row (ty : TypeId) (esz : Nat) (elems : List AV) (st : Bool)

def argAt (h : Hp) (x : AV) : Option Arg :=
  match x with
  | .slice r i n st => match h.row r with
    | some k => match k.flat with
      | true => some (.row k.ty k.esz ((k.elems.drop i).take n) st)
      | false => none
    | none => none
  | x => match (canon x).pure2 with
    | true => some (.v (canon x))
    | false => none

/-- All slices are as long as their rows say. -/
def argsIn (h : Hp) : List AV → Prop → Prop
  | [], K => K
  | .slice r i n st :: l, K => match h.row r with
    | some k => need st (i + n ≤ k.elems.length ∧ 0 < k.esz) (argsIn h l K)
    | none => False
  | _ :: l, K => argsIn h l K

/-- The callee's arguments, and its rows. -/
def place : Nat → List Arg → List AV × Hp
  | _, [] => ([], [])
  | j, .v x :: l => (x :: (place j l).1, (place j l).2)
  | j, .row ty esz es st :: l => (.slice j 0 es.length st :: (place (j + 1) l).1, some ⟨false, ty, esz, true, es⟩ :: (place (j + 1) l).2)

def resK (h : Hp) (K : AV → Hp → Prop) : Res → Prop
  | .v x => K x h
  | .row ty esz es st => K (.slice h.length 0 es.length st) (h ++ [some ⟨true, ty, esz, true, es⟩])

/-- F says what must hold of the arguments, and hands the result on. -/
def genSpec (F : List Arg → (Res → Prop) → Prop) : Spec := fun args h K => match allSome (args.map (argAt h)) with
  | some as => argsIn h args (F as (resK h K))
  | none => False

def yields : Res → AV → Hp → List Hint → Prop
  | .v x, v, _, _ => canon2 v = x
  | .row ty esz es _, v, h, _ => match v with
    | .slice r 0 n _ => n = es.length ∧ h.row r = some ⟨true, ty, esz, true, es⟩
    | _ => False

def Res.ok : Res → Prop
  | .v x => x.pure3 = true
  | .row _ _ _ _ => True

section
variable {P : Program}

theorem argsIn_iff {h : Hp} : ∀ {l : List AV} {K : Prop}, argsIn h l K → K ∧ ∀ r i n st, AV.slice r i n st ∈ l → ∃ k, h.row r = some k ∧ i + n ≤ k.elems.length ∧ 0 < k.esz
  | [], K, hh => ⟨hh, by simp⟩
  | x :: l, K, hh => by
    cases x
    case slice r i n st =>
      simp only [argsIn] at hh
      split at hh
      · rename_i k hk
        obtain ⟨h1, h2⟩ := need_iff hh
        obtain ⟨h3, h4⟩ := argsIn_iff h2
        refine ⟨h3, fun r' i' n' st' hm => ?_⟩
        simp only [List.mem_cons] at hm
        rcases hm with e | hm
        · cases e; exact ⟨k, hk, h1⟩
        · exact h4 _ _ _ _ hm
      · exact hh.elim
    all_goals
      simp only [argsIn] at hh
      obtain ⟨h3, h4⟩ := argsIn_iff hh
      exact ⟨h3, fun r' i' n' st' hm => h4 r' i' n' st' (by simpa using hm)⟩

theorem place_rel {B : Nat} {ρ : List Loc} {h : Hp} {w : World} (hH : HpR B ρ h w) : ∀ {args : List AV} {vs : List Value} {as : List Arg} (j : Nat), AVRs ρ args vs → allSome (args.map (argAt h)) = some as →
    (∀ r i n st, AV.slice r i n st ∈ args → ∃ k, h.row r = some k ∧ i + n ≤ k.elems.length ∧ 0 < k.esz) →
    ∃ ρc : List Loc, ρc.length = (place j as).2.length ∧ (∀ pre : List Loc, pre.length = j → AVRs (pre ++ ρc) (place j as).1 vs) ∧
      (∀ r k l, (place j as).2.row r = some k → ρc[r]? = some l → k.wr = false ∧ ∀ ρ', BlkR ρ' w.heap.size w l k)
  | [], _, as, j, .nil, h1, _ => by
    simp [allSome] at h1; subst h1
    exact ⟨[], rfl, fun _ _ => .nil, fun r k l hk => by simp [place, Hp.row] at hk⟩
  | x :: args, _, as, j, .cons (v := v) (m := vt) hx hv, h1, hin => by
    simp only [List.map_cons] at h1
    cases ha : argAt h x with
    | none => simp [ha, allSome] at h1
    | some a =>
      simp only [ha, allSome] at h1
      split at h1
      · rename_i as' has
        simp at h1; subst h1
        have hin' : ∀ r i n st, AV.slice r i n st ∈ args → ∃ k, h.row r = some k ∧ i + n ≤ k.elems.length ∧ 0 < k.esz := fun r i n st hm => hin r i n st (by simp [hm])
        have plain : ∀ y, a = .v y → y = canon x → y.pure2 = true → ∃ ρc : List Loc, ρc.length = (place j (a :: as')).2.length ∧ (∀ pre : List Loc, pre.length = j → AVRs (pre ++ ρc) (place j (a :: as')).1 (v :: vt)) ∧
            (∀ r k l, (place j (a :: as')).2.row r = some k → ρc[r]? = some l → k.wr = false ∧ ∀ ρ', BlkR ρ' w.heap.size w l k) := by
          rintro y rfl rfl hp
          obtain ⟨ρc, e1, e2, e3⟩ := place_rel hH j hv has hin'
          exact ⟨ρc, e1, fun pre hpre => .cons (pure2_any hp (canon_rel hx)) (e2 pre hpre), e3⟩
        unfold argAt at ha
        split at ha
        · rename_i r i n st
          split at ha
          · rename_i k hk
            split at ha
            · rename_i hf
              simp at ha; subst ha
              obtain ⟨k', hk', hlen, hpos⟩ := hin r i n st (by simp)
              rw [hk] at hk'; cases hk'
              obtain ⟨l, ad, hl, g1, g2, rfl⟩ := slice_inv hx
              obtain ⟨ρc, e1, e2, e3⟩ := place_rel hH (j + 1) hv has hin'
              have hb := hH.blk r k l hk hl
              obtain ⟨cur, fr, hrow, hri, _⟩ := hb.rowIs
              have hnl : ((k.elems.drop i).take n).length = n := by rw [List.length_take, List.length_drop]; omega
              let l' : Loc := ⟨l.b, l.off + i * l.esz, l.esz, l.cap - i⟩
              refine ⟨l' :: ρc, by simp [place, e1], fun pre hpre => ?_, fun q k2 l2 hq hl2 => ?_⟩
              · have hs := AVR.slice (ρ := pre ++ l' :: ρc) (r := j) (i := 0) (len := n) (st := st) (l := l') (a := ad) (by rw [List.getElem?_append_right (by omega), hpre]; simp) (by simpa [l'] using g1) (fun hc => by
                  simp only [l', Nat.sub_zero] at hc ⊢
                  rw [g2 hc]; simp)
                have ht := e2 (pre ++ [l']) (by simp [hpre])
                simp only [place, hnl]
                refine .cons (by simpa [l'] using hs) (by simpa using ht)
              · cases q with
                | zero =>
                  simp only [place, Hp.row, List.getElem?_cons_zero] at hq
                  simp at hq hl2
                  subst hq; subst hl2
                  refine ⟨rfl, fun ρ' => .ofRow (by show l.esz = k.esz; exact hb.esz) (cur := cur) (fr := fr) hrow ?_ (by simp)⟩
                  rw [hf] at hri
                  have h5 := (hri.drop i).take n
                  rw [List.drop_drop] at h5
                  intro i' e' he'
                  obtain ⟨q1, q2, q3⟩ := h5 i' e' he'
                  refine ⟨q1, q2, fun o c hc => ?_⟩
                  obtain ⟨u, hu, hr⟩ := q3 o c hc
                  refine ⟨u, ?_, by simpa using hr⟩
                  rw [List.getElem?_take] at hu
                  split at hu
                  · show (cur.toList.drop (l.off + i * l.esz))[i' * k.esz + o]? = some u
                    rw [hb.esz]; exact hu
                  · simp at hu
                | succ q =>
                  exact e3 q k2 l2 (by simpa [place, Hp.row] using hq) (by simpa using hl2)
            · simp at ha
          · simp at ha
        · split at ha
          · rename_i hp
            simp at ha
            exact plain _ ha.symm rfl hp
          · simp at ha
      · simp at h1

theorem genSpec_ok {C : Call} (hC : COK P false C) {f : FuncId} {F : List Arg → (Res → Prop) → Prop}
    (h : ∀ as R, F as R → ∃ r, R r ∧ r.ok ∧ ∃ hs, C f (place 0 as).1 (place 0 as).2 hs (yields r)) : SpecOK P f (genSpec F) := by
  intro args h' K hK B ρ w vs hH hv
  unfold genSpec at hK
  split at hK
  · rename_i as has
    · obtain ⟨hF, hin⟩ := argsIn_iff hK
      obtain ⟨r, hk, hok, hs, hc⟩ := h _ _ hF
      obtain ⟨ρc, e1, e2, e3⟩ := place_rel hH 0 hv has hin
      have hargs : AVRs ρc (place 0 as).1 vs := by simpa using e2 [] rfl
      have hHc : HpR w.heap.size ρc (place 0 as).2 w := ⟨e1, Nat.le_refl _, fun r k l hk hl => (e3 r k l hk hl).2 ρc, fun r r' k k' l l' hk _ hw _ hl _ => by
        have := (e3 r k l hk hl).1; rw [this] at hw; cases hw⟩
      have conv : ∀ u w', (∃ ρ' y h' hs', yields r y h' hs' ∧ AVR (ρc ++ ρ') y u ∧ HpR w.heap.size (ρc ++ ρ') h' w' ∧ Below (if false = true then w.heap.size else w.heap.size) w w' ∧ (false = true → (place 0 as).2 <+: h')) →
          ∃ ρ' x h', K x h' ∧ AVR (ρ ++ ρ') x u ∧ HpR B (ρ ++ ρ') h' w' ∧ Below B w w' := by
        rintro u w' ⟨ρ', y, h2, hs', hy, hr, hh, hb, _⟩
        have hb : Below w.heap.size w w' := by simpa using hb
        cases r with
        | v x =>
          have := canon2_rel hr
          rw [show canon2 y = x from hy] at this
          exact ⟨[], x, h', hk, by simpa using pure3_any (ρ' := ρ) hok this, by simpa using hH.below hb, hb.mono hH.base⟩
        | row ty esz es st =>
          have hy' : ∃ q s, y = .slice q 0 es.length s ∧ h2.row q = some ⟨true, ty, esz, true, es⟩ := by
            unfold yields at hy
            dsimp only at hy
            split at hy
            · rename_i q n s; exact ⟨q, s, by rw [hy.1], hy.2⟩
            · exact hy.elim
          obtain ⟨q, s, rfl, hq⟩ := hy'
          obtain ⟨l, ad, hl, g1, g2, rfl⟩ := slice_inv hr
          have hbk := hh.blk q _ l hq hl
          obtain ⟨cur, fr, hrow, hri, hcap⟩ := hbk.rowIs
          obtain ⟨c1, c2, c3, c4, c5, c6⟩ := hcap rfl
          have hold := hH.below hb
          refine ⟨[l], .slice h'.length 0 es.length st, _, hk, ?_, hold.push (k := ⟨true, ty, esz, true, es⟩) (l := l) ?_ fun r k' l' hk' hl' => ?_, hb.mono hH.base⟩
          · exact .slice (by rw [← hH.len]; simp) g1 g2
          · refine .ofRow hbk.esz hrow (fun i e he => ?_) fun _ => ⟨c1, c2, c3, c4, Nat.le_trans hH.base c5, c6⟩
            obtain ⟨q1, q2, q3⟩ := hri i e he
            exact ⟨q1, q2, fun o c hc => by simpa using q3 o c hc⟩
          · have := (hH.blk r k' l' hk' hl').lt
            omega
      rcases hC f _ _ hs _ hc w.heap.size ρc w vs hHc hargs with ⟨hr, hcl⟩ | ⟨v, w', hr, hl⟩
      · exact .inl ⟨hr, hcl.mono fun e w' he => by cases e with
          | returned v => exact conv v w' he
          | panicked c => exact he
          | outgrown => exact he⟩
      · exact .inr ⟨v, w', hr, conv v w' hl⟩
  · exact hK.elim

/-- The number in a temporary. -/
def slotInt (j : Nat) (s : St) : Int := match (s.t.getD j .any).asInt with | some (_, _, n) => n | none => 0

theorem inR {n : Int} (h0 : -9223372036854775808 ≤ n) (h1 : n ≤ 9223372036854775807) : inRange .i64 n := by
  unfold inRange
  have e0 : IntKind.i64.min = -9223372036854775808 := by decide
  have e1 : IntKind.i64.max = 9223372036854775807 := by decide
  omega

theorem tdiv64 {k : Nat} : (k : Int).tdiv 64 = ((k / 64 : Nat) : Int) := by simp

/-- An element of one cell, read whole. -/
theorem read1 {P : Program} {k : Blk} {t : TypeId} {i : Nat} {x : AV} (he : k.elems[i]? = some x) (hp : partOf P t x.cells 0 = some x) : k.read P t (0 + i) 0 = some x := by
  unfold Blk.read
  rw [Nat.zero_add, he]
  exact hp

end
end Go.Sx
