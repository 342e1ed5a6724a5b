/-
  The calculus (SxA): contracts of functions that take and hand back slices.
-/
import Derived.Test.YtffcpblbdfjagaaSxL
namespace Go.Sx
open Go.RowKit

/-- A text, by its bytes. -/
def bstr (l : List Nat) : ByteArray := ⟨(l.map UInt8.ofNat).toArray⟩

/-- An argument: a plain value, or the elements of a slice. -/
inductive Arg where
  | v (x : AV)
  | row (elems : List AV)

/-- A result: a plain value, a slice, a slice or nil. -/
inductive Res where
  | v (x : AV)
  | row (ty : TypeId) (esz : Nat) (elems : List AV)
  | vrow (ty : TypeId) (esz : Nat) (elems : List AV)

/-- A parameter: a slice of elements of that type, of so many cells; or a plain value. -/
abbrev Par := Option (TypeId × Nat)

def rowAt (h : Hp) (esz r i n : Nat) : Option Arg :=
  match h.row r with
  | some k => match k.flat && decide (k.esz = esz ∧ 0 < esz) with
    | true => some (.row ((k.elems.drop i).take n))
    | false => none
  | none => none

def argAt (h : Hp) (p : Par) (x : AV) : Option Arg :=
  match p with
  | some (_, esz) => match x with
    | .slice r i n _ => rowAt h esz r i n
    | .vsl r i n => rowAt h esz r i n
    | .lit (.slice none 0 0) => some (.row [])
    | _ => none
  | none => match (canon x).pure2 with
    | true => some (.v (canon x))
    | false => none

def argsAt (h : Hp) : List Par → List AV → Option (List Arg)
  | [], [] => some []
  | p :: ps, x :: xs => match argAt h p x, argsAt h ps xs with
    | some a, some l => some (a :: l)
    | _, _ => none
  | _, _ => none

/-- All slices are as long as their rows say. -/
def argsIn (h : Hp) : List AV → Prop → Prop
  | [], K => K
  | .slice r i n st :: l, K => match h.row r with
    | some k => need st (i + n ≤ k.elems.length) (argsIn h l K)
    | none => False
  | .vsl r i n :: l, K => match h.row r with
    | some k => i + n ≤ k.elems.length ∧ argsIn h l K
    | none => False
  | _ :: l, K => argsIn h l K

/-- The callee's arguments, and its rows. -/
def place : Nat → List Par → List Arg → List AV × Hp
  | j, some (ty, esz) :: ps, .row es :: l => (.vsl j 0 es.length :: (place (j + 1) ps l).1, some ⟨false, ty, esz, true, es⟩ :: (place (j + 1) ps l).2)
  | j, _ :: ps, .v x :: l => (x :: (place j ps l).1, (place j ps l).2)
  | _, _, _ => ([], [])

def resK (h : Hp) (K : AV → Hp → Prop) : Res → Prop
  | .v x => K x h
  | .row ty esz es => K (.slice h.length 0 es.length false) (h ++ [some ⟨true, ty, esz, true, es⟩])
  | .vrow ty esz es => K (.vsl h.length 0 es.length) (h ++ [some ⟨true, ty, esz, true, es⟩])

/-- F says what must hold of the arguments, and hands the result on. -/
def genSpec (ps : List Par) (F : List Arg → (Res → Prop) → Prop) : Spec := fun args h K => match argsAt h ps args with
  | some as => argsIn h args (F as (resK h K))
  | none => False

def yields : Res → AV → Hp → List Hint → Prop
  | .v x, v, _, _ => canon2 v = x
  | .row ty esz es, v, h, _ => match v with
    | .slice r 0 n _ => n = es.length ∧ h.row r = some ⟨true, ty, esz, true, es⟩
    | _ => False
  | .vrow ty esz es, v, h, _ => match v with
    | .slice r 0 n _ => n = es.length ∧ h.row r = some ⟨true, ty, esz, true, es⟩
    | .vsl r 0 n => n = es.length ∧ h.row r = some ⟨true, ty, esz, true, es⟩
    | .lit (.slice none 0 0) => es = []
    | _ => False

def Res.ok : Res → Prop
  | .v x => x.pure3 = true
  | _ => True

section
variable {P : Program}

theorem argsIn_iff {h : Hp} : ∀ {l : List AV} {K : Prop}, argsIn h l K → K ∧ (∀ r i n st, AV.slice r i n st ∈ l → ∃ k, h.row r = some k ∧ i + n ≤ k.elems.length) ∧ (∀ r i n, AV.vsl r i n ∈ l → ∃ k, h.row r = some k ∧ i + n ≤ k.elems.length)
  | [], K, hh => ⟨hh, by simp, by simp⟩
  | x :: l, K, hh => by
    cases x
    case slice r i n st =>
      simp only [argsIn] at hh
      split at hh
      · rename_i k hk
        obtain ⟨h1, h2⟩ := need_iff hh
        obtain ⟨h3, h4, h5⟩ := argsIn_iff h2
        refine ⟨h3, fun r' i' n' st' hm => ?_, fun r' i' n' hm => h5 r' i' n' (by simpa using hm)⟩
        simp only [List.mem_cons] at hm
        rcases hm with e | hm
        · cases e; exact ⟨k, hk, h1⟩
        · exact h4 _ _ _ _ hm
      · exact hh.elim
    case vsl r i n =>
      simp only [argsIn] at hh
      split at hh
      · rename_i k hk
        obtain ⟨h1, h2⟩ := hh
        obtain ⟨h3, h4, h5⟩ := argsIn_iff h2
        refine ⟨h3, fun r' i' n' st' hm => h4 r' i' n' st' (by simpa using hm), fun r' i' n' hm => ?_⟩
        simp only [List.mem_cons] at hm
        rcases hm with e | hm
        · cases e; exact ⟨k, hk, h1⟩
        · exact h5 _ _ _ hm
      · exact hh.elim
    all_goals
      simp only [argsIn] at hh
      obtain ⟨h3, h4, h5⟩ := argsIn_iff hh
      exact ⟨h3, fun r' i' n' st' hm => h4 r' i' n' st' (by simpa using hm), fun r' i' n' hm => h5 r' i' n' (by simpa using hm)⟩

/-- Rows that are only read, wherever they are. -/
def Reads (ρc : List Loc) (h : Hp) (w : World) : Prop := ∀ r k l, h.row r = some k → At ρc r l → k.wr = false ∧ ∀ ρ', BlkR ρ' w.heap.size w l k

theorem Reads.cons {ρc : List Loc} {h : Hp} {w : World} (hR : Reads ρc h w) {k : Blk} {l : Loc} (hk : l.ph = false → k.wr = false ∧ ∀ ρ', BlkR ρ' w.heap.size w l k) : Reads (l :: ρc) (some k :: h) w := by
  rintro r k' l' hr ⟨hl, hp⟩
  cases r with
  | zero =>
    simp only [Hp.row, List.getElem?_cons_zero] at hr
    simp at hr hl
    subst hr; subst hl
    exact hk hp
  | succ r => exact hR r k' l' (by simpa [Hp.row] using hr) ⟨by simpa using hl, hp⟩

theorem slice_place {B : Nat} {ρ : List Loc} {h : Hp} {w : World} (hH : HpR B ρ h w) {r i n : Nat} {st : Bool} {v : Value} {k : Blk} {ty : TypeId} {esz : Nat} (hx : AVR ρ (.slice r i n st) v) (hk : h.row r = some k) (hf : k.flat = true) (hez : k.esz = esz) (_hlen : i + n ≤ k.elems.length) :
    ∃ l' : Loc, l'.ph = false ∧ (∀ (ρ' : List Loc) (j : Nat), At ρ' j l' → AVR ρ' (.vsl j 0 n) v) ∧ ∀ ρ', BlkR ρ' w.heap.size w l' ⟨false, ty, esz, true, (k.elems.drop i).take n⟩ := by
  obtain ⟨l, ad, cc, hl, g1, gc, g2, rfl⟩ := slice_inv hx
  have hb := hH.blk r k l hk hl
  obtain ⟨cur, ty', fr, hrow, hri, _⟩ := hb.rowIs
  refine ⟨⟨l.b, l.off + i * l.esz, l.esz, cc, false⟩, rfl, fun ρ' j hj => ?_, fun ρ' => ?_⟩
  · have hs := AVR.vslS (ρ := ρ') (r := j) (i := 0) (len := n) (c := cc) (l := ⟨l.b, l.off + i * l.esz, l.esz, cc, false⟩) (a := ad) hj g1 (by simp) (fun hc => by
      rw [g2 hc]; simp)
    simpa using hs
  · refine .ofRow (by show l.esz = esz; rw [hb.esz, hez]) (cur := cur) (fr := fr) hrow ?_ (by simp)
    rw [hf] at hri
    have h5 := (hri.drop i).take n
    rw [List.drop_drop] at h5
    intro i' e' he'
    obtain ⟨q1, q2, q3⟩ := h5 i' e' he'
    refine ⟨by rw [q1]; exact hez, q2, fun o c hc => ?_⟩
    obtain ⟨u, hu, hr⟩ := q3 o c hc
    refine ⟨u, ?_, by simpa using hr⟩
    rw [List.getElem?_take] at hu
    split at hu
    · show (cur.toList.drop (l.off + i * l.esz))[i' * esz + o]? = some u
      rw [hb.esz, ← hez]; exact hu
    · simp at hu

theorem place_rel {B : Nat} {ρ : List Loc} {h : Hp} {w : World} (hH : HpR B ρ h w) : ∀ {ps : List Par} {args : List AV} {vs : List Value} {as : List Arg} (j : Nat), AVRs ρ args vs → argsAt h ps args = some as →
    (∀ r i n st, AV.slice r i n st ∈ args → ∃ k, h.row r = some k ∧ i + n ≤ k.elems.length) → (∀ r i n, AV.vsl r i n ∈ args → ∃ k, h.row r = some k ∧ i + n ≤ k.elems.length) →
    ∃ ρc : List Loc, ρc.length = (place j ps as).2.length ∧ (∀ pre : List Loc, pre.length = j → AVRs (pre ++ ρc) (place j ps as).1 vs) ∧ Reads ρc (place j ps as).2 w
  | [], [], _, as, j, .nil, h1, _, _ => by
    simp [argsAt] at h1; subst h1
    exact ⟨[], rfl, fun _ _ => .nil, fun r k l hk => by simp [place, Hp.row] at hk⟩
  | [], _ :: _, _, _, _, _, h1, _, _ => by simp [argsAt] at h1
  | _ :: _, [], _, _, _, _, h1, _, _ => by simp [argsAt] at h1
  | p :: ps, x :: args, _, as, j, .cons (v := v) (m := vt) hx hv, h1, hin, hin2 => by
    unfold argsAt at h1
    split at h1
    · rename_i a as' ha has
      simp at h1; subst h1
      have hin' : ∀ r i n st, AV.slice r i n st ∈ args → ∃ k, h.row r = some k ∧ i + n ≤ k.elems.length := fun r i n st hm => hin r i n st (by simp [hm])
      have hin2' : ∀ r i n, AV.vsl r i n ∈ args → ∃ k, h.row r = some k ∧ i + n ≤ k.elems.length := fun r i n hm => hin2 r i n (by simp [hm])
      have rows : ∀ (ty : TypeId) (esz : Nat) (es : List AV) (l' : Loc), (l'.ph = false → ∀ ρ', BlkR ρ' w.heap.size w l' ⟨false, ty, esz, true, es⟩) → (∀ (ρ' : List Loc) (j : Nat), ρ'[j]? = some l' → AVR ρ' (.vsl j 0 es.length) v) →
          ∃ ρc : List Loc, ρc.length = (place j (some (ty, esz) :: ps) (.row es :: as')).2.length ∧ (∀ pre : List Loc, pre.length = j → AVRs (pre ++ ρc) (place j (some (ty, esz) :: ps) (.row es :: as')).1 (v :: vt)) ∧ Reads ρc (place j (some (ty, esz) :: ps) (.row es :: as')).2 w := by
        intro ty esz es l' hl hval
        obtain ⟨ρc, e1, e2, e3⟩ := place_rel hH (j + 1) hv has hin' hin2'
        refine ⟨l' :: ρc, by simp [place, e1], fun pre hpre => ?_, e3.cons fun hp => ⟨rfl, hl hp⟩⟩
        have ht := e2 (pre ++ [l']) (by simp [hpre])
        refine .cons (hval _ _ ?_) (by simpa using ht)
        rw [List.getElem?_append_right (by omega), hpre]; simp
      have row : ∀ (ty : TypeId) (esz r i n : Nat) (st : Bool), AVR ρ (.slice r i n st) v → (∃ k, h.row r = some k ∧ i + n ≤ k.elems.length) → rowAt h esz r i n = some a →
          ∃ ρc : List Loc, ρc.length = (place j (some (ty, esz) :: ps) (a :: as')).2.length ∧ (∀ pre : List Loc, pre.length = j → AVRs (pre ++ ρc) (place j (some (ty, esz) :: ps) (a :: as')).1 (v :: vt)) ∧ Reads ρc (place j (some (ty, esz) :: ps) (a :: as')).2 w := by
        rintro ty esz r i n st hx ⟨k, hk, hlen⟩ ha
        unfold rowAt at ha
        rw [hk] at ha
        dsimp only at ha
        split at ha
        · rename_i hc
          simp only [Bool.and_eq_true, decide_eq_true_eq] at hc
          simp at ha; subst ha
          obtain ⟨l', hp, h1, h2⟩ := slice_place (ty := ty) hH hx hk hc.1 hc.2.1 hlen
          have hnl : ((k.elems.drop i).take n).length = n := by rw [List.length_take, List.length_drop]; omega
          exact rows ty esz _ l' (fun _ => h2) (fun ρ' j hj => by rw [hnl]; exact h1 ρ' j ⟨hj, hp⟩)
        · simp at ha
      have none' : ∀ (ty : TypeId) (esz : Nat), v = .slice none 0 0 → a = .row [] →
          ∃ ρc : List Loc, ρc.length = (place j (some (ty, esz) :: ps) (a :: as')).2.length ∧ (∀ pre : List Loc, pre.length = j → AVRs (pre ++ ρc) (place j (some (ty, esz) :: ps) (a :: as')).1 (v :: vt)) ∧ Reads ρc (place j (some (ty, esz) :: ps) (a :: as')).2 w := by
        rintro ty esz rfl rfl
        exact rows ty esz [] ⟨0, 0, 0, 0, true⟩ (by simp) (fun _ _ _ => .vslN rfl)
      unfold argAt at ha
      split at ha
      · rename_i ty esz
        split at ha
        · rename_i r i n st
          exact row ty esz r i n st hx (hin r i n st (by simp)) ha
        · rename_i r i n
          rcases vsl_inv hx with ⟨rfl, rfl⟩ | hx
          · refine none' ty esz rfl ?_
            unfold rowAt at ha
            split at ha
            · split at ha <;> simp at ha
              exact ha.symm
            · simp at ha
          · exact row ty esz r i n true (hx true) (hin2 r i n (by simp)) ha
        · cases hx
          exact none' ty esz rfl (by simpa using ha.symm)
        · simp at ha
      · split at ha
        · rename_i hp
          simp at ha
          subst ha
          obtain ⟨ρc, e1, e2, e3⟩ := place_rel hH j hv has hin' hin2'
          exact ⟨ρc, by simpa [place] using e1, fun pre hpre => by simpa [place] using AVRs.cons (pure2_any hp (canon_rel hx)) (e2 pre hpre), by simpa [place] using e3⟩
        · simp at ha
    · simp at h1

theorem genSpec_ok {C : Call} (hC : COK P false C) {f : FuncId} {ps : List Par} {F : List Arg → (Res → Prop) → Prop}
    (h : ∀ as R, F as R → ∃ r, R r ∧ r.ok ∧ ∃ hs, C f (place 0 ps as).1 (place 0 ps as).2 hs (yields r)) : SpecOK P f (genSpec ps F) := by
  intro args h' K hK B ρ w vs hH hv
  unfold genSpec at hK
  split at hK
  · rename_i as has
    · obtain ⟨hF, hin, hin2⟩ := argsIn_iff hK
      obtain ⟨r, hk, hok, hs, hc⟩ := h _ _ hF
      obtain ⟨ρc, e1, e2, e3⟩ := place_rel hH 0 hv has hin hin2
      have hargs : AVRs ρc (place 0 ps as).1 vs := by simpa using e2 [] rfl
      have hHc : HpR w.heap.size ρc (place 0 ps as).2 w := ⟨e1, Nat.le_refl _, fun r k l hk hl => (e3 r k l hk hl).2 ρc, fun r r' k k' l l' hk _ hw _ hl _ => (by
        have := (e3 r k l hk hl).1; rw [this] at hw; cases hw), hH.glob.mono hH.base⟩
      have conv : ∀ u w', (∃ ρ' y h' hs', yields r y h' hs' ∧ AVR (ρc ++ ρ') y u ∧ HpR w.heap.size (ρc ++ ρ') h' w' ∧ Bel (if false = true then w.heap.size else w.heap.size) w w' ∧ (false = true → (place 0 ps as).2 <+: h')) →
          ∃ ρ' x h', K x h' ∧ AVR (ρ ++ ρ') x u ∧ HpR B (ρ ++ ρ') h' w' ∧ Bel B w w' := by
        rintro u w' ⟨ρ', y, h2, hs', hy, hr, hh, hb, _⟩
        have hb : Bel w.heap.size w w' := by simpa using hb
        have hold := hH.below hb
        have rowR : ∀ (ty : TypeId) (esz : Nat) (es : List AV) (q n : Nat) (s : Bool), AVR (ρc ++ ρ') (.slice q 0 n s) u → n = es.length → h2.row q = some ⟨true, ty, esz, true, es⟩ →
            ∃ l : Loc, AVR (ρ ++ [l]) (.slice h'.length 0 es.length false) u ∧ HpR B (ρ ++ [l]) (h' ++ [some ⟨true, ty, esz, true, es⟩]) w' := by
          rintro ty esz es q n s hr rfl hq
          obtain ⟨l, ad, cc, hl, g1, gc, g2, rfl⟩ := slice_inv hr
          have hbk := hh.blk q _ l hq hl
          obtain ⟨cur, ty', fr, hrow, hri, hcap⟩ := hbk.rowIs
          obtain ⟨c0, c1, c2, c3, c4, c5, c6⟩ := hcap rfl
          refine ⟨l, .slice (At.new hH.len hl.2) g1 gc g2, hold.push (k := ⟨true, ty, esz, true, es⟩) (l := l) ?_ fun r k' l' hk' hl' => ?_⟩
          · refine .ofRow hbk.esz hrow (fun i e he => ?_) fun _ => ⟨c0, c1, c2, c3, c4, Nat.le_trans hH.base c5, c6⟩
            obtain ⟨q1, q2, q3⟩ := hri i e he
            exact ⟨q1, q2, fun o c hc => by simpa using q3 o c hc⟩
          · have := (hH.blk r k' l' hk' hl').lt
            omega
        cases r with
        | v x =>
          have := canon2_rel hr
          rw [show canon2 y = x from hy] at this
          exact ⟨[], x, h', hk, by simpa using pure3_any (ρ' := ρ) hok this, by simpa using hold, hb.mono hH.base⟩
        | row ty esz es =>
          unfold yields at hy
          dsimp only at hy
          split at hy
          · obtain ⟨l, h1, h3⟩ := rowR ty esz es _ _ _ hr hy.1 hy.2
            exact ⟨[l], _, _, hk, h1, h3, hb.mono hH.base⟩
          · exact hy.elim
        | vrow ty esz es =>
          unfold yields at hy
          dsimp only at hy
          have nil : u = .slice none 0 0 → es.length = 0 → ∃ ρ' x h', K x h' ∧ AVR (ρ ++ ρ') x u ∧ HpR B (ρ ++ ρ') h' w' ∧ Bel B w w' := by
            rintro rfl h0
            exact ⟨[⟨0, 0, 0, 0, true⟩], _, _, hk, .vslN h0, hold.pushPh _ rfl, hb.mono hH.base⟩
          split at hy
          · obtain ⟨l, h1, h3⟩ := rowR ty esz es _ _ _ hr hy.1 hy.2
            exact ⟨[l], _, _, hk, vsl_of h1, h3, hb.mono hH.base⟩
          · rcases vsl_inv hr with ⟨h0, rfl⟩ | hr
            · exact nil rfl (hy.1 ▸ h0)
            · obtain ⟨l, h1, h3⟩ := rowR ty esz es _ _ true (hr true) hy.1 hy.2
              exact ⟨[l], _, _, hk, vsl_of h1, h3, hb.mono hH.base⟩
          · cases hr
            exact nil rfl (by rw [hy]; rfl)
          · exact hy.elim
      rcases hC f _ _ hs _ hc w.heap.size ρc w vs hHc hargs with ⟨hr, hcl⟩ | ⟨v, w', hr, hl⟩
      · exact .inl ⟨hr, hcl.mono fun e w' he => by cases e with
          | returned v => exact conv v w' he
          | panicked c => exact he
          | outgrown => exact he⟩
      · exact .inr ⟨v, w', hr, conv v w' hl⟩
  · exact hK.elim

theorem inR {n : Int} (h0 : -9223372036854775808 ≤ n) (h1 : n ≤ 9223372036854775807) : inRange .i64 n := by
  unfold inRange
  have e0 : IntKind.i64.min = -9223372036854775808 := by decide
  have e1 : IntKind.i64.max = 9223372036854775807 := by decide
  omega

theorem tdiv64 {k : Nat} : (k : Int).tdiv 64 = ((k / 64 : Nat) : Int) := by simp

/-- An element of one cell, read whole. -/
theorem read1 {P : Program} {k : Blk} {t : TypeId} {i : Nat} {x : AV} (he : k.elems[i]? = some x) (hp : partOf P t x.cells 0 = some x) : k.read P t (0 + i) 0 = some x := by
  unfold Blk.read
  rw [Nat.zero_add, he]
  exact hp

end
end Go.Sx
