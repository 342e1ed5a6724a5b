/-
  The calculus (SxA): contracts of functions that take and hand back slices.
-/
import Derived.Test.YthfgocpejlhanaaSxT
namespace Go.Sx
open Go.RowKit

/-- An argument: a plain value, or the elements of a slice. -/
inductive Arg where
  | v (x : AV)
  | row (elems : List AV)

/-- One of several results: a plain value, a slice or nil, a new object. -/
inductive It where
  | v (x : AV)
  | vrow (ty : TypeId) (esz : Nat) (elems : List AV)
  | obj (ty : TypeId) (es : List AV)

/-- A result: a plain value, a slice, a slice or nil; a new object, with plain values behind it. -/
inductive Res where
  | v (x : AV)
  | row (ty : TypeId) (esz : Nat) (elems : List AV)
  | vrow (ty : TypeId) (esz : Nat) (elems : List AV)
  | obj (ty : TypeId) (es rest : List AV)
  | many (its : List It)

/-- A parameter: a slice of elements of that type, of so many cells; or a plain value. -/
abbrev Par := Option (TypeId × Nat)

def rowAt (h : Hp) (esz r i n : Nat) : Option Arg :=
  match h.row r with
  | some ⟨_, _, ez, fl, es⟩ => match fl && decide (ez = esz ∧ 0 < esz) with
    | true => some (.row ((es.drop i).take n))
    | false => none
  | none => none

theorem rowAt_eq (h : Hp) (esz r i n : Nat) : rowAt h esz r i n = match h.row r with
    | some k => match k.flat && decide (k.esz = esz ∧ 0 < esz) with
      | true => some (.row ((k.elems.drop i).take n))
      | false => none
    | none => none := by
  unfold rowAt
  cases h.row r with
  | none => rfl
  | some k => cases k; rfl

def argAt (h : Hp) (p : Par) (x : AV) : Option Arg :=
  match p with
  | some (_, esz) => match x with
    | .slice r i n _ => rowAt h esz r i n
    | .vsl r i n => rowAt h esz r i n
    | .lit (.slice none 0 0) => (match esz with | 0 => none | _ + 1 => some (.row []))
    | _ => none
  | none => match (canon x).pure2 with
    | true => some (.v (canon x))
    | false => none

def argsAt (h : Hp) : List Par → List AV → Option (List Arg)
  | [], [] => some []
  | p :: ps, x :: xs => match argAt h p x, argsAt h ps xs with
    | some a, some l => some (a :: l)
    | _, _ => none
  | _, _ => none

/-- All slices are as long as their rows say. -/
def argsIn (h : Hp) : List AV → Prop → Prop
  | [], K => K
  | .slice r i n st :: l, K => match h.row r with
    | some ⟨_, _, _, _, es⟩ => need st (i + n ≤ es.length) (argsIn h l K)
    | none => False
  | .vsl r i n :: l, K => match h.row r with
    | some ⟨_, _, _, _, es⟩ => i + n ≤ es.length ∧ argsIn h l K
    | none => False
  | _ :: l, K => argsIn h l K

/-- The callee's arguments, and its rows. -/
def place : Nat → List Par → List Arg → List AV × Hp
  | j, some (ty, esz) :: ps, .row es :: l => (.vsl j 0 es.length :: (place (j + 1) ps l).1, some ⟨false, ty, esz, true, es⟩ :: (place (j + 1) ps l).2)
  | j, _ :: ps, .v x :: l => (x :: (place j ps l).1, (place j ps l).2)
  | _, _, _ => ([], [])

/-- Several results, one behind the other. -/
def resKs : List It → Hp → (List AV → Hp → Prop) → Prop
  | [], h, K => K [] h
  | .v x :: l, h, K => resKs l h fun vs h' => K (x :: vs) h'
  | .vrow ty esz es :: l, h, K => resKs l (h ++ [some ⟨true, ty, esz, true, es⟩]) fun vs h' => K (.vsl h.length 0 es.length :: vs) h'
  | .obj ty es :: l, h, K => resKs l (h ++ [some ⟨true, ty, 0, true, es⟩]) fun vs h' => K (.ptr h.length 0 0 true :: vs) h'

def resK (h : Hp) (K : AV → Hp → Prop) : Res → Prop
  | .v x => K x h
  | .row ty esz es => K (.slice h.length 0 es.length false) (h ++ [some ⟨true, ty, esz, true, es⟩])
  | .vrow ty esz es => K (.vsl h.length 0 es.length) (h ++ [some ⟨true, ty, esz, true, es⟩])
  | .many its => resKs its h fun vs h' => K (.tuple vs) h'
  | .obj ty es rest => K (match rest with | [] => .ptr h.length 0 0 true | x :: l => .tuple (.ptr h.length 0 0 true :: x :: l)) (h ++ [some ⟨true, ty, 0, true, es⟩])

/-- F says what must hold of the arguments, and hands the result on. -/
def genSpec (ps : List Par) (F : List Arg → (Res → Prop) → Prop) : Spec := fun args h K => match argsAt h ps args with
  | some as => argsIn h args (F as (resK h K))
  | none => False

/-- The rows that a slice names are what they are to be, and nobody's yet. -/
def yieldRow (h : Hp) (used : List Nat) (ty : TypeId) (esz : Nat) (es : List AV) (r n : Nat) (K : Prop) : Prop := match decide (r ∈ used) with
  | false => (n = es.length ∧ h.row r = some ⟨true, ty, esz, true, es⟩) ∧ K
  | true => False

def yieldAll (h : Hp) : List It → List AV → List Nat → Prop
  | [], [], _ => True
  | .v x :: its, y :: vs, used => canon y = x ∧ yieldAll h its vs used
  | .vrow ty esz es :: its, y :: vs, used => match y with
    | .slice r 0 n _ => yieldRow h used ty esz es r n (yieldAll h its vs (r :: used))
    | .vsl r 0 n => yieldRow h used ty esz es r n (yieldAll h its vs (r :: used))
    | .lit (.slice none 0 0) => es = [] ∧ yieldAll h its vs used
    | _ => False
  | .obj ty es :: its, y :: vs, used => match y with
    | .ptr r 0 0 true => match (objAll h r).all fun x => !decide (x ∈ used) with
      | true => objAt h r ty es ∧ yieldAll h its vs (objAll h r ++ used)
      | false => False
    | _ => False
  | _, _, _ => False

def yields : Res → AV → Hp → List Hint → Prop
  | .v x, v, _, _ => canon2 v = x
  | .row ty esz es, v, h, _ => match v with
    | .slice r 0 n _ => n = es.length ∧ h.row r = some ⟨true, ty, esz, true, es⟩
    | .vsl r 0 n => 0 < n ∧ n = es.length ∧ h.row r = some ⟨true, ty, esz, true, es⟩
    | _ => False
  | .vrow ty esz es, v, h, _ => match v with
    | .slice r 0 n _ => n = es.length ∧ h.row r = some ⟨true, ty, esz, true, es⟩
    | .vsl r 0 n => n = es.length ∧ h.row r = some ⟨true, ty, esz, true, es⟩
    | .lit (.slice none 0 0) => es = []
    | _ => False
  | .many its, v, h, _ => match v with
    | .tuple vs => yieldAll h its vs []
    | _ => False
  | .obj ty es rest, v, h, _ => match v, rest with
    | .ptr r 0 0 true, [] => objAt h r ty es
    | .tuple (.ptr r 0 0 true :: y :: vs), x :: l => (y :: vs).map canon = x :: l ∧ objAt h r ty es
    | _, _ => False

def Res.ok : Res → Prop
  | .v x => x.pure3 = true
  | .obj _ _ rest => rest.all AV.pure2 = true
  | .many its => its.all (fun | .v x => x.pure2 | .vrow _ 0 _ => false | _ => true) = true
  | .vrow _ 0 _ => False
  | _ => True

section
variable {P : Program}

theorem argsIn_slice {h : Hp} {r i n : Nat} {st : Bool} {l : List AV} {K : Prop} : argsIn h (.slice r i n st :: l) K = match h.row r with
    | some k => need st (i + n ≤ k.elems.length) (argsIn h l K)
    | none => False := by
  rw [argsIn]
  cases h.row r with
  | none => rfl
  | some k => cases k; rfl

theorem argsIn_vsl {h : Hp} {r i n : Nat} {l : List AV} {K : Prop} : argsIn h (.vsl r i n :: l) K = match h.row r with
    | some k => i + n ≤ k.elems.length ∧ argsIn h l K
    | none => False := by
  rw [argsIn]
  cases h.row r with
  | none => rfl
  | some k => cases k; rfl

theorem argsIn_iff {h : Hp} : ∀ {l : List AV} {K : Prop}, argsIn h l K → K ∧ (∀ r i n st, AV.slice r i n st ∈ l → ∃ k, h.row r = some k ∧ i + n ≤ k.elems.length) ∧ (∀ r i n, AV.vsl r i n ∈ l → ∃ k, h.row r = some k ∧ i + n ≤ k.elems.length)
  | [], K, hh => ⟨hh, by simp, by simp⟩
  | x :: l, K, hh => by
    cases x
    case slice r i n st =>
      rw [argsIn_slice] at hh
      split at hh
      · rename_i k hk
        obtain ⟨h1, h2⟩ := need_iff hh
        obtain ⟨h3, h4, h5⟩ := argsIn_iff h2
        refine ⟨h3, fun r' i' n' st' hm => ?_, fun r' i' n' hm => h5 r' i' n' (by simpa using hm)⟩
        simp only [List.mem_cons] at hm
        rcases hm with e | hm
        · cases e; exact ⟨k, hk, h1⟩
        · exact h4 _ _ _ _ hm
      · exact hh.elim
    case vsl r i n =>
      rw [argsIn_vsl] at hh
      split at hh
      · rename_i k hk
        obtain ⟨h1, h2⟩ := hh
        obtain ⟨h3, h4, h5⟩ := argsIn_iff h2
        refine ⟨h3, fun r' i' n' st' hm => h4 r' i' n' st' (by simpa using hm), fun r' i' n' hm => ?_⟩
        simp only [List.mem_cons] at hm
        rcases hm with e | hm
        · cases e; exact ⟨k, hk, h1⟩
        · exact h5 _ _ _ hm
      · exact hh.elim
    all_goals
      simp only [argsIn] at hh
      obtain ⟨h3, h4, h5⟩ := argsIn_iff hh
      exact ⟨h3, fun r' i' n' st' hm => h4 r' i' n' st' (by simpa using hm), fun r' i' n' hm => h5 r' i' n' (by simpa using hm)⟩

/-- Rows that are only read, wherever they are. -/
def Reads (F : Nat → Prop) (ρc : List Loc) (h : Hp) (w : World) : Prop := (∀ r k l, h.row r = some k → At ρc r l → F l.b) ∧ (∀ r k l, h.row r = some k → At ρc r l → k.wr = false ∧ ∀ ρ', BlkR ρ' w.heap.size w l k) ∧ ∀ r k, h.obj r = some k → False

theorem Reads.cons {F : Nat → Prop} {ρc : List Loc} {h : Hp} {w : World} (hR : Reads F ρc h w) {k : Blk} {l : Loc} (hz : k.esz ≠ 0) (hk : l.ph = false → F l.b ∧ k.wr = false ∧ ∀ ρ', BlkR ρ' w.heap.size w l k) : Reads F (l :: ρc) (some k :: h) w := by
  refine ⟨?_, ?_, ?_⟩
  · rintro r k' l' hr ⟨hl, hp⟩
    cases r with
    | zero =>
      have h1 := get_row.1 hr
      simp at h1 hl
      obtain ⟨rfl, _⟩ := h1
      subst hl
      exact (hk hp).1
    | succ r => exact hR.1 r k' l' (get_row.2 (by simpa using get_row.1 hr)) ⟨by simpa using hl, hp⟩
  rotate_left
  · intro r k' hr
    cases r with
    | zero =>
      have h1 := get_obj.1 hr
      simp at h1
      obtain ⟨rfl, h1⟩ := h1
      exact hz h1
    | succ r => exact hR.2.2 r k' (get_obj.2 (by simpa using get_obj.1 hr))
  rintro r k' l' hr ⟨hl, hp⟩
  cases r with
  | zero =>
    have h1 := get_row.1 hr
    simp at h1 hl
    obtain ⟨rfl, _⟩ := h1
    subst hl
    exact ⟨(hk hp).2.1, (hk hp).2.2⟩
  | succ r => exact hR.2.1 r k' l' (get_row.2 (by simpa using get_row.1 hr)) ⟨by simpa using hl, hp⟩

theorem slice_place {B : Gd} {ρ : List Loc} {h : Hp} {w : World} (hH : HpR B ρ h w) {r i n : Nat} {st : Bool} {v : Value} {k : Blk} {ty : TypeId} {esz : Nat} (hx : AVR ρ (.slice r i n st) v) (hk : h.row r = some k) (hf : k.flat = true) (hez : k.esz = esz) (_hlen : i + n ≤ k.elems.length) :
    ∃ l' : Loc, l'.ph = false ∧ (∃ l, At ρ r l ∧ l'.b = l.b) ∧ (∀ (ρ' : List Loc) (j : Nat), At ρ' j l' → AVR ρ' (.vsl j 0 n) v) ∧ ∀ ρ', BlkR ρ' w.heap.size w l' ⟨false, ty, esz, true, (k.elems.drop i).take n⟩ := by
  obtain ⟨l, ad, cc, hl, g1, gc, g2, rfl⟩ := slice_inv hx
  have hb := hH.blk r k l hk hl
  obtain ⟨cur, ty', fr, hrow, hri, _⟩ := hb.rowIs
  refine ⟨⟨l.b, l.off + i * l.esz, l.esz, cc, false⟩, rfl, ⟨l, hl, rfl⟩, fun ρ' j hj => ?_, fun ρ' => ?_⟩
  · have hs := AVR.vslS (ρ := ρ') (r := j) (i := 0) (len := n) (c := cc) (l := ⟨l.b, l.off + i * l.esz, l.esz, cc, false⟩) (a := ad) hj g1 (by simp) (fun hc => by
      rw [g2 hc]; simp)
    simpa using hs
  · refine .ofRow (by show l.esz = esz; rw [hb.esz, hez]) (cur := cur) (fr := fr) hrow ?_ (by simp)
    rw [hf] at hri
    have h5 := (hri.drop i).take n
    rw [List.drop_drop] at h5
    intro i' e' he'
    obtain ⟨q1, q2, q3⟩ := h5 i' e' he'
    refine ⟨by rw [q1]; exact hez, q2, fun o c hc => ?_⟩
    obtain ⟨u, hu, hr⟩ := q3 o c hc
    refine ⟨u, ?_, by simpa using hr⟩
    rw [List.getElem?_take] at hu
    split at hu
    · show (cur.toList.drop (l.off + i * l.esz))[i' * esz + o]? = some u
      rw [hb.esz, ← hez]; exact hu
    · simp at hu

theorem place_rel {B : Gd} {ρ : List Loc} {h : Hp} {w : World} (hH : HpR B ρ h w) {F : Nat → Prop} (hF : ∀ r k l, h.row r = some k → At ρ r l → F l.b) : ∀ {ps : List Par} {args : List AV} {vs : List Value} {as : List Arg} (j : Nat), AVRs ρ args vs → argsAt h ps args = some as →
    (∀ r i n st, AV.slice r i n st ∈ args → ∃ k, h.row r = some k ∧ i + n ≤ k.elems.length) → (∀ r i n, AV.vsl r i n ∈ args → ∃ k, h.row r = some k ∧ i + n ≤ k.elems.length) →
    ∃ ρc : List Loc, ρc.length = (place j ps as).2.length ∧ (∀ pre : List Loc, pre.length = j → AVRs (pre ++ ρc) (place j ps as).1 vs) ∧ Reads F ρc (place j ps as).2 w
  | [], [], _, as, j, .nil, h1, _, _ => by
    simp [argsAt] at h1; subst h1
    exact ⟨[], rfl, fun _ _ => .nil, fun r k l hk => by simp [place, Hp.row] at hk, fun r k l hk => by simp [place, Hp.row] at hk, fun r k hk => by simp [place, Hp.obj] at hk⟩
  | [], _ :: _, _, _, _, _, h1, _, _ => by simp [argsAt] at h1
  | _ :: _, [], _, _, _, _, h1, _, _ => by simp [argsAt] at h1
  | p :: ps, x :: args, _, as, j, .cons (v := v) (m := vt) hx hv, h1, hin, hin2 => by
    unfold argsAt at h1
    split at h1
    · rename_i a as' ha has
      simp at h1; subst h1
      have hin' : ∀ r i n st, AV.slice r i n st ∈ args → ∃ k, h.row r = some k ∧ i + n ≤ k.elems.length := fun r i n st hm => hin r i n st (by simp [hm])
      have hin2' : ∀ r i n, AV.vsl r i n ∈ args → ∃ k, h.row r = some k ∧ i + n ≤ k.elems.length := fun r i n hm => hin2 r i n (by simp [hm])
      have rows : ∀ (ty : TypeId) (esz : Nat) (es : List AV) (l' : Loc), esz ≠ 0 → (l'.ph = false → F l'.b ∧ ∀ ρ', BlkR ρ' w.heap.size w l' ⟨false, ty, esz, true, es⟩) → (∀ (ρ' : List Loc) (j : Nat), ρ'[j]? = some l' → AVR ρ' (.vsl j 0 es.length) v) →
          ∃ ρc : List Loc, ρc.length = (place j (some (ty, esz) :: ps) (.row es :: as')).2.length ∧ (∀ pre : List Loc, pre.length = j → AVRs (pre ++ ρc) (place j (some (ty, esz) :: ps) (.row es :: as')).1 (v :: vt)) ∧ Reads F ρc (place j (some (ty, esz) :: ps) (.row es :: as')).2 w := by
        intro ty esz es l' hz hl hval
        obtain ⟨ρc, e1, e2, e3⟩ := place_rel hH hF (j + 1) hv has hin' hin2'
        refine ⟨l' :: ρc, by simp [place, e1], fun pre hpre => ?_, e3.cons hz fun hp => ⟨(hl hp).1, rfl, (hl hp).2⟩⟩
        have ht := e2 (pre ++ [l']) (by simp [hpre])
        refine .cons (hval _ _ ?_) (by simpa using ht)
        rw [List.getElem?_append_right (by omega), hpre]; simp
      have row : ∀ (ty : TypeId) (esz r i n : Nat) (st : Bool), AVR ρ (.slice r i n st) v → (∃ k, h.row r = some k ∧ i + n ≤ k.elems.length) → rowAt h esz r i n = some a →
          ∃ ρc : List Loc, ρc.length = (place j (some (ty, esz) :: ps) (a :: as')).2.length ∧ (∀ pre : List Loc, pre.length = j → AVRs (pre ++ ρc) (place j (some (ty, esz) :: ps) (a :: as')).1 (v :: vt)) ∧ Reads F ρc (place j (some (ty, esz) :: ps) (a :: as')).2 w := by
        rintro ty esz r i n st hx ⟨k, hk, hlen⟩ ha
        rw [rowAt_eq] at ha
        rw [hk] at ha
        dsimp only at ha
        split at ha
        · rename_i hc
          simp only [Bool.and_eq_true, decide_eq_true_eq] at hc
          simp at ha; subst ha
          obtain ⟨l', hp, ⟨l0, hl0, hlb⟩, h1, h2⟩ := slice_place (ty := ty) hH hx hk hc.1 hc.2.1 hlen
          have hnl : ((k.elems.drop i).take n).length = n := by rw [List.length_take, List.length_drop]; omega
          exact rows ty esz _ l' (Nat.ne_of_gt hc.2.2) (fun _ => ⟨by rw [hlb]; exact hF r k l0 hk hl0, h2⟩) (fun ρ' j hj => by rw [hnl]; exact h1 ρ' j ⟨hj, hp⟩)
        · simp at ha
      have none' : ∀ (ty : TypeId) (esz : Nat), esz ≠ 0 → v = .slice none 0 0 → a = .row [] →
          ∃ ρc : List Loc, ρc.length = (place j (some (ty, esz) :: ps) (a :: as')).2.length ∧ (∀ pre : List Loc, pre.length = j → AVRs (pre ++ ρc) (place j (some (ty, esz) :: ps) (a :: as')).1 (v :: vt)) ∧ Reads F ρc (place j (some (ty, esz) :: ps) (a :: as')).2 w := by
        rintro ty esz hz rfl rfl
        exact rows ty esz [] ⟨0, 0, 0, 0, true⟩ hz (by simp) (fun _ _ _ => .vslN rfl)
      unfold argAt at ha
      split at ha
      · rename_i ty esz
        split at ha
        · rename_i r i n st
          exact row ty esz r i n st hx (hin r i n st (by simp)) ha
        · rename_i r i n
          rcases vsl_inv hx with ⟨rfl, rfl⟩ | hx
          · rw [rowAt_eq] at ha
            split at ha
            · split at ha
              · rename_i hc
                simp only [Bool.and_eq_true, decide_eq_true_eq] at hc
                simp at ha
                exact none' ty esz (Nat.ne_of_gt hc.2.2) rfl ha.symm
              · simp at ha
            · simp at ha
          · exact row ty esz r i n true (hx true) (hin2 r i n (by simp)) ha
        · cases hx
          split at ha
          · simp at ha
          · exact none' ty _ (Nat.succ_ne_zero _) rfl (by simpa using ha.symm)
        · simp at ha
      · split at ha
        · rename_i hp
          simp at ha
          subst ha
          obtain ⟨ρc, e1, e2, e3⟩ := place_rel hH hF j hv has hin' hin2'
          exact ⟨ρc, by simpa [place] using e1, fun pre hpre => by simpa [place] using AVRs.cons (pure2_any hp (canon_rel hx)) (e2 pre hpre), by simpa [place] using e3⟩
        · simp at ha
    · simp at h1

/-- Blocks that rows in 'used' take. -/
def UsedB (o : Nat → List Nat) (h : Hp) (ρ : List Loc) (used : List Nat) (b : Nat) : Prop := ∃ r ∈ used, Owns o h ρ r b ∧ ∀ k, h.row r = some k → k.wr = true

/-- What is put among the caller's rows: they, and what the callee's rows in 'used' take. -/
structure PutR (B : Gd) (n : Nat) (o2 : Nat → List Nat) (ρ2 : List Loc) (h2 : Hp) (used : List Nat) (ρ : List Loc) (h : Hp) (w : World) : Prop where
  hp : HpR B ρ h w
  row : ∀ r k l, h.row r = some k → At ρ r l → l.b < n ∨ UsedB o2 h2 ρ2 used l.b
  obj : ∃ o, ObjsO o B ρ h w ∧ ∀ r k l, h.obj r = some k → At ρ r l → ∀ b ∈ o r, b < n ∨ UsedB o2 h2 ρ2 used b

theorem owns_sep {B : Gd} {o : Nat → List Nat} {ρ : List Loc} {h : Hp} {w : World} (hH : HpR B ρ h w) (hO : ObjsO o B ρ h w) {r r' b : Nat} (hne : r ≠ r') (hw : ∀ k, h.row r = some k → k.wr = true) (hwo : ∀ k, h.row r' = some k → k.wr = true) (h1 : Owns o h ρ r b) (h2 : Owns o h ρ r' b) : False := by
  obtain ⟨l1, a1, ⟨k1, g1, rfl⟩ | ⟨k1, g1, m1⟩⟩ := h1 <;> obtain ⟨l2, a2, ⟨k2, g2, e2⟩ | ⟨k2, g2, m2⟩⟩ := h2
  · exact hH.sep r r' k1 k2 l1 l2 g1 g2 (hw k1 g1) hne a1 a2 e2
  · exact hO.row r' r k2 k1 l2 l1 g2 g1 a2 a1 (.inr (hw k1 g1)) m2
  · subst e2; exact hO.row r r' k1 k2 l1 l2 g1 g2 a1 a2 (.inr (hwo k2 g2)) m1
  · exact hO.obj r r' k1 k2 l1 l2 g1 g2 hne a1 a2 b m1 m2

theorem UsedB.cons {o : Nat → List Nat} {h : Hp} {ρ : List Loc} {used more : List Nat} {b : Nat} (hu : UsedB o h ρ used b) : UsedB o h ρ (more ++ used) b :=
  let ⟨r, hr, ho⟩ := hu; ⟨r, List.mem_append_right _ hr, ho⟩

theorem conv_all {B : Gd} {n : Nat} (hBn : Gd.le B (bl n)) {o2 : Nat → List Nat} {ρ2 : List Loc} {h2 : Hp} {w' : World} (hh : HpR n ρ2 h2 w') (hO2 : ObjsO o2 n ρ2 h2 w') : ∀ {its : List It} {vs : List AV} {us : List Value} {used : List Nat} {ρ : List Loc} {h : Hp} {K : List AV → Hp → Prop},
    PutR B n o2 ρ2 h2 used ρ h w' → resKs its h K → its.all (fun | .v x => x.pure2 | .vrow _ 0 _ => false | _ => true) = true → yieldAll h2 its vs used → AVRs ρ2 vs us →
    ∃ ρ' xs h'', K xs h'' ∧ AVRs (ρ ++ ρ') xs us ∧ HpR B (ρ ++ ρ') h'' w'
  | [], [], _, _, ρ, h, _, hP, hK, _, _, .nil => ⟨[], [], h, hK, .nil, by rw [List.append_nil]; exact hP.hp⟩
  | .v x :: its, y :: vs, _, used, ρ, h, K, hP, hK, hok, hy, .cons h0 h1 => by
    simp only [List.all_cons, Bool.and_eq_true] at hok
    obtain ⟨hy1, hy2⟩ := hy
    have hK : resKs its h (fun vs h' => K (x :: vs) h') := hK
    obtain ⟨ρ', xs, h'', k, r, p⟩ := conv_all hBn hh hO2 hP hK hok.2 hy2 h1
    have hc := canon_rel h0
    rw [hy1] at hc
    exact ⟨ρ', x :: xs, h'', k, .cons (pure2_any hok.1 hc) r, p⟩
  | .vrow ty esz es :: its, y :: vs, u :: us, used, ρ, h, K, hP, hK, hok, hy, .cons h0 h1 => by
    simp only [List.all_cons, Bool.and_eq_true] at hok
    have nil : ∀ used, PutR B n o2 ρ2 h2 used ρ h w' → u = .slice none 0 0 → es.length = 0 → yieldAll h2 its vs used → ∃ ρ' xs h'', K xs h'' ∧ AVRs (ρ ++ ρ') xs (u :: us) ∧ HpR B (ρ ++ ρ') h'' w' := by
      rintro used hP rfl hz hy2
      have hP' : PutR B n o2 ρ2 h2 used (ρ ++ [⟨0, 0, 0, 0, true⟩]) (h ++ [some ⟨true, ty, esz, true, es⟩]) w' := by
        have old : ∀ {r l k}, (h ++ [some ⟨true, ty, esz, true, es⟩] : Hp)[r]? = some (some k) → At (ρ ++ [⟨0, 0, 0, 0, true⟩]) r l → At ρ r l ∧ h[r]? = some (some k) := by
          rintro r l k hg ⟨hl, hp⟩
          rcases get_append hg with ⟨hlt, g⟩ | ⟨e, _⟩
          · exact ⟨⟨by rw [List.getElem?_append_left (by rw [hP.hp.len]; exact hlt)] at hl; exact hl, hp⟩, g⟩
          · subst e
            rw [← hP.hp.len, List.getElem?_append_right (Nat.le_refl _)] at hl
            simp at hl
            subst hl
            simp at hp
        obtain ⟨o, hO, hu⟩ := hP.obj
        have hz : esz ≠ 0 := by rintro rfl; exact absurd hok.1 (by simp)
        refine ⟨hP.hp.pushPh _ hz rfl, fun r k l hk hl => ?_, o, ?_, fun r k l hk hl => ?_⟩
        · obtain ⟨a, b⟩ := old (get_row.1 hk).1 hl
          exact hP.row r k l (get_row.2 ⟨b, (get_row.1 hk).2⟩) a
        · exact hO.via id (fun _ _ _ _ _ _ h => h) (fun r k l hk hl => by
            obtain ⟨a, b⟩ := old (get_obj.1 hk).1 hl
            exact ⟨a, k, get_obj.2 ⟨b, (get_obj.1 hk).2⟩, rfl, rfl, fun h => ⟨h, .refl _⟩⟩) (fun r k l hk hl => by
            obtain ⟨a, b⟩ := old (get_row.1 hk).1 hl
            exact ⟨a, k, get_row.2 ⟨b, (get_row.1 hk).2⟩, id⟩) fun r k hk => by
            rcases obj_append hk with ⟨_, g⟩ | ⟨_, g, g0⟩
            · exact let ⟨l', hl'⟩ := hO.here r k g; ⟨l', getElem?_app _ hl'⟩
            · cases g; exact absurd g0 hz
        · obtain ⟨a, b⟩ := old (get_obj.1 hk).1 hl
          exact hu r k l (get_obj.2 ⟨b, (get_obj.1 hk).2⟩) a
      obtain ⟨ρ', xs, h'', k, r, p⟩ := conv_all hBn hh hO2 hP' hK hok.2 hy2 h1
      refine ⟨⟨0, 0, 0, 0, true⟩ :: ρ', _, h'', k, .cons (.vslN hz) (by simpa using r), by simpa using p⟩
    have row : ∀ q m, AVR ρ2 (.slice q 0 m true) u → yieldRow h2 used ty esz es q m (yieldAll h2 its vs (q :: used)) → ∃ ρ' xs h'', K xs h'' ∧ AVRs (ρ ++ ρ') xs (u :: us) ∧ HpR B (ρ ++ ρ') h'' w' := by
      intro q m hr hy
      unfold yieldRow at hy
      split at hy
      · rename_i hq
        have hq := of_decide_eq_false hq
        obtain ⟨⟨rfl, hrow2⟩, hy2⟩ := hy
        obtain ⟨l, ad, cc, hl, g1, gc, g2, rfl⟩ := slice_inv hr
        have hbk := hh.blk q _ l hrow2 hl
        obtain ⟨cur, ty', fr, hrow, hri, hcap⟩ := hbk.rowIs
        obtain ⟨c0, c1, c2, c3, c4, c5, c6⟩ := hcap rfl
        have c5 : ¬ l.b < n := c5
        have own : Owns o2 h2 ρ2 q l.b := ⟨l, hl, .inl ⟨_, hrow2, rfl⟩⟩
        have fresh : ¬ UsedB o2 h2 ρ2 used l.b := by
          rintro ⟨r, hr, ho, hwo⟩
          exact owns_sep hh hO2 (fun e => hq (by rw [e]; exact hr)) (fun k hk => by rw [hrow2] at hk; cases hk; rfl) hwo own ho
        obtain ⟨o, hO, hu⟩ := hP.obj
        have hpush := hP.hp.push (k := ⟨true, ty, esz, true, es⟩) (l := l) (get_row.1 hrow2).2 (.ofRow hbk.esz hrow (fun i e he => by
            obtain ⟨q1, q2, q3⟩ := hri i e he
            exact ⟨q1, q2, fun o c hc => by simpa using q3 o c hc⟩) fun _ => ⟨c0, c1, c2, c3, c4, fun hB => c5 (hBn _ hB), c6⟩)
          (fun r k' l' hk' hl' e => by
            rcases hP.row r k' l' hk' hl' with h | h
            · exact c5 (e ▸ h)
            · exact fresh (e ▸ h)) hO fun r k' l' hk' hl' hm => by
            rcases hu r k' l' hk' hl' _ hm with h | h
            · exact c5 h
            · exact fresh h
        have old : ∀ {r l'}, r < h.length → At (ρ ++ [l]) r l' → At ρ r l' := by
          rintro r l' hr ⟨hl, hp⟩; rw [List.getElem?_append_left (by rw [hP.hp.len]; exact hr)] at hl; exact ⟨hl, hp⟩
        have new : ∀ {l'}, At (ρ ++ [l]) h.length l' → l' = l := by
          rintro l' ⟨hl, _⟩; rw [← hP.hp.len, List.getElem?_append_right (Nat.le_refl _)] at hl; simpa using hl.symm
        have hP' : PutR B n o2 ρ2 h2 (q :: used) (ρ ++ [l]) (h ++ [some ⟨true, ty, esz, true, es⟩]) w' := by
          refine ⟨hpush, fun r k l' hk hl' => ?_, o, ?_, fun r k l' hk hl' b hm => ?_⟩
          · rcases row_append hk with ⟨hlt, g⟩ | ⟨e, g⟩
            · exact (hP.row r k l' g (old hlt hl')).imp id fun h => h.cons (more := [q])
            · subst e; rw [new hl']; exact .inr ⟨q, List.mem_cons_self, own, fun k hk => by rw [hrow2] at hk; cases hk; rfl⟩
          · have nobj : ∀ {r k}, (h ++ [some ⟨true, ty, esz, true, es⟩] : Hp).obj r = some k → r < h.length ∧ h.obj r = some k := by
              intro r k hk
              rcases obj_append hk with h | ⟨_, g, g0⟩
              · exact h
              · cases g; exact absurd g0 (get_row.1 hrow2).2
            refine ⟨fun r k l' hk hl' => ?_, fun r r' k k' l1 l2 hk hk' a1 a2 hww hm => ?_, fun r r' k k' l1 l2 hk hk' hne a1 a2 => ?_, fun r k hk => let ⟨l', hl'⟩ := hO.here r k (nobj hk).2; ⟨l', getElem?_app _ hl'⟩⟩
            · obtain ⟨a, b⟩ := nobj hk
              exact hO.is r k l' b (old a hl')
            · obtain ⟨a, b⟩ := nobj hk
              rcases row_append hk' with ⟨hlt, g⟩ | ⟨e, _⟩
              · exact hO.row r r' k k' l1 l2 b g (old a a1) (old hlt a2) hww hm
              · subst e
                rw [new a2] at hm
                rcases hu r k l1 b (old a a1) _ hm with h | h
                · exact c5 h
                · exact fresh h
            · obtain ⟨a, b⟩ := nobj hk
              obtain ⟨a', b'⟩ := nobj hk'
              exact hO.obj r r' k k' l1 l2 b b' hne (old a a1) (old a' a2)
          · rcases obj_append hk with ⟨hlt, g⟩ | ⟨_, g, g0⟩
            · exact (hu r k l' g (old hlt hl') b hm).imp id fun h => h.cons (more := [q])
            · cases g; exact absurd g0 (get_row.1 hrow2).2
        obtain ⟨ρ', xs, h'', k, r, p⟩ := conv_all hBn hh hO2 hP' hK hok.2 hy2 h1
        refine ⟨l :: ρ', _, h'', k, .cons ?_ (by simpa using r), by simpa using p⟩
        have hsl := AVR.vslS (ρ := ρ ++ l :: ρ') (r := h.length) (i := 0) (len := es.length) (l := l) (a := ad) (c := cc) ⟨by rw [← hP.hp.len]; simp, hl.2⟩ g1 gc g2
        exact hsl
      · exact hy.elim
    unfold yieldAll at hy
    split at hy
    · exact row _ _ (by cases h0 with | slice a b c d => exact .slice a b c d) hy
    · rename_i q m
      rcases vsl_inv h0 with ⟨hz, rfl⟩ | hr
      · unfold yieldRow at hy
        split at hy
        · obtain ⟨⟨e, _⟩, hy2⟩ := hy
          obtain ⟨o, hO, hu⟩ := hP.obj
          exact nil (q :: used) ⟨hP.hp, fun r k l a b => (hP.row r k l a b).imp id fun h => h.cons (more := [q]), o, hO, fun r k l a b c d => (hu r k l a b c d).imp id fun h => h.cons (more := [q])⟩ rfl (by omega) hy2
        · exact hy.elim
      · exact row _ _ (hr true) hy
    · cases h0
      exact nil used hP rfl (by rw [hy.1]; rfl) hy.2
    · exact hy.elim
  | .obj ty es :: its, y :: vs, u :: us, used, ρ, h, K, hP, hK, hok, hy, .cons h0 h1 => by
    simp only [List.all_cons, Bool.and_eq_true] at hok
    unfold yieldAll at hy
    split at hy
    · rename_i r
      split at hy
      · rename_i hall
        obtain ⟨hcl, hy2⟩ := hy
        obtain ⟨l2, hl2, rfl⟩ := ptr_inv h0
        obtain ⟨hoff, own, hob, hown⟩ := objAt_own hcl hh hO2 hl2
        have hfr : ∀ b ∈ own, ¬ b < n ∧ ¬ UsedB o2 h2 ρ2 used b := fun b hb => by
          obtain ⟨b1, b2, r', hr', hor, hwr⟩ := hown b hb
          refine ⟨b2, ?_⟩
          rintro ⟨r'', hr'', ho', hwo⟩
          have hnu := List.all_eq_true.1 hall r' hr'
          have hnu : r' ∉ used := by simpa using hnu
          by_cases e : r' = r''
          · exact hnu (e ▸ hr'')
          · exact owns_sep hh hO2 e (fun k hk => hwr k (get_row.1 hk).1) hwo hor ho'
        obtain ⟨o, hO, hu⟩ := hP.obj
        have hrowF : ∀ r k' l', h.row r = some k' → At ρ r l' → l'.b ∉ own := fun r k' l' hk' hl' hm => by
          obtain ⟨f1, f2⟩ := hfr _ hm
          rcases hP.row r k' l' hk' hl' with h | h
          · exact f1 h
          · exact f2 h
        have hobjF : ∀ r k' l', h.obj r = some k' → At ρ r l' → ∀ b ∈ o r, b ∉ own := fun r k' l' hk' hl' b hm hm' => by
          obtain ⟨f1, f2⟩ := hfr _ hm'
          rcases hu r k' l' hk' hl' b hm with h | h
          · exact f1 h
          · exact f2 h
        have hpush := hP.hp.pushObj (l := ⟨l2.b, 0, 0, 0, false⟩) rfl rfl hob (fun b hm => ⟨(hown b hm).1, fun hB => (hfr b hm).1 (hBn b hB)⟩) hO hrowF hobjF
        have old : ∀ {r l'}, r < h.length → At (ρ ++ [⟨l2.b, 0, 0, 0, false⟩]) r l' → At ρ r l' := by
          rintro r l' hr ⟨hl, hp⟩; rw [List.getElem?_append_left (by rw [hP.hp.len]; exact hr)] at hl; exact ⟨hl, hp⟩
        have new : ∀ {l'}, At (ρ ++ [⟨l2.b, 0, 0, 0, false⟩]) h.length l' → l' = ⟨l2.b, 0, 0, 0, false⟩ := by
          rintro l' ⟨hl, _⟩; rw [← hP.hp.len, List.getElem?_append_right (Nat.le_refl _)] at hl; simpa using hl.symm
        have lo : ∀ {r}, r < h.length → (if r < h.length then o r else own) = o r := fun h => if_pos h
        have hi : (if h.length < h.length then o h.length else own) = own := if_neg (Nat.lt_irrefl _)
        have hP' : PutR B n o2 ρ2 h2 (objAll h2 r ++ used) (ρ ++ [⟨l2.b, 0, 0, 0, false⟩]) (h ++ [some ⟨true, ty, 0, true, es⟩]) w' := by
          have nrow : ∀ {r k}, (h ++ [some ⟨true, ty, 0, true, es⟩] : Hp).row r = some k → r < h.length ∧ h.row r = some k := by
            intro r k hk
            rcases row_append hk with h | ⟨_, g⟩
            · exact h
            · cases g; exact absurd rfl (get_row.1 hk).2
          refine ⟨hpush, fun r' k l' hk hl' => ?_, fun r => if r < h.length then o r else own, ⟨fun r' k l' hk hl' => ?_, fun r1 r2 k1 k2 l1 l2' g1 g2 a1 a2 hww hm => ?_, fun r1 r2 k1 k2 l1 l2' g1 g2 hne a1 a2 b hm hm' => ?_, fun r' k hk => (obj_append hk).elim (fun g => let ⟨l', hl'⟩ := hO.here r' k g.2; ⟨l', getElem?_app _ hl'⟩) fun g => ⟨⟨l2.b, 0, 0, 0, false⟩, by rw [g.1]; exact At.new hP.hp.len rfl⟩⟩, fun r' k l' hk hl' b hm => ?_⟩
          · obtain ⟨a, g⟩ := nrow hk
            exact (hP.row r' k l' g (old a hl')).imp id fun h => h.cons
          · rcases obj_append hk with ⟨hlt, g⟩ | ⟨e, g, _⟩
            · rw [lo hlt]; exact hO.is r' k l' g (old hlt hl')
            · subst e; cases g; rw [hi, new hl']
              exact ⟨hob, fun b hb => (hown b hb).1, fun _ b hb hB => (hfr b hb).1 (hBn b hB), rfl⟩
          · obtain ⟨a, g2⟩ := nrow g2
            rcases obj_append g1 with ⟨hlt, g⟩ | ⟨e, g, _⟩
            · rw [lo hlt] at hm; exact hO.row r1 r2 k1 k2 l1 l2' g g2 (old hlt a1) (old a a2) hww hm
            · subst e; rw [hi] at hm; exact hrowF r2 k2 l2' g2 (old a a2) hm
          · rcases obj_append g1 with ⟨hlt, g⟩ | ⟨e, g, _⟩ <;> rcases obj_append g2 with ⟨hlt', g'⟩ | ⟨e', g', _⟩
            · rw [lo hlt] at hm; rw [lo hlt'] at hm'
              exact hO.obj r1 r2 k1 k2 l1 l2' g g' hne (old hlt a1) (old hlt' a2) b hm hm'
            · subst e'; rw [lo hlt] at hm; rw [hi] at hm'
              exact hobjF r1 k1 l1 g (old hlt a1) b hm hm'
            · subst e; rw [hi] at hm; rw [lo hlt'] at hm'
              exact hobjF r2 k2 l2' g' (old hlt' a2) b hm' hm
            · exact hne (e.trans e'.symm)
          · have hm : b ∈ (if r' < h.length then o r' else own) := hm
            rcases obj_append hk with ⟨hlt, g⟩ | ⟨e, g, _⟩
            · rw [lo hlt] at hm
              exact (hu r' k l' g (old hlt hl') b hm).imp id fun h => h.cons
            · subst e; rw [hi] at hm
              obtain ⟨_, _, r'', hr'', hor, hwr⟩ := hown b hm
              exact .inr ⟨r'', List.mem_append_left _ hr'', hor, fun k hk => hwr k (get_row.1 hk).1⟩
        obtain ⟨ρ', xs, h'', k, rr, p⟩ := conv_all hBn hh hO2 hP' hK hok.2 hy2 h1
        refine ⟨⟨l2.b, 0, 0, 0, false⟩ :: ρ', _, h'', k, .cons ?_ (by simpa using rr), by simpa using p⟩
        have := AVR.ptr (ρ := ρ ++ ⟨l2.b, 0, 0, 0, false⟩ :: ρ') (r := h.length) (i := 0) (o := 0) (st := true) (l := ⟨l2.b, 0, 0, 0, false⟩) ⟨by rw [← hP.hp.len]; simp, rfl⟩
        simpa [hoff] using this
      · exact hy.elim
    · exact hy.elim

/-- What a callee's result comes to among the caller's rows. -/
theorem conv_res {B : Gd} {ρ : List Loc} {h' : Hp} {w : World} (hH : HpR B ρ h' w) {K : AV → Hp → Prop} {r : Res} (hk : resK h' K r) (hok : r.ok) {ρ2 : List Loc} {y : AV} {u : Value} {h2 : Hp} {hs' : List Hint} {w' : World}
    (hy : yields r y h2 hs') (hr : AVR ρ2 y u) (hh : HpR w.heap.size ρ2 h2 w') (hb : Bel (bl w.heap.size) w w') : ∃ ρ' x h'', K x h'' ∧ AVR (ρ ++ ρ') x u ∧ HpR B (ρ ++ ρ') h'' w' ∧ Bel B w w' := by
  have hold := hH.below hb
  have rowR : ∀ (ty : TypeId) (esz : Nat) (es : List AV) (q n : Nat) (s : Bool), AVR ρ2 (.slice q 0 n s) u → n = es.length → h2.row q = some ⟨true, ty, esz, true, es⟩ →
      ∃ l : Loc, AVR (ρ ++ [l]) (.slice h'.length 0 es.length false) u ∧ HpR B (ρ ++ [l]) (h' ++ [some ⟨true, ty, esz, true, es⟩]) w' := by
    rintro ty esz es q n s hr rfl hq
    obtain ⟨l, ad, cc, hl, g1, gc, g2, rfl⟩ := slice_inv hr
    have hbk := hh.blk q _ l hq hl
    obtain ⟨cur, ty', fr, hrow, hri, hcap⟩ := hbk.rowIs
    obtain ⟨c0, c1, c2, c3, c4, c5, c6⟩ := hcap rfl
    have c5 : ¬ l.b < w.heap.size := c5
    obtain ⟨o, hO⟩ := hH.objs
    refine ⟨l, .slice (At.new hH.len hl.2) g1 gc g2, hold.push (k := ⟨true, ty, esz, true, es⟩) (l := l) (get_row.1 hq).2 ?_ (fun r k' l' hk' hl' => ?_) (hO.change hb.size fun _ _ _ hk hl b hb' => hb.block _ (hO.lt hk hl b hb')) fun r k' l' hk' hl' hm => absurd (hO.lt hk' hl' _ hm) c5⟩
    · refine .ofRow hbk.esz hrow (fun i e he => ?_) fun _ => ⟨c0, c1, c2, c3, c4, fun hB => c5 (hH.base _ hB), c6⟩
      obtain ⟨q1, q2, q3⟩ := hri i e he
      exact ⟨q1, q2, fun o c hc => by simpa using q3 o c hc⟩
    · have := (hH.blk r k' l' hk' hl').lt
      omega
  cases r with
  | v x =>
    have := canon2_rel hr
    rw [show canon2 y = x from hy] at this
    exact ⟨[], x, h', hk, by simpa using pure3_any (ρ' := ρ) hok this, by simpa using hold, hb.mono hH.base⟩
  | row ty esz es =>
    unfold yields at hy
    dsimp only at hy
    split at hy
    · obtain ⟨l, h1, h3⟩ := rowR ty esz es _ _ _ hr hy.1 hy.2
      exact ⟨[l], _, _, hk, h1, h3, hb.mono hH.base⟩
    · rcases vsl_inv hr with ⟨h0, _⟩ | hr
      · exact absurd hy.1 (by omega)
      · obtain ⟨l, h1, h3⟩ := rowR ty esz es _ _ true (hr true) hy.2.1 hy.2.2
        exact ⟨[l], _, _, hk, h1, h3, hb.mono hH.base⟩
    · exact hy.elim
  | vrow ty esz es =>
    unfold yields at hy
    dsimp only at hy
    have nil : u = .slice none 0 0 → es.length = 0 → ∃ ρ' x h', K x h' ∧ AVR (ρ ++ ρ') x u ∧ HpR B (ρ ++ ρ') h' w' ∧ Bel B w w' := by
      rintro rfl h0
      exact ⟨[⟨0, 0, 0, 0, true⟩], _, _, hk, .vslN h0, hold.pushPh _ (by rintro rfl; exact hok) rfl, hb.mono hH.base⟩
    split at hy
    · obtain ⟨l, h1, h3⟩ := rowR ty esz es _ _ _ hr hy.1 hy.2
      exact ⟨[l], _, _, hk, vsl_of h1, h3, hb.mono hH.base⟩
    · rcases vsl_inv hr with ⟨h0, rfl⟩ | hr
      · exact nil rfl (hy.1 ▸ h0)
      · obtain ⟨l, h1, h3⟩ := rowR ty esz es _ _ true (hr true) hy.1 hy.2
        exact ⟨[l], _, _, hk, vsl_of h1, h3, hb.mono hH.base⟩
    · cases hr
      exact nil rfl (by rw [hy]; rfl)
    · exact hy.elim
  | many its =>
    unfold yields at hy
    dsimp only at hy
    split at hy
    · cases hr with
      | tuple hr =>
        obtain ⟨o, hO⟩ := hH.objs
        obtain ⟨o2, hO2⟩ := hh.objs
        have hP : PutR B w.heap.size o2 ρ2 h2 [] ρ h' w' := ⟨hold, fun r k l hk hl => .inl (hH.blk r k l hk hl).lt, o, hO.change hb.size fun _ _ _ hk hl b hb' => hb.block _ (hO.lt hk hl b hb'), fun r k l hk hl b hm => .inl (hO.lt hk hl b hm)⟩
        obtain ⟨ρ', xs, h'', k, r, p⟩ := conv_all hH.base hh hO2 hP hk hok hy hr
        exact ⟨ρ', _, h'', k, .tuple r, p, hb.mono hH.base⟩
    · exact hy.elim
  | obj ty es rest =>
    unfold yields at hy
    dsimp only at hy
    have put : ∀ (r : Nat) (u0 : Value), objAt h2 r ty es → AVR ρ2 (.ptr r 0 0 true) u0 → ∃ l : Loc, AVR (ρ ++ [l]) (.ptr h'.length 0 0 true) u0 ∧ HpR B (ρ ++ [l]) (h' ++ [some ⟨true, ty, 0, true, es⟩]) w' := by
      intro r u0 hcl hr0
      obtain ⟨l2, hl2, rfl⟩ := ptr_inv hr0
      obtain ⟨o2, hO2⟩ := hh.objs
      obtain ⟨hoff, own, hob, hown0⟩ := objAt_own hcl hh hO2 hl2
      have hown : ∀ b ∈ own, b < w'.heap.size ∧ ¬ bl w.heap.size b := fun b hb => ⟨(hown0 b hb).1, (hown0 b hb).2.1⟩
      obtain ⟨o, hO⟩ := hH.objs
      have hOw : ObjsO o B ρ h' w' := hO.change hb.size fun _ _ _ hk hl b hb' => hb.block _ (hO.lt hk hl b hb')
      have hown' : ∀ b ∈ own, w.heap.size ≤ b := fun b hm => Nat.le_of_not_lt (hown b hm).2
      refine ⟨⟨l2.b, 0, 0, 0, false⟩, ?_, hold.pushObj (l := ⟨l2.b, 0, 0, 0, false⟩) rfl rfl hob (fun b hm => ⟨(hown b hm).1, fun hB => absurd (hH.base b hB) (Nat.not_lt.2 (hown' b hm))⟩) hOw (fun r k' l' hk' hl' hm => ?_) fun r k' l' hk' hl' b hm hm' => ?_⟩
      · have := AVR.ptr (ρ := ρ ++ [⟨l2.b, 0, 0, 0, false⟩]) (r := h'.length) (i := 0) (o := 0) (st := true) (At.new (l := ⟨l2.b, 0, 0, 0, false⟩) hH.len rfl)
        simpa [hoff] using this
      · have h1 := (hH.blk r k' l' hk' hl').lt
        have h2 := hown' _ hm
        omega
      · have h1 := hO.lt hk' hl' b hm
        have h2 := hown' b hm'
        omega
    split at hy
    · obtain ⟨l, h1, h3⟩ := put _ _ hy hr
      exact ⟨[l], _, _, hk, h1, h3, hb.mono hH.base⟩
    · rename_i r y vs x rest
      obtain ⟨hy1, hy2⟩ := hy
      cases hr with
      | tuple hr => cases hr with
        | cons hr0 hr1 =>
          obtain ⟨l, h1, h3⟩ := put _ _ hy2 hr0
          have h4 := canon_rels hr1
          rw [hy1] at h4
          exact ⟨[l], _, _, hk, .tuple (.cons h1 (pures_any (ρ' := ρ ++ [l]) pure2_any hok h4)), h3, hb.mono hH.base⟩
    · exact hy.elim

theorem genSpec_ok2 {C : Call} (hC : COK P false C) {f : FuncId} {ps : List Par} {F : List Arg → (Res → Prop) → Prop}
    (h : ∀ as R, F as R → ∃ r, R r ∧ r.ok ∧ ∃ (hs : List Hint) (Y : AV → Hp → List Hint → Prop), C f (place 0 ps as).1 (place 0 ps as).2 hs Y ∧ ∀ v h hs', Y v h hs' → yields r v h hs') : SpecOK P f (genSpec ps F) := by
  intro args h' K hK B ρ w vs hH hv
  unfold genSpec at hK
  split at hK
  · rename_i as has
    · obtain ⟨hF, hin, hin2⟩ := argsIn_iff hK
      obtain ⟨r, hk, hok, hs, Y, hc, hY⟩ := h _ _ hF
      obtain ⟨ρc, e1, e2, e3⟩ := place_rel hH (F := fun _ => True) (fun _ _ _ _ _ => trivial) 0 hv has hin hin2
      have hargs : AVRs ρc (place 0 ps as).1 vs := by simpa using e2 [] rfl
      have hHc : HpR w.heap.size ρc (place 0 ps as).2 w := ⟨e1, .refl _, fun r k l hk hl => (e3.2.1 r k l hk hl).2 ρc, fun r r' k k' l l' hk _ hw _ hl _ => (by
        have := (e3.2.1 r k l hk hl).1; rw [this] at hw; cases hw), hH.glob.mono hH.base, .none e3.2.2⟩
      have conv : ∀ u w', (∃ ρ' y h' hs', Y y h' hs' ∧ AVR (ρc ++ ρ') y u ∧ HpR w.heap.size (ρc ++ ρ') h' w' ∧ Bel (if false = true then bl w.heap.size else bl w.heap.size) w w' ∧ (false = true → (place 0 ps as).2 <+: h')) →
          ∃ ρ' x h', K x h' ∧ AVR (ρ ++ ρ') x u ∧ HpR B (ρ ++ ρ') h' w' ∧ Bel B w w' := by
        rintro u w' ⟨ρ', y, h2, hs', hy, hr, hh, hb, _⟩
        exact conv_res hH hk hok (hY _ _ _ hy) hr hh (by simpa using hb)
      rcases hC f _ _ hs _ hc w.heap.size ρc w vs hHc hargs with ⟨hr, hcl⟩ | ⟨v, w', hr, hl⟩
      · exact .inl ⟨hr, hcl.mono fun e w' he => by cases e with
          | returned v => exact conv v w' he
          | panicked c => exact he
          | outgrown => exact he⟩
      · exact .inr ⟨v, w', hr, conv v w' hl⟩
  · exact hK.elim

theorem genSpec_ok {C : Call} (hC : COK P false C) {f : FuncId} {ps : List Par} {F : List Arg → (Res → Prop) → Prop}
    (h : ∀ as R, F as R → ∃ r, R r ∧ r.ok ∧ ∃ hs, C f (place 0 ps as).1 (place 0 ps as).2 hs (yields r)) : SpecOK P f (genSpec ps F) :=
  genSpec_ok2 hC fun as R hF => by
    obtain ⟨r, h1, h2, hs, hc⟩ := h as R hF
    exact ⟨r, h1, h2, hs, _, hc, fun _ _ _ hy => hy⟩

theorem inR {n : Int} (h0 : -9223372036854775808 ≤ n) (h1 : n ≤ 9223372036854775807) : inRange .i64 n := by
  unfold inRange
  have e0 : IntKind.i64.min = -9223372036854775808 := by decide
  have e1 : IntKind.i64.max = 9223372036854775807 := by decide
  omega

/-- An element of one cell, read whole. -/
theorem read1 {P : Program} {k : Blk} {t : TypeId} {i : Nat} {x : AV} (he : k.elems[i]? = some x) (hp : partOf P t x.cells 0 = some x) : k.read P t (0 + i) 0 = some x := by
  unfold Blk.read
  rw [Nat.zero_add, he]
  exact hp

end
end Go.Sx
