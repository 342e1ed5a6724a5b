/-
  Texts in one: M17 M18.
-/
import Derived.Test.YtnjbgbdcbejciaaMa

section
/-
  Plain mathematics: the steps from one row of entries to another one. No program.
-/
namespace Go.Sx.M

theorem alE_iff {x y : En} : alE x y = true ↔ x.v = y.v ∧ x.w = y.w ∧ x.m = y.m ∧ x.n = y.n ∧ x.len = y.len := by
  unfold alE
  simp only [Bool.and_eq_true, beq_iff_eq]
  constructor
  · rintro ⟨⟨⟨h1, h2⟩, h3, h4⟩, h5⟩; exact ⟨h1, h2, h3, h4, h5⟩
  · rintro ⟨h1, h2, h3, h4, h5⟩; exact ⟨⟨⟨h1, h2⟩, h3, h4⟩, h5⟩

theorem alE_refl (x : En) : alE x x = true := alE_iff.2 ⟨rfl, rfl, rfl, rfl, rfl⟩
theorem alE_symm {x y : En} (h : alE x y = true) : alE y x = true := by
  obtain ⟨h1, h2, h3, h4, h5⟩ := alE_iff.1 h
  exact alE_iff.2 ⟨h1.symm, h2.symm, h3.symm, h4.symm, h5.symm⟩
theorem alE_comm (x y : En) : alE x y = alE y x := by
  rw [Bool.eq_iff_iff]; exact ⟨alE_symm, alE_symm⟩
theorem alE_trans {x y z : En} (h : alE x y = true) (h' : alE y z = true) : alE x z = true := by
  obtain ⟨h1, h2, h3, h4, h5⟩ := alE_iff.1 h
  obtain ⟨g1, g2, g3, g4, g5⟩ := alE_iff.1 h'
  exact alE_iff.2 ⟨h1.trans g1, h2.trans g2, h3.trans g3, h4.trans g4, h5.trans g5⟩
theorem alE_act {x y : En} (h : alE x y = true) (ha : x.act = y.act) : x = y := by
  obtain ⟨h1, h2, h3, h4, h5⟩ := alE_iff.1 h
  cases x; cases y; simp_all
theorem alE_not {x y z : En} (h : alE x y = true) (h' : alE x z = false) : alE y z = false := by
  cases e : alE y z with
  | false => rfl
  | true => rw [alE_trans h e] at h'; cases h'
theorem alE_len {x y : En} (h : alE x y = true) : x.len = y.len := (alE_iff.1 h).2.2.2.2
theorem alE_match {x y : En} (h : alE x y = true) (a b : BitVec 64) : mtE x a b = mtE y a b := by
  obtain ⟨h1, h2, h3, h4, _⟩ := alE_iff.1 h
  unfold mtE
  rw [h1, h2, h3, h4]
theorem alE_meet {x y : En} (h : alE x y = true) : meE x y = true := by
  obtain ⟨h1, h2, h3, h4, _⟩ := alE_iff.1 h
  unfold meE
  rw [wtB_iff, h1, h2, h3, h4]
  exact fun _ _ _ _ => rfl

/-- No two are alike. -/
def UqE : List En → Prop := List.Pairwise fun x y => alE x y = false

theorem UqE.perm {l m : List En} (h : UqE l) (hp : l.Perm m) : UqE m := hp.pairwise h fun {x y} hh => by rw [alE_comm]; exact hh

theorem UqE.one {l : List En} (h : UqE l) {x y : En} (hx : x ∈ l) (hy : y ∈ l) (ha : alE x y = true) : x = y := by
  induction l with
  | nil => cases hx
  | cons z l ih =>
    obtain ⟨h1, h2⟩ := List.pairwise_cons.1 h
    rcases List.mem_cons.1 hx with e1 | hx' <;> rcases List.mem_cons.1 hy with e2 | hy'
    · rw [e1, e2]
    · rw [e1, h1 y hy'] at ha; cases ha
    · rw [e2, alE_comm, h1 x hx'] at ha; cases ha
    · exact ih h2 hx' hy'

theorem UqE.nodup {l : List En} (h : UqE l) : l.Nodup := h.imp fun {x y} hh e => by subst e; rw [alE_refl] at hh; cases hh

/-- Of the same entries, each once: the one is the other in another order. -/
theorem UqE.ext {l m : List En} (h : UqE l) (hm : UqE m) (he : ∀ x, x ∈ l ↔ x ∈ m) : l.Perm m := (List.perm_ext_iff_of_nodup h.nodup hm.nodup).2 fun x => he x

theorem siE_uq {l : List En} (h : siE l = true) : UqE l := (siE_pair.1 h).imp fun {x y} hh => by
  cases e : alE x y with
  | false => rfl
  | true =>
    have := hh (alE_len e)
    rw [alE_meet e] at this; cases this

def onS (out : List En) (x : En) : List En := if out.any (fun y => alE y x) then out else out ++ [x]

/-- Of those that are alike only the first one. -/
def onE (l : List En) : List En := l.foldl onS []

theorem onE_snoc (l : List En) (x : En) : onE (l ++ [x]) = onS (onE l) x := by unfold onE; rw [List.foldl_append]; rfl

theorem onS_any {out : List En} {x : En} : out.any (fun y => alE y x) = false ↔ ∀ y ∈ out, alE y x = false := by
  rw [List.any_eq_false]
  exact forall_congr' fun y => forall_congr' fun _ => by simp

theorem onE_spec (l : List En) : UqE (onE l) ∧ (onE l).Sublist l ∧ ∀ x ∈ l, ∃ y ∈ onE l, alE y x = true := by
  have key : ∀ (r l : List En), l = r.reverse → UqE (onE l) ∧ (onE l).Sublist l ∧ ∀ x ∈ l, ∃ y ∈ onE l, alE y x = true := by
    intro r
    induction r with
    | nil => rintro l rfl; exact ⟨.nil, .slnil, fun x hx => by cases hx⟩
    | cons z r ih =>
      rintro l rfl
      obtain ⟨h1, h2, h3⟩ := ih r.reverse rfl
      rw [List.reverse_cons, onE_snoc]
      unfold onS
      cases e : (onE r.reverse).any (fun y => alE y z) with
      | true =>
        rw [if_pos rfl]
        refine ⟨h1, h2.trans (List.sublist_append_left _ _), fun x hx => ?_⟩
        rcases List.mem_append.1 hx with hx | hx
        · exact h3 x hx
        · rw [List.mem_singleton.1 hx]
          obtain ⟨y, hy, hya⟩ := List.any_eq_true.1 e
          exact ⟨y, hy, hya⟩
      | false =>
        rw [if_neg (by simp)]
        have hn := onS_any.1 e
        refine ⟨?_, h2.append (List.Sublist.refl _), fun x hx => ?_⟩
        · unfold UqE
          rw [List.pairwise_append]
          refine ⟨h1, List.pairwise_singleton _ _, fun a ha b hb => ?_⟩
          rw [List.mem_singleton.1 hb]
          exact hn a ha
        · rcases List.mem_append.1 hx with hx | hx
          · obtain ⟨y, hy, hya⟩ := h3 x hx
            exact ⟨y, List.mem_append_left _ hy, hya⟩
          · rw [List.mem_singleton.1 hx]
            exact ⟨z, by simp, alE_refl _⟩
  exact key l.reverse l (List.reverse_reverse l).symm

theorem onE_uq (l : List En) : UqE (onE l) := (onE_spec l).1

/-- Whether one is alike to one of those ahead: whether to one of those that were taken. -/
theorem onE_any (l : List En) (x : En) : (onE l).any (fun y => alE y x) = l.any (fun y => alE y x) := by
  obtain ⟨_, h2, h3⟩ := onE_spec l
  rw [Bool.eq_iff_iff, List.any_eq_true, List.any_eq_true]
  constructor
  · rintro ⟨y, hy, h⟩; exact ⟨y, h2.subset hy, h⟩
  · rintro ⟨y, hy, h⟩
    obtain ⟨z, hz, hza⟩ := h3 y hy
    exact ⟨z, hz, alE_trans hza h⟩

theorem onE_next {l : List En} {i : Nat} (hi : i < l.length) : onE (l.take (i + 1)) = if (l.take i).any (fun y => alE y (at' l i)) then onE (l.take i) else onE (l.take i) ++ [at' l i] := by
  rw [List.take_add_one, at_get hi]
  show onE (l.take i ++ [at' l i]) = _
  rw [onE_snoc]
  unfold onS
  rw [onE_any]

theorem onE_id {l : List En} (h : UqE l) : onE l = l := by
  have key : ∀ n, n ≤ l.length → onE (l.take n) = l.take n := by
    intro n
    induction n with
    | zero => intro _; rfl
    | succ n ih =>
      intro hn
      rw [onE_next hn, ih (by omega), List.take_add_one, at_get hn, if_neg]
      · rfl
      · rw [Bool.not_eq_true, onS_any]
        intro y hy
        obtain ⟨j, hj, rfl⟩ := mem_at hy
        rw [List.length_take] at hj
        have e : at' (l.take n) j = at' l j := by
          unfold at'
          rw [List.getD_eq_getElem?_getD, List.getD_eq_getElem?_getD, List.getElem?_take, if_pos (by omega)]
        rw [e]
        have := List.pairwise_iff_getElem.1 h j n (by omega) hn (by omega)
        have e1 : ∀ i (hi : i < l.length), l[i] = at' l i := fun i hi => by have := at_get hi; rw [List.getElem?_eq_getElem hi] at this; exact Option.some_inj.1 this
        rw [e1 j (by omega), e1 n hn] at this
        exact this
  have := key l.length (Nat.le_refl _)
  rwa [List.take_length] at this

/-- A step: its kind (0: one more; 1: one in the place of another one; 2: one goes), its entry. -/
structure Sp where
  k : Int
  e : En
  deriving DecidableEq, Inhabited

def stU (a : List En) (y : En) : List Sp := match a.find? (fun x => alE x y) with
  | none => [⟨0, y⟩]
  | some x => if x.act = y.act then [] else [⟨1, y⟩]
def stV (b : List En) (x : En) : List Sp := if b.any (fun y => alE y x) then [] else [⟨2, x⟩]

/-- The steps from one sorted row to another one. -/
def stS (a b : List En) : List Sp := b.flatMap (stU a) ++ a.reverse.flatMap (stV b)

/-- The steps. -/
def stE (o n : List En) : List Sp := stS (srE (onE o)) (srE (onE n))

/-- A row behind a step. -/
def doE (l : List En) (s : Sp) : List En :=
  if s.k = 0 then l ++ [s.e] else if s.k = 1 then l.map (fun x => if alE x s.e then s.e else x) else if s.k = 2 then l.filter (fun x => !alE x s.e) else l

theorem do_add {l : List En} {y : En} (h : UqE l) (hn : ∀ x ∈ l, alE x y = false) : UqE (doE l ⟨0, y⟩) ∧ ∀ x, x ∈ doE l ⟨0, y⟩ ↔ x ∈ l ∨ x = y := by
  have e : doE l ⟨0, y⟩ = l ++ [y] := rfl
  rw [e]
  refine ⟨?_, fun x => by rw [List.mem_append, List.mem_singleton]⟩
  unfold UqE
  rw [List.pairwise_append]
  exact ⟨h, List.pairwise_singleton _ _, fun a ha b hb => by rw [List.mem_singleton.1 hb]; exact hn a ha⟩

theorem do_set {l : List En} {y z : En} (h : UqE l) (hz : z ∈ l) (hy : alE z y = true) : UqE (doE l ⟨1, y⟩) ∧ ∀ x, x ∈ doE l ⟨1, y⟩ ↔ x = y ∨ (x ∈ l ∧ alE x y = false) := by
  have e : doE l ⟨1, y⟩ = l.map fun x => if alE x y then y else x := rfl
  rw [e]
  have al : ∀ x, alE (if alE x y then y else x) x = true := fun x => by
    cases e : alE x y with
    | true => rw [if_pos rfl]; exact alE_symm e
    | false => rw [if_neg (by simp)]; exact alE_refl x
  refine ⟨?_, fun x => ?_⟩
  · unfold UqE
    rw [List.pairwise_map]
    refine h.imp fun {a b} hab => ?_
    cases e : alE (if alE a y then y else a) (if alE b y then y else b) with
    | false => rfl
    | true => rw [alE_trans (alE_trans (alE_symm (al a)) e) (al b)] at hab; cases hab
  · rw [List.mem_map]
    constructor
    · rintro ⟨u, hu, rfl⟩
      cases e : alE u y with
      | true => left; rw [if_pos rfl]
      | false => right; rw [if_neg (by simp)]; exact ⟨hu, e⟩
    · rintro (rfl | ⟨hx, hn⟩)
      · exact ⟨z, hz, by rw [hy, if_pos rfl]⟩
      · exact ⟨x, hx, by rw [hn, if_neg (by simp)]⟩

theorem do_drop {l : List En} {y : En} (h : UqE l) : UqE (doE l ⟨2, y⟩) ∧ ∀ x, x ∈ doE l ⟨2, y⟩ ↔ x ∈ l ∧ alE x y = false := by
  have e : doE l ⟨2, y⟩ = l.filter fun x => !alE x y := rfl
  rw [e]
  refine ⟨List.Pairwise.filter _ h, fun x => by rw [List.mem_filter]; simp⟩

/-- The first steps of a row are those of its first entries. -/
theorem take_flat {f : En → List Sp} (hf : ∀ y, (f y).length ≤ 1) : ∀ (b : List En) (p : Nat), ∃ i, i ≤ b.length ∧ (b.flatMap f).take p = (b.take i).flatMap f
  | [], p => ⟨0, Nat.le_refl _, by simp⟩
  | y :: b, p => by
    rw [List.flatMap_cons]
    rcases Nat.eq_zero_or_pos p with rfl | hp
    · exact ⟨0, Nat.zero_le _, by simp⟩
    · obtain ⟨i, hi, e⟩ := take_flat hf b (p - (f y).length)
      refine ⟨i + 1, by simpa using hi, ?_⟩
      have := hf y
      rw [List.take_append, List.take_of_length_le (by omega), e, List.take_succ_cons, List.flatMap_cons]

theorem stU_one (a : List En) (y : En) : (stU a y).length ≤ 1 := by
  unfold stU
  split
  · exact Nat.le_refl _
  · split <;> simp
theorem stV_one (b : List En) (x : En) : (stV b x).length ≤ 1 := by unfold stV; split <;> simp

/-- Behind the steps of the second row's first entries. -/
theorem up_phase {a b l0 : List En} (ha : UqE a) (hb : UqE b) (h0 : UqE l0) (hm : ∀ x, x ∈ l0 ↔ x ∈ a) : ∀ i, i ≤ b.length →
    UqE (((b.take i).flatMap (stU a)).foldl doE l0) ∧ ∀ x, x ∈ ((b.take i).flatMap (stU a)).foldl doE l0 ↔ x ∈ b.take i ∨ (x ∈ a ∧ ∀ y ∈ b.take i, alE y x = false)
  | 0, _ => ⟨h0, fun x => by rw [List.take_zero]; simp [hm]⟩
  | i + 1, hi => by
    obtain ⟨h1, h2⟩ := up_phase ha hb h0 hm i (by omega)
    have et : b.take (i + 1) = b.take i ++ [at' b i] := by rw [List.take_add_one, at_get hi]; rfl
    rw [et, List.flatMap_append, List.foldl_append]
    generalize hL : ((b.take i).flatMap (stU a)).foldl doE l0 = L at h1 h2
    generalize hy : at' b i = y
    have hyb : y ∈ b := hy ▸ at_mem hi
    have hyn : ∀ z ∈ b.take i, alE z y = false := fun z hz => by
      obtain ⟨j, hj, rfl⟩ := mem_at hz
      rw [List.length_take] at hj
      have e : at' (b.take i) j = at' b j := by
        unfold at'
        rw [List.getD_eq_getElem?_getD, List.getD_eq_getElem?_getD, List.getElem?_take, if_pos (by omega)]
      rw [e, ← hy]
      have := List.pairwise_iff_getElem.1 hb j i (by omega) hi (by omega)
      have e1 : ∀ i (hi : i < b.length), b[i] = at' b i := fun i hi => by have := at_get hi; rw [List.getElem?_eq_getElem hi] at this; exact Option.some_inj.1 this
      rw [e1 j (by omega), e1 i hi] at this
      exact this
    have es : [y].flatMap (stU a) = stU a y := by simp
    rw [es]
    -- what is asked, of what the step leaves
    have fin : ∀ L', UqE L' → (∀ x, x ∈ L' ↔ x = y ∨ (x ∈ L ∧ alE x y = false)) → UqE L' ∧ ∀ x, x ∈ L' ↔ x ∈ b.take i ++ [y] ∨ (x ∈ a ∧ ∀ z ∈ b.take i ++ [y], alE z x = false) := fun L' hu hx => by
      refine ⟨hu, fun x => ?_⟩
      rw [hx, h2]
      constructor
      · rintro (rfl | ⟨hx | ⟨hx, hn⟩, hxy⟩)
        · exact .inl (by simp)
        · exact .inl (List.mem_append_left _ hx)
        · refine .inr ⟨hx, fun z hz => ?_⟩
          rcases List.mem_append.1 hz with hz | hz
          · exact hn z hz
          · rw [List.mem_singleton.1 hz, alE_comm]; exact hxy
      · rintro (hx | ⟨hx, hn⟩)
        · rcases List.mem_append.1 hx with hx | hx
          · exact .inr ⟨.inl hx, hyn x hx⟩
          · exact .inl (List.mem_singleton.1 hx)
        · exact .inr ⟨.inr ⟨hx, fun z hz => hn z (List.mem_append_left _ hz)⟩, by rw [alE_comm]; exact hn y (by simp)⟩
    unfold stU
    split
    · rename_i hf
      have hna : ∀ x ∈ a, alE x y = false := fun x hx => by simpa using List.find?_eq_none.1 hf x hx
      have hnL : ∀ x ∈ L, alE x y = false := fun x hx => by
        rcases (h2 x).1 hx with hx | ⟨hx, _⟩
        · exact hyn x hx
        · exact hna x hx
      obtain ⟨u, m⟩ := do_add h1 hnL
      refine fin _ u fun x => ?_
      show x ∈ doE L ⟨0, y⟩ ↔ _
      rw [m]
      exact ⟨fun h => h.elim (fun h => .inr ⟨h, hnL x h⟩) .inl, fun h => h.elim .inr fun h => .inl h.1⟩
    · rename_i z hf
      have hza : alE z y = true := List.find?_some (p := fun x => alE x y) hf
      have hz : z ∈ a := List.mem_of_find?_eq_some hf
      have hzL : z ∈ L := (h2 z).2 (.inr ⟨hz, fun u hu => by rw [alE_comm]; exact alE_not (alE_symm hza) (by rw [alE_comm]; exact hyn u hu)⟩)
      split
      · rename_i hact
        have hzy := alE_act hza hact
        refine fin L h1 fun x => ?_
        constructor
        · intro hx
          cases e : alE x y with
          | false => exact .inr ⟨hx, rfl⟩
          | true => exact .inl ((h1.one hx hzL (alE_trans e (alE_symm hza))).trans hzy)
        · rintro (rfl | ⟨hx, _⟩)
          · rw [← hzy]; exact hzL
          · exact hx
      · obtain ⟨u, m⟩ := do_set h1 hzL hza
        exact fin _ u m

/-- Behind these, and the steps of the first row's last entries. -/
theorem down_phase {a b l0 : List En} (ha : UqE a) (h0 : UqE l0) (hm : ∀ x, x ∈ l0 ↔ x ∈ b ∨ (x ∈ a ∧ ∀ y ∈ b, alE y x = false)) : ∀ i, i ≤ a.length →
    UqE (((a.reverse.take i).flatMap (stV b)).foldl doE l0) ∧ ∀ x, x ∈ ((a.reverse.take i).flatMap (stV b)).foldl doE l0 ↔ x ∈ b ∨ (x ∈ a ∧ (∀ y ∈ b, alE y x = false) ∧ x ∉ a.reverse.take i)
  | 0, _ => ⟨h0, fun x => by rw [List.take_zero]; simp [hm]⟩
  | i + 1, hi => by
    have hi : i < a.reverse.length := by rw [List.length_reverse]; exact hi
    obtain ⟨h1, h2⟩ := down_phase ha h0 hm i (by rw [List.length_reverse] at hi; omega)
    have et : a.reverse.take (i + 1) = a.reverse.take i ++ [at' a.reverse i] := by rw [List.take_add_one, at_get hi]; rfl
    rw [et, List.flatMap_append, List.foldl_append]
    generalize ((a.reverse.take i).flatMap (stV b)).foldl doE l0 = L at h1 h2
    generalize hy : at' a.reverse i = y
    have hya : y ∈ a := List.mem_reverse.1 (hy ▸ at_mem hi)
    have es : [y].flatMap (stV b) = stV b y := by simp
    rw [es]
    unfold stV
    cases e : b.any (fun u => alE u y) with
    | true =>
      rw [if_pos rfl]
      refine ⟨h1, fun x => ?_⟩
      show x ∈ L ↔ _
      rw [h2]
      obtain ⟨u, hu, hua⟩ := List.any_eq_true.1 e
      constructor
      · rintro (hx | ⟨hx, hn, hd⟩)
        · exact .inl hx
        · refine .inr ⟨hx, hn, fun hc => ?_⟩
          rcases List.mem_append.1 hc with hc | hc
          · exact hd hc
          · rw [List.mem_singleton.1 hc] at hn
            rw [hn u hu] at hua; cases hua
      · rintro (hx | ⟨hx, hn, hd⟩)
        · exact .inl hx
        · exact .inr ⟨hx, hn, fun hc => hd (List.mem_append_left _ hc)⟩
    | false =>
      rw [if_neg (by simp)]
      have hyn := onS_any.1 e
      obtain ⟨u, m⟩ := do_drop (y := y) h1
      refine ⟨u, fun x => ?_⟩
      show x ∈ doE L ⟨2, y⟩ ↔ _
      rw [m, h2]
      constructor
      · rintro ⟨hx | ⟨hx, hn, hd⟩, hxy⟩
        · exact .inl hx
        · refine .inr ⟨hx, hn, fun hc => ?_⟩
          rcases List.mem_append.1 hc with hc | hc
          · exact hd hc
          · rw [List.mem_singleton.1 hc, alE_refl] at hxy; cases hxy
      · rintro (hx | ⟨hx, hn, hd⟩)
        · exact ⟨.inl hx, hyn x hx⟩
        · refine ⟨.inr ⟨hx, hn, fun hc => hd (List.mem_append_left _ hc)⟩, ?_⟩
          cases e2 : alE x y with
          | false => rfl
          | true => exact absurd (List.mem_append_right _ (List.mem_singleton.2 (ha.one hx hya e2))) hd

/-- P11.2: behind all steps. -/
theorem st_end {a b l0 : List En} (ha : UqE a) (hb : UqE b) (h0 : UqE l0) (hm : ∀ x, x ∈ l0 ↔ x ∈ a) : UqE ((stS a b).foldl doE l0) ∧ ((stS a b).foldl doE l0).Perm b := by
  obtain ⟨u1, m1⟩ := up_phase ha hb h0 hm b.length (Nat.le_refl _)
  rw [List.take_length] at u1 m1
  obtain ⟨u2, m2⟩ := down_phase ha u1 m1 a.length (Nat.le_refl _)
  have e : a.reverse.take a.length = a.reverse := by rw [← List.length_reverse, List.take_length]
  rw [e] at u2 m2
  have eq : (stS a b).foldl doE l0 = (a.reverse.flatMap (stV b)).foldl doE ((b.flatMap (stU a)).foldl doE l0) := by unfold stS; rw [List.foldl_append]
  rw [eq]
  refine ⟨u2, u2.ext hb fun x => ?_⟩
  rw [m2]
  exact ⟨fun h => h.elim id fun h => absurd (List.mem_reverse.2 h.1) h.2.2, .inl⟩

theorem stE_end (o n : List En) : UqE ((stE o n).foldl doE (onE o)) ∧ ((stE o n).foldl doE (onE o)).Perm (onE n) := by
  obtain ⟨h1, h2⟩ := st_end ((onE_uq o).perm (srE_perm _).symm) ((onE_uq n).perm (srE_perm _).symm) (onE_uq o) fun x => (srE_perm (onE o)).mem_iff.symm
  exact ⟨h1, h2.trans (srE_perm _)⟩

/-- What is told between the one and the other. -/
theorem tell_between {a b l : List En} (ha : siE a = true) (hb : siE b = true) {c d : BitVec 64}
    (hz : ∀ z ∈ l, (z ∈ b ∧ ∀ y ∈ b, z.len < y.len → y ∈ l) ∨ (z ∈ a ∧ ∀ x ∈ a, z.len < x.len → x ∈ l ∨ ∃ y ∈ l, alE y x = true))
    (h0 : (∀ x ∈ a, x ∈ l ∨ ∃ y ∈ l, alE y x = true) ∨ ∀ y ∈ b, y ∈ l) : tlI l c d = tlI a c d ∨ tlI l c d = tlI b c d := by
  rcases tl_cases l c d with ⟨e, hn⟩ | ⟨z, hzl, hzm, e, hzb⟩
  · rw [e]
    rcases h0 with h0 | h0
    · left
      rcases tl_cases a c d with ⟨e', _⟩ | ⟨x, hx, hxm, _, _⟩
      · exact e'.symm
      · rcases h0 x hx with h | ⟨y, hy, hyx⟩
        · rw [hn x h] at hxm; cases hxm
        · rw [← alE_match hyx, hn y hy] at hxm; cases hxm
    · right
      rcases tl_cases b c d with ⟨e', _⟩ | ⟨y, hy, hym, _, _⟩
      · exact e'.symm
      · rw [hn y (h0 y hy)] at hym; cases hym
  · rw [e]
    rcases hz z hzl with ⟨hzb', hl⟩ | ⟨hza, hl⟩
    · right
      refine (tl_of (siE_clear hb c d) hzb' hzm fun y hy hym => ?_).symm
      by_cases h : z.len < y.len
      · exact hzb y (hl y hy h) hym
      · omega
    · left
      refine (tl_of (siE_clear ha c d) hza hzm fun x hx hxm => ?_).symm
      by_cases h : z.len < x.len
      · rcases hl x hx h with h' | ⟨y, hy, hyx⟩
        · exact hzb x h' hxm
        · have := hzb y hy (by rw [alE_match hyx]; exact hxm)
          rw [alE_len hyx] at this; exact this
      · omega

theorem sorted_len {l : List En} (h : Sorted l) {i j : Nat} (hij : i < j) (hj : j < l.length) : (at' l j).len ≤ (at' l i).len := by
  have hp := List.pairwise_iff_getElem.1 h i j (by omega) hj hij
  have e : ∀ i (hi : i < l.length), l[i] = at' l i := fun i hi => by have := at_get hi; rw [List.getElem?_eq_getElem hi] at this; exact Option.some_inj.1 this
  rw [e i (by omega), e j hj, cpE_le] at hp
  omega

/-- A longer one stands ahead. -/
theorem sorted_take {l : List En} (h : Sorted l) {i : Nat} {z y : En} (hz : z ∈ l.take i) (hy : y ∈ l) (hl : z.len < y.len) : y ∈ l.take i := by
  obtain ⟨j, hj, rfl⟩ := mem_at hz
  obtain ⟨k, hk, rfl⟩ := mem_at hy
  rw [List.length_take] at hj
  have e : ∀ {j}, j < i → at' (l.take i) j = at' l j := fun hj => by
    unfold at'
    rw [List.getD_eq_getElem?_getD, List.getD_eq_getElem?_getD, List.getElem?_take, if_pos hj]
  rw [e (by omega)] at hl
  by_cases hki : k < i
  · have : at' (l.take i) k = at' l k := e hki
    rw [← this]
    exact at_mem (by rw [List.length_take]; omega)
  · have := sorted_len h (i := j) (j := k) (by omega) hk
    omega

/-- A longer one than one that has not gone has not gone. -/
theorem sorted_rev {l : List En} (h : Sorted l) {i : Nat} {z x : En} (hz : z ∈ l) (hzn : z ∉ l.reverse.take i) (hx : x ∈ l.reverse.take i) : x.len ≤ z.len := by
  obtain ⟨j, hj, rfl⟩ := mem_at hz
  have e : l.reverse.take i = (l.drop (l.length - i)).reverse := by rw [List.take_reverse]
  rw [e, List.mem_reverse] at hzn hx
  have hjl : j < l.length - i := by
    by_cases hlt : j < l.length - i
    · exact hlt
    · refine absurd ?_ hzn
      refine List.mem_iff_getElem?.2 ⟨j - (l.length - i), ?_⟩
      rw [List.getElem?_drop, show l.length - i + (j - (l.length - i)) = j from by omega, at_get hj]
  obtain ⟨k, hk⟩ := List.mem_iff_getElem?.1 hx
  rw [List.getElem?_drop] at hk
  have hkl := (List.getElem?_eq_some_iff.1 hk).1
  rw [at_get hkl] at hk
  rw [← Option.some_inj.1 hk]
  exact sorted_len h (by omega) hkl

/-- P11.2: of two simple rows what is told behind any of the steps. -/
theorem st_told {o n : List En} (ho : siE o = true) (hn : siE n = true) (c d : BitVec 64) (p : Nat) : tlI (((stE o n).take p).foldl doE o) c d = tlI o c d ∨ tlI (((stE o n).take p).foldl doE o) c d = tlI n c d := by
  have uo := siE_uq ho
  have un := siE_uq hn
  unfold stE
  rw [onE_id uo, onE_id un]
  have so : siE (srE o) = true := by rw [siE_perm (srE_perm o)]; exact ho
  have sn : siE (srE n) = true := by rw [siE_perm (srE_perm n)]; exact hn
  rw [← tell_perm (srE_perm o) (siE_clear so c d), ← tell_perm (srE_perm n) (siE_clear sn c d)]
  have sa := srE_sorted o
  have sb := srE_sorted n
  have ma : ∀ x, x ∈ o ↔ x ∈ srE o := fun x => (srE_perm o).mem_iff.symm
  have ua := siE_uq so
  have ub := siE_uq sn
  generalize srE o = a at *
  generalize srE n = b at *
  have et : (stS a b).take p = (b.flatMap (stU a)).take p ++ (a.reverse.flatMap (stV b)).take (p - (b.flatMap (stU a)).length) := by unfold stS; rw [List.take_append]
  rw [et]
  by_cases hp : p ≤ (b.flatMap (stU a)).length
  · have : p - (b.flatMap (stU a)).length = 0 := by omega
    rw [this, List.take_zero, List.append_nil]
    obtain ⟨i, hi, e⟩ := take_flat (stU_one a) b p
    rw [e]
    obtain ⟨_, m⟩ := up_phase ua ub uo ma i hi
    have all : ∀ x ∈ a, x ∈ ((b.take i).flatMap (stU a)).foldl doE o ∨ ∃ y ∈ ((b.take i).flatMap (stU a)).foldl doE o, alE y x = true := fun x hx => by
      cases e : (b.take i).any (fun y => alE y x) with
      | false => exact .inl ((m x).2 (.inr ⟨hx, onS_any.1 e⟩))
      | true =>
        obtain ⟨y, hy, hya⟩ := List.any_eq_true.1 e
        exact .inr ⟨y, (m y).2 (.inl hy), hya⟩
    refine tell_between so sn (fun z hz => ?_) (.inl all)
    rcases (m z).1 hz with hz | ⟨hz, _⟩
    · exact .inl ⟨List.mem_of_mem_take hz, fun y hy hl => (m y).2 (.inl (sorted_take sb hz hy hl))⟩
    · exact .inr ⟨hz, fun x hx _ => all x hx⟩
  · rw [List.take_of_length_le (by omega), List.foldl_append]
    obtain ⟨u1, m1⟩ := up_phase ua ub uo ma b.length (Nat.le_refl _)
    rw [List.take_length] at u1 m1
    obtain ⟨i, hi, e⟩ := take_flat (stV_one b) a.reverse (p - (b.flatMap (stU a)).length)
    rw [e]
    rw [List.length_reverse] at hi
    obtain ⟨_, m⟩ := down_phase ua u1 m1 i hi
    refine tell_between so sn (fun z hz => ?_) (.inr fun y hy => (m y).2 (.inl hy))
    rcases (m z).1 hz with hz | ⟨hz, _, hd⟩
    · exact .inl ⟨hz, fun y hy _ => (m y).2 (.inl hy)⟩
    · refine .inr ⟨hz, fun x hx hl => ?_⟩
      cases e2 : b.any (fun y => alE y x) with
      | true =>
        obtain ⟨y, hy, hya⟩ := List.any_eq_true.1 e2
        exact .inr ⟨y, (m y).2 (.inl hy), hya⟩
      | false =>
        refine .inl ((m x).2 (.inr ⟨hx, onS_any.1 e2, fun hc => ?_⟩))
        have := sorted_rev sa hz hd hc
        omega

theorem st_told_end {o n : List En} (ho : siE o = true) (hn : siE n = true) (c d : BitVec 64) : tlI ((stE o n).foldl doE o) c d = tlI n c d := by
  have h := stE_end o n
  rw [onE_id (siE_uq ho), onE_id (siE_uq hn)] at h
  exact (tell_perm h.2.symm (siE_clear hn c d)).symm

end Go.Sx.M
end

section
/-
  Plain mathematics: how many steps there are of each kind. No program.
-/
namespace Go.Sx.M

/-- How many steps are of a kind. -/
def ctE (k : Int) (l : List Sp) : Nat := l.countP fun s => decide (s.k = k)

theorem ctE_next {l : List Sp} {p : Nat} (h : p < l.length) (k : Int) : ctE k (l.take (p + 1)) = ctE k (l.take p) + (if (at' l p).k = k then 1 else 0) := by
  unfold ctE
  rw [List.take_add_one, at_get h, List.countP_append]
  congr 1
  show [at' l p].countP _ = _
  rw [List.countP_cons, List.countP_nil, Nat.zero_add]
  by_cases e : (at' l p).k = k
  · rw [if_pos (decide_eq_true e), if_pos e]
  · rw [if_neg (by rw [decide_eq_false e]; simp), if_neg e]

theorem ctE_le (k : Int) (l : List Sp) : ctE k l ≤ l.length := List.countP_le_length

/-- No more steps than entries. -/
theorem stE_length (o n : List En) : (stE o n).length ≤ n.length + o.length := by
  have key : ∀ {f : En → List Sp}, (∀ y, (f y).length ≤ 1) → ∀ b : List En, (b.flatMap f).length ≤ b.length := fun hf b => by
    induction b with
    | nil => exact Nat.le_refl _
    | cons y b ih =>
      rw [List.flatMap_cons, List.length_append, List.length_cons]
      have := hf y
      omega
  unfold stE stS
  rw [List.length_append]
  have h1 := key (stU_one (srE (onE o))) (srE (onE n))
  have h2 := key (stV_one (srE (onE n))) (srE (onE o)).reverse
  rw [List.length_reverse] at h2
  rw [srE_length] at h1 h2
  have h3 := (onE_spec o).2.1.length_le
  have h4 := (onE_spec n).2.1.length_le
  omega

/-- The step at a place is one of them: its entry. -/
theorem do_length (l : List En) (s : Sp) : (doE l s).length ≤ l.length + 1 := by
  unfold doE
  split
  · rw [List.length_append]; exact Nat.le_refl _
  · split
    · rw [List.length_map]; omega
    · split
      · exact Nat.le_trans (List.length_filter_le _ _) (by omega)
      · omega

theorem dos_length (l : List En) : ∀ s : List Sp, (s.foldl doE l).length ≤ l.length + s.length := fun s => by
  induction s generalizing l with
  | nil => exact Nat.le_refl _
  | cons x s ih =>
    have := ih (doE l x)
    have := do_length l x
    rw [List.foldl_cons, List.length_cons]
    omega

/-- Where the first one is that is alike; -1: there is none. -/
def fiE (l : List En) (y : En) : Int := fsG (fun x => alE x y) l l.length 0

theorem fiE_spec (l : List En) (y : En) : (fiE l y = -1 ∧ ∀ j, j < l.length → alE (at' l j) y = false) ∨ ∃ i : Nat, fiE l y = i ∧ i < l.length ∧ alE (at' l i) y = true ∧ ∀ j, j < i → alE (at' l j) y = false := by
  rcases fsG_spec (fun x => alE x y) l l.length 0 with ⟨h1, h2⟩ | ⟨i, h1, _, h3, h4, h5⟩
  · exact .inl ⟨h1, fun j hj => h2 j (by omega) (by omega)⟩
  · exact .inr ⟨i, h1, by omega, h4, fun j hj => h5 j (by omega) hj⟩

theorem fiE_any (l : List En) (y : En) : l.any (fun x => alE x y) = !decide (fiE l y < 0) := by
  rcases fiE_spec l y with ⟨h1, h2⟩ | ⟨k, h1, hk, h3, _⟩
  · rw [h1]
    show _ = false
    rw [onS_any]
    intro x hx
    obtain ⟨j, hj, rfl⟩ := mem_at hx
    exact h2 j hj
  · rw [h1, decide_eq_false (by omega)]
    exact List.any_eq_true.2 ⟨_, at_mem hk, h3⟩

theorem fiE_find {l : List En} {y : En} : (fiE l y < 0 → l.find? (fun x => alE x y) = none) ∧ (¬ fiE l y < 0 → l.find? (fun x => alE x y) = some (at' l (fiE l y).toNat)) := by
  rcases fiE_spec l y with ⟨h1, h2⟩ | ⟨k, h1, hk, h3, h4⟩
  · refine ⟨fun _ => List.find?_eq_none.2 fun x hx => ?_, fun h => by omega⟩
    obtain ⟨j, hj, rfl⟩ := mem_at hx
    rw [h2 j hj]; simp
  · refine ⟨fun h => by omega, fun _ => ?_⟩
    rw [(find_ex (p := fun x => alE x y) hk h3 h4).1, h1]; rfl

theorem stU_fi (a : List En) (y : En) : stU a y = if fiE a y < 0 then [⟨0, y⟩] else if (at' a (fiE a y).toNat).act = y.act then [] else [⟨1, y⟩] := by
  unfold stU
  by_cases h : fiE a y < 0
  · rw [if_pos h, fiE_find.1 h]
  · rw [if_neg h, fiE_find.2 h]

theorem stV_fi (b : List En) (x : En) : stV b x = if fiE b x < 0 then [⟨2, x⟩] else [] := by
  unfold stV
  rw [fiE_any]
  by_cases h : fiE b x < 0
  · rw [if_pos h, decide_eq_true h]; rfl
  · rw [if_neg h, decide_eq_false h]; rfl

/-- A row behind a step, but for what is added. -/
def dpE (l : List En) (s : Sp) : List En := if s.k = 1 then l.map (fun x => if alE x s.e then s.e else x) else if s.k = 2 then l.filter (fun x => !alE x s.e) else l

theorem doE_dp (l : List En) (s : Sp) : doE l s = if s.k = 0 then dpE l s ++ [s.e] else dpE l s := by
  unfold doE dpE
  by_cases h0 : s.k = 0
  · rw [if_pos h0, if_pos h0, if_neg (by omega), if_neg (by omega)]
  · rw [if_neg h0, if_neg h0]

end Go.Sx.M
end

