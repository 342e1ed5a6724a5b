/-
  The calculus (SxA): objects: rows of memory that are shut up as one, and put among the others.
-/
import Derived.Test.YthfgocpejlhanaaSxL
namespace Go.Sx
open Go.RowKit

/-- The rows that row r leads to, it first. -/
def objNames (h : Hp) (r : Nat) : List Nat :=
  let a := seenR 0 h [r] [r]
  let a := seenR 0 h a a
  seenR 0 h a a

def objModes (h : Hp) : List Nat → List Nat
  | [] => []
  | r :: l => (match h.row r with
    | some k => (match k.flat with | true => 1 | false => 2)
    | none => 1) :: objModes h l

/-- What row r leads to, alone. -/
def closeAt (h : Hp) (r : Nat) (K : Hp → Prop) : Prop :=
  let σ := objNames h r
  match σ with
  | r' :: l => match decide (r' = r) && decide ((r' :: l).Nodup) with
    | true => match weakH (r' :: l) h (r' :: l) (2 :: objModes h l) with
      | some h' => K h'
      | none => False
    | false => False
  | [] => False

theorem closeAt_names {h : Hp} {r : Nat} {K : Hp → Prop} (hc : closeAt h r K) : ∃ σ h', σ[0]? = some r ∧ σ.Nodup ∧ subH σ h σ h' ∧ K h' ∧ σ = objNames h r := by
  unfold closeAt at hc
  dsimp only at hc
  split at hc
  · rename_i r' l hσ
    split at hc
    · rename_i hd
      rw [Bool.and_eq_true, decide_eq_true_eq, decide_eq_true_eq] at hd
      split at hc
      · rename_i h' hh
        exact ⟨r' :: l, h', by simp [hd.1], hd.2, weakH_sub hh, hc, hσ.symm⟩
      · exact hc.elim
    · exact hc.elim
  · exact hc.elim

/-- All blocks of rows and objects. -/
def ownL (o : Nat → List Nat) (h : Hp) (ρ : List Loc) : List Nat := (List.range h.length).flatMap fun r => match ρ[r]? with
  | some l => if l.ph then [] else match h.row r with
    | some _ => [l.b]
    | none => match h.obj r with
      | some _ => o r
      | none => []
  | none => []

theorem mem_ownL {o : Nat → List Nat} {h : Hp} {ρ : List Loc} {b : Nat} : b ∈ ownL o h ρ ↔ ∃ r, Owns o h ρ r b := by
  unfold ownL
  rw [List.mem_flatMap]
  constructor
  · rintro ⟨r, _, hm⟩
    split at hm
    · rename_i l hl
      split at hm
      · cases hm
      · rename_i hp
        have ha : At ρ r l := ⟨hl, by simpa using hp⟩
        split at hm
        · rename_i k hk
          exact ⟨r, l, ha, .inl ⟨k, hk, by simpa using hm⟩⟩
        · split at hm
          · rename_i k hk
            exact ⟨r, l, ha, .inr ⟨k, hk, hm⟩⟩
          · cases hm
    · cases hm
  · rintro ⟨r, l, ⟨hl, hp⟩, hm⟩
    have hlt : r < h.length := by
      rcases hm with ⟨k, hk, _⟩ | ⟨k, hk, _⟩
      · exact row_lt hk
      · exact obj_lt hk
    refine ⟨r, List.mem_range.2 hlt, ?_⟩
    rw [hl]
    dsimp only
    rw [hp]
    simp only [Bool.false_eq_true, if_false]
    rcases hm with ⟨k, hk, rfl⟩ | ⟨k, hk, hm⟩
    · rw [hk]; simp
    · cases hr : h.row r with
      | some k' => exact absurd hk fun hk => (row_ne_obj hr hk).elim
      | none => dsimp only; rw [hk]; exact hm

/-- Rows that stand for a state are shut up as an object. -/
theorem ObjR.closeO {ty : TypeId} {es : List AV} {B : Gd} {ρ : List Loc} {h : Hp} {w : World} (hr : reprO ty es h) (hH : HpR B ρ h w) {o : Nat → List Nat} (hO : ObjsO o B ρ h w) {l : Loc} (h0 : At ρ 0 l) (hoff : l.off = 0) :
    ObjR ty es l.b (ownL o h ρ) w ∧ ∀ b ∈ ownL o h ρ, b < w.heap.size ∧ ¬ B b := by
  have wr := repr_wr hr
  have wrr : ∀ {r k}, h.row r = some k → k.wr = true := fun hk => wr _ _ (get_row.1 hk).1
  have wro : ∀ {r k}, h.obj r = some k → k.wr = true := fun hk => wr _ _ (get_obj.1 hk).1
  have own : ∀ {r b}, Owns o h ρ r b → b < w.heap.size ∧ ¬ B b := by
    rintro r b ⟨l, ha, ⟨k, hk, rfl⟩ | ⟨k, hk, hm⟩⟩
    · have hb := hH.blk r k l hk ha
      refine ⟨hb.lt, ?_⟩
      obtain ⟨cur, ty, fr, h1, h2, h3⟩ := hb.rowIs
      exact (h3 (wrr hk)).2.2.2.2.2.1
    · exact ⟨hO.lt hk ha b hm, (hO.is r k l hk ha).2.2.1 (wro hk) b hm⟩
  refine ⟨.mk h ρ o hr hH.len (fun r k l hk ha => ⟨wrr hk, (hH.blk r k l hk ha).gd fun _ h => h⟩) (fun r k l hk ha => ⟨wro hk, (hO.is r k l hk ha).2.2.2⟩) hO.here (fun r k l hk ha => (hO.is r k l hk ha).1) ?_ (fun r b hb => ⟨mem_ownL.2 ⟨r, hb⟩, (own hb).1⟩) ⟨l, h0, hoff, rfl⟩, fun b hb => by
    obtain ⟨r, hr⟩ := mem_ownL.1 hb
    exact own hr⟩
  rintro r r' b hne ⟨l1, a1, ⟨k1, g1, rfl⟩ | ⟨k1, g1, m1⟩⟩ ⟨l2, a2, ⟨k2, g2, e2⟩ | ⟨k2, g2, m2⟩⟩
  · exact hH.sep r r' k1 k2 l1 l2 g1 g2 (wrr g1) hne a1 a2 e2
  · exact hO.row r' r k2 k1 l2 l1 g2 g1 a2 a1 (.inr (wrr g1)) m2
  · subst e2; exact hO.row r r' k1 k2 l1 l2 g1 g2 a1 a2 (.inr (wrr g2)) m1
  · exact hO.obj r r' k1 k2 l1 l2 g1 g2 hne a1 a2 b m1 m2

/-- Likewise, of rows that are picked out of others: whose blocks it takes. -/
theorem ObjR.close2 {ty : TypeId} {es : List AV} {B : Gd} {ρ : List Loc} {h h' : Hp} {w : World} {σ : List Nat} (hr : reprO ty es h') (hnd : σ.Nodup) (hsub : subH σ h σ h') (hH : HpR B ρ h w) {o : Nat → List Nat} (hO : ObjsO o B ρ h w) {l : Loc} (h0 : At (σ.map (locAt ρ)) 0 l) (hoff : l.off = 0) :
    ∃ own, ObjR ty es l.b own w ∧ ∀ b ∈ own, b < w.heap.size ∧ ¬ B b ∧ ∃ r ∈ σ, Owns o h ρ r b ∧ ∀ k, h[r]? = some (some k) → k.wr = true := by
  have hHc := subHp hnd hsub hH
  obtain ⟨hrow, hobj⟩ := sub_at hsub hH
  have wr := repr_wr hr
  have hO' : ObjsO (fun j => o (σ.getD j 0)) B (σ.map (locAt ρ)) h' w := by
    refine hO.via (σ.getD · 0) (fun r r' k k' hk hk' hne => ?_) (fun r k l hk hl => ?_) (fun r k l hk hl => ?_) fun r k hk => let ⟨_, hO2⟩ := hHc.objs; hO2.here r k hk
    · have a1 : r < σ.length := by rw [← subH_len hsub] at *; exact obj_lt hk
      have a2 : r' < σ.length := by rw [← subH_len hsub] at *; exact obj_lt hk'
      rw [List.getD_eq_getElem?_getD, List.getD_eq_getElem?_getD, List.getElem?_eq_getElem a1, List.getElem?_eq_getElem a2]
      simp only [Option.getD_some]
      intro heq
      have hp := List.pairwise_iff_getElem.1 hnd
      rcases Nat.lt_or_gt_of_ne hne with h | h
      · exact hp r r' a1 a2 h heq
      · exact hp r' r a2 a1 h heq.symm
    · obtain ⟨a, b, _⟩ := hobj hk hl
      exact ⟨b, k, a, rfl, rfl, fun h => ⟨h, .refl _⟩⟩
    · obtain ⟨k0, a, c, b, _⟩ := hrow hk hl
      exact ⟨b, k0, a, c.1⟩
  obtain ⟨h1, h2⟩ := ObjR.closeO hr hHc hO' h0 hoff
  refine ⟨_, h1, fun b hb => ⟨(h2 b hb).1, (h2 b hb).2, ?_⟩⟩
  obtain ⟨j, l1, a1, hj⟩ := mem_ownL.1 hb
  have pick : ∀ {j}, j < σ.length → σ.getD j 0 ∈ σ := fun {j} hj => by
    rw [List.getD_eq_getElem?_getD, List.getElem?_eq_getElem hj]; exact List.getElem_mem hj
  rcases hj with ⟨k, hk, rfl⟩ | ⟨k, hk, hm⟩
  · obtain ⟨k0, g0, b0, g1, g2⟩ := hrow hk a1
    exact ⟨_, pick g2, ⟨l1, g1, .inl ⟨k0, g0, rfl⟩⟩, fun k1 hk1 => by
      rw [(get_row.1 g0).1] at hk1; cases hk1
      exact b0.1 (wr j k (get_row.1 hk).1)⟩
  · obtain ⟨g0, g1, g2⟩ := hobj hk a1
    exact ⟨_, pick g2, ⟨l1, g1, .inr ⟨k, g0, hm⟩⟩, fun k1 hk1 => by
      rw [(get_obj.1 g0).1] at hk1; cases hk1
      exact wr j k (get_obj.1 hk).1⟩

/-- Row r stands for state es: an object already, or rows that can be shut up as one. -/
def objAt (h : Hp) (r : Nat) (ty : TypeId) (es : List AV) : Prop := match h.obj r with
  | some k => k = ⟨true, ty, 0, true, es⟩
  | none => closeAt h r (reprO ty es)

/-- The rows that it takes. -/
def objAll (h : Hp) (r : Nat) : List Nat := match h.obj r with
  | some _ => [r]
  | none => objNames h r

theorem objAt_own {ty : TypeId} {es : List AV} {B : Gd} {ρ : List Loc} {h : Hp} {w : World} {r : Nat} (hat : objAt h r ty es) (hH : HpR B ρ h w) {o : Nat → List Nat} (hO : ObjsO o B ρ h w) {l : Loc} (hl : At ρ r l) :
    l.off = 0 ∧ ∃ own, ObjR ty es l.b own w ∧ ∀ b ∈ own, b < w.heap.size ∧ ¬ B b ∧ ∃ r' ∈ objAll h r, Owns o h ρ r' b ∧ ∀ k, h[r']? = some (some k) → k.wr = true := by
  unfold objAt at hat
  unfold objAll
  cases hk : h.obj r with
  | some k =>
    rw [hk] at hat
    dsimp only at hat
    subst hat
    obtain ⟨h1, h2, h3, h4⟩ := hO.is r _ l hk hl
    exact ⟨h4, o r, h1, fun b hb => ⟨h2 b hb, h3 rfl b hb, r, List.mem_cons_self, ⟨l, hl, .inr ⟨_, hk, hb⟩⟩, fun k' hk' => by rw [(get_obj.1 hk).1] at hk'; cases hk'; rfl⟩⟩
  | none =>
    rw [hk] at hat
    dsimp only at hat
    obtain ⟨σ, hc, hs0, hnd, hsub, hrep, hσ⟩ := closeAt_names hat
    have hHc := subHp hnd hsub hH
    have hl' : At (σ.map (locAt ρ)) 0 l := by
      refine ⟨?_, hl.2⟩
      rw [List.getElem?_map, hs0, Option.map_some, locAt, List.getD_eq_getElem?_getD, hl.1]; rfl
    obtain ⟨k0, hk0⟩ : ∃ k, hc[0]? = some (some k) := repr_head hrep
    have hoff : l.off = 0 := by
      have hwr := repr_wr hrep 0 k0 hk0
      by_cases hz : k0.esz = 0
      · obtain ⟨o, hO⟩ := hHc.objs
        exact (hO.is 0 k0 l (get_obj.2 ⟨hk0, hz⟩) hl').2.2.2
      · obtain ⟨cur, ty, fr, g1, g2, g3⟩ := (hHc.blk 0 k0 l (get_row.2 ⟨hk0, hz⟩) hl').rowIs
        exact (g3 hwr).2.2.1
    obtain ⟨own, h1, h2⟩ := ObjR.close2 hrep hnd hsub hH hO hl' hoff
    exact ⟨hoff, own, h1, fun b hb => by
      obtain ⟨a1, a2, r', a3, a4, a5⟩ := h2 b hb
      exact ⟨a1, a2, r', hσ ▸ a3, a4, a5⟩⟩

end Go.Sx
