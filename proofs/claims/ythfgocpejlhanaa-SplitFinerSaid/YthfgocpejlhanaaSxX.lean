/-
  The calculus (SxA): ranges over functions: what is written no more, what an iterator reads, boxes that hold nil slices.
-/
import Derived.Test.YthfgocpejlhanaaSxY
import Derived.Test.YthfgocpejlhanaaSxV
import Derived.Test.YthfgocpejlhanaaSxI
namespace Go.Sx
open Go.RowKit

theorem frzH_len (rd : List Nat) (h : Hp) : (frzH rd h).length = h.length := by unfold frzH; rw [List.length_mapIdx]
theorem selH_len (rd : List Nat) (h : Hp) : (selH rd h).length = h.length := by unfold selH; rw [List.length_mapIdx]

theorem frzH_get {rd : List Nat} {h : Hp} {r : Nat} {k : Blk} (hk : (frzH rd h)[r]? = some (some k)) : ∃ k0, h[r]? = some (some k0) ∧ k.ty = k0.ty ∧ k.esz = k0.esz ∧ k.flat = k0.flat ∧ k.elems = k0.elems ∧ (k.wr = true → k0.wr = true ∧ ¬ rd.contains r = true ∧ k0.esz ≠ 0) := by
  unfold frzH at hk
  rw [List.getElem?_mapIdx] at hk
  cases hx : h[r]? with
  | none => rw [hx] at hk; cases hk
  | some x =>
    rw [hx, Option.map_some] at hk
    cases x with
    | none => cases hk
    | some k0 =>
      have hk := Option.some.inj hk
      dsimp only at hk
      split at hk
      · cases hk; exact ⟨k0, rfl, rfl, rfl, rfl, rfl, fun h => by cases h⟩
      · cases hk; exact ⟨k0, rfl, rfl, rfl, rfl, rfl, fun h => by cases h⟩
      · rename_i n h1 h2
        have hk := (Option.some.inj hk).symm
        subst hk
        exact ⟨_, rfl, rfl, rfl, rfl, rfl, fun h => ⟨h, by rw [h1]; simp, by rw [h2]; exact Nat.succ_ne_zero _⟩⟩

theorem frzH_row {rd : List Nat} {h : Hp} {r : Nat} {k : Blk} (hk : (frzH rd h).row r = some k) : ∃ k0, h.row r = some k0 ∧ k.ty = k0.ty ∧ k.esz = k0.esz ∧ k.flat = k0.flat ∧ k.elems = k0.elems ∧ (k.wr = true → k0.wr = true ∧ ¬ rd.contains r = true) := by
  obtain ⟨h1, h2⟩ := get_row.1 hk
  obtain ⟨k0, a, b, c, d, e, f⟩ := frzH_get h1
  exact ⟨k0, get_row.2 ⟨a, c ▸ h2⟩, b, c, d, e, fun hw => ⟨(f hw).1, (f hw).2.1⟩⟩

theorem frzH_obj {rd : List Nat} {h : Hp} {r : Nat} {k : Blk} (hk : (frzH rd h).obj r = some k) : ∃ k0, h.obj r = some k0 ∧ k.ty = k0.ty ∧ k.elems = k0.elems ∧ k.wr = false := by
  obtain ⟨h1, h2⟩ := get_obj.1 hk
  obtain ⟨k0, a, b, c, d, e, f⟩ := frzH_get h1
  refine ⟨k0, get_obj.2 ⟨a, c ▸ h2⟩, b, e, ?_⟩
  cases hw : k.wr with
  | false => rfl
  | true => exact absurd (c ▸ h2) (f hw).2.2

theorem selH_get {rd : List Nat} {h : Hp} {r : Nat} {k : Blk} (hk : (selH rd h)[r]? = some (some k)) : h[r]? = some (some k) ∧ rd.contains r = true := by
  unfold selH at hk
  rw [List.getElem?_mapIdx] at hk
  cases hx : h[r]? with
  | none => rw [hx] at hk; cases hk
  | some x =>
    rw [hx, Option.map_some] at hk
    have hk := Option.some.inj hk
    split at hk
    · rename_i hc; exact ⟨by rw [hk], hc⟩
    · cases hk

/-- The blocks of rows, as an iterator's. -/
def blkG (o : Nat → List Nat) (ρ : List Loc) (h : Hp) (rd : List Nat) : Gd := fun b => ∃ r, rd.contains r = true ∧ Owns o h ρ r b

def orG (B G : Gd) : Gd := fun b => B b ∨ G b

theorem le_orG (B G : Gd) : Gd.le B (orG B G) := fun _ h => .inl h

/-- What an iterator reads is written no more, and guarded. -/
theorem HpR.frz {B : Gd} {ρ : List Loc} {h : Hp} {w : World} (hH : HpR B ρ h w) {o : Nat → List Nat} (hO : ObjsO o B ρ h w) (rd : List Nat) : HpR (orG B (blkG o ρ h rd)) ρ (frzH rd h) w := by
  have hlt : Gd.le (orG B (blkG o ρ h rd)) (bl w.heap.size) := by
    rintro b (hb | ⟨r, _, l, hl, (⟨k, hk, rfl⟩ | ⟨k, hk, hm⟩)⟩)
    · exact hH.base b hb
    · exact (hH.blk r k l hk hl).lt
    · exact hO.lt hk hl b hm
  refine ⟨by rw [frzH_len]; exact hH.len, hlt, fun r k l hk hl => ?_, fun r r' k k' l l' hk hk' hw hne hl hl' => ?_, hH.glob.mono (le_orG _ _), _, hO.via id (fun _ _ _ _ _ _ h => h) (fun r k l hk hl => ?_) (fun r k l hk hl => ?_) fun r k hk => ?_⟩
  · obtain ⟨k0, a, b, c, d, e, f⟩ := frzH_row hk
    obtain ⟨cur, ty, fr, g1, g2, g3⟩ := (hH.blk r k0 l a hl).rowIs
    refine .ofRow ((hH.blk r k0 l a hl).esz.trans c.symm) g1 (by rw [d, c, e]; exact g2) fun hw => ?_
    obtain ⟨w0, w1⟩ := f hw
    obtain ⟨q1, q2, q3, q4, q5, q6, q7⟩ := g3 w0
    refine ⟨q1.trans b.symm, q2, q3, by rw [c]; exact q4, q5, ?_, by rw [e]; exact q7⟩
    rintro (hB | ⟨r', hr', l', hl', (⟨k', hk', e2⟩ | ⟨k', hk', hm⟩)⟩)
    · exact q6 hB
    · exact hH.sep r r' k0 k' l l' a hk' w0 (fun e3 => w1 (e3 ▸ hr')) hl hl' e2
    · exact hO.row r' r k' k0 l' l hk' a hl' hl (.inr w0) hm
  · obtain ⟨k0, a, _, _, _, _, f⟩ := frzH_row hk
    obtain ⟨k1, a', _⟩ := frzH_row hk'
    exact hH.sep r r' k0 k1 l l' a a' (f hw).1 hne hl hl'
  · obtain ⟨k0, a, b, c, d⟩ := frzH_obj hk
    exact ⟨hl, k0, a, b.symm, c.symm, fun hw => by rw [d] at hw; cases hw⟩
  · obtain ⟨k0, a, _, _, _, _, f⟩ := frzH_row hk
    exact ⟨hl, k0, a, fun hw => (f hw).1⟩
  · obtain ⟨k0, a, _⟩ := frzH_obj hk
    exact hO.here r k0 a

theorem selH_row {rd : List Nat} {h : Hp} {r : Nat} {k : Blk} (hk : (selH rd h).row r = some k) : h.row r = some k ∧ rd.contains r = true := by
  obtain ⟨h1, h2⟩ := get_row.1 hk
  obtain ⟨a, b⟩ := selH_get h1
  exact ⟨get_row.2 ⟨a, h2⟩, b⟩

theorem selH_obj {rd : List Nat} {h : Hp} {r : Nat} {k : Blk} (hk : (selH rd h).obj r = some k) : h.obj r = some k ∧ rd.contains r = true := by
  obtain ⟨h1, h2⟩ := get_obj.1 hk
  obtain ⟨a, b⟩ := selH_get h1
  exact ⟨get_obj.2 ⟨a, h2⟩, b⟩

theorem HpR.sel {B : Gd} {ρ : List Loc} {h : Hp} {w : World} (hH : HpR B ρ h w) {o : Nat → List Nat} (hO : ObjsO o B ρ h w) (rd : List Nat) : HpK (blkG o ρ h rd) ρ (selH rd h) w := by
  have hO2 : ObjsO o B ρ (selH rd h) w := hO.same (fun r k hk => (selH_obj hk).1) fun r k hk => ⟨k, (selH_row hk).1, id⟩
  refine ⟨⟨B, o, ⟨by rw [selH_len]; exact hH.len, hH.base, fun r k l hk hl => hH.blk r k l (selH_row hk).1 hl, fun r r' k k' l l' hk hk' => hH.sep r r' k k' l l' (selH_row hk).1 (selH_row hk').1, hH.glob, o, hO2⟩, hO2, fun r k l hk hl b hb => ?_⟩,
    fun r k l hk hl => ⟨r, (selH_row hk).2, l, hl, .inl ⟨k, (selH_row hk).1, rfl⟩⟩, ?_⟩
  · obtain ⟨h1, h2⟩ := selH_obj hk
    exact ⟨r, h2, l, hl, .inr ⟨k, h1, hb⟩⟩
  · rintro b ⟨r, _, l, hl, (⟨k, hk, rfl⟩ | ⟨k, hk, hm⟩)⟩
    · exact (hH.blk r k l hk hl).lt
    · exact hO.lt hk hl b hm

/-- A row that is said in other words. -/
theorem HpR.reRow {B : Gd} {ρ : List Loc} {h : Hp} {w : World} (hH : HpR B ρ h w) {r : Nat} {k k' : Blk} (hk : h.row r = some k) (hw : k'.wr = k.wr) (hz : k'.esz ≠ 0) (hb : ∀ l, At ρ r l → BlkR ρ B w l k') : HpR B ρ (h.set r (some k')) w := by
  have hrow : ∀ {r' k1}, Hp.row (h.set r (some k')) r' = some k1 → (r' = r ∧ k1 = k') ∨ (r' ≠ r ∧ h.row r' = some k1) := by
    intro r' k1 hk1
    rcases row_set hk1 with ⟨e, g⟩ | h
    · exact .inl ⟨e, (Option.some.inj g).symm⟩
    · exact .inr h
  obtain ⟨o, hO⟩ := hH.objs
  refine ⟨by simp [hH.len], hH.base, fun r1 k1 l1 h1 hl1 => ?_, fun r1 r2 k1 k2 l1 l2 h1 h2 hw1 hne hl1 hl2 => ?_, hH.glob, o, hO.same (fun r1 k1 h1 => ?_) fun r1 k1 h1 => ?_⟩
  · rcases hrow h1 with ⟨rfl, rfl⟩ | ⟨_, h1⟩
    · exact hb l1 hl1
    · exact hH.blk r1 k1 l1 h1 hl1
  · rcases hrow h1 with ⟨rfl, rfl⟩ | ⟨_, g1⟩ <;> rcases hrow h2 with ⟨rfl, rfl⟩ | ⟨_, g2⟩
    · exact absurd rfl hne
    · exact hH.sep _ r2 k k2 l1 l2 hk g2 (hw ▸ hw1) hne hl1 hl2
    · exact hH.sep r1 _ k1 k l1 l2 g1 hk hw1 hne hl1 hl2
    · exact hH.sep r1 r2 k1 k2 l1 l2 g1 g2 hw1 hne hl1 hl2
  · rcases obj_set h1 with ⟨_, g⟩ | h
    · cases g; exact absurd (get_obj.1 h1).2 hz
    · exact h.2
  · rcases hrow h1 with ⟨rfl, rfl⟩ | ⟨_, h1⟩
    · exact ⟨k, hk, fun g => hw ▸ g⟩
    · exact ⟨k1, h1, id⟩

theorem addBx_rel {B : Gd} {w : World} : ∀ {bx : List (Nat × TypeId × Nat)} {h T : Hp} {ρ : List Loc}, addBx bx h = some T → HpR B ρ h w → ∃ ρ2, HpR B (ρ ++ ρ2) T w
  | [], h, T, ρ, he, hH => by simp [addBx] at he; subst he; exact ⟨[], by simpa using hH⟩
  | (r, ty, esz) :: bx, h, T, ρ, he, hH => by
    unfold addBx at he
    split at he
    · rename_i k n hk
      split at he
      · rename_i hel
        have hp := hH.pushPh ⟨true, ty, n + 1, true, []⟩ (Nat.succ_ne_zero _) (l := ⟨0, 0, 0, 0, true⟩) rfl
        have hk2 : (h ++ [some ⟨true, ty, n + 1, true, []⟩] : Hp).row r = some k := by
          have hlt := row_lt hk
          obtain ⟨h1, h2⟩ := get_row.1 hk
          exact get_row.2 ⟨by rw [List.getElem?_append_left hlt]; exact h1, h2⟩
        have hr := hp.reRow hk2 (k' := { k with flat := false, elems := [.vsl h.length 0 0] }) rfl (get_row.1 hk).2 fun l hl => by
          have hb := hp.blk r k l hk2 hl
          obtain ⟨cur, ty', fr, g1, g2, g3⟩ := hb.rowIs
          refine .ofRow hb.esz g1 (fun i e hi => ?_) fun hw => ?_
          · cases i with
            | succ i => cases hi
            | zero =>
              cases hi
              obtain ⟨c1, c2, c3⟩ := g2 0 (.lit (.slice none 0 0)) (by rw [hel]; rfl)
              refine ⟨c1, rfl, fun o c hc => ?_⟩
              cases o with
              | succ o => cases hc
              | zero =>
                cases hc
                obtain ⟨v, hv, hx⟩ := c3 0 _ rfl
                have : v = .slice none 0 0 := by cases hx; rfl
                subst this
                exact ⟨_, hv, .vslN rfl⟩
          · obtain ⟨q1, q2, q3, q4, q5, q6, q7⟩ := g3 hw
            exact ⟨q1, q2, q3, q4, q5, q6, by rw [hel] at q7; exact q7⟩
        have hs : ((h ++ [some ⟨true, ty, n + 1, true, []⟩] : Hp).set r (some { k with flat := false, elems := [.vsl h.length 0 0] })) = h.set r (some { k with flat := false, elems := [.vsl h.length 0 0] }) ++ [some ⟨true, ty, n + 1, true, []⟩] := List.set_append_left _ _ (row_lt hk)
        rw [hs] at hr
        obtain ⟨ρ2, h2⟩ := addBx_rel he hr
        exact ⟨⟨0, 0, 0, 0, true⟩ :: ρ2, by simpa using h2⟩
      · cases he
    · cases he

/-- No block that is no cells is written. -/
def ncG (w : World) : Gd := fun b => ∃ o : Obj, w.heap[b]? = some o ∧ o.isCells = false

theorem BlkR.gd2 {ρ : List Loc} {B G : Gd} {w : World} {l : Loc} {k : Blk} (h : BlkR ρ B w l k) (hG : ∀ b, G b → ncG w b) : BlkR ρ (orG B G) w l k := by
  obtain ⟨cur, ty, fr, h1, h2, h3⟩ := h.row
  refine ⟨h.esz, cur, ty, fr, h1, h2, fun hw => ?_⟩
  obtain ⟨q1, q2, q3, q4, q5, q6, q7⟩ := h3 hw
  refine ⟨q1, q2, q3, q4, q5, fun hB => hB.elim q6 fun hn => ?_, q7⟩
  obtain ⟨o, o1, o2⟩ := hG _ hn
  rw [h1] at o1
  cases o1; cases o2

theorem HpR.nc {B : Gd} {ρ : List Loc} {h : Hp} {w : World} (hH : HpR B ρ h w) (G : Gd) (hG : ∀ b, G b → ncG w b) (ho : ∀ r k, h.obj r = some k → k.wr = false) : HpR (orG B G) ρ h w := by
  obtain ⟨o, hO⟩ := hH.objs
  refine ⟨hH.len, fun b hb => hb.elim (hH.base b) fun hn => let ⟨_, h1, _⟩ := hG b hn; (Array.getElem?_eq_some_iff.1 h1).1, fun r k l hk hl => (hH.blk r k l hk hl).gd2 hG, hH.sep, hH.glob.mono (le_orG _ _), o, fun r k l hk hl => ?_, hO.row, hO.obj, hO.here⟩
  obtain ⟨a, b, _, d⟩ := hO.is r k l hk hl
  exact ⟨a, b, fun hw => (by rw [ho r k hk] at hw; cases hw), d⟩

end Go.Sx
