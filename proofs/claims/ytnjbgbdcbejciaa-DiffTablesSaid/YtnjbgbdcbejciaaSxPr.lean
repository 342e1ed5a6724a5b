/-
  The calculus (SxA): a result that is the first part of a row.
-/
import Derived.Test.YtnjbgbdcbejciaaSxM
namespace Go.Sx
open Go.RowKit

/-- Of a row less may be said. -/
theorem HpR.shrink {B : Gd} {ρ : List Loc} {h : Hp} {w : World} (hH : HpR B ρ h w) {r : Nat} {k : Blk} (hk : h.row r = some k) (n : Nat) : HpR B ρ (h.set r (some { k with elems := k.elems.take n })) w := by
  have hrow : ∀ {r' k1}, Hp.row (h.set r (some { k with elems := k.elems.take n })) r' = some k1 → (r' = r ∧ k1 = { k with elems := k.elems.take n }) ∨ (r' ≠ r ∧ h.row r' = some k1) := by
    intro r' k1 hk1
    rcases row_set hk1 with ⟨e, g⟩ | h
    · exact .inl ⟨e, (Option.some.inj g).symm⟩
    · exact .inr h
  refine ⟨by simp [hH.len], hH.base, fun r1 k1 l1 h1 hl1 => ?_, fun r1 r2 k1 k2 l1 l2 h1 h2 hw1 hne hl1 hl2 => ?_, hH.glob, ?_⟩
  rotate_left 2
  obtain ⟨o, hO⟩ := hH.objs
  refine ⟨o, hO.same (fun r1 k1 h1 => ?_) fun r1 k1 h1 => ?_⟩
  · rcases obj_set h1 with ⟨_, g⟩ | h
    · cases g; exact absurd (get_obj.1 h1).2 (get_row.1 hk).2
    · exact h.2
  · rcases hrow h1 with ⟨rfl, _⟩ | ⟨_, h1⟩
    · exact ⟨k, hk⟩
    · exact ⟨k1, h1⟩
  · rcases hrow h1 with ⟨rfl, rfl⟩ | ⟨_, h1⟩
    · have hb := hH.blk _ k l1 hk hl1
      obtain ⟨cur, ty, fr, g1, g2, g3⟩ := hb.rowIs
      refine .ofRow hb.esz g1 (fun i e he => ?_) fun hw => ?_
      · have he : (k.elems.take n)[i]? = some e := he
        rw [List.getElem?_take] at he
        split at he
        · exact g2 i e he
        · cases he
      · obtain ⟨c0, c1, c2, c3, c4, c5, c6⟩ := g3 hw
        exact ⟨c0, c1, c2, c3, c4, c5, Nat.le_trans (by show (k.elems.take n).length ≤ _; rw [List.length_take]; exact Nat.min_le_right _ _) c6⟩
    · exact hH.blk r1 k1 l1 h1 hl1
  · rcases hrow h1 with ⟨e1, f1⟩ | ⟨n1, g1⟩ <;> rcases hrow h2 with ⟨e2, f2⟩ | ⟨n2, g2⟩
    · exact absurd (e1.trans e2.symm) hne
    · subst e1; subst f1; exact hH.sep _ r2 k k2 l1 l2 hk g2 hw1 hne hl1 hl2
    · subst e2; subst f2; exact hH.sep r1 _ k1 k l1 l2 g1 hk hw1 hne hl1 hl2
    · exact hH.sep r1 r2 k1 k2 l1 l2 g1 g2 hw1 hne hl1 hl2

/-- Of a slice's row as much as the slice has. -/
def preK (K : AV → Hp → List Hint → Prop) (y : AV) (h' : Hp) (hs' : List Hint) : Prop := match y with
  | .vsl r 0 n => (match h'.row r with
    | some ⟨w, t, s, f, es⟩ => K y (h'.set r (some ⟨w, t, s, f, es.take n⟩)) hs'
    | none => False)
  | _ => False

/-- A call's result that is a slice: of its row as much as the slice has. -/
def preC (C : Call) : Call := fun f args h hs K => C f args h hs (preK K)

theorem preC_ok {P : Program} {C : Call} (hC : COK P false C) : COK P false (preC C) := by
  refine ⟨hC.maps, ?_⟩
  intro f args h hs K hK B ρ w vs hH hv
  have conv : ∀ u w', (∃ ρ' y h' hs', preK K y h' hs' ∧ AVR (ρ ++ ρ') y u ∧ HpR B (ρ ++ ρ') h' w' ∧ Bel (if false = true then bl w.heap.size else B) w w' ∧ (false = true → h <+: h')) →
      ∃ ρ' y h' hs', K y h' hs' ∧ AVR (ρ ++ ρ') y u ∧ HpR B (ρ ++ ρ') h' w' ∧ Bel (if false = true then bl w.heap.size else B) w w' ∧ (false = true → h <+: h') := by
    rintro u w' ⟨ρ', y, h', hs', hk, hr, hh, hb, _⟩
    unfold preK at hk
    split at hk
    · split at hk
      · rename_i hq
        exact ⟨ρ', _, _, hs', hk, hr, hh.shrink hq _, hb, by simp⟩
      · exact hk.elim
    · exact hk.elim
  rcases hC f args h hs _ hK B ρ w vs hH hv with ⟨hr, hc⟩ | ⟨v, w', hr, hl⟩
  · exact .inl ⟨hr, hc.mono fun e w' he => by cases e with
      | returned v => exact conv v w' he
      | panicked c => exact he
      | outgrown => exact he⟩
  · exact .inr ⟨v, w', hr, conv v w' hl⟩

end Go.Sx
