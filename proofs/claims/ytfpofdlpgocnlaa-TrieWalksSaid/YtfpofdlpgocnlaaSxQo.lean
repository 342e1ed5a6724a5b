/-
  The calculus (SxA): a function that reads an object's raw memory, carried out where it is called: its results may name new rows.
-/
import Derived.Test.YtfpofdlpgocnlaaSxZ
namespace Go.Sx
open Go.RowKit

/-- A call that opens an object: function f is walked over its raw memory, which it may not write. -/
def openSpec (ty : TypeId) (X : List AV → Nat → List AV → Prop) (C : Call) (f : FuncId) (hs : Nat → List AV → List Hint) : Spec := fun args h K => match args with
  | .ptr r 0 0 _ :: xs => match h.obj r with
    | some k => match decide (k.ty = ty) && xs.all AV.pure2 with
      | true => ∀ b m, X k.elems b m → C f (.val (.pointer (some ⟨b, 0, none⟩)) :: xs) (h.set r (some ⟨false, memTy, 0, true, m⟩)) (hs b m) fun v h' _ => h'.obj r = some ⟨false, memTy, 0, true, m⟩ ∧ K v (h'.set r (some k))
      | false => False
    | none => False
  | _ => False

section
variable {P : Program}

/-- An object's row says another thing of the same blocks. -/
theorem HpR.setObj {B : Gd} {ρ : List Loc} {h : Hp} {w : World} (hH : HpR B ρ h w) {o : Nat → List Nat} (hO : ObjsO o B ρ h w) {r : Nat} {k k' : Blk} {l : Loc} (hk : h.obj r = some k) (hl : At ρ r l) (hz : k'.esz = 0) {own : List Nat} (hown : ∀ b ∈ own, b ∈ o r)
    (hob : ObjR k'.ty k'.elems l.b own w) (hg : k'.wr = true → ∀ b ∈ own, ¬ B b) : HpR B ρ (h.set r (some k')) w := by
  have rowOld : ∀ {r' k2}, Hp.row (h.set r (some k')) r' = some k2 → r' ≠ r ∧ h.row r' = some k2 := by
    intro r' k2 hk2
    rcases row_set hk2 with ⟨_, g⟩ | h
    · have := Option.some.inj g
      subst this
      exact absurd hz (get_row.1 hk2).2
    · exact h
  have eq : (if r = r then own else o r) = own := if_pos rfl
  have ne : ∀ {r'}, r' ≠ r → (if r' = r then own else o r') = o r' := fun h => if_neg h
  refine ⟨by simp [hH.len], hH.base, fun r' k2 l' g a => hH.blk r' k2 l' (rowOld g).2 a, fun r1 r2 k1 k2 l1 l2 g1 g2 hw1 hne a1 a2 => hH.sep r1 r2 k1 k2 l1 l2 (rowOld g1).2 (rowOld g2).2 hw1 hne a1 a2, hH.glob, fun r' => if r' = r then own else o r', fun r' k2 l' g a => ?_, fun r1 r2 k1 k2 l1 l2 g1 g2 a1 a2 hm => ?_, fun r1 r2 k1 k2 l1 l2 g1 g2 hne a1 a2 b hm hm' => ?_, fun r' k2 g => ?_⟩
  rotate_left 3
  · rcases obj_set g with ⟨rfl, _⟩ | ⟨_, g⟩
    · exact ⟨l, hl⟩
    · exact hO.here r' k2 g
  · rcases obj_set g with ⟨e, e2⟩ | ⟨hne, g'⟩
    · subst e
      have e3 := Option.some.inj e2
      subst e3
      have e4 := hl.inj a
      subst e4
      rw [eq]
      exact ⟨hob, fun b hb => (hO.is _ k l hk hl).2.1 b (hown b hb), hg, (hO.is _ k l hk hl).2.2.2⟩
    · rw [ne hne]
      exact hO.is r' k2 l' g' a
  · have q2 := (rowOld g2).2
    rcases obj_set g1 with ⟨rfl, g⟩ | ⟨hne, g⟩
    · rw [eq] at hm
      exact hO.row _ _ k k2 l1 l2 hk q2 a1 a2 (hown _ hm)
    · rw [ne hne] at hm
      exact hO.row r1 r2 k1 k2 l1 l2 g q2 a1 a2 hm
  · rcases obj_set g1 with ⟨rfl, g⟩ | ⟨hn1, g⟩ <;> rcases obj_set g2 with ⟨rfl, g'⟩ | ⟨hn2, g'⟩
    · exact hne rfl
    · rw [eq] at hm; rw [ne hn2] at hm'
      exact hO.obj _ r2 k k2 l1 l2 hk g' hne a1 a2 b (hown b hm) hm'
    · rw [ne hn1] at hm; rw [eq] at hm'
      exact hO.obj r1 _ k1 k l1 l2 g hk hne a1 a2 b hm (hown b hm')
    · rw [ne hn1] at hm; rw [ne hn2] at hm'
      exact hO.obj r1 r2 k1 k2 l1 l2 g g' hne a1 a2 b hm hm'

theorem openSpec_ok {C : Call} (hC : COK P false C) {ty : TypeId} {X : List AV → Nat → List AV → Prop} (hX : OpensR ty X) (hXr : ∀ es b m, X es b m → rawI ty es m) (f : FuncId) (hs : Nat → List AV → List Hint) : SpecOK P f (openSpec ty X C f hs) := by
  intro args h K hK B ρ w vs hH hv
  unfold openSpec at hK
  split at hK
  · rename_i r st xs
    split at hK
    · rename_i k hk
      split at hK
      · rename_i hty
        obtain ⟨hty, hpu⟩ := Bool.and_eq_true _ _ ▸ hty
        have hty := of_decide_eq_true hty
        cases hv with
        | cons hp hv =>
          rename_i v vt
          obtain ⟨l, hl, _⟩ := ptr_inv hp
          obtain ⟨o, hO⟩ := hH.objs
          obtain ⟨hob, hlt, hgd, hoff⟩ := hO.is r k l hk hl
          rw [hty] at hob
          obtain ⟨m, hx, hR⟩ := hX hob
          obtain rfl := ptr_raw hl hoff hp
          have hH2 : HpR B ρ (h.set r (some ⟨false, memTy, 0, true, memE m⟩)) w := hH.setObj hO hk hl rfl (own := o r) (fun b hb => hb) (.raw m (.inl ⟨rfl, rfl⟩) hR) fun hw => (by cases hw)
          have hargs : AVRs ρ (.val (.pointer (some ⟨l.b, 0, none⟩)) :: xs) (.pointer (some ⟨l.b, 0, none⟩) :: vt) := .cons (.val _) hv
          have conv : ∀ u w', (∃ (ρ' : List Loc) (x : AV) (h' : Hp) (_ : List Hint), (h'.obj r = some ⟨false, memTy, 0, true, memE m⟩ ∧ K x (h'.set r (some k))) ∧ AVR (ρ ++ ρ') x u ∧ HpR B (ρ ++ ρ') h' w' ∧ Bel (if false = true then bl w.heap.size else B) w w' ∧ (false = true → (h.set r (some ⟨false, memTy, 0, true, memE m⟩) : Hp) <+: h')) →
              ∃ ρ' x h', K x h' ∧ AVR (ρ ++ ρ') x u ∧ HpR B (ρ ++ ρ') h' w' ∧ Bel B w w' := by
            rintro u w' ⟨ρ', x, h', _, ⟨hr, hk'⟩, hv', hh, hb, _⟩
            refine ⟨ρ', x, _, hk', hv', ?_, by simpa using hb⟩
            obtain ⟨o2, hO2⟩ := hh.objs
            have hl2 : At (ρ ++ ρ') r l := getElem?_app ρ' hl
            obtain ⟨q1, _, _, _⟩ := hO2.is r _ l hr hl2
            obtain ⟨m2, e2, hR2⟩ := q1.rawMem (fun _ _ => rawI_mem) fun _ _ => reprO_mem
            have hsame : (m2.map MB.b) = m.map MB.b := by
              have e2 : memE m = memE m2 := e2
              have key : ∀ {m m2 : List MB}, memE m = memE m2 → m2.map MB.b = m.map MB.b := by
                intro m
                induction m with
                | nil => intro m2 e; cases m2 with | nil => rfl | cons x m2 => cases e
                | cons y m ih =>
                  intro m2 e
                  cases m2 with
                  | nil => cases e
                  | cons x m2 =>
                    obtain ⟨e1, e2⟩ := List.cons.inj e
                    have : x.b = y.b := by
                      unfold M.mblk at e1
                      simp only [AV.tuple.injEq, List.cons.injEq, AV.lit.injEq, Value.int.injEq, true_and] at e1
                      omega
                    rw [List.map_cons, List.map_cons, ih e2, this]
              exact key e2
            have hR3 : RawR m2 l.b (m2.map MB.b) w' := ⟨hR2.nd, fun x hx => ⟨List.mem_map_of_mem hx, (hR2.is x hx).2⟩, hR2.hd⟩
            refine hh.setObj hO2 hr hl2 (get_obj.1 hk).2 (own := m2.map MB.b) (fun b hb => ?_) ?_ fun hw b hb => ?_
            · obtain ⟨x, hx, rfl⟩ := List.mem_map.1 hb
              exact (hR2.is x hx).1
            · rw [hty]
              have e2 : memE m = memE m2 := e2
              exact .raw m2 (.inr (e2 ▸ hXr _ _ _ hx)) hR3
            · rw [hsame] at hb
              obtain ⟨x, hx, rfl⟩ := List.mem_map.1 hb
              exact hgd hw _ (hR.is x hx).1
          rcases hC f _ _ _ _ (hK l.b (memE m) hx) B ρ w _ hH2 hargs with ⟨hr, hcl⟩ | ⟨v', w', hr, hl'⟩
          · exact .inl ⟨hr, hcl.mono fun e w' he => by cases e with
              | returned v => exact conv v w' he
              | panicked c => exact he
              | outgrown => exact he⟩
          · exact .inr ⟨v', w', hr, conv v' w' hl'⟩
      · exact hK.elim
    · exact hK.elim
  · exact hK.elim

end
end Go.Sx
