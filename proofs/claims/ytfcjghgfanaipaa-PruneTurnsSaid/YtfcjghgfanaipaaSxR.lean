/-
  The calculus (SxA): the library's slices.Grow of nil, as a contract of the calculus.
-/
import Derived.Test.YtfcjghgfanaipaaSxP
import Derived.Shelf.Spec.SlicesGrow
namespace Go.Sx
open Go.RowKit

section
variable {P : Program}

/-- Room for n elements: a slice of none, or nil. -/
def growSpec (ty : TypeId) (esz bytes : Nat) : Spec := fun args h K =>
  match args with
  | [.lit (.slice none 0 0), x] => match x.asInt with
    | some (_, .i64, n) => (0 ≤ n ∧ n * (bytes : Int) ≤ 140737488355328 ∧ n ≤ 4611686018427387904) ∧ K (.vsl h.length 0 0) (h ++ [some ⟨true, ty, esz, true, []⟩])
    | _ => False
  | _ => False

/-- What is known of the elements' type. -/
def growFit (P : Program) (ty : TypeId) (esz bytes : Nat) : Bool := match P.info? ty with
  | some i => match i.zero with
    | some z => decide (z.cells.size = i.size ∧ i.size = esz ∧ i.bytes = bytes ∧ 0 < esz)
    | none => false
  | none => false

theorem growSpec_ok {ren : Go.Shelf.Ren} (L : Go.Proofs.Lays8.n4 P ren) {f : FuncId} {ty : TypeId} {esz bytes : Nat} (hf4 : ren.f 4 = f) (ht : ren.t 25 = ty) (hfit : growFit P ty esz bytes = true)
    (hg : noNG P = true) {fn : Func} (hf : P.funcs[f]? = some fn) (hb : fn.body.isSome = true) : SpecOK P f (growSpec ty esz bytes) := by
  subst hf4
  subst ht
  obtain ⟨i, z, hi, hz, hzs, rfl, rfl, hpos⟩ : ∃ i z, P.info? (ren.t 25) = some i ∧ i.zero = some z ∧ z.cells.size = i.size ∧ i.size = esz ∧ i.bytes = bytes ∧ 0 < esz := by
    unfold growFit at hfit
    split at hfit
    · rename_i i hi
      split at hfit
      · rename_i z hz
        rw [decide_eq_true_eq] at hfit
        exact ⟨i, z, hi, hz, hfit⟩
      · cases hfit
    · cases hfit
  obtain ⟨c, hc⟩ := Option.isSome_iff_exists.1 hb
  intro args h K hK B ρ w vs hH hv
  refine .inl ⟨enters (P := P) hf hg hc _ _, ?_⟩
  unfold growSpec at hK
  split at hK
  · rename_i x
    split at hK
    · rename_i s n hx
      obtain ⟨⟨h0, h1, h2⟩, hK⟩ := hK
      obtain ⟨u, v, rfl, hu, hr⟩ := hv.two_inv
      cases hu
      obtain rfl := asInt_rel hr hx
      obtain ⟨m, rfl⟩ := Int.eq_ofNat_of_zero_le h0
      have h1 : m * i.bytes ≤ 140737488355328 := by
        have : ((m * i.bytes : Nat) : Int) ≤ 140737488355328 := by rw [Int.natCast_mul]; exact h1
        omega
      rcases Nat.eq_zero_or_pos m with rfl | hm
      · refine (Go.Proofs.Any8.slices_Grow_room L none 0 0 0 w (by omega) (by omega) (by omega) (by omega)).mono ?_
        rintro e w' ⟨rfl, rfl⟩
        exact ⟨[⟨0, 0, 0, 0, true⟩], _, _, hK, .vslN rfl, hH.pushPh _ (Nat.ne_of_gt hpos) rfl, .refl _ _⟩
      · refine (Go.Proofs.Any8.slices_Grow_grow L i z hi hz hpos none 0 0 m [] w (by omega) (by omega) (by rw [Nat.zero_add]; exact h1) (by omega) (by simp) (fun _ => rfl) (by simp)).mono ?_
        rintro e w' ⟨rfl, rfl⟩
        have hcap := grownCap_ge w (0 + m) 0 (ren.t 25)
        have hcm := grownCap_le_maxLen w (0 + m) 0 (ren.t 25) (by unfold maxLen; omega)
        generalize grownCap w (0 + m) 0 (ren.t 25) = G at hcap hcm ⊢
        have hnr := hH.newRow (k := ⟨true, ren.t 25, i.size, true, []⟩) (cells := ([] : List Value).toArray ++ Builtin.zeroCells z.cells (0 + m - 0) ++ Builtin.zeroCells z.cells (G - (0 + m))) (cap := G) rfl (Nat.ne_of_gt hpos)
          .nil (by simp only [Array.size_append, List.size_toArray, size_zeroCells, hzs, List.length_nil, Nat.zero_add, ← Nat.add_mul]; congr 1; omega) hcm (by simp)
          (w' := w.drew.alloc (.cells (([] : List Value).toArray ++ Builtin.zeroCells z.cells (0 + m - 0) ++ Builtin.zeroCells z.cells (G - (0 + m))) (ren.t 25))) rfl rfl rfl rfl (fun _ => Nat.le_succ _)
        refine ⟨[⟨w.heap.size, 0, i.size, G, false⟩], _, _, hK, ?_, hnr.1, hnr.2.mono hH.base⟩
        have hsl := AVR.vslS (ρ := ρ ++ [⟨w.heap.size, 0, i.size, G, false⟩]) (r := h.length) (i := 0) (len := 0) (l := ⟨w.heap.size, 0, i.size, G, false⟩) (a := ⟨w.heap.size, 0, none⟩) (c := G)
          (At.new hH.len rfl) (by omega) (by simp) (fun _ => by simp)
        simpa using hsl
    · exact hK.elim
  · exact hK.elim

end
end Go.Sx
