/-
  The calculus (SxA): slices of plain elements as arguments of a law.
-/
import Derived.Test.YthfgocpejlhanaaSxM
import Derived.Deep.Slices
namespace Go.Sx
open Go.RowKit Go.WideShapes

section
variable {P : Program} {H : Type} {enc : TypeId × Value → H} {w : World}

theorem lt_of_shape {w : World} {b : Nat} {row : TypeId} {cells : Nat} (h : w.shape? b = some (row, cells)) : ∃ cur fr, w.heap[b]? = some (.cells cur row fr) := by
  unfold World.shape? at h
  split at h
  · rename_i c e fr hc
    simp at h
    obtain ⟨rfl, _⟩ := h
    exact ⟨c, fr, hc⟩
  · simp at h

/-- A slice of plain elements, opened: its row, and what stands in it. T: what an element is; de: its value in the calculus. -/
theorem open_row {T : Type} (de : T → AV) {t e : TypeId} {D : Nat} {ks : List CK} (ht : P.underlying t = some (.slice e)) (hk : kinds P D e = some ks) (hlen : ks.length = P.cellsOf e)
    (hde : ∀ cs, fitsAll ks cs → ∃ x : T, (de x).cells.length = ks.length ∧ (de x).sound = true ∧ AVRs [] (de x).cells cs)
    {r : Reach} {b0 : Nat} {held : Bool} {v : Value} {d : DataW H} {p : List MemPlace} (hv : Value.okWide P w r b0 t v) (h : DataW.Trod enc P w 0 (fun _ => true) held t v d p) (ty : TypeId) :
    ∃ (l : Loc) (L : List T), L.length ≤ maxLen ∧ (∀ (ρ : List Loc) (j : Nat), ρ[j]? = some l → AVR ρ (.vsl j 0 (L.map de).length) v) ∧ (l.ph = false → ∀ ρ, BlkR ρ w.heap.size w l ⟨false, ty, ks.length, true, L.map de⟩) := by
  obtain ⟨a0, len, cap, rfl⟩ := okWide_slice ht hv
  obtain ⟨fuel, hf⟩ := h
  rcases Deep.open_slice ht hf with ⟨h0, _⟩ | ⟨a, len', cap', m, n, D', Pl, hcs, _, hl, hm, hmm, _, hel⟩
  · simp [Value.cells] at h0
    obtain ⟨rfl, rfl, rfl⟩ := h0
    exact ⟨⟨0, 0, 0, 0, true⟩, [], by simp, fun ρ j _ => .vslN rfl, by simp⟩
  · simp [Value.cells] at hcs
    obtain ⟨rfl, rfl, rfl⟩ := hcs
    simp only [if_true] at hmm
    subst hmm
    unfold Value.okWide at hv
    rw [ht] at hv
    simp only [Cell.okWide, ht, Cell.ok] at hv
    obtain ⟨_, _, _, hspot, row, cells, hsh, _⟩ := hv
    obtain ⟨cur, fr, hrow⟩ := lt_of_shape hsh
    obtain ⟨b, off, spot⟩ := a
    simp only at hspot
    subst hspot
    -- each element, read
    have each : ∀ i, i < len → ∃ x : T, (de x).cells.length = ks.length ∧ (de x).sound = true ∧ ∀ (o : Nat) c, (de x).cells[o]? = some c → ∃ u, cur[off + i * ks.length + o]? = some u ∧ AVR [] c u := fun i hi => by
      obtain ⟨cs', h1, h2⟩ := hel i (by omega)
      obtain ⟨_, hcl, hcell⟩ := World.cells?_some h1
      obtain ⟨x, x1, x2, x3⟩ := hde cs' (kinds_fit D hk h2)
      refine ⟨x, x1, x2, fun o c hc => ?_⟩
      obtain ⟨u, hu, hr⟩ := x3.get hc
      have ho : o < P.cellsOf e := by rw [← hlen, ← x1]; exact (List.getElem?_eq_some_iff.1 hc).1
      have := hcell o ho
      rw [hu] at this
      rw [addr_add, addr_add, cell_of_row w b _ cur row fr hrow] at this
      exact ⟨u, by rw [hlen]; exact this, hr⟩
    have each' : ∀ i : Fin len, ∃ x : T, (de x).cells.length = ks.length ∧ (de x).sound = true ∧ ∀ (o : Nat) c, (de x).cells[o]? = some c → ∃ u, cur[off + i.val * ks.length + o]? = some u ∧ AVR [] c u := fun i => each i.val i.isLt
    let f : Fin len → T := fun i => Classical.choose (each' i)
    have hf := fun i => Classical.choose_spec (each' i)
    refine ⟨⟨b, off, ks.length, m, false⟩, List.ofFn f, by rw [List.length_ofFn]; omega, fun ρ j hj => ?_, fun _ ρ => ?_⟩
    · rw [List.length_map, List.length_ofFn]
      exact .vslS (c := m) ⟨hj, rfl⟩ hl (by simp) (fun _ => by simp)
    · refine ⟨rfl, cur, row, fr, hrow, fun i x hx => ?_, by simp⟩
      rw [List.getElem?_map] at hx
      by_cases hi : i < len
      · rw [List.getElem?_ofFn, dif_pos hi, Option.map_some, Option.some_inj] at hx
        subst hx
        obtain ⟨q1, q2, q3⟩ := hf ⟨i, hi⟩
        exact ⟨q1, q2, fun o c hc => by
          obtain ⟨u, hu, hr⟩ := q3 o c hc
          exact ⟨u, hu, hr⟩⟩
      · rw [List.getElem?_ofFn, dif_neg hi] at hx
        simp at hx

/-- Rows of memory that a law's slices name: of each its place and what stands there; nothing of it may be written. -/
def RowsR (w : World) (ρ : List Loc) (h : Hp) : Prop := ρ.length = h.length ∧ (∀ (r : Nat) (k : Blk), h[r]? = some (some k) → k.esz ≠ 0) ∧ ∀ r k l, h.row r = some k → At ρ r l → k.wr = false ∧ ∀ ρ', BlkR ρ' w.heap.size w l k

theorem RowsR.nil {w : World} : RowsR w [] [] := ⟨rfl, fun r k h => by simp at h, fun r k l h => by simp [Hp.row] at h⟩

theorem RowsR.cons {w : World} {ρ : List Loc} {h : Hp} (hR : RowsR w ρ h) {k : Blk} {l : Loc} (hw : k.wr = false) (hk : l.ph = false → ∀ ρ', BlkR ρ' w.heap.size w l k) (hz : k.esz ≠ 0 := by decide) : RowsR w (l :: ρ) (some k :: h) := by
  refine ⟨by simp [hR.1], fun r k' hr => ?_, ?_⟩
  · cases r with
    | zero => simp at hr; subst hr; exact hz
    | succ r => exact hR.2.1 r k' (by simpa using hr)
  rintro r k' l' hr ⟨hl, hp⟩
  cases r with
  | zero =>
    have h1 := get_row.1 hr
    simp at h1 hl
    obtain ⟨rfl, _⟩ := h1
    subst hl
    exact ⟨hw, hk hp⟩
  | succ r => exact hR.2.2 r k' l' (get_row.2 (by simpa using get_row.1 hr)) ⟨by simpa using hl, hp⟩

theorem RowsR.hpr {w : World} {ρ : List Loc} {h : Hp} (hR : RowsR w ρ h) (hG : GlobOK w.heap.size w) : HpR w.heap.size ρ h w :=
  ⟨hR.1, .refl _, fun r k l hk hl => (hR.2.2 r k l hk hl).2 ρ, fun r r' k k' l l' hk _ hw _ hl _ => (by have := (hR.2.2 r k l hk hl).1; rw [this] at hw; cases hw), hG, .none fun r k hk => hR.2.1 r k (get_obj.1 hk).1 (get_obj.1 hk).2⟩

/-- From a run of the calculus to a law's call, of arguments that may be slices. -/
theorem calls_trueR {C : Call} (hC : COK P false C) {f : FuncId} {args : List AV} {h0 : Hp} {hs : List Hint} (h : C f args h0 hs isTrue) {w : World} (hG : GlobOK w.heap.size w) {ρ : List Loc} (hR : RowsR w ρ h0) {vs : List Value} (hv : AVRs ρ args vs) (hg : noNG P = true) {fn : Func} (hf : P.funcs[f]? = some fn) (hb : fn.body.isSome = true) :
    Calls P f vs.toArray w fun e w' => e = .returned (.bool true) ∧ Below w.heap.size w w' := by
  have := hC f args h0 hs isTrue h w.heap.size ρ w vs (hR.hpr hG) hv
  rcases this with ⟨hr, hc⟩ | ⟨v, w', hr, _⟩
  · refine hc.mono fun e w' he => ?_
    cases e with
    | returned u =>
      obtain ⟨ρ', x, h', hs', k, r, hh, b, _⟩ := he
      have b : Bel (bl w.heap.size) w w' := by simpa using b
      refine ⟨?_, b.below⟩
      unfold isTrue at k
      split at k
      · rename_i s b hxb
        rw [asBool_rel r hxb, k]
      · exact k.elim
    | panicked c => exact he.elim
    | outgrown => exact he.elim
  · have hname : ¬ fn.name = "runtime.NumGoroutine" := by
      have hmem : fn ∈ P.funcs.toList := List.mem_of_getElem? (i := f) (by simpa using hf)
      have := List.all_eq_true.1 hg fn hmem
      simpa [bne] using this
    obtain ⟨c, hc⟩ := Option.isSome_iff_exists.1 hb
    simp [callFunc, hf, hc, hname] at hr

end
end Go.Sx
