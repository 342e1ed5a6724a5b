/-
  The calculus (SxA): what rows and objects say stands as long as cells stand as they are (other blocks may turn, new ones come).
-/
import Derived.Test.YthfgocpejlhanaaSxF
import Derived.RangeFuncNested
namespace Go.Sx
open Go.RowKit

/-- Cells are as they were, and maps, where draws are counted. -/
def KeptC (w w' : World) : Prop := w.heap.size ≤ w'.heap.size ∧ (∀ (b : Nat) cur ty fr, w.heap[b]? = some (Obj.cells cur ty fr) → w'.heap[b]? = some (Obj.cells cur ty fr)) ∧ (strict = true → ∀ (b : Nat) l c, w.heap[b]? = some (Obj.map l c) → w'.heap[b]? = some (Obj.map l c))

theorem BlkR.keptC {ρ : List Loc} {B : Gd} {w w' : World} {l : Loc} {k : Blk} (h : BlkR ρ B w l k) (hk : KeptC w w') : BlkR ρ B w' l k :=
  ⟨h.esz, let ⟨cur, ty, fr, h1, h2, h3⟩ := h.row; ⟨cur, ty, fr, hk.2.1 _ _ _ _ h1, h2, h3⟩⟩

theorem ObjR.keptC {ty : TypeId} {es : List AV} {b : Nat} {own : List Nat} {w w' : World} (h : ObjR ty es b own w) (hk : KeptC w w') : ObjR ty es b own w' := by
  induction h with
  | mk h ρ o hr hl hrow hobj hat _ hsep hown h0 ih =>
    exact .mk h ρ o hr hl (fun r k l a c => ⟨(hrow r k l a c).1, (hrow r k l a c).2.keptC hk⟩) hobj hat (fun r k l a c => ih r k l a c hk) hsep (fun r b' hb => ⟨(hown r b' hb).1, Nat.lt_of_lt_of_le (hown r b' hb).2 hk.1⟩) h0
  | raw m hm hR => exact .raw m hm ⟨hR.nd, fun x hx => let ⟨a, cur, c, d⟩ := hR.is x hx; ⟨a, cur, hk.2.1 _ _ _ _ c, d⟩, hR.hd⟩
  | ext h => exact .ext (ext_frame h hk.1 fun x hx => (ext_kind h x hx).elim (fun ⟨cur, t, fr, e⟩ => (hk.2.1 _ _ _ _ e).trans e.symm) fun ⟨hst, l, c, e⟩ => (hk.2.2 hst _ _ _ e).trans e.symm)
  | frz h1 h2 =>
    have hb := fun x hx => let ⟨cur, ty, fr, e⟩ := h2 x hx; (hk.2.1 _ _ _ _ e).trans e.symm
    exact .frz (fun e he => (h1 e he).frame hb) fun x hx => let ⟨cur, ty, fr, e⟩ := h2 x hx; ⟨cur, ty, fr, (hb x hx).trans e⟩

theorem HpR.keptC {B : Gd} {ρ : List Loc} {h : Hp} {w w' : World} (hH : HpR B ρ h w) (hk : KeptC w w') : HpR B ρ h w' :=
  ⟨hH.len, hH.base.trans (bl_mono hk.1), fun r k l a c => (hH.blk r k l a c).keptC hk, hH.sep, fun p hp => ⟨(hH.glob p hp).1, let ⟨ty, fr, e⟩ := (hH.glob p hp).2; ⟨ty, fr, hk.2.1 _ _ _ _ e⟩⟩,
    let ⟨o, hO⟩ := hH.objs
    ⟨o, fun r k l a c => by
      obtain ⟨h1, h2, h3, h4⟩ := hO.is r k l a c
      exact ⟨h1.keptC hk, fun b hb => Nat.lt_of_lt_of_le (h2 b hb) hk.1, h3, h4⟩, hO.row, hO.obj, hO.here⟩⟩

/-- With less to guard. -/
theorem HpR.guard {B B' : Gd} {ρ : List Loc} {h : Hp} {w : World} (hH : HpR B' ρ h w) (le : Gd.le B B') (hg : GlobOK B w) : HpR B ρ h w :=
  ⟨hH.len, le.trans hH.base, fun r k l a c => by
    obtain ⟨e, cur, ty, fr, h1, h2, h3⟩ := hH.blk r k l a c
    exact ⟨e, cur, ty, fr, h1, h2, fun hw => let ⟨a1, a2, a3, a4, a5, a6, a7⟩ := h3 hw; ⟨a1, a2, a3, a4, a5, fun hB => a6 (le _ hB), a7⟩⟩, hH.sep, hg,
    let ⟨o, hO⟩ := hH.objs
    ⟨o, fun r k l a c => by
      obtain ⟨h1, h2, h3, h4⟩ := hO.is r k l a c
      exact ⟨h1, h2, fun hw b hb hB => h3 hw b hb (le _ hB), h4⟩, hO.row, hO.obj, hO.here⟩⟩

theorem keptC_grown (hst : strict = false) {W W' : World} {row : Option Nat} (hg : W.grownBy W' row) (hr : ∀ r, row = some r → ∃ o : Obj, W.heap[r]? = some o ∧ o.isCells = false) : KeptC W W' :=
  ⟨hg.size, fun b cur ty fr h => (hg.block b (Array.getElem?_eq_some_iff.1 h).1 (fun e => by
    obtain ⟨o, h1, h2⟩ := hr b e.symm
    rw [h] at h1; cases h1; cases h2)).trans h, fun e => by rw [hst] at e; cases e⟩

/-- A block turns that is neither cells nor a map. -/
theorem keptC_other {W W' : World} {row : Option Nat} (hg : W.grownBy W' row) (hr : ∀ r, row = some r → ∃ o : Obj, W.heap[r]? = some o ∧ o.isCells = false ∧ ∀ l c, o ≠ Obj.map l c) : KeptC W W' :=
  ⟨hg.size, fun b cur ty fr h => (hg.block b (Array.getElem?_eq_some_iff.1 h).1 (fun e => by
    obtain ⟨o, h1, h2, _⟩ := hr b e.symm
    rw [h] at h1; cases h1; cases h2)).trans h, fun _ b l c h => (hg.block b (Array.getElem?_eq_some_iff.1 h).1 (fun e => by
    obtain ⟨o, h1, _, h2⟩ := hr b e.symm
    rw [h] at h1; exact h2 _ _ (Option.some.inj h1).symm)).trans h⟩

end Go.Sx
